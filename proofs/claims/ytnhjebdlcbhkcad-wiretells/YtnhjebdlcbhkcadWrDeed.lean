/- Contract of wire's writer: texts. -/
import Derived.Test.YtnhjebdlcbhkcadWrMark
namespace Go.Proofs.Ytnhjebdlcbhkcad
open Go.RowKit

theorem txtN_length (t : ByteArray) : (txtN t).length = t.size := by unfold txtN; simp
theorem txtN_take {t : ByteArray} {k : Nat} (h : k < t.size) : (txtN t).take (k + 1) = (txtN t).take k ++ [(t[k].toNat : Int)] := by
  rw [List.take_succ_eq_append_getElem (by rw [txtN_length]; exact h)]
  congr 2
  simp [txtN]
  rfl

set_option maxRecDepth 100000 in
set_option maxHeartbeats 1000000 in
theorem wrText1_ok (R base Z : Nat) (v : Value) (l : List Int) (i x : Int) (w : World) (h : WrSt w R base v l) (hz : Blk w Z #[.pointer (some ⟨R, 0, none⟩)] 130) (h0 : 0 ≤ x) (h1 : x ≤ 255) (hl : l.length ≤ 1000000) :
    Calls Try.prog 136 #[.int .i64 i, .int .u8 x, .pointer (some ⟨Z, 0, none⟩)] w fun e w' => e = .returned (.tuple #[]) ∧ (∃ v', WrSt w' R base v' (l ++ [x])) ∧ KeptW R base w w' := by
  have H1 := hidE (wrOne_ok R base v l x w h h0 h1 hl)
  have hwr : IntKind.i64.wrap x = x := by rw [IntKind.wrap_i64] <;> omega
  have c0 := hz.is 0 rfl
  clear h hz
  go_enter Try.func136, Try.ntmps136
  go_wp2_with fail
  refine H1.out.mono ?_
  rintro e w1 ⟨rfl, ⟨v1, hS⟩, hK⟩
  have HS := hidE hS
  have HK := hidE hK
  clear hS hK H1
  go_wp2_with fail
  go_end0
  exact ⟨rfl, ⟨_, HS.out⟩, HK.out⟩

set_option maxRecDepth 100000 in
set_option maxHeartbeats 2000000 in
theorem wrEach_ok (R base Z : Nat) (v : Value) (l : List Int) (t : ByteArray) (w : World) (h : WrSt w R base v l) (hz : Blk w Z #[.pointer (some ⟨R, 0, none⟩)] 130) (hZR : Z ≠ R) (ht : t.size ≤ 300) (hl : l.length ≤ 900000) :
    Calls Try.prog 135 #[.string t, .func (.func 136) #[] #[.pointer (some ⟨Z, 0, none⟩)]] w fun e w' => e = .returned (.tuple #[]) ∧ (∃ v', WrSt w' R base v' (l ++ txtN t)) ∧ KeptW R base w w' := by
  have HS := hidE h
  have HZ := hidE hz
  clear h hz
  go_enter Try.func135, Try.ntmps135
  go_wp2_with fail
  go_loopw [7] (fun i wr => ∃ k : Nat, k ≤ t.size ∧ i = .int .i64 k ∧ (∃ v', WrSt wr R base v' (l ++ (txtN t).take k)) ∧ KeptW R base w wr ∧ Blk wr Z #[.pointer (some ⟨R, 0, none⟩)] 130) (fun i _ => t.size - (intOf i).toNat)
  case atStart => exact ⟨0, Nat.zero_le _, rfl, ⟨v, by simpa using HS.out⟩, KeptW.refl _ _ _, HZ.out⟩
  case round =>
    clear HS HZ
    obtain ⟨k, hk, rfl, ⟨v2, hS⟩, hK, hz⟩ := hrel
    rcases Nat.lt_or_ge k t.size with hlt | hge
    · have hi1 : (k : Int) < (t.size : Int) := by omega
      have HE := hidE (txtN_take hlt)
      have hlen : (l ++ (txtN t).take k).length ≤ 1000000 := by
        have e1 := txtN_length t
        rw [List.length_append, List.length_take]; omega
      have hr := u8_range t[k]
      have H1 := hidE (wrText1_ok R base Z v2 (l ++ (txtN t).take k) (k : Int) t[k].toNat wr hS hz hr.1 hr.2 hlen)
      have HK := hidE hK
      have HZ := hidE hz
      clear hS hK hz hr hlen
      go_wp2_with fail
      refine H1.out.mono ?_
      rintro e w1 ⟨rfl, ⟨v3, hS⟩, hK⟩
      have HS1 := hidE hS
      have HK1 := hidE (HK.out.trans hK)
      have HZ1 := hidE (hK.blk HZ.out hZR (by decide))
      clear hS hK H1 HK HZ
      go_wp2_with fail
      go_roundw
      case rel => exact ⟨k + 1, hlt, by go_num, ⟨v3, by rw [HE.out, ← List.append_assoc]; exact HS1.out⟩, HK1.out, HZ1.out⟩
      case measure => simp [intOf]; omega
    · have hkl : k = t.size := by omega
      subst hkl
      rw [List.take_of_length_le (by rw [txtN_length]; exact Nat.le_refl _)] at hS
      have hi1 : ¬ ((t.size : Int) < (t.size : Int)) := by omega
      have HS := hidE hS
      have HK := hidE hK
      clear hS hK hz
      go_wp2_with fail
      go_end0
      exact ⟨rfl, ⟨v2, HS.out⟩, HK.out⟩

set_option maxRecDepth 100000 in
set_option maxHeartbeats 1000000 in
theorem wrText_ok (R base : Nat) (v : Value) (l : List Int) (t : ByteArray) (w : World) (h : WrSt w R base v l) (ht : t.size ≤ 255) (hl : l.length ≤ 800000) :
    Calls Try.prog 124 #[.pointer (some ⟨R, 0, none⟩), .string t] w fun e w' => e = .returned (.tuple #[]) ∧ (∃ v', WrSt w' R base v' (l ++ ((t.size : Int) :: txtN t))) ∧ KeptW R base w w' := by
  have hA := h.alloc (Obj.cells #[.pointer (some ⟨R, 0, none⟩)] 130)
  have hKA := (KeptW.refl R base w).alloc (Obj.cells #[.pointer (some ⟨R, 0, none⟩)] 130)
  have hBA := Blk.new w #[.pointer (some ⟨R, 0, none⟩)] 130
  have hZR : w.heap.size ≠ R := by have := h.lt; have := h.le; omega
  have HE : Hid (l ++ ((t.size : Int) :: txtN t) = (l ++ [(t.size : Int)]) ++ txtN t) := by show _ = _; simp
  clear h
  go_enter Try.func124, Try.ntmps124
  go_upto_region 1 with fail
  generalize w.alloc (Obj.cells #[.pointer (some ⟨R, 0, none⟩)] 130) = W at *
  generalize w.heap.size = Z at *
  have H1 := hidE (wrOne_ok R base v l (t.size : Int) W hA (by omega) (by omega) (by omega))
  have c0 := hBA.is 0 rfl
  have HKA := hidE hKA
  have HBA := hidE hBA
  clear hA hKA hBA
  go_wp2_with fail
  refine H1.out.mono ?_
  rintro e w1 ⟨rfl, ⟨v1, hS⟩, hK⟩
  have H2 := hidE (wrEach_ok R base Z v1 (l ++ [(t.size : Int)]) t w1 hS (hK.blk HBA.out hZR (by decide)) hZR (by omega) (by rw [List.length_append]; simp; omega))
  have HK1 := hidE (HKA.out.trans hK)
  clear hS hK H1 HKA HBA c0
  go_wp2_with fail
  refine H2.out.mono ?_
  rintro e w2 ⟨rfl, ⟨v2, hS⟩, hK⟩
  have HS := hidE hS
  have HK2 := hidE (HK1.out.trans hK)
  clear hS hK H2 HK1
  go_wp2_with fail
  go_end0
  exact ⟨rfl, ⟨v2, by rw [HE.out]; exact HS.out⟩, HK2.out⟩
end Go.Proofs.Ytnhjebdlcbhkcad

namespace Go.Proofs.Ytnhjebdlcbhkcad
open Go.RowKit

theorem encM_len {p : List (Int × Int)} {c : Int} (h : p.length ≤ 255) : (encM p c).length ≤ 600 := by
  have := eSteps_len p
  unfold encM e2
  simp only [List.length_append, List.length_cons, List.length_nil]
  omega

set_option maxRecDepth 100000 in
set_option maxHeartbeats 4000000 in
theorem wrDeed_ok (R base : Nat) (v : Value) (l : List Int) (d : Dd) (p q : Option Addr) (cp cq : Nat) (w0 w : World) (h : WrSt w R base v l) (hr : RoomD d) (hd : DdAt w0 d p q) (hb : Below w0.heap.size w0 w) (hR : w0.heap.size ≤ R) (hl : l.length ≤ 400000) :
    Calls Try.prog 98 #[.pointer (some ⟨R, 0, none⟩), ddV d p q cp cq] w fun e w' => e = .returned (.tuple #[]) ∧ (∃ v', WrSt w' R base v' (l ++ encD d)) ∧ KeptW R base w w' := by
  obtain ⟨kind, rp, rc, rt, mp, mc, many⟩ := d
  obtain ⟨h1, h2, h3, h4, h5⟩ := hd
  unfold ddV
  simp only at h1 h2 h3 h4 h5 ⊢
  have hA := h.alloc (Obj.cells #[.int .i64 kind, .slice p rp.length cp, .int .i64 rc, .string rt, .slice q mp.length cq, .int .i64 mc, .int .i64 many] 98)
  have hKA := (KeptW.refl R base w).alloc (Obj.cells #[.int .i64 kind, .slice p rp.length cp, .int .i64 rc, .string rt, .slice q mp.length cq, .int .i64 mc, .int .i64 many] 98)
  have hBA := Blk.new w #[.int .i64 kind, .slice p rp.length cp, .int .i64 rc, .string rt, .slice q mp.length cq, .int .i64 mc, .int .i64 many] 98
  have hZR : w.heap.size ≠ R := by have := h.lt; have := h.le; omega
  have hlt := h.lt
  have hk : 0 ≤ kind ∧ kind ≤ 255 := by rcases hr with ⟨e, _⟩ | ⟨e, _⟩ <;> (simp only at e; omega)
  clear h
  go_enter Try.func98, Try.ntmps98
  go_upto_region 1 with fail
  generalize w.alloc (Obj.cells #[.int .i64 kind, .slice p rp.length cp, .int .i64 rc, .string rt, .slice q mp.length cq, .int .i64 mc, .int .i64 many] 98) = W at *
  generalize w.heap.size = Z at *
  have H1 := hidE (wrOne_ok R base v l kind W hA hk.1 hk.2 (by omega))
  have c0 := hBA.is 0 rfl
  have HKA := hidE hKA
  have HBA := hidE hBA
  clear hA hKA hBA hk
  go_wp2_with fail
  refine H1.out.mono ?_
  rintro e w1 ⟨rfl, ⟨v1, hS⟩, hK⟩
  have hB1 := hK.blk HBA.out hZR (by decide)
  replace c0 := hB1.is 0 rfl
  have HB1 := hidE hB1
  have HK1 := hidE (HKA.out.trans hK)
  clear hK H1 HKA HBA hB1
  rcases hr with ⟨e1, e2, e3, e4, e5, e6⟩ | ⟨e1, e2, e3, e4, e5, e6, e7⟩
  · simp only at e1 e2 e3
    subst e1
    have HE : Hid (l ++ encD ⟨1, rp, rc, rt, mp, mc, many⟩ = ((l ++ [1]) ++ encM rp rc) ++ ((rt.size : Int) :: txtN rt)) := by show _ = _; simp [encD]
    have hlm := encM_len (c := rc) e2.len
    have hLL : ((l ++ [1]) ++ encM rp rc).length ≤ 800000 := by simp only [List.length_append, List.length_cons, List.length_nil]; omega
    have H2 := hidE (wrMark_ok R base v1 (l ++ [1]) p cp rp rc w0 w1 hS e2 h1 (HK1.out.low hb hR hlt) hR (by rw [List.length_append]; simp; omega))
    generalize (l ++ [1]) ++ encM rp rc = X at *
    clear hS e2 e4 e5 e6 hlm
    have c1 := HB1.out.is 1 rfl
    have c2 := HB1.out.is 2 rfl
    go_wp2_with fail
    refine H2.out.mono ?_
    rintro e w2 ⟨rfl, ⟨v2, hS⟩, hK⟩
    have hB2 := hK.blk HB1.out hZR (by decide)
    have c3 := hB2.is 3 rfl
    have HK2 := hidE (HK1.out.trans hK)
    have H3 := hidE (wrText_ok R base v2 X rt w2 hS e3 hLL)
    clear hS hK hB2 HB1 HK1 H2 c0 c1 c2
    go_wp2_with fail
    refine H3.out.mono ?_
    rintro e w3 ⟨rfl, ⟨v3, hS⟩, hK⟩
    have HS := hidE hS
    have HK3 := hidE (HK2.out.trans hK)
    clear hS hK H3 HK2
    go_wp2_with fail
    refine bodyPost_ret (results_none (by kernel_rfl) _ _ _) rfl ?_
    exact ⟨rfl, ⟨v3, by rw [HE.out]; exact HS.out⟩, HK3.out⟩
  · simp only at e1 e2 e3 e4
    subst e1
    have HE : Hid (l ++ encD ⟨2, rp, rc, rt, mp, mc, many⟩ = ((l ++ [2]) ++ encM mp mc) ++ [many]) := by show _ = _; simp [encD]
    have hlm := encM_len (c := mc) e2.len
    have hLL : ((l ++ [2]) ++ encM mp mc).length ≤ 800000 := by simp only [List.length_append, List.length_cons, List.length_nil]; omega
    have H2 := hidE (wrMark_ok R base v1 (l ++ [2]) q cq mp mc w0 w1 hS e2 h2 (HK1.out.low hb hR hlt) hR (by rw [List.length_append]; simp; omega))
    generalize (l ++ [2]) ++ encM mp mc = X at *
    clear hS e2 e5 e6 e7 hlm
    have c1 := HB1.out.is 4 rfl
    have c2 := HB1.out.is 5 rfl
    go_wp2_with fail
    refine H2.out.mono ?_
    rintro e w2 ⟨rfl, ⟨v2, hS⟩, hK⟩
    have hB2 := hK.blk HB1.out hZR (by decide)
    have c3 := hB2.is 6 rfl
    have HK2 := hidE (HK1.out.trans hK)
    have H3 := hidE (wrOne_ok R base v2 X many w2 hS e3 e4 (by omega))
    clear hS hK hB2 HB1 HK1 H2 c0 c1 c2
    go_wp2_with fail
    refine H3.out.mono ?_
    rintro e w3 ⟨rfl, ⟨v3, hS⟩, hK⟩
    have HS := hidE hS
    have HK3 := hidE (HK2.out.trans hK)
    clear hS hK H3 HK2
    go_wp2_with fail
    go_end0
    exact ⟨rfl, ⟨v3, by rw [HE.out]; exact HS.out⟩, HK3.out⟩
end Go.Proofs.Ytnhjebdlcbhkcad
