/- Contract of wire's writer: deeds. -/
import Derived.Test.YtnhjebdlcbhkcadWrText
namespace Go.Proofs.Ytnhjebdlcbhkcad
open Go.RowKit

theorem encM_len {p : List (Int × Int)} {c : Int} (h : p.length ≤ 255) : (encM p c).length ≤ 600 := by
  have := eSteps_len p
  unfold encM e2
  simp only [List.length_append, List.length_cons, List.length_nil]
  omega

set_option maxRecDepth 100000 in
set_option maxHeartbeats 4000000 in
theorem wrDeed_ok (R base : Nat) (v : Value) (l : List Int) (d : Dd) (p q : Option Addr) (cp cq : Nat) (w0 w : World) (h : WrSt w R base v l) (hr : RoomD d) (hd : DdAt w0 d p q) (hb : Below w0.heap.size w0 w) (hR : w0.heap.size ≤ R) (hl : l.length ≤ 400000) :
    Calls Try.prog 98 #[.pointer (some ⟨R, 0, none⟩), ddV d p q cp cq] w fun e w' => e = .returned (.tuple #[]) ∧ (∃ v', WrSt w' R base v' (l ++ encD d)) ∧ KeptW R base w w' := by
  obtain ⟨kind, rp, rc, rt, mp, mc, many⟩ := d
  obtain ⟨h1, h2, h3, h4, h5⟩ := hd
  unfold ddV
  simp only at h1 h2 h3 h4 h5 ⊢
  have hA := h.alloc (Obj.cells #[.int .i64 kind, .slice p rp.length cp, .int .i64 rc, .string rt, .slice q mp.length cq, .int .i64 mc, .int .i64 many] 98)
  have hKA := (KeptW.refl R base w).alloc (Obj.cells #[.int .i64 kind, .slice p rp.length cp, .int .i64 rc, .string rt, .slice q mp.length cq, .int .i64 mc, .int .i64 many] 98)
  have hBA := Blk.new w #[.int .i64 kind, .slice p rp.length cp, .int .i64 rc, .string rt, .slice q mp.length cq, .int .i64 mc, .int .i64 many] 98
  have hZR : w.heap.size ≠ R := by have := h.lt; have := h.le; omega
  have hlt := h.lt
  have hk : 0 ≤ kind ∧ kind ≤ 255 := by rcases hr with ⟨e, _⟩ | ⟨e, _⟩ <;> (simp only at e; omega)
  clear h
  go_enter Try.func98, Try.ntmps98
  go_upto_region 1 with fail
  generalize w.alloc (Obj.cells #[.int .i64 kind, .slice p rp.length cp, .int .i64 rc, .string rt, .slice q mp.length cq, .int .i64 mc, .int .i64 many] 98) = W at *
  generalize w.heap.size = Z at *
  have H1 := hidE (wrOne_ok R base v l kind W hA hk.1 hk.2 (by omega))
  have c0 := hBA.is 0 rfl
  have HKA := hidE hKA
  have HBA := hidE hBA
  clear hA hKA hBA hk
  go_wp2_with fail
  refine H1.out.mono ?_
  rintro e w1 ⟨rfl, ⟨v1, hS⟩, hK⟩
  have hB1 := hK.blk HBA.out hZR (by decide)
  replace c0 := hB1.is 0 rfl
  have HB1 := hidE hB1
  have HK1 := hidE (HKA.out.trans hK)
  clear hK H1 HKA HBA hB1
  rcases hr with ⟨e1, e2, e3, e4, e5, e6⟩ | ⟨e1, e2, e3, e4, e5, e6, e7⟩
  · simp only at e1 e2 e3
    subst e1
    have HE : Hid (l ++ encD ⟨1, rp, rc, rt, mp, mc, many⟩ = ((l ++ [1]) ++ encM rp rc) ++ ((rt.size : Int) :: txtN rt)) := by show _ = _; simp [encD]
    have hlm := encM_len (c := rc) e2.len
    have hLL : ((l ++ [1]) ++ encM rp rc).length ≤ 800000 := by simp only [List.length_append, List.length_cons, List.length_nil]; omega
    have H2 := hidE (wrMark_ok R base v1 (l ++ [1]) p cp rp rc w0 w1 hS e2 h1 (HK1.out.low hb hR hlt) hR (by rw [List.length_append]; simp; omega))
    generalize (l ++ [1]) ++ encM rp rc = X at *
    clear hS e2 e4 e5 e6 hlm
    have c1 := HB1.out.is 1 rfl
    have c2 := HB1.out.is 2 rfl
    go_wp2_with fail
    refine H2.out.mono ?_
    rintro e w2 ⟨rfl, ⟨v2, hS⟩, hK⟩
    have hB2 := hK.blk HB1.out hZR (by decide)
    have c3 := hB2.is 3 rfl
    have HK2 := hidE (HK1.out.trans hK)
    have H3 := hidE (wrText_ok R base v2 X rt w2 hS e3 hLL)
    clear hS hK hB2 HB1 HK1 H2 c0 c1 c2
    go_wp2_with fail
    refine H3.out.mono ?_
    rintro e w3 ⟨rfl, ⟨v3, hS⟩, hK⟩
    have HS := hidE hS
    have HK3 := hidE (HK2.out.trans hK)
    clear hS hK H3 HK2
    go_wp2_with fail
    refine bodyPost_ret (results_none (by kernel_rfl) _ _ _) rfl ?_
    exact ⟨rfl, ⟨v3, by rw [HE.out]; exact HS.out⟩, HK3.out⟩
  · simp only at e1 e2 e3 e4
    subst e1
    have HE : Hid (l ++ encD ⟨2, rp, rc, rt, mp, mc, many⟩ = ((l ++ [2]) ++ encM mp mc) ++ [many]) := by show _ = _; simp [encD]
    have hlm := encM_len (c := mc) e2.len
    have hLL : ((l ++ [2]) ++ encM mp mc).length ≤ 800000 := by simp only [List.length_append, List.length_cons, List.length_nil]; omega
    have H2 := hidE (wrMark_ok R base v1 (l ++ [2]) q cq mp mc w0 w1 hS e2 h2 (HK1.out.low hb hR hlt) hR (by rw [List.length_append]; simp; omega))
    generalize (l ++ [2]) ++ encM mp mc = X at *
    clear hS e2 e5 e6 e7 hlm
    have c1 := HB1.out.is 4 rfl
    have c2 := HB1.out.is 5 rfl
    go_wp2_with fail
    refine H2.out.mono ?_
    rintro e w2 ⟨rfl, ⟨v2, hS⟩, hK⟩
    have hB2 := hK.blk HB1.out hZR (by decide)
    have c3 := hB2.is 6 rfl
    have HK2 := hidE (HK1.out.trans hK)
    have H3 := hidE (wrOne_ok R base v2 X many w2 hS e3 e4 (by omega))
    clear hS hK hB2 HB1 HK1 H2 c0 c1 c2
    go_wp2_with fail
    refine H3.out.mono ?_
    rintro e w3 ⟨rfl, ⟨v3, hS⟩, hK⟩
    have HS := hidE hS
    have HK3 := hidE (HK2.out.trans hK)
    clear hS hK H3 HK2
    go_wp2_with fail
    go_end0
    exact ⟨rfl, ⟨v3, by rw [HE.out]; exact HS.out⟩, HK3.out⟩
end Go.Proofs.Ytnhjebdlcbhkcad
