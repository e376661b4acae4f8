/- Contracts of the reference's bytesOf, twoBytes. -/
import Derived.Test.YtnhjebdlcbhkcadEncC
import Derived.Test.YtnhjebdlcbhkcadRdListA
import Derived.Test.YtnhjebdlcbhkcadIntsC
import Derived.Deep.RegionWith
namespace Go.Proofs.Ytnhjebdlcbhkcad
open Go.RowKit

theorem convert_own8 {w : World} {base : Nat} {v : Value} {l : List Int} (h : w.ownsRow base 5 1 v l.length (l.map (Value.int .u8))) : ∃ p cap, v = .slice p l.length cap ∧ ∀ dst, Try.prog.underlying dst = some .string → (convert 86 dst (.slice p l.length cap)).run Try.prog w = .ok (.string (strOfNums l)) w := by
  have h' := h
  rcases h.2 with ⟨rfl, h0⟩ | ⟨g, cap, cur, rfl, _⟩
  · have hl0 := List.length_eq_zero_iff.1 h0
    subst hl0
    exact ⟨none, 0, rfl, fun dst hd => run_convert_bytes_nil (P := Try.prog) w 86 5 Try.underlying86 Try.underlying5 0 0 dst hd⟩
  · refine ⟨some ⟨g, 0, none⟩, cap, rfl, fun dst hd => run_convert_bytes_arg (P := Try.prog) w 86 5 Try.underlying86 Try.underlying5 g 0 l.length cap l rfl (fun i hi => ?_) dst hd⟩
    rw [Nat.zero_add]
    refine (h'.cellAt i (by omega)).trans ?_
    rw [List.getElem?_map, List.getElem?_eq_getElem hi]
    simp [List.getD, hi]

set_option maxRecDepth 100000 in
set_option maxHeartbeats 2000000 in
theorem bytesOf_any (a : Option Addr) (cap : Nat) (l : List Int) (w : World) (h : IntsAt w a l) (hl : l.length ≤ 1000) (hr : ∀ x ∈ l, 0 ≤ x ∧ x ≤ 255) :
    Calls Try.prog 58 #[.slice a l.length cap] w fun e w' => e = .returned (.string (strOfNums l)) ∧ Below w.heap.size w w' := by
  obtain ⟨i0, hi0, hz0, hz1, hz2⟩ := info_u8b
  go_enter Try.func58, Try.ntmps58
  go_wp2_with fail
  go_loopw [3, 4] (fun vo vi wr => ∃ k : Nat, k ≤ l.length ∧ vi = .int .i64 k ∧ wr.ownsRow w.heap.size 5 1 vo (l.take k).length ((l.take k).map (Value.int .u8)) ∧ Below w.heap.size w wr) (fun _ vi _ => l.length - (intOf vi).toNat)
  case atStart => exact ⟨0, Nat.zero_le _, rfl, World.ownsRow_nil _ _ _ _, Below.refl _ _⟩
  case round =>
    obtain ⟨k, hk, rfl, hO, hb⟩ := hrel
    rcases Nat.lt_or_ge k l.length with hlt | hge
    · rcases h.below hb with hs | ⟨ab, ao, rfl, hab, hc⟩
      · simp [hs] at hlt
      have c0 := hc k hlt
      obtain ⟨x0, x1⟩ := hr l[k] (List.getElem_mem hlt)
      have HZ := hidE (List.take_succ_eq_append_getElem hlt)
      have hlen : (l.take k).length = k := by rw [List.length_take]; omega
      have hi1 : (k : Int) < (l.length : Int) := by omega
      clear hc h hr
      generalize l[k] = x at *
      rw [hlen] at hO
      have HLN := hidE hlen
      clear hlen
      generalize l.take k = xs at *
      have hwr : IntKind.u8.wrap x = x := by rw [IntKind.wrap_u8]; omega
      obtain ⟨p, c, rfl⟩ := owns_sl hO
      have hown1 := hO.alloc (Obj.cells #[.int .u8 x] 5)
      have hbA := hb.alloc hb.size (Obj.cells #[.int .u8 x] 5)
      go_wp2_with (at_builtin; refine wpList_append_own _ rfl _ _ 86 rfl w.heap.size 5 i0 (.int .u8 0) 1 1 Try.underlying86 hi0 hz0 hz1 hz2 rfl (by decide) _ _ _ rfl hown1 ⟨wr.heap.size, 0, none⟩ 1 1 [.int .u8 x] rfl rfl (by intro j u hj; rw [Addr.add_lit, World.cell?_alloc_new]; simpa using hj) (by intro u hu; rw [List.mem_singleton.1 hu]; rfl) (by unfold maxLen; omega) (by omega) (by have := hb.size; simp; omega) ?_)
      intro v' w5 hown5 hgrow _
      obtain ⟨p', c', rfl⟩ := owns_sl hown5
      have HB5 := hidE (hbA.grown hgrow hbA.size (fun j hj => (hO.lt j hj).1))
      have HO5 : Hid (w5.ownsRow w.heap.size 5 1 (.slice p' (k + 1) c') (l.take (k + 1)).length ((l.take (k + 1)).map (Value.int .u8))) := by
        show World.ownsRow _ _ _ _ _ _ _
        rw [HZ.out, List.length_append, List.map_append, HLN.out]
        exact hown5
      clear hown5 hgrow hown1 hO hbA
      go_wp2_with fail
      go_roundw
      case rel => exact ⟨k + 1, hlt, by go_num, HO5.out, HB5.out⟩
      case measure => simp [intOf]; omega
    · have hkl : k = l.length := by omega
      subst hkl
      rw [List.take_length] at hO
      obtain ⟨p, c, rfl, hcv⟩ := convert_own8 hO
      have hcv2 := hcv 9 Try.underlying9
      have hi1 : ¬ ((l.length : Int) < (l.length : Int)) := by omega
      clear hcv hO h hr
      generalize hT : strOfNums l = t at *
      have HT := hidE hT
      clear hT
      generalize l.length = ln at *
      go_wp2_with fail
      go_ret
      exact ⟨by rw [HT.out]; rfl, hb⟩

theorem ints1_new (w : World) (x : Int) : IntsAt (w.alloc (.cells #[.int .i64 x] 3)) (some ⟨w.heap.size, 0, none⟩) [x] := by
  refine Or.inr ⟨w.heap.size, 0, rfl, by simp, fun i hi => ?_⟩
  have hi0 : i = 0 := by simp at hi; omega
  subst hi0
  simp
theorem ints2_new (w : World) (x y : Int) : IntsAt (w.alloc (.cells #[.int .i64 x, .int .i64 y] 3)) (some ⟨w.heap.size, 0, none⟩) [x, y] := by
  refine Or.inr ⟨w.heap.size, 0, rfl, by simp, fun i hi => ?_⟩
  have hi2 : i < 2 := hi
  rcases (show i = 0 ∨ i = 1 by omega) with rfl | rfl <;> simp

/-- of one number, just made -/
theorem bytesOf_one (w : World) (x : Int) (h0 : 0 ≤ x) (h1 : x ≤ 255) :
    Calls Try.prog 58 #[.slice (some ⟨w.heap.size, 0, none⟩) 1 1] (w.alloc (.cells #[.int .i64 x] 3)) fun e w' => e = .returned (.string (strOfNums [x])) ∧ Below w.heap.size w w' :=
  (bytesOf_any _ 1 [x] _ (ints1_new w x) (by simp) (fun y hy => by rw [List.mem_singleton.1 hy]; exact ⟨h0, h1⟩)).mono fun _ _ ⟨e, hb⟩ => ⟨e, (alloc_below w _).trans (hb.mono (alloc_below w _).size)⟩
theorem bytesOf_two (w : World) (x y : Int) (h0 : 0 ≤ x) (h1 : x ≤ 255) (g0 : 0 ≤ y) (g1 : y ≤ 255) :
    Calls Try.prog 58 #[.slice (some ⟨w.heap.size, 0, none⟩) 2 2] (w.alloc (.cells #[.int .i64 x, .int .i64 y] 3)) fun e w' => e = .returned (.string (strOfNums [x, y])) ∧ Below w.heap.size w w' :=
  (bytesOf_any _ 2 [x, y] _ (ints2_new w x y) (by simp) (fun z hz => by rcases List.mem_cons.1 hz with rfl | hz; exact ⟨h0, h1⟩; rw [List.mem_singleton.1 hz]; exact ⟨g0, g1⟩)).mono fun _ _ ⟨e, hb⟩ => ⟨e, (alloc_below w _).trans (hb.mono (alloc_below w _).size)⟩

set_option maxRecDepth 100000 in
set_option maxHeartbeats 1000000 in
theorem twoBytes_any (x : Int) (w : World) (h0 : 0 ≤ x) (h1 : x ≤ 65535) :
    Calls Try.prog 59 #[.int .i64 x] w fun e w' => e = .returned (.string (strOfNums (e2 x))) ∧ Below w.heap.size w w' := by
  have hm : x.tmod 256 = x % 256 := Int.tmod_eq_emod_of_nonneg h0
  have hd : x.tdiv 256 = x / 256 := Int.tdiv_eq_ediv_of_nonneg h0
  have hw1 : IntKind.i64.wrap (x % 256) = x % 256 := by rw [IntKind.wrap_i64] <;> omega
  have hw2 : IntKind.i64.wrap (x / 256) = x / 256 := by rw [IntKind.wrap_i64] <;> omega
  have H1 := hidE (bytesOf_two w (x % 256) (x / 256) (by omega) (by omega) (by omega) (by omega))
  unfold e2
  generalize x % 256 = a at *
  generalize x / 256 = b at *
  generalize strOfNums [a, b] = t at *
  go_enter Try.func59, Try.ntmps59
  go_wp2_with (go_at_call 58; refine H1.out.mono ?_; rintro e w1 ⟨rfl, hb⟩)
  go_ret
  exact ⟨rfl, hb⟩
end Go.Proofs.Ytnhjebdlcbhkcad

namespace Go.Proofs.Ytnhjebdlcbhkcad
open Go.RowKit

theorem str_append (l m : List Int) : strOfNums l ++ strOfNums m = strOfNums (l ++ m) := by
  apply ByteArray.ext
  simp [strOfNums, ByteArray.data_append]

set_option maxRecDepth 100000 in
set_option maxHeartbeats 4000000 in
theorem markBytes_any (a : Option Addr) (cap : Nat) (p : List (Int × Int)) (c : Int) (w : World) (h : StepsAt w a p) (hm : RoomM p c) :
    Calls Try.prog 60 #[.agg #[.slice a p.length cap, .int .i64 c]] w fun e w' => e = .returned (.string (strOfNums (encM p c))) ∧ Below w.heap.size w w' := by
  obtain ⟨r1, r2, r3, r4⟩ := hm
  have hA := alloc_below w (Obj.cells #[.slice a p.length cap, .int .i64 c] 29)
  have hX := Blk.new w #[.slice a p.length cap, .int .i64 c] 29
  go_enter Try.func60, Try.ntmps60
  go_upto_region 1 with fail
  generalize w.alloc (Obj.cells #[.slice a p.length cap, .int .i64 c] 29) = W at *
  have x0 := hX.is 0 rfl
  have H1 := hidE (bytesOf_one W (p.length : Int) (by omega) (by omega))
  have HX := hidE hX
  have HA := hidE hA
  have hlt := hX.lt
  clear hX hA
  go_wp2_with (go_at_call 58; refine H1.out.mono ?_; rintro e w1 ⟨rfl, hb⟩)
  have hX1 := HX.out.below hb hlt
  have HB1 := hidE (HA.out.trans (hb.mono HA.out.size))
  have HX1 := hidE hX1
  clear hb hX1 x0 HX HA H1
  go_loopw [3, 4] (fun vs vi wr => ∃ k : Nat, k ≤ p.length ∧ vi = .int .i64 k ∧ vs = .string (strOfNums ((p.length : Int) :: eSteps (p.take k))) ∧ Blk wr w.heap.size #[.slice a p.length cap, .int .i64 c] 29 ∧ Below w.heap.size w wr) (fun _ vi _ => p.length - (intOf vi).toNat)
  case atStart => exact ⟨0, Nat.zero_le _, rfl, rfl, HX1.out, HB1.out⟩
  case round =>
    clear HX1 HB1
    obtain ⟨k, hk, rfl, rfl, hX, hb⟩ := hrel
    have x0 := hX.is 0 rfl
    have x1 := hX.is 1 rfl
    have hlen : (strOfNums ((p.length : Int) :: eSteps (p.take k))).size = 1 + 2 * k := by
      have e1 := eSteps_len (p.take k)
      rw [List.length_take] at e1
      rw [strOfNums_size, List.length_cons, e1]
      omega
    rcases Nat.lt_or_ge k p.length with hlk | hge
    · rcases h.below hb (Nat.le_refl _) with hz | ⟨ab, ao, rfl, hab, hc⟩
      · simp [hz] at hlk
      obtain ⟨s0, s1⟩ := hc k hlk
      obtain ⟨m1, m2, m3, m4⟩ := r2 p[k] (List.getElem_mem hlk)
      have hi1 : (k : Int) < (p.length : Int) := by omega
      have HE : Hid (strOfNums ((p.length : Int) :: eSteps (p.take (k + 1))) = strOfNums ((p.length : Int) :: eSteps (p.take k)) ++ strOfNums [p[k].1, p[k].2]) := by
        show _ = _
        rw [eSteps_take hlk, str_append, List.cons_append]
      clear hc h
      generalize strOfNums ((p.length : Int) :: eSteps (p.take k)) = t at *
      generalize p[k] = st at *
      obtain ⟨d, y⟩ := st
      simp only at *
      have H5 := hidE (bytesOf_two wr.drew d y m1 m2 m3 m4)
      have hsz2 : (strOfNums [d, y]).size = 2 := by rw [strOfNums_size]; rfl
      generalize strOfNums [d, y] = t2 at *
      have HX := hidE hX
      have HB := hidE hb
      have hlt := hX.lt
      clear hX hb
      go_upto_region 5 with fail
      replace x0 : wr.drew.cell? ⟨w.heap.size, 0, none⟩ = some (.slice (some ⟨ab, ao, none⟩) p.length cap) := x0
      replace s0 : wr.drew.cell? ⟨ab, ao + k * 2, none⟩ = some (.int .i64 d) := s0
      replace s1 : wr.drew.cell? ⟨ab, ao + k * 2 + 1, none⟩ = some (.int .i64 y) := s1
      go_region_with (go_at_call 58; refine H5.out.mono ?_; rintro e w5 ⟨rfl, hb⟩)
      all_goals
        have HX5 := hidE (HX.out.drew.below hb hlt)
        have HB5 := hidE (HB.out.drew.trans (hb.mono HB.out.drew.size))
        go_wp2_with fail
        go_roundw
        case rel => exact ⟨k + 1, hlk, by go_num, by rw [HE.out], HX5.out, HB5.out⟩
        case measure => simp [intOf]; omega
    · have hkl : k = p.length := by omega
      subst hkl
      have HF : Hid (strOfNums (encM p c) = strOfNums ((p.length : Int) :: eSteps p) ++ strOfNums (e2 c)) := by
        show _ = _
        rw [str_append]; rfl
      rw [List.take_length] at hlen ⊢
      generalize strOfNums ((p.length : Int) :: eSteps p) = t at *
      have H6 := hidE (twoBytes_any c wr r3 r4)
      have hsz2 : (strOfNums (e2 c)).size = 2 := by rw [strOfNums_size]; rfl
      generalize strOfNums (e2 c) = t2 at *
      have hi1 : ¬ ((p.length : Int) < (p.length : Int)) := by omega
      have HB := hidE hb
      clear hX hb h
      generalize p.length = pn at *
      go_wp2_with (go_at_call 59; refine H6.out.mono ?_; rintro e w7 ⟨rfl, hb⟩)
      go_ret
      exact ⟨by rw [HF.out]; rfl, HB.out.trans (hb.mono HB.out.size)⟩
end Go.Proofs.Ytnhjebdlcbhkcad
