/- Contract of diff.Diff. -/
import Derived.Test.YtnhjebdlcbhkcadDWalk
import Derived.Test.YtnhjebdlcbhkcadCatE
import Derived.Test.YtnhjebdlcbhkcadPlainC
namespace Go.Proofs.Ytnhjebdlcbhkcad
open Go.RowKit

def diffE (a b : ByteArray) : Int := if 300 < a.size ∨ 300 < b.size then 2 else if allS a.data.toList = true ∧ allS b.data.toList = true then 0 else 3
def diffT (a b : ByteArray) : List (Nat × Nat) := (walkA a b 0 0).1.foldl tkR []
def diffP (a b : ByteArray) : List (Nat × List UInt8) := (walkA a b 0 0).2.foldl (ptB b) []
def diffL (a b : ByteArray) : List Ed := (diffT a b).map tkEd ++ ((diffP a b).map ptEd).reverse

theorem two_boxes (W : World) (o : Obj) (v : Value) (t : TypeId) (ho : o = .cells #[v] t) (W2 : World) (h : W2 = (W.alloc o).alloc o) : W2.cell? ⟨W.heap.size, 0, none⟩ = some v ∧ W2.cell? ⟨W.heap.size + 1, 0, none⟩ = some v ∧ W2.frozen? ⟨W.heap.size, 0, none⟩ = false ∧ W2.frozen? ⟨W.heap.size + 1, 0, none⟩ = false ∧ W2.heap.size = W.heap.size + 1 + 1 ∧ Below W.heap.size W W2 := by
  subst ho h
  have hs : (W.alloc (.cells #[v] t)).heap.size = W.heap.size + 1 := by simp
  refine ⟨?_, ?_, ?_, ?_, by simp, ((Below.refl _ _).alloc (Nat.le_refl _) _).alloc (by simp) _⟩
  · rw [World.cell?_alloc_old _ _ _ (by simp)]; simp
  · rw [← hs]; simp
  · exact (World.frozen?_alloc_old _ _ (a := ⟨W.heap.size, 0, none⟩) (by show W.heap.size ≠ _; omega)).trans (World.frozen?_alloc_new ..)
  · rw [← hs]; exact World.frozen?_alloc_new ..

theorem KeptD.toBelow {T1 T2 base base' : Nat} {w w' : World} (h : KeptD T1 T2 base w w') (hb : base' ≤ base) (h1 : base' ≤ T1) (h2 : base' ≤ T2) : Below base' w w' :=
  ⟨h.os, h.tape, h.output, h.size, fun k hk => h.block k (Nat.lt_of_lt_of_le hk hb) (by omega) (by omega)⟩

theorem OwnsE.weak {w : World} {base base' : Nat} {v : Value} {l : List Ed} (h : OwnsE w base v l) (hb : base' ≤ base) : OwnsE w base' v l := by
  refine ⟨h.1, ?_⟩
  rcases h.2 with h0 | ⟨g, cap, cur, e, hg, hr⟩
  · exact Or.inl h0
  · exact Or.inr ⟨g, cap, cur, e, Nat.le_trans hb hg, hr⟩

set_option maxRecDepth 100000 in
set_option maxHeartbeats 400000 in
theorem diff_ok (a b : ByteArray) (w : World) (ha : a.size ≤ 300) (hb : b.size ≤ 300) (hsa : allS a.data.toList = true) (hsb : allS b.data.toList = true) :
    Calls Try.prog 17 #[.string a, .string b] w fun e w' => ∃ v, e = .returned (.tuple #[v, .int .i64 0]) ∧ OwnsE w' w.heap.size v (diffL a b) ∧ Below w.heap.size w w' := by
  have h1 : ¬ ((a.size : Int) > 300) := by omega
  have h2 : ¬ ((b.size : Int) > 300) := by omega
  have HA := hidE hsa
  have HB := hidE hsb
  have hzc : (w.alloc (Obj.cells #[.string b] 9)).cell? ⟨w.heap.size, 0, none⟩ = some (.string b) := by simp
  have hB0 : Below w.heap.size w (w.alloc (Obj.cells #[.string b] 9)) := (Below.refl _ _).alloc (Nat.le_refl _) _
  have hs0 : (w.alloc (Obj.cells #[.string b] 9)).heap.size = w.heap.size + 1 := by simp
  clear hsa hsb
  go_enter Try.func17, Try.ntmps17
  go_upto_region 1 with fail
  generalize w.alloc (Obj.cells #[.string b] 9) = W at *
  go_upto_region 6 with (go_at_call 45; refine (signAll_any _ _ (by unfold maxLen; omega)).mono ?_; rintro e w' ⟨rfl, hw⟩; replace hw := hw.symm; subst hw; first | rw [HA.out] | rw [HB.out])
  have hTB := two_boxes W (Obj.cells #[.slice none 0 0] 37) (.slice none 0 0) 37 rfl _ rfl
  rw [hs0] at hTB
  generalize (W.alloc (Obj.cells #[.slice none 0 0] 37)).alloc (Obj.cells #[.slice none 0 0] 37) = W2 at *
  obtain ⟨b1, b2, g1, g2, hs2, hB2⟩ := hTB
  have hz2 : W2.cell? ⟨w.heap.size, 0, none⟩ = some (.string b) := (hB2.cell (p := ⟨w.heap.size, 0, none⟩) (by show w.heap.size < _; omega)).trans hzc
  have HWK := hidE (walk_ok a b (w.heap.size + 1) (w.heap.size + 1 + 1) w.heap.size W2 ha hb b1 b2 hz2 g1 g2 (by omega) (by omega) (by omega) (by omega) (by omega) (by omega))
  have HB2 := hidE (hB0.trans (⟨hB2.os, hB2.tape, hB2.output, hB2.size, fun k hk => hB2.block k (Nat.lt_succ_of_lt hk)⟩ : Below w.heap.size W W2))
  have HS2 := hidE hs2
  clear b1 b2 g1 g2 hs2 hs0 hB0 hB2 hzc
  go_upto_region 7 with (go_at_call 46; refine HWK.out.mono ?_; rintro e w2 ⟨rfl, ⟨w1, v, u, hge, hst, hsm⟩, hkd⟩)
  clear hz2 HWK
  have hk1 := hkd.toBelow (base' := w.heap.size) (by have := HS2.out; omega) (by omega) (by omega)
  have HB3 := hidE (HB2.out.trans hk1)
  clear hkd hk1 HB2
  have HD : Hid (diffL a b = (diffT a b).map tkEd ++ ((diffP a b).map ptEd).reverse) := hidE rfl
  have hlT : (diffT a b).length ≤ 1000 := Nat.le_trans hsm.tl (by omega)
  have hlP : (diffP a b).length ≤ 1000 := Nat.le_trans hsm.pl (by omega)
  change DiffSt w2 _ _ _ v u (diffT a b) (diffP a b) at hst
  obtain ⟨d1, d2, e1, e2, o1, o2, hne, l1, l2, l12, lw⟩ := hst
  clear hsm
  generalize diffT a b = RT at *
  generalize diffP a b = RP at *
  have hT : (RT.map tkEd).reverse.reverse = RT.map tkEd := List.reverse_reverse _
  have hlT' : (RT.map tkEd).reverse.length ≤ 1000 := by simpa using hlT
  have hlP' : (RP.map ptEd).reverse.length ≤ 1000 := by simpa using hlP
  rw [← hT] at HD
  clear hT hlT hlP
  generalize (RT.map tkEd).reverse = lT at *
  generalize (RP.map ptEd).reverse = lP at *
  obtain ⟨pv, cv, rfl⟩ := owns_sliceE o1
  obtain ⟨pu, cu, rfl⟩ := owns_sliceE o2
  have HRV := hidE (revE_any w1.heap.size pv cv lT w2 o1 hlT')
  have hp1 : ∀ k, k < w1.heap.size → pv.map Addr.block ≠ some k := fun k hk e => by
    cases pv with
    | none => cases e
    | some q =>
      have := (owns_ge o1 (g := q.block) rfl).1
      simp at e; omega
  have hEu : EdsAt w2 pu cu lP := o2.eds
  have hgu : pu.map Addr.block ≠ pv.map Addr.block ∨ pu = none := by
    cases pu with
    | none => exact Or.inr rfl
    | some q =>
      left; intro e
      cases pv with
      | none => cases e
      | some r => simp at e; exact hne r.block rfl (by simp [Value.ownBlock, e])
  clear hne o1 o2 e1 e2
  go_upto_region 8 with (go_at_call 51; refine HRV.out.mono ?_; rintro e w3 ⟨rfl, hE, q1, q2, q3, q4, q5, q6⟩)
  have d1' : w3.cell? ⟨w.heap.size + 1, 0, none⟩ = some (.slice pv lT.length cv) := (World.cell?_of_block (w := w2) (q5 _ (hp1 _ l1))).trans d1
  have d2' : w3.cell? ⟨w.heap.size + 1 + 1, 0, none⟩ = some (.slice pu lP.length cu) := (World.cell?_of_block (w := w2) (q5 _ (hp1 _ l2))).trans d2
  have hEu3 : EdsAt w3 pu cu lP := by
    rcases hEu with h | ⟨g, e, hg, hc⟩
    · exact Or.inl h
    · refine Or.inr ⟨g, e, by rw [q4]; exact hg, fun j u hj => (World.cell?_of_block (w := w2) (q5 g ?_)).trans (hc j u hj)⟩
      rcases hgu with h | h
      · rw [e] at h; exact fun e2 => h e2.symm
      · rw [h] at e; cases e
  have HB4 : Hid (Below w.heap.size w w3) := hidE (HB3.out.trans ⟨q1, q2, q3, Nat.le_of_eq q4.symm, fun k hk => q5 k (hp1 k (by omega))⟩)
  have hl3 : w.heap.size ≤ w3.heap.size := HB4.out.size
  have hlR : lT.reverse.length ≤ 1000 := by rw [List.length_reverse]; exact hlT'
  clear d1 d2 hEu hgu q1 q2 q3 q4 q5 q6 hp1 HB3 HRV
  rw [show lT.length = lT.reverse.length from (List.length_reverse).symm] at d1'
  generalize lT.reverse = lR at *
  go_wp2_with (go_at_call 52; refine (concatE_any _ cv cu pv pu lR lP _ hlR hlP' ?cc1 ?cc2 ?cc3 (hE.below ((Below.refl _ _).alloc (Nat.le_refl _) _)) (hEu3.below ((Below.refl _ _).alloc (Nat.le_refl _) _))).mono ?_)
  case cc1 => simp
  case cc2 => simp
  case cc3 => simp
  rintro e w5 ⟨v, rfl, hO, hB5⟩
  have HO := hidE (hO.weak (base' := w.heap.size) (by simp; omega))
  have HB6 : Hid (Below w.heap.size w w5) := hidE (HB4.out.trans (((Below.refl _ _).alloc hl3 _).trans (hB5.mono (by simp; omega))))
  clear hO hB5
  go_wp2_with fail
  go_ret2
  exact ⟨v, rfl, by rw [HD.out]; exact HO.out, HB6.out⟩
end Go.Proofs.Ytnhjebdlcbhkcad
