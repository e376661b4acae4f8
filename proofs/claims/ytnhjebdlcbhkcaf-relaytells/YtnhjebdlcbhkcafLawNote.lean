/- The law's note: the first one of site 0, that puts a text of two signs. -/
import Derived.Test.YtnhjebdlcbhkcafLawPut
import Derived.Test.YtnhjebdlcbhkcafNoteC
import Derived.Deep.RegionWith
namespace Go.Proofs.Ytnhjebdlcbhkcaf
open Go.RowKit

def nHi : Nt := ⟨0, 1, [0, 0, 0, 0, 0], [dPut hiS]⟩
theorem chk_nHi : chkN nHi = 0 := by decide

theorem mk5 (w : World) : (Instr.makeSlice 25 (.int .i64 5) (.int .i64 5)).run Try.prog w = .ok (.slice (some ⟨w.heap.size, 0, none⟩) 5 5) (w.alloc (.cells #[.int .i64 0, .int .i64 0, .int .i64 0, .int .i64 0, .int .i64 0] 3)) := by kernel_rfl

theorem lawPut_hi (w : World) : Calls Try.prog 32 #[.string ⟨#[104, 105]⟩] w fun e w' => ∃ g, e = .returned (.agg #[.int .i64 1, .slice (some ⟨g, 0, none⟩) 1 1, .int .i64 1, .string ⟨#[104, 105]⟩, .slice none 0 0, .int .i64 0, .int .i64 0]) ∧ DdAt w' (dPut hiS) (some ⟨g, 0, none⟩) none ∧ Below w.heap.size w w' :=
  (lawPut_any hiS w (by decide)).mono fun _ _ h => h

theorem set4 {w : World} {b : Nat} {T : TypeId} {u0 u1 u2 u3 v0 v1 v2 v3 : Value} (h : w.heap[b]? = some (Obj.cells #[u0, u1, u2, u3] T)) :
    ((((w.setCell ⟨b, 0, none⟩ v0).setCell ⟨b, 1, none⟩ v1).setCell ⟨b, 2, none⟩ v2).setCell ⟨b, 3, none⟩ v3).heap[b]? = some (Obj.cells #[v0, v1, v2, v3] T) := by
  simp [World.setCell, Array.getElem?_modify, h]

/-- five zeros at a block's beginning -/
theorem ints5_at {w : World} {b : Nat} (h : w.heap[b]? = some (Obj.cells #[.int .i64 0, .int .i64 0, .int .i64 0, .int .i64 0, .int .i64 0] 3)) : IntsAt w (some ⟨b, 0, none⟩) [0, 0, 0, 0, 0] := by
  have hlt : b < w.heap.size := by
    rcases Nat.lt_or_ge b w.heap.size with h' | h'
    · exact h'
    · rw [Array.getElem?_eq_none h'] at h; cases h
  refine Or.inr ⟨b, 0, rfl, hlt, fun i hi => ?_⟩
  have hi5 : i < 5 := hi
  rcases (show i = 0 ∨ i = 1 ∨ i = 2 ∨ i = 3 ∨ i = 4 by omega) with rfl | rfl | rfl | rfl | rfl <;> simp [World.cell?, h]
theorem deeds1_at {w : World} {b g : Nat} (h : w.heap[b]? = some (Obj.cells #[.int .i64 1, .slice (some ⟨g, 0, none⟩) 1 1, .int .i64 1, .string ⟨#[104, 105]⟩, .slice none 0 0, .int .i64 0, .int .i64 0] 54)) (hD : DdAt w (dPut hiS) (some ⟨g, 0, none⟩) none) : DeedsAt w (some ⟨b, 0, none⟩) [dPut hiS] := by
  have hlt : b < w.heap.size := by
    rcases Nat.lt_or_ge b w.heap.size with h' | h'
    · exact h'
    · rw [Array.getElem?_eq_none h'] at h; cases h
  refine Or.inr ⟨b, 0, rfl, hlt, fun i hi => ?_⟩
  have hi0 : i = 0 := by simp at hi; omega
  subst hi0
  exact ⟨some ⟨g, 0, none⟩, 1, none, 0, by simp [World.cell?, h, dPut], by simp [World.cell?, h, dPut], by simp [World.cell?, h, dPut], by simp [World.cell?, h, dPut, hiS], by simp [World.cell?, h, dPut], by simp [World.cell?, h, dPut], by simp [World.cell?, h, dPut], hD, by simp [dPut], by simp [dPut]⟩

/-- what a note's box and lists are at the end -/
theorem note_end {w X : World} {Z g i d : Nat} (hZ : X.heap[Z]? = some (Obj.cells #[.int .i64 0, .int .i64 1, .slice (some ⟨i, 0, none⟩) 5 5, .slice (some ⟨d, 0, none⟩) 1 1] 28))
    (hi : X.heap[i]? = some (Obj.cells #[.int .i64 0, .int .i64 0, .int .i64 0, .int .i64 0, .int .i64 0] 3)) (hd : X.heap[d]? = some (Obj.cells #[.int .i64 1, .slice (some ⟨g, 0, none⟩) 1 1, .int .i64 1, .string ⟨#[104, 105]⟩, .slice none 0 0, .int .i64 0, .int .i64 0] 54)) (hD : DdAt X (dPut hiS) (some ⟨g, 0, none⟩) none) (hb : Below w.heap.size w X) :
    X.cell? ⟨Z, 0, none⟩ = some (.int .i64 0) ∧ X.cell? ⟨Z, 1, none⟩ = some (.int .i64 1) ∧ X.cell? ⟨Z, 2, none⟩ = some (.slice (some ⟨i, 0, none⟩) 5 5) ∧ X.cell? ⟨Z, 3, none⟩ = some (.slice (some ⟨d, 0, none⟩) 1 1) ∧ NtAt X nHi (some ⟨i, 0, none⟩) (some ⟨d, 0, none⟩) ∧ Below w.heap.size w X :=
  ⟨by simp [World.cell?, hZ], by simp [World.cell?, hZ], by simp [World.cell?, hZ], by simp [World.cell?, hZ], ⟨ints5_at hi, deeds1_at hd hD, by simp [nHi, maxLen], by simp [nHi, maxLen]⟩, hb⟩

theorem heap_alloc_lt {w : World} {o : Obj} {k : Nat} (h : k < w.heap.size) : (w.alloc o).heap[k]? = w.heap[k]? := by
  show (w.heap.push o)[k]? = w.heap[k]?
  rw [Array.getElem?_push, if_neg (by omega)]

/-- the box's four fields are written -/
theorem note_sets {w w1 Y : World} {Z g : Nat} {v2 v3 : Value} (hZ : w1.heap[Z]? = some (Obj.cells #[.int .i64 0, .int .i64 0, .slice none 0 0, .slice none 0 0] 28)) (hD : DdAt w1 (dPut hiS) (some ⟨g, 0, none⟩) none) (hb : Below Z w w1)
    (hY : Y = (((w1.setCell ⟨Z, 0, none⟩ (.int .i64 0)).setCell ⟨Z, 1, none⟩ (.int .i64 1)).setCell ⟨Z, 2, none⟩ v2).setCell ⟨Z, 3, none⟩ v3) :
    Y.heap[Z]? = some (Obj.cells #[.int .i64 0, .int .i64 1, v2, v3] 28) ∧ (∀ k, k ≠ Z → Y.heap[k]? = w1.heap[k]?) ∧ Y.heap.size = w1.heap.size ∧ DdAt Y (dPut hiS) (some ⟨g, 0, none⟩) none ∧ Below Z w Y := by
  subst hY
  have hk : ∀ k, k ≠ Z → ((((w1.setCell ⟨Z, 0, none⟩ (.int .i64 0)).setCell ⟨Z, 1, none⟩ (.int .i64 1)).setCell ⟨Z, 2, none⟩ v2).setCell ⟨Z, 3, none⟩ v3).heap[k]? = w1.heap[k]? := fun k hk => by
    rw [Below.heap_setCell _ ⟨Z, 3, none⟩ _ k hk, Below.heap_setCell _ ⟨Z, 2, none⟩ _ k hk, Below.heap_setCell _ ⟨Z, 1, none⟩ _ k hk, Below.heap_setCell _ ⟨Z, 0, none⟩ _ k hk]
  have hs : ((((w1.setCell ⟨Z, 0, none⟩ (.int .i64 0)).setCell ⟨Z, 1, none⟩ (.int .i64 1)).setCell ⟨Z, 2, none⟩ v2).setCell ⟨Z, 3, none⟩ v3).heap.size = w1.heap.size := by simp [World.setCell]
  have hb' := ((((hb.setCell (p := ⟨Z, 0, none⟩) (Nat.le_refl _) (.int .i64 0)).setCell (p := ⟨Z, 1, none⟩) (Nat.le_refl _) (.int .i64 1)).setCell (p := ⟨Z, 2, none⟩) (Nat.le_refl _) v2).setCell (p := ⟨Z, 3, none⟩) (Nat.le_refl _) v3)
  refine ⟨set4 hZ, hk, hs, ?_, hb'⟩
  obtain ⟨h1, h2, h3, h4, h5⟩ := hD
  refine ⟨?_, Or.inl rfl, h3, h4, h5⟩
  rcases h1 with e | ⟨b, o, e, hlt, hc⟩
  · simp [dPut] at e
  cases e
  have hg : g ≠ Z := by
    intro e
    subst e
    have := (hc 0 (by simp [dPut])).1
    simp [World.cell?, hZ, dPut] at this
  refine Or.inr ⟨g, 0, rfl, by rw [hs]; exact hlt, fun i hi => ?_⟩
  have := hc i hi
  simp only [World.cell?, hk g hg]
  simpa only [World.cell?] using this

set_option maxRecDepth 100000 in
set_option maxHeartbeats 1000000 in
theorem lawNote_any (w : World) : Calls Try.prog 19 #[] w fun e w' => ∃ p q, e = .returned (ntV nHi p q 5 1) ∧ NtAt w' nHi p q ∧ Below w.heap.size w w' := by
  go_enter Try.func19, Try.ntmps19
  go_upto_region 1 with fail
  have hB := (Below.refl w.heap.size w).alloc (Nat.le_refl _) (Obj.cells #[.int .i64 0, .int .i64 0, .slice none 0 0, .slice none 0 0] 28)
  have q0 : (w.alloc (Obj.cells #[.int .i64 0, .int .i64 0, .slice none 0 0, .slice none 0 0] 28)).cell? ⟨w.heap.size, 0, none⟩ = some (.int .i64 0) := by simp
  have q1 : (w.alloc (Obj.cells #[.int .i64 0, .int .i64 0, .slice none 0 0, .slice none 0 0] 28)).cell? ⟨w.heap.size, 1, none⟩ = some (.int .i64 0) := by simp
  have q2 : (w.alloc (Obj.cells #[.int .i64 0, .int .i64 0, .slice none 0 0, .slice none 0 0] 28)).cell? ⟨w.heap.size, 2, none⟩ = some (.slice none 0 0) := by simp
  have q3 : (w.alloc (Obj.cells #[.int .i64 0, .int .i64 0, .slice none 0 0, .slice none 0 0] 28)).cell? ⟨w.heap.size, 3, none⟩ = some (.slice none 0 0) := by simp
  have rf : ∀ o, (w.alloc (Obj.cells #[.int .i64 0, .int .i64 0, .slice none 0 0, .slice none 0 0] 28)).frozen? ⟨w.heap.size, o, none⟩ = false := fun o => by go_simp
  have z : w.heap.size < (w.alloc (Obj.cells #[.int .i64 0, .int .i64 0, .slice none 0 0, .slice none 0 0] 28)).heap.size := by simp
  have hbl := alloc_topP w (Obj.cells #[.int .i64 0, .int .i64 0, .slice none 0 0, .slice none 0 0] 28)
  generalize w.alloc (Obj.cells #[.int .i64 0, .int .i64 0, .slice none 0 0, .slice none 0 0] 28) = W at hB q0 q1 q2 q3 rf z hbl ⊢
  generalize hzz : w.heap.size = Z at hB q0 q1 q2 q3 rf z hbl ⊢
  have HBL := hidE hbl
  clear hbl
  have HZ := hidE hzz
  clear hzz
  have hW1 : Below W.heap.size W W.drew := (Below.refl _ _).drew
  have hW2 := hW1.alloc (Nat.le_refl _) (Obj.cells #[.int .i64 0, .int .i64 0, .int .i64 0, .int .i64 0, .int .i64 0] 3)
  have hmk := mk5
  have HP := hidE lawPut_hi
  go_region_with (go_at_call 32; refine (HP.out _).mono ?_; rintro e w1 ⟨g, rfl, hD, hb⟩; have hb1 : Below W.heap.size W w1 := (by first | exact hW1.thru hb hW1.size | exact hW2.thru hb hW2.size); replace q0 := (hb1.cell (p := ⟨Z, 0, none⟩) z).trans q0; replace q1 := (hb1.cell (p := ⟨Z, 1, none⟩) z).trans q1; replace q2 := (hb1.cell (p := ⟨Z, 2, none⟩) z).trans q2; replace q3 := (hb1.cell (p := ⟨Z, 3, none⟩) z).trans q3; replace rf := fun o => (hb1.frozen (p := ⟨Z, o, none⟩) z).trans (rf o); have z1 := Nat.lt_of_lt_of_le z hb1.size)
  · have hbZ : Below Z w w1 := hB.thru hb1 (Nat.le_of_lt z)
    have hZb := (hb1.block Z z).trans HBL.out
    have hi1 : w1.heap[W.heap.size]? = some (Obj.cells #[.int .i64 0, .int .i64 0, .int .i64 0, .int .i64 0, .int .i64 0] 3) := (hb.block W.heap.size (by simp)).trans (alloc_topP W.drew _)
    have hiw : W.heap.size < w1.heap.size := Nat.lt_of_lt_of_le (show W.heap.size < (W.drew.alloc (Obj.cells #[.int .i64 0, .int .i64 0, .int .i64 0, .int .i64 0, .int .i64 0] 3)).heap.size by simp) hb.size
    obtain ⟨y1, y2, y3, y4, y5⟩ := note_sets (v2 := .slice (some ⟨W.heap.size, 0, none⟩) 5 5) (v3 := .slice (some ⟨w1.heap.size, 0, none⟩) 1 1) hZb hD hbZ rfl
    generalize (((w1.setCell ⟨Z, 0, none⟩ (.int .i64 0)).setCell ⟨Z, 1, none⟩ (.int .i64 1)).setCell ⟨Z, 2, none⟩ (.slice (some ⟨W.heap.size, 0, none⟩) 5 5)).setCell ⟨Z, 3, none⟩ (.slice (some ⟨w1.heap.size, 0, none⟩) 1 1) = Y at y1 y2 y3 y4 y5 ⊢
    have yd : (Y.alloc (Obj.cells #[.int .i64 1, .slice (some ⟨g, 0, none⟩) 1 1, .int .i64 1, .string ⟨#[104, 105]⟩, .slice none 0 0, .int .i64 0, .int .i64 0] 54)).heap[w1.heap.size]? = some (Obj.cells #[.int .i64 1, .slice (some ⟨g, 0, none⟩) 1 1, .int .i64 1, .string ⟨#[104, 105]⟩, .slice none 0 0, .int .i64 0, .int .i64 0] 54) := by rw [← y3]; exact alloc_topP Y _
    have yz := (heap_alloc_lt (o := Obj.cells #[.int .i64 1, .slice (some ⟨g, 0, none⟩) 1 1, .int .i64 1, .string ⟨#[104, 105]⟩, .slice none 0 0, .int .i64 0, .int .i64 0] 54) (show Z < Y.heap.size by omega)).trans y1
    have yi := (heap_alloc_lt (o := Obj.cells #[.int .i64 1, .slice (some ⟨g, 0, none⟩) 1 1, .int .i64 1, .string ⟨#[104, 105]⟩, .slice none 0 0, .int .i64 0, .int .i64 0] 54) (show W.heap.size < Y.heap.size by omega)).trans ((y2 _ (by omega)).trans hi1)
    obtain ⟨x0, x1, x2, x3, x4, x5⟩ := note_end (w := w) yz yi yd (y4.below ((Below.refl _ _).alloc (Nat.le_refl _) _)) (by rw [HZ.out]; exact y5.alloc (by omega) _)
    generalize Y.alloc (Obj.cells #[.int .i64 1, .slice (some ⟨g, 0, none⟩) 1 1, .int .i64 1, .string ⟨#[104, 105]⟩, .slice none 0 0, .int .i64 0, .int .i64 0] 54) = X at x0 x1 x2 x3 x4 x5 ⊢
    go_wp2_with fail
    refine bodyPost_ret (v := ntV nHi (some ⟨W.heap.size, 0, none⟩) (some ⟨w1.heap.size, 0, none⟩) 5 1) (by simp [results, Try.results19, go_sem, x0, x1, x2, x3, ntV, nHi]) rfl ?_
    exact ⟨_, _, rfl, x4, x5⟩
  · have hbZ : Below Z w w1 := hB.thru hb1 (Nat.le_of_lt z)
    have hZb := (hb1.block Z z).trans HBL.out
    obtain ⟨y1, y2, y3, y4, y5⟩ := note_sets (v2 := .slice (some ⟨w1.heap.size, 0, none⟩) 5 5) (v3 := .slice (some ⟨w1.heap.size + 1, 0, none⟩) 1 1) hZb hD hbZ rfl
    generalize (((w1.setCell ⟨Z, 0, none⟩ (.int .i64 0)).setCell ⟨Z, 1, none⟩ (.int .i64 1)).setCell ⟨Z, 2, none⟩ (.slice (some ⟨w1.heap.size, 0, none⟩) 5 5)).setCell ⟨Z, 3, none⟩ (.slice (some ⟨w1.heap.size + 1, 0, none⟩) 1 1) = Y at y1 y2 y3 y4 y5 ⊢
    have s1 : (Y.alloc (Obj.cells #[.int .i64 0, .int .i64 0, .int .i64 0, .int .i64 0, .int .i64 0] 3)).heap.size = w1.heap.size + 1 := by rw [← y3]; simp
    have ya : ((Y.alloc (Obj.cells #[.int .i64 0, .int .i64 0, .int .i64 0, .int .i64 0, .int .i64 0] 3)).alloc (Obj.cells #[.int .i64 1, .slice (some ⟨g, 0, none⟩) 1 1, .int .i64 1, .string ⟨#[104, 105]⟩, .slice none 0 0, .int .i64 0, .int .i64 0] 54)).heap[w1.heap.size]? = some (Obj.cells #[.int .i64 0, .int .i64 0, .int .i64 0, .int .i64 0, .int .i64 0] 3) := by rw [heap_alloc_lt (by omega), ← y3]; exact alloc_topP Y _
    have yb : ((Y.alloc (Obj.cells #[.int .i64 0, .int .i64 0, .int .i64 0, .int .i64 0, .int .i64 0] 3)).alloc (Obj.cells #[.int .i64 1, .slice (some ⟨g, 0, none⟩) 1 1, .int .i64 1, .string ⟨#[104, 105]⟩, .slice none 0 0, .int .i64 0, .int .i64 0] 54)).heap[w1.heap.size + 1]? = some (Obj.cells #[.int .i64 1, .slice (some ⟨g, 0, none⟩) 1 1, .int .i64 1, .string ⟨#[104, 105]⟩, .slice none 0 0, .int .i64 0, .int .i64 0] 54) := by rw [← s1]; exact alloc_topP _ _
    have yz : ((Y.alloc (Obj.cells #[.int .i64 0, .int .i64 0, .int .i64 0, .int .i64 0, .int .i64 0] 3)).alloc (Obj.cells #[.int .i64 1, .slice (some ⟨g, 0, none⟩) 1 1, .int .i64 1, .string ⟨#[104, 105]⟩, .slice none 0 0, .int .i64 0, .int .i64 0] 54)).heap[Z]? = _ := (heap_alloc_lt (by omega)).trans ((heap_alloc_lt (by omega)).trans y1)
    have yD := (y4.below ((Below.refl _ _).alloc (Nat.le_refl _) (Obj.cells #[.int .i64 0, .int .i64 0, .int .i64 0, .int .i64 0, .int .i64 0] 3))).below ((Below.refl _ _).alloc (Nat.le_refl _) (Obj.cells #[.int .i64 1, .slice (some ⟨g, 0, none⟩) 1 1, .int .i64 1, .string ⟨#[104, 105]⟩, .slice none 0 0, .int .i64 0, .int .i64 0] 54))
    obtain ⟨x0, x1, x2, x3, x4, x5⟩ := note_end (w := w) yz ya yb yD (by rw [HZ.out]; exact (y5.alloc (by omega) _).alloc (by omega) _)
    generalize (Y.alloc (Obj.cells #[.int .i64 0, .int .i64 0, .int .i64 0, .int .i64 0, .int .i64 0] 3)).alloc (Obj.cells #[.int .i64 1, .slice (some ⟨g, 0, none⟩) 1 1, .int .i64 1, .string ⟨#[104, 105]⟩, .slice none 0 0, .int .i64 0, .int .i64 0] 54) = X at x0 x1 x2 x3 x4 x5 ⊢
    go_wp2_with fail
    refine bodyPost_ret (v := ntV nHi (some ⟨w1.heap.size, 0, none⟩) (some ⟨w1.heap.size + 1, 0, none⟩) 5 1) (by simp [results, Try.results19, go_sem, x0, x1, x2, x3, ntV, nHi]) rfl ?_
    exact ⟨_, _, rfl, x4, x5⟩
  · have hbZ : Below Z w w1 := hB.thru hb1 (Nat.le_of_lt z)
    have hZb := (hb1.block Z z).trans HBL.out
    obtain ⟨y1, y2, y3, y4, y5⟩ := note_sets (v2 := .slice (some ⟨w1.heap.size + 1, 0, none⟩) 5 5) (v3 := .slice (some ⟨w1.heap.size, 0, none⟩) 1 1) hZb hD hbZ rfl
    generalize (((w1.setCell ⟨Z, 0, none⟩ (.int .i64 0)).setCell ⟨Z, 1, none⟩ (.int .i64 1)).setCell ⟨Z, 2, none⟩ (.slice (some ⟨w1.heap.size + 1, 0, none⟩) 5 5)).setCell ⟨Z, 3, none⟩ (.slice (some ⟨w1.heap.size, 0, none⟩) 1 1) = Y at y1 y2 y3 y4 y5 ⊢
    have s1 : (Y.alloc (Obj.cells #[.int .i64 1, .slice (some ⟨g, 0, none⟩) 1 1, .int .i64 1, .string ⟨#[104, 105]⟩, .slice none 0 0, .int .i64 0, .int .i64 0] 54)).heap.size = w1.heap.size + 1 := by rw [← y3]; simp
    have ya : ((Y.alloc (Obj.cells #[.int .i64 1, .slice (some ⟨g, 0, none⟩) 1 1, .int .i64 1, .string ⟨#[104, 105]⟩, .slice none 0 0, .int .i64 0, .int .i64 0] 54)).alloc (Obj.cells #[.int .i64 0, .int .i64 0, .int .i64 0, .int .i64 0, .int .i64 0] 3)).heap[w1.heap.size]? = some (Obj.cells #[.int .i64 1, .slice (some ⟨g, 0, none⟩) 1 1, .int .i64 1, .string ⟨#[104, 105]⟩, .slice none 0 0, .int .i64 0, .int .i64 0] 54) := by rw [heap_alloc_lt (by omega), ← y3]; exact alloc_topP Y _
    have yb : ((Y.alloc (Obj.cells #[.int .i64 1, .slice (some ⟨g, 0, none⟩) 1 1, .int .i64 1, .string ⟨#[104, 105]⟩, .slice none 0 0, .int .i64 0, .int .i64 0] 54)).alloc (Obj.cells #[.int .i64 0, .int .i64 0, .int .i64 0, .int .i64 0, .int .i64 0] 3)).heap[w1.heap.size + 1]? = some (Obj.cells #[.int .i64 0, .int .i64 0, .int .i64 0, .int .i64 0, .int .i64 0] 3) := by rw [← s1]; exact alloc_topP _ _
    have yz : ((Y.alloc (Obj.cells #[.int .i64 1, .slice (some ⟨g, 0, none⟩) 1 1, .int .i64 1, .string ⟨#[104, 105]⟩, .slice none 0 0, .int .i64 0, .int .i64 0] 54)).alloc (Obj.cells #[.int .i64 0, .int .i64 0, .int .i64 0, .int .i64 0, .int .i64 0] 3)).heap[Z]? = _ := (heap_alloc_lt (by omega)).trans ((heap_alloc_lt (by omega)).trans y1)
    have yD := (y4.below ((Below.refl _ _).alloc (Nat.le_refl _) (Obj.cells #[.int .i64 1, .slice (some ⟨g, 0, none⟩) 1 1, .int .i64 1, .string ⟨#[104, 105]⟩, .slice none 0 0, .int .i64 0, .int .i64 0] 54))).below ((Below.refl _ _).alloc (Nat.le_refl _) (Obj.cells #[.int .i64 0, .int .i64 0, .int .i64 0, .int .i64 0, .int .i64 0] 3))
    obtain ⟨x0, x1, x2, x3, x4, x5⟩ := note_end (w := w) yz yb ya yD (by rw [HZ.out]; exact (y5.alloc (by omega) _).alloc (by omega) _)
    generalize (Y.alloc (Obj.cells #[.int .i64 1, .slice (some ⟨g, 0, none⟩) 1 1, .int .i64 1, .string ⟨#[104, 105]⟩, .slice none 0 0, .int .i64 0, .int .i64 0] 54)).alloc (Obj.cells #[.int .i64 0, .int .i64 0, .int .i64 0, .int .i64 0, .int .i64 0] 3) = X at x0 x1 x2 x3 x4 x5 ⊢
    go_wp2_with fail
    refine bodyPost_ret (v := ntV nHi (some ⟨w1.heap.size + 1, 0, none⟩) (some ⟨w1.heap.size, 0, none⟩) 5 1) (by simp [results, Try.results19, go_sem, x0, x1, x2, x3, ntV, nHi]) rfl ?_
    exact ⟨_, _, rfl, x4, x5⟩
end Go.Proofs.Ytnhjebdlcbhkcaf
