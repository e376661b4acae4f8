/- The law's put: a deed that puts a text. -/
import Derived.Test.YtnhjebdlcbhkcafDeedC
import Derived.Test.YtnhjebdlcbhkcafOwnsF
import Derived.Deep.RegionHeld3
namespace Go.Proofs.Ytnhjebdlcbhkcaf
open Go.RowKit

/-- a deed that puts a text at a mark -/
def dPut (s : ByteArray) : Dd := ⟨1, [(3, 0)], 1, s, [], 0, 0⟩
def hiS : ByteArray := ⟨#[104, 105]⟩

theorem alloc_topP (w : World) (o : Obj) : (w.alloc o).heap[w.heap.size]? = some o := by
  show (w.heap.push o)[w.heap.size]? = some o
  simp
theorem set7 {w : World} {b : Nat} {T : TypeId} {u0 u1 u2 u3 u4 u5 u6 v0 v1 v2 v3 v4 v5 v6 : Value} (h : w.heap[b]? = some (Obj.cells #[u0, u1, u2, u3, u4, u5, u6] T)) :
    (((((((w.setCell ⟨b, 0, none⟩ v0).setCell ⟨b, 1, none⟩ v1).setCell ⟨b, 2, none⟩ v2).setCell ⟨b, 3, none⟩ v3).setCell ⟨b, 4, none⟩ v4).setCell ⟨b, 5, none⟩ v5).setCell ⟨b, 6, none⟩ v6).heap[b]? = some (Obj.cells #[v0, v1, v2, v3, v4, v5, v6] T) := by
  simp [World.setCell, Array.getElem?_modify, h]

set_option maxRecDepth 100000 in
set_option maxHeartbeats 1000000 in
theorem lawPut_any (s : ByteArray) (w : World) (hs : s.size ≤ maxLen) : Calls Try.prog 32 #[.string s] w fun e w' => ∃ g, e = .returned (ddV (dPut s) (some ⟨g, 0, none⟩) none 1 0) ∧ DdAt w' (dPut s) (some ⟨g, 0, none⟩) none ∧ Below w.heap.size w w' := by
  have hB := (Below.refl w.heap.size w).alloc (Nat.le_refl _) (Obj.cells #[.int .i64 0, .slice none 0 0, .int .i64 0, .string ⟨#[]⟩, .slice none 0 0, .int .i64 0, .int .i64 0] 54)
  have hc : ∀ i, i < 7 → (w.alloc (Obj.cells #[.int .i64 0, .slice none 0 0, .int .i64 0, .string ⟨#[]⟩, .slice none 0 0, .int .i64 0, .int .i64 0] 54)).cell? ⟨w.heap.size, i, none⟩ = #[.int .i64 0, .slice none 0 0, .int .i64 0, .string ⟨#[]⟩, .slice none 0 0, .int .i64 0, .int .i64 0][i]? := fun i hi => by simp
  have rf : ∀ o, (w.alloc (Obj.cells #[.int .i64 0, .slice none 0 0, .int .i64 0, .string ⟨#[]⟩, .slice none 0 0, .int .i64 0, .int .i64 0] 54)).frozen? ⟨w.heap.size, o, none⟩ = false := fun o => by go_simp
  have z : w.heap.size < (w.alloc (Obj.cells #[.int .i64 0, .slice none 0 0, .int .i64 0, .string ⟨#[]⟩, .slice none 0 0, .int .i64 0, .int .i64 0] 54)).heap.size := by simp
  have q0 := hc 0 (by decide)
  have q1 := hc 1 (by decide)
  have q2 := hc 2 (by decide)
  have q3 := hc 3 (by decide)
  have q4 := hc 4 (by decide)
  have q5 := hc 5 (by decide)
  have q6 := hc 6 (by decide)
  simp only [List.getElem?_toArray, List.getElem?_cons_succ, List.getElem?_cons_zero] at q0 q1 q2 q3 q4 q5 q6
  clear hc
  go_enter Try.func32, Try.ntmps32
  go_wp2_with fail
  have hblk := alloc_topP w (Obj.cells #[.int .i64 0, .slice none 0 0, .int .i64 0, .string ⟨#[]⟩, .slice none 0 0, .int .i64 0, .int .i64 0] 54)
  generalize w.alloc (Obj.cells #[.int .i64 0, .slice none 0 0, .int .i64 0, .string ⟨#[]⟩, .slice none 0 0, .int .i64 0, .int .i64 0] 54) = W at hB hblk rf z q0 q1 q2 q3 q4 q5 q6 ⊢
  refine (at_any 3 0 1 W).mono ?_
  rintro e w1 ⟨rfl, hst, hb⟩
  replace q0 := (hb.cell (p := ⟨w.heap.size, 0, none⟩) z).trans q0
  replace q1 := (hb.cell (p := ⟨w.heap.size, 1, none⟩) z).trans q1
  replace q2 := (hb.cell (p := ⟨w.heap.size, 2, none⟩) z).trans q2
  replace q3 := (hb.cell (p := ⟨w.heap.size, 3, none⟩) z).trans q3
  replace q4 := (hb.cell (p := ⟨w.heap.size, 4, none⟩) z).trans q4
  replace q5 := (hb.cell (p := ⟨w.heap.size, 5, none⟩) z).trans q5
  replace q6 := (hb.cell (p := ⟨w.heap.size, 6, none⟩) z).trans q6
  replace rf := fun o => (hb.frozen (p := ⟨w.heap.size, o, none⟩) z).trans (rf o)
  go_wp2_with fail
  have hb6 : w1.heap[w.heap.size]? = some (Obj.cells #[.int .i64 0, .slice none 0 0, .int .i64 0, .string ⟨#[]⟩, .slice none 0 0, .int .i64 0, .int .i64 0] 54) := (hb.block _ z).trans hblk
  have hX := set7 (w := w1) (v0 := .int .i64 1) (v1 := .slice (some ⟨W.heap.size + 1, 0, none⟩) 1 1) (v2 := .int .i64 1) (v3 := .string s) (v4 := .slice none 0 0) (v5 := .int .i64 0) (v6 := .int .i64 0) hb6
  have hBX : Below w.heap.size w (((((((w1.setCell ⟨w.heap.size, 0, none⟩ (.int .i64 1)).setCell ⟨w.heap.size, 1, none⟩ (.slice (some ⟨W.heap.size + 1, 0, none⟩) 1 1)).setCell ⟨w.heap.size, 2, none⟩ (.int .i64 1)).setCell ⟨w.heap.size, 3, none⟩ (.string s)).setCell ⟨w.heap.size, 4, none⟩ (.slice none 0 0)).setCell ⟨w.heap.size, 5, none⟩ (.int .i64 0)).setCell ⟨w.heap.size, 6, none⟩ (.int .i64 0)) := ((((((((hB.thru hb (Nat.le_of_lt z)).setCell (p := ⟨w.heap.size, 0, none⟩) (Nat.le_refl _) (.int .i64 1)).setCell (p := ⟨w.heap.size, 1, none⟩) (Nat.le_refl _) (.slice (some ⟨W.heap.size + 1, 0, none⟩) 1 1)).setCell (p := ⟨w.heap.size, 2, none⟩) (Nat.le_refl _) (.int .i64 1)).setCell (p := ⟨w.heap.size, 3, none⟩) (Nat.le_refl _) (.string s)).setCell (p := ⟨w.heap.size, 4, none⟩) (Nat.le_refl _) (.slice none 0 0)).setCell (p := ⟨w.heap.size, 5, none⟩) (Nat.le_refl _) (.int .i64 0)).setCell (p := ⟨w.heap.size, 6, none⟩) (Nat.le_refl _) (.int .i64 0))
  have hSX : StepsAt (((((((w1.setCell ⟨w.heap.size, 0, none⟩ (.int .i64 1)).setCell ⟨w.heap.size, 1, none⟩ (.slice (some ⟨W.heap.size + 1, 0, none⟩) 1 1)).setCell ⟨w.heap.size, 2, none⟩ (.int .i64 1)).setCell ⟨w.heap.size, 3, none⟩ (.string s)).setCell ⟨w.heap.size, 4, none⟩ (.slice none 0 0)).setCell ⟨w.heap.size, 5, none⟩ (.int .i64 0)).setCell ⟨w.heap.size, 6, none⟩ (.int .i64 0)) (some ⟨W.heap.size + 1, 0, none⟩) [(3, 0)] := by
    rcases hst with e | ⟨b, o, e, hlt, hcc⟩
    · simp at e
    · cases e
      refine Or.inr ⟨W.heap.size + 1, 0, rfl, by simpa [World.setCell] using hlt, fun i hi => ?_⟩
      obtain ⟨c0, c1⟩ := hcc i hi
      refine ⟨?_, ?_⟩
      · rw [World.cell?_setCell_other _ _ _ _ (by simp), World.cell?_setCell_other _ _ _ _ (by simp), World.cell?_setCell_other _ _ _ _ (by simp), World.cell?_setCell_other _ _ _ _ (by simp), World.cell?_setCell_other _ _ _ _ (by simp), World.cell?_setCell_other _ _ _ _ (by simp), World.cell?_setCell_other _ _ _ _ (by simp)]
        exact c0
      · rw [World.cell?_setCell_other _ _ _ _ (by simp), World.cell?_setCell_other _ _ _ _ (by simp), World.cell?_setCell_other _ _ _ _ (by simp), World.cell?_setCell_other _ _ _ _ (by simp), World.cell?_setCell_other _ _ _ _ (by simp), World.cell?_setCell_other _ _ _ _ (by simp), World.cell?_setCell_other _ _ _ _ (by simp)]
        exact c1
  generalize (((((((w1.setCell ⟨w.heap.size, 0, none⟩ (.int .i64 1)).setCell ⟨w.heap.size, 1, none⟩ (.slice (some ⟨W.heap.size + 1, 0, none⟩) 1 1)).setCell ⟨w.heap.size, 2, none⟩ (.int .i64 1)).setCell ⟨w.heap.size, 3, none⟩ (.string s)).setCell ⟨w.heap.size, 4, none⟩ (.slice none 0 0)).setCell ⟨w.heap.size, 5, none⟩ (.int .i64 0)).setCell ⟨w.heap.size, 6, none⟩ (.int .i64 0)) = X at hX hBX hSX ⊢
  have x0 : X.cell? ⟨w.heap.size, 0, none⟩ = some (.int .i64 1) := by simp [World.cell?, hX]
  have x1 : X.cell? ⟨w.heap.size, 1, none⟩ = some (.slice (some ⟨W.heap.size + 1, 0, none⟩) 1 1) := by simp [World.cell?, hX]
  have x2 : X.cell? ⟨w.heap.size, 2, none⟩ = some (.int .i64 1) := by simp [World.cell?, hX]
  have x3 : X.cell? ⟨w.heap.size, 3, none⟩ = some (.string s) := by simp [World.cell?, hX]
  have x4 : X.cell? ⟨w.heap.size, 4, none⟩ = some (.slice none 0 0) := by simp [World.cell?, hX]
  have x5 : X.cell? ⟨w.heap.size, 5, none⟩ = some (.int .i64 0) := by simp [World.cell?, hX]
  have x6 : X.cell? ⟨w.heap.size, 6, none⟩ = some (.int .i64 0) := by simp [World.cell?, hX]
  refine bodyPost_ret (v := ddV (dPut s) (some ⟨W.heap.size + 1, 0, none⟩) none 1 0) (by simp [results, Try.results32, go_sem, x0, x1, x2, x3, x4, x5, x6, ddV, dPut]) rfl ?_
  exact ⟨W.heap.size + 1, rfl, ⟨hSX, Or.inl rfl, by simp [dPut, maxLen], by simp [dPut, maxLen], hs⟩, hBX⟩

end Go.Proofs.Ytnhjebdlcbhkcaf
