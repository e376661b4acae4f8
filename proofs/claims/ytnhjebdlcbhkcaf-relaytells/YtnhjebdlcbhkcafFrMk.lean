/- Contract of fresh.Mark, whatever the path. -/
import Derived.Test.YtnhjebdlcbhkcafCloneX
import Derived.Deep.RegionLawGrows
import Derived.Deep.RegionHeldLaw
namespace Go.Proofs.Ytnhjebdlcbhkcaf
open Go.RowKit

theorem StepsAt.own {w : World} {a : Option Addr} {l : List (Int × Int)} (h : StepsAt w a l) : ∀ j u, (flatS l)[j]? = some u → ∃ b off, a = some ⟨b, off, none⟩ ∧ w.cell? ⟨b, off + j, none⟩ = some u := by
  intro j u hj
  rcases h with rfl | ⟨b, off, rfl, hb, hc⟩
  · simp [flatS] at hj
  · exact ⟨b, off, rfl, StepsAt.cells (Or.inr ⟨b, off, rfl, hb, hc⟩) j u hj⟩

set_option maxRecDepth 100000 in
set_option maxHeartbeats 2000000 in
theorem frMark_ok (a : Option Addr) (c : Nat) (l : List (Int × Int)) (ck : Int) (w : World) (hl : l.length ≤ 1000) (h : StepsAt w a l) :
    Calls Try.prog 40 #[.agg #[.slice a l.length c, .int .i64 ck]] w fun e w' => ∃ p cap, e = .returned (.agg #[.slice p l.length cap, .int .i64 ck]) ∧ w'.ownsRow w.heap.size 77 2 (.slice p l.length cap) l.length (flatS l) ∧ Below w.heap.size w w' := by
  obtain ⟨q0, q1, q3, q4, hz, hb1⟩ := boxes2 w (.slice a l.length c) (.int .i64 ck) (.slice none 0 0) (.int .i64 0) 50 50
  have q2 : ∀ o, ((w.alloc (Obj.cells #[.slice a l.length c, .int .i64 ck] 50)).alloc (Obj.cells #[.slice none 0 0, .int .i64 0] 50)).frozen? ⟨w.heap.size + 1, o, none⟩ = false := fun o => by go_simp
  have HL := hidE (flatS_length l)
  have HO1 := hidE (flatS_one l)
  have hs0 : Hid (∀ w', Below _ _ w' → ∀ j u, (flatS l)[j]? = some u → ∃ b off, a = some ⟨b, off, none⟩ ∧ w'.cell? ⟨b, off + j, none⟩ = some u) := fun w' (hb : Below ((w.alloc (Obj.cells #[.slice a l.length c, .int .i64 ck] 50)).alloc (Obj.cells #[.slice none 0 0, .int .i64 0] 50)).heap.size ((w.alloc (Obj.cells #[.slice a l.length c, .int .i64 ck] 50)).alloc (Obj.cells #[.slice none 0 0, .int .i64 0] 50)) w') => ((h.below hb1 (Nat.le_refl _)).below hb (Nat.le_refl _)).own
  clear h
  generalize flatS l = F at *
  generalize l.length = n at *
  go_enter Try.func40, Try.ntmps40
  go_upto_region 1 with fail
  generalize (w.alloc (Obj.cells #[.slice a n c, .int .i64 ck] 50)).alloc (Obj.cells #[.slice none 0 0, .int .i64 0] 50) = w1 at q0 q1 q2 q3 q4 hz hb1 hs0 ⊢
  have z1 : w.heap.size < w1.heap.size := by omega
  have z2 : w.heap.size + 1 < w1.heap.size := by omega
  clear hz
  have hBd : Below w1.heap.size w1 w1.drew := (Below.refl _ _).drew
  have HD := hidE (hs0.out _ hBd)
  go_region_held_law (fun w' => w'.cell? ⟨w.heap.size, 0, none⟩ = some (.slice a n c) ∧ w'.cell? ⟨w.heap.size, 1, none⟩ = some (.int .i64 ck))
      (first | exact ⟨q0, q1⟩ | exact ⟨t0, t1⟩ | exact ⟨cell_other (by omega) (cell_other (by omega) t0), cell_other (by omega) (cell_other (by omega) t1)⟩)
      ((go_at_call 49; refine (cloneS_ok a n c F _ HL.out (by omega) HD.out HO1.out).mono ?_; rintro e w3 ⟨g, cap2, rfl, hown, hb3⟩; have hb3' : Below w1.heap.size w1 w3 := hBd.thru hb3 (Nat.le_refl _); have t0 := (hb3'.cell (p := ⟨w.heap.size, 0, none⟩) z1).trans q0; have t1 := (hb3'.cell (p := ⟨w.heap.size, 1, none⟩) z1).trans q1; have t3 := (hb3'.cell (p := ⟨w.heap.size + 1, 0, none⟩) z2).trans q3; have t4 := (hb3'.cell (p := ⟨w.heap.size + 1, 1, none⟩) z2).trans q4; have t2 := fun o => (hb3'.frozen (p := ⟨w.heap.size + 1, o, none⟩) z2).trans (q2 o)))
  go_wp2_with fail
  have s3 : (w3.setCell ⟨w.heap.size + 1, 0, none⟩ (.slice g n cap2)).cell? ⟨w.heap.size + 1, 1, none⟩ = some (.int .i64 0) := (World.cell?_setCell_other _ _ _ _ (by simp)).trans t4
  have hgz : ∀ x, (Value.slice g n cap2).ownBlock = some x → w1.heap.size ≤ x := fun x e => (hown.lt x e).1
  refine bodyPost_ret (v := .agg #[.slice g n cap2, .int .i64 ck]) (by simp [results, Try.results40, go_sem, t3, s3]) rfl ⟨g, cap2, rfl, ?_, ?_⟩
  · exact ownsRow_setCell_other (ownsRow_setCell_other (owns_base hown (by simp; omega)) (fun e => by have := hgz _ e; simp at this; omega) _) (fun e => by have := hgz _ e; simp at this; omega) _
  · exact ((hb1.thru hb3' hb1.size).setCell (by simp) _).setCell (by simp) _

end Go.Proofs.Ytnhjebdlcbhkcaf
