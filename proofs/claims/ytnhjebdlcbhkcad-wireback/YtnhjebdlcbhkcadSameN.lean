/- Contract of the reference's SameNote, where the notes are the same. -/
import Derived.Test.YtnhjebdlcbhkcadFreshM
import Derived.Test.YtnhjebdlcbhkcadSameD
import Derived.Test.YtnhjebdlcbhkcadNoteC
import Derived.Test.YtnhjebdlcbhkcadText
namespace Go.Proofs.Ytnhjebdlcbhkcad
open Go.RowKit

set_option maxRecDepth 100000 in
set_option maxHeartbeats 2000000 in
theorem sameNote_true (p q p' q' : Option Addr) (cp cq cp' cq' : Nat) (n : Nt) (w : World) (h : NtAt w n p q) (h' : NtAt w n p' q') :
    Calls Try.prog 28 #[ntV n p q cp cq, ntV n p' q' cp' cq'] w fun e w' => e = .returned (.bool true) ∧ Below w.heap.size w w' := by
  have hA := alloc_below w (Obj.cells #[.int .i64 n.site, .int .i64 n.number, .slice p n.needs.length cp, .slice q n.deeds.length cq] 53)
  have hN := Blk.new w #[.int .i64 n.site, .int .i64 n.number, .slice p n.needs.length cp, .slice q n.deeds.length cq] 53
  have sz1 : (w.alloc (Obj.cells #[.int .i64 n.site, .int .i64 n.number, .slice p n.needs.length cp, .slice q n.deeds.length cq] 53)).heap.size = w.heap.size + 1 := by simp
  have hM := Blk.new (w.alloc (Obj.cells #[.int .i64 n.site, .int .i64 n.number, .slice p n.needs.length cp, .slice q n.deeds.length cq] 53)) #[.int .i64 n.site, .int .i64 n.number, .slice p' n.needs.length cp', .slice q' n.deeds.length cq'] 53
  have hA2 := alloc_below (w.alloc (Obj.cells #[.int .i64 n.site, .int .i64 n.number, .slice p n.needs.length cp, .slice q n.deeds.length cq] 53)) (Obj.cells #[.int .i64 n.site, .int .i64 n.number, .slice p' n.needs.length cp', .slice q' n.deeds.length cq'] 53)
  replace hN := hN.below hA2 hN.lt
  replace hA := hA.trans (hA2.mono hA.size)
  rw [sz1] at hM
  clear hA2 sz1
  unfold ntV
  have HI := hidE (fun w1 (hb : Below w.heap.size w w1) => sameInts_any p p' cp cp' n.needs n.needs w1 h.nl h.nl (h.needs.below hb) (h'.needs.below hb))
  have HD := hidE (fun w1 (hb : Below w.heap.size w w1) => sameDeeds_true q q' cq cq' n.deeds w1 h.dl (h.deeds.below hb) (h'.deeds.below hb))
  have hdt : decide (n.needs = n.needs) = true := decide_eq_true rfl
  rw [hdt] at HI
  clear h h' hdt
  generalize n.needs.length = n1 at *
  generalize n.deeds.length = n2 at *
  generalize n.site = a1 at *
  generalize n.number = a2 at *
  go_enter Try.func28, Try.ntmps28
  go_upto_region 1 with fail
  generalize (w.alloc (Obj.cells #[.int .i64 a1, .int .i64 a2, .slice p n1 cp, .slice q n2 cq] 53)).alloc (Obj.cells #[.int .i64 a1, .int .i64 a2, .slice p' n1 cp', .slice q' n2 cq'] 53) = W at *
  have x0 := hN.is 0 rfl
  have x1 := hN.is 1 rfl
  have x2 := hN.is 2 rfl
  have x3 := hN.is 3 rfl
  have y0 := hM.is 0 rfl
  have y1 := hM.is 1 rfl
  have y2 := hM.is 2 rfl
  have y3 := hM.is 3 rfl
  have HN := hidE hN
  have HM := hidE hM
  have HA := hidE hA
  clear hN hM hA
  go_wp2_with (first
    | (go_at_call 68; refine (HI.out _ HA.out).mono ?_; rintro e w1 ⟨rfl, hb⟩; have HB := hidE (HA.out.trans (hb.mono HA.out.size)); replace x3 := (HN.out.below hb HN.out.lt).is 3 rfl; replace y3 := (HM.out.below hb HM.out.lt).is 3 rfl)
    | (go_at_call 69; refine (HD.out _ HB.out).mono ?_; rintro e w2 ⟨rfl, hb2⟩))
  go_ret
  exact ⟨rfl, HB.out.trans (hb2.mono HB.out.size)⟩
end Go.Proofs.Ytnhjebdlcbhkcad
