/- Contract of the reference's SameNote, where the notes are the same. -/
import Derived.Test.YtnhjebdlcbhkcafPieces
import Derived.Test.YtnhjebdlcbhkcafSameD
import Derived.Test.YtnhjebdlcbhkcafNoteC
import Derived.Test.YtnhjebdlcbhkcafRowOwn
import Derived.Test.YtnhjebdlcbhkcafRelPu
import Derived.Test.YtnhjebdlcbhkcafFrListN
namespace Go.Proofs.Ytnhjebdlcbhkcaf
open Go.RowKit

set_option maxRecDepth 100000 in
set_option maxHeartbeats 2000000 in
theorem sameNote_true (p q p' q' : Option Addr) (cp cq cp' cq' : Nat) (n : Nt) (w : World) (h : NtAt w n p q) (h' : NtAt w n p' q') :
    Calls Try.prog 20 #[ntV n p q cp cq, ntV n p' q' cp' cq'] w fun e w' => e = .returned (.bool true) ∧ Below w.heap.size w w' := by
  have hA := alloc_below w (Obj.cells #[.int .i64 n.site, .int .i64 n.number, .slice p n.needs.length cp, .slice q n.deeds.length cq] 28)
  have hN := Blk.new w #[.int .i64 n.site, .int .i64 n.number, .slice p n.needs.length cp, .slice q n.deeds.length cq] 28
  have sz1 : (w.alloc (Obj.cells #[.int .i64 n.site, .int .i64 n.number, .slice p n.needs.length cp, .slice q n.deeds.length cq] 28)).heap.size = w.heap.size + 1 := by simp
  have hM := Blk.new (w.alloc (Obj.cells #[.int .i64 n.site, .int .i64 n.number, .slice p n.needs.length cp, .slice q n.deeds.length cq] 28)) #[.int .i64 n.site, .int .i64 n.number, .slice p' n.needs.length cp', .slice q' n.deeds.length cq'] 28
  have hA2 := alloc_below (w.alloc (Obj.cells #[.int .i64 n.site, .int .i64 n.number, .slice p n.needs.length cp, .slice q n.deeds.length cq] 28)) (Obj.cells #[.int .i64 n.site, .int .i64 n.number, .slice p' n.needs.length cp', .slice q' n.deeds.length cq'] 28)
  replace hN := hN.below hA2 hN.lt
  replace hA := hA.trans (hA2.mono hA.size)
  rw [sz1] at hM
  clear hA2 sz1
  unfold ntV
  have HI := hidE (fun w1 (hb : Below w.heap.size w w1) => sameInts_any p p' cp cp' n.needs n.needs w1 h.nl h.nl (h.needs.below hb) (h'.needs.below hb))
  have HD := hidE (fun w1 (hb : Below w.heap.size w w1) => sameDeeds_true q q' cq cq' n.deeds w1 h.dl (h.deeds.below hb) (h'.deeds.below hb))
  have hdt : decide (n.needs = n.needs) = true := decide_eq_true rfl
  rw [hdt] at HI
  clear h h' hdt
  generalize n.needs.length = n1 at *
  generalize n.deeds.length = n2 at *
  generalize n.site = a1 at *
  generalize n.number = a2 at *
  go_enter Try.func20, Try.ntmps20
  go_upto_region 1 with fail
  generalize (w.alloc (Obj.cells #[.int .i64 a1, .int .i64 a2, .slice p n1 cp, .slice q n2 cq] 28)).alloc (Obj.cells #[.int .i64 a1, .int .i64 a2, .slice p' n1 cp', .slice q' n2 cq'] 28) = W at *
  have x0 := hN.is 0 rfl
  have x1 := hN.is 1 rfl
  have x2 := hN.is 2 rfl
  have x3 := hN.is 3 rfl
  have y0 := hM.is 0 rfl
  have y1 := hM.is 1 rfl
  have y2 := hM.is 2 rfl
  have y3 := hM.is 3 rfl
  have HN := hidE hN
  have HM := hidE hM
  have HA := hidE hA
  clear hN hM hA
  go_wp2_with (first
    | (go_at_call 33; refine (HI.out _ HA.out).mono ?_; rintro e w1 ⟨rfl, hb⟩; have HB := hidE (HA.out.trans (hb.mono HA.out.size)); replace x3 := (HN.out.below hb HN.out.lt).is 3 rfl; replace y3 := (HM.out.below hb HM.out.lt).is 3 rfl)
    | (go_at_call 34; refine (HD.out _ HB.out).mono ?_; rintro e w2 ⟨rfl, hb2⟩))
  go_ret
  exact ⟨rfl, HB.out.trans (hb2.mono HB.out.size)⟩
end Go.Proofs.Ytnhjebdlcbhkcaf

namespace Go.Proofs.Ytnhjebdlcbhkcaf
open Go.RowKit

set_option maxRecDepth 100000 in
set_option maxHeartbeats 4000000 in
theorem sameNotes_true (a a' : Option Addr) (cap cap' : Nat) (xs : List Nt) (w : World) (hl : xs.length ≤ maxLen) (h : NotesAt w a xs) (h' : NotesAt w a' xs) :
    Calls Try.prog 11 #[.slice a xs.length cap, .slice a' xs.length cap'] w fun e w' => e = .returned (.bool true) ∧ Below w.heap.size w w' := by
  unfold maxLen at hl
  go_enter Try.func11, Try.ntmps11
  go_wp2
  go_loopw [5] (fun i wr => ∃ k : Nat, k ≤ xs.length ∧ i = .int .i64 k ∧ Below w.heap.size w wr) (fun i _ => xs.length - (intOf i).toNat)
  case atStart => exact ⟨0, Nat.zero_le _, rfl, Below.refl _ _⟩
  case round =>
    obtain ⟨k, hk, rfl, hb⟩ := hrel
    by_cases hlt : k < xs.length
    · have hi1 : (k : Int) < xs.length := by omega
      rcases h.below hb with hs | ⟨ab, ao, rfl, hab, hc⟩
      · simp [hs] at hlt
      rcases h'.below hb with hs | ⟨bb, bo, rfl, hbb, hd⟩
      · simp [hs] at hlt
      obtain ⟨p, cp, q, cq, c0, c1, c2, c3, hD⟩ := hc k hlt
      obtain ⟨p', cp', q', cq', d0, d1, d2, d3, hD'⟩ := hd k hlt
      clear hc hd h h'
      have HC := hidE (fun d os => sameNote_true p q p' q' cp cq cp' cq' xs[k] _ (hD.below (below_regrown wr d os)) (hD'.below (below_regrown wr d os)))
      unfold ntV at HC
      clear hD hD'
      generalize xs[k] = x at *
      have k0 := cell_regrown c0
      have k1 := cell_regrown c1
      have k2 := cell_regrown c2
      have k3 := cell_regrown c3
      have e0 := cell_regrown d0
      have e1 := cell_regrown d1
      have e2 := cell_regrown d2
      have e3 := cell_regrown d3
      clear c0 c1 c2 c3 d0 d1 d2 d3
      go_wp2_with fail
      refine wp_region_quiet_below (by kernel_rfl) (by kernel_rfl) ?_
      repeat (first | go_big_quiet_step ((go_at_call 20; with_reducible exact Calls.regrown_of (HC.out _ _))) | quiet_step ((go_at_call 20; with_reducible exact Calls.regrown_of (HC.out _ _))))
      refine wpQuiet_nil ?_
      intro _ hw'
      obtain ⟨⟨dq, osq⟩, hw''⟩ := hw'
      subst hw''
      go_wp2_with fail
      go_roundw
      case rel => exact ⟨k + 1, by omega, by go_num, hb.thru (below_regrown _ _ _) hb.size⟩
      case measure => simp [intOf]; omega
    · go_wp2
      go_ret
      exact ⟨rfl, hb⟩
end Go.Proofs.Ytnhjebdlcbhkcaf

namespace Go.Proofs.Ytnhjebdlcbhkcaf
open Go.RowKit

theorem notes_own {w : World} {base n : Nat} {p : Option Addr} {cap : Nat} {rs : List RN} (h : RowOwn 28 4 RN.cells NtO w base (.slice p n cap) rs) (hn : rs.length = n) : NotesAt w p (rs.map RN.n) := by
  subst hn
  obtain ⟨hown, hr⟩ := h
  have hown' := hown
  rcases hown.2 with ⟨e0, h0⟩ | ⟨g, c, cur, e1, _, _, _, _, _⟩
  · exact Or.inl (by rw [List.length_eq_zero_iff.1 h0]; rfl)
  simp only [Value.slice.injEq] at e1
  obtain ⟨rfl, _, _⟩ := e1
  refine Or.inr ⟨g, 0, rfl, (hown'.lt g rfl).2, fun i hi => ?_⟩
  have hi' : i < rs.length := by simpa using hi
  have fl : ∀ (l : List RN) (i : Nat) (hi : i < l.length) (j : Nat), j < 4 → (l.flatMap RN.cells)[i * 4 + j]? = l[i].cells[j]? := by
    intro l
    induction l with
    | nil => intro i h; simp at h
    | cons x l ih =>
      intro i h j hj
      have hc : x.cells.length = 4 := rfl
      cases i with
      | zero => rw [List.flatMap_cons, List.getElem?_append_left (by omega)]; simp
      | succ i =>
        rw [List.flatMap_cons, List.getElem?_append_right (by omega), hc]
        have := ih i (by simpa using h) j hj
        rw [show (i + 1) * 4 + j - 4 = i * 4 + j by omega]
        simpa using this
  have k : ∀ j (hj : j < 4), w.cell? ⟨g, 0 + i * 4 + j, none⟩ = rs[i].cells[j]? := fun j hj => by
    rw [Nat.zero_add]
    exact (hown'.cellAt (i * 4 + j) (by omega)).trans (fl rs i hi' j hj)
  have em : (rs.map RN.n)[i] = rs[i].n := by simp
  rw [em]
  exact ⟨rs[i].p, rs[i].cp, rs[i].q, rs[i].cq, k 0 (by decide), k 1 (by decide), k 2 (by decide), k 3 (by decide), NtOwn.at' (hr _ (List.getElem_mem hi'))⟩

end Go.Proofs.Ytnhjebdlcbhkcaf
