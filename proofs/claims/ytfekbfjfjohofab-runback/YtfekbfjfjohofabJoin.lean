/- Contract of run.join; parts of a list of atoms. -/
import Derived.Test.YtfekbfjfjohofabFollows
namespace Go.Proofs.Ytfekbfjfjohofab
open Go.RowKit

/-- the part of a list from f, so many -/
def part (l : List At) (f n : Nat) : List At := (l.drop f).take n

theorem part_len {l : List At} {f n : Nat} (h : f + n ≤ l.length) : (part l f n).length = n := by unfold part; simp; omega
theorem part_get {l : List At} {f n i : Nat} (h : f + n ≤ l.length) (hi : i < n) : (part l f n)[i]'(by rw [part_len h]; exact hi) = l[f + i] := by unfold part; simp

theorem AtomsAt.part {w : World} {b off : Nat} {l : List At} {f n : Nat} (h : AtomsAt w (some ⟨b, off, none⟩) l) (hfn : f + n ≤ l.length) : AtomsAt w (some ⟨b, off + f * 3, none⟩) (part l f n) := by
  rcases h with e | ⟨b', off', e, hb, hc⟩
  · left; unfold Go.Proofs.Ytfekbfjfjohofab.part; rw [e]; simp
  · cases e
    refine Or.inr ⟨b, off + f * 3, rfl, hb, fun i hi => ?_⟩
    rw [part_len hfn] at hi
    rw [part_get hfn hi]
    have := hc (f + i) (by omega)
    rwa [show off + (f + i) * 3 = off + f * 3 + i * 3 by omega] at this

theorem OkL.part {l : List At} (h : OkL l) (f n : Nat) : OkL (part l f n) := by
  refine ⟨?_, fun x hx => h.each x (List.mem_of_mem_drop (List.mem_of_mem_take hx)), List.Pairwise.sublist ((List.take_sublist _ _).trans (List.drop_sublist _ _)) h.rise⟩
  have := h.len
  unfold Go.Proofs.Ytfekbfjfjohofab.part
  simp; omega

set_option maxRecDepth 100000 in
set_option maxHeartbeats 2000000 in
theorem join_ok (b off cap : Nat) (pc : List At) (w : World) (x : At) (hx : pc[0]? = some x) (ok : OkL pc) (h : AtomsAt w (some ⟨b, off, none⟩) pc) :
    Calls Try.prog 40 #[.slice (some ⟨b, off, none⟩) pc.length cap] w fun e w' => ∃ g cap', e = .returned (.agg #[.slice (some ⟨g, 0, none⟩) x.path.length cap', .int .i64 x.clock, .string (txtS pc)]) ∧ w'.ownsRow w.heap.size 88 2 (.slice (some ⟨g, 0, none⟩) x.path.length cap') x.path.length (flatS x.path) ∧ Below w.heap.size w w' := by
  have hl : 0 < pc.length := (List.getElem?_eq_some_iff.1 hx).1
  have hx0 : pc[0] = x := (List.getElem?_eq_some_iff.1 hx).2
  have h0 := okL_chk ok
  have h300 := ok.len
  have hp := okPath ok 0 hl
  have H0 := hidE h0
  clear h0 ok
  have hbA := (Below.refl w.heap.size w).alloc (Nat.le_refl _) (Obj.cells #[.slice none 0 0, .int .i64 0, .string ⟨#[]⟩] 26)
  have q0 : (w.alloc (Obj.cells #[.slice none 0 0, .int .i64 0, .string ⟨#[]⟩] 26)).cell? ⟨w.heap.size, 0, none⟩ = some (.slice none 0 0) := by simp
  have q1 : (w.alloc (Obj.cells #[.slice none 0 0, .int .i64 0, .string ⟨#[]⟩] 26)).cell? ⟨w.heap.size, 1, none⟩ = some (.int .i64 0) := by simp
  have q2 : (w.alloc (Obj.cells #[.slice none 0 0, .int .i64 0, .string ⟨#[]⟩] 26)).cell? ⟨w.heap.size, 2, none⟩ = some (.string ⟨#[]⟩) := by simp
  have q3 : ∀ o, (w.alloc (Obj.cells #[.slice none 0 0, .int .i64 0, .string ⟨#[]⟩] 26)).frozen? ⟨w.heap.size, o, none⟩ = false := fun o => by go_simp
  have z1 : w.heap.size < (w.alloc (Obj.cells #[.slice none 0 0, .int .i64 0, .string ⟨#[]⟩] 26)).heap.size := by simp
  go_enter Try.func40, Try.ntmps40
  go_upto_region 1 with fail
  generalize w.alloc (Obj.cells #[.slice none 0 0, .int .i64 0, .string ⟨#[]⟩] 26) = W at hbA q0 q1 q2 q3 z1 ⊢
  go_wp2_with fail
  refine (text_ok _ _ pc _ (h.below hbA (Nat.le_refl _)) H0.out).mono ?_
  rintro e w2 ⟨rfl, hb2⟩
  have hb := hbA.thru hb2 hbA.size
  obtain ⟨ab, ao, hab, hb', hc⟩ := (h.below hb (Nat.le_refl _)).raw hl
  cases hab
  obtain ⟨⟨p, n, cp, ck, sk⟩, hr, c0, c1, c2⟩ := hc 0 hl
  have hn : n = pc[0].path.length := hr.n
  have hck : ck = pc[0].clock := hr.clock
  have hsk : sk = pc[0].sign := hr.sign
  subst hn hck hsk
  have hst := hr.steps
  clear hr
  simp only [Nat.zero_mul, Nat.add_zero] at c0 c1
  rw [hx0] at c0 c1 c2 hst hp
  clear hx0 hx
  obtain ⟨pb, po, rfl⟩ : ∃ pb po, p = some ⟨pb, po, none⟩ := by
    rcases hst with e | ⟨pb, po, rfl, _⟩
    · have e' : x.path = [] := e
      have : x.path.length = 0 := by rw [e']; rfl
      omega
    · exact ⟨pb, po, rfl⟩
  have hml : x.path.length ≤ maxLen := by unfold maxLen; omega
  have hl1 : (0 : Int) < pc.length := by omega
  clear hc
  go_wp2_with fail
  refine (freshMark_ok pb po _ _ x.path _ _ rfl hml (by omega) hst).mono ?_
  rintro e w3 ⟨g, cap2, rfl, hown, hb3⟩
  have z2 := Nat.lt_of_lt_of_le z1 hb2.size
  have t0 := (hb3.cell (p := ⟨w.heap.size, 0, none⟩) z2).trans ((hb2.cell (p := ⟨w.heap.size, 0, none⟩) z1).trans q0)
  have t1 := (hb3.cell (p := ⟨w.heap.size, 1, none⟩) z2).trans ((hb2.cell (p := ⟨w.heap.size, 1, none⟩) z1).trans q1)
  have t2 := (hb3.cell (p := ⟨w.heap.size, 2, none⟩) z2).trans ((hb2.cell (p := ⟨w.heap.size, 2, none⟩) z1).trans q2)
  have t3 := fun o => (hb3.frozen (p := ⟨w.heap.size, o, none⟩) z2).trans ((hb2.frozen (p := ⟨w.heap.size, o, none⟩) z1).trans (q3 o))
  have hg := (hown.lt g rfl).1
  have hgw : w.heap.size < g := by omega
  clear q0 q1 q2 q3 c0 c1 c2
  go_wp2_with fail
  refine bodyPost_ret (v := .agg #[.slice (some ⟨g, 0, none⟩) x.path.length cap2, .int .i64 x.clock, .string (txtS pc)]) (by simp [results, Try.results40, go_sem, t0, t1, t2]) rfl ⟨g, cap2, rfl, ?_, ?_⟩
  · exact ownsRow_setCell_other (ownsRow_setCell_other (ownsRow_setCell_other (owns_base hown hb.size) (by simp [Value.ownBlock]; omega) _) (by simp [Value.ownBlock]; omega) _) (by simp [Value.ownBlock]; omega) _
  · exact (((hb.thru hb3 hb.size).setCell (by simp) _).setCell (by simp) _).setCell (by simp) _
end Go.Proofs.Ytfekbfjfjohofab
