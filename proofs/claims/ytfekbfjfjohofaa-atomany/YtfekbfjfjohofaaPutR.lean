import Derived.Test.YtfekbfjfjohofaaABeg
namespace Go.Proofs.Ytfekbfjfjohofaa
open Go.RowKit

/-- what Put answers -/
def putR (l m : List At) : List At × Int :=
  if orI (chkL l) (chkL m) ≠ 0 then ([], orI (chkL l) (chkL m)) else if 300 < (putL l m).length then ([], 2) else (putL l m, 0)

theorem put_any (a a' : Option Addr) (cap cap' : Nat) (l m : List At) (w : World) (hl : l.length ≤ maxLen) (hm : m.length ≤ maxLen) (h : AtomsAt w a l) (h' : AtomsAt w a' m) :
    Calls Try.prog 21 #[.slice a l.length cap, .slice a' m.length cap'] w fun e w' => ∃ p c, e = .returned (.tuple #[.slice p (putR l m).1.length c, .int .i64 (putR l m).2]) ∧ AtomsAt w' p (putR l m).1 ∧ Below w.heap.size w w' := by
  by_cases h0 : orI (chkL l) (chkL m) ≠ 0
  · have e : putR l m = ([], orI (chkL l) (chkL m)) := by unfold putR; rw [if_pos h0]
    refine (put_bad a a' cap cap' l m w hl hm h h' h0).mono ?_
    rintro x w' ⟨rfl, hb⟩
    rw [e]
    exact ⟨none, 0, rfl, Or.inl rfl, hb⟩
  · obtain ⟨h1, h2⟩ := orI_zero (show orI (chkL l) (chkL m) = 0 by omega)
    by_cases h3 : 300 < (putL l m).length
    · have e : putR l m = ([], 2) := by unfold putR; rw [if_neg h0, if_pos h3]
      refine (put_many a a' cap cap' l m w h h' h1 h2 h3).mono ?_
      rintro x w' ⟨rfl, hb⟩
      rw [e]
      exact ⟨none, 0, rfl, Or.inl rfl, hb⟩
    · have e : putR l m = (putL l m, 0) := by unfold putR; rw [if_neg h0, if_neg h3]
      rw [e]
      exact put_is a a' cap cap' l m w h h' h1 h2 (by omega)

theorem okL_chk {l : List At} (h : OkL l) : chkL l = 0 := by
  have key : ∀ (l : List At) (prev : Option At), (∀ x ∈ l, chk x.path x.clock = 0 ∧ isSignB x.sign = true) → l.Pairwise (fun x y => ordA x y < 0) → (∀ y, prev = some y → ∀ x ∈ l, ordA y x < 0) → chkFrom prev l = 0 := by
    intro l
    induction l with
    | nil => intro _ _ _ _; rfl
    | cons x l ih =>
      intro prev h1 h2 h3
      have p := List.pairwise_cons.1 h2
      have hx := h1 x (List.mem_cons_self ..)
      have hc : chkAt prev x = 0 := by
        unfold chkAt
        rw [if_neg (by rw [hx.1]; decide), if_neg (by rw [hx.2]; decide)]
        cases prev with
        | none => rfl
        | some y =>
          have := h3 y rfl x (List.mem_cons_self ..)
          simp only
          rw [if_neg (by omega)]
      rw [chkFrom_cons, if_neg (by rw [hc]; decide)]
      exact ih (some x) (fun y hy => h1 y (List.mem_cons_of_mem _ hy)) p.2 (fun y hy z hz => by cases hy; exact p.1 z hz)
  unfold chkL
  have := h.len
  rw [if_neg (by omega)]
  exact key l none h.each h.rise (fun y hy => by cases hy)

theorem putL_ok {l m : List At} (h : OkL l) (h' : OkL m) (hn : (putL l m).length ≤ 300) : OkL (putL l m) := by
  obtain ⟨a1, a2⟩ := putL_least h.rise m
  refine ⟨hn, fun x hx => ?_, a1⟩
  rcases List.mem_append.1 ((a2 x).1 hx).1 with g | g
  · exact h.each x g
  · exact h'.each x g
end Go.Proofs.Ytfekbfjfjohofaa
