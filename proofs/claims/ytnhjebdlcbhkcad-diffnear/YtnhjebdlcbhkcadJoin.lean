/- Lists of atoms that Check lets through. -/
import Derived.Test.YtnhjebdlcbhkcadPutPu
import Derived.Test.YtnhjebdlcbhkcadRunCk
import Derived.Test.YtnhjebdlcbhkcadText
namespace Go.Proofs.Ytnhjebdlcbhkcad

theorem okL_chk {l : List At} (h : OkL l) : chkL l = 0 := by
  have key : ∀ (l : List At) (prev : Option At), (∀ x ∈ l, chk x.path x.clock = 0 ∧ isSignB x.sign = true) → l.Pairwise (fun x y => ordA x y < 0) → (∀ y, prev = some y → ∀ x ∈ l, ordA y x < 0) → chkFrom prev l = 0 := by
    intro l
    induction l with
    | nil => intro _ _ _ _; rfl
    | cons x l ih =>
      intro prev h1 h2 h3
      have p := List.pairwise_cons.1 h2
      have hx := h1 x (List.mem_cons_self ..)
      have hc : chkAt prev x = 0 := by
        unfold chkAt
        rw [if_neg (by rw [hx.1]; decide), if_neg (by rw [hx.2]; decide)]
        cases prev with
        | none => rfl
        | some y =>
          have := h3 y rfl x (List.mem_cons_self ..)
          simp only
          rw [if_neg (by omega)]
      rw [chkFrom_cons, if_neg (by rw [hc]; decide)]
      exact ih (some x) (fun y hy => h1 y (List.mem_cons_of_mem _ hy)) p.2 (fun y hy z hz => by cases hy; exact p.1 z hz)
  unfold chkL
  have := h.len
  rw [if_neg (by omega)]
  exact key l none h.each h.rise (fun y hy => by cases hy)

theorem putL_ok {l m : List At} (h : OkL l) (h' : OkL m) (hn : (putL l m).length ≤ 300) : OkL (putL l m) := by
  obtain ⟨a1, a2⟩ := putL_least h.rise m
  refine ⟨hn, fun x hx => ?_, a1⟩
  rcases List.mem_append.1 ((a2 x).1 hx).1 with g | g
  · exact h.each x g
  · exact h'.each x g
end Go.Proofs.Ytnhjebdlcbhkcad

namespace Go.Proofs.Ytnhjebdlcbhkcad
open Go.RowKit

/-- is the second mark what comes next behind the first? -/
def flw (pa : List (Int × Int)) (ca : Int) (pb : List (Int × Int)) (cb : Int) : Bool := ordM (bump pa 1) (ca + 1) pb cb == 0

end Go.Proofs.Ytnhjebdlcbhkcad

namespace Go.Proofs.Ytnhjebdlcbhkcad
open Go.RowKit

/-- the part of a list from f, so many -/
def part (l : List At) (f n : Nat) : List At := (l.drop f).take n

theorem part_len {l : List At} {f n : Nat} (h : f + n ≤ l.length) : (part l f n).length = n := by unfold part; simp; omega
theorem part_get {l : List At} {f n i : Nat} (h : f + n ≤ l.length) (hi : i < n) : (part l f n)[i]'(by rw [part_len h]; exact hi) = l[f + i] := by unfold part; simp

theorem AtomsAt.part {w : World} {b off : Nat} {l : List At} {f n : Nat} (h : AtomsAt w (some ⟨b, off, none⟩) l) (hfn : f + n ≤ l.length) : AtomsAt w (some ⟨b, off + f * 3, none⟩) (part l f n) := by
  rcases h with e | ⟨b', off', e, hb, hc⟩
  · left; unfold Go.Proofs.Ytnhjebdlcbhkcad.part; rw [e]; simp
  · cases e
    refine Or.inr ⟨b, off + f * 3, rfl, hb, fun i hi => ?_⟩
    rw [part_len hfn] at hi
    rw [part_get hfn hi]
    have := hc (f + i) (by omega)
    rwa [show off + (f + i) * 3 = off + f * 3 + i * 3 by omega] at this

theorem OkL.part {l : List At} (h : OkL l) (f n : Nat) : OkL (part l f n) := by
  refine ⟨?_, fun x hx => h.each x (List.mem_of_mem_drop (List.mem_of_mem_take hx)), List.Pairwise.sublist ((List.take_sublist _ _).trans (List.drop_sublist _ _)) h.rise⟩
  have := h.len
  unfold Go.Proofs.Ytnhjebdlcbhkcad.part
  simp; omega

end Go.Proofs.Ytnhjebdlcbhkcad
