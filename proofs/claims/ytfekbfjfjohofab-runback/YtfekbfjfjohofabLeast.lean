import Derived.Test.YtfekbfjfjohofabUniq
namespace Go.Proofs.Ytfekbfjfjohofab
open Go.RowKit

/-- of one mark the lesser sign -/
def Least (S : List At) (x : At) : Prop := x ∈ S ∧ ∀ y ∈ S, ordA x y = 0 → x.sign ≤ y.sign

theorem rises_eq : ∀ {l m : List At}, l.Pairwise (fun x y => ordA x y < 0) → m.Pairwise (fun x y => ordA x y < 0) → (∀ x, x ∈ l ↔ x ∈ m) → l = m
  | [], [], _, _, _ => rfl
  | [], y :: m, _, _, h => by have := (h y).2 (List.mem_cons_self ..); simp at this
  | x :: l, [], _, _, h => by have := (h x).1 (List.mem_cons_self ..); simp at this
  | x :: l, y :: m, h1, h2, h => by
    have p1 := List.pairwise_cons.1 h1
    have p2 := List.pairwise_cons.1 h2
    have e : x = y := by
      rcases List.mem_cons.1 ((h x).1 (List.mem_cons_self ..)) with e | e
      · exact e
      rcases List.mem_cons.1 ((h y).2 (List.mem_cons_self ..)) with e' | e'
      · exact e'.symm
      have a1 := p2.1 x e
      have a2 := p1.1 y e'
      have a3 := cmpA.anti x y
      omega
    subst e
    have hirr : ordA x x = 0 := cmpA.refl x
    rw [rises_eq p1.2 p2.2 (fun z => ⟨fun hz => ?_, fun hz => ?_⟩)]
    · rcases List.mem_cons.1 ((h z).1 (List.mem_cons_of_mem _ hz)) with e | e
      · subst e; have := p1.1 z hz; omega
      · exact e
    · rcases List.mem_cons.1 ((h z).2 (List.mem_cons_of_mem _ hz)) with e | e
      · subst e; have := p2.1 z hz; omega
      · exact e
end Go.Proofs.Ytfekbfjfjohofab
