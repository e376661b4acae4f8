/- The reference's Put, as a plain function. -/
import Derived.Test.YtnhjebdlcbhkcafSortP
import Derived.Test.YtnhjebdlcbhkcafAtomCkR
import Derived.Test.YtnhjebdlcbhkcafPickR
import Derived.Test.YtnhjebdlcbhkcafCmp
namespace Go.Proofs.Ytnhjebdlcbhkcaf
open Go.RowKit

end Go.Proofs.Ytnhjebdlcbhkcaf

namespace Go.Proofs.Ytnhjebdlcbhkcaf
open Go.RowKit

/-- is the mark in the list? -/
def hasGone (l : List (List (Int × Int) × Int)) (p : List (Int × Int)) (c : Int) : Bool := l.any fun x => ordM x.1 x.2 p c == 0

theorem any_split {α : Type} {l : List α} {f : α → Bool} {k : Nat} (h : k < l.length) : (l.drop k).any f = (f l[k] || (l.drop (k + 1)).any f) := by
  rw [List.drop_eq_getElem_cons h, List.any_cons]

end Go.Proofs.Ytnhjebdlcbhkcaf

namespace Go.Proofs.Ytnhjebdlcbhkcaf
open Go.RowKit

def takeL (l : List At) (ms : List (List (Int × Int) × Int)) : List At := l.filter fun x => !hasGone ms x.path x.clock

end Go.Proofs.Ytnhjebdlcbhkcaf

namespace Go.Proofs.Ytnhjebdlcbhkcaf
open Go.RowKit

/-- is the atom at a place gone? -/
def goneAt (l : List At) (ms : List (List (Int × Int) × Int)) (j : Nat) : Bool := match l[j]? with
  | some x => hasGone ms x.path x.clock
  | none => false

theorem goneAt_nil (l : List At) (j : Nat) : goneAt l [] j = false := by unfold goneAt; split <;> rfl

theorem goneAt_snoc (l : List At) (ms : List (List (Int × Int) × Int)) (x : List (Int × Int) × Int) (j : Nat) (h : j < l.length) : goneAt l (ms ++ [x]) j = (goneAt l ms j || (ordM l[j].path l[j].clock x.1 x.2 == 0)) := by
  unfold goneAt
  rw [List.getElem?_eq_getElem h]
  show hasGone _ _ _ = (hasGone _ _ _ || _)
  unfold hasGone
  rw [List.any_append]
  congr 1
  simp only [List.any_cons, List.any_nil, Bool.or_false]
  have := cmpM.anti (l[j].path, l[j].clock) x
  simp only at this
  rw [this]
  by_cases e : ordM x.1 x.2 l[j].path l[j].clock = 0
  · rw [e]; rfl
  · rw [beq_eq_false_iff_ne.2 e, beq_eq_false_iff_ne.2 (by omega)]

theorem pickTo_take (l : List At) (ms : List (List (Int × Int) × Int)) : ∀ k, k ≤ l.length → pickTo (fun j => !goneAt l ms j) l k = takeL (l.take k) ms
  | 0, _ => rfl
  | k + 1, hk => by
    have hlt : k < l.length := by omega
    have ih := pickTo_take l ms k (by omega)
    show (pickTo (fun j => !goneAt l ms j) l k ++ if (!goneAt l ms k) = true then l[k]?.toList else []) = _
    rw [ih, List.take_succ_eq_append_getElem hlt]
    unfold takeL
    rw [List.filter_append]
    congr 1
    unfold goneAt
    rw [List.getElem?_eq_getElem hlt]
    simp only [List.filter_cons, List.filter_nil]
    split <;> simp_all
end Go.Proofs.Ytnhjebdlcbhkcaf

namespace Go.Proofs.Ytnhjebdlcbhkcaf

def putL (l m : List At) : List At := m.foldl (fun acc a => putA a acc false) l

theorem stepPut_len (a x : At) (put : Bool) : (stepPut a x put).1.length + (if put then 1 else 0) ≤ 1 + (if (stepPut a x put).2 then 1 else 0) := by
  unfold stepPut
  by_cases h1 : 0 < ordA x a
  · rw [if_pos h1]; cases put <;> simp
  · rw [if_neg h1]
    by_cases h2 : ordA x a = 0
    · rw [if_pos h2]; cases put <;> simp
    · rw [if_neg h2]; cases put <;> simp
theorem putA_len (a : At) : ∀ (l : List At) (put : Bool), (putA a l put).length + (if put then 1 else 0) ≤ l.length + 1
  | [], put => by cases put <;> simp [putA]
  | x :: l, put => by
    have h1 := stepPut_len a x put
    have h2 := putA_len a l (stepPut a x put).2
    show ((stepPut a x put).1 ++ putA a l (stepPut a x put).2).length + _ ≤ _
    rw [List.length_append, List.length_cons]
    omega

end Go.Proofs.Ytnhjebdlcbhkcaf

namespace Go.Proofs.Ytnhjebdlcbhkcaf
open Go.RowKit

/-- are two atoms the same: sign and mark -/
def sameAt (x y : At) : Bool := x.sign == y.sign && (ordM x.path x.clock y.path y.clock == 0)
/-- SameAtoms -/
def sameL : List At → List At → Bool
  | [], [] => true
  | x :: l, y :: m => sameAt x y && sameL l m
  | _, _ => false

theorem sameL_drop {l m : List At} {k : Nat} (h : k < l.length) (h' : k < m.length) : sameL (l.drop k) (m.drop k) = (sameAt l[k] m[k] && sameL (l.drop (k + 1)) (m.drop (k + 1))) := by
  rw [List.drop_eq_getElem_cons h, List.drop_eq_getElem_cons h']; rfl
theorem sameL_len : ∀ {l m : List At}, l.length ≠ m.length → sameL l m = false
  | [], [], h => absurd rfl h
  | [], _ :: _, _ => rfl
  | _ :: _, [], _ => rfl
  | x :: l, y :: m, h => by show (sameAt x y && sameL l m) = false; rw [sameL_len (l := l) (m := m) (by simpa using h), Bool.and_false]

end Go.Proofs.Ytnhjebdlcbhkcaf

namespace Go.Proofs.Ytnhjebdlcbhkcaf
open Go.RowKit

theorem ordI_zero {a b : Int} (h : ordI a b = 0) : a = b := by
  unfold ordI at h
  split at h
  · omega
  · split at h <;> omega
theorem orI_zero {a b : Int} (h : orI a b = 0) : a = 0 ∧ b = 0 := by
  unfold orI at h; split at h <;> simp_all
theorem ordM_zero {l m : List (Int × Int)} {c d : Int} (h : ordM l c m d = 0) : l = m ∧ c = d := by
  obtain ⟨h1, h2⟩ := orI_zero h
  exact ⟨ordP_zero h1, ordI_zero h2⟩
theorem sameL_refl : ∀ l : List At, sameL l l = true
  | [] => rfl
  | x :: l => by
    show (sameAt x x && sameL l l) = true
    rw [sameL_refl l, Bool.and_true]
    unfold sameAt
    have : ordM x.path x.clock x.path x.clock = 0 := cmpM.refl (x.path, x.clock)
    rw [this]; simp
end Go.Proofs.Ytnhjebdlcbhkcaf

namespace Go.Proofs.Ytnhjebdlcbhkcaf
open Go.RowKit

/-- of one mark the lesser sign -/
def Least (S : List At) (x : At) : Prop := x ∈ S ∧ ∀ y ∈ S, ordA x y = 0 → x.sign ≤ y.sign

theorem rises_eq : ∀ {l m : List At}, l.Pairwise (fun x y => ordA x y < 0) → m.Pairwise (fun x y => ordA x y < 0) → (∀ x, x ∈ l ↔ x ∈ m) → l = m
  | [], [], _, _, _ => rfl
  | [], y :: m, _, _, h => by have := (h y).2 (List.mem_cons_self ..); simp at this
  | x :: l, [], _, _, h => by have := (h x).1 (List.mem_cons_self ..); simp at this
  | x :: l, y :: m, h1, h2, h => by
    have p1 := List.pairwise_cons.1 h1
    have p2 := List.pairwise_cons.1 h2
    have e : x = y := by
      rcases List.mem_cons.1 ((h x).1 (List.mem_cons_self ..)) with e | e
      · exact e
      rcases List.mem_cons.1 ((h y).2 (List.mem_cons_self ..)) with e' | e'
      · exact e'.symm
      have a1 := p2.1 x e
      have a2 := p1.1 y e'
      have a3 := cmpA.anti x y
      omega
    subst e
    have hirr : ordA x x = 0 := cmpA.refl x
    rw [rises_eq p1.2 p2.2 (fun z => ⟨fun hz => ?_, fun hz => ?_⟩)]
    · rcases List.mem_cons.1 ((h z).1 (List.mem_cons_of_mem _ hz)) with e | e
      · subst e; have := p1.1 z hz; omega
      · exact e
    · rcases List.mem_cons.1 ((h z).2 (List.mem_cons_of_mem _ hz)) with e | e
      · subst e; have := p2.1 z hz; omega
      · exact e
end Go.Proofs.Ytnhjebdlcbhkcaf
