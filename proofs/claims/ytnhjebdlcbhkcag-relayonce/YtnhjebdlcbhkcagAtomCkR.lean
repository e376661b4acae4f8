/- General words: hidden facts, rows of marks in memory, cells that are held. -/
import Derived.Test.YtnhjebdlcbhkcagRefC
import Derived.Lib.QuietBelow
import Derived.Deep.RegionLawGrows
import Derived.Deep.RegionHeldLaw
namespace Go.Proofs.Ytnhjebdlcbhkcag
open Go.RowKit

theorem hidE {p : Prop} (h : p) : Hid p := h

/-- the cells behind a slice's address hold these marks -/
def MarksAt (w : World) (a : Option Addr) (ms : List (List (Int × Int) × Int)) : Prop :=
  ms = [] ∨ ∃ b off, a = some ⟨b, off, none⟩ ∧ b < w.heap.size ∧ ∀ i (h : i < ms.length), ∃ p cap, w.cell? ⟨b, off + i * 2, none⟩ = some (.slice p ms[i].1.length cap) ∧ w.cell? ⟨b, off + i * 2 + 1, none⟩ = some (.int .i64 ms[i].2) ∧ StepsAt w p ms[i].1 ∧ ms[i].1.length ≤ maxLen

theorem MarksAt.below {w w' : World} {a : Option Addr} {l : List (List (Int × Int) × Int)} {B : Nat} (h : MarksAt w a l) (hb : Below B w w') (hB : w.heap.size ≤ B) : MarksAt w' a l := by
  rcases h with h | ⟨b, off, rfl, hlt, hc⟩
  · exact Or.inl h
  · refine Or.inr ⟨b, off, rfl, Nat.lt_of_lt_of_le hlt hb.size, fun i hi => ?_⟩
    obtain ⟨p, cap, h1, h2, h3, h4⟩ := hc i hi
    exact ⟨p, cap, (hb.cell (p := ⟨b, off + i * 2, none⟩) (by show b < B; omega)).trans h1, (hb.cell (p := ⟨b, off + i * 2 + 1, none⟩) (by show b < B; omega)).trans h2, h3.below hb hB, h4⟩

theorem cellSome_set {w : World} {a p : Addr} {u v : Value} (h : w.cell? p = some v) : ∃ v', (w.setCell a u).cell? p = some v' := by
  by_cases e : a = p
  · subst e; exact ⟨u, World.cell?_setCell_same _ _ _ h⟩
  · exact ⟨v, (World.cell?_setCell_other _ _ _ _ e).trans h⟩

theorem stepsAt_new (w : World) (l : List (Int × Int)) : StepsAt (w.alloc (.cells (flatS l).toArray 72)) (some ⟨w.heap.size, 0, none⟩) l := by
  refine Or.inr ⟨w.heap.size, 0, rfl, by simp, fun i hi => ?_⟩
  have := flatS_get l i hi
  rw [World.cell?_alloc_new, World.cell?_alloc_new, Nat.zero_add]
  simpa using this

/-- these cells hold these values -/
def Holds (w : World) (l : List (Nat × Nat × Value)) : Prop := ∀ x ∈ l, x.1 < w.heap.size ∧ w.cell? ⟨x.1, x.2.1, none⟩ = some x.2.2
theorem Holds.below {w w' : World} {l : List (Nat × Nat × Value)} {B : Nat} (h : Holds w l) (hb : Below B w w') (hB : w.heap.size ≤ B) : Holds w' l := fun x hx =>
  ⟨Nat.lt_of_lt_of_le (h x hx).1 hb.size, (hb.cell (p := ⟨x.1, x.2.1, none⟩) (Nat.lt_of_lt_of_le (h x hx).1 hB)).trans (h x hx).2⟩
theorem holds_cons {w : World} {b o : Nat} {v : Value} {l : List (Nat × Nat × Value)} : Holds w ((b, o, v) :: l) ↔ (b < w.heap.size ∧ w.cell? ⟨b, o, none⟩ = some v) ∧ Holds w l := by
  unfold Holds; simp
theorem holds_nil {w : World} : Holds w [] ↔ True := by unfold Holds; simp
theorem holds_at {w : World} {b o : Nat} {v : Value} (h : w.cell? ⟨b, o, none⟩ = some v) : b < w.heap.size ∧ w.cell? ⟨b, o, none⟩ = some v := ⟨block_lt_of_cell h, h⟩

end Go.Proofs.Ytnhjebdlcbhkcag

namespace Go.Proofs.Ytnhjebdlcbhkcag
open Go.RowKit

set_option maxHeartbeats 1000000 in
theorem at_any (d s c : Int) (w : World) :
    Calls Try.prog 27 #[.int .i64 d, .int .i64 s, .int .i64 c] w fun e w' => e = .returned (.agg #[.slice (some ⟨w.heap.size + 1, 0, none⟩) 1 1, .int .i64 c]) ∧ StepsAt w' (some ⟨w.heap.size + 1, 0, none⟩) [(d, s)] ∧ Below w.heap.size w w' := by
  go_enter Try.func27, Try.ntmps27
  go_wp2
  refine bodyPost_ret (v := .agg #[.slice (some ⟨w.heap.size + 1, 0, none⟩) 1 1, .int .i64 c]) (by simp [results, Try.results27, go_sem]) rfl ⟨rfl, ?_, ?_⟩
  · have := stepsAt_new (w.alloc (Obj.cells #[.slice (some ⟨w.heap.size + 1, 0, none⟩) 1 1, .int .i64 c] 50)) [(d, s)]
    simpa [flatS] using this
  · exact ((Below.refl _ _).alloc (Nat.le_refl _) _).alloc (by simp) _

theorem next_n (a : Option Addr) (cap k : Nat) (l : List (Int × Int)) (c n : Int) (w : World) (hk : k = l.length) (hl : l.length ≤ maxLen) (h : StepsAt w a l) :
    Calls Try.prog 38 #[.agg #[.slice a k cap, .int .i64 c], .int .i64 n] w (NextGives w l c n) := by
  subst hk; exact next_any a cap l c n w hl h
end Go.Proofs.Ytnhjebdlcbhkcag

namespace Go.Proofs.Ytnhjebdlcbhkcag
open Go.RowKit

theorem owns_form {w : World} {base : Nat} {e : TypeId} {size : Nat} {v : Value} {n : Nat} {xs : List Value} (h : w.ownsRow base e size v n xs) (hn : 0 < n) : ∃ g cap, v = .slice (some ⟨g, 0, none⟩) n cap := by
  rcases h.2 with ⟨_, h0⟩ | ⟨g, cap, cur, rfl, _⟩
  · omega
  · exact ⟨g, cap, rfl⟩

theorem keepB {w1 w' : World} {z : Nat} {v0 v1 : Value} (hb : Below w1.heap.size w1 w') (q0 : w1.cell? ⟨z, 0, none⟩ = some v0) (q1 : w1.cell? ⟨z, 1, none⟩ = some v1) (hz : z < w1.heap.size) :
    Below w1.heap.size w1 w' ∧ w'.cell? ⟨z, 0, none⟩ = some v0 ∧ w'.cell? ⟨z, 1, none⟩ = some v1 :=
  ⟨hb, (hb.cell (p := ⟨z, 0, none⟩) hz).trans q0, (hb.cell (p := ⟨z, 1, none⟩) hz).trans q1⟩

end Go.Proofs.Ytnhjebdlcbhkcag

namespace Go.Proofs.Ytnhjebdlcbhkcag
open Go.RowKit

end Go.Proofs.Ytnhjebdlcbhkcag

namespace Go.Proofs.Ytnhjebdlcbhkcag
open Go.RowKit

end Go.Proofs.Ytnhjebdlcbhkcag

namespace Go.Proofs.Ytnhjebdlcbhkcag
open Go.RowKit

/-- a sign's atom: its path, its clock, its byte -/
structure At where
  path : List (Int × Int)
  clock : Int
  sign : Int

/-- the cells behind a slice's address hold these atoms -/
def AtomsAt (w : World) (a : Option Addr) (l : List At) : Prop :=
  l = [] ∨ ∃ b off, a = some ⟨b, off, none⟩ ∧ b < w.heap.size ∧ ∀ i (h : i < l.length), ∃ p cap, w.cell? ⟨b, off + i * 3, none⟩ = some (.slice p l[i].path.length cap) ∧ w.cell? ⟨b, off + i * 3 + 1, none⟩ = some (.int .i64 l[i].clock) ∧ w.cell? ⟨b, off + i * 3 + 2, none⟩ = some (.int .u8 l[i].sign) ∧ StepsAt w p l[i].path ∧ l[i].path.length ≤ maxLen ∧ l[i].path.length ≤ cap ∧ 0 ≤ l[i].sign ∧ l[i].sign ≤ 255

theorem AtomsAt.below {w w' : World} {a : Option Addr} {l : List At} {B : Nat} (h : AtomsAt w a l) (hb : Below B w w') (hB : w.heap.size ≤ B) : AtomsAt w' a l := by
  rcases h with h | ⟨b, off, rfl, hlt, hc⟩
  · exact Or.inl h
  · refine Or.inr ⟨b, off, rfl, Nat.lt_of_lt_of_le hlt hb.size, fun i hi => ?_⟩
    obtain ⟨p, cap, h1, h2, h3, h4, h5⟩ := hc i hi
    exact ⟨p, cap, (hb.cell (p := ⟨b, off + i * 3, none⟩) (by show b < B; omega)).trans h1, (hb.cell (p := ⟨b, off + i * 3 + 1, none⟩) (by show b < B; omega)).trans h2, (hb.cell (p := ⟨b, off + i * 3 + 2, none⟩) (by show b < B; omega)).trans h3, h4.below hb hB, h5⟩

def ordA (x y : At) : Int := ordM x.path x.clock y.path y.clock
def isSignB (s : Int) : Bool := inB s 32 126

set_option maxHeartbeats 400000 in
theorem signIs_any (s : Int) (w : World) (_h0 : 0 ≤ s) (_h1 : s ≤ 255) :
    Calls Try.prog 49 #[.int .u8 s] w fun e w' => e = .returned (.bool (isSignB s)) ∧ w' = w := by
  by_cases h1 : 32 ≤ s <;> by_cases h2 : s ≤ 126
  all_goals
    go_enter Try.func49, Try.ntmps49
    go_wp2
    go_ret
    exact ⟨by simp [isSignB, inB, h1, h2], rfl⟩


/-- what Check of one atom behind another answers (none ahead: the first) -/
def chkAt (prev : Option At) (x : At) : Int :=
  if chk x.path x.clock ≠ 0 then chk x.path x.clock else if isSignB x.sign = false then 3 else match prev with
    | none => 0
    | some y => if 0 ≤ ordA y x then 4 else 0
def chkFrom (prev : Option At) : List At → Int
  | [] => 0
  | x :: l => if chkAt prev x ≠ 0 then chkAt prev x else chkFrom (some x) l
def chkL (l : List At) : Int := if 300 < l.length then 2 else chkFrom none l

theorem chkFrom_cons (prev : Option At) (x : At) (l : List At) : chkFrom prev (x :: l) = if chkAt prev x ≠ 0 then chkAt prev x else chkFrom (some x) l := rfl

def prevOf (l : List At) (k : Nat) : Option At := if k = 0 then none else l[k - 1]?

end Go.Proofs.Ytnhjebdlcbhkcag

namespace Go.Proofs.Ytnhjebdlcbhkcag
open Go.RowKit

end Go.Proofs.Ytnhjebdlcbhkcag
