/- Contract of atom.Check. -/
import Derived.Test.YtnhjebdlcbhkcafOwnsF
namespace Go.Proofs.Ytnhjebdlcbhkcaf
open Go.RowKit

/-- a sign's atom: its path, its clock, its byte -/
structure At where
  path : List (Int × Int)
  clock : Int
  sign : Int

/-- the cells behind a slice's address hold these atoms -/
def AtomsAt (w : World) (a : Option Addr) (l : List At) : Prop :=
  l = [] ∨ ∃ b off, a = some ⟨b, off, none⟩ ∧ b < w.heap.size ∧ ∀ i (h : i < l.length), ∃ p cap, w.cell? ⟨b, off + i * 3, none⟩ = some (.slice p l[i].path.length cap) ∧ w.cell? ⟨b, off + i * 3 + 1, none⟩ = some (.int .i64 l[i].clock) ∧ w.cell? ⟨b, off + i * 3 + 2, none⟩ = some (.int .u8 l[i].sign) ∧ StepsAt w p l[i].path ∧ l[i].path.length ≤ maxLen ∧ l[i].path.length ≤ cap ∧ 0 ≤ l[i].sign ∧ l[i].sign ≤ 255

theorem AtomsAt.below {w w' : World} {a : Option Addr} {l : List At} {B : Nat} (h : AtomsAt w a l) (hb : Below B w w') (hB : w.heap.size ≤ B) : AtomsAt w' a l := by
  rcases h with h | ⟨b, off, rfl, hlt, hc⟩
  · exact Or.inl h
  · refine Or.inr ⟨b, off, rfl, Nat.lt_of_lt_of_le hlt hb.size, fun i hi => ?_⟩
    obtain ⟨p, cap, h1, h2, h3, h4, h5⟩ := hc i hi
    exact ⟨p, cap, (hb.cell (p := ⟨b, off + i * 3, none⟩) (by show b < B; omega)).trans h1, (hb.cell (p := ⟨b, off + i * 3 + 1, none⟩) (by show b < B; omega)).trans h2, (hb.cell (p := ⟨b, off + i * 3 + 2, none⟩) (by show b < B; omega)).trans h3, h4.below hb hB, h5⟩

def ordA (x y : At) : Int := ordM x.path x.clock y.path y.clock
def isSignB (s : Int) : Bool := inB s 32 126

set_option maxHeartbeats 400000 in
theorem signIs_any (s : Int) (w : World) (_h0 : 0 ≤ s) (_h1 : s ≤ 255) :
    Calls Try.prog 60 #[.int .u8 s] w fun e w' => e = .returned (.bool (isSignB s)) ∧ w' = w := by
  by_cases h1 : 32 ≤ s <;> by_cases h2 : s ≤ 126
  all_goals
    go_enter Try.func60, Try.ntmps60
    go_wp2
    go_ret
    exact ⟨by simp [isSignB, inB, h1, h2], rfl⟩


/-- what Check of one atom behind another answers (none ahead: the first) -/
def chkAt (prev : Option At) (x : At) : Int :=
  if chk x.path x.clock ≠ 0 then chk x.path x.clock else if isSignB x.sign = false then 3 else match prev with
    | none => 0
    | some y => if 0 ≤ ordA y x then 4 else 0
def chkFrom (prev : Option At) : List At → Int
  | [] => 0
  | x :: l => if chkAt prev x ≠ 0 then chkAt prev x else chkFrom (some x) l
def chkL (l : List At) : Int := if 300 < l.length then 2 else chkFrom none l

theorem chkFrom_cons (prev : Option At) (x : At) (l : List At) : chkFrom prev (x :: l) = if chkAt prev x ≠ 0 then chkAt prev x else chkFrom (some x) l := rfl

def prevOf (l : List At) (k : Nat) : Option At := if k = 0 then none else l[k - 1]?

end Go.Proofs.Ytnhjebdlcbhkcaf

namespace Go.Proofs.Ytnhjebdlcbhkcaf
open Go.RowKit

set_option maxHeartbeats 400000 in
theorem isSign_any (s : Int) (w : World) (h0 : 0 ≤ s) (h1 : s ≤ 255) :
    Calls Try.prog 50 #[.int .u8 s] w fun e w' => e = .returned (.bool (isSignB s)) ∧ w' = w := by
  have hw : IntKind.i64.wrap s = s := by rw [IntKind.wrap_i64] <;> omega
  go_enter Try.func50, Try.ntmps50
  go_wp2_with (go_at_call 17; refine (between_any _ _ _ _).mono ?_; rintro e w' ⟨rfl, rfl⟩)
  go_ret
  exact ⟨by rfl, rfl⟩

end Go.Proofs.Ytnhjebdlcbhkcaf
