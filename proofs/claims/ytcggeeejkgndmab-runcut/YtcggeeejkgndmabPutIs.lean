import Derived.Test.YtcggeeejkgndmabPutW
import Derived.Test.YtcggeeejkgndmabHi
import Derived.Test.YtcggeeejkgndmabPickN
import Derived.Deep.DeepCutAuto
namespace Go.Proofs.Ytcggeeejkgndmab
open Go.RowKit

theorem hiL_chk : chkL hiL = 0 := by decide
theorem hi1_chk : chkL (hiL.drop 1) = 0 := by decide
theorem hi0_chk : chkL (hiL.take 1) = 0 := by decide
theorem hi_put : putL (hiL.drop 1) (hiL.take 1) = hiL := by rfl
theorem hi_take : takeL hiL [([(3, 0)], 1)] = hiL.drop 1 := by rfl
theorem hi_txt : txtS hiL = ⟨#[104, 105]⟩ := by rfl

/-- Put of two lists that Check lets through, if not too many come out -/
theorem put_is (a a' : Option Addr) (cap cap' : Nat) (l m : List At) (w : World) (h : AtomsAt w a l) (h' : AtomsAt w a' m) (h0 : chkL l = 0) (h0' : chkL m = 0) (hn : (putL l m).length ≤ 300) :
    Calls Try.prog 89 #[.slice a l.length cap, .slice a' m.length cap'] w fun e w' => ∃ p c, e = .returned (.tuple #[.slice p (putL l m).length c, .int .i64 0]) ∧ AtomsAt w' p (putL l m) ∧ Below w.heap.size w w' := by
  refine (put_ok a a' cap cap' l m w h h' h0 h0').mono ?_
  rintro e w' ⟨hc, hb⟩
  rcases hc with ⟨h1, _⟩ | ⟨_, p, c, he, hat, _⟩
  · omega
  · exact ⟨p, c, he, hat, hb⟩
theorem put_many (a a' : Option Addr) (cap cap' : Nat) (l m : List At) (w : World) (h : AtomsAt w a l) (h' : AtomsAt w a' m) (h0 : chkL l = 0) (h0' : chkL m = 0) (hn : 300 < (putL l m).length) :
    Calls Try.prog 89 #[.slice a l.length cap, .slice a' m.length cap'] w fun e w' => e = .returned (.tuple #[.slice none 0 0, .int .i64 2]) ∧ Below w.heap.size w w' := by
  refine (put_ok a a' cap cap' l m w h h' h0 h0').mono ?_
  rintro e w' ⟨hc, hb⟩
  rcases hc with ⟨_, he⟩ | ⟨h1, _⟩
  · exact ⟨he, hb⟩
  · omega
theorem take_is (a a' : Option Addr) (cap cap' : Nat) (l : List At) (ms : List (List (Int × Int) × Int)) (w : World) (h : AtomsAt w a l) (h0 : chkL l = 0) (hm : ms.length ≤ maxLen) (h' : MarksAt w a' ms) :
    Calls Try.prog 110 #[.slice a l.length cap, .slice a' ms.length cap'] w fun e w' => ∃ p c, e = .returned (.tuple #[.slice p (takeL l ms).length c, .int .i64 0]) ∧ AtomsAt w' p (takeL l ms) ∧ Below w.heap.size w w' := by
  refine (take_ok a a' cap cap' l ms w h h0 hm h').mono ?_
  rintro e w' ⟨p, c, he, hat, _, hb⟩
  exact ⟨p, c, he, hat, hb⟩
end Go.Proofs.Ytcggeeejkgndmab
