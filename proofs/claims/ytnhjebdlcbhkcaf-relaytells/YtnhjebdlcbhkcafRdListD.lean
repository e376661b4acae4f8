/- Contracts of wire's reader: bytes. -/
import Derived.Test.YtnhjebdlcbhkcafWireRd
import Derived.Test.YtnhjebdlcbhkcafRowOwn
import Derived.Test.YtnhjebdlcbhkcafWrNote
namespace Go.Proofs.Ytnhjebdlcbhkcaf
open Go.RowKit

theorem size_nil {s : ByteArray} (h : s.size = 0) : s.data.toList = [] := List.length_eq_zero_iff.1 (by simpa using h)
theorem cons_bytes {s : ByteArray} (h : 0 < s.size) : s.data.toList = s[0] :: (s.extract 1 s.size).data.toList := by
  have e : (s.extract 1 s.size).data.toList = s.data.toList.drop 1 := by
    rw [ByteArray.data_extract, Array.toList_extract]
    simp [List.extract]
    exact List.take_of_length_le (by simp)
  have h' : 0 < s.data.toList.length := by simpa using h
  rw [e]
  conv => lhs; rw [← List.drop_zero (l := s.data.toList), List.drop_eq_getElem_cons h']
  rfl

end Go.Proofs.Ytnhjebdlcbhkcaf

namespace Go.Proofs.Ytnhjebdlcbhkcaf
open Go.RowKit

theorem info_i64 : ∃ i, Try.prog.info? 3 = some i ∧ i.zero = some (.int .i64 0) ∧ i.size = 1 ∧ i.bytes = 8 := by
  have h : (Try.prog.info? 3).map (fun i => (i.zero, i.size, i.bytes)) = some (some (.int .i64 0), 1, 8) := by kernel_rfl
  rw [Option.map_eq_some_iff] at h
  obtain ⟨i, hi, he⟩ := h
  simp only [Prod.mk.injEq] at he
  exact ⟨i, hi, he⟩
theorem info_u8b : ∃ i, Try.prog.info? 5 = some i ∧ i.zero = some (.int .u8 0) ∧ i.size = 1 ∧ i.bytes = 1 := by
  have h : (Try.prog.info? 5).map (fun i => (i.zero, i.size, i.bytes)) = some (some (.int .u8 0), 1, 1) := by kernel_rfl
  rw [Option.map_eq_some_iff] at h
  obtain ⟨i, hi, he⟩ := h
  simp only [Prod.mk.injEq] at he
  exact ⟨i, hi, he⟩

end Go.Proofs.Ytnhjebdlcbhkcaf

namespace Go.Proofs.Ytnhjebdlcbhkcaf
open Go.RowKit

theorem info_step : ∃ i, Try.prog.info? 77 = some i ∧ i.zero = some (.agg #[.int .i64 0, .int .i64 0]) ∧ i.size = 2 ∧ i.bytes = 16 := by
  have h : (Try.prog.info? 77).map (fun i => (i.zero, i.size, i.bytes)) = some (some (.agg #[.int .i64 0, .int .i64 0]), 2, 16) := by kernel_rfl
  rw [Option.map_eq_some_iff] at h
  obtain ⟨i, hi, he⟩ := h
  simp only [Prod.mk.injEq] at he
  exact ⟨i, hi, he⟩

end Go.Proofs.Ytnhjebdlcbhkcaf

namespace Go.Proofs.Ytnhjebdlcbhkcaf
open Go.RowKit

theorem flatS_eq (l : List (Int × Int)) : l.flatMap (fun y : Int × Int => [Value.int .i64 y.1, Value.int .i64 y.2]) = flatS l := rfl

/-- the local blocks: their own, and behind all that was -/
theorem grownBy_new {w w' w'' : World} {row : Option Nat} {N : Nat} (h : w.grownBy w' row) (k : w'.grownBy w'' (some N)) (hN : w.heap.size ≤ N) : w.grownBy w'' row :=
  grownBy_own h k (fun g q => Or.inl (by cases q; exact hN))

theorem flatMap_u8 : ∀ l : List Int, l.flatMap (fun y => [Value.int .u8 y]) = l.map (Value.int .u8)
  | [] => rfl
  | x :: l => by rw [List.flatMap_cons, flatMap_u8 l]; rfl
end Go.Proofs.Ytnhjebdlcbhkcaf

namespace Go.Proofs.Ytnhjebdlcbhkcaf
open Go.RowKit

/-- a deed with where its paths lie -/
structure RD where
  d : Dd
  p : Option Addr
  q : Option Addr
  cp : Nat
  cq : Nat
def RD.cells (r : RD) : List Value := [.int .i64 r.d.kind, .slice r.p r.d.rp.length r.cp, .int .i64 r.d.rc, .string r.d.rt, .slice r.q r.d.mp.length r.cq, .int .i64 r.d.mc, .int .i64 r.d.many]
/-- its paths are the call's own -/
structure DdOwn (w : World) (base : Nat) (r : RD) : Prop where
  run : w.ownsRow base 77 2 (.slice r.p r.d.rp.length r.cp) r.d.rp.length (flatS r.d.rp)
  mark : w.ownsRow base 77 2 (.slice r.q r.d.mp.length r.cq) r.d.mp.length (flatS r.d.mp)
  rl : r.d.rp.length ≤ 255
  ml : r.d.mp.length ≤ 255
  tl : r.d.rt.size ≤ 255
  n0 : 0 ≤ r.d.many
  n1 : r.d.many ≤ 255

theorem DdOwn.stays (R : Nat) : Stays 54 R DdOwn :=
  ⟨fun _ _ _ _ h hR hg => ⟨h.run.kept hg (Or.inr (own_apart h.run hR)), h.mark.kept hg (Or.inr (own_apart h.mark hR)), h.rl, h.ml, h.tl, h.n0, h.n1⟩,
   fun _ _ _ _ _ _ _ _ h ho hg => ⟨h.run.kept hg (types_apart h.run ho (by decide)), h.mark.kept hg (types_apart h.mark ho (by decide)), h.rl, h.ml, h.tl, h.n0, h.n1⟩⟩

abbrev zeroD : Array Value := #[.int .i64 0, .slice none 0 0, .int .i64 0, .string ⟨#[]⟩, .slice none 0 0, .int .i64 0, .int .i64 0]

/-- seven cells, filled -/
def put7 (w : World) (N : Nat) (a b c d e f g : Value) : World := ((((((w.setCell ⟨N, 0, none⟩ a).setCell ⟨N, 1, none⟩ b).setCell ⟨N, 2, none⟩ c).setCell ⟨N, 3, none⟩ d).setCell ⟨N, 4, none⟩ e).setCell ⟨N, 5, none⟩ f).setCell ⟨N, 6, none⟩ g
theorem fill7 {w : World} {N : Nat} {t : TypeId} (h : Blk w N zeroD t) (a b c d e f g : Value) : Blk (put7 w N a b c d e f g) N #[a, b, c, d, e, f, g] t ∧ w.grownBy (put7 w N a b c d e f g) (some N) := by
  refine ⟨((((((h.set 0 a).set 1 b).set 2 c).set 3 d).set 4 e).set 5 f).set 6 g, ?_⟩
  unfold put7
  exact ((((((grownBy_set' w N 0 a).trans (grownBy_set' _ N 1 b)).trans (grownBy_set' _ N 2 c)).trans (grownBy_set' _ N 3 d)).trans (grownBy_set' _ N 4 e)).trans (grownBy_set' _ N 5 f)).trans (grownBy_set' _ N 6 g)

end Go.Proofs.Ytnhjebdlcbhkcaf

namespace Go.Proofs.Ytnhjebdlcbhkcaf
open Go.RowKit

theorem DdOwn.mono {w : World} {base base' : Nat} {x : RD} (h : DdOwn w base x) (hb : base' ≤ base) : DdOwn w base' x := ⟨owns_base h.run hb, owns_base h.mark hb, h.rl, h.ml, h.tl, h.n0, h.n1⟩
theorem DdOwn.grown {w w' : World} {base N : Nat} {x : RD} (h : DdOwn w base x) (hg : w.grownBy w' (some N)) (hN : N < base) : DdOwn w' base x := ⟨h.run.kept hg (Or.inr (own_apart h.run hN)), h.mark.kept hg (Or.inr (own_apart h.mark hN)), h.rl, h.ml, h.tl, h.n0, h.n1⟩
theorem info_deed : ∃ i, Try.prog.info? 54 = some i ∧ i.zero = some (.agg #[.int .i64 0, .slice none 0 0, .int .i64 0, .string ⟨#[]⟩, .slice none 0 0, .int .i64 0, .int .i64 0]) ∧ i.size = 7 ∧ i.bytes = 96 := by
  have h : (Try.prog.info? 54).map (fun i => (i.zero, i.size, i.bytes)) = some (some (.agg #[.int .i64 0, .slice none 0 0, .int .i64 0, .string ⟨#[]⟩, .slice none 0 0, .int .i64 0, .int .i64 0]), 7, 96) := by kernel_rfl
  rw [Option.map_eq_some_iff] at h
  obtain ⟨i, hi, he⟩ := h
  simp only [Prod.mk.injEq] at he
  exact ⟨i, hi, he⟩

end Go.Proofs.Ytnhjebdlcbhkcaf
