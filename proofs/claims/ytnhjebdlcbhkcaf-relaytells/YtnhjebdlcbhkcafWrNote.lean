/- The memory of wire's writer. -/
import Derived.Test.YtnhjebdlcbhkcafRowOwn
import Derived.Test.YtnhjebdlcbhkcafWirePu
import Derived.Test.YtnhjebdlcbhkcafAtomCkR
import Derived.Deep.OwnRows
import Derived.Laws.BytesArg
namespace Go.Proofs.Ytnhjebdlcbhkcaf
open Go.RowKit

/-- all stays but the writer and rows of bytes behind base -/
structure KeptW (R base : Nat) (w w' : World) : Prop where
  os : w'.os = w.os
  tape : w'.tape = w.tape
  output : w'.output = w.output
  size : w.heap.size ≤ w'.heap.size
  block : ∀ k, k < w.heap.size → k ≠ R → (k < base ∨ ∀ cs z, w.heap[k]? ≠ some (.cells cs 5 z)) → w'.heap[k]? = w.heap[k]?

section
variable {w w' w1 : World} {R base : Nat} {v v' : Value} {l : List Int}
theorem KeptW.refl (R base : Nat) (w : World) : KeptW R base w w := ⟨rfl, rfl, rfl, Nat.le_refl _, fun _ _ _ _ => rfl⟩
theorem KeptW.trans (h : KeptW R base w w1) (k : KeptW R base w1 w') : KeptW R base w w' :=
  ⟨k.os.trans h.os, k.tape.trans h.tape, k.output.trans h.output, Nat.le_trans h.size k.size, fun i h1 h2 h3 => by
    have e := h.block i h1 h2 h3
    refine (k.block i (Nat.lt_of_lt_of_le h1 h.size) h2 (h3.imp id fun h3 cs z => ?_)).trans e
    rw [e]; exact h3 cs z⟩
theorem KeptW.below (h : KeptW R base w w') (hR : R < base) (hs : R ≤ w.heap.size) : Below R w w' :=
  ⟨h.os, h.tape, h.output, h.size, fun k hk => h.block k (by omega) (by omega) (Or.inl (by omega))⟩
theorem KeptW.blk {Z : Nat} {cs : Array Value} {t : TypeId} (h : KeptW R base w w') (hb : Blk w Z cs t) (hZ : Z ≠ R) (ht : t ≠ 5) : Blk w' Z cs t := by
  refine (h.block Z hb.lt hZ (Or.inr fun cs' z e => ?_)).trans hb
  unfold Blk at hb
  rw [hb] at e
  simp only [Option.some.injEq, Obj.cells.injEq] at e
  exact ht e.2.1
theorem KeptW.of_below (h : Below w.heap.size w w') : KeptW R base w w' := ⟨h.os, h.tape, h.output, h.size, fun k hk _ _ => h.block k hk⟩
theorem KeptW.alloc (h : KeptW R base w w') (o : Obj) : KeptW R base w (w'.alloc o) := h.trans (KeptW.of_below ((Below.refl _ _).alloc (Nat.le_refl _) _))
theorem KeptW.drew (h : KeptW R base w w') : KeptW R base w w'.drew := ⟨h.os, h.tape, h.output, h.size, h.block⟩

end
end Go.Proofs.Ytnhjebdlcbhkcaf

namespace Go.Proofs.Ytnhjebdlcbhkcaf
open Go.RowKit

theorem Try.info5 : ∃ i, Try.prog.info? 5 = some i ∧ i.zero = some (.int .u8 0) ∧ i.size = 1 ∧ i.bytes = 1 := by
  have h : (Try.prog.info? 5).map (fun i => (i.zero, i.size, i.bytes)) = some (some (.int .u8 0), 1, 1) := by kernel_rfl
  rw [Option.map_eq_some_iff] at h
  obtain ⟨i, hi, he⟩ := h
  simp only [Prod.mk.injEq] at he
  exact ⟨i, hi, he⟩

theorem chkL_len {l : List At} (h : chkL l = 0) : l.length ≤ 300 := by
  unfold chkL at h; split at h <;> omega

def txtS (l : List At) : ByteArray := strOfNums (l.map At.sign)

end Go.Proofs.Ytnhjebdlcbhkcaf

namespace Go.Proofs.Ytnhjebdlcbhkcaf
open Go.RowKit

theorem info_u8 : ∃ i, Try.prog.info? 5 = some i ∧ i.zero = some (.int .u8 0) ∧ i.size = 1 ∧ i.bytes = 1 := by
  have h : (Try.prog.info? 5).map (fun i => (i.zero, i.size, i.bytes)) = some (some (.int .u8 0), 1, 1) := by kernel_rfl
  rw [Option.map_eq_some_iff] at h
  obtain ⟨i, hi, he⟩ := h
  simp only [Prod.mk.injEq] at he
  exact ⟨i, hi, he⟩

end Go.Proofs.Ytnhjebdlcbhkcaf

namespace Go.Proofs.Ytnhjebdlcbhkcaf
open Go.RowKit

theorem KeptW.low {w0 w w' : World} {R base : Nat} (h : KeptW R base w w') (hb : Below w0.heap.size w0 w) (hR : w0.heap.size ≤ R) (hRb : R < base) : Below w0.heap.size w0 w' :=
  ⟨h.os.trans hb.os, h.tape.trans hb.tape, h.output.trans hb.output, Nat.le_trans hb.size h.size, fun k hk => (h.block k (Nat.lt_of_lt_of_le hk hb.size) (by omega) (Or.inl (by omega))).trans (hb.block k hk)⟩

theorem eSteps_len : ∀ p : List (Int × Int), (eSteps p).length = 2 * p.length
  | [] => rfl
  | x :: p => by
    have ih := eSteps_len p
    unfold eSteps at *
    rw [List.flatMap_cons, List.length_append, ih, List.length_cons]
    simp only [List.length_cons, List.length_nil]
    omega
theorem eSteps_take {p : List (Int × Int)} {k : Nat} (h : k < p.length) : eSteps (p.take (k + 1)) = eSteps (p.take k) ++ [p[k].1, p[k].2] := by
  unfold eSteps
  rw [List.take_succ_eq_append_getElem h, List.flatMap_append]
  rfl

end Go.Proofs.Ytnhjebdlcbhkcaf

namespace Go.Proofs.Ytnhjebdlcbhkcaf
open Go.RowKit

theorem txtN_length (t : ByteArray) : (txtN t).length = t.size := by unfold txtN; simp
theorem txtN_take {t : ByteArray} {k : Nat} (h : k < t.size) : (txtN t).take (k + 1) = (txtN t).take k ++ [(t[k].toNat : Int)] := by
  rw [List.take_succ_eq_append_getElem (by rw [txtN_length]; exact h)]
  congr 2
  simp [txtN]
  rfl

end Go.Proofs.Ytnhjebdlcbhkcaf

namespace Go.Proofs.Ytnhjebdlcbhkcaf
open Go.RowKit

theorem encM_len {p : List (Int × Int)} {c : Int} (h : p.length ≤ 255) : (encM p c).length ≤ 600 := by
  have := eSteps_len p
  unfold encM e2
  simp only [List.length_append, List.length_cons, List.length_nil]
  omega

end Go.Proofs.Ytnhjebdlcbhkcaf

namespace Go.Proofs.Ytnhjebdlcbhkcaf
open Go.RowKit

theorem eNeeds_take {l : List Int} {k : Nat} (h : k < l.length) : eNeeds (l.take (k + 1)) = eNeeds (l.take k) ++ e2 l[k] := by
  unfold eNeeds
  rw [List.take_succ_eq_append_getElem h, List.flatMap_append]
  simp
theorem eNeeds_len : ∀ l : List Int, (eNeeds l).length = 2 * l.length
  | [] => rfl
  | x :: p => by
    have ih := eNeeds_len p
    unfold eNeeds at *
    rw [List.flatMap_cons, List.length_append, ih, List.length_cons]
    simp only [e2, List.length_cons, List.length_nil]
    omega
theorem eDeeds_take {l : List Dd} {k : Nat} (h : k < l.length) : eDeeds (l.take (k + 1)) = eDeeds (l.take k) ++ encD l[k] := by
  unfold eDeeds
  rw [List.take_succ_eq_append_getElem h, List.flatMap_append]
  simp
theorem encD_len {d : Dd} (h : RoomD d) : (encD d).length ≤ 1000 := by
  unfold encD
  rcases h with ⟨e1, e2, e3, _⟩ | ⟨e1, e2, _⟩
  · rw [if_pos e1]
    have := encM_len (c := d.rc) e2.len
    have := txtN_length d.rt
    simp only [List.length_append, List.length_cons]
    omega
  · rw [if_neg (by omega)]
    have := encM_len (c := d.mc) e2.len
    simp only [List.length_append, List.length_cons, List.length_nil]
    omega
theorem eDeeds_len : ∀ {l : List Dd}, (∀ d ∈ l, RoomD d) → (eDeeds l).length ≤ 1000 * l.length
  | [], _ => Nat.le_refl _
  | x :: p, h => by
    have ih := eDeeds_len (l := p) fun d hd => h d (List.mem_cons_of_mem _ hd)
    have := encD_len (h x (List.mem_cons_self ..))
    unfold eDeeds at *
    rw [List.flatMap_cons, List.length_append, List.length_cons]
    omega

end Go.Proofs.Ytnhjebdlcbhkcaf
