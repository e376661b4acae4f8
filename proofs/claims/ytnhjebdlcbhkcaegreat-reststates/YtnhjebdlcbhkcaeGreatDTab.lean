/- Contracts of Diff's literals: a sign that goes, a sign that comes. -/
import Derived.Test.YtnhjebdlcbhkcaeGreatDSign
import Derived.Test.YtnhjebdlcbhkcaeGreatAtomCk
import Derived.Test.YtnhjebdlcbhkcaeGreatDiffPl
import Derived.Deep.OwnRows
namespace Go.Proofs.YtnhjebdlcbhkcaeGreat
open Go.RowKit

structure KeptD (T1 T2 base : Nat) (w w' : World) : Prop where
  os : w'.os = w.os
  tape : w'.tape = w.tape
  output : w'.output = w.output
  size : w.heap.size ≤ w'.heap.size
  block : ∀ k, k < base → k ≠ T1 → k ≠ T2 → w'.heap[k]? = w.heap[k]?

theorem KeptD.refl (T1 T2 base : Nat) (w : World) : KeptD T1 T2 base w w := ⟨rfl, rfl, rfl, Nat.le_refl _, fun _ _ _ _ => rfl⟩
theorem KeptD.trans {T1 T2 base : Nat} {a b c : World} (h : KeptD T1 T2 base a b) (k : KeptD T1 T2 base b c) : KeptD T1 T2 base a c :=
  ⟨k.os.trans h.os, k.tape.trans h.tape, k.output.trans h.output, Nat.le_trans h.size k.size, fun i h1 h2 h3 => (k.block i h1 h2 h3).trans (h.block i h1 h2 h3)⟩
theorem KeptD.of_below {T1 T2 base : Nat} {a b : World} (h : Below base a b) : KeptD T1 T2 base a b := ⟨h.os, h.tape, h.output, h.size, fun k hk _ _ => h.block k hk⟩

structure DiffSt (w : World) (T1 T2 base : Nat) (v u : Value) (RT : List (Nat × Nat)) (RP : List (Nat × List UInt8)) : Prop where
  c1 : w.cell? ⟨T1, 0, none⟩ = some v
  c2 : w.cell? ⟨T2, 0, none⟩ = some u
  f1 : w.frozen? ⟨T1, 0, none⟩ = false
  f2 : w.frozen? ⟨T2, 0, none⟩ = false
  o1 : OwnsE w base v (RT.map tkEd).reverse
  o2 : OwnsE w base u (RP.map ptEd).reverse
  ne : ∀ g, v.ownBlock = some g → u.ownBlock ≠ some g
  b1 : T1 < base
  b2 : T2 < base
  b12 : T1 ≠ T2
  bw : base ≤ w.heap.size

theorem owns_ge {w : World} {base : Nat} {e : TypeId} {size : Nat} {v : Value} {n : Nat} {xs : List Value} (h : w.ownsRow base e size v n xs) {g : Nat} (hg : v.ownBlock = some g) : base ≤ g ∧ g < w.heap.size := by
  rcases h.2 with ⟨rfl, _⟩ | ⟨g', cap, cur, rfl, hb, hh, _⟩
  · cases hg
  · have : g' = g := by simpa [Value.ownBlock] using hg
    subst this
    exact ⟨hb, (Array.getElem?_eq_some_iff.1 hh).1⟩

theorem OwnsE.kept {w w' : World} {base : Nat} {r : Option Nat} {u : Value} {l : List Ed} (h : OwnsE w base u l) (hg : w.grownBy w' r) (hne : ∀ g, r = some g → u.ownBlock ≠ some g) : OwnsE w' base u l := by
  refine World.ownsRow.kept h hg ?_
  cases e : u.ownBlock with
  | none => exact Or.inl rfl
  | some k => exact Or.inr fun e2 => hne k e2.symm e

theorem DiffSt.take {w w1 : World} {T1 T2 base : Nat} {v u v' : Value} {RT RT' : List (Nat × Nat)} {RP : List (Nat × List UInt8)} (h : DiffSt w T1 T2 base v u RT RP) (ho : OwnsE w1 base v' (RT'.map tkEd).reverse) (hg : w.grownBy w1 v.ownBlock) (hl : v'.ownBlock = v.ownBlock ∨ ∃ g, v'.ownBlock = some g ∧ w.heap.size ≤ g) :
    DiffSt (w1.setCell ⟨T1, 0, none⟩ v') T1 T2 base v' u RT' RP ∧ KeptD T1 T2 base w (w1.setCell ⟨T1, 0, none⟩ v') ∧ w1.cell? ⟨T1, 0, none⟩ = some v ∧ w1.frozen? ⟨T1, 0, none⟩ = false := by
  have hv1 : some T1 ≠ v.ownBlock := fun e => by have := (owns_ge h.o1 e.symm).1; have := h.b1; omega
  have hv2 : some T2 ≠ v.ownBlock := fun e => by have := (owns_ge h.o1 e.symm).1; have := h.b2; omega
  have l1 : T1 < w.heap.size := Nat.lt_of_lt_of_le h.b1 h.bw
  have l2 : T2 < w.heap.size := Nat.lt_of_lt_of_le h.b2 h.bw
  have c1 : w1.cell? ⟨T1, 0, none⟩ = some v := (hg.cell_far ⟨T1, 0, none⟩ l1 hv1).trans h.c1
  have c2 : w1.cell? ⟨T2, 0, none⟩ = some u := (hg.cell_far ⟨T2, 0, none⟩ l2 hv2).trans h.c2
  have f1 : w1.frozen? ⟨T1, 0, none⟩ = false := (hg.frozen_far ⟨T1, 0, none⟩ l1 hv1).trans h.f1
  have f2 : w1.frozen? ⟨T2, 0, none⟩ = false := (hg.frozen_far ⟨T2, 0, none⟩ l2 hv2).trans h.f2
  have hu := h.o2.kept hg (fun g e => h.ne g e)
  refine ⟨⟨World.cell?_setCell_same _ _ _ c1, (World.cell?_setCell_other _ _ _ _ (by have := h.b12; simp <;> omega)).trans c2, by rw [World.frozen?_setCell]; exact f1, by rw [World.frozen?_setCell]; exact f2, ?_, ?_, ?_, h.b1, h.b2, h.b12, ?_⟩, ⟨hg.os, hg.tape, hg.output, ?_, ?_⟩, c1, f1⟩
  · exact ownsRow_setCell_other ho (fun e => Nat.lt_irrefl _ (Nat.lt_of_lt_of_le h.b1 (owns_ge ho e).1)) _
  · exact ownsRow_setCell_other hu (fun e => Nat.lt_irrefl _ (Nat.lt_of_lt_of_le h.b1 (owns_ge hu e).1)) _
  · intro g e e2
    rcases hl with e3 | ⟨g2, e3, hge⟩
    · exact h.ne g (e3 ▸ e) e2
    · have : g2 = g := by rw [e3] at e; simpa using e
      subst this
      have := (owns_ge h.o2 e2).2
      omega
  · have := hg.size; have := h.bw; simp [World.setCell]; omega
  · have := hg.size; simpa [World.setCell] using this
  · intro k hk h1 h2
    rw [Below.heap_setCell _ _ _ k (fun e => h1 e)]
    exact hg.block k (by have := h.bw; omega) (fun e => by have := (owns_ge h.o1 e.symm).1; omega)

theorem DiffSt.put {w w1 : World} {T1 T2 base : Nat} {v u u' : Value} {RT : List (Nat × Nat)} {RP RP' : List (Nat × List UInt8)} (h : DiffSt w T1 T2 base v u RT RP) (ho : OwnsE w1 base u' (RP'.map ptEd).reverse) (hg : w.grownBy w1 u.ownBlock) (hl : u'.ownBlock = u.ownBlock ∨ ∃ g, u'.ownBlock = some g ∧ w.heap.size ≤ g) :
    DiffSt (w1.setCell ⟨T2, 0, none⟩ u') T1 T2 base v u' RT RP' ∧ KeptD T1 T2 base w (w1.setCell ⟨T2, 0, none⟩ u') ∧ w1.cell? ⟨T2, 0, none⟩ = some u ∧ w1.frozen? ⟨T2, 0, none⟩ = false := by
  have hv1 : some T1 ≠ u.ownBlock := fun e => by have := (owns_ge h.o2 e.symm).1; have := h.b1; omega
  have hv2 : some T2 ≠ u.ownBlock := fun e => by have := (owns_ge h.o2 e.symm).1; have := h.b2; omega
  have l1 : T1 < w.heap.size := Nat.lt_of_lt_of_le h.b1 h.bw
  have l2 : T2 < w.heap.size := Nat.lt_of_lt_of_le h.b2 h.bw
  have c1 : w1.cell? ⟨T1, 0, none⟩ = some v := (hg.cell_far ⟨T1, 0, none⟩ l1 hv1).trans h.c1
  have c2 : w1.cell? ⟨T2, 0, none⟩ = some u := (hg.cell_far ⟨T2, 0, none⟩ l2 hv2).trans h.c2
  have f1 : w1.frozen? ⟨T1, 0, none⟩ = false := (hg.frozen_far ⟨T1, 0, none⟩ l1 hv1).trans h.f1
  have f2 : w1.frozen? ⟨T2, 0, none⟩ = false := (hg.frozen_far ⟨T2, 0, none⟩ l2 hv2).trans h.f2
  have hu := h.o1.kept hg (fun g e e2 => h.ne g e2 e)
  refine ⟨⟨(World.cell?_setCell_other _ _ _ _ (by have := h.b12; simp <;> omega)).trans c1, World.cell?_setCell_same _ _ _ c2, by rw [World.frozen?_setCell]; exact f1, by rw [World.frozen?_setCell]; exact f2, ?_, ?_, ?_, h.b1, h.b2, h.b12, ?_⟩, ⟨hg.os, hg.tape, hg.output, ?_, ?_⟩, c2, f2⟩
  · exact ownsRow_setCell_other hu (fun e => Nat.lt_irrefl _ (Nat.lt_of_lt_of_le h.b2 (owns_ge hu e).1)) _
  · exact ownsRow_setCell_other ho (fun e => Nat.lt_irrefl _ (Nat.lt_of_lt_of_le h.b2 (owns_ge ho e).1)) _
  · intro g e e2
    rcases hl with e3 | ⟨g2, e3, hge⟩
    · exact h.ne g e (e3 ▸ e2)
    · have : g2 = g := by rw [e3] at e2; simpa using e2
      subst this
      have := (owns_ge h.o1 e).2
      omega
  · have := hg.size; have := h.bw; simp [World.setCell]; omega
  · have := hg.size; simpa [World.setCell] using this
  · intro k hk h1 h2
    rw [Below.heap_setCell _ _ _ k (fun e => h2 e)]
    exact hg.block k (by have := h.bw; omega) (fun e => by have := (owns_ge h.o2 e.symm).1; omega)

theorem DiffSt.drew {w : World} {T1 T2 base : Nat} {v u : Value} {RT : List (Nat × Nat)} {RP : List (Nat × List UInt8)} (h : DiffSt w T1 T2 base v u RT RP) : DiffSt w.drew T1 T2 base v u RT RP :=
  ⟨h.c1, h.c2, h.f1, h.f2, h.o1, h.o2, h.ne, h.b1, h.b2, h.b12, h.bw⟩

end Go.Proofs.YtnhjebdlcbhkcaeGreat

namespace Go.Proofs.YtnhjebdlcbhkcaeGreat
open Go.RowKit
set_option maxRecDepth 100000 in
set_option maxHeartbeats 2000000 in
theorem diff1_ok (T1 T2 base : Nat) (v u : Value) (RT : List (Nat × Nat)) (RP : List (Nat × List UInt8)) (p : Nat) (w : World) (hp : p ≤ 1000) (hR : ∀ g ∈ RT, g.1 + g.2 ≤ 1000) (hl : RT.length ≤ 1000) (h : DiffSt w T1 T2 base v u RT RP) :
    Calls Tryz.prog 90 #[.int .i64 p, .pointer (some ⟨T1, 0, none⟩)] w fun e w' => e = .returned (.tuple #[]) ∧ (∃ v', DiffSt w' T1 T2 base v' u (tkR RT p) RP) ∧ KeptD T1 T2 base w w' := by
  have HTS := hidE (takeSign_ok base v RT p w hp hR hl h.bw h.o1)
  have c1 := h.c1
  obtain ⟨pv, cv, ev⟩ := owns_sliceE h.o1
  generalize ((RT.map tkEd).reverse).length = L at ev
  have HTK := hidE (fun (w1 : World) (v' : Value) => @DiffSt.take w w1 T1 T2 base v u v' RT (tkR RT p) RP h)
  clear h
  subst ev
  go_enter Tryz.func90, Tryz.ntmps90
  go_wp2_with fail
  refine HTS.out.mono ?_
  rintro e w1 ⟨v', rfl, ho, hg, hloc⟩
  obtain ⟨hS, hK, d1, df⟩ := HTK.out w1 v' ho hg hloc
  obtain ⟨pv', cv', ev'⟩ := owns_sliceE ho
  generalize (((tkR RT p).map tkEd).reverse).length = L' at ev'
  subst ev'
  have HS := hidE hS
  have HK := hidE hK
  clear hS hK ho hg hloc HTS HTK c1
  go_wp2_with fail
  go_end0
  exact ⟨rfl, ⟨_, HS.out⟩, HK.out⟩

end Go.Proofs.YtnhjebdlcbhkcaeGreat

namespace Go.Proofs.YtnhjebdlcbhkcaeGreat
open Go.RowKit
theorem extract_one (b : ByteArray) (j : Nat) (h : j < b.size) : b.extract j (j + 1) = ⟨#[b[j]]⟩ := by
  apply ba_ext
  rw [ba_extract_list]
  have h' : j < b.data.toList.length := by simpa using h
  rw [List.take_succ_eq_append_getElem h', List.drop_append_of_le_length (by simp; omega), List.drop_eq_nil_of_le (by simp; omega)]
  rfl

set_option maxRecDepth 100000 in
set_option maxHeartbeats 4000000 in
theorem diff2_ok (T1 T2 Z base : Nat) (v u : Value) (RT : List (Nat × Nat)) (RP : List (Nat × List UInt8)) (p : Nat) (b : ByteArray) (w : World) (hp : p < b.size) (hb : b.size ≤ 300) (hR : ∀ g ∈ RP, g.1 ≤ 1000 ∧ g.2.length ≤ 60) (hl : RP.length ≤ 1000) (hz : w.cell? ⟨Z, 0, none⟩ = some (.string b)) (h : DiffSt w T1 T2 base v u RT RP) :
    Calls Tryz.prog 92 #[.int .i64 p, .pointer (some ⟨T2, 0, none⟩), .pointer (some ⟨Z, 0, none⟩)] w fun e w' => e = .returned (.tuple #[]) ∧ (∃ u', DiffSt w' T1 T2 base v u' RT (ptR RP p b[p])) ∧ KeptD T1 T2 base w w' := by
  have HPS := hidE (putSign_ok base u RP p b[p] w.drew (by omega) hR hl h.bw h.drew.o2)
  rw [← extract_one b p hp] at HPS
  have c2 := h.c2
  obtain ⟨pv, cv, ev⟩ := owns_sliceE h.o2
  generalize ((RP.map ptEd).reverse).length = L at ev
  have HTK := hidE (fun (w1 : World) (v' : Value) => @DiffSt.put w.drew w1 T1 T2 base v u v' RT RP (ptR RP p b[p]) h.drew)
  have hwp : IntKind.i64.wrap ((p : Int) + 1) = ((p + 1 : Nat) : Int) := by rw [IntKind.wrap_i64] <;> omega
  have hp1 : p + 1 ≤ b.size := hp
  have hpp : p ≤ p + 1 := Nat.le_succ p
  clear h
  subst ev
  go_enter Tryz.func92, Tryz.ntmps92
  go_region_with (go_at_call 93; refine HPS.out.mono ?_; rintro e w1 ⟨v', rfl, ho, hg, hloc⟩; obtain ⟨hS, hK, d1, df⟩ := HTK.out w1 v' ho hg hloc; obtain ⟨pv', cv', ev'⟩ := owns_sliceE ho; generalize (((ptR RP p b[p]).map ptEd).reverse).length = L' at ev'; subst ev'; have HS := hidE hS; have HK := hidE hK; clear hS hK ho hg hloc)
  all_goals
    go_wp2_with fail
    go_end0
    exact ⟨rfl, ⟨_, HS.out⟩, (KeptD.of_below (Below.refl _ _).drew).trans HK.out⟩
end Go.Proofs.YtnhjebdlcbhkcaeGreat

namespace Go.Proofs.YtnhjebdlcbhkcaeGreat
open Go.RowKit

def comm (a b : ByteArray) (i j : Nat) : Nat := lcs (a.data.toList.drop i) (b.data.toList.drop j)

theorem comm_a (a b : ByteArray) (i j : Nat) (h : a.size ≤ i) : comm a b i j = 0 := by
  unfold comm; rw [List.drop_eq_nil_of_le (by simpa using h)]; simp [lcs]
theorem comm_b (a b : ByteArray) (i j : Nat) (h : b.size ≤ j) : comm a b i j = 0 := by
  unfold comm; rw [List.drop_eq_nil_of_le (i := j) (by simpa using h)]; exact lcs_nil _
theorem drop_at (a : ByteArray) (i : Nat) (h : i < a.size) : a.data.toList.drop i = a[i] :: a.data.toList.drop (i + 1) := by
  rw [List.drop_eq_getElem_cons (by simpa using h)]; rfl
theorem comm_same (a b : ByteArray) (i j : Nat) (hi : i < a.size) (hj : j < b.size) (h : a[i] = b[j]) : comm a b i j = comm a b (i + 1) (j + 1) + 1 := by
  unfold comm
  rw [drop_at a i hi, drop_at b j hj]
  conv => lhs; unfold lcs
  rw [if_pos h]
theorem comm_other (a b : ByteArray) (i j : Nat) (hi : i < a.size) (hj : j < b.size) (h : a[i] ≠ b[j]) : comm a b i j = max (comm a b (i + 1) j) (comm a b i (j + 1)) := by
  have ha := drop_at a i hi
  have hb := drop_at b j hj
  unfold comm
  rw [ha, hb]
  conv => lhs; unfold lcs
  rw [if_neg h]
theorem comm_le (a b : ByteArray) (i j : Nat) : comm a b i j ≤ a.size := by
  unfold comm
  have := (lcs_le (a.data.toList.drop i) (b.data.toList.drop j)).1
  simp at this
  omega

def topF (N n m lo : Nat) : Nat → Value := fun r => if lo ≤ r then .slice (some ⟨N + 1 + (n - r), 0, none⟩) (m + 1) (m + 1) else .slice none 0 0

structure TabO (w wr : World) (a b : ByteArray) (lo : Nat) : Prop where
  below : Below w.heap.size w wr
  size : wr.heap.size = w.heap.size + 1 + (a.size + 1 - lo)
  top : wr.rowIs w.heap.size 68 (a.size + 1) (topF w.heap.size a.size b.size lo)
  done : ∀ r, lo ≤ r → r ≤ a.size → wr.rowIs (w.heap.size + 1 + (a.size - r)) 3 (b.size + 1) (fun j => .int .i64 (comm a b r j))

structure TabI (w wr : World) (a b : ByteArray) (i lo : Nat) : Prop where
  below : Below w.heap.size w wr
  size : wr.heap.size = w.heap.size + 1 + (a.size + 1 - i)
  top : wr.rowIs w.heap.size 68 (a.size + 1) (topF w.heap.size a.size b.size i)
  done : ∀ r, i < r → r ≤ a.size → wr.rowIs (w.heap.size + 1 + (a.size - r)) 3 (b.size + 1) (fun j => .int .i64 (comm a b r j))
  cur : wr.rowIs (w.heap.size + 1 + (a.size - i)) 3 (b.size + 1) (fun j => if lo ≤ j then .int .i64 (comm a b i j) else .int .i64 0)

theorem tab_row {w wr : World} {a b : ByteArray} {i : Nat} (hi : i ≤ a.size) (hb : Below w.heap.size w wr) (hs : wr.heap.size = w.heap.size + 1 + (a.size - i)) (ht : wr.rowIs w.heap.size 68 (a.size + 1) (topF w.heap.size a.size b.size (i + 1))) (hd : ∀ r, i < r → r ≤ a.size → wr.rowIs (w.heap.size + 1 + (a.size - r)) 3 (b.size + 1) (fun j => .int .i64 (comm a b r j))) :
    TabI w ((wr.setCell ⟨w.heap.size, i, none⟩ (.slice (some ⟨w.heap.size + 1 + (a.size - i), 0, none⟩) (b.size + 1) (b.size + 1))).alloc (.cells (madeCells #[.int .i64 0] (b.size + 1)) 3)) a b i b.size := by
  have hnew := World.rowIs_made (wr.setCell ⟨w.heap.size, i, none⟩ (.slice (some ⟨w.heap.size + 1 + (a.size - i), 0, none⟩) (b.size + 1) (b.size + 1))) (.int .i64 0) (b.size + 1) 3
  have hss : (wr.setCell ⟨w.heap.size, i, none⟩ (.slice (some ⟨w.heap.size + 1 + (a.size - i), 0, none⟩) (b.size + 1) (b.size + 1))).heap.size = w.heap.size + 1 + (a.size - i) := by simp [World.setCell, hs]
  rw [hss] at hnew
  refine ⟨(hb.setCell (by simp) _).alloc (by rw [hss]; omega) _, by simp [hs]; omega, ((ht.set i _).alloc _).congr (fun r _ => ?_), fun r h1 h2 => ((hd r h1 h2).setOther (by show w.heap.size + 1 + (a.size - r) ≠ w.heap.size; omega) _).alloc _,
    hnew.congr (fun j hj => ?_)⟩
  · unfold topF
    by_cases e : r = i
    · subst e; rw [if_pos rfl, if_pos (Nat.le_refl _)]
    · rw [if_neg e]
      by_cases h : i + 1 ≤ r
      · rw [if_pos h, if_pos (by omega)]
      · rw [if_neg h, if_neg (by omega)]
  · by_cases e : b.size ≤ j
    · rw [if_pos e, comm_b a b i j e]; rfl
    · rw [if_neg e]

theorem tab_row2 {w wr : World} {a b : ByteArray} {i : Nat} (hi : i ≤ a.size) (hb : Below w.heap.size w wr) (hs : wr.heap.size = w.heap.size + 1 + (a.size - i)) (ht : wr.rowIs w.heap.size 68 (a.size + 1) (topF w.heap.size a.size b.size (i + 1))) (hd : ∀ r, i < r → r ≤ a.size → wr.rowIs (w.heap.size + 1 + (a.size - r)) 3 (b.size + 1) (fun j => .int .i64 (comm a b r j))) :
    TabI w ((wr.alloc (.cells (madeCells #[.int .i64 0] (b.size + 1)) 3)).setCell ⟨w.heap.size, i, none⟩ (.slice (some ⟨w.heap.size + 1 + (a.size - i), 0, none⟩) (b.size + 1) (b.size + 1))) a b i b.size := by
  have hnew := World.rowIs_made wr (.int .i64 0) (b.size + 1) 3
  rw [hs] at hnew
  refine ⟨(hb.alloc hb.size _).setCell (by simp) _, by simp [hs]; omega, ((ht.alloc _).set i _).congr (fun r _ => ?_), fun r h1 h2 => ((hd r h1 h2).alloc _).setOther (by show w.heap.size + 1 + (a.size - r) ≠ w.heap.size; omega) _,
    (hnew.setOther (by show w.heap.size + 1 + (a.size - i) ≠ w.heap.size; omega) _).congr (fun j hj => ?_)⟩
  · unfold topF
    by_cases e : r = i
    · subst e; rw [if_pos rfl, if_pos (Nat.le_refl _)]
    · rw [if_neg e]
      by_cases h : i + 1 ≤ r
      · rw [if_pos h, if_pos (by omega)]
      · rw [if_neg h, if_neg (by omega)]
  · by_cases e : b.size ≤ j
    · rw [if_pos e, comm_b a b i j e]; rfl
    · rw [if_neg e]

theorem tab_done {w wr : World} {a b : ByteArray} {i : Nat} (h : TabI w wr a b i 0) : TabO w wr a b i :=
  ⟨h.below, h.size, h.top, fun r h1 h2 => by
    by_cases e : r = i
    · subst e; exact h.cur.congr (fun j _ => by rw [if_pos (Nat.zero_le _)])
    · exact h.done r (by omega) h2⟩

theorem tab_step {w wr : World} {a b : ByteArray} {i j : Nat} (h : TabI w wr a b i (j + 1)) : TabI w (wr.setCell ⟨w.heap.size + 1 + (a.size - i), j, none⟩ (.int .i64 (comm a b i j))).drew a b i j := by
  refine ⟨(h.below.setCell (by show w.heap.size ≤ w.heap.size + 1 + (a.size - i); omega) _).drew, by simp [h.size], (h.top.setOther (by show w.heap.size ≠ w.heap.size + 1 + (a.size - i); omega) _).drew,
    fun r h1 h2 => ((h.done r h1 h2).setOther (by show w.heap.size + 1 + (a.size - r) ≠ w.heap.size + 1 + (a.size - i); omega) _).drew, ((h.cur.set j _).congr (fun k _ => ?_)).drew⟩
  by_cases e : k = j
  · subst e; rw [if_pos rfl, if_pos (Nat.le_refl _)]
  · rw [if_neg e]
    by_cases h0 : j + 1 ≤ k
    · rw [if_pos h0, if_pos (by omega)]
    · rw [if_neg h0, if_neg (by omega)]

theorem Tryz.infoRow : (Tryz.prog.info? 68).map (fun i => (i.zero, i.size, i.bytes)) = some (some (.slice none 0 0), 1, 24) := by kernel_rfl
theorem Tryz.infoInt : (Tryz.prog.info? 3).map (fun i => (i.zero, i.size, i.bytes)) = some (some (.int .i64 0), 1, 8) := by kernel_rfl

theorem TabI.drew {w wr : World} {a b : ByteArray} {i lo : Nat} (h : TabI w wr a b i lo) : TabI w wr.drew a b i lo :=
  ⟨h.below.drew, h.size, h.top.drew, fun r h1 h2 => (h.done r h1 h2).drew, h.cur.drew⟩

set_option maxRecDepth 100000 in
set_option maxHeartbeats 8000000 in
theorem commonOfEnds_ok (a b : ByteArray) (w : World) (ha : a.size ≤ 300) (hb : b.size ≤ 300) :
    Calls Tryz.prog 171 #[.string a, .string b] w fun e w' => e = .returned (.slice (some ⟨w.heap.size, 0, none⟩) (a.size + 1) (a.size + 1)) ∧ TabO w w' a b 0 := by
  have hw1 : IntKind.i64.wrap ((a.size : Int) + 1) = (a.size : Int) + 1 := by rw [IntKind.wrap_i64] <;> omega
  have hw2 : IntKind.i64.wrap ((b.size : Int) + 1) = (b.size : Int) + 1 := by rw [IntKind.wrap_i64] <;> omega
  have hw3 : IntKind.i64.wrap ((a.size : Int) - 1) = (a.size : Int) - 1 := by rw [IntKind.wrap_i64] <;> omega
  have hw4 : IntKind.i64.wrap ((b.size : Int) - 1) = (b.size : Int) - 1 := by rw [IntKind.wrap_i64] <;> omega
  have hmk1 := run_make_row' (P := Tryz.prog) 205 68 (.slice none 0 0) 24 Tryz.underlying205 Tryz.infoRow rfl .i64 .i64 (a.size + 1) (by omega) (by omega)
  have hmk2 := run_make_row' (P := Tryz.prog) 68 3 (.int .i64 0) 8 Tryz.underlying68 Tryz.infoInt rfl .i64 .i64 (b.size + 1) (by omega) (by omega)
  have ea : ((a.size + 1 : Nat) : Int) = (a.size : Int) + 1 := by omega
  have eb : ((b.size + 1 : Nat) : Int) = (b.size : Int) + 1 := by omega
  simp only [ea] at hmk1
  simp only [eb] at hmk2
  clear ea eb
  have hix : (a.size : Int) < (a.size : Int) + 1 := by omega
  have hO0 := World.rowIs_made w (.slice none 0 0) (a.size + 1) 68
  have hB0 := (Below.refl w.heap.size w).alloc (Nat.le_refl _) (.cells (madeCells #[.slice none 0 0] (a.size + 1)) 68)
  have hs0 : (w.alloc (.cells (madeCells #[.slice none 0 0] (a.size + 1)) 68)).heap.size = w.heap.size + 1 := by simp
  go_enter Tryz.func171, Tryz.ntmps171
  go_upto_region 2 with fail
  have hI0 := tab_row (i := a.size) (b := b) (Nat.le_refl _) hB0 (by rw [hs0]; omega) (hO0.congr fun r hr => by unfold topF; rw [if_neg (by omega)]) (fun r h1 h2 => by omega)
  generalize w.alloc (.cells (madeCells #[.slice none 0 0] (a.size + 1)) 68) = W at *
  have st1 : ∀ o, (W.alloc o).cell? ⟨w.heap.size, a.size, none⟩ = some (.slice none 0 0) := fun o => (hO0.alloc o).cell (by omega)
  have st2 : ∀ o, (W.alloc o).frozen? ⟨w.heap.size, a.size, none⟩ = false := fun o => (hO0.alloc o).frozen _
  have hTO : TabO w _ a b a.size := tab_done ⟨hI0.below, hI0.size, hI0.top, hI0.done, hI0.cur.congr (fun j _ => by
    by_cases e : b.size ≤ j
    · rw [if_pos e, if_pos (Nat.zero_le _)]
    · rw [if_neg e, if_pos (Nat.zero_le _), comm_a a b a.size j (Nat.le_refl _)]; rfl)⟩
  have HTO := hidE hTO
  rw [Nat.sub_self, Nat.add_zero] at HTO
  clear hTO hI0 hO0 hB0
  go_wp2_with fail
  go_loopw [6] (fun v wr => ∃ k : Nat, k ≤ a.size ∧ v = .int .i64 ((k : Int) - 1) ∧ TabO w wr a b k) (fun v _ => (intOf v + 1).toNat)
  case atStart =>
    exact ⟨a.size, Nat.le_refl _, rfl, HTO.out⟩
  case round =>
    clear st1 st2 hs0 HTO hw1 hmk1 hix hw3
    obtain ⟨k, hk, rfl, hT⟩ := hrel
    rcases k with _ | i
    · have hneg : ¬ ((((0 : Nat) : Int) - 1) ≥ 0) := by omega
      go_wp2_with fail
      go_ret
      exact ⟨rfl, hT⟩
    · have e1 : ((i + 1 : Nat) : Int) - 1 = (i : Int) := by omega
      rw [e1]
      clear e1
      have hia : i < a.size := by omega
      have hge : (i : Int) ≥ 0 := by omega
      have hi1 : (i : Int) < (a.size : Int) + 1 := by omega
      have hsz : wr.heap.size = w.heap.size + 1 + (a.size - i) := by have := hT.size; omega
      have st1 : ∀ o, (wr.alloc o).cell? ⟨w.heap.size, i, none⟩ = some (.slice none 0 0) := fun o => ((hT.top.alloc o).cell (by omega)).trans (by unfold topF; rw [if_neg (by omega)])
      have st2 : ∀ o, (wr.alloc o).frozen? ⟨w.heap.size, i, none⟩ = false := fun o => (hT.top.alloc o).frozen _
      have HTI := hidE (tab_row2 (i := i) (b := b) (by omega) hT.below hsz hT.top (fun r h1 h2 => hT.done r (by omega) h2))
      clear hT
      go_wp2_with fail
      go_loopw [7] (fun v wi => ∃ j : Nat, j ≤ b.size ∧ v = .int .i64 ((j : Int) - 1) ∧ TabI w wi a b i j) (fun v _ => (intOf v + 1).toNat)
      case atStart => exact ⟨b.size, Nat.le_refl _, rfl, HTI.out⟩
      case round =>
        clear st1 st2 hsz HTI hmk2 hw2 hw4
        obtain ⟨jj, hj, rfl, hI⟩ := hrel
        rcases jj with _ | j
        · have hneg : ¬ ((((0 : Nat) : Int) - 1) ≥ 0) := by omega
          have hwi : IntKind.i64.wrap ((i : Int) - 1) = (i : Int) - 1 := by rw [IntKind.wrap_i64] <;> omega
          go_wp2_with fail
          go_roundw
          case rel => exact ⟨i, by omega, rfl, tab_done hI⟩
          case measure => simp [intOf]
        · have e1 : ((j + 1 : Nat) : Int) - 1 = (j : Int) := by omega
          rw [e1]
          clear e1
          have hjb : j < b.size := by omega
          have hgj : (j : Int) ≥ 0 := by omega
          have hj1 : (j : Int) < (b.size : Int) := by omega
          have hia1 : (i : Int) < (a.size : Int) := by omega
          have c0 := hI.top.cell (i := i) (by omega)
          have c1 := hI.top.cell (i := i + 1) (by omega)
          have d0 := hI.cur.cell (i := j) (by omega)
          have d1 := hI.cur.cell (i := j + 1) (by omega)
          have f0 := hI.cur.frozen j
          have g1 := (hI.done (i + 1) (by omega) (by omega)).cell (i := j + 1) (by omega)
          have g0 := (hI.done (i + 1) (by omega) (by omega)).cell (i := j) (by omega)
          unfold topF at c0 c1
          rw [if_pos (Nat.le_refl _)] at c0
          rw [if_pos (by omega)] at c1
          rw [if_neg (by omega)] at d0
          rw [if_pos (Nat.le_refl _)] at d1
          have hwi : IntKind.i64.wrap ((i : Int) + 1) = ((i + 1 : Nat) : Int) := by rw [IntKind.wrap_i64] <;> omega
          have hwj : IntKind.i64.wrap ((j : Int) + 1) = ((j + 1 : Nat) : Int) := by rw [IntKind.wrap_i64] <;> omega
          have hwj2 : IntKind.i64.wrap ((j : Int) - 1) = (j : Int) - 1 := by rw [IntKind.wrap_i64] <;> omega
          have hi2 : ((i + 1 : Nat) : Int) < (a.size : Int) + 1 := by omega
          have hj2 : ((j + 1 : Nat) : Int) < (b.size : Int) + 1 := by omega
          have hj3 : (j : Int) < (b.size : Int) + 1 := by omega
          have HST := hidE (tab_step hI)
          have HI := hidE hI
          by_cases hab : a[i] = b[j]
          · have hcm := comm_same a b i j hia hjb hab
            have hle := comm_le a b (i + 1) (j + 1)
            have hwc : IntKind.i64.wrap ((comm a b (i + 1) (j + 1) : Int) + 1) = ((comm a b i j : Nat) : Int) := by rw [hcm, IntKind.wrap_i64] <;> omega
            have heq : ((a[i].toNat : Int) == (b[j].toNat : Int)) = true := by rw [hab]; simp
            have heq2 : decide ((a[i].toNat : Int) = (b[j].toNat : Int)) = true := by rw [hab]; simp
            clear hI hcm hle g0 d1
            go_upto_region 10 with fail
            go_region
            all_goals
              have HSD : Hid (TabI w (wr.drew.setCell ⟨w.heap.size + 1 + (a.size - i), j, none⟩ (.int .i64 (comm a b i j))).drew a b i j) := HST.out.drew
              replace c0 : wr.drew.cell? ⟨w.heap.size, i, none⟩ = some (.slice (some ⟨w.heap.size + 1 + (a.size - i), 0, none⟩) (b.size + 1) (b.size + 1)) := c0
              replace c1 : wr.drew.cell? ⟨w.heap.size, i + 1, none⟩ = some (.slice (some ⟨w.heap.size + 1 + (a.size - (i + 1)), 0, none⟩) (b.size + 1) (b.size + 1)) := c1
              replace d0 : wr.drew.cell? ⟨w.heap.size + 1 + (a.size - i), j, none⟩ = some (.int .i64 0) := d0
              replace f0 : wr.drew.frozen? ⟨w.heap.size + 1 + (a.size - i), j, none⟩ = false := f0
              replace g1 : wr.drew.cell? ⟨w.heap.size + 1 + (a.size - (i + 1)), j + 1, none⟩ = some (.int .i64 (comm a b (i + 1) (j + 1))) := g1
              clear HST HI
              generalize wr.drew = wd at *
              go_wp2_with fail
              go_region
              all_goals
                go_wp2_with fail
                go_roundw
                case rel => exact ⟨j, by omega, rfl, HSD.out⟩
                case measure => simp [intOf]
          · have hcm := comm_other a b i j hia hjb hab
            have hle := comm_le a b i j
            have hne : a[i].toNat ≠ b[j].toNat := fun e => hab (UInt8.toNat_inj.1 e)
            have heq : ((a[i].toNat : Int) == (b[j].toNat : Int)) = false := by rw [beq_eq_false_iff_ne]; omega
            have heq2 : decide ((a[i].toNat : Int) = (b[j].toNat : Int)) = false := decide_eq_false (by omega)
            have HMX : Hid ((if comm a b (i + 1) j < comm a b i (j + 1) then ((comm a b i (j + 1) : Nat) : Int) else ((comm a b (i + 1) j : Nat) : Int)) = ((comm a b i j : Nat) : Int)) := by
              show _ = _
              rw [hcm]; split <;> omega
            have HMY : Hid (max ((comm a b (i + 1) j : Nat) : Int) ((comm a b i (j + 1) : Nat) : Int) = ((comm a b i j : Nat) : Int)) := by
              show _ = _
              rw [hcm]; omega
            clear hI hcm hle g1
            go_upto_region 10 with fail
            go_region
            all_goals
              have HSD : Hid (TabI w (wr.drew.setCell ⟨w.heap.size + 1 + (a.size - i), j, none⟩ (.int .i64 (comm a b i j))).drew a b i j) := HST.out.drew
              replace c0 : wr.drew.cell? ⟨w.heap.size, i, none⟩ = some (.slice (some ⟨w.heap.size + 1 + (a.size - i), 0, none⟩) (b.size + 1) (b.size + 1)) := c0
              replace c1 : wr.drew.cell? ⟨w.heap.size, i + 1, none⟩ = some (.slice (some ⟨w.heap.size + 1 + (a.size - (i + 1)), 0, none⟩) (b.size + 1) (b.size + 1)) := c1
              replace d0 : wr.drew.cell? ⟨w.heap.size + 1 + (a.size - i), j, none⟩ = some (.int .i64 0) := d0
              replace f0 : wr.drew.frozen? ⟨w.heap.size + 1 + (a.size - i), j, none⟩ = false := f0
              replace g0 : wr.drew.cell? ⟨w.heap.size + 1 + (a.size - (i + 1)), j, none⟩ = some (.int .i64 (comm a b (i + 1) j)) := g0
              replace d1 : wr.drew.cell? ⟨w.heap.size + 1 + (a.size - i), j + 1, none⟩ = some (.int .i64 (comm a b i (j + 1))) := d1
              clear HST HI
              generalize wr.drew = wd at *
              go_wp2_with fail
              go_region
              all_goals
                go_wp2_with fail
                go_roundw
                case rel => exact ⟨j, by omega, rfl, by first | (rw [HMX.out]; exact HSD.out) | (rw [HMY.out]; exact HSD.out)⟩
                case measure => simp [intOf]
end Go.Proofs.YtnhjebdlcbhkcaeGreat
