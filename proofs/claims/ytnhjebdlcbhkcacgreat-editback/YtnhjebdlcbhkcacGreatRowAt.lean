/- The closure of doer.put, and slices.IndexFunc with it. -/
import Derived.Test.YtnhjebdlcbhkcacGreatDoerC
import Derived.Test.YtnhjebdlcbhkcacGreatGapA
import Derived.Lib.SliceRun
namespace Go.Proofs.YtnhjebdlcbhkcacGreat
open Go.RowKit

/-- the box B holds who does deeds (D), whose marks that are gone are these -/
structure GoneAt (w : World) (B D : Nat) (g : List Mk) : Prop where
  bl : B < w.heap.size
  b0 : w.cell? ⟨B, 0, none⟩ = some (.pointer (some ⟨D, 0, none⟩))
  dl : D < w.heap.size
  gs : ∃ b cap, w.cell? ⟨D, 1, none⟩ = some (.slice b g.length cap) ∧ MarksAt w b g
theorem GoneAt.below {w w' : World} {B D : Nat} {g : List Mk} {X : Nat} (h : GoneAt w B D g) (hb : Below X w w') (hX : w.heap.size ≤ X) : GoneAt w' B D g := by
  obtain ⟨h1, h2, h3, b, cap, h4, h5⟩ := h
  exact ⟨Nat.lt_of_lt_of_le h1 hb.size, (hb.cell (p := ⟨B, 0, none⟩) (Nat.lt_of_lt_of_le h1 hX)).trans h2, Nat.lt_of_lt_of_le h3 hb.size, b, cap, (hb.cell (p := ⟨D, 1, none⟩) (Nat.lt_of_lt_of_le h3 hX)).trans h4, h5.below hb hX⟩

set_option maxRecDepth 100000 in
set_option maxHeartbeats 4000000 in
theorem put1_any (B D : Nat) (p : Option Addr) (cap : Nat) (g : List Mk) (m : List (Int × Int)) (d s : Int) (w : World) (hG : GoneAt w B D g) (hl : g.length ≤ 1000) (hu : Up g) (hm : m.length ≤ maxLen) (h' : StepsAt w p m) :
    Calls Tryz.prog 116 #[.agg #[.slice p m.length cap, .int .i64 d, .int .u8 s], .pointer (some ⟨B, 0, none⟩)] w fun e w' => e = .returned (.bool (hasGone g m d)) ∧ Below w.heap.size w w' := by
  have hb1 : Below w.heap.size w (w.alloc (Obj.cells #[.slice p m.length cap, .int .i64 d, .int .u8 s] 66)) := (Below.refl _ _).alloc (Nat.le_refl _) _
  have a0 : (w.alloc (Obj.cells #[.slice p m.length cap, .int .i64 d, .int .u8 s] 66)).cell? ⟨w.heap.size, 0, none⟩ = some (.slice p m.length cap) := by simp
  have a1 : (w.alloc (Obj.cells #[.slice p m.length cap, .int .i64 d, .int .u8 s] 66)).cell? ⟨w.heap.size, 1, none⟩ = some (.int .i64 d) := by simp
  have HU := hidE hu
  clear hu
  replace hG := hG.below hb1 (Nat.le_refl _)
  replace h' := h'.below hb1 (Nat.le_refl _)
  go_enter Tryz.func116, Tryz.ntmps116
  go_upto_region 1 with fail
  generalize w.alloc (Obj.cells #[.slice p m.length cap, .int .i64 d, .int .u8 s] 66) = w1 at hb1 a0 a1 hG h' ⊢
  have HG := hidE (fun (W : World) (hh : GoneAt W B D g) (hs : StepsAt W p m) => (show Calls Tryz.prog 117 #[.pointer (some ⟨D, 0, none⟩), .agg #[.slice p m.length cap, .int .i64 d]] W fun e w' => e = .returned (.tuple #[.int .i64 (lowM g m d), .bool (hasGone g m d)]) ∧ Below W.heap.size W w' from by obtain ⟨_, _, dl, b, cp, c1, hM⟩ := hh; exact doerFind_any D b p cp cap g m d W hl hm c1 dl hM hs HU.out))
  have b0 := hG.b0
  go_wp2_with (go_at_call 117; refine (HG.out _ hG h').mono ?_; rintro e w2 ⟨rfl, hb⟩)
  go_ret
  exact ⟨rfl, hb1.thru hb hb1.size⟩

/-- is the atom gone? -/
def goneA (g : List Mk) (x : At) : Bool := hasGone g x.path x.clock
/-- where the first atom that is gone stands: behind all, if none is -/
def firstG (g : List Mk) (l : List At) : Nat := (l.takeWhile fun x => !goneA g x).length
/-- what IndexFunc answers -/
def idxG (g : List Mk) (l : List At) : Int := if firstG g l < l.length then (firstG g l : Int) else -1
theorem firstG_drop {g : List Mk} {l : List At} {k : Nat} (h : k < l.length) : firstG g (l.drop k) = if goneA g l[k] then 0 else firstG g (l.drop (k + 1)) + 1 := by
  unfold firstG
  rw [List.drop_eq_getElem_cons h, List.takeWhile_cons]
  cases goneA g l[k] <;> simp

set_option maxRecDepth 100000 in
set_option maxHeartbeats 4000000 in
theorem indexG_any (B D : Nat) (a : Option Addr) (cap : Nat) (l : List At) (g : List Mk) (w : World) (hG : GoneAt w B D g) (hg : g.length ≤ 1000) (hu : Up g) (hl : l.length ≤ 1000) (h : AtomsAt w a l) :
    Calls Tryz.prog 126 #[.slice a l.length cap, .func (.func 116) #[] #[.pointer (some ⟨B, 0, none⟩)]] w fun e w' => e = .returned (.int .i64 (idxG g l)) ∧ Below w.heap.size w w' := by
  have HU := hidE hu
  clear hu
  go_enter Tryz.func126, Tryz.ntmps126
  go_wp2_with fail
  go_loopw [8] (fun i wr => ∃ k : Nat, k ≤ l.length ∧ i = .int .i64 k ∧ firstG g l = k + firstG g (l.drop k) ∧ Below w.heap.size w wr) (fun i _ => l.length - (intOf i).toNat)
  case atStart => exact ⟨0, Nat.zero_le _, rfl, by simp, Below.refl _ _⟩
  case round =>
    obtain ⟨k, hk, rfl, hck, hb⟩ := hrel
    have HK := hidE hck
    clear hck
    by_cases hlt : k < l.length
    · rcases h.below hb (Nat.le_refl _) with hs | ⟨ab, ao, rfl, hab, hc⟩
      · simp [hs] at hlt
      obtain ⟨p, cp, c0, c1, c2, hst, hle, _⟩ := hc k hlt
      have hi1 : (k : Int) < l.length := by omega
      have HD := hidE (firstG_drop (g := g) hlt)
      have hc1 := put1_any B D p cp g l[k].path l[k].clock l[k].sign wr (hG.below hb (Nat.le_refl _)) hg HU.out hle hst
      have HC1 := hidE hc1
      have HGA : Hid (goneA g l[k] = hasGone g l[k].path l[k].clock) := rfl
      clear hc1 hc
      cases hgo : hasGone g l[k].path l[k].clock
      · have HF : Hid (firstG g l = k + 1 + firstG g (l.drop (k + 1))) := by show _ = _; rw [HK.out, HD.out, HGA.out, hgo]; simp; omega
        rw [hgo] at HC1
        clear HD HGA hgo
        go_wp2_with (go_at_call 116; refine HC1.out.mono ?_; rintro e w2 ⟨rfl, hb2⟩)
        go_roundw
        case rel => exact ⟨k + 1, by omega, by go_num, HF.out, hb.thru hb2 hb.size⟩
        case measure => simp [intOf]; omega
      · have HF : Hid (idxG g l = k) := by
          show _ = _
          have e : firstG g l = k := by rw [HK.out, HD.out, HGA.out, hgo]; simp
          unfold idxG
          rw [e, if_pos hlt]
        rw [hgo] at HC1
        clear HD HGA hgo
        go_wp2_with (go_at_call 116; refine HC1.out.mono ?_; rintro e w2 ⟨rfl, hb2⟩)
        go_ret
        exact ⟨ret_int (by rw [HF.out]), hb.thru hb2 hb.size⟩
    · have HF : Hid (idxG g l = -1) := by
        show _ = _
        have e : ¬ firstG g l < l.length := by rw [HK.out, List.drop_eq_nil_of_le (by omega)]; simp [firstG]; omega
        unfold idxG
        rw [if_neg e]
      go_wp2_with fail
      go_ret
      exact ⟨ret_int (by rw [HF.out]), hb⟩
end Go.Proofs.YtnhjebdlcbhkcacGreat

namespace Go.Proofs.YtnhjebdlcbhkcacGreat
open Go.RowKit

/-- the row's cells are these atoms', and none is frozen -/
def RowAt (w : World) (blk : Nat) (rs : List Raw) : Prop := blk < w.heap.size ∧ ∀ j u, (flatR rs)[j]? = some u → w.cell? ⟨blk, j, none⟩ = some u ∧ w.frozen? ⟨blk, j, none⟩ = false

theorem flatR_idx {rs : List Raw} {j : Nat} {u : Value} (h : (flatR rs)[j]? = some u) : ∃ hi : j / 3 < rs.length, (j % 3 = 0 ∧ u = .slice rs[j / 3].p rs[j / 3].n rs[j / 3].cap) ∨ (j % 3 = 1 ∧ u = .int .i64 rs[j / 3].clock) ∨ (j % 3 = 2 ∧ u = .int .u8 rs[j / 3].sign) := by
  have hj : j < (flatR rs).length := by
    rcases Nat.lt_or_ge j (flatR rs).length with h' | h'
    · exact h'
    · rw [List.getElem?_eq_none h'] at h; cases h
  rw [flatR_length] at hj
  have hi : j / 3 < rs.length := by omega
  refine ⟨hi, ?_⟩
  have hg := flatR_get rs (j / 3) hi
  rcases (show j % 3 = 0 ∨ j % 3 = 1 ∨ j % 3 = 2 by omega) with e | e | e
  · refine Or.inl ⟨e, ?_⟩
    rw [show (flatR rs)[j]? = (flatR rs)[j / 3 * 3]? by congr 1; omega, hg.1] at h
    exact (Option.some.inj h).symm
  · refine Or.inr (Or.inl ⟨e, ?_⟩)
    rw [show (flatR rs)[j]? = (flatR rs)[j / 3 * 3 + 1]? by congr 1; omega, hg.2.1] at h
    exact (Option.some.inj h).symm
  · refine Or.inr (Or.inr ⟨e, ?_⟩)
    rw [show (flatR rs)[j]? = (flatR rs)[j / 3 * 3 + 2]? by congr 1; omega, hg.2.2] at h
    exact (Option.some.inj h).symm

/-- the row's raws with one put anew -/
theorem RowAt.put {w : World} {blk : Nat} {rc : List Raw} (h : RowAt w blk rc) {p : Nat} (hp : p < rc.length) (r : Raw) :
    RowAt (((w.setCell ⟨blk, p * 3, none⟩ (.slice r.p r.n r.cap)).setCell ⟨blk, p * 3 + 1, none⟩ (.int .i64 r.clock)).setCell ⟨blk, p * 3 + 2, none⟩ (.int .u8 r.sign)) blk (rc.set p r) := by
  refine ⟨by simpa [World.setCell] using h.1, fun j u hj => ?_⟩
  obtain ⟨hi, hu⟩ := flatR_idx hj
  have hi' : j / 3 < rc.length := by simpa using hi
  have hg := flatR_get rc (j / 3) hi'
  have g0 := flatR_get rc p hp
  have k0 := (h.2 _ _ g0.1).1
  have k1 := (h.2 _ _ g0.2.1).1
  have k2 := (h.2 _ _ g0.2.2).1
  refine ⟨?_, ?_⟩
  · by_cases e : j / 3 = p
    · subst e
      simp only [List.getElem_set_self] at hu
      rcases hu with ⟨e, rfl⟩ | ⟨e, rfl⟩ | ⟨e, rfl⟩
      · rw [show j = j / 3 * 3 by omega]
        rw [show j / 3 * 3 / 3 = j / 3 by omega]
        rw [World.cell?_setCell_other _ _ _ _ (by simp), World.cell?_setCell_other _ _ _ _ (by simp)]
        exact World.cell?_setCell_same _ _ _ k0
      · have ej : (⟨blk, j, none⟩ : Addr) = ⟨blk, j / 3 * 3 + 1, none⟩ := by congr 1; omega
        rw [ej, World.cell?_setCell_other _ _ _ _ (by simp)]
        refine World.cell?_setCell_same (u := .int .i64 rc[j / 3].clock) _ _ _ ?_
        rw [World.cell?_setCell_other _ _ _ _ (by simp)]; exact k1
      · have ej : (⟨blk, j, none⟩ : Addr) = ⟨blk, j / 3 * 3 + 2, none⟩ := by congr 1; omega
        rw [ej]
        refine World.cell?_setCell_same (u := .int .u8 rc[j / 3].sign) _ _ _ ?_
        rw [World.cell?_setCell_other _ _ _ _ (by simp), World.cell?_setCell_other _ _ _ _ (by simp)]; exact k2
    · have hne : ∀ o, o = p * 3 ∨ o = p * 3 + 1 ∨ o = p * 3 + 2 → (⟨blk, o, none⟩ : Addr) ≠ ⟨blk, j, none⟩ := by
        intro o ho hh
        have := congrArg Addr.off hh
        simp at this
        omega
      rw [World.cell?_setCell_other _ _ _ _ (hne _ (by simp)), World.cell?_setCell_other _ _ _ _ (hne _ (by simp)), World.cell?_setCell_other _ _ _ _ (hne _ (by simp))]
      simp only [List.getElem_set_ne (show p ≠ j / 3 from fun h => e h.symm)] at hu
      rcases hu with ⟨e, rfl⟩ | ⟨e, rfl⟩ | ⟨e, rfl⟩
      · have ej : j = j / 3 * 3 := by omega
        exact (h.2 j _ (by rw [show (flatR rc)[j]? = (flatR rc)[j / 3 * 3]? by congr 1]; exact hg.1)).1
      · have ej : j = j / 3 * 3 + 1 := by omega
        exact (h.2 j _ (by rw [show (flatR rc)[j]? = (flatR rc)[j / 3 * 3 + 1]? by congr 1]; exact hg.2.1)).1
      · have ej : j = j / 3 * 3 + 2 := by omega
        exact (h.2 j _ (by rw [show (flatR rc)[j]? = (flatR rc)[j / 3 * 3 + 2]? by congr 1]; exact hg.2.2)).1
  · rw [World.frozen?_setCell, World.frozen?_setCell, World.frozen?_setCell]
    have hj3 : j < (flatR rc).length := by rw [flatR_length]; omega
    exact (h.2 j _ (List.getElem?_eq_getElem hj3)).2

theorem RowAt.below {w w' : World} {blk : Nat} {rc : List Raw} (h : RowAt w blk rc) (hb : Below w.heap.size w w') : RowAt w' blk rc :=
  ⟨Nat.lt_of_lt_of_le h.1 hb.size, fun j u hj => ⟨(hb.cell (p := ⟨blk, j, none⟩) h.1).trans (h.2 j u hj).1, (hb.frozen (p := ⟨blk, j, none⟩) h.1).trans (h.2 j u hj).2⟩⟩

theorem RowAt.get {w : World} {blk : Nat} {rc : List Raw} (h : RowAt w blk rc) {i : Nat} (hi : i < rc.length) : w.cell? ⟨blk, i * 3, none⟩ = some (.slice rc[i].p rc[i].n rc[i].cap) ∧ w.cell? ⟨blk, i * 3 + 1, none⟩ = some (.int .i64 rc[i].clock) ∧ w.cell? ⟨blk, i * 3 + 2, none⟩ = some (.int .u8 rc[i].sign) :=
  ⟨(h.2 _ _ (flatR_get rc i hi).1).1, (h.2 _ _ (flatR_get rc i hi).2.1).1, (h.2 _ _ (flatR_get rc i hi).2.2).1⟩

theorem run_clearA (w : World) (ty : TypeId) (b o n c : Nat) (hn : 0 < n) (hc : ∀ j, j < n * 3 → (w.cell? ⟨b, o + j, none⟩).isSome = true) (hf : ∀ j, j < n * 3 → w.frozen? ⟨b, o + j, none⟩ = false) :
    ∃ vs : List Value, (Builtin.clear_ #[22] ty #[.slice (some ⟨b, o, none⟩) n c]).run Tryz.prog w = .ok (.tuple #[]) (w.setCells b o vs) := by
  obtain ⟨i0, hi, hz0, hz1, hz2⟩ := Tryz.info66
  have hlen : (Builtin.zeroCells (Value.agg #[.slice none 0 0, .int .i64 0, .int .u8 0]).cells n).toList.length = n * 3 := by
    simp [Builtin.zeroCells]; rfl
  have hone : ∀ v ∈ (Builtin.zeroCells (Value.agg #[.slice none 0 0, .int .i64 0, .int .u8 0]).cells n).toList, v.oneCell' = true := by
    intro v hv
    simp [Builtin.zeroCells] at hv
    obtain ⟨i, _, rfl⟩ := hv
    have hsz : (Value.agg #[.slice none 0 0, .int .i64 0, .int .u8 0]).cells.size = 3 := rfl
    rw [hsz]
    rcases (show i % 3 = 0 ∨ i % 3 = 1 ∨ i % 3 = 2 by omega) with e | e | e <;> rw [e] <;> rfl
  have hst := run_storeCells_cells (P := Tryz.prog) b o _ 0 w (by rw [hlen]; simpa using hc) (by rw [hlen]; simpa using hf) hone
  simp only [Nat.add_zero] at hst
  have hv : ∀ w, (zeroValue 66).run Tryz.prog w = .ok (.agg #[.slice none 0 0, .int .i64 0, .int .u8 0]) w := by
    intro w; simp [zeroValue, typeInfo, hi, hz0]
  obtain ⟨m, rfl⟩ : ∃ m, n = m + 1 := ⟨n - 1, by omega⟩
  refine ⟨(Builtin.zeroCells (Value.agg #[.slice none 0 0, .int .i64 0, .int .u8 0]).cells (m + 1)).toList, ?_⟩
  simp [Builtin.clear_, run_underlying Tryz.underlying22, hv, hst]

theorem RowAt.froz {w : World} {blk : Nat} {rc : List Raw} (h : RowAt w blk rc) {i : Nat} (hi : i < rc.length) : w.frozen? ⟨blk, i * 3, none⟩ = false ∧ w.frozen? ⟨blk, i * 3 + 1, none⟩ = false ∧ w.frozen? ⟨blk, i * 3 + 2, none⟩ = false :=
  ⟨(h.2 _ _ (flatR_get rc i hi).1).2, (h.2 _ _ (flatR_get rc i hi).2.1).2, (h.2 _ _ (flatR_get rc i hi).2.2).2⟩

theorem below_setCells' {B : Nat} {a : World} (b : Nat) (hb : B ≤ b) : ∀ (vs : List Value) (o : Nat) {w : World}, Below B a w → Below B a (w.setCells b o vs)
  | [], _, _, h => h
  | v :: r, o, _, h => below_setCells' b hb r (o + 1) (h.setCell (p := ⟨b, o, none⟩) hb v)

/-- only that block was changed -/
theorem grown_thru {w wr w' : World} {row : Option Nat} (hg : w.grownBy wr row) (hb : Below wr.heap.size wr w') : w.grownBy w' row :=
  ⟨hb.os.trans hg.os, hb.tape.trans hg.tape, hb.output.trans hg.output, Nat.le_trans hg.size hb.size, fun k hk hne => (hb.block k (Nat.lt_of_lt_of_le hk hg.size)).trans (hg.block k hk hne)⟩
theorem grown_set {w wr : World} {blk o : Nat} (hg : w.grownBy wr (some blk)) (v : Value) : w.grownBy (wr.setCell ⟨blk, o, none⟩ v) (some blk) := by
  have h := (Below.refl blk wr).setCell (p := ⟨blk, o, none⟩) (Nat.le_refl _) v
  refine ⟨h.os.trans hg.os, h.tape.trans hg.tape, h.output.trans hg.output, Nat.le_trans hg.size h.size, fun k hk hne => ?_⟩
  refine Eq.trans ?_ (hg.block k hk hne)
  have hne' : k ≠ blk := fun e => hne (by rw [e])
  exact Below.heap_setCell wr ⟨blk, o, none⟩ v k hne'
end Go.Proofs.YtnhjebdlcbhkcacGreat
