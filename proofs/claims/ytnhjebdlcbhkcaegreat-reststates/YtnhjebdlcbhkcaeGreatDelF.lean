/- A row of atoms whose cells are told one by one. -/
import Derived.Test.YtnhjebdlcbhkcaeGreatGapA
import Derived.Lib.SliceRun
import Derived.Test.YtnhjebdlcbhkcaeGreatDelI
namespace Go.Proofs.YtnhjebdlcbhkcaeGreat
open Go.RowKit

def RowAt (w : World) (blk : Nat) (rs : List Raw) : Prop := blk < w.heap.size ∧ ∀ j u, (flatR rs)[j]? = some u → w.cell? ⟨blk, j, none⟩ = some u ∧ w.frozen? ⟨blk, j, none⟩ = false

theorem flatR_idx {rs : List Raw} {j : Nat} {u : Value} (h : (flatR rs)[j]? = some u) : ∃ hi : j / 3 < rs.length, (j % 3 = 0 ∧ u = .slice rs[j / 3].p rs[j / 3].n rs[j / 3].cap) ∨ (j % 3 = 1 ∧ u = .int .i64 rs[j / 3].clock) ∨ (j % 3 = 2 ∧ u = .int .u8 rs[j / 3].sign) := by
  have hj : j < (flatR rs).length := by
    rcases Nat.lt_or_ge j (flatR rs).length with h' | h'
    · exact h'
    · rw [List.getElem?_eq_none h'] at h; cases h
  rw [flatR_length] at hj
  have hi : j / 3 < rs.length := by omega
  refine ⟨hi, ?_⟩
  have hg := flatR_get rs (j / 3) hi
  rcases (show j % 3 = 0 ∨ j % 3 = 1 ∨ j % 3 = 2 by omega) with e | e | e
  · refine Or.inl ⟨e, ?_⟩
    rw [show (flatR rs)[j]? = (flatR rs)[j / 3 * 3]? by congr 1; omega, hg.1] at h
    exact (Option.some.inj h).symm
  · refine Or.inr (Or.inl ⟨e, ?_⟩)
    rw [show (flatR rs)[j]? = (flatR rs)[j / 3 * 3 + 1]? by congr 1; omega, hg.2.1] at h
    exact (Option.some.inj h).symm
  · refine Or.inr (Or.inr ⟨e, ?_⟩)
    rw [show (flatR rs)[j]? = (flatR rs)[j / 3 * 3 + 2]? by congr 1; omega, hg.2.2] at h
    exact (Option.some.inj h).symm

theorem RowAt.put {w : World} {blk : Nat} {rc : List Raw} (h : RowAt w blk rc) {p : Nat} (hp : p < rc.length) (r : Raw) :
    RowAt (((w.setCell ⟨blk, p * 3, none⟩ (.slice r.p r.n r.cap)).setCell ⟨blk, p * 3 + 1, none⟩ (.int .i64 r.clock)).setCell ⟨blk, p * 3 + 2, none⟩ (.int .u8 r.sign)) blk (rc.set p r) := by
  refine ⟨by simpa [World.setCell] using h.1, fun j u hj => ?_⟩
  obtain ⟨hi, hu⟩ := flatR_idx hj
  have hi' : j / 3 < rc.length := by simpa using hi
  have hg := flatR_get rc (j / 3) hi'
  have g0 := flatR_get rc p hp
  have k0 := (h.2 _ _ g0.1).1
  have k1 := (h.2 _ _ g0.2.1).1
  have k2 := (h.2 _ _ g0.2.2).1
  refine ⟨?_, ?_⟩
  · by_cases e : j / 3 = p
    · subst e
      simp only [List.getElem_set_self] at hu
      rcases hu with ⟨e, rfl⟩ | ⟨e, rfl⟩ | ⟨e, rfl⟩
      · rw [show j = j / 3 * 3 by omega]
        rw [show j / 3 * 3 / 3 = j / 3 by omega]
        rw [World.cell?_setCell_other _ _ _ _ (by simp), World.cell?_setCell_other _ _ _ _ (by simp)]
        exact World.cell?_setCell_same _ _ _ k0
      · have ej : (⟨blk, j, none⟩ : Addr) = ⟨blk, j / 3 * 3 + 1, none⟩ := by congr 1; omega
        rw [ej, World.cell?_setCell_other _ _ _ _ (by simp)]
        refine World.cell?_setCell_same (u := .int .i64 rc[j / 3].clock) _ _ _ ?_
        rw [World.cell?_setCell_other _ _ _ _ (by simp)]; exact k1
      · have ej : (⟨blk, j, none⟩ : Addr) = ⟨blk, j / 3 * 3 + 2, none⟩ := by congr 1; omega
        rw [ej]
        refine World.cell?_setCell_same (u := .int .u8 rc[j / 3].sign) _ _ _ ?_
        rw [World.cell?_setCell_other _ _ _ _ (by simp), World.cell?_setCell_other _ _ _ _ (by simp)]; exact k2
    · have hne : ∀ o, o = p * 3 ∨ o = p * 3 + 1 ∨ o = p * 3 + 2 → (⟨blk, o, none⟩ : Addr) ≠ ⟨blk, j, none⟩ := by
        intro o ho hh
        have := congrArg Addr.off hh
        simp at this
        omega
      rw [World.cell?_setCell_other _ _ _ _ (hne _ (by simp)), World.cell?_setCell_other _ _ _ _ (hne _ (by simp)), World.cell?_setCell_other _ _ _ _ (hne _ (by simp))]
      simp only [List.getElem_set_ne (show p ≠ j / 3 from fun h => e h.symm)] at hu
      rcases hu with ⟨e, rfl⟩ | ⟨e, rfl⟩ | ⟨e, rfl⟩
      · have ej : j = j / 3 * 3 := by omega
        exact (h.2 j _ (by rw [show (flatR rc)[j]? = (flatR rc)[j / 3 * 3]? by congr 1]; exact hg.1)).1
      · have ej : j = j / 3 * 3 + 1 := by omega
        exact (h.2 j _ (by rw [show (flatR rc)[j]? = (flatR rc)[j / 3 * 3 + 1]? by congr 1]; exact hg.2.1)).1
      · have ej : j = j / 3 * 3 + 2 := by omega
        exact (h.2 j _ (by rw [show (flatR rc)[j]? = (flatR rc)[j / 3 * 3 + 2]? by congr 1]; exact hg.2.2)).1
  · rw [World.frozen?_setCell, World.frozen?_setCell, World.frozen?_setCell]
    have hj3 : j < (flatR rc).length := by rw [flatR_length]; omega
    exact (h.2 j _ (List.getElem?_eq_getElem hj3)).2

theorem RowAt.below {w w' : World} {blk : Nat} {rc : List Raw} (h : RowAt w blk rc) (hb : Below w.heap.size w w') : RowAt w' blk rc :=
  ⟨Nat.lt_of_lt_of_le h.1 hb.size, fun j u hj => ⟨(hb.cell (p := ⟨blk, j, none⟩) h.1).trans (h.2 j u hj).1, (hb.frozen (p := ⟨blk, j, none⟩) h.1).trans (h.2 j u hj).2⟩⟩

theorem RowAt.get {w : World} {blk : Nat} {rc : List Raw} (h : RowAt w blk rc) {i : Nat} (hi : i < rc.length) : w.cell? ⟨blk, i * 3, none⟩ = some (.slice rc[i].p rc[i].n rc[i].cap) ∧ w.cell? ⟨blk, i * 3 + 1, none⟩ = some (.int .i64 rc[i].clock) ∧ w.cell? ⟨blk, i * 3 + 2, none⟩ = some (.int .u8 rc[i].sign) :=
  ⟨(h.2 _ _ (flatR_get rc i hi).1).1, (h.2 _ _ (flatR_get rc i hi).2.1).1, (h.2 _ _ (flatR_get rc i hi).2.2).1⟩

theorem run_clearA (w : World) (ty : TypeId) (b o n c : Nat) (hn : 0 < n) (hc : ∀ j, j < n * 3 → (w.cell? ⟨b, o + j, none⟩).isSome = true) (hf : ∀ j, j < n * 3 → w.frozen? ⟨b, o + j, none⟩ = false) :
    ∃ vs : List Value, (Builtin.clear_ #[22] ty #[.slice (some ⟨b, o, none⟩) n c]).run Tryz.prog w = .ok (.tuple #[]) (w.setCells b o vs) := by
  obtain ⟨i0, hi, hz0, hz1, hz2⟩ := Tryz.info108
  have hlen : (Builtin.zeroCells (Value.agg #[.slice none 0 0, .int .i64 0, .int .u8 0]).cells n).toList.length = n * 3 := by
    simp [Builtin.zeroCells]; rfl
  have hone : ∀ v ∈ (Builtin.zeroCells (Value.agg #[.slice none 0 0, .int .i64 0, .int .u8 0]).cells n).toList, v.oneCell' = true := by
    intro v hv
    simp [Builtin.zeroCells] at hv
    obtain ⟨i, _, rfl⟩ := hv
    have hsz : (Value.agg #[.slice none 0 0, .int .i64 0, .int .u8 0]).cells.size = 3 := rfl
    rw [hsz]
    rcases (show i % 3 = 0 ∨ i % 3 = 1 ∨ i % 3 = 2 by omega) with e | e | e <;> rw [e] <;> rfl
  have hst := run_storeCells_cells (P := Tryz.prog) b o _ 0 w (by rw [hlen]; simpa using hc) (by rw [hlen]; simpa using hf) hone
  simp only [Nat.add_zero] at hst
  have hv : ∀ w, (zeroValue 108).run Tryz.prog w = .ok (.agg #[.slice none 0 0, .int .i64 0, .int .u8 0]) w := by
    intro w; simp [zeroValue, typeInfo, hi, hz0]
  obtain ⟨m, rfl⟩ : ∃ m, n = m + 1 := ⟨n - 1, by omega⟩
  refine ⟨(Builtin.zeroCells (Value.agg #[.slice none 0 0, .int .i64 0, .int .u8 0]).cells (m + 1)).toList, ?_⟩
  simp [Builtin.clear_, run_underlying Tryz.underlying22, hv, hst]

theorem RowAt.froz {w : World} {blk : Nat} {rc : List Raw} (h : RowAt w blk rc) {i : Nat} (hi : i < rc.length) : w.frozen? ⟨blk, i * 3, none⟩ = false ∧ w.frozen? ⟨blk, i * 3 + 1, none⟩ = false ∧ w.frozen? ⟨blk, i * 3 + 2, none⟩ = false :=
  ⟨(h.2 _ _ (flatR_get rc i hi).1).2, (h.2 _ _ (flatR_get rc i hi).2.1).2, (h.2 _ _ (flatR_get rc i hi).2.2).2⟩

theorem below_setCells' {B : Nat} {a : World} (b : Nat) (hb : B ≤ b) : ∀ (vs : List Value) (o : Nat) {w : World}, Below B a w → Below B a (w.setCells b o vs)
  | [], _, _, h => h
  | v :: r, o, _, h => below_setCells' b hb r (o + 1) (h.setCell (p := ⟨b, o, none⟩) hb v)

theorem grown_thru {w wr w' : World} {row : Option Nat} (hg : w.grownBy wr row) (hb : Below wr.heap.size wr w') : w.grownBy w' row :=
  ⟨hb.os.trans hg.os, hb.tape.trans hg.tape, hb.output.trans hg.output, Nat.le_trans hg.size hb.size, fun k hk hne => (hb.block k (Nat.lt_of_lt_of_le hk hg.size)).trans (hg.block k hk hne)⟩
theorem grown_set {w wr : World} {blk o : Nat} (hg : w.grownBy wr (some blk)) (v : Value) : w.grownBy (wr.setCell ⟨blk, o, none⟩ v) (some blk) := by
  have h := (Below.refl blk wr).setCell (p := ⟨blk, o, none⟩) (Nat.le_refl _) v
  refine ⟨h.os.trans hg.os, h.tape.trans hg.tape, h.output.trans hg.output, Nat.le_trans hg.size h.size, fun k hk hne => ?_⟩
  refine Eq.trans ?_ (hg.block k hk hne)
  have hne' : k ≠ blk := fun e => hne (by rw [e])
  exact Below.heap_setCell wr ⟨blk, o, none⟩ v k hne'
end Go.Proofs.YtnhjebdlcbhkcaeGreat

namespace Go.Proofs.YtnhjebdlcbhkcaeGreat
open Go.RowKit

def keepG (g : List Mk) (l : List At) : List At := l.filter fun x => !goneA g x
theorem keepG_take {g : List Mk} {l : List At} {k : Nat} (h : k < l.length) : keepG g (l.take (k + 1)) = keepG g (l.take k) ++ if goneA g l[k] then [] else [l[k]] := by
  unfold keepG
  rw [List.take_succ_eq_append_getElem h, List.filter_append]
  congr 1
  cases e : goneA g l[k] <;> simp [e]
theorem keepG_first {g : List Mk} : ∀ {l : List At}, keepG g (l.take (firstG g l)) = l.take (firstG g l)
  | [] => rfl
  | x :: l => by
    unfold firstG
    rw [List.takeWhile_cons]
    cases e : goneA g x
    · have ih := keepG_first (g := g) (l := l)
      unfold firstG keepG at ih
      simp only [Bool.not_false, if_true, List.length_cons, List.take_succ_cons]
      unfold keepG
      rw [List.filter_cons, e]
      simp only [Bool.not_false, if_true]
      rw [ih]
    · simp [keepG]
theorem firstG_gone {g : List Mk} : ∀ {l : List At} (h : firstG g l < l.length), goneA g l[firstG g l] = true
  | [], h => by simp at h
  | x :: l, h => by
    cases e : goneA g x
    · have e1 : firstG g (x :: l) = firstG g l + 1 := by unfold firstG; rw [List.takeWhile_cons, e]; rfl
      have h' : firstG g l < l.length := by rw [e1] at h; simpa using h
      have := firstG_gone h'
      simp only [e1, List.getElem_cons_succ]
      exact this
    · have e1 : firstG g (x :: l) = 0 := by unfold firstG; rw [List.takeWhile_cons, e]; rfl
      simp only [e1, List.getElem_cons_zero]
      exact e
theorem firstG_le {g : List Mk} (l : List At) : firstG g l ≤ l.length := by unfold firstG; exact List.IsPrefix.length_le (List.takeWhile_prefix _)

theorem grown_setCells {w : World} (b : Nat) : ∀ (vs : List Value) (o : Nat) {wr : World}, w.grownBy wr (some b) → w.grownBy (wr.setCells b o vs) (some b)
  | [], _, _, h => h
  | v :: r, o, _, h => grown_setCells b r (o + 1) (grown_set h v)

structure PacksG (w wr : World) (base blk : Nat) (rs : List Raw) (xs : List At) (g : List Mk) (i j : Nat) : Prop where
  i_eq : (keepG g (xs.take j)).length = i
  row : ∃ rc : List Raw, rc.length = rs.length ∧ RowAt wr blk rc ∧ (∀ p (h : p < (keepG g (xs.take j)).length) (h' : p < rc.length), PickRaw w base rc[p] (keepG g (xs.take j))[p]) ∧ ∀ p (h : p < rs.length) (h' : p < rc.length), i ≤ p → rc[p] = rs[p]

set_option maxRecDepth 100000 in
set_option maxHeartbeats 8000000 in
theorem deleteG_ok (w0 w : World) (blk cap B D : Nat) (rs : List Raw) (xs : List At) (g : List Mk) (hb0 : Below w0.heap.size w0 w) (hblk : w0.heap.size ≤ blk) (hl : rs.length = xs.length) (hn : xs.length ≤ 1000) (hcap : xs.length ≤ cap) (hcapm : cap ≤ maxLen) (hr : ∀ i (h : i < xs.length) (h' : i < rs.length), PickRaw w w0.heap.size rs[i] xs[i]) (hrow : RowAt w blk rs) (hty : ∀ gp cur, w.heap[gp]? = some (.cells cur 124 (0, 0)) → gp ≠ blk) (hG : GoneAt w0 B D g) (hg : g.length ≤ 1000) (hu : Up g) :
    Calls Tryz.prog 208 #[.slice (some ⟨blk, 0, none⟩) xs.length cap, .func (.func 209) #[] #[.pointer (some ⟨B, 0, none⟩)]] w fun e w' => ∃ cap', e = .returned (.slice (some ⟨blk, 0, none⟩) (keepG g xs).length cap') ∧ AtomsAt w' (some ⟨blk, 0, none⟩) (keepG g xs) ∧ (keepG g xs).length ≤ cap' ∧ cap' ≤ maxLen ∧ Below w0.heap.size w0 w' := by
  have HR := hidE hr
  have HTY := hidE hty
  have HU := hidE hu
  clear hr hty hu
  have hat : AtomsAt w (some ⟨blk, 0, none⟩) xs := by
    refine Or.inr ⟨blk, 0, rfl, hrow.1, fun i hi => ?_⟩
    have r := (HR.out i hi (by omega)).raw
    obtain ⟨g0, g1, g2⟩ := hrow.get (i := i) (by omega)
    rw [r.n] at g0
    rw [r.clock] at g1
    rw [r.sign] at g2
    rw [Nat.zero_add]
    exact ⟨_, _, g0, g1, g2, r.steps, r.len, r.cap, r.s0, r.s1⟩
  have HI := hidE (indexG_any B D (some ⟨blk, 0, none⟩) cap xs g w (hG.below hb0 (Nat.le_refl _)) hg HU.out hn hat)
  go_enter Tryz.func208, Tryz.ntmps208
  go_wp2_with fail
  refine HI.out.mono ?_
  rintro e w1 ⟨rfl, hb⟩
  clear HI
  have hb1 := hb0.thru hb hb0.size
  by_cases hf : firstG g xs < xs.length
  case neg =>
    have hfe : firstG g xs = xs.length := by have := firstG_le (g := g) xs; omega
    have HK : Hid (keepG g xs = xs) := by
      show _ = _
      have := keepG_first (g := g) (l := xs)
      rwa [hfe, List.take_length] at this
    have hix : idxG g xs = -1 := by unfold idxG; rw [if_neg hf]
    rw [hix]
    clear hf hfe hix
    have hat1 := hat.below hb (Nat.le_refl _)
    go_wp2_with fail
    go_ret
    refine ⟨cap, by rw [HK.out]; rfl, by rw [HK.out]; exact hat1, by rw [HK.out]; exact hcap, hcapm, hb1⟩
  have hix : idxG g xs = (firstG g xs : Int) := by unfold idxG; rw [if_pos hf]
  rw [hix]
  have HF1 := hidE (keepG_first (g := g) (l := xs))
  have HF2 := hidE (firstG_gone hf)
  have hgr : w.grownBy w1 (some blk) := ⟨hb.os, hb.tape, hb.output, hb.size, fun k hk _ => hb.block k hk⟩
  have hrow1 := hrow.below hb
  have HP0 : Hid (PacksG w w1 w0.heap.size blk rs xs g (firstG g xs) (firstG g xs + 1)) := by
    have e1 : keepG g (xs.take (firstG g xs + 1)) = xs.take (firstG g xs) := by rw [keepG_take hf, HF2.out, HF1.out]; simp
    refine ⟨by rw [e1]; simp; omega, rs, rfl, hrow1, fun p h h' => ?_, fun _ _ _ _ => rfl⟩
    simp only [e1, List.getElem_take]
    rw [e1] at h
    exact HR.out p (by simp at h; omega) (by omega)
  generalize firstG g xs = f0 at hf hix HP0 ⊢
  have hif : ((f0 : Int) == -1) = false := by rw [beq_eq_false_iff_ne]; omega
  clear HF1 HF2 hix hat hrow1
  unfold maxLen at hcapm
  go_wp2_with fail
  go_loopw [5, 6] (fun iv jv wr => ∃ ii jj : Nat, ii < jj ∧ jj ≤ xs.length ∧ iv = .int .i64 ii ∧ jv = .int .i64 jj ∧ PacksG w wr w0.heap.size blk rs xs g ii jj ∧ w.grownBy wr (some blk) ∧ Below w0.heap.size w0 wr) (fun _ jv _ => xs.length - (intOf jv).toNat)
  case atStart => exact ⟨f0, f0 + 1, by omega, by omega, rfl, by go_num, HP0.out, hgr, hb1⟩
  case round =>
    clear HP0 hgr hb1 hb hb0
    obtain ⟨ii, jj, hij, hjl, rfl, rfl, hpk, hgw, hb0⟩ := hrel
    obtain ⟨hpi, rc, hrcl, hrcr, hrcx, hrco⟩ := hpk
    have HPI := hidE hpi
    have HRX := hidE hrcx
    have HRO := hidE hrco
    clear hpi hrcx hrco
    have HKP := hidE (fun (W : World) (hh : w.grownBy W (some blk)) (r : Raw) (x : At) (hp : PickRaw w w0.heap.size r x) => (hp.kept hh (fun gp cap _ ho => by
      rcases ho.2 with ⟨hc, _⟩ | ⟨g1, c1, cur, e1, _, e2, _⟩
      · simp at hc
      · simp at e1
        intro e
        have := HTY.out g1 cur e2
        simp at e
        omega)).raw)
    by_cases hlt : jj < xs.length
    · have HS := hidE (keepG_take (g := g) hlt)
      have r1 := HKP.out wr hgw _ _ (HR.out jj hlt (by omega))
      obtain ⟨g0, g1, g2⟩ := hrcr.get (i := jj) (by omega)
      rw [HRO.out jj (by omega) (by omega) (by omega)] at g0 g1 g2
      have hgo := hidE (put1_any B D (rs[jj]'(by omega)).p (rs[jj]'(by omega)).cap g xs[jj].path xs[jj].clock xs[jj].sign)
      have HGA : Hid (goneA g xs[jj] = hasGone g xs[jj].path xs[jj].clock) := rfl
      have hst := r1.steps
      have hle := r1.len
      have e1 := r1.n
      have e2 := r1.clock
      have e3 := r1.sign
      have HRJ := hidE (HR.out jj hlt (by omega))
      clear r1
      have hRK : ∃ rk, rk = rs[jj]'(by omega) := ⟨_, rfl⟩
      obtain ⟨rk, hrk⟩ := hRK
      rw [← hrk] at g0 g1 g2 hgo hst e1 e2 e3 HRJ
      have HRK := hidE hrk
      clear hrk
      have hX : ∃ x, x = xs[jj] := ⟨_, rfl⟩
      obtain ⟨x, hxx⟩ := hX
      rw [← hxx] at HS hgo HGA hst hle e1 e2 e3 HRJ
      have HXX := hidE hxx
      clear hxx
      rw [e1] at g0
      rw [e2] at g1
      rw [e3] at g2
      obtain ⟨m1, d1, s1⟩ := x
      simp only at HS hgo HGA hst hle e1 e2 e3 g0 g1 g2
      have hi1 : (jj : Int) < xs.length := by omega
      go_upto_region 8 with fail
      have hbA : Below wr.heap.size wr (wr.alloc (Obj.cells #[.slice rk.p m1.length rk.cap, .int .i64 d1, .int .u8 s1] 108)) := (Below.refl _ _).alloc (Nat.le_refl _) _
      have y0 : (wr.alloc (Obj.cells #[.slice rk.p m1.length rk.cap, .int .i64 d1, .int .u8 s1] 108)).cell? ⟨wr.heap.size, 0, none⟩ = some (.slice rk.p m1.length rk.cap) := by simp
      have y1 : (wr.alloc (Obj.cells #[.slice rk.p m1.length rk.cap, .int .i64 d1, .int .u8 s1] 108)).cell? ⟨wr.heap.size, 1, none⟩ = some (.int .i64 d1) := by simp
      have y2 : (wr.alloc (Obj.cells #[.slice rk.p m1.length rk.cap, .int .i64 d1, .int .u8 s1] 108)).cell? ⟨wr.heap.size, 2, none⟩ = some (.int .u8 s1) := by simp
      have zy : wr.heap.size < (wr.alloc (Obj.cells #[.slice rk.p m1.length rk.cap, .int .i64 d1, .int .u8 s1] 108)).heap.size := by simp
      have hstA := hst.below hbA (Nat.le_refl _)
      have hb0A := hb0.thru hbA hb0.size
      have hgwA := grown_thru hgw hbA
      have hrcA := hrcr.below hbA
      generalize wr.alloc (Obj.cells #[.slice rk.p m1.length rk.cap, .int .i64 d1, .int .u8 s1] 108) = wA at hbA y0 y1 y2 zy hstA hb0A hgwA hrcA ⊢
      generalize wr.heap.size = Y at y0 y1 y2 zy ⊢
      clear hbA g0 g1 g2 hst hrcr
      have hcall := hgo.out wA (hG.below hb0A (Nat.le_refl _)) hg HU.out hle hstA
      cases hgb : hasGone g m1 d1
      · rw [hgb] at hcall HGA
        have HCALL := hidE hcall
        clear hcall
        have HC : Hid (keepG g (xs.take (jj + 1)) = keepG g (xs.take jj) ++ [xs[jj]]) := by show _ = _; rw [HS.out, HGA.out, ← HXX.out]; rfl
        clear HS HGA hgb
        go_wp2_with fail
        refine HCALL.out.mono ?_
        rintro e w2 ⟨rfl, hb2⟩
        have v0 := (hb2.cell (p := ⟨Y, 0, none⟩) zy).trans y0
        have v1 := (hb2.cell (p := ⟨Y, 1, none⟩) zy).trans y1
        have v2 := (hb2.cell (p := ⟨Y, 2, none⟩) zy).trans y2
        have hb02 := hb0A.thru hb2 hb0A.size
        have hgw2 := grown_thru hgwA hb2
        have hrc2 := hrcA.below hb2
        clear hb2 y0 y1 y2 zy hstA hb0A hgwA hrcA HCALL
        obtain ⟨t0, t1, t2⟩ := hrc2.get (i := ii) (by omega)
        obtain ⟨z0, z1, z2⟩ := hrc2.froz (i := ii) (by omega)
        have hiil : (ii : Int) < xs.length := by omega
        have hput := hrc2.put (p := ii) (by omega) rk
        rw [e1, e2, e3] at hput
        have HPut : Hid (∀ p (h : p < (keepG g (xs.take jj) ++ [xs[jj]]).length) (h' : p < (rc.set ii rk).length), PickRaw w w0.heap.size (rc.set ii rk)[p] (keepG g (xs.take jj) ++ [xs[jj]])[p]) := by
          intro p hp hp'
          have hpi := HPI.out
          by_cases e : p < ii
          · rw [List.getElem_set_ne (by omega), List.getElem_append_left (by omega)]
            exact HRX.out p (by omega) (by simpa using hp')
          · have : p = ii := by simp at hp; omega
            subst this
            have e2 : (keepG g (xs.take jj) ++ [xs[jj]])[p] = xs[jj] := by
              rw [List.getElem_append_right (by omega)]; simp
            rw [List.getElem_set_self, e2, ← HXX.out]
            exact HRJ.out
        have HPo : Hid (∀ p (h : p < rs.length) (h' : p < (rc.set ii rk).length), ii + 1 ≤ p → (rc.set ii rk)[p] = rs[p]) := by
          intro p hp hp' hip
          rw [List.getElem_set_ne (by omega)]
          exact HRO.out p hp (by simpa using hp') (by omega)
        go_wp2_with fail
        go_roundw
        case rel =>
          refine ⟨ii + 1, jj + 1, by omega, by omega, by go_num, by go_num, ⟨?_, rc.set ii rk, by simp [hrcl], hput, ?_, HPo.out⟩, grown_set (grown_set (grown_set hgw2 _) _) _, ((hb02.setCell hblk _).setCell hblk _).setCell hblk _⟩
          · rw [HC.out, List.length_append, HPI.out]; rfl
          · simp only [HC.out]
            exact HPut.out
        case measure => simp [intOf]; omega
      · rw [hgb] at hcall HGA
        have HCALL := hidE hcall
        clear hcall
        have HC : Hid (keepG g (xs.take (jj + 1)) = keepG g (xs.take jj)) := by show _ = _; rw [HS.out, HGA.out]; simp
        clear HS HGA hgb
        go_wp2_with (go_at_call 209; refine HCALL.out.mono ?_; rintro e w2 ⟨rfl, hb2⟩)
        go_roundw
        case rel => exact ⟨ii, jj + 1, by omega, by omega, rfl, by go_num, ⟨by rw [HC.out]; exact HPI.out, rc, hrcl, hrcA.below hb2, by simp only [HC.out]; exact HRX.out, HRO.out⟩, grown_thru hgwA hb2, hb0A.thru hb2 hb0A.size⟩
        case measure => simp [intOf]; omega
    · have hqe : jj = xs.length := by omega
      subst hqe
      have HKE : Hid (keepG g (xs.take xs.length) = keepG g xs) := by show _ = _; rw [List.take_length]
      have hi5 : ¬ ((xs.length : Int) < xs.length) := by omega
      have hi6 : (ii : Int) ≤ xs.length := by omega
      have hi7 : (ii : Int) ≤ cap := by omega
      have hi8 : (xs.length : Int) ≤ cap := by omega
      have hlen : ∀ p, p < xs.length * 3 → p < (flatR rc).length := fun p hp => by rw [flatR_length]; omega
      obtain ⟨vs, hcl⟩ : ∃ vs : List Value, ∀ ty, (Builtin.clear_ #[22] ty #[.slice (some ⟨blk, ii * 3, none⟩) (xs.length - ii) (cap - ii)]).run Tryz.prog wr = .ok (.tuple #[]) (wr.setCells blk (ii * 3) vs) := by
        obtain ⟨vs, h⟩ := run_clearA wr 0 blk (ii * 3) (xs.length - ii) (cap - ii) (by omega) (fun p hp => by rw [(hrcr.2 _ _ (List.getElem?_eq_getElem (hlen (ii * 3 + p) (by omega)))).1]; rfl) (fun p hp => (hrcr.2 _ _ (List.getElem?_eq_getElem (hlen (ii * 3 + p) (by omega)))).2)
        exact ⟨vs, fun _ => h⟩
      have hB : Below w0.heap.size w0 (wr.setCells blk (ii * 3) vs) := below_setCells' blk hblk vs _ hb0
      have hgE : w.grownBy (wr.setCells blk (ii * 3) vs) (some blk) := grown_setCells blk vs _ hgw
      have hat : AtomsAt (wr.setCells blk (ii * 3) vs) (some ⟨blk, 0, none⟩) (keepG g (xs.take xs.length)) := by
        have hpi := HPI.out
        refine Or.inr ⟨blk, 0, rfl, ?_, fun i hi => ?_⟩
        · have := (below_setCells' (B := 0) blk (Nat.zero_le _) vs (ii * 3) (Below.refl 0 wr)).size
          exact Nat.lt_of_lt_of_le hrcr.1 this
        · have r := HKP.out _ hgE _ _ (HRX.out i hi (by omega))
          obtain ⟨g0, g1, g2⟩ := hrcr.get (i := i) (by omega)
          rw [r.n] at g0
          rw [r.clock] at g1
          rw [r.sign] at g2
          rw [Nat.zero_add]
          refine ⟨_, _, ?_, ?_, ?_, r.steps, r.len, r.cap, r.s0, r.s1⟩
          · rw [World.cell?_setCells_out blk vs (ii * 3) wr _ (fun _ _ => Or.inl (by show i * 3 < ii * 3; omega))]; exact g0
          · rw [World.cell?_setCells_out blk vs (ii * 3) wr _ (fun _ _ => Or.inl (by show i * 3 + 1 < ii * 3; omega))]; exact g1
          · rw [World.cell?_setCells_out blk vs (ii * 3) wr _ (fun _ _ => Or.inl (by show i * 3 + 2 < ii * 3; omega))]; exact g2
      rw [HKE.out] at hat
      have hpi : (keepG g xs).length = ii := by rw [← HKE.out]; exact HPI.out
      have HPF := hidE hpi
      clear hlen hpi
      go_wp2_with fail
      go_ret
      exact ⟨cap, by rw [HPF.out]; rfl, hat, by rw [HPF.out]; omega, by unfold maxLen; omega, hB⟩
end Go.Proofs.YtnhjebdlcbhkcaeGreat
