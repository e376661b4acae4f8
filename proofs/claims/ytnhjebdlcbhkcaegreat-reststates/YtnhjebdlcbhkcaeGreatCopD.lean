/- The law's put: a deed that puts a text. -/
import Derived.Test.YtnhjebdlcbhkcaeGreatDoD
import Derived.Test.YtnhjebdlcbhkcaeGreatAtomCk
import Derived.Deep.RegionHeld3
import Derived.Test.YtnhjebdlcbhkcaeGreatCopRow
namespace Go.Proofs.YtnhjebdlcbhkcaeGreat
open Go.RowKit

def dPut (s : ByteArray) : Dd := ⟨1, [(3, 0)], 1, s, [], 0, 0⟩
def hiS : ByteArray := ⟨#[104, 105]⟩

theorem alloc_topP (w : World) (o : Obj) : (w.alloc o).heap[w.heap.size]? = some o := by
  show (w.heap.push o)[w.heap.size]? = some o
  simp
theorem set7 {w : World} {b : Nat} {T : TypeId} {u0 u1 u2 u3 u4 u5 u6 v0 v1 v2 v3 v4 v5 v6 : Value} (h : w.heap[b]? = some (Obj.cells #[u0, u1, u2, u3, u4, u5, u6] T)) :
    (((((((w.setCell ⟨b, 0, none⟩ v0).setCell ⟨b, 1, none⟩ v1).setCell ⟨b, 2, none⟩ v2).setCell ⟨b, 3, none⟩ v3).setCell ⟨b, 4, none⟩ v4).setCell ⟨b, 5, none⟩ v5).setCell ⟨b, 6, none⟩ v6).heap[b]? = some (Obj.cells #[v0, v1, v2, v3, v4, v5, v6] T) := by
  simp [World.setCell, Array.getElem?_modify, h]

set_option maxRecDepth 100000 in
set_option maxHeartbeats 1000000 in
theorem lawPut_any (s : ByteArray) (w : World) (hs : s.size ≤ maxLen) : Calls Tryz.prog 48 #[.string s] w fun e w' => ∃ g, e = .returned (ddV (dPut s) (some ⟨g, 0, none⟩) none 1 0) ∧ DdAt w' (dPut s) (some ⟨g, 0, none⟩) none ∧ Below w.heap.size w w' := by
  have hB := (Below.refl w.heap.size w).alloc (Nat.le_refl _) (Obj.cells #[.int .i64 0, .slice none 0 0, .int .i64 0, .string ⟨#[]⟩, .slice none 0 0, .int .i64 0, .int .i64 0] 64)
  have hc : ∀ i, i < 7 → (w.alloc (Obj.cells #[.int .i64 0, .slice none 0 0, .int .i64 0, .string ⟨#[]⟩, .slice none 0 0, .int .i64 0, .int .i64 0] 64)).cell? ⟨w.heap.size, i, none⟩ = #[.int .i64 0, .slice none 0 0, .int .i64 0, .string ⟨#[]⟩, .slice none 0 0, .int .i64 0, .int .i64 0][i]? := fun i hi => by simp
  have rf : ∀ o, (w.alloc (Obj.cells #[.int .i64 0, .slice none 0 0, .int .i64 0, .string ⟨#[]⟩, .slice none 0 0, .int .i64 0, .int .i64 0] 64)).frozen? ⟨w.heap.size, o, none⟩ = false := fun o => by go_simp
  have z : w.heap.size < (w.alloc (Obj.cells #[.int .i64 0, .slice none 0 0, .int .i64 0, .string ⟨#[]⟩, .slice none 0 0, .int .i64 0, .int .i64 0] 64)).heap.size := by simp
  have q0 := hc 0 (by decide)
  have q1 := hc 1 (by decide)
  have q2 := hc 2 (by decide)
  have q3 := hc 3 (by decide)
  have q4 := hc 4 (by decide)
  have q5 := hc 5 (by decide)
  have q6 := hc 6 (by decide)
  simp only [List.getElem?_toArray, List.getElem?_cons_succ, List.getElem?_cons_zero] at q0 q1 q2 q3 q4 q5 q6
  clear hc
  go_enter Tryz.func48, Tryz.ntmps48
  go_wp2_with fail
  have hblk := alloc_topP w (Obj.cells #[.int .i64 0, .slice none 0 0, .int .i64 0, .string ⟨#[]⟩, .slice none 0 0, .int .i64 0, .int .i64 0] 64)
  generalize w.alloc (Obj.cells #[.int .i64 0, .slice none 0 0, .int .i64 0, .string ⟨#[]⟩, .slice none 0 0, .int .i64 0, .int .i64 0] 64) = W at hB hblk rf z q0 q1 q2 q3 q4 q5 q6 ⊢
  refine (at_any 3 0 1 W).mono ?_
  rintro e w1 ⟨rfl, hst, hb⟩
  replace q0 := (hb.cell (p := ⟨w.heap.size, 0, none⟩) z).trans q0
  replace q1 := (hb.cell (p := ⟨w.heap.size, 1, none⟩) z).trans q1
  replace q2 := (hb.cell (p := ⟨w.heap.size, 2, none⟩) z).trans q2
  replace q3 := (hb.cell (p := ⟨w.heap.size, 3, none⟩) z).trans q3
  replace q4 := (hb.cell (p := ⟨w.heap.size, 4, none⟩) z).trans q4
  replace q5 := (hb.cell (p := ⟨w.heap.size, 5, none⟩) z).trans q5
  replace q6 := (hb.cell (p := ⟨w.heap.size, 6, none⟩) z).trans q6
  replace rf := fun o => (hb.frozen (p := ⟨w.heap.size, o, none⟩) z).trans (rf o)
  go_wp2_with fail
  have hb6 : w1.heap[w.heap.size]? = some (Obj.cells #[.int .i64 0, .slice none 0 0, .int .i64 0, .string ⟨#[]⟩, .slice none 0 0, .int .i64 0, .int .i64 0] 64) := (hb.block _ z).trans hblk
  have hX := set7 (w := w1) (v0 := .int .i64 1) (v1 := .slice (some ⟨W.heap.size + 1, 0, none⟩) 1 1) (v2 := .int .i64 1) (v3 := .string s) (v4 := .slice none 0 0) (v5 := .int .i64 0) (v6 := .int .i64 0) hb6
  have hBX : Below w.heap.size w (((((((w1.setCell ⟨w.heap.size, 0, none⟩ (.int .i64 1)).setCell ⟨w.heap.size, 1, none⟩ (.slice (some ⟨W.heap.size + 1, 0, none⟩) 1 1)).setCell ⟨w.heap.size, 2, none⟩ (.int .i64 1)).setCell ⟨w.heap.size, 3, none⟩ (.string s)).setCell ⟨w.heap.size, 4, none⟩ (.slice none 0 0)).setCell ⟨w.heap.size, 5, none⟩ (.int .i64 0)).setCell ⟨w.heap.size, 6, none⟩ (.int .i64 0)) := ((((((((hB.thru hb (Nat.le_of_lt z)).setCell (p := ⟨w.heap.size, 0, none⟩) (Nat.le_refl _) (.int .i64 1)).setCell (p := ⟨w.heap.size, 1, none⟩) (Nat.le_refl _) (.slice (some ⟨W.heap.size + 1, 0, none⟩) 1 1)).setCell (p := ⟨w.heap.size, 2, none⟩) (Nat.le_refl _) (.int .i64 1)).setCell (p := ⟨w.heap.size, 3, none⟩) (Nat.le_refl _) (.string s)).setCell (p := ⟨w.heap.size, 4, none⟩) (Nat.le_refl _) (.slice none 0 0)).setCell (p := ⟨w.heap.size, 5, none⟩) (Nat.le_refl _) (.int .i64 0)).setCell (p := ⟨w.heap.size, 6, none⟩) (Nat.le_refl _) (.int .i64 0))
  have hSX : StepsAt (((((((w1.setCell ⟨w.heap.size, 0, none⟩ (.int .i64 1)).setCell ⟨w.heap.size, 1, none⟩ (.slice (some ⟨W.heap.size + 1, 0, none⟩) 1 1)).setCell ⟨w.heap.size, 2, none⟩ (.int .i64 1)).setCell ⟨w.heap.size, 3, none⟩ (.string s)).setCell ⟨w.heap.size, 4, none⟩ (.slice none 0 0)).setCell ⟨w.heap.size, 5, none⟩ (.int .i64 0)).setCell ⟨w.heap.size, 6, none⟩ (.int .i64 0)) (some ⟨W.heap.size + 1, 0, none⟩) [(3, 0)] := by
    rcases hst with e | ⟨b, o, e, hlt, hcc⟩
    · simp at e
    · cases e
      refine Or.inr ⟨W.heap.size + 1, 0, rfl, by simpa [World.setCell] using hlt, fun i hi => ?_⟩
      obtain ⟨c0, c1⟩ := hcc i hi
      refine ⟨?_, ?_⟩
      · rw [World.cell?_setCell_other _ _ _ _ (by simp), World.cell?_setCell_other _ _ _ _ (by simp), World.cell?_setCell_other _ _ _ _ (by simp), World.cell?_setCell_other _ _ _ _ (by simp), World.cell?_setCell_other _ _ _ _ (by simp), World.cell?_setCell_other _ _ _ _ (by simp), World.cell?_setCell_other _ _ _ _ (by simp)]
        exact c0
      · rw [World.cell?_setCell_other _ _ _ _ (by simp), World.cell?_setCell_other _ _ _ _ (by simp), World.cell?_setCell_other _ _ _ _ (by simp), World.cell?_setCell_other _ _ _ _ (by simp), World.cell?_setCell_other _ _ _ _ (by simp), World.cell?_setCell_other _ _ _ _ (by simp), World.cell?_setCell_other _ _ _ _ (by simp)]
        exact c1
  generalize (((((((w1.setCell ⟨w.heap.size, 0, none⟩ (.int .i64 1)).setCell ⟨w.heap.size, 1, none⟩ (.slice (some ⟨W.heap.size + 1, 0, none⟩) 1 1)).setCell ⟨w.heap.size, 2, none⟩ (.int .i64 1)).setCell ⟨w.heap.size, 3, none⟩ (.string s)).setCell ⟨w.heap.size, 4, none⟩ (.slice none 0 0)).setCell ⟨w.heap.size, 5, none⟩ (.int .i64 0)).setCell ⟨w.heap.size, 6, none⟩ (.int .i64 0)) = X at hX hBX hSX ⊢
  have x0 : X.cell? ⟨w.heap.size, 0, none⟩ = some (.int .i64 1) := by simp [World.cell?, hX]
  have x1 : X.cell? ⟨w.heap.size, 1, none⟩ = some (.slice (some ⟨W.heap.size + 1, 0, none⟩) 1 1) := by simp [World.cell?, hX]
  have x2 : X.cell? ⟨w.heap.size, 2, none⟩ = some (.int .i64 1) := by simp [World.cell?, hX]
  have x3 : X.cell? ⟨w.heap.size, 3, none⟩ = some (.string s) := by simp [World.cell?, hX]
  have x4 : X.cell? ⟨w.heap.size, 4, none⟩ = some (.slice none 0 0) := by simp [World.cell?, hX]
  have x5 : X.cell? ⟨w.heap.size, 5, none⟩ = some (.int .i64 0) := by simp [World.cell?, hX]
  have x6 : X.cell? ⟨w.heap.size, 6, none⟩ = some (.int .i64 0) := by simp [World.cell?, hX]
  refine bodyPost_ret (v := ddV (dPut s) (some ⟨W.heap.size + 1, 0, none⟩) none 1 0) (by simp [results, Tryz.results48, go_sem, x0, x1, x2, x3, x4, x5, x6, ddV, dPut]) rfl ?_
  exact ⟨W.heap.size + 1, rfl, ⟨hSX, Or.inl rfl, by simp [dPut, maxLen], by simp [dPut, maxLen], hs⟩, hBX⟩

end Go.Proofs.YtnhjebdlcbhkcaeGreat

namespace Go.Proofs.YtnhjebdlcbhkcaeGreat
open Go.RowKit

def DdSz (ds : List Dd) : Prop := ds.length * 96 ≤ 140737488351232 ∧ ∀ d ∈ ds, d.rp.length * 16 ≤ 140737488351232 ∧ d.mp.length * 16 ≤ 140737488351232

set_option maxRecDepth 100000 in
set_option maxHeartbeats 4000000 in
theorem copiedDeeds_ok (a : Option Addr) (c : Nat) (ds : List Dd) (w : World) (h : DeedsAt w a ds) (hz : DdSz ds) :
    Calls Tryz.prog 14 #[.slice a ds.length c] w fun e w' => ∃ p k, e = .returned (.slice p ds.length k) ∧ DeedsAt w' p ds ∧ ds.length ≤ k ∧ k ≤ maxLen ∧ Below w.heap.size w w' := by
  obtain ⟨hz0, hz1⟩ := hz
  have H0 := hidE h
  have HZ := hidE hz1
  clear h hz1
  go_enter Tryz.func14, Tryz.ntmps14
  go_wp2_with fail
  go_loopw [3, 4] (fun t3 t4 wr => ∃ (i : Nat) (rs : List RawD) (pv : Option Addr) (cv : Nat), i ≤ ds.length ∧ t4 = .int .i64 i ∧ t3 = .slice pv i cv ∧ rs.map RawD.d = ds.take i ∧ RowOwn 64 7 RawD.cells CdOwn wr w.heap.size (.slice pv i cv) rs ∧ Below w.heap.size w wr) (fun _ t4 _ => ds.length - (intOf t4).toNat)
  case atStart => exact ⟨0, [], none, 0, Nat.zero_le _, rfl, rfl, rfl, RowOwn.nil, Below.refl _ _⟩
  case round =>
    obtain ⟨i, rs, pv, cv, hi, rfl, rfl, hm, hO, hB⟩ := hrel
    have hrl : rs.length = i := by rw [← List.length_map RawD.d, hm, List.length_take]; omega
    rcases Nat.lt_or_ge i ds.length with hlt | hge
    · have hi1 : (i : Int) < (ds.length : Int) := by omega
      rcases H0.out.below hB with e0 | ⟨b, o, rfl, hb, hc⟩
      · rw [e0] at hlt; simp at hlt
      obtain ⟨p, cp, q, cq, c0, c1, c2, c3, c4, c5, c6, hD, hn0, hn1⟩ := hc i hlt
      obtain ⟨hs1, hs2⟩ := HZ.out _ (List.getElem_mem hlt)
      have HTK : Hid (ds.take (i + 1) = ds.take i ++ [ds[i]]) := List.take_succ_eq_append_getElem hlt
      have HD := hidE hD
      have HN := hidE (And.intro hn0 hn1)
      have HO := hidE hO
      have HM := hidE hm
      have HB := hidE hB
      have HLT := hidE hlt
      have HRL := hidE hrl
      have hBs := hB.size
      clear hc hD hn0 hn1 hO hm hB hrl hi
      generalize ds[i] = d at *
      obtain ⟨kind, rp, rc, rt, mp, mc, many⟩ := d
      simp only at c0 c1 c2 c3 c4 c5 c6 hs1 hs2
      obtain ⟨i0, hi0, hz0', hz1', hz2'⟩ := infoCS
      obtain ⟨i1, hi1', hy0, hy1, hy2⟩ := Tryz.info64
      have hX6 := Blk.new wr #[.int .i64 kind, .slice p rp.length cp, .int .i64 rc, .string rt, .slice q mp.length cq, .int .i64 mc, .int .i64 many] 64
      have hB6 := alloc_below wr (Obj.cells #[.int .i64 kind, .slice p rp.length cp, .int .i64 rc, .string rt, .slice q mp.length cq, .int .i64 mc, .int .i64 many] 64)
      go_upto_region 6 with fail
      generalize wr.alloc (Obj.cells #[.int .i64 kind, .slice p rp.length cp, .int .i64 rc, .string rt, .slice q mp.length cq, .int .i64 mc, .int .i64 many] 64) = W6 at *
      have hlt6 := hX6.lt
      have x1 := hX6.is 1 rfl
      have x4 := hX6.is 4 rfl
      have HSS7 := hidE (fun W' (hb : Below wr.heap.size wr W') => steps_cells (HD.out.mark.below hb (Nat.le_refl _)))
      have HSS8 := hidE (fun W' (hb : Below wr.heap.size wr W') => steps_cells (HD.out.run.below hb (Nat.le_refl _)))
      have HG7 : Hid ((W6.alloc (Obj.cells #[] 124)).ownsRow W6.heap.size 124 2 (.slice (some ⟨W6.heap.size, 0, none⟩) 0 0) 0 []) := World.ownsRow_lit W6 #[] 0 (Nat.le_refl _) (Nat.zero_le _) rfl
      have hBG7 := hB6.alloc hB6.size (Obj.cells #[] 124)
      have hXG7 := hX6.alloc (Obj.cells #[] 124)
      have HSC7 := hidE (HSS7.out _ hBG7)
      go_upto_region 7 with (at_builtin; refine wpList_append_any rfl _ _ 40 rfl W6.heap.size 124 i0 (.agg #[.int .i64 0, .int .i64 0]) 2 16 Tryz.underlying40 hi0 hz0' hz1' hz2' rfl (by decide) (.slice (some ⟨W6.heap.size, 0, none⟩) 0 0) 0 [] rfl HG7.out q mp.length cq (flatS mp) rfl (flatS_length mp) HSC7.out (flatS_oneC mp) (by unfold maxLen; omega) (by omega) (by simp) ?_; intro v7 w7 hown7 hgrow7; obtain ⟨p7, c7, rfl⟩ := owns_sl hown7; rw [Nat.zero_add, List.nil_append] at hown7; have hX7 := hXG7.grown hgrow7 (by simp [Value.ownBlock]; omega); have x7v := hX7.is 4 rfl; have x7f := hX7.frozen)
      have hb7 := (hBG7.grown hgrow7 hBG7.size (fun k hk => by simp [Value.ownBlock] at hk; omega)).setCell (p := ⟨wr.heap.size, 4, none⟩) (Nat.le_refl _) (.slice p7 mp.length c7)
      have hXS7 : Blk (w7.setCell ⟨wr.heap.size, 4, none⟩ (.slice p7 mp.length c7)) wr.heap.size #[.int .i64 kind, .slice p rp.length cp, .int .i64 rc, .string rt, .slice p7 mp.length c7, .int .i64 mc, .int .i64 many] 64 := hX7.set 4 (.slice p7 mp.length c7)
      have hO7 := hown7.kept (grownBy_set' w7 wr.heap.size 4 (.slice p7 mp.length c7)) (Or.inr (own_apart hown7 hlt6))
      have hle7 : W6.heap.size ≤ (w7.setCell ⟨wr.heap.size, 4, none⟩ (.slice p7 mp.length c7)).heap.size := by have := hgrow7.size; simp [World.setCell] at this ⊢; omega
      clear hX7 x7v x7f hown7 hgrow7 hBG7 hXG7 hX6 x1 x4 c0 c1 c2 c3 c4 c5 c6
      generalize w7.setCell ⟨wr.heap.size, 4, none⟩ (.slice p7 mp.length c7) = W7 at *
      have hlt7 := hXS7.lt
      have x1 := hXS7.is 1 rfl
      have HG8 : Hid ((W7.alloc (Obj.cells #[] 124)).ownsRow W7.heap.size 124 2 (.slice (some ⟨W7.heap.size, 0, none⟩) 0 0) 0 []) := World.ownsRow_lit W7 #[] 0 (Nat.le_refl _) (Nat.zero_le _) rfl
      have hBG8 := hb7.alloc hb7.size (Obj.cells #[] 124)
      have hXG8 := hXS7.alloc (Obj.cells #[] 124)
      have HSC8 := hidE (HSS8.out _ hBG8)
      go_upto_region 8 with (at_builtin; refine wpList_append_any rfl _ _ 40 rfl W7.heap.size 124 i0 (.agg #[.int .i64 0, .int .i64 0]) 2 16 Tryz.underlying40 hi0 hz0' hz1' hz2' rfl (by decide) (.slice (some ⟨W7.heap.size, 0, none⟩) 0 0) 0 [] rfl HG8.out p rp.length cp (flatS rp) rfl (flatS_length rp) HSC8.out (flatS_oneC rp) (by unfold maxLen; omega) (by omega) (by simp) ?_; intro v8 w8 hown8 hgrow8; obtain ⟨p8, c8, rfl⟩ := owns_sl hown8; rw [Nat.zero_add, List.nil_append] at hown8; have hX8 := hXG8.grown hgrow8 (by simp [Value.ownBlock]; omega); have x8v := hX8.is 1 rfl; have x8f := hX8.frozen)
      have hb8 := (hBG8.grown hgrow8 hBG8.size (fun k hk => by simp [Value.ownBlock] at hk; omega)).setCell (p := ⟨wr.heap.size, 1, none⟩) (Nat.le_refl _) (.slice p8 rp.length c8)
      have hXS8 : Blk (w8.setCell ⟨wr.heap.size, 1, none⟩ (.slice p8 rp.length c8)) wr.heap.size #[.int .i64 kind, .slice p8 rp.length c8, .int .i64 rc, .string rt, .slice p7 mp.length c7, .int .i64 mc, .int .i64 many] 64 := hX8.set 1 (.slice p8 rp.length c8)
      have hO8 := hown8.kept (grownBy_set' w8 wr.heap.size 1 (.slice p8 rp.length c8)) (Or.inr (own_apart hown8 hlt7))
      have hO7b := ((hO7.alloc (Obj.cells #[] 124)).kept hgrow8 (Or.inr (by
        intro e
        simp [Value.ownBlock] at e
        have := (hO7.lt _ e).2
        omega))).kept (grownBy_set' w8 wr.heap.size 1 (.slice p8 rp.length c8)) (Or.inr (own_apart hO7 hlt6))
      have hle8 : W7.heap.size ≤ (w8.setCell ⟨wr.heap.size, 1, none⟩ (.slice p8 rp.length c8)).heap.size := by have := hgrow8.size; simp [World.setCell] at this ⊢; omega
      clear hX8 x8v x8f hown8 hgrow8 hBG8 hXG8 hXS7 x1 hO7
      generalize w8.setCell ⟨wr.heap.size, 1, none⟩ (.slice p8 rp.length c8) = W8 at *
      have y0 := hXS8.is 0 rfl
      have y1 := hXS8.is 1 rfl
      have y2 := hXS8.is 2 rfl
      have y3 := hXS8.is 3 rfl
      have y4 := hXS8.is 4 rfl
      have y5 := hXS8.is 5 rfl
      have y6 := hXS8.is 6 rfl
      have hr8 := HO.out.belowE (fun _ h => CdOwn.below h hb8) hb8
      have hO9 := hr8.own
      rw [HRL.out] at hO9
      have hA8 := alloc_below W8 (Obj.cells #[.int .i64 kind, .slice p8 rp.length c8, .int .i64 rc, .string rt, .slice p7 mp.length c7, .int .i64 mc, .int .i64 many] 64)
      have hb9 := hb8.thru hA8 hb8.size
      have hx : CdOwn (W8.alloc (Obj.cells #[.int .i64 kind, .slice p8 rp.length c8, .int .i64 rc, .string rt, .slice p7 mp.length c7, .int .i64 mc, .int .i64 many] 64)) w.heap.size ⟨⟨kind, rp, rc, rt, mp, mc, many⟩, p8, p7, c8, c7⟩ := ⟨owns_base (hO8.alloc _) (by have := hB6.size; omega), owns_base (hO7b.alloc _) (by have := hB6.size; omega), HD.out.rl, HD.out.ml, HD.out.tl, HN.out.1, HN.out.2⟩
      have hr9 := hr8.belowE (fun _ h => CdOwn.below h hA8) hA8
      have hbs9 : w.heap.size ≤ (W8.alloc (Obj.cells #[.int .i64 kind, .slice p8 rp.length c8, .int .i64 rc, .string rt, .slice p7 mp.length c7, .int .i64 mc, .int .i64 many] 64)).heap.size := by have := hb9.size; omega
      have hbs8 : w.heap.size ≤ W8.heap.size := by have := hb8.size; omega
      have HX9 := hidE hx
      have HR9 := hidE hr9
      have HB9 := hidE hb9
      clear hr8 hO8 hO7b hA8 hx hr9 hb9 hXS8
      go_wp2_with (at_builtin; refine wpList_append_own _ rfl _ _ 26 rfl w.heap.size 64 i1 (.agg #[.int .i64 0, .slice none 0 0, .int .i64 0, .string ⟨#[]⟩, .slice none 0 0, .int .i64 0, .int .i64 0]) 7 96 Tryz.underlying26 hi1' hy0 hy1 hy2 rfl (by decide) _ _ _ rfl (hO9.alloc _) ⟨W8.heap.size, 0, none⟩ 1 1 (RawD.cells ⟨⟨kind, rp, rc, rt, mp, mc, many⟩, p8, p7, c8, c7⟩) rfl rfl ?qa1 ?qa2 ?qa3 ?qa4 ?qa5 ?_)
      case qa1 => intro j u hj; exact hj
      case qa2 => exact fun u hu => flatD_one [(⟨⟨kind, rp, rc, rt, mp, mc, many⟩, p8, p7, c8, c7⟩ : RawD)] u (by simpa [flatD] using hu)
      case qa3 => unfold maxLen; omega
      case qa4 => omega
      case qa5 => exact Nat.le_succ_of_le hbs8
      intro v' w9 hown9 hgrow _
      obtain ⟨p9, c9, rfl⟩ := owns_sl hown9
      have HS := hidE (HR9.out.snoc (CdOwn.stays 0) HX9.out (by rw [HRL.out]; exact hown9) hgrow)
      have HBN := hidE ((HB.out.trans (HB9.out.mono hBs)).grown hgrow hbs9 (fun k hk => (hO9.lt k hk).1))
      clear hown9 hgrow y0 y1 y2 y3 y4 y5 y6
      go_wp2_with fail
      go_roundw
      case rel => exact ⟨i + 1, rs ++ [⟨⟨kind, rp, rc, rt, mp, mc, many⟩, p8, p7, c8, c7⟩], p9, c9, hlt, by go_num, rfl, by rw [List.map_append, HM.out, HTK.out]; rfl, HS.out, HBN.out⟩
      case measure => simp [intOf]; omega
    · obtain rfl : i = ds.length := by omega
      have hi1 : ¬ ((ds.length : Int) < (ds.length : Int)) := by omega
      rw [List.take_length] at hm
      have hcap : ds.length ≤ cv ∧ cv ≤ maxLen := by
        rcases hO.own.2 with ⟨e, h0⟩ | ⟨g, c, cur, e, _, _, h1, h2, _⟩
        · simp only [Value.slice.injEq] at e; omega
        · simp only [Value.slice.injEq] at e; omega
      have HR := hidE (hm ▸ deeds_copy hO hrl : DeedsAt wr pv ds)
      have HC := hidE hcap
      have HB := hidE hB
      clear hm hO hB hcap hrl hi hge
      go_wp2_with fail
      go_ret
      exact ⟨pv, cv, rfl, HR.out, HC.out.1, HC.out.2, HB.out⟩
end Go.Proofs.YtnhjebdlcbhkcaeGreat
