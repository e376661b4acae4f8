/- Contract of the reference's Taker: deeds. -/
import Derived.Test.YtnhjebdlcbhkcadTkMark
import Derived.Test.YtnhjebdlcbhkcadRdDeed
namespace Go.Proofs.Ytnhjebdlcbhkcad
open Go.RowKit

/-- what a deed that is taken is -/
def DeedTakes (T : Nat) (s : ByteArray) (n : Nat) (e : Bool) (w : World) (r : Ending) (w' : World) : Prop :=
  ∃ (x : RD) (m : Nat) (e' : Bool), r = .returned (ddV x.d x.p x.q x.cp x.cq) ∧ DdOwn w' w.heap.size x ∧ TkSt w' T s m e' ∧ Rd pD (lft s n) e x.d (lft s m) e' ∧ m ≤ s.size ∧ w.grownBy w' (some T)

theorem Rd.text_bad {s s1 s2 : List UInt8} {e e1 : Bool} {n : Int} {t : ByteArray} (h : Rd p1 s e n s1 e1) (hb : e1 = true ∨ s1.length < n.toNat) : Rd pT s e t s2 true := by
  refine Rd.lost ?_
  cases h1 : e1 with
  | true => exact (h.bad h1).imp id fun q => by unfold pT; rw [q]
  | false =>
    rcases hb with q | q
    · rw [q] at h1; cases h1
    · obtain ⟨_, a2⟩ := h.good h1
      refine Or.inr ?_
      unfold pT; rw [a2]; simp only
      rw [if_neg (by omega)]
theorem Rd.text_good {s s1 : List UInt8} {e : Bool} {n : Int} (h : Rd p1 s e n s1 false) (hl : n.toNat ≤ s1.length) : Rd pT s e ⟨(s1.take n.toNat).toArray⟩ (s1.drop n.toNat) false := by
  obtain ⟨a1, a2⟩ := h.good rfl
  refine ⟨fun _ => ⟨a1, ?_⟩, fun h => (by cases h)⟩
  unfold pT; rw [a2]; simp only
  rw [if_pos hl]
theorem Rd.stays_bad {α : Type} {p : List UInt8 → Option (α × List UInt8)} {s s' : List UInt8} {x : α} {e' : Bool} (h : Rd p s true x s' e') : e' = true := by
  cases e' with
  | true => rfl
  | false => exact absurd (h.good rfl).1 (by decide)
theorem take_text (s : ByteArray) (m k : Nat) : (⟨((lft s m).take k).toArray⟩ : ByteArray) = s.extract m (m + k) := by
  apply ByteArray.ext
  apply Array.toList_inj.1
  rw [ByteArray.data_extract, Array.toList_extract]
  simp [lft, List.extract]
theorem lft_drop (s : ByteArray) (m k : Nat) : (lft s m).drop k = lft s (m + k) := by unfold lft; rw [List.drop_drop]
theorem lft_len (s : ByteArray) (m : Nat) : (lft s m).length = s.size - m := by unfold lft; simp

set_option maxRecDepth 100000 in
set_option maxHeartbeats 8000000 in
theorem tkDeed_ok (T : Nat) (s : ByteArray) (n : Nat) (e : Bool) (w : World) (h : TkSt w T s n e) (hn : n ≤ s.size) (hs : s.size ≤ maxLen) :
    Calls Try.prog 63 #[.pointer (some ⟨T, 0, none⟩)] w (DeedTakes T s n e w) := by
  have hmx : (s.size : Int) ≤ 9223372036854775807 := by unfold maxLen at hs; omega
  have hTw := h.lt
  have hA := alloc_below w (Obj.cells zeroD 98)
  have hN := Blk.new w zeroD 98
  have hS := h.below hA h.lt
  have nNT : w.heap.size ≠ T := by omega
  clear h
  go_enter Try.func63, Try.ntmps63
  go_upto_region 1 with fail
  generalize w.alloc (Obj.cells zeroD 98) = W at *
  have H1 := hidE (tkOne_ok T s n e W hS hn hs)
  have HN := hidE hN
  have HG := hidE (grownBy_none hA (row := some T))
  have hNw := hN.lt
  clear hN hS hA
  go_upto_region 2 with (go_at_call 61; refine H1.out.mono ?_; rintro r w1 ⟨k, n1, e1, rfl, hS, hR, k0, k1, hn1, hg⟩)
  have hA := alloc_below w1 (Obj.cells #[.int .i64 k, .slice none 0 0, .int .i64 0, .string ⟨#[]⟩, .slice none 0 0, .int .i64 0, .int .i64 0] 98)
  have hM := Blk.new w1 #[.int .i64 k, .slice none 0 0, .int .i64 0, .string ⟨#[]⟩, .slice none 0 0, .int .i64 0, .int .i64 0] 98
  have hN1 := (HN.out.grown hg (fun q => nNT (by simpa using q))).thruB hA
  have hS1 := hS.below hA hS.lt
  have HG1 := hidE ((HG.out.trans hg).trans (grownBy_none hA (row := some T)))
  have HR1 := hidE hR
  have hsw := hg.size
  generalize w1.alloc (Obj.cells #[.int .i64 k, .slice none 0 0, .int .i64 0, .string ⟨#[]⟩, .slice none 0 0, .int .i64 0, .int .i64 0] 98) = W2 at *
  have hMN : w.heap.size < w1.heap.size := by omega
  have nMT : w1.heap.size ≠ T := by omega
  clear hA hS hR hg H1 HN HG hsw
  generalize w1.heap.size = M at *
  have q0 := hM.is 0 rfl
  have HM := hidE hM
  have HN1 := hidE hN1
  have hMlt := hM.lt
  by_cases hk1 : k = 1
  · subst hk1
    have H5 := hidE (tkMark_ok T s n1 e1 W2 hS1 hn1 hs)
    clear hM hN1 hS1
    go_wp2_with fail
    refine H5.out.mono ?_
    rintro r w3 ⟨p, cap, l, c, n3, e3, rfl, hO, hl, hS, hR, hn3, hg⟩
    have hM3 := HM.out.grown hg (fun q => nMT (by simpa using q))
    have hN3 := HN1.out.grown hg (fun q => nNT (by simpa using q))
    have m1 := hM3.is 1 rfl
    have m2 := hM3.is 2 rfl
    have fm := hM3.frozen
    have hM4 : Blk ((w3.setCell ⟨M, 1, none⟩ (.slice p l.length cap)).setCell ⟨M, 2, none⟩ (.int .i64 c)) M #[.int .i64 1, .slice p l.length cap, .int .i64 c, .string ⟨#[]⟩, .slice none 0 0, .int .i64 0, .int .i64 0] 98 := (hM3.set 1 _).set 2 _
    have hGM := (grownBy_set' w3 M 1 (.slice p l.length cap)).trans (grownBy_set' _ M 2 (.int .i64 c))
    have hN4 := hN3.grown hGM (fun q => by simp at q; omega)
    have hS4 := hS.grown hGM (fun q => nMT (by simpa using q.symm))
    have hO4 := hO.kept hGM (Or.inr (own_apart hO hMlt))
    have HG4 := hidE (grownBy_new (HG1.out.trans hg) hGM (by omega))
    have HR4 := hidE hR
    have hwW2 := HG1.out.size
    clear hO hS hR hg hM3 hN3 hGM H5 HG1 HM HN1
    have HLe := hidE hl
    clear hl
    generalize hX : l.length = ln at *
    go_upto_region 4 with fail
    generalize (w3.setCell ⟨M, 1, none⟩ (.slice p ln cap)).setCell ⟨M, 2, none⟩ (.int .i64 c) = W4 at *
    have H6 := hidE (tkOne_ok T s n3 e3 W4 hS4 hn3 hs)
    have HM4 := hidE hM4
    have HN4 := hidE hN4
    have HO4 := hidE hO4
    clear hM4 hN4 hS4 m1 m2 fm q0 hO4
    go_upto_region 5 with (go_at_call 61; refine H6.out.mono ?_; rintro r w5 ⟨t, n5, e5, rfl, hS, hR, t0, t1, hn5, hg⟩)
    have hM5 := HM4.out.grown hg (fun q => nMT (by simpa using q))
    have hN5 := HN4.out.grown hg (fun q => nNT (by simpa using q))
    have hO5 := HO4.out.kept hg (Or.inr (own_apart HO4.out (by omega)))
    have HG5 := hidE (HG4.out.trans hg)
    have HR5 := hidE hR
    obtain ⟨tt, htt⟩ : ∃ j : Nat, t = (j : Int) := ⟨t.toNat, by omega⟩
    subst htt
    have c0 := hS.is 0 rfl
    have c1 := hS.is 1 rfl
    have c2 := hS.is 2 rfl
    have hw1 : IntKind.i64.wrap ((s.size : Int) - (n5 : Int)) = (s.size : Int) - (n5 : Int) := by rw [IntKind.wrap_i64] <;> omega
    have HHM := hidE (fun n0 => (show Blk (w5.drewN n0) M _ _ from hM5))
    have HHN := hidE (fun n0 => (show Blk (w5.drewN n0) w.heap.size _ _ from hN5))
    have HHS := hidE (fun n0 => (show TkSt (w5.drewN n0) T s n5 e5 from hS))
    have HHO := hidE (fun n0 => owns_below hO5 (show Below w5.heap.size w5 (w5.drewN n0) from ⟨rfl, rfl, rfl, Nat.le_refl _, fun _ _ => rfl⟩))
    have HHG := hidE (fun n0 => HG5.out.trans (grownBy_none (show Below w5.heap.size w5 (w5.drewN n0) from ⟨rfl, rfl, rfl, Nat.le_refl _, fun _ _ => rfl⟩)))
    clear hS hR hg hM5 hN5 hO5 H6 HG4 HG5 HM4 HN4 HO4
    by_cases hbad : e5 = true ∨ s.size - n5 < tt
    · have HT := hidE (HR1.out.deed1 HR4.out (HR5.out.text_bad (t := ⟨#[]⟩) (s2 := lft s n5) (by rw [lft_len]; simpa using hbad)))
      have hbc : (e5 = true) ∨ (e5 = false ∧ ((s.size : Int) - (n5 : Int) < (tt : Int))) := by
        cases e5 with
        | true => exact Or.inl rfl
        | false => exact Or.inr ⟨rfl, by rcases hbad with q | q; cases q; omega⟩
      clear hbad HR1 HR4 HR5
      rcases hbc with rfl | ⟨rfl, hlt⟩
      all_goals
        go_quiet (fail)
        have hM9' := HHM.out nq
        have hN9' := HHN.out nq
        have hS9' := HHS.out nq
        have hO6 := HHO.out nq
        have HG9' := hidE (HHG.out nq)
        generalize w5.drewN nq = w6 at *
        clear HHM HHN HHS HHO HHG c0 c1 c2
        have c2 := hS9'.is 2 rfl
        have fs := hS9'.frozen
        have hgs := grownBy_set' w6 T 2 (.bool true)
        have hS9 : TkSt (w6.setCell ⟨T, 2, none⟩ (.bool true)) T s n5 true := hS9'.set 2 _
        have hM9 := hM9'.grown hgs (fun q => nMT (by simpa using q))
        have hN6 := hN9'.grown hgs (fun q => nNT (by simpa using q))
        have hO7 := hO6.kept hgs (Or.inr (own_apart hO6 (by omega)))
        have HG9 := hidE (HG9'.out.trans hgs)
        clear hS9' hM9' hN9' hO6 HG9' hgs
        go_upto_region 7 with fail
        generalize w6.setCell ⟨T, 2, none⟩ (.bool true) = W9 at *
        clear c2 fs
        have hN9 := hN6
        have x0 := hM9.is 0 rfl
        have x1 := hM9.is 1 rfl
        have x2 := hM9.is 2 rfl
        have x3 := hM9.is 3 rfl
        have x4 := hM9.is 4 rfl
        have x5 := hM9.is 5 rfl
        have x6 := hM9.is 6 rfl
        have y0 := hN9.is 0 rfl
        have y1 := hN9.is 1 rfl
        have y2 := hN9.is 2 rfl
        have y3 := hN9.is 3 rfl
        have y4 := hN9.is 4 rfl
        have y5 := hN9.is 5 rfl
        have y6 := hN9.is 6 rfl
        have fy := hN9.frozen
        obtain ⟨hF, hGF⟩ := fill7 hN9 (.int .i64 1) (.slice p ln cap) (.int .i64 c) (.string ⟨#[]⟩) (.slice none 0 0) (.int .i64 0) (.int .i64 0)
        have HOF := hidE (show DdOwn (put7 W9 w.heap.size (.int .i64 1) (.slice p ln cap) (.int .i64 c) (.string ⟨#[]⟩) (.slice none 0 0) (.int .i64 0) (.int .i64 0)) w.heap.size (⟨⟨1, l, c, ⟨#[]⟩, [], 0, 0⟩, p, none, cap, 0⟩ : RD) from ⟨by rw [← hX] at hO7; exact (owns_base hO7 hwW2).kept hGF (Or.inr (own_apart hO7 (by omega))), World.ownsRow_nil _ _ _ _, by have h9 := HLe.out; show l.length ≤ 255; omega, Nat.zero_le _, Nat.zero_le _, Int.le_refl _, show (0 : Int) ≤ 255 by decide⟩)
        have HSF := hidE (hS9.grown hGF (fun q => nNT (by simpa using q.symm)))
        have HGF := hidE (grownBy_new HG9.out hGF (Nat.le_refl _))
        unfold put7 at hF
        have HF := hidE hF
        clear hF hGF hM9 hN9 hS9 hN6 hO7
        go_wp2_with fail
        have k0 := HF.out.is 0 rfl
        have k1 := HF.out.is 1 rfl
        have k2 := HF.out.is 2 rfl
        have k3 := HF.out.is 3 rfl
        have k4 := HF.out.is 4 rfl
        have k5 := HF.out.is 5 rfl
        have k6 := HF.out.is 6 rfl
        refine bodyPost_ret (v := .agg #[.int .i64 1, .slice p ln cap, .int .i64 c, .string ⟨#[]⟩, .slice none 0 0, .int .i64 0, .int .i64 0]) (by simp [results, Try.results63, go_sem, k0, k1, k2, k3, k4, k5, k6]) rfl ⟨(⟨⟨1, l, c, ⟨#[]⟩, [], 0, 0⟩, p, none, cap, 0⟩ : RD), _, _, by rw [← hX]; rfl, HOF.out, HSF.out, HT.out, hn5, HGF.out⟩
    · have he5 : e5 = false := by cases e5 <;> simp_all
      have hle : tt ≤ s.size - n5 := by simp only [not_or, Nat.not_lt] at hbad; exact hbad.2
      subst he5
      have hRt := HR5.out.text_good (by rw [lft_len]; simpa using hle)
      rw [Int.toNat_natCast, take_text, lft_drop] at hRt
      have HT := hidE (HR1.out.deed1 HR4.out hRt)
      have hge : ¬ ((s.size : Int) - (n5 : Int) < (tt : Int)) := by omega
      have hws : IntKind.i64.wrap ((n5 : Int) + (tt : Int)) = (n5 : Int) + (tt : Int) := by rw [IntKind.wrap_i64] <;> omega
      have hb1 : (n5 : Int) ≤ (n5 : Int) + (tt : Int) := by omega
      have hb2 : (n5 : Int) + (tt : Int) ≤ (s.size : Int) := by omega
      have hb0 : (0 : Int) ≤ (n5 : Int) := by omega
      have hsz : (s.extract n5 (n5 + tt)).size ≤ 255 := by rw [ByteArray.size_extract]; omega
      have ht1 : ((n5 : Int) + (tt : Int)).toNat = n5 + tt := by omega
      clear hbad hRt HR1 HR4 HR5
      go_quiet (fail)
      have hM9' := HHM.out nq
      have hN9' := HHN.out nq
      have hS9' := HHS.out nq
      have hO6 := HHO.out nq
      have HG9' := hidE (HHG.out nq)
      generalize w5.drewN nq = w6 at *
      clear HHM HHN HHS HHO HHG c0 c1 c2
      have c0 := hS9'.is 0 rfl
      have c1 := hS9'.is 1 rfl
      have m3 := hM9'.is 3 rfl
      have fm := hM9'.frozen
      go_upto_region 8 with fail
      have hBd : Below w6.heap.size w6 w6.drew := (Below.refl _ _).drew
      have c0' : w6.drew.cell? ⟨T, 0, none⟩ = some (.string s) := c0
      have c1' : w6.drew.cell? ⟨T, 1, none⟩ = some (.int .i64 (n5 : Int)) := c1
      have m3' : w6.drew.cell? ⟨M, 3, none⟩ = some (.string ⟨#[]⟩) := m3
      have fm' : ∀ o, w6.drew.frozen? ⟨M, o, none⟩ = false := fm
      go_region_held3 (fun w' => w'.cell? ⟨T, 0, none⟩ = some (.string s) ∧ w'.cell? ⟨T, 1, none⟩ = some (.int .i64 (n5 : Int))) (first | exact ⟨c0, c1⟩ | exact ⟨c0', c1'⟩ | exact ⟨((hS9'.setOther (a := ⟨M, 3, none⟩) nMT _).drew).is 0 rfl, ((hS9'.setOther (a := ⟨M, 3, none⟩) nMT _).drew).is 1 rfl⟩) (fail)
      have hgm := grownBy_set' w6 M 3 (.string (s.extract n5 (n5 + tt)))
      have hX1 : TkSt (w6.setCell ⟨M, 3, none⟩ (.string (s.extract n5 (n5 + tt)))).drew T s n5 false := (hS9'.setOther (a := ⟨M, 3, none⟩) nMT _).drew
      have hX2 : Blk (w6.setCell ⟨M, 3, none⟩ (.string (s.extract n5 (n5 + tt)))).drew M #[.int .i64 1, .slice p ln cap, .int .i64 c, .string (s.extract n5 (n5 + tt)), .slice none 0 0, .int .i64 0, .int .i64 0] 98 := (hM9'.set 3 _).drew
      have hX3 := (hN9'.grown hgm (fun q => by simp at q; omega)).drew
      have hX4 := hO6.kept hgm (Or.inr (own_apart hO6 hMlt))
      have hX5 := owns_below hX4 (show Below (w6.setCell ⟨M, 3, none⟩ (.string (s.extract n5 (n5 + tt)))).heap.size _ (w6.setCell ⟨M, 3, none⟩ (.string (s.extract n5 (n5 + tt)))).drew from (Below.refl _ _).drew)
      have HG8 := hidE ((grownBy_new HG9'.out hgm (by omega)).trans (grownBy_none (show Below (w6.setCell ⟨M, 3, none⟩ (.string (s.extract n5 (n5 + tt)))).heap.size _ (w6.setCell ⟨M, 3, none⟩ (.string (s.extract n5 (n5 + tt)))).drew from (Below.refl _ _).drew)))
      clear hgm hX4 hS9' hM9' hN9' hO6 HG9' c0 c1 c0' c1' m3 m3' fm fm' hBd
      generalize (w6.setCell ⟨M, 3, none⟩ (.string (s.extract n5 (n5 + tt)))).drew = w8 at *
      have c1 := hX1.is 1 rfl
      have fs := hX1.frozen
      have hgs := grownBy_set' w8 T 1 (.int .i64 ((n5 : Int) + (tt : Int)))
      have hS9 : TkSt (w8.setCell ⟨T, 1, none⟩ (.int .i64 ((n5 : Int) + (tt : Int)))) T s (n5 + tt) false := hX1.set 1 _
      have hM9 := hX2.grown hgs (fun q => nMT (by simpa using q))
      have hN6 := hX3.grown hgs (fun q => nNT (by simpa using q))
      have hO7 := hX5.kept hgs (Or.inr (own_apart hX5 (by omega)))
      have HG9 := hidE (HG8.out.trans hgs)
      have hn7 : n5 + tt ≤ s.size := by omega
      clear hX1 hX2 hX3 hX5 HG8 hgs
      go_upto_region 10 with fail
      generalize w8.setCell ⟨T, 1, none⟩ (.int .i64 ((n5 : Int) + (tt : Int))) = W9 at *
      clear c1 fs
      generalize s.extract n5 (n5 + tt) = tx at *
      have hN9 := hN6
      have x0 := hM9.is 0 rfl
      have x1 := hM9.is 1 rfl
      have x2 := hM9.is 2 rfl
      have x3 := hM9.is 3 rfl
      have x4 := hM9.is 4 rfl
      have x5 := hM9.is 5 rfl
      have x6 := hM9.is 6 rfl
      have y0 := hN9.is 0 rfl
      have y1 := hN9.is 1 rfl
      have y2 := hN9.is 2 rfl
      have y3 := hN9.is 3 rfl
      have y4 := hN9.is 4 rfl
      have y5 := hN9.is 5 rfl
      have y6 := hN9.is 6 rfl
      have fy := hN9.frozen
      obtain ⟨hF, hGF⟩ := fill7 hN9 (.int .i64 1) (.slice p ln cap) (.int .i64 c) (.string tx) (.slice none 0 0) (.int .i64 0) (.int .i64 0)
      have HOF := hidE (show DdOwn (put7 W9 w.heap.size (.int .i64 1) (.slice p ln cap) (.int .i64 c) (.string tx) (.slice none 0 0) (.int .i64 0) (.int .i64 0)) w.heap.size (⟨⟨1, l, c, tx, [], 0, 0⟩, p, none, cap, 0⟩ : RD) from ⟨by rw [← hX] at hO7; exact (owns_base hO7 hwW2).kept hGF (Or.inr (own_apart hO7 (by omega))), World.ownsRow_nil _ _ _ _, by have h9 := HLe.out; show l.length ≤ 255; omega, Nat.zero_le _, hsz, Int.le_refl _, show (0 : Int) ≤ 255 by decide⟩)
      have HSF := hidE (hS9.grown hGF (fun q => nNT (by simpa using q.symm)))
      have HGF := hidE (grownBy_new HG9.out hGF (Nat.le_refl _))
      unfold put7 at hF
      have HF := hidE hF
      clear hF hGF hM9 hN9 hS9 hN6 hO7
      go_wp2_with fail
      have k0 := HF.out.is 0 rfl
      have k1 := HF.out.is 1 rfl
      have k2 := HF.out.is 2 rfl
      have k3 := HF.out.is 3 rfl
      have k4 := HF.out.is 4 rfl
      have k5 := HF.out.is 5 rfl
      have k6 := HF.out.is 6 rfl
      refine bodyPost_ret (v := .agg #[.int .i64 1, .slice p ln cap, .int .i64 c, .string tx, .slice none 0 0, .int .i64 0, .int .i64 0]) (by simp [results, Try.results63, go_sem, k0, k1, k2, k3, k4, k5, k6]) rfl ⟨(⟨⟨1, l, c, tx, [], 0, 0⟩, p, none, cap, 0⟩ : RD), _, _, by rw [← hX]; rfl, HOF.out, HSF.out, HT.out, hn7, HGF.out⟩
  · by_cases hk2 : k = 2
    · subst hk2
      have H5 := hidE (tkMark_ok T s n1 e1 W2 hS1 hn1 hs)
      clear hM hN1 hS1
      go_wp2_with fail
      refine H5.out.mono ?_
      rintro r w3 ⟨p, cap, l, c, n3, e3, rfl, hO, hl, hS, hR, hn3, hg⟩
      have hM3 := HM.out.grown hg (fun q => nMT (by simpa using q))
      have hN3 := HN1.out.grown hg (fun q => nNT (by simpa using q))
      have m1 := hM3.is 4 rfl
      have m2 := hM3.is 5 rfl
      have fm := hM3.frozen
      have hM4 : Blk ((w3.setCell ⟨M, 4, none⟩ (.slice p l.length cap)).setCell ⟨M, 5, none⟩ (.int .i64 c)) M #[.int .i64 2, .slice none 0 0, .int .i64 0, .string ⟨#[]⟩, .slice p l.length cap, .int .i64 c, .int .i64 0] 98 := (hM3.set 4 _).set 5 _
      have hGM := (grownBy_set' w3 M 4 (.slice p l.length cap)).trans (grownBy_set' _ M 5 (.int .i64 c))
      have hN4 := hN3.grown hGM (fun q => by simp at q; omega)
      have hS4 := hS.grown hGM (fun q => nMT (by simpa using q.symm))
      have hO4 := hO.kept hGM (Or.inr (own_apart hO hMlt))
      have HG4 := hidE (grownBy_new (HG1.out.trans hg) hGM (by omega))
      have HR4 := hidE hR
      have hwW2 := HG1.out.size
      clear hO hS hR hg hM3 hN3 hGM H5 HG1 HM HN1
      have HLe := hidE hl
      clear hl
      generalize hX : l.length = ln at *
      go_upto_region 14 with fail
      generalize (w3.setCell ⟨M, 4, none⟩ (.slice p ln cap)).setCell ⟨M, 5, none⟩ (.int .i64 c) = W4 at *
      have H6 := hidE (tkOne_ok T s n3 e3 W4 hS4 hn3 hs)
      have HM4 := hidE hM4
      have HN4 := hidE hN4
      have HO4 := hidE hO4
      clear hM4 hN4 hS4 m1 m2 fm q0 hO4
      go_wp2_with fail
      refine H6.out.mono ?_
      rintro r w5 ⟨t, n5, e5, rfl, hS, hR, t0, t1, hn5, hg⟩
      have hM5 := HM4.out.grown hg (fun q => nMT (by simpa using q))
      have hN5 := HN4.out.grown hg (fun q => nNT (by simpa using q))
      have hO5 := HO4.out.kept hg (Or.inr (own_apart HO4.out (by omega)))
      have m3 := hM5.is 6 rfl
      have fm := hM5.frozen
      have hM9 : Blk (w5.setCell ⟨M, 6, none⟩ (.int .i64 t)) M #[.int .i64 2, .slice none 0 0, .int .i64 0, .string ⟨#[]⟩, .slice p ln cap, .int .i64 c, .int .i64 t] 98 := hM5.set 6 _
      have hGM := grownBy_set' w5 M 6 (.int .i64 t)
      have hN6 := hN5.grown hGM (fun q => by simp at q; omega)
      have hS9 := hS.grown hGM (fun q => nMT (by simpa using q.symm))
      have hO6 := hO5.kept hGM (Or.inr (own_apart hO5 hMlt))
      have HG9 := hidE (grownBy_new (HG4.out.trans hg) hGM (by omega))
      have HR9 := hidE (HR1.out.deed2 HR4.out hR)
      clear hO5 hS hR hg hM5 hN5 hGM H6 HG4 HR4 HR1 HM4 HN4 HO4
      go_upto_region 15 with fail
      generalize w5.setCell ⟨M, 6, none⟩ (.int .i64 t) = W9 at *
      clear m3 fm
      have hN9 := hN6
      have x0 := hM9.is 0 rfl
      have x1 := hM9.is 1 rfl
      have x2 := hM9.is 2 rfl
      have x3 := hM9.is 3 rfl
      have x4 := hM9.is 4 rfl
      have x5 := hM9.is 5 rfl
      have x6 := hM9.is 6 rfl
      have y0 := hN9.is 0 rfl
      have y1 := hN9.is 1 rfl
      have y2 := hN9.is 2 rfl
      have y3 := hN9.is 3 rfl
      have y4 := hN9.is 4 rfl
      have y5 := hN9.is 5 rfl
      have y6 := hN9.is 6 rfl
      have fy := hN9.frozen
      obtain ⟨hF, hGF⟩ := fill7 hN9 (.int .i64 2) (.slice none 0 0) (.int .i64 0) (.string ⟨#[]⟩) (.slice p ln cap) (.int .i64 c) (.int .i64 t)
      have HOF := hidE (show DdOwn (put7 W9 w.heap.size (.int .i64 2) (.slice none 0 0) (.int .i64 0) (.string ⟨#[]⟩) (.slice p ln cap) (.int .i64 c) (.int .i64 t)) w.heap.size (⟨⟨2, [], 0, ⟨#[]⟩, l, c, t⟩, none, p, 0, cap⟩ : RD) from ⟨World.ownsRow_nil _ _ _ _, by rw [← hX] at hO6; exact (owns_base hO6 hwW2).kept hGF (Or.inr (own_apart hO6 (by omega))), Nat.zero_le _, by have h9 := HLe.out; show l.length ≤ 255; omega, Nat.zero_le _, t0, t1⟩)
      have HSF := hidE (hS9.grown hGF (fun q => nNT (by simpa using q.symm)))
      have HGF := hidE (grownBy_new HG9.out hGF (Nat.le_refl _))
      unfold put7 at hF
      have HF := hidE hF
      clear hF hGF hM9 hN9 hS9 hN6 hO6
      go_wp2_with fail
      have k0 := HF.out.is 0 rfl
      have k1 := HF.out.is 1 rfl
      have k2 := HF.out.is 2 rfl
      have k3 := HF.out.is 3 rfl
      have k4 := HF.out.is 4 rfl
      have k5 := HF.out.is 5 rfl
      have k6 := HF.out.is 6 rfl
      refine bodyPost_ret (v := .agg #[.int .i64 2, .slice none 0 0, .int .i64 0, .string ⟨#[]⟩, .slice p ln cap, .int .i64 c, .int .i64 t]) (by simp [results, Try.results63, go_sem, k0, k1, k2, k3, k4, k5, k6]) rfl ⟨(⟨⟨2, [], 0, ⟨#[]⟩, l, c, t⟩, none, p, 0, cap⟩ : RD), _, _, by rw [← hX]; rfl, HOF.out, HSF.out, HR9.out, hn5, HGF.out⟩
    · have hke1 : (k == 1) = false := by rw [beq_eq_false_iff_ne]; exact hk1
      have hke2 : (k != 2) = true := by rw [bne_iff_ne]; exact hk2
      have c2 := hS1.is 2 rfl
      have fs := hS1.frozen
      have hgs := grownBy_set' W2 T 2 (.bool true)
      have hSb : TkSt (W2.setCell ⟨T, 2, none⟩ (.bool true)) T s n1 true := hS1.set 2 _
      have hMb := hM.grown hgs (fun q => nMT (by simpa using q))
      have hNb := hN1.grown hgs (fun q => nNT (by simpa using q))
      have HGb := hidE (HG1.out.trans hgs)
      have hMltb := hMb.lt
      clear hS1 hM hN1 HG1 HM HN1 hgs hMlt
      go_upto_region 13 with fail
      generalize W2.setCell ⟨T, 2, none⟩ (.bool true) = W3 at *
      clear c2 fs q0
      have hS1 := hSb
      have hM := hMb
      have hN1 := hNb
      have HG1 := HGb
      have hMlt := hMltb
      have HM := hidE hM
      have HN1 := hidE hN1
      have q0 := hM.is 0 rfl
      clear hSb hMb hNb HGb hMltb
      have H5 := hidE (tkMark_ok T s n1 true W3 hS1 hn1 hs)
      clear hM hN1 hS1
      go_wp2_with fail
      refine H5.out.mono ?_
      rintro r w3 ⟨p, cap, l, c, n3, e3, rfl, hO, hl, hS, hR, hn3, hg⟩
      have hM3 := HM.out.grown hg (fun q => nMT (by simpa using q))
      have hN3 := HN1.out.grown hg (fun q => nNT (by simpa using q))
      have m1 := hM3.is 4 rfl
      have m2 := hM3.is 5 rfl
      have fm := hM3.frozen
      have hM4 : Blk ((w3.setCell ⟨M, 4, none⟩ (.slice p l.length cap)).setCell ⟨M, 5, none⟩ (.int .i64 c)) M #[.int .i64 k, .slice none 0 0, .int .i64 0, .string ⟨#[]⟩, .slice p l.length cap, .int .i64 c, .int .i64 0] 98 := (hM3.set 4 _).set 5 _
      have hGM := (grownBy_set' w3 M 4 (.slice p l.length cap)).trans (grownBy_set' _ M 5 (.int .i64 c))
      have hN4 := hN3.grown hGM (fun q => by simp at q; omega)
      have hS4 := hS.grown hGM (fun q => nMT (by simpa using q.symm))
      have hO4 := hO.kept hGM (Or.inr (own_apart hO hMlt))
      have HG4 := hidE (grownBy_new (HG1.out.trans hg) hGM (by omega))
      have HR4 := hidE hR
      have hwW2 := HG1.out.size
      clear hO hS hR hg hM3 hN3 hGM H5 HG1 HM HN1
      have HLe := hidE hl
      clear hl
      generalize hX : l.length = ln at *
      go_upto_region 14 with fail
      generalize (w3.setCell ⟨M, 4, none⟩ (.slice p ln cap)).setCell ⟨M, 5, none⟩ (.int .i64 c) = W4 at *
      have H6 := hidE (tkOne_ok T s n3 e3 W4 hS4 hn3 hs)
      have HM4 := hidE hM4
      have HN4 := hidE hN4
      have HO4 := hidE hO4
      clear hM4 hN4 hS4 m1 m2 fm q0 hO4
      go_wp2_with fail
      refine H6.out.mono ?_
      rintro r w5 ⟨t, n5, e5, rfl, hS, hR, t0, t1, hn5, hg⟩
      have hM5 := HM4.out.grown hg (fun q => nMT (by simpa using q))
      have hN5 := HN4.out.grown hg (fun q => nNT (by simpa using q))
      have hO5 := HO4.out.kept hg (Or.inr (own_apart HO4.out (by omega)))
      have m3 := hM5.is 6 rfl
      have fm := hM5.frozen
      have hM9 : Blk (w5.setCell ⟨M, 6, none⟩ (.int .i64 t)) M #[.int .i64 k, .slice none 0 0, .int .i64 0, .string ⟨#[]⟩, .slice p ln cap, .int .i64 c, .int .i64 t] 98 := hM5.set 6 _
      have hGM := grownBy_set' w5 M 6 (.int .i64 t)
      have hN6 := hN5.grown hGM (fun q => by simp at q; omega)
      have hS9 := hS.grown hGM (fun q => nMT (by simpa using q.symm))
      have hO6 := hO5.kept hGM (Or.inr (own_apart hO5 hMlt))
      have HG9 := hidE (grownBy_new (HG4.out.trans hg) hGM (by omega))
      have HR9 := hidE (HR1.out.deed0 (d := ⟨k, [], 0, ⟨#[]⟩, l, c, t⟩) (s2 := lft s n5) hk1 hk2)
      have he3 := HR4.out.stays_bad
      subst he3
      have he5 := hR.stays_bad
      subst he5
      clear hO5 hS hR hg hM5 hN5 hGM H6 HG4 HR4 HR1 HM4 HN4 HO4
      go_upto_region 15 with fail
      generalize w5.setCell ⟨M, 6, none⟩ (.int .i64 t) = W9 at *
      clear m3 fm
      have hN9 := hN6
      have x0 := hM9.is 0 rfl
      have x1 := hM9.is 1 rfl
      have x2 := hM9.is 2 rfl
      have x3 := hM9.is 3 rfl
      have x4 := hM9.is 4 rfl
      have x5 := hM9.is 5 rfl
      have x6 := hM9.is 6 rfl
      have y0 := hN9.is 0 rfl
      have y1 := hN9.is 1 rfl
      have y2 := hN9.is 2 rfl
      have y3 := hN9.is 3 rfl
      have y4 := hN9.is 4 rfl
      have y5 := hN9.is 5 rfl
      have y6 := hN9.is 6 rfl
      have fy := hN9.frozen
      obtain ⟨hF, hGF⟩ := fill7 hN9 (.int .i64 k) (.slice none 0 0) (.int .i64 0) (.string ⟨#[]⟩) (.slice p ln cap) (.int .i64 c) (.int .i64 t)
      have HOF := hidE (show DdOwn (put7 W9 w.heap.size (.int .i64 k) (.slice none 0 0) (.int .i64 0) (.string ⟨#[]⟩) (.slice p ln cap) (.int .i64 c) (.int .i64 t)) w.heap.size (⟨⟨k, [], 0, ⟨#[]⟩, l, c, t⟩, none, p, 0, cap⟩ : RD) from ⟨World.ownsRow_nil _ _ _ _, by rw [← hX] at hO6; exact (owns_base hO6 hwW2).kept hGF (Or.inr (own_apart hO6 (by omega))), Nat.zero_le _, by have h9 := HLe.out; show l.length ≤ 255; omega, Nat.zero_le _, t0, t1⟩)
      have HSF := hidE (hS9.grown hGF (fun q => nNT (by simpa using q.symm)))
      have HGF := hidE (grownBy_new HG9.out hGF (Nat.le_refl _))
      unfold put7 at hF
      have HF := hidE hF
      clear hF hGF hM9 hN9 hS9 hN6 hO6
      go_wp2_with fail
      have k0 := HF.out.is 0 rfl
      have k1 := HF.out.is 1 rfl
      have k2 := HF.out.is 2 rfl
      have k3 := HF.out.is 3 rfl
      have k4 := HF.out.is 4 rfl
      have k5 := HF.out.is 5 rfl
      have k6 := HF.out.is 6 rfl
      refine bodyPost_ret (v := .agg #[.int .i64 k, .slice none 0 0, .int .i64 0, .string ⟨#[]⟩, .slice p ln cap, .int .i64 c, .int .i64 t]) (by simp [results, Try.results63, go_sem, k0, k1, k2, k3, k4, k5, k6]) rfl ⟨(⟨⟨k, [], 0, ⟨#[]⟩, l, c, t⟩, none, p, 0, cap⟩ : RD), _, _, by rw [← hX]; rfl, HOF.out, HSF.out, HR9.out, hn5, HGF.out⟩
end Go.Proofs.Ytnhjebdlcbhkcad
