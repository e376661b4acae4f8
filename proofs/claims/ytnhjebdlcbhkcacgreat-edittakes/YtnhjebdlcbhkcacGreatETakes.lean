/- SameDeed and SameDeeds of what is the same. -/
import Derived.Test.YtnhjebdlcbhkcacGreatBoxS
import Derived.Test.YtnhjebdlcbhkcacGreatDeedAt
import Derived.Test.YtnhjebdlcbhkcacGreatPlainR
import Derived.Test.YtnhjebdlcbhkcacGreatCutR
namespace Go.Proofs.YtnhjebdlcbhkcacGreat
open Go.RowKit

theorem boxes7 (w : World) (v0 v1 v2 v3 v4 v5 v6 u0 u1 u2 u3 u4 u5 u6 : Value) (T : TypeId) : ∃ W, W = (w.alloc (Obj.cells #[v0, v1, v2, v3, v4, v5, v6] T)).alloc (Obj.cells #[u0, u1, u2, u3, u4, u5, u6] T) ∧
    (W.cell? ⟨w.heap.size, 0, none⟩ = some v0 ∧ W.cell? ⟨w.heap.size, 1, none⟩ = some v1 ∧ W.cell? ⟨w.heap.size, 2, none⟩ = some v2 ∧ W.cell? ⟨w.heap.size, 3, none⟩ = some v3 ∧ W.cell? ⟨w.heap.size, 4, none⟩ = some v4 ∧ W.cell? ⟨w.heap.size, 5, none⟩ = some v5 ∧ W.cell? ⟨w.heap.size, 6, none⟩ = some v6) ∧
    (W.cell? ⟨w.heap.size + 1, 0, none⟩ = some u0 ∧ W.cell? ⟨w.heap.size + 1, 1, none⟩ = some u1 ∧ W.cell? ⟨w.heap.size + 1, 2, none⟩ = some u2 ∧ W.cell? ⟨w.heap.size + 1, 3, none⟩ = some u3 ∧ W.cell? ⟨w.heap.size + 1, 4, none⟩ = some u4 ∧ W.cell? ⟨w.heap.size + 1, 5, none⟩ = some u5 ∧ W.cell? ⟨w.heap.size + 1, 6, none⟩ = some u6) ∧
    W.heap.size = w.heap.size + 2 ∧ Below w.heap.size w W :=
  ⟨_, rfl, ⟨by go_simp, by go_simp, by go_simp, by go_simp, by go_simp, by go_simp, by go_simp⟩, ⟨by go_simp, by go_simp, by go_simp, by go_simp, by go_simp, by go_simp, by go_simp⟩, by simp, ((Below.refl _ _).alloc (Nat.le_refl _) _).alloc (by simp) _⟩

set_option maxRecDepth 100000 in
set_option maxHeartbeats 4000000 in
theorem sameDeed_true (p q p' q' : Option Addr) (cp cq cp' cq' : Nat) (x : Dd) (w : World) (h : DdAt w x p q) (h' : DdAt w x p' q') :
    Calls Tryz.prog 25 #[ddV x p q cp cq, ddV x p' q' cp' cq'] w fun e w' => e = .returned (.bool true) ∧ Below w.heap.size w w' := by
  obtain ⟨kind, rp, rc, rt, mp, mc, many⟩ := x
  obtain ⟨h1, h2, h3, h4, h5⟩ := h
  obtain ⟨g1, g2, _, _, _⟩ := h'
  unfold ddV
  dsimp only at *
  obtain ⟨W, hW, ⟨a0, a1, a2, a3, a4, a5, a6⟩, ⟨b0, b1, b2, b3, b4, b5, b6⟩, hs, hB⟩ := boxes7 w (.int .i64 kind) (.slice p rp.length cp) (.int .i64 rc) (.string rt) (.slice q mp.length cq) (.int .i64 mc) (.int .i64 many) (.int .i64 kind) (.slice p' rp.length cp') (.int .i64 rc) (.string rt) (.slice q' mp.length cq') (.int .i64 mc) (.int .i64 many) 50
  have HW := hidE hW
  have HS := hidE hs
  clear hW hs
  have hz : ordM mp mc mp mc = 0 := cmpM.refl (mp, mc)
  have HSM := hidE (fun (W' : World) (hb : Below W.heap.size W W') => sameMark_n q q' cq cq' mp.length mp.length mp mp mc mc W' rfl rfl h4 h4 ((h2.below hB (Nat.le_refl _)).below hb (Nat.le_refl _)) ((g2.below hB (Nat.le_refl _)).below hb (Nat.le_refl _)))
  rw [hz] at HSM
  have HSR := hidE (fun (W' : World) (hb : Below W.heap.size W W') => sameRun_true p p' cp cp' ⟨rp, rc, rt⟩ W' h3 ((h1.below hB (Nat.le_refl _)).below hb (Nat.le_refl _)) ((g1.below hB (Nat.le_refl _)).below hb (Nat.le_refl _)))
  dsimp only at HSR
  have hz1 : w.heap.size < W.heap.size := by rw [HS.out]; omega
  have hz2 : w.heap.size + 1 < W.heap.size := by rw [HS.out]; omega
  clear h1 h2 h3 h4 h5 g1 g2 hz
  go_enter Tryz.func25, Tryz.ntmps25
  go_upto_region 1 with fail
  rw [← HW.out]
  generalize hzz : w.heap.size = Z at *
  have HZ := hidE hzz
  clear hzz
  go_wp2_with fail
  refine (HSM.out _ (Below.refl _ _)).mono ?_
  rintro e w2 ⟨rfl, hb2⟩
  replace a1 := (hb2.cell (p := ⟨Z, 1, none⟩) hz1).trans a1
  replace a2 := (hb2.cell (p := ⟨Z, 2, none⟩) hz1).trans a2
  replace a3 := (hb2.cell (p := ⟨Z, 3, none⟩) hz1).trans a3
  replace b1 := (hb2.cell (p := ⟨Z + 1, 1, none⟩) hz2).trans b1
  replace b2 := (hb2.cell (p := ⟨Z + 1, 2, none⟩) hz2).trans b2
  replace b3 := (hb2.cell (p := ⟨Z + 1, 3, none⟩) hz2).trans b3
  go_wp2_with fail
  refine (HSR.out _ hb2).mono ?_
  rintro e w3 ⟨rfl, hb3⟩
  go_wp2_with fail
  go_ret
  exact ⟨rfl, by rw [HZ.out]; exact hB.trans ((hb2.thru hb3 hb2.size).mono (Nat.le_of_lt hz1))⟩

set_option maxRecDepth 100000 in
set_option maxHeartbeats 4000000 in
theorem sameDeeds_true (a a' : Option Addr) (cap cap' : Nat) (xs : List Dd) (w : World) (hl : xs.length ≤ maxLen) (h : DeedsAt w a xs) (h' : DeedsAt w a' xs) :
    Calls Tryz.prog 8 #[.slice a xs.length cap, .slice a' xs.length cap'] w fun e w' => e = .returned (.bool true) ∧ Below w.heap.size w w' := by
  unfold maxLen at hl
  go_enter Tryz.func8, Tryz.ntmps8
  go_wp2
  go_loopw [5] (fun i wr => ∃ k : Nat, k ≤ xs.length ∧ i = .int .i64 k ∧ Below w.heap.size w wr) (fun i _ => xs.length - (intOf i).toNat)
  case atStart => exact ⟨0, Nat.zero_le _, rfl, Below.refl _ _⟩
  case round =>
    obtain ⟨k, hk, rfl, hb⟩ := hrel
    by_cases hlt : k < xs.length
    · have hi1 : (k : Int) < xs.length := by omega
      rcases h.below hb with hs | ⟨ab, ao, rfl, hab, hc⟩
      · simp [hs] at hlt
      rcases h'.below hb with hs | ⟨bb, bo, rfl, hbb, hd⟩
      · simp [hs] at hlt
      obtain ⟨p, cp, q, cq, c0, c1, c2, c3, c4, c5, c6, hD, _, _⟩ := hc k hlt
      obtain ⟨p', cp', q', cq', d0, d1, d2, d3, d4, d5, d6, hD', _, _⟩ := hd k hlt
      clear hc hd h h'
      have HC := hidE (fun d os => sameDeed_true p q p' q' cp cq cp' cq' xs[k] _ (hD.below (below_regrown wr d os)) (hD'.below (below_regrown wr d os)))
      unfold ddV at HC
      clear hD hD'
      generalize xs[k] = x at *
      have k0 := cell_regrown c0
      have k1 := cell_regrown c1
      have k2 := cell_regrown c2
      have k3 := cell_regrown c3
      have k4 := cell_regrown c4
      have k5 := cell_regrown c5
      have k6 := cell_regrown c6
      have e0 := cell_regrown d0
      have e1 := cell_regrown d1
      have e2 := cell_regrown d2
      have e3 := cell_regrown d3
      have e4 := cell_regrown d4
      have e5 := cell_regrown d5
      have e6 := cell_regrown d6
      clear c0 c1 c2 c3 c4 c5 c6 d0 d1 d2 d3 d4 d5 d6
      go_wp2_with fail
      refine wp_region_quiet_below (by kernel_rfl) (by kernel_rfl) ?_
      repeat (first | go_big_quiet_step ((go_at_call 25; with_reducible exact Calls.regrown_of (HC.out _ _))) | quiet_step ((go_at_call 25; with_reducible exact Calls.regrown_of (HC.out _ _))))
      refine wpQuiet_nil ?_
      intro _ hw'
      obtain ⟨⟨dq, osq⟩, hw''⟩ := hw'
      subst hw''
      go_wp2_with fail
      go_roundw
      case rel => exact ⟨k + 1, by omega, by go_num, hb.thru (below_regrown _ _ _) hb.size⟩
      case measure => simp [intOf]; omega
    · go_wp2
      go_ret
      exact ⟨rfl, hb⟩
end Go.Proofs.YtnhjebdlcbhkcacGreat

namespace Go.Proofs.YtnhjebdlcbhkcacGreat
open Go.RowKit

theorem cutErr_zero {l : List At} {g : List (List (Int × Int) × Int)} {n m : Int} (h : cutErr l g n m = 0) : OkS l g ∧ 0 ≤ n ∧ 0 ≤ m ∧ n + m ≤ l.length := by
  unfold cutErr at h
  by_cases h1 : chkS l g = 0
  rotate_left
  · rw [if_pos h1] at h; exact absurd h h1
  rw [if_neg (by simpa using h1)] at h
  cases h2 : pieceB n m l.length
  · rw [if_pos h2] at h; exact absurd h (by decide)
  simp [pieceB] at h2
  exact ⟨okS_of h1, by omega, by omega, by omega⟩

set_option maxRecDepth 100000 in
set_option maxHeartbeats 4000000 in
theorem editTakes_ok (a b : Option Addr) (cap cap' : Nat) (l : List At) (g : List (List (Int × Int) × Int)) (n m : Int) (w : World) (hl : l.length ≤ maxLen) (hcap : l.length ≤ cap) (hcm : cap ≤ maxLen) (hmn : m ≤ 9223372036854775807) (h : AtomsAt w a l) (h' : MarksAt w b g) :
    Calls Tryz.prog 3 #[.agg #[.slice a l.length cap, .slice b g.length cap'], .int .i64 n, .int .i64 m] w fun e w' => e = .returned (.bool true) ∧ Below w.heap.size w w' := by
  have hB := (Below.refl w.heap.size w).alloc (Nat.le_refl _) (Obj.cells #[.slice a l.length cap, .slice b g.length cap'] 25)
  have q0 : (w.alloc (Obj.cells #[.slice a l.length cap, .slice b g.length cap'] 25)).cell? ⟨w.heap.size, 0, none⟩ = some (.slice a l.length cap) := by simp
  have q1 : (w.alloc (Obj.cells #[.slice a l.length cap, .slice b g.length cap'] 25)).cell? ⟨w.heap.size, 1, none⟩ = some (.slice b g.length cap') := by simp
  have z : w.heap.size < (w.alloc (Obj.cells #[.slice a l.length cap, .slice b g.length cap'] 25)).heap.size := by simp
  replace h := h.below hB (Nat.le_refl _)
  replace h' := h'.below hB (Nat.le_refl _)
  go_enter Tryz.func3, Tryz.ntmps3
  go_upto_region 1 with fail
  generalize w.alloc (Obj.cells #[.slice a l.length cap, .slice b g.length cap'] 25) = W at hB q0 q1 z h h' ⊢
  generalize hzz : w.heap.size = Z at hB q0 q1 z ⊢
  have HZ := hidE hzz
  clear hzz
  have HT := hidE (editTake_any a b cap cap' l g n m W hl hcap hcm hmn h h')
  go_wp2_with fail
  refine HT.out.mono ?_
  rintro e w1 ⟨hb, hp⟩
  replace q0 := (hb.cell (p := ⟨Z, 0, none⟩) z).trans q0
  replace q1 := (hb.cell (p := ⟨Z, 1, none⟩) z).trans q1
  replace h := h.below hb (Nat.le_refl _)
  replace h' := h'.below hb (Nat.le_refl _)
  replace hB := hB.thru hb (Nat.le_of_lt z)
  replace z := Nat.lt_of_lt_of_le z hb.size
  clear hb HT
  have HC := hidE (cutOf_any a b cap cap' l g n m w1 hl hcap hmn h h')
  by_cases hce : cutErr l g n m = 0
  rotate_left
  · rcases hp with ⟨_, rfl⟩ | ⟨h0, _⟩
    rotate_left
    · exact absurd h0 hce
    have hcb : (cutErr l g n m != 0) = true := by rw [bne_iff_ne]; exact hce
    have HCE := hidE hce
    have HCe := hidE (HC.out.mono (R' := fun e w' => e = .returned (.tuple #[.slice none 0 0, .int .i64 (cutErr l g n m)]) ∧ Below w1.heap.size w1 w') (fun e w' ⟨hb, hp⟩ => by
      rcases hp with ⟨_, rfl⟩ | ⟨h0, _⟩
      · exact ⟨rfl, hb⟩
      · exact absurd h0 hce))
    clear h h' hl hcap hcm hmn hce HC
    generalize cutErr l g n m = er at *
    go_wp2_with fail
    refine HCe.out.mono ?_
    rintro e w2 ⟨rfl, hb⟩
    replace hB := hB.thru hb (Nat.le_of_lt z)
    replace z := Nat.lt_of_lt_of_le z hb.size
    clear hb HCe q0 q1
    go_wp2_with fail
    refine (editBegun_true w2).mono ?_
    rintro e w3 ⟨rfl, hb⟩
    replace hB := hB.thru hb (Nat.le_of_lt z)
    replace z := Nat.lt_of_lt_of_le z hb.size
    clear hb
    go_wp2_with fail
    refine (sameDeeds_true none none 0 0 [] w3 (Nat.zero_le _) (Or.inl rfl) (Or.inl rfl)).mono ?_
    rintro e w4 ⟨rfl, hb⟩
    replace hB := hB.thru hb (Nat.le_of_lt z)
    clear hb
    go_wp2_with fail
    go_ret
    exact ⟨rfl, by rw [HZ.out]; exact hB⟩
  · rcases hp with ⟨h0, _⟩ | ⟨_, p1, k1, rfl, hd1⟩
    · exact absurd hce h0
    obtain ⟨hok, hn0, hm0, hnm⟩ := cutErr_zero hce
    obtain ⟨i, rfl⟩ : ∃ i : Nat, n = i := ⟨n.toNat, by omega⟩
    obtain ⟨j, rfl⟩ : ∃ j : Nat, m = j := ⟨m.toNat, by omega⟩
    rw [Int.toNat_natCast, Int.toNat_natCast] at hd1
    have HOK := hidE hok
    have hl300 := hok.atoms.len
    have hij : i + j ≤ l.length := by omega
    have hokp := hok.atoms.part i j
    have HOKP := hidE hokp
    have hrl : (runsL (part l i j)).length ≤ 300 := by
      have h1 := runsL_lenE (part l i j)
      have h2 := part_len hij
      omega
    have HLN : Hid (((runsL (part l i j)).map takeDd).length = (runsL (part l i j)).length) := by show _ = _; simp
    have HCK : Hid (∀ d ∈ (runsL (part l i j)).map takeDd, chkD d = 0) := fun d hd => by
      obtain ⟨x, hx, rfl⟩ := List.mem_map.1 hd
      exact takeDd_chk (runsL_each hokp x hx)
    have HDOES : Hid (∀ l' g', doAll l g ((runsL (part l i j)).map takeDd) = some (l', g') → l' = l.take i ++ l.drop (i + j)) := fun l' g' h => (take_does hok i j hokp h).1
    have HDO := hidE (fun (W' : World) (hb : Below w1.heap.size w1 W') => doOf_ok a b p1 cap cap' k1 l g ((runsL (part l i j)).map takeDd) W' hok HCK.out (by simp; unfold maxLen; omega) (h.below hb (Nat.le_refl _)) (h'.below hb (Nat.le_refl _)) (hd1.below hb))
    have HTX := hidE (fun (W' : World) (hb : Below w1.heap.size w1 W') => textOf_ok a cap l W' (h.below hb (Nat.le_refl _)) (by omega))
    have HD1 := hidE hd1
    have hw1 : IntKind.i64.wrap ((i : Int) + j) = ((i + j : Nat) : Int) := by rw [IntKind.wrap_i64] <;> omega
    have HC0 := hidE (HC.out.mono (R' := fun e w' => ∃ p k, e = .returned (.tuple #[.slice p (runsL (part l i j)).length k, .int .i64 0]) ∧ DeedsAt w' p ((runsL (part l i j)).map takeDd) ∧ Below w1.heap.size w1 w') (fun e w' ⟨hb, hp⟩ => by
      rcases hp with ⟨h0, _⟩ | ⟨_, p, k, e1, h1⟩
      · exact absurd hce h0
      · rw [Int.toNat_natCast, Int.toNat_natCast] at e1 h1
        exact ⟨p, k, e1, h1, hb⟩))
    clear h h' hl hcap hcm hmn hok hokp hd1 hn0 hm0 hnm hce HC
    simp only [Int.toNat_natCast]
    generalize runsL (part l i j) = rl at *
    go_wp2_with fail
    refine HC0.out.mono ?_
    rintro e w2 ⟨p2, k2, rfl, hd2, hb⟩
    replace hB := hB.thru hb (Nat.le_of_lt z)
    replace q0 := (hb.cell (p := ⟨Z, 0, none⟩) z).trans q0
    replace q1 := (hb.cell (p := ⟨Z, 1, none⟩) z).trans q1
    have z2 := Nat.lt_of_lt_of_le z hb.size
    clear HC0
    go_wp2_with fail
    refine (editBegun_true w2).mono ?_
    rintro e w3 ⟨rfl, hb3⟩
    replace hB := hB.thru hb3 (Nat.le_of_lt z2)
    replace q0 := (hb3.cell (p := ⟨Z, 0, none⟩) z2).trans q0
    replace q1 := (hb3.cell (p := ⟨Z, 1, none⟩) z2).trans q1
    have z3 := Nat.lt_of_lt_of_le z2 hb3.size
    have hb13 := hb.thru hb3 hb.size
    have HSD := hidE (sameDeeds_true p1 p2 k1 k2 (rl.map takeDd) w3 (by simp; unfold maxLen; omega) (HD1.out.below hb13) (hd2.below hb3))
    rw [HLN.out] at HSD
    clear hb hb3 z2 hd2
    go_wp2_with fail
    refine HSD.out.mono ?_
    rintro e w4 ⟨rfl, hb4⟩
    replace hB := hB.thru hb4 (Nat.le_of_lt z3)
    replace q0 := (hb4.cell (p := ⟨Z, 0, none⟩) z3).trans q0
    replace q1 := (hb4.cell (p := ⟨Z, 1, none⟩) z3).trans q1
    have z4 := Nat.lt_of_lt_of_le z3 hb4.size
    have hb14 := hb13.thru hb4 hb13.size
    have HDO4 := hidE (HDO.out w4 hb14)
    rw [HLN.out] at HDO4
    clear hb13 hb4 z3 HSD HDO HD1
    go_wp2_with fail
    refine HDO4.out.mono ?_
    rintro e w5 ⟨hb5, ⟨h0, rfl⟩ | ⟨l', g', p6, c6, q6, d6, h0, rfl, hA6, hM6⟩⟩
    · have hbT := (Below.refl w5.heap.size w5).alloc (Nat.le_refl _) (Obj.cells #[.slice none 0 0, .slice none 0 0] 25)
      have HTS := hidE (HTX.out _ (hb14.thru (hb5.thru hbT hb5.size) hb14.size))
      have hB5 := hB.trans (hb5.mono (Nat.le_of_lt z4))
      have z5 := Nat.lt_of_lt_of_le z4 hb5.size
      have r0 := (hbT.cell (p := ⟨Z, 0, none⟩) z5).trans ((hb5.cell (p := ⟨Z, 0, none⟩) z4).trans q0)
      have hB6 := hB5.trans (hbT.mono (Nat.le_of_lt z5))
      have z6 := Nat.lt_of_lt_of_le z5 hbT.size
      clear HDO4 HDOES HCK h0 q0 q1 hB hB5 z4 z5 hb5
      go_upto_region 8 with fail
      generalize w5.alloc (Obj.cells #[.slice none 0 0, .slice none 0 0] 25) = w6 at *
      go_upto_region 9 with (go_at_call 10; refine HTS.out.mono ?_; rintro e w7 ⟨rfl, hb7⟩)
      have hB7 := hB6.trans (hb7.mono (Nat.le_of_lt z6))
      have z7 := Nat.lt_of_lt_of_le z6 hb7.size
      clear HTS hb7 hB6 HTX r0
      refine wp_region_quiet_below (by kernel_rfl) (by kernel_rfl) ?_
      repeat (first | go_big_quiet_step (fail) | quiet_step (fail))
      refine wpQuiet_nil ?_
      intro _ hw'
      obtain ⟨⟨dq, osq⟩, hw''⟩ := hw'
      subst hw''
      have hB9 := hB7.trans ((below_regrown w7 dq osq).mono (Nat.le_of_lt z7))
      go_wp2_with fail
      go_ret
      exact ⟨rfl, by rw [HZ.out]; exact hB9⟩
    · have hl' := HDOES.out l' g' h0
      have hl6 : l'.length ≤ 300 := by
        rw [hl']
        simp only [List.length_append, List.length_take, List.length_drop]
        omega
      have HTP := hidE (txt_cut l i j)
      rw [← hl'] at HTP
      have HTL := hidE (fun (W' : World) (hbW : Below w5.heap.size w5 W') => textOf_ok p6 c6 l' W' (hA6.below hbW (Nat.le_refl _)) hl6)
      rw [HTP.out] at HTL
      have hws : (strOfNums (l.map At.sign)).size = l.length := by rw [strOfNums_size, List.length_map]
      have hiw : i ≤ (strOfNums (l.map At.sign)).size := by omega
      have hijw : i + j ≤ (strOfNums (l.map At.sign)).size := by omega
      have hwl : (strOfNums (l.map At.sign)).size ≤ 300 := by omega
      have hbT := (Below.refl w5.heap.size w5).alloc (Nat.le_refl _) (Obj.cells #[.slice p6 l'.length c6, .slice q6 g'.length d6] 25)
      have t0 : (w5.alloc (Obj.cells #[.slice p6 l'.length c6, .slice q6 g'.length d6] 25)).cell? ⟨w5.heap.size, 0, none⟩ = some (.slice p6 l'.length c6) := by simp
      have zt : w5.heap.size < (w5.alloc (Obj.cells #[.slice p6 l'.length c6, .slice q6 g'.length d6] 25)).heap.size := by simp
      have HTS := hidE (HTX.out _ (hb14.thru (hb5.thru hbT hb5.size) hb14.size))
      have hB5 := hB.trans (hb5.mono (Nat.le_of_lt z4))
      have z5 := Nat.lt_of_lt_of_le z4 hb5.size
      have r0 := (hbT.cell (p := ⟨Z, 0, none⟩) z5).trans ((hb5.cell (p := ⟨Z, 0, none⟩) z4).trans q0)
      have hB6 := hB5.trans (hbT.mono (Nat.le_of_lt z5))
      have z6 := Nat.lt_of_lt_of_le z5 hbT.size
      clear HDO4 HDOES HCK h0 q0 q1 hB hB5 z4 z5 hb5 hl' HTP hws hA6 hM6
      go_upto_region 8 with fail
      generalize w5.alloc (Obj.cells #[.slice p6 l'.length c6, .slice q6 g'.length d6] 25) = w6 at *
      generalize w5.heap.size = T6 at *
      generalize strOfNums (l.map At.sign) = wt at *
      go_upto_region 9 with (go_at_call 10; refine HTS.out.mono ?_; rintro e w7 ⟨rfl, hb7⟩)
      have u0 := (hb7.cell (p := ⟨T6, 0, none⟩) zt).trans t0
      have HT6 := hidE (fun d os => HTL.out _ (hbT.trans ((hb7.trans ((below_regrown w7 d os).mono hb7.size)).mono (Nat.le_of_lt zt))))
      have k0 := cell_regrown u0
      have hB7 := hB6.trans (hb7.mono (Nat.le_of_lt z6))
      have z7 := Nat.lt_of_lt_of_le z6 hb7.size
      clear HTS HTL hb7 hB6 HTX r0 u0 t0 hbT
      refine wp_region_quiet_below (by kernel_rfl) (by kernel_rfl) ?_
      repeat (first | go_big_quiet_step ((go_at_call 10; with_reducible exact Calls.regrown_of (HT6.out _ _))) | quiet_step ((go_at_call 10; with_reducible exact Calls.regrown_of (HT6.out _ _))))
      refine wpQuiet_nil ?_
      intro _ hw'
      obtain ⟨⟨dq, osq⟩, hw''⟩ := hw'
      subst hw''
      have hB9 := hB7.trans ((below_regrown w7 dq osq).mono (Nat.le_of_lt z7))
      go_wp2_with fail
      go_ret
      exact ⟨rfl, by rw [HZ.out]; exact hB9⟩
end Go.Proofs.YtnhjebdlcbhkcacGreat
