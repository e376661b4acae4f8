/- Contracts of caret.Of and caret.At. -/
import Derived.Test.YtnhjebdlcbhkcaeGreatCaretPu
import Derived.Test.YtnhjebdlcbhkcaeGreatSearch
import Derived.Test.YtnhjebdlcbhkcaeGreatShapeC
namespace Go.Proofs.YtnhjebdlcbhkcaeGreat
open Go.RowKit

set_option maxRecDepth 100000 in
set_option maxHeartbeats 2000000 in
theorem caretAt1_any (S M k : Nat) (a a' : Option Addr) (cap cap' : Nat) (l : List At) (m : List (Int × Int)) (d : Int) (w : World) (hk : k < l.length) (hm : m.length ≤ maxLen) (h : AtomsAt w a l) (h' : StepsAt w a' m) (s0 : w.cell? ⟨S, 0, none⟩ = some (.slice a l.length cap)) (m0 : w.cell? ⟨M, 0, none⟩ = some (.slice a' m.length cap')) (m1 : w.cell? ⟨M, 1, none⟩ = some (.int .i64 d)) :
    Calls Tryz.prog 140 #[.int .i64 k, .pointer (some ⟨S, 0, none⟩), .pointer (some ⟨M, 0, none⟩)] w fun e w' => e = .returned (.bool (decide (ordM l[k].path l[k].clock m d > 0))) ∧ Below w.heap.size w w' := by
  rcases h with hs | ⟨ab, ao, rfl, hab, hc⟩
  · simp [hs] at hk
  obtain ⟨p, cp, c0, c1, c2, hst, hle, _⟩ := hc k hk
  have hi1 : (k : Int) < l.length := by omega
  generalize l[k].path = pk at *
  generalize l[k].clock = ck at *
  generalize l[k].sign = sk at *
  clear hc
  go_enter Tryz.func140, Tryz.ntmps140
  have k0 := cell_regrown c0
  have k1 := cell_regrown c1
  have k2 := cell_regrown c2
  have k3 := cell_regrown s0
  have k4 := cell_regrown m0
  have k5 := cell_regrown m1
  have S1 := hidE (fun d os => hst.below (below_regrown w d os) (Nat.le_refl _))
  have S2 := hidE (fun d os => h'.below (below_regrown w d os) (Nat.le_refl _))
  go_wp2_with fail
  refine wp_region_quiet_below (by kernel_rfl) (by kernel_rfl) ?_
  repeat (first | go_big_quiet_step ((go_at_call 61; exact Calls.regrown_of (order_any _ _ _ _ pk m _ _ _ hle hm (S1.out _ _) (S2.out _ _)))) | quiet_step ((go_at_call 61; exact Calls.regrown_of (order_any _ _ _ _ pk m _ _ _ hle hm (S1.out _ _) (S2.out _ _)))))
  refine wpQuiet_nil ?_
  intro _ hw'
  obtain ⟨⟨dq, osq⟩, hw''⟩ := hw'
  subst hw''
  go_wp2
  go_ret
  exact ⟨rfl, below_regrown _ _ _⟩

def CutC (l : List At) (m : List (Int × Int)) (d : Int) (i j : Nat) : Prop := (∀ t (h : t < l.length), t < i → ordM l[t].path l[t].clock m d ≤ 0) ∧ (∀ t (h : t < l.length), j ≤ t → 0 < ordM l[t].path l[t].clock m d)

set_option maxRecDepth 100000 in
set_option maxHeartbeats 2000000 in
theorem sortSearch_ok (S M : Nat) (a a' : Option Addr) (cap cap' : Nat) (l : List At) (m : List (Int × Int)) (d : Int) (w : World) (hok : OkL l) (hm : m.length ≤ maxLen) (h : AtomsAt w a l) (h' : StepsAt w a' m) (zS : S < w.heap.size) (zM : M < w.heap.size) (s0 : w.cell? ⟨S, 0, none⟩ = some (.slice a l.length cap)) (m0 : w.cell? ⟨M, 0, none⟩ = some (.slice a' m.length cap')) (m1 : w.cell? ⟨M, 1, none⟩ = some (.int .i64 d)) :
    Calls Tryz.prog 139 #[.int .i64 l.length, .func (.func 140) #[] #[.pointer (some ⟨S, 0, none⟩), .pointer (some ⟨M, 0, none⟩)]] w fun e w' => e = .returned (.int .i64 (caretN l m d)) ∧ Below w.heap.size w w' := by
  have HOK := hidE hok
  have hl : l.length ≤ 300 := hok.len
  clear hok
  go_enter Tryz.func139, Tryz.ntmps139
  go_wp2_with fail
  go_loopw [5, 6] (fun i j wr => ∃ x y : Nat, x ≤ y ∧ y ≤ l.length ∧ i = .int .i64 x ∧ j = .int .i64 y ∧ CutC l m d x y ∧ Below w.heap.size w wr) (fun i j _ => (intOf j).toNat - (intOf i).toNat)
  case atStart => exact ⟨0, l.length, Nat.zero_le _, Nat.le_refl _, rfl, rfl, ⟨fun t _ h => by omega, fun t h h' => by omega⟩, Below.refl _ _⟩
  case round =>
    obtain ⟨x, y, hxy, hy, rfl, rfl, hcut, hb⟩ := hrel
    have HCut := hidE hcut
    clear hcut
    by_cases hlt : x < y
    · have hi1 : (x : Int) < y := by omega
      have hh : (x + y) / 2 < l.length := by omega
      go_upto_region 4 with fail
      rw [show ((x : Int) + y) / 2 = (((x + y) / 2 : Nat) : Int) by omega]
      have hz1 : x ≤ (x + y) / 2 := by omega
      have hz2 : (x + y) / 2 < y := by omega
      generalize (x + y) / 2 = z at hz1 hz2 hh ⊢
      have HZ : Hid ((ordM l[z].path l[z].clock m d ≤ 0 → CutC l m d (z + 1) y) ∧ (0 < ordM l[z].path l[z].clock m d → CutC l m d x z)) := by
        refine ⟨fun h0 => ⟨fun t ht htz => ?_, HCut.out.2⟩, fun h0 => ⟨HCut.out.1, fun t ht htz => ?_⟩⟩
        · by_cases e : t = z
          · subst e; exact h0
          · have h1 := HOK.out.get hh (show t < z by omega)
            exact cmpA.le_le (c := ⟨m, d, 0⟩) (Int.le_of_lt h1) h0
        · by_cases e : t = z
          · subst e; exact h0
          · have h1 := HOK.out.get ht (show z < t by omega)
            rcases Int.lt_or_le 0 (ordM l[t].path l[t].clock m d) with hn | hn
            · exact hn
            · have := cmpA.lt_le (c := ⟨m, d, 0⟩) h1 hn
              have h4 : ordA l[z] ⟨m, d, 0⟩ = ordM l[z].path l[z].clock m d := rfl
              omega
      have s0' := (hb.cell (p := ⟨S, 0, none⟩) zS).trans s0
      have m0' := (hb.cell (p := ⟨M, 0, none⟩) zM).trans m0
      have m1' := (hb.cell (p := ⟨M, 1, none⟩) zM).trans m1
      have hc1 := caretAt1_any S M z a a' cap cap' l m d wr hh hm (h.below hb (Nat.le_refl _)) (h'.below hb (Nat.le_refl _)) s0' m0' m1'
      have HC1 := hidE hc1
      clear hc1
      by_cases ho : 0 < ordM l[z].path l[z].clock m d
      · have hd : decide (ordM l[z].path l[z].clock m d > 0) = true := decide_eq_true ho
        have HC2 := hidE (HZ.out.2 ho)
        clear HZ
        go_wp2_with (go_at_call 140; refine HC1.out.mono ?_; rintro e w2 ⟨rfl, hb2⟩; rw [hd])
        go_roundw
        case rel => exact ⟨x, z, by omega, by omega, rfl, rfl, HC2.out, hb.thru hb2 hb.size⟩
        case measure => simp [intOf]; omega
      · have hd : decide (ordM l[z].path l[z].clock m d > 0) = false := decide_eq_false ho
        have HC2 := hidE (HZ.out.1 (by omega))
        clear HZ
        go_wp2_with (go_at_call 140; refine HC1.out.mono ?_; rintro e w2 ⟨rfl, hb2⟩; rw [hd])
        go_roundw
        case rel => exact ⟨z + 1, y, by omega, hy, by go_num, rfl, HC2.out, hb.thru hb2 hb.size⟩
        case measure => simp [intOf]; omega
    · have hxe : x = y := by omega
      subst hxe
      have HF := hidE (caretN_cut hy HCut.out.1 HCut.out.2)
      go_wp2_with fail
      go_ret
      exact ⟨ret_int (by rw [HF.out]), hb⟩

set_option maxRecDepth 100000 in
set_option maxHeartbeats 4000000 in
theorem caretAt_any (a b a' : Option Addr) (cap cap' cp : Nat) (l : List At) (g : List (List (Int × Int) × Int)) (m : List (Int × Int)) (d : Int) (w : World) (hl : l.length ≤ maxLen) (hm : m.length ≤ maxLen) (h : AtomsAt w a l) (hG : MarksAt w b g) (h' : StepsAt w a' m) :
    Calls Tryz.prog 57 #[.agg #[.slice a l.length cap, .slice b g.length cap'], .agg #[.slice a' m.length cp, .int .i64 d]] w fun e w' => e = .returned (.tuple #[.int .i64 (atL l g m d).1, .int .i64 (atL l g m d).2]) ∧ Below w.heap.size w w' := by
  have hB := ((Below.refl w.heap.size w).alloc (Nat.le_refl _) (Obj.cells #[.slice a l.length cap, .slice b g.length cap'] 25)).alloc (by simp) (Obj.cells #[.slice a' m.length cp, .int .i64 d] 42)
  have q0 : ((w.alloc (Obj.cells #[.slice a l.length cap, .slice b g.length cap'] 25)).alloc (Obj.cells #[.slice a' m.length cp, .int .i64 d] 42)).cell? ⟨w.heap.size, 0, none⟩ = some (.slice a l.length cap) := by simp
  have q1 : ((w.alloc (Obj.cells #[.slice a l.length cap, .slice b g.length cap'] 25)).alloc (Obj.cells #[.slice a' m.length cp, .int .i64 d] 42)).cell? ⟨w.heap.size, 1, none⟩ = some (.slice b g.length cap') := by simp
  have m0 : ((w.alloc (Obj.cells #[.slice a l.length cap, .slice b g.length cap'] 25)).alloc (Obj.cells #[.slice a' m.length cp, .int .i64 d] 42)).cell? ⟨w.heap.size + 1, 0, none⟩ = some (.slice a' m.length cp) := by simp
  have m1 : ((w.alloc (Obj.cells #[.slice a l.length cap, .slice b g.length cap'] 25)).alloc (Obj.cells #[.slice a' m.length cp, .int .i64 d] 42)).cell? ⟨w.heap.size + 1, 1, none⟩ = some (.int .i64 d) := by simp
  have z : w.heap.size + 1 < ((w.alloc (Obj.cells #[.slice a l.length cap, .slice b g.length cap'] 25)).alloc (Obj.cells #[.slice a' m.length cp, .int .i64 d] 42)).heap.size := by simp
  replace h := h.below hB (Nat.le_refl _)
  replace hG := hG.below hB (Nat.le_refl _)
  replace h' := h'.below hB (Nat.le_refl _)
  go_enter Tryz.func57, Tryz.ntmps57
  go_upto_region 1 with fail
  generalize (w.alloc (Obj.cells #[.slice a l.length cap, .slice b g.length cap'] 25)).alloc (Obj.cells #[.slice a' m.length cp, .int .i64 d] 42) = W at hB q0 q1 m0 m1 z h hG h' ⊢
  generalize w.heap.size = Z at q0 q1 m0 m1 z
  have z0 : Z < W.heap.size := by omega
  go_wp2_with fail
  refine (stateCheck_any _ _ _ _ l g _ hl h hG).mono ?_
  rintro e w1 ⟨rfl, hb⟩
  replace q0 := (hb.cell (p := ⟨Z, 0, none⟩) z0).trans q0
  replace q1 := (hb.cell (p := ⟨Z, 1, none⟩) z0).trans q1
  replace m0 := (hb.cell (p := ⟨Z + 1, 0, none⟩) z).trans m0
  replace m1 := (hb.cell (p := ⟨Z + 1, 1, none⟩) z).trans m1
  replace z := Nat.lt_of_lt_of_le z hb.size
  replace z0 := Nat.lt_of_lt_of_le z0 hb.size
  replace h := h.below hb (Nat.le_refl _)
  replace h' := h'.below hb (Nat.le_refl _)
  replace hB := hB.thru hb hB.size
  clear hb hG
  by_cases hc : chkS l g = 0
  case neg =>
    have hcb : (chkS l g != 0) = true := by rw [bne_iff_ne]; exact hc
    have HA : Hid (atL l g m d = (0, chkS l g)) := by show _ = _; unfold atL; rw [if_pos hc]
    clear hc
    go_wp2_with fail
    go_ret2
    exact ⟨by rw [HA.out]; rfl, hB⟩
  have HOK := hidE (chkS_okL hc)
  have HA : Hid (atL l g m d = if m = [] ∧ d = 0 then (0, 0) else if chk m d ≠ 0 then (0, chk m d) else (caretN l m d, 0)) := by show _ = _; unfold atL; rw [if_neg (by simpa using hc)]
  rw [hc]
  clear hc
  by_cases hn : m = [] ∧ d = 0
  · obtain ⟨rfl, rfl⟩ := hn
    have HA2 : Hid (atL l g [] 0 = (0, 0)) := by show _ = _; rw [HA.out, if_pos ⟨rfl, rfl⟩]
    clear HA
    go_wp2_with fail
    go_ret2
    exact ⟨by rw [HA2.out]; rfl, hB⟩
  have HA2 : Hid (atL l g m d = if chk m d ≠ 0 then (0, chk m d) else (caretN l m d, 0)) := by show _ = _; rw [HA.out, if_neg hn]
  clear HA
  have HN := hidE hn
  clear hn
  by_cases he : m = []
  · subst he
    have hd0 : d ≠ 0 := fun e => HN.out ⟨rfl, e⟩
    have hd : (d == 0) = false := by simpa using hd0
    have hck : chk [] d ≠ 0 := by unfold chk; simp
    have hcb : (chk [] d != 0) = true := by rw [bne_iff_ne]; exact hck
    have HA3 : Hid (atL l g [] d = (0, chk [] d)) := by show _ = _; rw [HA2.out, if_pos hck]
    clear hck hd0 HA2
    go_wp2_with (go_at_call 60; refine (check_any _ _ [] _ _ (by decide) h').mono ?_; rintro e w2 ⟨rfl, hb⟩)
    go_ret2
    exact ⟨by rw [HA3.out]; rfl, hB.thru hb hB.size⟩
  have hlm : m.length ≠ 0 := fun e => he (List.length_eq_zero_iff.1 e)
  have hln : ((m.length : Int) == 0) = false := by rw [beq_eq_false_iff_ne]; omega
  clear he hlm
  by_cases hck : chk m d = 0
  case neg =>
    have hcb : (chk m d != 0) = true := by rw [bne_iff_ne]; exact hck
    have HA3 : Hid (atL l g m d = (0, chk m d)) := by show _ = _; rw [HA2.out, if_pos hck]
    clear hck HA2
    go_wp2_with (go_at_call 60; refine (check_any _ _ m _ _ hm h').mono ?_; rintro e w2 ⟨rfl, hb⟩)
    go_ret2
    exact ⟨by rw [HA3.out]; rfl, hB.thru hb hB.size⟩
  have HA3 : Hid (atL l g m d = (caretN l m d, 0)) := by show _ = _; rw [HA2.out, if_neg (by simpa using hck)]
  clear HA2
  have HCK := hidE hck
  clear hck
  go_wp2_with (go_at_call 60; refine (check_any _ _ m _ _ hm h').mono ?_; rintro e w2 ⟨rfl, hb⟩; rw [HCK.out]; replace q0 := (hb.cell (p := ⟨Z, 0, none⟩) z0).trans q0; replace m0 := (hb.cell (p := ⟨Z + 1, 0, none⟩) z).trans m0; replace m1 := (hb.cell (p := ⟨Z + 1, 1, none⟩) z).trans m1; replace z := Nat.lt_of_lt_of_le z hb.size; replace z0 := Nat.lt_of_lt_of_le z0 hb.size; replace h := h.below hb (Nat.le_refl _); replace h' := h'.below hb (Nat.le_refl _); replace hB := hB.thru hb hB.size)
  refine (sortSearch_ok Z (Z + 1) a a' cap cp l m d _ HOK.out hm h h' z0 z q0 m0 m1).mono ?_
  rintro e w3 ⟨rfl, hb3⟩
  go_wp2_with fail
  go_ret2
  exact ⟨by rw [HA3.out]; rfl, hB.thru hb3 hB.size⟩

set_option maxRecDepth 100000 in
set_option maxHeartbeats 4000000 in
theorem caretOf_anyS (a b : Option Addr) (cap cap' : Nat) (l : List At) (g : List (List (Int × Int) × Int)) (n : Int) (w : World) (hl : l.length ≤ maxLen) (h : AtomsAt w a l) (hG : MarksAt w b g) :
    Calls Tryz.prog 27 #[.agg #[.slice a l.length cap, .slice b g.length cap'], .int .i64 n] w fun e w' => ∃ p c, e = .returned (.tuple #[.agg #[.slice p (ofL l g n).1.length c, .int .i64 (ofL l g n).2.1], .int .i64 (ofL l g n).2.2]) ∧ StepsAt w' p (ofL l g n).1 ∧ Below w.heap.size w w' ∧ ShS w' w.heap.size p (ofL l g n).1.length := by
  have hB := ((Below.refl w.heap.size w).alloc (Nat.le_refl _) (Obj.cells #[.slice a l.length cap, .slice b g.length cap'] 25)).alloc (by simp) (Obj.cells #[.slice none 0 0, .int .i64 0] 42)
  have q0 : ((w.alloc (Obj.cells #[.slice a l.length cap, .slice b g.length cap'] 25)).alloc (Obj.cells #[.slice none 0 0, .int .i64 0] 42)).cell? ⟨w.heap.size, 0, none⟩ = some (.slice a l.length cap) := by simp
  have q1 : ((w.alloc (Obj.cells #[.slice a l.length cap, .slice b g.length cap'] 25)).alloc (Obj.cells #[.slice none 0 0, .int .i64 0] 42)).cell? ⟨w.heap.size, 1, none⟩ = some (.slice b g.length cap') := by simp
  have z : w.heap.size + 1 < ((w.alloc (Obj.cells #[.slice a l.length cap, .slice b g.length cap'] 25)).alloc (Obj.cells #[.slice none 0 0, .int .i64 0] 42)).heap.size := by simp
  have r0 : ((w.alloc (Obj.cells #[.slice a l.length cap, .slice b g.length cap'] 25)).alloc (Obj.cells #[.slice none 0 0, .int .i64 0] 42)).cell? ⟨w.heap.size + 1, 0, none⟩ = some (.slice none 0 0) := by simp
  have r1 : ((w.alloc (Obj.cells #[.slice a l.length cap, .slice b g.length cap'] 25)).alloc (Obj.cells #[.slice none 0 0, .int .i64 0] 42)).cell? ⟨w.heap.size + 1, 1, none⟩ = some (.int .i64 0) := by simp
  have rf : ∀ o, ((w.alloc (Obj.cells #[.slice a l.length cap, .slice b g.length cap'] 25)).alloc (Obj.cells #[.slice none 0 0, .int .i64 0] 42)).frozen? ⟨w.heap.size + 1, o, none⟩ = false := fun o => by go_simp
  replace h := h.below hB (Nat.le_refl _)
  replace hG := hG.below hB (Nat.le_refl _)
  go_enter Tryz.func27, Tryz.ntmps27
  go_upto_region 2 with fail
  generalize (w.alloc (Obj.cells #[.slice a l.length cap, .slice b g.length cap'] 25)).alloc (Obj.cells #[.slice none 0 0, .int .i64 0] 42) = W at hB q0 q1 z h hG r0 r1 rf ⊢
  generalize hZ : w.heap.size = Z at q0 q1 z r0 r1 rf
  have z0 : Z < W.heap.size := by omega
  go_wp2_with fail
  refine (stateCheck_any _ _ _ _ l g _ hl h hG).mono ?_
  rintro e w1 ⟨rfl, hb⟩
  replace q0 := (hb.cell (p := ⟨Z, 0, none⟩) z0).trans q0
  replace r0 := (hb.cell (p := ⟨Z + 1, 0, none⟩) z).trans r0
  replace r1 := (hb.cell (p := ⟨Z + 1, 1, none⟩) z).trans r1
  replace rf : ∀ o, w1.frozen? ⟨Z + 1, o, none⟩ = false := fun o => (hb.frozen (p := ⟨Z + 1, o, none⟩) z).trans (rf o)
  replace z := Nat.lt_of_lt_of_le z hb.size
  replace z0 := Nat.lt_of_lt_of_le z0 hb.size
  replace h := h.below hb (Nat.le_refl _)
  replace hB := hB.thru hb hB.size
  clear hb hG q1
  by_cases hc : chkS l g = 0
  case neg =>
    have hcb : (chkS l g != 0) = true := by rw [bne_iff_ne]; exact hc
    have HA : Hid (ofL l g n = ([], 0, chkS l g)) := by show _ = _; unfold ofL; rw [if_pos hc]
    clear hc
    go_wp2_with fail
    refine bodyPost_ret (v := .tuple #[.agg #[.slice none 0 0, .int .i64 0], .int .i64 (chkS l g)]) (by simp [results, Tryz.results27, go_sem, r0, r1]) rfl ?_
    exact ⟨none, 0, by rw [HA.out]; rfl, by rw [HA.out]; exact Or.inl rfl, (hB.setCell (by simp; omega) _).setCell (by simp; omega) _, by rw [HA.out]; exact Or.inl rfl⟩
  have HOK := hidE (chkS_okL hc)
  have hl3 := (chkS_okL hc).len
  have HA : Hid (ofL l g n = if n < 0 ∨ (l.length : Int) < n then ([], 0, (3 : Int)) else if n = 0 then ([], 0, (0 : Int)) else match l[n.toNat - 1]? with
    | none => ([], 0, 0)
    | some x => (x.path, x.clock, 0)) := by show _ = _; unfold ofL; rw [if_neg (by simpa using hc)]; rfl
  rw [hc]
  clear hc
  by_cases hr : n < 0 ∨ (l.length : Int) < n
  · have HA2 : Hid (ofL l g n = ([], 0, 3)) := by show _ = _; rw [HA.out, if_pos hr]
    clear HA
    by_cases h0 : n < 0
    · have hd0 : decide (n < 0) = true := decide_eq_true h0
      clear hr h0
      go_wp2_with fail
      refine bodyPost_ret (v := .tuple #[.agg #[.slice none 0 0, .int .i64 0], .int .i64 (3)]) (by simp [results, Tryz.results27, go_sem, r0, r1]) rfl ?_
      exact ⟨none, 0, by rw [HA2.out]; rfl, by rw [HA2.out]; exact Or.inl rfl, (hB.setCell (by simp; omega) _).setCell (by simp; omega) _, by rw [HA2.out]; exact Or.inl rfl⟩
    · have hd0 : decide (n < 0) = false := decide_eq_false h0
      have hd1 : decide (n > (l.length : Int)) = true := decide_eq_true (by omega)
      clear hr h0
      go_wp2_with fail
      refine bodyPost_ret (v := .tuple #[.agg #[.slice none 0 0, .int .i64 0], .int .i64 (3)]) (by simp [results, Tryz.results27, go_sem, r0, r1]) rfl ?_
      exact ⟨none, 0, by rw [HA2.out]; rfl, by rw [HA2.out]; exact Or.inl rfl, (hB.setCell (by simp; omega) _).setCell (by simp; omega) _, by rw [HA2.out]; exact Or.inl rfl⟩
  have hd0 : decide (n < 0) = false := decide_eq_false (by omega)
  have hd1 : decide (n > (l.length : Int)) = false := decide_eq_false (by omega)
  have HA1 : Hid (ofL l g n = if n = 0 then ([], 0, (0 : Int)) else match l[n.toNat - 1]? with
    | none => ([], 0, 0)
    | some x => (x.path, x.clock, 0)) := by show _ = _; rw [HA.out, if_neg hr]
  clear HA
  by_cases h0 : n = 0
  · subst h0
    have HA2 : Hid (ofL l g 0 = ([], 0, 0)) := by show _ = _; rw [HA1.out, if_pos rfl]
    clear HA1 hr
    go_wp2_with fail
    refine bodyPost_ret (v := .tuple #[.agg #[.slice none 0 0, .int .i64 0], .int .i64 (0)]) (by simp [results, Tryz.results27, go_sem, r0, r1]) rfl ?_
    exact ⟨none, 0, by rw [HA2.out]; rfl, by rw [HA2.out]; exact Or.inl rfl, (hB.setCell (by simp; omega) _).setCell (by simp; omega) _, by rw [HA2.out]; exact Or.inl rfl⟩
  obtain ⟨k, rfl⟩ : ∃ k : Nat, n = (k : Int) + 1 := ⟨n.toNat - 1, by omega⟩
  have hk : k < l.length := by omega
  have HA2 : Hid (ofL l g ((k : Int) + 1) = (l[k].path, l[k].clock, 0)) := by
    show _ = _
    rw [HA1.out, if_neg h0]
    have e : (((k : Int) + 1).toNat - 1) = k := by omega
    rw [e, List.getElem?_eq_getElem hk]
  have h01 : (((k : Int) + 1) == 0) = false := by rw [beq_eq_false_iff_ne]; exact h0
  have hpl := okPath HOK.out k hk
  rcases h with hs | ⟨ab, ao, rfl, hab, hcc⟩
  · simp [hs] at hk
  obtain ⟨p, cp, c0, c1, c2, hst, hle, _⟩ := hcc k hk
  have hw1 : IntKind.i64.wrap ((k : Int) + 1 - 1) = (k : Int) := by rw [IntKind.wrap_i64] <;> omega
  have hi1 : (k : Int) < l.length := by omega
  clear hcc HA1 hr h0
  obtain ⟨pb, po, rfl⟩ : ∃ pb po, p = some ⟨pb, po, none⟩ := by
    rcases hst with e | ⟨b, off, rfl, _⟩
    · rw [e] at hpl; simp at hpl
    · exact ⟨b, off, rfl⟩
  generalize l[k].path = pk at *
  generalize l[k].clock = ck at *
  generalize l[k].sign = sk at *
  go_wp2_with fail
  refine (freshMark_ok pb po _ cp pk ck _ rfl hle (by omega) hst).mono ?_
  rintro e w2 ⟨gg, cap2, rfl, hown, hb2⟩
  have r0' := (hb2.cell (p := ⟨Z + 1, 0, none⟩) z).trans r0
  have r1' := (hb2.cell (p := ⟨Z + 1, 1, none⟩) z).trans r1
  have rf' : ∀ o, w2.frozen? ⟨Z + 1, o, none⟩ = false := fun o => (hb2.frozen (p := ⟨Z + 1, o, none⟩) z).trans (rf o)
  have hgg : w1.heap.size ≤ gg := (hown.lt gg rfl).1
  have hB2 := hB.thru hb2 hB.size
  clear r0 r1 rf q0 c0 c1 c2 hst hb2
  go_wp2_with fail
  have s3 : (w2.setCell ⟨Z + 1, 0, none⟩ (.slice (some ⟨gg, 0, none⟩) pk.length cap2)).cell? ⟨Z + 1, 1, none⟩ = some (.int .i64 0) := (World.cell?_setCell_other _ _ _ _ (by simp)).trans r1'
  refine bodyPost_ret (v := .tuple #[.agg #[.slice (some ⟨gg, 0, none⟩) pk.length cap2, .int .i64 ck], .int .i64 0]) (by simp [results, Tryz.results27, go_sem, r0', s3]) rfl ?_
  have how := ownsRow_setCell_other (ownsRow_setCell_other hown (a := ⟨Z + 1, 0, none⟩) (by simp [Value.ownBlock]; omega) (.slice (some ⟨gg, 0, none⟩) pk.length cap2)) (a := ⟨Z + 1, 1, none⟩) (by simp [Value.ownBlock]; omega) (.int .i64 ck)
  refine ⟨some ⟨gg, 0, none⟩, cap2, by rw [HA2.out], ?_, (hB2.setCell (by simp; omega) _).setCell (by simp; omega) _, ?_⟩
  · rw [HA2.out]
    exact stepsAt_owns how rfl
  · rw [HA2.out]
    exact (ShS.own how rfl).mono hB.size

theorem caretOf_any (a b : Option Addr) (cap cap' : Nat) (l : List At) (g : List (List (Int × Int) × Int)) (n : Int) (w : World) (hl : l.length ≤ maxLen) (h : AtomsAt w a l) (hG : MarksAt w b g) :
    Calls Tryz.prog 27 #[.agg #[.slice a l.length cap, .slice b g.length cap'], .int .i64 n] w fun e w' => ∃ p c, e = .returned (.tuple #[.agg #[.slice p (ofL l g n).1.length c, .int .i64 (ofL l g n).2.1], .int .i64 (ofL l g n).2.2]) ∧ StepsAt w' p (ofL l g n).1 ∧ Below w.heap.size w w' :=
  (caretOf_anyS a b cap cap' l g n w hl h hG).mono fun _ _ ⟨p, c, e, h1, h2, _⟩ => ⟨p, c, e, h1, h2⟩
end Go.Proofs.YtnhjebdlcbhkcaeGreat
