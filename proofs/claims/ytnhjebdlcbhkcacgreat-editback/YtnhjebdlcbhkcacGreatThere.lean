/- What Between gives is what IsBetween asks. No Go text is walked here. -/
import Derived.Test.YtnhjebdlcbhkcacGreatPlain
import Derived.Test.YtnhjebdlcbhkcacGreatAtomCk
namespace Go.Proofs.YtnhjebdlcbhkcacGreat

theorem lastS_snoc (pl : List (Int × Int)) (x : Int × Int) : lastS (pl ++ [x]) = x := by
  rw [lastS_eq (by simp)]
  simp

theorem okSteps_append {l m : List (Int × Int)} (hl : okSteps l = true) (hm : okSteps m = true) : okSteps (l ++ m) = true := by
  unfold okSteps at *; rw [List.all_append, hl, hm]; rfl
theorem okSteps_beg {l : List (Int × Int)} (h : okSteps l = true) (n : Nat) : okSteps (beg l n) = true := by
  unfold beg
  refine okSteps_append ?_ ?_
  · unfold okSteps at *
    rw [List.all_eq_true] at h ⊢
    exact fun x hx => h x (List.mem_of_mem_take hx)
  · unfold okSteps
    rw [List.all_eq_true]
    intro x hx
    rw [List.eq_of_mem_replicate hx]; rfl

theorem chkEnd_pos {l : List (Int × Int)} {c : Int} (h : chkEnd l c = 0) (hn : ¬ (l.length = 0 ∧ c = 0)) : chk l c = 0 := by
  unfold chkEnd at h; rwa [if_neg hn] at h
theorem ends_both {l m : List (Int × Int)} {c d : Int} (h : ends l c m d = 0) : chkEnd l c = 0 ∧ chkEnd m d = 0 := by
  unfold ends orI at h
  split at h
  · rename_i h1; exact ⟨h1, h⟩
  · rename_i h1; exact absurd h h1

theorem btwErr_zero {la lb : List (Int × Int)} {ca cb site clock many : Int} (h : btwErr la ca lb cb site clock many = 0) :
    ends la ca lb cb = 0 ∧ argsOk site clock many = true ∧ stateBad la lb = false ∧ la.length ≤ 8 ∧ lb.length ≤ 8 := by
  unfold btwErr at h
  split at h
  · rename_i e; exact absurd h e
  · rename_i e1
    split at h
    · omega
    · rename_i e2
      split at h
      · omega
      · rename_i e3
        split at h
        · omega
        · refine ⟨by omega, by simpa using e2, by simpa using e3, by omega, by omega⟩

theorem ordP_neg {la lb : List (Int × Int)} (h : stateBad la lb = false) (hb : 0 < lb.length) : ordP la lb = -1 := by
  cases la with
  | nil =>
    cases lb with
    | nil => simp at hb
    | cons t lb => rfl
  | cons s la =>
    have := cmpP.vals (s :: la) lb
    have h2 : ¬ 0 ≤ ordP (s :: la) lb := by
      intro e
      unfold stateBad at h
      rw [decide_eq_true hb, decide_eq_true e] at h
      simp at h
    omega

theorem rowOf_get (pl : List (Int × Int)) (r site clock : Int) (many i : Nat) (h : i < (rowOf pl r site clock many).length) : (rowOf pl r site clock many)[i] = (pl ++ [(r + i, site)], clock + i) := by
  simp [rowOf]
theorem rowOf_length (pl : List (Int × Int)) (r site clock : Int) (many : Nat) : (rowOf pl r site clock many).length = many := by simp [rowOf]

theorem btw_all {la lb pl : List (Int × Int)} {ca cb site clock r : Int} {many : Nat} (h : btwErr la ca lb cb site clock many = 0) (hc : Cand la lb pl) (h1 : gapLow pl la site ≤ r) (h2 : r + many ≤ gapHigh pl lb site + 1) :
    ∀ i (hi : i < (rowOf pl r site clock many).length), BtwAt la ca lb cb site clock many (rowOf pl r site clock many) i hi := by
  obtain ⟨he, ha, hs, l8, l8'⟩ := btwErr_zero h
  obtain ⟨oa, ob⟩ := ends_ok he
  obtain ⟨ea, eb⟩ := ends_both he
  obtain ⟨s1, s2, c1, c2, m1, m2⟩ := argsOk_iff ha
  have lo := gapLow_bd pl site oa
  have hi' := gapHigh_bd pl site ob
  have opl : okSteps pl = true := by
    rcases hc with ⟨n, _, rfl⟩ | ⟨n, _, rfl⟩
    · exact okSteps_beg oa n
    · exact okSteps_beg ob n
  have hpl : pl.length ≤ max la.length lb.length := by
    rcases hc with ⟨n, hn, rfl⟩ | ⟨n, hn, rfl⟩
    · rw [beg_length]; exact hn
    · rw [beg_length]; omega
  intro i hi
  have him : i < many := by rwa [rowOf_length] at hi
  have hd1 : gapLow pl la site ≤ r + i := by omega
  have hd2 : r + i ≤ gapHigh pl lb site := by omega
  refine ⟨?_, ?_, ?_, ?_, ?_, ?_, ?_⟩
  · rw [rowOf_get]
    show chk (pl ++ [(r + i, site)]) (clock + i) = 0
    unfold chk
    rw [if_neg (by simp; omega), if_neg (by simp), lastS_snoc, okSteps_append opl (by simp [okSteps, okStep, inB]; omega), if_pos (by simp [inB]; omega)]
  · rw [rowOf_get]
  · rw [rowOf_get]; show (lastS (pl ++ [(r + i, site)])).2 = site; rw [lastS_snoc]
  · rw [rowOf_get]
    show (((pl ++ [(r + (i : Int), site)]).length : Nat) : Int) ≤ _
    unfold deepOf
    simp only [List.length_append, List.length_cons, List.length_nil]
    split <;> omega
  · intro hi0
    rw [rowOf_get, rowOf_get]
    refine ordM_of ?_
    rw [ordP_same]
    refine ordP_one _ _ (ordS_of (Or.inl ?_))
    show r + ((i - 1 : Nat) : Int) < r + i
    omega
  · intro hn
    rw [rowOf_get]
    have hla := chk_ok (chkEnd_pos ea hn)
    refine ordM_of ?_
    show ordP la (pl ++ [(r + i, site)]) = -1
    rcases hc with ⟨n, hn, rfl⟩ | ⟨n, hn, rfl⟩
    · by_cases hnl : n < la.length
      · rw [beg_in (by omega)] at *
        refine above_cut hnl ?_
        have hcut : cutB (la.take n) la = true := decide_eq_true ⟨by simp; omega, by simp [Nat.min_eq_left (Nat.le_of_lt hnl)]⟩
        rw [gapLow_in (n := n) (by simp; omega) hnl site hcut] at hd1
        omega
      · exact above_long (by omega)
    · rw [beg_in (by omega)] at *
      by_cases hcut : n < la.length ∧ la.take n = lb.take n
      · obtain ⟨k1, k2⟩ := hcut
        rw [← k2] at hd1 ⊢
        refine above_cut k1 ?_
        have hcut' : cutB (la.take n) la = true := decide_eq_true ⟨by simp; omega, by simp [Nat.min_eq_left (Nat.le_of_lt k1)]⟩
        rw [gapLow_in (n := n) (by simp; omega) k1 site hcut'] at hd1
        omega
      · exact above_other (ordP_neg hs (by omega)) hcut
  · intro hn
    rw [rowOf_get]
    have hlb := chk_ok (chkEnd_pos eb hn)
    refine ordM_of ?_
    show ordP (pl ++ [(r + i, site)]) lb = -1
    have hneg := ordP_neg hs hlb.1
    have key : ∀ n, n < lb.length → lb.take n = pl → ordP (pl ++ [(r + i, site)]) lb = -1 := by
      intro n hnl e
      subst e
      refine below_cut hnl ?_
      have hcut' : cutB (lb.take n) lb = true := decide_eq_true ⟨by simp; omega, by simp [Nat.min_eq_left (Nat.le_of_lt hnl)]⟩
      rw [gapHigh_in (n := n) (by simp; omega) hnl site hcut'] at hd2
      exact hd2
    rcases hc with ⟨n, hn, rfl⟩ | ⟨n, hn, rfl⟩
    · by_cases hcut : n < lb.length ∧ lb.take n = beg la n
      · exact key n hcut.1 hcut.2
      · exact below_beg hneg hn ob hlb.2.2.2.1 hcut
    · exact key n hn (beg_in (by omega)).symm
end Go.Proofs.YtnhjebdlcbhkcacGreat

namespace Go.Proofs.YtnhjebdlcbhkcacGreat
open Go.RowKit

/-- the place where a mark is looked for -/
def Cut (l : List At) (m : List (Int × Int)) (d : Int) (i j : Nat) : Prop := (∀ t (h : t < l.length), t < i → ordM l[t].path l[t].clock m d < 0) ∧ (∀ t (h : t < l.length), j ≤ t → 0 ≤ ordM l[t].path l[t].clock m d)
/-- the atoms stand so that a mark parts them -/
def Parts (l : List At) (m : List (Int × Int)) (d : Int) : Prop := ∀ s t (h : t < l.length) (hs : s < t), ordM l[t].path l[t].clock m d < 0 → ordM (l[s]'(by omega)).path (l[s]'(by omega)).clock m d < 0

/-- has one of the atoms this mark? -/
def hasMk (l : List At) (p : List (Int × Int)) (c : Int) : Bool := l.any fun x => ordM x.path x.clock p c == 0

theorem cmpA : Cmp ordA := ⟨fun a b => cmpM.anti (a.path, a.clock) (b.path, b.clock), fun a b => cmpM.vals (a.path, a.clock) (b.path, b.clock), fun a b c => cmpM.eqv (a.path, a.clock) (b.path, b.clock) (c.path, c.clock), fun a b c => cmpM.trans (a.path, a.clock) (b.path, b.clock) (c.path, c.clock)⟩

theorem ordA_trans {a b c : At} (h : ordA a b < 0) (h' : ordA b c < 0) : ordA a c < 0 := by
  have h1 := cmpA.vals a b; have h2 := cmpA.vals b c
  have := cmpA.trans a b c (by omega) (by omega)
  omega

theorem chkFrom_ok : ∀ (l : List At) (prev : Option At), chkFrom prev l = 0 → (∀ x ∈ l, chk x.path x.clock = 0 ∧ isSignB x.sign = true) ∧ l.Pairwise (fun x y => ordA x y < 0) ∧ ∀ y, prev = some y → ∀ x ∈ l, ordA y x < 0
  | [], _, _ => ⟨fun x h => by simp at h, List.Pairwise.nil, fun _ _ x h => by simp at h⟩
  | x :: l, prev, h => by
    rw [chkFrom_cons] at h
    by_cases h1 : chkAt prev x ≠ 0
    · rw [if_pos h1] at h; exact absurd h h1
    rw [if_neg h1] at h
    have h2 : chkAt prev x = 0 := by omega
    obtain ⟨a1, a2, a3⟩ := chkFrom_ok l (some x) h
    unfold chkAt at h2
    by_cases c1 : chk x.path x.clock ≠ 0
    · rw [if_pos c1] at h2; exact absurd h2 c1
    rw [if_neg c1] at h2
    by_cases c2 : isSignB x.sign = false
    · rw [if_pos c2] at h2; exact absurd h2 (by decide)
    rw [if_neg c2] at h2
    refine ⟨?_, List.Pairwise.cons (a3 x rfl) a2, ?_⟩
    · intro y hy
      rcases List.mem_cons.1 hy with rfl | hy
      · exact ⟨by omega, by simpa using c2⟩
      · exact a1 y hy
    · intro y hy z hz
      subst hy
      have hyx : ordA y x < 0 := by
        simp only at h2
        split at h2
        · exact absurd h2 (by decide)
        · omega
      rcases List.mem_cons.1 hz with rfl | hz
      · exact hyx
      · exact ordA_trans hyx (a3 x rfl z hz)

/-- what Check lets through -/
structure OkL (l : List At) : Prop where
  len : l.length ≤ 300
  each : ∀ x ∈ l, chk x.path x.clock = 0 ∧ isSignB x.sign = true
  rise : l.Pairwise (fun x y => ordA x y < 0)

theorem okL_of {l : List At} (h : chkL l = 0) : OkL l := by
  unfold chkL at h
  by_cases e : 300 < l.length
  · rw [if_pos e] at h; exact absurd h (by decide)
  rw [if_neg e] at h
  have := chkFrom_ok l none h
  exact ⟨by omega, this.1, this.2.1⟩

theorem OkL.get {l : List At} (h : OkL l) {i j : Nat} (hj : j < l.length) (hij : i < j) : ordA (l[i]'(by omega)) l[j] < 0 := List.pairwise_iff_getElem.1 h.rise i j (by omega) hj hij

theorem parts_of {l : List At} (h : OkL l) (m : List (Int × Int)) (d : Int) : Parts l m d := by
  intro s t ht hs hn
  exact ordA_trans (c := ⟨m, d, 0⟩) (h.get ht hs) hn

theorem okPath {l : List At} (h : OkL l) : ∀ i (h : i < l.length), 0 < l[i].path.length ∧ l[i].path.length ≤ 10 := by
  intro i hi
  obtain ⟨h1, h2, _⟩ := chk_ok (h.each l[i] (List.getElem_mem hi)).1
  exact ⟨by omega, h2⟩

theorem gone_found {l : List At} (hok : OkL l) {m : List (Int × Int)} {d : Int} {i : Nat} (hi : i < l.length) (hc : Cut l m d i i) (h0 : ordM l[i].path l[i].clock m d = 0) {j : Nat} (hj : j < l.length) : (ordM l[j].path l[j].clock m d == 0) = decide (j = i) := by
  by_cases e : j = i
  · subst e; rw [h0]; simp
  · rw [show decide (j = i) = false from by simpa using e, beq_eq_false_iff_ne]
    rcases Nat.lt_or_gt_of_ne e with hlt | hgt
    · have := hc.1 j hj hlt; omega
    · have h1 := hok.get hj hgt
      have h2 := cmpA.eqv' l[j] l[i] ⟨m, d, 0⟩ h0
      have h3 := cmpA.anti l[j] l[i]
      have h4 : ordA l[j] ⟨m, d, 0⟩ = ordM l[j].path l[j].clock m d := rfl
      omega

theorem gone_none {l : List At} (hok : OkL l) {m : List (Int × Int)} {d : Int} {i : Nat} (hc : Cut l m d i i) (hn : ¬ ∃ h : i < l.length, ordM l[i].path l[i].clock m d = 0) {j : Nat} (hj : j < l.length) : (ordM l[j].path l[j].clock m d == 0) = false := by
  rw [beq_eq_false_iff_ne]
  intro h0
  rcases Nat.lt_or_ge j i with hlt | hge
  · have := hc.1 j hj hlt; omega
  · have hi : i < l.length := by omega
    by_cases e : i = j
    · subst e; exact hn ⟨hi, h0⟩
    · have h1 := hok.get hj (show i < j by omega)
      have h2 := cmpA.eqv' l[i] l[j] ⟨m, d, 0⟩ h0
      have h4 : ordA l[i] ⟨m, d, 0⟩ = ordM l[i].path l[i].clock m d := rfl
      have h5 := hc.2 i hi (Nat.le_refl _)
      omega

end Go.Proofs.YtnhjebdlcbhkcacGreat

namespace Go.Proofs.YtnhjebdlcbhkcacGreat
open Go.RowKit

set_option maxHeartbeats 1000000 in
theorem there1_any (a a' : Option Addr) (cap cap' : Nat) (l m : List (Int × Int)) (c d s : Int) (w : World) (hl : l.length ≤ maxLen) (hm : m.length ≤ maxLen) (h : StepsAt w a l) (h' : StepsAt w a' m) :
    Calls Tryz.prog 88 #[.agg #[.slice a l.length cap, .int .i64 c, .int .u8 s], .agg #[.slice a' m.length cap', .int .i64 d]] w fun e w' => e = .returned (.int .i64 (ordM l c m d)) ∧ Below w.heap.size w w' := by
  have hb0 : Below w.heap.size w ((w.alloc (Obj.cells #[.slice a l.length cap, .int .i64 c, .int .u8 s] 66)).alloc (Obj.cells #[.slice a' m.length cap', .int .i64 d] 46)) := ((Below.refl _ _).alloc (Nat.le_refl _) _).alloc (by simp) _
  go_enter Tryz.func88, Tryz.ntmps88
  go_wp2_with (go_at_call 46; refine (order_any _ _ _ _ l m _ _ _ hl hm (by exact h.below hb0 (Nat.le_refl _)) (by exact h'.below hb0 (Nat.le_refl _))).mono ?_; rintro e w' ⟨rfl, hb⟩)
  go_ret
  exact ⟨rfl, hb0.thru hb hb0.size⟩

set_option maxRecDepth 100000 in
set_option maxHeartbeats 2000000 in
theorem searchT_any (a a' : Option Addr) (cap cap' : Nat) (l : List At) (m : List (Int × Int)) (d : Int) (w : World) (hl : l.length ≤ 1000) (hm : m.length ≤ maxLen) (h : AtomsAt w a l) (h' : StepsAt w a' m) (hp : Parts l m d) :
    Calls Tryz.prog 87 #[.slice a l.length cap, .agg #[.slice a' m.length cap', .int .i64 d], .func (.func 88) #[] #[]] w fun e w' => ∃ i : Nat, i ≤ l.length ∧ Cut l m d i i ∧ ∃ f : Bool, e = .returned (.tuple #[.int .i64 i, .bool f]) ∧ (f = true ↔ ∃ h : i < l.length, ordM l[i].path l[i].clock m d = 0) ∧ Below w.heap.size w w' := by
  have HP := hidE hp
  clear hp
  go_enter Tryz.func87, Tryz.ntmps87
  go_upto_region 1 with fail
  have hbA : Below w.heap.size w (w.alloc (Obj.cells #[.slice a' m.length cap', .int .i64 d] 46)) := (Below.refl _ _).alloc (Nat.le_refl _) _
  have q0 : (w.alloc (Obj.cells #[.slice a' m.length cap', .int .i64 d] 46)).cell? ⟨w.heap.size, 0, none⟩ = some (.slice a' m.length cap') := by simp
  have q1 : (w.alloc (Obj.cells #[.slice a' m.length cap', .int .i64 d] 46)).cell? ⟨w.heap.size, 1, none⟩ = some (.int .i64 d) := by simp
  have z1 : w.heap.size < (w.alloc (Obj.cells #[.slice a' m.length cap', .int .i64 d] 46)).heap.size := by simp
  generalize w.alloc (Obj.cells #[.slice a' m.length cap', .int .i64 d] 46) = w1 at hbA q0 q1 z1 ⊢
  go_wp2_with fail
  go_loopw [9, 10] (fun i j wr => ∃ x y : Nat, x ≤ y ∧ y ≤ l.length ∧ i = .int .i64 x ∧ j = .int .i64 y ∧ Cut l m d x y ∧ Below w1.heap.size w1 wr) (fun i j _ => (intOf j).toNat - (intOf i).toNat)
  case atStart => exact ⟨0, l.length, Nat.zero_le _, Nat.le_refl _, rfl, rfl, ⟨fun t _ h => by omega, fun t h h' => by omega⟩, Below.refl _ _⟩
  case round =>
    obtain ⟨x, y, hxy, hy, rfl, rfl, hcut, hb⟩ := hrel
    have HCut := hidE hcut
    clear hcut
    have hbW := hbA.thru hb hbA.size
    by_cases hlt : x < y
    · have hi1 : (x : Int) < y := by omega
      have hh : (x + y) / 2 < l.length := by omega
      go_upto_region 5 with fail
      rw [show ((x : Int) + y) / 2 = (((x + y) / 2 : Nat) : Int) by omega]
      have hz1 : x ≤ (x + y) / 2 := by omega
      have hz2 : (x + y) / 2 < y := by omega
      generalize (x + y) / 2 = z at hz1 hz2 hh ⊢
      rcases h.below hbW (Nat.le_refl _) with hs | ⟨ab, ao, rfl, hab, hc⟩
      · simp [hs] at hh
      obtain ⟨p, cp, c0, c1, c2, hst, hle, _⟩ := hc z hh
      have hi2 : (z : Int) < l.length := by omega
      have HZ : Hid (∀ o, o = ordM l[z].path l[z].clock m d → (o < 0 → Cut l m d (z + 1) y) ∧ (0 ≤ o → Cut l m d x z)) := by
        intro o ho
        subst ho
        refine ⟨fun h0 => ⟨fun t ht htz => ?_, HCut.out.2⟩, fun h0 => ⟨HCut.out.1, fun t ht htz => ?_⟩⟩
        · by_cases e : t = z
          · subst e; exact h0
          · exact HP.out t z hh (by omega) h0
        · by_cases e : t = z
          · subst e; exact h0
          · rcases Int.lt_or_le (ordM l[t].path l[t].clock m d) 0 with hn | hn
            · have := HP.out z t ht (by omega) hn
              omega
            · exact hn
      generalize l[z].path = pk at *
      generalize l[z].clock = ck at *
      generalize l[z].sign = sk at *
      have k0 := cell_regrown c0
      have k1 := cell_regrown c1
      have k2 := cell_regrown c2
      have k3 := cell_regrown ((hb.cell (p := ⟨w.heap.size, 0, none⟩) z1).trans q0)
      have k4 := cell_regrown ((hb.cell (p := ⟨w.heap.size, 1, none⟩) z1).trans q1)
      have S1 := hidE (fun d os => hst.below (below_regrown wr d os) (Nat.le_refl _))
      have S2 := hidE (fun d os => (h'.below hbW (Nat.le_refl _)).below (below_regrown wr d os) (Nat.le_refl _))
      clear hc h hst h'
      refine wp_region_quiet_below (by kernel_rfl) (by kernel_rfl) ?_
      repeat (first | go_big_quiet_step ((go_at_call 88; exact Calls.regrown_of (there1_any _ _ _ _ pk m _ _ _ _ hle hm (S1.out _ _) (S2.out _ _)))) | quiet_step ((go_at_call 88; exact Calls.regrown_of (there1_any _ _ _ _ pk m _ _ _ _ hle hm (S1.out _ _) (S2.out _ _)))))
      refine wpQuiet_nil ?_
      intro _ hw'
      obtain ⟨⟨dq, osq⟩, hw''⟩ := hw'
      subst hw''
      obtain ⟨HZ1, HZ2⟩ := HZ.out _ rfl
      by_cases ho : ordM pk ck m d < 0
      · have HC2 := hidE (HZ1 ho)
        clear HZ1 HZ2
        go_wp2
        go_roundw
        case rel => exact ⟨z + 1, y, by omega, hy, by go_num, rfl, HC2.out, hb.thru (below_regrown _ _ _) hb.size⟩
        case measure => simp [intOf]; omega
      · have HC2 := hidE (HZ2 (by omega))
        clear HZ1 HZ2
        go_wp2
        go_roundw
        case rel => exact ⟨x, z, by omega, by omega, rfl, rfl, HC2.out, hb.thru (below_regrown _ _ _) hb.size⟩
        case measure => simp [intOf]; omega
    · have hxe : x = y := by omega
      subst hxe
      by_cases hlen : x < l.length
      · rcases h.below hbW (Nat.le_refl _) with hs | ⟨ab, ao, rfl, hab, hc⟩
        · simp [hs] at hlen
        obtain ⟨p, cp, c0, c1, c2, hst, hle, _⟩ := hc x hlen
        have HO : Hid (∃ o, o = ordM l[x].path l[x].clock m d) := ⟨_, rfl⟩
        have HE : Hid ((∃ h : x < l.length, ordM l[x].path l[x].clock m d = 0) ↔ ordM l[x].path l[x].clock m d = 0) := by
          constructor
          · rintro ⟨_, h⟩; exact h
          · intro h; exact ⟨hlen, h⟩
        have hi1 : decide ((x : Int) < l.length) = true := by simpa using hlen
        have hi2 : (x : Int) < l.length := by omega
        generalize hpk : l[x].path = pk at *
        generalize hck : l[x].clock = ck at *
        generalize l[x].sign = sk at *
        have HPK := hidE hpk
        have HCK := hidE hck
        have k0 := cell_regrown c0
        have k1 := cell_regrown c1
        have k2 := cell_regrown c2
        have k3 := cell_regrown ((hb.cell (p := ⟨w.heap.size, 0, none⟩) z1).trans q0)
        have k4 := cell_regrown ((hb.cell (p := ⟨w.heap.size, 1, none⟩) z1).trans q1)
        have S1 := hidE (fun d os => hst.below (below_regrown wr d os) (Nat.le_refl _))
        have S2 := hidE (fun d os => (h'.below hbW (Nat.le_refl _)).below (below_regrown wr d os) (Nat.le_refl _))
        clear hc h hst h' hpk hck
        go_wp2_with fail
        refine wp_region_quiet_below (by kernel_rfl) (by kernel_rfl) ?_
        repeat (first | go_big_quiet_step ((go_at_call 88; exact Calls.regrown_of (there1_any _ _ _ _ pk m _ _ _ _ hle hm (S1.out _ _) (S2.out _ _)))) | quiet_step ((go_at_call 88; exact Calls.regrown_of (there1_any _ _ _ _ pk m _ _ _ _ hle hm (S1.out _ _) (S2.out _ _)))))
        refine wpQuiet_nil ?_
        intro _ hw'
        obtain ⟨⟨dq, osq⟩, hw''⟩ := hw'
        subst hw''
        go_wp2
        refine bodyPost_ret (v := .tuple #[.int .i64 x, .bool (ordM pk ck m d == 0)]) (by simp [results, Tryz.results87, go_sem]) rfl ?_
        refine ⟨x, by omega, HCut.out, _, rfl, ?_, hbW.thru (below_regrown _ _ _) hbW.size⟩
        rw [beq_iff_eq]
        constructor
        · intro e; exact ⟨hlen, by rw [HPK.out, HCK.out]; exact e⟩
        · rintro ⟨_, e⟩; rw [HPK.out, HCK.out] at e; exact e
      · have hi1 : decide ((x : Int) < l.length) = false := by simpa using hlen
        have HN : Hid ((false = true) ↔ ∃ h : x < l.length, ordM l[x].path l[x].clock m d = 0) := by
          constructor
          · intro h; cases h
          · rintro ⟨h, _⟩; exact absurd h hlen
        go_wp2_with fail
        refine wp_region_quiet_below (by kernel_rfl) (by kernel_rfl) ?_
        repeat (first | go_big_quiet_step (fail) | quiet_step (fail))
        refine wpQuiet_nil ?_
        intro _ hw'
        obtain ⟨⟨dq, osq⟩, hw''⟩ := hw'
        subst hw''
        go_wp2
        refine bodyPost_ret (v := .tuple #[.int .i64 x, .bool false]) (by simp [results, Tryz.results87, go_sem]) rfl ?_
        exact ⟨x, by omega, HCut.out, _, rfl, HN.out, hbW.thru (below_regrown _ _ _) hbW.size⟩
end Go.Proofs.YtnhjebdlcbhkcacGreat

namespace Go.Proofs.YtnhjebdlcbhkcacGreat
open Go.RowKit

theorem found_has {l : List At} (hok : OkL l) {m : List (Int × Int)} {d : Int} {i : Nat} {f : Bool} (hc : Cut l m d i i) (hf : f = true ↔ ∃ h : i < l.length, ordM l[i].path l[i].clock m d = 0) : f = hasMk l m d := by
  cases f with
  | true =>
    obtain ⟨h, h0⟩ := hf.1 rfl
    symm
    unfold hasMk
    rw [List.any_eq_true]
    exact ⟨l[i], List.getElem_mem h, by simpa using h0⟩
  | false =>
    have hn : ¬ ∃ h : i < l.length, ordM l[i].path l[i].clock m d = 0 := fun h => by simpa using hf.2 h
    symm
    unfold hasMk
    rw [List.any_eq_false]
    intro x hx
    obtain ⟨j, hj, rfl⟩ := List.getElem_of_mem hx
    rw [gone_none hok hc hn hj]
    decide

set_option maxRecDepth 100000 in
set_option maxHeartbeats 2000000 in
theorem isThere_ok (a a' : Option Addr) (cap cap' : Nat) (l : List At) (m : List (Int × Int)) (d : Int) (w : World) (hok : OkL l) (hm : m.length ≤ maxLen) (h : AtomsAt w a l) (h' : StepsAt w a' m) :
    Calls Tryz.prog 47 #[.slice a l.length cap, .agg #[.slice a' m.length cap', .int .i64 d]] w fun e w' => e = .returned (.bool (hasMk l m d)) ∧ Below w.heap.size w w' := by
  have hb1 : Below w.heap.size w (w.alloc (Obj.cells #[.slice a' m.length cap', .int .i64 d] 46)) := (Below.refl _ _).alloc (Nat.le_refl _) _
  have HP := hidE (parts_of hok m d)
  have HOK := hidE hok
  have hl : l.length ≤ 1000 := by have := hok.len; omega
  clear hok
  go_enter Tryz.func47, Tryz.ntmps47
  go_wp2_with fail
  refine (searchT_any _ _ _ _ l m _ _ hl hm (h.below hb1 (Nat.le_refl _)) (h'.below hb1 (Nat.le_refl _)) HP.out).mono ?_
  rintro e w2 ⟨i, hi, hc, f, rfl, hf, hb⟩
  have HFH := hidE (found_has HOK.out hc hf)
  clear hc hf
  go_wp2_with fail
  go_ret
  exact ⟨by rw [← HFH.out]; rfl, hb1.thru hb hb1.size⟩
end Go.Proofs.YtnhjebdlcbhkcacGreat
