/- The contract of RunCut. -/
import Derived.Test.YtcggeeejkgndmabRBeg
import Derived.Test.YtcggeeejkgndmabCutPu
import Derived.Test.YtcggeeejkgndmabBegun
namespace Go.Proofs.Ytcggeeejkgndmab
open Go.RowKit

theorem wpList_append_own_g {P : Program} {w : World} {ops : Array Oper} {rest : List Oper} {o : Oper} {a : Act} {Q : Exit → Act → World → Prop} (hw : Region.wanted o (yielded ops a.tmps) = true) (s x : Operand) (t : TypeId)
    (ho : o.op = .call { callee := .builtin .append, args := #[s, x], argTypes := #[t, t] })
    (base : Nat) (e : TypeId) (i : TypeInfo) (z : Value) (size bytes : Nat) (ht : P.underlying t = some (.slice e)) (hi : P.info? e = some i) (hz : i.zero = some z)
    (hsize : i.size = size) (hby : i.bytes = bytes) (hzs : z.cells.size = size) (hsz : 0 < size)
    (v : Value) (n : Nat) (xs : List Value) (hs : a.eval s = v) (hown : w.ownsRow base e size v n xs)
    (ad : Addr) (m c : Nat) (news : List Value) (hx : a.eval x = .slice (some ad) m c) (hl : news.length = m * size) (hnews : ∀ j u, news[j]? = some u → w.cell? (ad.add j) = some u) (h1 : ∀ u ∈ news, u.oneCell' = true)
    (h63 : n + m ≤ maxLen) (hbytes : (n + m) * bytes ≤ 140737488355328) (hbase : base ≤ w.heap.size)
    (h : ∀ v' w', w'.ownsRow base e size v' (n + m) (xs ++ news) → w.grownBy w' v.ownBlock → wpList P ops Q rest (a.put o.dst v') w') : wpList P ops Q (o :: rest) a w :=
  BigFrame.wpList_want hw fun _ hK => wp_append_own w s x t ho base e i z size bytes ht hi hz hsize hby hzs hsz v n xs hs hown ad m c news hx hl hnews h1 h63 hbytes hbase fun v' w' h2 h3 _ => hK _ _ (h v' w' h2 h3)

theorem PickRow.append2 {w w' : World} {base : Nat} {v v' : Value} {xs ys : List At} {rs qs : List Raw} (hl : rs.length = xs.length) (hown : w.ownsRow base 69 3 v xs.length (flatR rs)) (hr : ∀ i (h : i < xs.length) (h' : i < rs.length), PickRaw w base rs[i] xs[i]) (hl2 : qs.length = ys.length) (hr2 : ∀ i (h : i < ys.length) (h' : i < qs.length), PickRaw w base qs[i] ys[i]) (hg : w.grownBy w' v.ownBlock) (h : w'.ownsRow base 69 3 v' (xs.length + ys.length) (flatR rs ++ flatR qs)) :
    PickRow w' base v' (xs ++ ys) := by
  refine ⟨rs ++ qs, by simp [hl, hl2], ?_, fun i hi hi' => ?_⟩
  · rw [flatR_append, List.length_append]; exact h
  · by_cases e : i < xs.length
    · rw [List.getElem_append_left (by omega), List.getElem_append_left e]
      exact (hr i e (by omega)).kept hg (fun g cap _ ho => types_ne ho hown)
    · have hi2 : i < xs.length + ys.length := by simpa using hi
      rw [List.getElem_append_right (by omega), List.getElem_append_right (by omega)]
      have := hr2 (i - xs.length) (by omega) (by omega)
      simp only [hl]
      exact this.kept hg (fun g cap _ ho => types_ne ho hown)

theorem chkRun_of {l : List (Int × Int)} {c : Int} {t : ByteArray} (ok : OkRun l c t) : chkRun l c t = 0 := by
  have h1 := ok.len0
  have h2 := ok.len
  have h3 := ok.each (t.size - 1) (by omega)
  unfold chkRun
  rw [if_neg (by have := ok.mark; omega), if_neg (by omega), if_neg (by omega), if_neg (by rw [ok.signs]; decide)]
  unfold nxt
  rw [if_neg (by have := ok.mark; omega), if_neg (by omega)]
  rw [show ((t.size : Int) - 1) = ((t.size - 1 : Nat) : Int) by omega, if_neg (by omega)]

theorem allS_extract {t : ByteArray} (h : allS t.data.toList = true) (a b : Nat) : allS (t.extract a b).data.toList = true := by
  unfold allS at h ⊢
  rw [List.all_eq_true] at h ⊢
  intro x hx
  apply h
  rw [ByteArray.data_extract] at hx
  simp only [Array.toList_extract, List.extract_eq_take_drop] at hx
  exact List.mem_of_mem_drop (List.mem_of_mem_take hx)

theorem okRun_left {l : List (Int × Int)} {c : Int} {t : ByteArray} (ok : OkRun l c t) {k : Nat} (h1 : 1 ≤ k) (hk : k < t.size) : OkRun l c (t.extract 0 k) := by
  have s1 := extract_size t 0 k (by omega)
  have := ok.len
  exact ⟨ok.mark, by omega, by omega, allS_extract ok.signs _ _, fun i hi => ok.each i (by omega)⟩

theorem okRun_right {l : List (Int × Int)} {c : Int} {t : ByteArray} (ok : OkRun l c t) {k : Nat} (h1 : 1 ≤ k) (hk : k < t.size) : OkRun (bump l k) (c + k) (t.extract k t.size) := by
  have s1 := extract_size t k t.size (Nat.le_refl _)
  have := ok.len
  refine ⟨ok.each k hk, by omega, by omega, allS_extract ok.signs _ _, fun i hi => ?_⟩
  have h2 := ok.each (k + i) (by omega)
  rw [bump_bump (chk_ok ok.mark).1]
  rw [show ((k + i : Nat) : Int) = (k : Int) + i by omega] at h2
  rw [Int.add_assoc]
  exact h2

set_option maxRecDepth 100000 in
set_option maxHeartbeats 8000000 in
theorem runCut_bad (a : Option Addr) (cap : Nat) (l : List (Int × Int)) (c : Int) (t : ByteArray) (n : Int) (w : World) (hl : l.length ≤ maxLen) (ht : t.size ≤ maxLen) (hs : StepsAt w a l) (hv : chkRun l c t ≠ 0) :
    Calls Try.prog 5 #[.agg #[.slice a l.length cap, .int .i64 c, .string t], .int .i64 n] w fun e w' => e = .returned (.bool true) ∧ Below w.heap.size w w' := by
  have hx : (chkRun l c t != 0) = true := bne_iff_ne.2 hv
  have HV := hidE hv
  clear hv
  have hB := (Below.refl w.heap.size w).alloc (Nat.le_refl _) (Obj.cells #[.slice a l.length cap, .int .i64 c, .string t] 26)
  go_enter Try.func5, Try.ntmps5
  go_wp2_with fail
  refine (runAtoms_bad _ _ l c t _ hl ht (hs.below hB (Nat.le_refl _)) HV.out).mono ?_
  rintro e w1 ⟨rfl, hb⟩
  replace hB := hB.thru hb hB.size
  clear hb
  go_wp2_with fail
  refine (runBegun_true _).mono ?_
  rintro e w2 ⟨rfl, hb⟩
  replace hB := hB.thru hb hB.size
  clear hb
  go_wp2_with fail
  refine (markBegun_true _).mono ?_
  rintro e w3 ⟨rfl, hb⟩
  replace hB := hB.thru hb hB.size
  clear hb
  go_wp2_with fail
  go_ret
  exact ⟨rfl, hB⟩

set_option maxRecDepth 100000 in
set_option maxHeartbeats 40000000 in
theorem runCut_ok (a : Option Addr) (cap : Nat) (l : List (Int × Int)) (c : Int) (t : ByteArray) (n : Int) (w : World) (hs : StepsAt w a l) (hv : chkRun l c t = 0) :
    Calls Try.prog 5 #[.agg #[.slice a l.length cap, .int .i64 c, .string t], .int .i64 n] w fun e w' => e = .returned (.bool true) ∧ Below w.heap.size w w' := by
  have ok := okRun_of hv
  have hl0 := (chk_ok ok.mark).1
  have hl10 := (chk_ok ok.mark).2.1
  have ht60 := ok.len
  have HV := hidE hv
  have HOK := hidE ok
  have HONE := hidE (atomsR_one ok)
  have HCK := hidE (okL_chk (atomsR_ok ok))
  have hal : (atomsR l c t).length = t.size := atomsR_len l c t
  have HAL := hidE hal
  clear hv ok hal
  have hml : ∀ n, n ≤ 300 → n ≤ maxLen := fun n h => by unfold maxLen; omega
  have hB := (Below.refl w.heap.size w).alloc (Nat.le_refl _) (Obj.cells #[.slice a l.length cap, .int .i64 c, .string t] 26)
  have q0 : (w.alloc (Obj.cells #[.slice a l.length cap, .int .i64 c, .string t] 26)).cell? ⟨w.heap.size, 0, none⟩ = some (.slice a l.length cap) := by simp
  have q1 : (w.alloc (Obj.cells #[.slice a l.length cap, .int .i64 c, .string t] 26)).cell? ⟨w.heap.size, 1, none⟩ = some (.int .i64 c) := by simp
  have q2 : (w.alloc (Obj.cells #[.slice a l.length cap, .int .i64 c, .string t] 26)).cell? ⟨w.heap.size, 2, none⟩ = some (.string t) := by simp
  have z : w.heap.size < (w.alloc (Obj.cells #[.slice a l.length cap, .int .i64 c, .string t] 26)).heap.size := by simp
  replace hs := hs.below hB (Nat.le_refl _)
  go_enter Try.func5, Try.ntmps5
  go_upto_region 1 with fail
  generalize w.alloc (Obj.cells #[.slice a l.length cap, .int .i64 c, .string t] 26) = W at hB q0 q1 q2 z hs ⊢
  generalize w.heap.size = Z at q0 q1 q2 z
  go_wp2_with fail
  refine (runAtoms_ok _ _ l c t _ hs HV.out).mono ?_
  rintro e w1 ⟨pA, kA, rfl, HA, hrowA, hb⟩
  have hkA : (atomsR l c t).length ≤ kA ∧ kA ≤ maxLen := by
    obtain ⟨_, _, ho, _⟩ := hrowA
    rcases ho.2 with ⟨h, _⟩ | ⟨g, cp, cur, h, _, _, h1, h2, _⟩
    · simp at h; rw [h.2.2, h.2.1]; exact ⟨Nat.le_refl _, Nat.zero_le _⟩
    · simp at h; rw [h.2]; exact ⟨h1, h2⟩
  clear hrowA
  replace q0 := (hb.cell (p := ⟨Z, 0, none⟩) z).trans q0
  replace q1 := (hb.cell (p := ⟨Z, 1, none⟩) z).trans q1
  replace q2 := (hb.cell (p := ⟨Z, 2, none⟩) z).trans q2
  replace z := Nat.lt_of_lt_of_le z hb.size
  replace hs := hs.below hb (Nat.le_refl _)
  replace hB := hB.thru hb hB.size
  clear hb
  go_wp2_with fail
  refine (runBegun_true _).mono ?_
  rintro e w2 ⟨rfl, hb⟩
  replace q0 := (hb.cell (p := ⟨Z, 0, none⟩) z).trans q0
  replace q1 := (hb.cell (p := ⟨Z, 1, none⟩) z).trans q1
  replace q2 := (hb.cell (p := ⟨Z, 2, none⟩) z).trans q2
  replace z := Nat.lt_of_lt_of_le z hb.size
  replace hs := hs.below hb (Nat.le_refl _)
  replace HA := HA.below hb (Nat.le_refl _)
  replace hB := hB.thru hb hB.size
  clear hb
  go_wp2_with fail
  refine (markBegun_true _).mono ?_
  rintro e w3 ⟨rfl, hb⟩
  replace q0 := (hb.cell (p := ⟨Z, 0, none⟩) z).trans q0
  replace q1 := (hb.cell (p := ⟨Z, 1, none⟩) z).trans q1
  replace q2 := (hb.cell (p := ⟨Z, 2, none⟩) z).trans q2
  replace z := Nat.lt_of_lt_of_le z hb.size
  replace hs := hs.below hb (Nat.le_refl _)
  replace HA := HA.below hb (Nat.le_refl _)
  replace hB := hB.thru hb hB.size
  clear hb
  go_wp2_with fail
  have hrn := runs_ok _ _ (atomsR l c t) _ hkA.1 hkA.2 HA HCK.out
  rw [HONE.out] at hrn
  refine hrn.mono ?_
  clear hrn
  rintro e w4 ⟨pR, kR, rfl, HR, _, hb⟩
  replace q0 := (hb.cell (p := ⟨Z, 0, none⟩) z).trans q0
  replace q1 := (hb.cell (p := ⟨Z, 1, none⟩) z).trans q1
  replace q2 := (hb.cell (p := ⟨Z, 2, none⟩) z).trans q2
  replace z := Nat.lt_of_lt_of_le z hb.size
  replace hs := hs.below hb (Nat.le_refl _)
  replace HA := HA.below hb (Nat.le_refl _)
  replace hB := hB.thru hb hB.size
  clear hb
  rcases HR with e | ⟨rb, ro, rfl, hrb, hc⟩
  · simp at e
  obtain ⟨p, cp, c0, c1, c2, hst, hle, _⟩ := hc 0 (by simp)
  simp only [Nat.zero_mul, Nat.add_zero, List.getElem_cons_zero] at c0 c1 c2 hst hle
  clear hc
  rw [show [(⟨l, c, t⟩ : Rn)].length = 1 from rfl]
  have k0 := cell_regrown c0
  have k1 := cell_regrown c1
  have k2 := cell_regrown c2
  have k3 := cell_regrown q0
  have k4 := cell_regrown q1
  have k5 := cell_regrown q2
  have S1 := hidE (fun d os => hst.below (below_regrown w4 d os) (Nat.le_refl _))
  have S2 := hidE (fun d os => hs.below (below_regrown w4 d os) (Nat.le_refl _))
  clear c0 c1 c2
  go_upto_region 7 with fail
  refine wp_region_quiet_below (by kernel_rfl) (by kernel_rfl) ?_
  repeat (first | go_big_quiet_step ((go_at_call 23; exact Calls.regrown_of (sameRun_true _ _ _ _ ⟨l, c, t⟩ _ hle (S1.out _ _) (S2.out _ _)))) | quiet_step ((go_at_call 23; exact Calls.regrown_of (sameRun_true _ _ _ _ ⟨l, c, t⟩ _ hle (S1.out _ _) (S2.out _ _)))))
  refine wpQuiet_nil ?_
  intro W5 hw'
  obtain ⟨⟨dq, osq⟩, hw''⟩ := hw'
  have hb : Below w4.heap.size w4 W5 := by rw [hw'']; exact below_regrown w4 dq osq
  clear hw'' k0 k1 k2 k3 k4 k5 S1 S2
  replace q0 := (hb.cell (p := ⟨Z, 0, none⟩) z).trans q0
  replace q1 := (hb.cell (p := ⟨Z, 1, none⟩) z).trans q1
  replace q2 := (hb.cell (p := ⟨Z, 2, none⟩) z).trans q2
  replace z := Nat.lt_of_lt_of_le z hb.size
  replace hs := hs.below hb (Nat.le_refl _)
  replace HA := HA.below hb (Nat.le_refl _)
  replace hB := hB.thru hb hB.size
  clear hb
  by_cases n1 : n < 1
  · have hd : decide (n < 1) = true := decide_eq_true n1
    go_wp2_with fail
    go_ret
    exact ⟨rfl, hB⟩
  have hd1 : decide (n < 1) = false := decide_eq_false n1
  by_cases n2 : (t.size : Int) ≤ n
  · have hd : decide (n ≥ (t.size : Int)) = true := decide_eq_true n2
    go_wp2_with fail
    go_ret
    exact ⟨rfl, hB⟩
  have hd2 : decide (n ≥ (t.size : Int)) = false := decide_eq_false n2
  obtain ⟨k, rfl⟩ := Int.eq_ofNat_of_zero_le (show 0 ≤ n by omega)
  have hk1 : 1 ≤ k := by omega
  have hkt : k < t.size := by omega
  obtain ⟨b, off, rfl⟩ : ∃ b off, a = some ⟨b, off, none⟩ := by
    rcases hs with e | ⟨b, off, rfl, _⟩
    · rw [e] at hl0; simp at hl0
    · exact ⟨b, off, rfl⟩
  go_wp2_with fail
  refine (next_own b off _ l c k _ hs HOK.out.mark (by omega) (by omega) (HOK.out.each k hkt)).mono ?_
  rintro e w6 ⟨g, cap2, rfl, hownM, hb⟩
  replace q0 := (hb.cell (p := ⟨Z, 0, none⟩) z).trans q0
  replace q1 := (hb.cell (p := ⟨Z, 1, none⟩) z).trans q1
  replace q2 := (hb.cell (p := ⟨Z, 2, none⟩) z).trans q2
  replace z := Nat.lt_of_lt_of_le z hb.size
  replace hs := hs.below hb (Nat.le_refl _)
  replace HA := HA.below hb (Nat.le_refl _)
  replace hB := hB.thru hb hB.size
  clear hb
  have hbM := (Below.refl w6.heap.size w6).alloc (Nat.le_refl _) (Obj.cells #[.slice (some ⟨g, 0, none⟩) l.length cap2, .int .i64 (c + k)] 24)
  have m0 : (w6.alloc (Obj.cells #[.slice (some ⟨g, 0, none⟩) l.length cap2, .int .i64 (c + k)] 24)).cell? ⟨w6.heap.size, 0, none⟩ = some (.slice (some ⟨g, 0, none⟩) l.length cap2) := by simp
  have m1 : (w6.alloc (Obj.cells #[.slice (some ⟨g, 0, none⟩) l.length cap2, .int .i64 (c + k)] 24)).cell? ⟨w6.heap.size, 1, none⟩ = some (.int .i64 (c + k)) := by simp
  have zM : w6.heap.size < (w6.alloc (Obj.cells #[.slice (some ⟨g, 0, none⟩) l.length cap2, .int .i64 (c + k)] 24)).heap.size := by simp
  replace hownM := owns_below hownM hbM
  replace q0 := (hbM.cell (p := ⟨Z, 0, none⟩) z).trans q0
  replace q1 := (hbM.cell (p := ⟨Z, 1, none⟩) z).trans q1
  replace q2 := (hbM.cell (p := ⟨Z, 2, none⟩) z).trans q2
  replace z := Nat.lt_of_lt_of_le z hbM.size
  replace hs := hs.below hbM (Nat.le_refl _)
  replace HA := HA.below hbM (Nat.le_refl _)
  replace hB := hB.thru hbM hB.size
  go_upto_region 14 with fail
  generalize w6.alloc (Obj.cells #[.slice (some ⟨g, 0, none⟩) l.length cap2, .int .i64 (c + k)] 24) = W7 at hbM m0 m1 zM hownM q0 q1 q2 z hs HA hB ⊢
  generalize w6.heap.size = M at m0 m1 zM
  clear hbM
  have hBd : Below W7.heap.size W7 W7.drew := (Below.refl _ _).drew
  have hk2 : (k : Int) ≤ (t.size : Int) := by omega
  have HL1 := hidE (chkRun_of (okRun_left HOK.out hk1 hkt))
  have HR1 := hidE (chkRun_of (okRun_right HOK.out hk1 hkt))
  go_region_held_law (fun w' => w'.cell? ⟨Z, 0, none⟩ = some (.slice (some ⟨b, off, none⟩) l.length cap) ∧ w'.cell? ⟨Z, 1, none⟩ = some (.int .i64 c) ∧ w'.cell? ⟨Z, 2, none⟩ = some (.string t))
    (first | exact ⟨q0, q1, q2⟩ | exact ⟨t0, t1, t2⟩)
    ((go_at_call 9; refine (runAtoms_ok _ _ l c (t.extract 0 k) _ (hs.below hBd (Nat.le_refl _)) HL1.out).mono ?_; rintro e w8 ⟨pB, kB, rfl, _, hrowB, hb8⟩; have hb8' : Below W7.heap.size W7 w8 := hBd.thru hb8 (Nat.le_refl _); have t0 := (hb8'.cell (p := ⟨Z, 0, none⟩) z).trans q0; have t1 := (hb8'.cell (p := ⟨Z, 1, none⟩) z).trans q1; have t2 := (hb8'.cell (p := ⟨Z, 2, none⟩) z).trans q2))
  have y0 := (hb8'.cell (p := ⟨M, 0, none⟩) zM).trans m0
  have y1 := (hb8'.cell (p := ⟨M, 1, none⟩) zM).trans m1
  have zM8 := Nat.lt_of_lt_of_le zM hb8'.size
  have z8 := Nat.lt_of_lt_of_le z hb8'.size
  have hsM : StepsAt w8 (some ⟨g, 0, none⟩) (bump l k) := stepsAt_owns (owns_below hownM hb8') (bump_len l k).symm
  have hB7 : W7.heap.size ≤ w8.heap.size := hb8'.size
  have HLB := hidE (bump_len l k)
  clear hs hownM m0 m1 q0 q1 q2 t0 t1
  have hBd8 : Below w8.heap.size w8 w8.drew := (Below.refl _ _).drew
  have hra := runAtoms_ok (some ⟨g, 0, none⟩) cap2 (bump l k) (c + k) (t.extract k t.size) w8.drew (hsM.below hBd8 (Nat.le_refl _)) HR1.out
  rw [HLB.out] at hra
  have HRA := hidE hra
  clear hra
  go_upto_region 15 with fail
  go_region_held_law (fun w' => w'.cell? ⟨M, 0, none⟩ = some (.slice (some ⟨g, 0, none⟩) l.length cap2) ∧ w'.cell? ⟨M, 1, none⟩ = some (.int .i64 (c + k)) ∧ w'.cell? ⟨Z, 2, none⟩ = some (.string t))
    (first | exact ⟨y0, y1, t2⟩ | exact ⟨u0', u1', u2'⟩)
    ((go_at_call 9; refine HRA.out.mono ?_; rintro e w9 ⟨pC, kC, rfl, _, hrowC, hb9⟩; have hb9' : Below w8.heap.size w8 w9 := hBd8.thru hb9 (Nat.le_refl _); have u0' := (hb9'.cell (p := ⟨M, 0, none⟩) zM8).trans y0; have u1' := (hb9'.cell (p := ⟨M, 1, none⟩) zM8).trans y1; have u2' := (hb9'.cell (p := ⟨Z, 2, none⟩) z8).trans t2))
  have hrowB9 := (hrowB.below hb9').mono (show W7.heap.size ≤ W7.heap.size from Nat.le_refl _)
  have hrowC9 := hrowC.mono hB7
  have hb79 := hb8'.thru hb9' hb8'.size
  have hlB : (atomsR l c (t.extract 0 k)).length = k := by rw [atomsR_len, extract_size t 0 k (by omega)]; omega
  have hlC : (atomsR (bump l k) (c + k) (t.extract k t.size)).length = t.size - k := by rw [atomsR_len, extract_size t k t.size (Nat.le_refl _)]
  have HCUT := hidE (atomsR_cut (l := l) (c := c) (t := t) hl0 (show k ≤ t.size by omega))
  have h1B : 1 ≤ (atomsR l c (t.extract 0 k)).length := by omega
  have h2B : (atomsR l c (t.extract 0 k)).length ≤ 60 := by omega
  have h1C : 1 ≤ (atomsR (bump l k) (c + k) (t.extract k t.size)).length := by omega
  have h2C : (atomsR (bump l k) (c + k) (t.extract k t.size)).length ≤ 60 := by omega
  clear hlB hlC HRA HL1 HR1
  generalize atomsR l c (t.extract 0 k) = xB at *
  generalize atomsR (bump l k) (c + k) (t.extract k t.size) = xC at *
  obtain ⟨rB, lB, ownB, rrB⟩ := hrowB9
  obtain ⟨rC, lC, ownC, rrC⟩ := hrowC9
  obtain ⟨gB, kB', hvB⟩ := owns_form ownB (by omega)
  obtain ⟨rfl, rfl⟩ : pB = some ⟨gB, 0, none⟩ ∧ kB = kB' := by simpa using hvB
  obtain ⟨gC, kC', hvC⟩ := owns_form ownC (by omega)
  obtain ⟨rfl, rfl⟩ : pC = some ⟨gC, 0, none⟩ ∧ kC = kC' := by simpa using hvC
  clear hvB hvC
  obtain ⟨i0, hi0, hz0, hz1, hz2⟩ := Try.info69
  have own0 : (w9.alloc (.cells #[] 69)).ownsRow W7.heap.size 69 3 (.slice (some ⟨w9.heap.size, 0, none⟩) 0 0) 0 (flatR []) := ⟨rfl, Or.inr ⟨w9.heap.size, 0, #[], rfl, Nat.le_trans hB7 hb9'.size, heap_new _ _, Nat.le_refl _, Nat.zero_le _, rfl, rfl⟩⟩
  have hbN : Below w9.heap.size w9 (w9.alloc (.cells #[] 69)) := (Below.refl _ _).alloc (Nat.le_refl _) _
  have ownB0 := owns_below ownB hbN
  have ownC0 := owns_below ownC hbN
  have rrB0 : ∀ i (h : i < xB.length) (h' : i < rB.length), PickRaw (w9.alloc (.cells #[] 69)) W7.heap.size rB[i] xB[i] := fun i h h' => (rrB i h h').below hbN
  have rrC0 : ∀ i (h : i < xC.length) (h' : i < rC.length), PickRaw (w9.alloc (.cells #[] 69)) W7.heap.size rC[i] xC[i] := fun i h h' => (rrC i h h').below hbN
  have gClt : gC < w9.heap.size := by
    rcases ownC.2 with ⟨hc, _⟩ | ⟨g1, c1, cur, e1, _, hg1, _⟩
    · simp at hc
    · simp at e1; rw [e1.1]; exact (Array.getElem?_eq_some_iff.1 hg1).1
  have hWN : W7.heap.size ≤ (w9.alloc (.cells #[] 69)).heap.size := Nat.le_trans (Nat.le_trans hB7 hb9'.size) hbN.size
  have lenB : (flatR rB).length = xB.length * 3 := ownB.1
  have lenC : (flatR rC).length = xC.length * 3 := ownC.1
  clear rrB rrC ownB ownC
  have hmx : 60 + 60 ≤ maxLen := by unfold maxLen; omega
  go_upto_region 16 with fail
  go_wp2_with (at_builtin; refine wpList_append_own_g ?qa0 (.tmp 94) (.tmp 95) 27 rfl W7.heap.size 69 i0 (.agg #[.slice none 0 0, .int .i64 0, .int .u8 0]) 3 40 Try.underlying27 hi0 hz0 hz1 hz2 rfl (by decide) _ _ _ rfl own0 ⟨gB, 0, none⟩ xB.length kB (flatR rB) rfl lenB ?qa2 (flatR_one rB) ?qa4 ?qa5 hWN ?_)
  case qa2 => exact fun j u hj => ownB0.cells (g := gB) rfl j u hj
  case qa4 => omega
  case qa5 => omega
  intro v1 w10 own1 gr1
  have P1 : PickRow w10 W7.heap.size v1 xB := PickRow.append2 (rs := []) (xs := []) rfl own0 (fun i h => absurd h (by simp)) lB rrB0 gr1 (by rw [show ([] : List At).length + xB.length = xB.length from Nat.zero_add _]; exact own1)
  have ownC1 := ownC0.kept gr1 (Or.inr (by simp [Value.ownBlock]; omega))
  have rrC1 : ∀ i (h : i < xC.length) (h' : i < rC.length), PickRaw w10 W7.heap.size rC[i] xC[i] := fun i h h' => (rrC0 i h h').kept gr1 (fun g cap _ ho => types_ne ho own0)
  have hb70 : Below W7.heap.size W7 w10 := (hb79.thru hbN hb79.size).grown gr1 hWN (fun j hj => by have := hb79.size; simp [Value.ownBlock] at hj; omega)
  have hWN1 : W7.heap.size ≤ w10.heap.size := Nat.le_trans hWN gr1.size
  clear gr1 own1 ownC0 rrC0 rrB0 ownB0 own0
  obtain ⟨rs1, hl1, own1, rr1⟩ := P1
  go_wp2_with (at_builtin; refine wpList_append_own_g ?qb0 (.tmp 96) (.tmp 97) 27 rfl W7.heap.size 69 i0 (.agg #[.slice none 0 0, .int .i64 0, .int .u8 0]) 3 40 Try.underlying27 hi0 hz0 hz1 hz2 rfl (by decide) _ _ _ rfl own1 ⟨gC, 0, none⟩ xC.length kC (flatR rC) rfl lenC ?qb2 (flatR_one rC) ?qb4 ?qb5 hWN1 ?_)
  case qb2 => exact fun j u hj => ownC1.cells (g := gC) rfl j u hj
  case qb4 => omega
  case qb5 => omega
  intro v2 w11 own2 gr2
  have P2 : PickRow w11 W7.heap.size v2 (xB ++ xC) := PickRow.append2 hl1 own1 rr1 lC rrC1 gr2 own2
  have hb71 : Below W7.heap.size W7 w11 := hb70.grown gr2 hWN1 (fun j hj => (own1.lt j hj).1)
  rw [HCUT.out] at P2
  have HA2 := HA.below hb71 (Nat.le_refl _)
  have hB2 := hB.thru hb71 hB.size
  obtain ⟨pD, kD, rfl, hat, _⟩ := P2.owns.atoms (Below.refl _ _)
  have hln : (atomsR l c t).length ≤ maxLen := by rw [HAL.out]; exact hml _ (by omega)
  go_wp2_with (go_at_call 21; refine (sameAtoms_any _ _ _ _ (atomsR l c t) (atomsR l c t) _ hln hln hat HA2).mono ?_; rintro e w12 ⟨rfl, hb12⟩; rw [sameL_refl])
  go_ret
  exact ⟨rfl, hB2.thru hb12 hB2.size⟩

theorem runCut_true (a : Option Addr) (cap : Nat) (l : List (Int × Int)) (c : Int) (t : ByteArray) (n : Int) (w : World) (hl : l.length ≤ maxLen) (ht : t.size ≤ maxLen) (hs : StepsAt w a l) :
    Calls Try.prog 5 #[.agg #[.slice a l.length cap, .int .i64 c, .string t], .int .i64 n] w fun e w' => e = .returned (.bool true) ∧ Below w.heap.size w w' := by
  by_cases hv : chkRun l c t = 0
  · exact runCut_ok a cap l c t n w hs hv
  · exact runCut_bad a cap l c t n w hl ht hs hv
end Go.Proofs.Ytcggeeejkgndmab
