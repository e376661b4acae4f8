/- Proved: MarkTells returns true whatever marks and number it is handed, and its arguments read as before. No condition. -/
import Derived.Test.YtkmiafhkilhohaaNextOf
import Derived.Test.YtkmiafhkilhohaaOpenM
namespace Go.Proofs.Ytkmiafhkilhohaa
open Go.ChangeShapes Go.WideShapes Go.ChangeAt Go.RowKit Go.Deep Go.Joins

theorem nxt_len {l : List (Int × Int)} (c n : Int) (hl : l.length ≤ maxLen) : (nxt l c n).1.length ≤ maxLen := by
  rcases nxt_cases l c n with ⟨e, _, hx⟩ | ⟨_, _, _, _, hx⟩
  · rw [hx]; simp
  · rw [hx, bump_length]; exact hl

set_option maxRecDepth 100000 in
set_option maxHeartbeats 2000000 in
theorem markTells_true (a b : Option Addr) (ka kb : Nat) (la lb : List (Int × Int)) (ca cb n : Int) (w : World) (hla : la.length ≤ maxLen) (hlb : lb.length ≤ maxLen) (ha : StepsAt w a la) (hb : StepsAt w b lb) :
    Calls Try.prog 3 #[.agg #[.slice a la.length ka, .int .i64 ca], .agg #[.slice b lb.length kb, .int .i64 cb], .int .i64 n] w fun e w' => e = .returned (.bool true) ∧ Below w.heap.size w w' := by
  obtain ⟨q0, q1, q2, q3, hz, hb0⟩ := boxes2 w (.slice a la.length ka) (.int .i64 ca) (.slice b lb.length kb) (.int .i64 cb) 24 24
  have HH : Holds ((w.alloc (Obj.cells #[.slice a la.length ka, .int .i64 ca] 24)).alloc (Obj.cells #[.slice b lb.length kb, .int .i64 cb] 24)) [(w.heap.size, 0, .slice a la.length ka), (w.heap.size, 1, .int .i64 ca), (w.heap.size + 1, 0, .slice b lb.length kb), (w.heap.size + 1, 1, .int .i64 cb)] := by
    simp only [holds_cons, holds_nil]
    exact ⟨holds_at q0, holds_at q1, holds_at q2, holds_at q3, trivial⟩
  clear q0 q1 q2 q3 hz
  have hnl := nxt_len ca n hla
  go_enter Try.func3, Try.ntmps3
  go_upto_region 1 with fail
  generalize (w.alloc (Obj.cells #[.slice a la.length ka, .int .i64 ca] 24)).alloc (Obj.cells #[.slice b lb.length kb, .int .i64 cb] 24) = W at HH hb0 ⊢
  have X := HH
  simp only [holds_cons, holds_nil] at X
  obtain ⟨⟨_, p0⟩, ⟨_, p1⟩, ⟨_, p2⟩, ⟨_, p3⟩, _⟩ := X
  go_wp2_with fail
  refine (next_any _ _ la _ _ _ hla (ha.below hb0 (Nat.le_refl _))).mono ?_
  rintro e w1 ⟨na, nc, rfl, hsN, hb1⟩
  generalize hx : nxt la ca n = nx at hsN hnl ⊢
  have HX := hidE hx
  obtain ⟨nl, ncl, ne⟩ := nx
  simp only at hsN hnl ⊢
  clear hx
  have hb2 : Below W.heap.size W (w1.alloc (Obj.cells #[.slice na nl.length nc, .int .i64 ncl] 24)) := hb1.alloc hb1.size _
  have n0 : (w1.alloc (Obj.cells #[.slice na nl.length nc, .int .i64 ncl] 24)).cell? ⟨w1.heap.size, 0, none⟩ = some (.slice na nl.length nc) := by go_simp
  have n1 : (w1.alloc (Obj.cells #[.slice na nl.length nc, .int .i64 ncl] 24)).cell? ⟨w1.heap.size, 1, none⟩ = some (.int .i64 ncl) := by go_simp
  have hsN2 := hsN.below ((Below.refl _ w1).alloc (Nat.le_refl _) (Obj.cells #[.slice na nl.length nc, .int .i64 ncl] 24)) (Nat.le_refl _)
  have HH2 : Holds (w1.alloc (Obj.cells #[.slice na nl.length nc, .int .i64 ncl] 24)) [(w.heap.size, 0, .slice a la.length ka), (w.heap.size, 1, .int .i64 ca), (w.heap.size + 1, 0, .slice b lb.length kb), (w.heap.size + 1, 1, .int .i64 cb), (w1.heap.size, 0, .slice na nl.length nc), (w1.heap.size, 1, .int .i64 ncl)] := by
    have X := HH.below hb2 (Nat.le_refl _)
    simp only [holds_cons, holds_nil] at X ⊢
    obtain ⟨x0, x1, x2, x3, _⟩ := X
    exact ⟨x0, x1, x2, x3, holds_at n0, holds_at n1, trivial⟩
  replace hb0 := hb0.thru hb2 hb0.size
  clear HH hb1 hb2 hsN n0 n1 p0 p1 p2 p3
  go_upto_region 2 with fail
  generalize w1.alloc (Obj.cells #[.slice na nl.length nc, .int .i64 ncl] 24) = U at HH2 hb0 hsN2 ⊢
  have X := HH2
  simp only [holds_cons, holds_nil] at X
  obtain ⟨⟨_, p0⟩, ⟨_, p1⟩, ⟨_, p2⟩, ⟨_, p3⟩, ⟨_, p4⟩, ⟨_, p5⟩, _⟩ := X
  go_wp2_with fail
  refine (nextOf_any _ _ la _ _ _ hla (ha.below hb0 (Nat.le_refl _))).mono ?_
  rintro e w2 ⟨oa, oc, rfl, hsO, hb1⟩
  rw [HX.out] at hsO ⊢
  simp only at hsO ⊢
  have hb2 : Below U.heap.size U (w2.alloc (Obj.cells #[.slice oa nl.length oc, .int .i64 ncl] 24)) := hb1.alloc hb1.size _
  have n0 : (w2.alloc (Obj.cells #[.slice oa nl.length oc, .int .i64 ncl] 24)).cell? ⟨w2.heap.size, 0, none⟩ = some (.slice oa nl.length oc) := by go_simp
  have n1 : (w2.alloc (Obj.cells #[.slice oa nl.length oc, .int .i64 ncl] 24)).cell? ⟨w2.heap.size, 1, none⟩ = some (.int .i64 ncl) := by go_simp
  have hsO2 := hsO.below ((Below.refl _ w2).alloc (Nat.le_refl _) (Obj.cells #[.slice oa nl.length oc, .int .i64 ncl] 24)) (Nat.le_refl _)
  replace hsN2 := hsN2.below hb2 (Nat.le_refl _)
  have X := HH2.below hb2 (Nat.le_refl _)
  replace hb0 := hb0.thru hb2 hb0.size
  clear p0 p1 p2 p3 p4 p5 HH2 hb1 hb2 hsO
  go_upto_region 3 with fail
  generalize w2.alloc (Obj.cells #[.slice oa nl.length oc, .int .i64 ncl] 24) = V at X hb0 hsN2 hsO2 n0 n1 ⊢
  simp only [holds_cons, holds_nil] at X
  obtain ⟨⟨_, p0⟩, ⟨_, p1⟩, ⟨_, p2⟩, ⟨_, p3⟩, ⟨_, p4⟩, ⟨_, p5⟩, _⟩ := X
  have k0 := cell_regrown p0
  have k1 := cell_regrown p1
  have k2 := cell_regrown p2
  have k3 := cell_regrown p3
  have k4 := cell_regrown p4
  have k5 := cell_regrown p5
  have k6 := cell_regrown n0
  have k7 := cell_regrown n1
  have SA := hidE (fun d os => (ha.below hb0 (Nat.le_refl _)).below (below_regrown V d os) (Nat.le_refl _))
  have SB := hidE (fun d os => (hb.below hb0 (Nat.le_refl _)).below (below_regrown V d os) (Nat.le_refl _))
  have SN := hidE (fun d os => hsN2.below (below_regrown V d os) (Nat.le_refl _))
  have SO := hidE (fun d os => hsO2.below (below_regrown V d os) (Nat.le_refl _))
  have HS : Hid ((ordM nl ncl nl ncl == 0) = true) := by show _ = _; rw [ordM_self]; rfl
  refine wp_region_quiet_below (by kernel_rfl) (by kernel_rfl) ?_
  repeat (first | go_big_quiet_step ((first | (go_at_call 11; exact Calls.regrown_of (markBegun_true _)) | (go_at_call 12; exact Calls.regrown_of (check_any _ _ la _ _ hla (SA.out _ _))) | (go_at_call 13; exact Calls.regrown_of (checkMark_any _ _ la _ _ hla (SA.out _ _))) | (go_at_call 14; exact Calls.regrown_of (order_any _ _ _ _ la lb _ _ _ hla hlb (SA.out _ _) (SB.out _ _))) | (go_at_call 15; exact Calls.regrown_of (orderOf_any _ _ _ _ la lb _ _ _ hla hlb (SA.out _ _) (SB.out _ _))) | (go_at_call 16; exact Calls.regrown_of (sameMark_n _ _ _ _ _ _ nl nl _ _ _ rfl rfl hnl hnl (SN.out _ _) (SO.out _ _))))) | quiet_step ((first | (go_at_call 11; exact Calls.regrown_of (markBegun_true _)) | (go_at_call 12; exact Calls.regrown_of (check_any _ _ la _ _ hla (SA.out _ _))) | (go_at_call 13; exact Calls.regrown_of (checkMark_any _ _ la _ _ hla (SA.out _ _))) | (go_at_call 14; exact Calls.regrown_of (order_any _ _ _ _ la lb _ _ _ hla hlb (SA.out _ _) (SB.out _ _))) | (go_at_call 15; exact Calls.regrown_of (orderOf_any _ _ _ _ la lb _ _ _ hla hlb (SA.out _ _) (SB.out _ _))) | (go_at_call 16; exact Calls.regrown_of (sameMark_n _ _ _ _ _ _ nl nl _ _ _ rfl rfl hnl hnl (SN.out _ _) (SO.out _ _))))))
  refine wpQuiet_nil ?_
  intro _ hw'
  obtain ⟨⟨dq, osq⟩, hw''⟩ := hw'
  subst hw''
  go_wp2
  go_ret
  refine ⟨ret_bool ?_, hb0.thru (below_regrown _ _ _) hb0.size⟩
  exact HS.out

set_option maxRecDepth 100000 in
theorem markTells_lifted (os : Os) (started : os.Started) (H : Type) (enc : TypeId × Value → H) :
    ReturnsInHanded {} Try.checked os 3 .any (Rows.markTellsSpec.pre6 enc Try.prog Try.f3 Rows.markTellsRow.domain false) (Rows.markTellsSpec.post enc Try.prog Try.f3 false true false false) := by
  refine returnsInHanded_of_change (C := Try.checked) Try.own started (by kernel_rfl) Try.func3
    (ChangeSpec.witness6 (enc := enc) (C := Try.checked) false ⟨#[], #[.agg #[.slice none 0 0, .int .i64 0], .agg #[.slice none 0 0, .int .i64 0], .int .i64 0], []⟩ 8 (by kernel_rfl) (by kernel_rfl) (by kernel_rfl) (by kernel_rfl)) ?_
  intro W base args ds gs before hval0 hW hcnd _
  have hval : ∀ (j : Nat) t v, Try.f3.params[j]? = some t → args[j]? = some v → Value.okWide Try.prog W .any base t v := hval0
  have hW' := hW
  obtain ⟨p, q, hA0, hV, rfl, hfz, hnd⟩ := hW
  have hA : DataW.TrodAll enc Try.prog W 0 (fun _ => true) true Try.f3.params.toList args.toList ds p := hA0
  rw [Try.params3] at hA hval
  have hA1 := hA
  obtain ⟨v0, vs0, d0, ds0, p0, q0, hargs, rfl, rfl, h0, r0⟩ := trodAll_cons hA
  obtain ⟨v1, vs1, d1, ds1, p1, q1, rfl, rfl, rfl, h1, r1⟩ := trodAll_cons r0
  obtain ⟨v2, vs2, d2, ds2, p2, q2, rfl, rfl, rfl, h2, r2⟩ := trodAll_cons r1
  obtain ⟨rfl, rfl, rfl⟩ : vs2 = [] ∧ ds2 = [] ∧ q2 = [] := by cases vs2 <;> cases ds2 <;> simp_all [DataW.TrodAll]
  obtain rfl : args = #[v0, v1, v2] := Array.toList_inj.1 hargs
  obtain ⟨rfl, rfl⟩ := trodVars_none hV
  obtain ⟨a0, k0, l0, c0, rfl, s0, hk0, hl0⟩ := open_mark (hval 0 24 v0 rfl rfl) h0
  obtain ⟨a1, k1, l1, c1, rfl, s1, hk1, hl1⟩ := open_mark (hval 1 24 v1 rfl rfl) h1
  obtain ⟨n2, rfl, rfl, rfl, wf2⟩ := open_int Try.underlying3 (hval 2 3 v2 rfl rfl) h2
  clear hA0 hval0
  simp only [List.append_nil] at hW'
  refine (markTells_true a0 a1 k0 k1 l0 l1 c0 c1 n2 W hl0 hl1 s0 s1).mono fun e W' ⟨he, hn⟩ => ?_
  subst he
  have hargs := trodAll_stays hn (by intro t ht; simp only [List.mem_cons, List.not_mem_nil, or_false] at ht; rcases ht with rfl | rfl | rfl <;> exact ⟨by kernel_rfl, of_decide_eq_true (by kernel_rfl)⟩) hA1 (fun y hy => by simpa using hW'.lt y (by simpa using hy))
  exact ⟨_, rfl, _, _, _, [], _, [], hW', trodAll_mk1 (shut_bool Try.underlying4 _), hargs, rfl, hn.frame _, fun h => by cases h⟩

theorem markTells_holds : Rows.MarkTellsSaid :=
  OpenClaim.holds_of_wide 3 Try.f3 rfl rfl rfl rfl rfl rfl rfl ⟨rfl, rfl, rfl, rfl, rfl⟩ rfl rfl rfl rfl rfl (by kernel_rfl) Try.func3 (by kernel_rfl)
    (of_decide_eq_true (by kernel_rfl)) (by unfold Func.isWrapper; first | (rw [if_pos (by decide +kernel)]; kernel_rfl) | (rw [if_neg (by decide +kernel)]; exact ⟨rfl, rfl⟩))
    (fun os started H enc _ => markTells_lifted os started H enc)
end Go.Proofs.Ytkmiafhkilhohaa
