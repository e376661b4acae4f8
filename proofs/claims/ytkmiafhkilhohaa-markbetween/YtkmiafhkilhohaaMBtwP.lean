/- Proved: MarkBetween returns true whatever marks and numbers it is handed, and its arguments read as before. No condition. -/
import Derived.Test.YtkmiafhkilhohaaChkBtw
import Derived.Test.YtkmiafhkilhohaaOpenM
namespace Go.Proofs.Ytkmiafhkilhohaa
open Go.ChangeShapes Go.WideShapes Go.ChangeAt Go.RowKit Go.Deep Go.Joins

set_option maxRecDepth 100000 in
set_option maxHeartbeats 2000000 in
theorem markBetween_true (a b : Option Addr) (ka kb : Nat) (la lb : List (Int × Int)) (ca cb site clock many : Int) (w : World) (hla : la.length ≤ maxLen) (hlb : lb.length ≤ maxLen) (hka : la.length ≤ ka) (hkb : lb.length ≤ kb) (ha : StepsAt w a la) (hb : StepsAt w b lb) :
    Calls Try.prog 4 #[.agg #[.slice a la.length ka, .int .i64 ca], .agg #[.slice b lb.length kb, .int .i64 cb], .int .i64 site, .int .i64 clock, .int .i64 many] w fun e w' => e = .returned (.bool true) ∧ Below w.heap.size w w' := by
  obtain ⟨q0, q1, q2, q3, hz, hb0⟩ := boxes2 w (.slice a la.length ka) (.int .i64 ca) (.slice b lb.length kb) (.int .i64 cb) 24 24
  have HH : Holds ((w.alloc (Obj.cells #[.slice a la.length ka, .int .i64 ca] 24)).alloc (Obj.cells #[.slice b lb.length kb, .int .i64 cb] 24)) [(w.heap.size, 0, .slice a la.length ka), (w.heap.size, 1, .int .i64 ca), (w.heap.size + 1, 0, .slice b lb.length kb), (w.heap.size + 1, 1, .int .i64 cb)] := by
    simp only [holds_cons, holds_nil]
    exact ⟨holds_at q0, holds_at q1, holds_at q2, holds_at q3, trivial⟩
  clear q0 q1 q2 q3 hz
  go_enter Try.func4, Try.ntmps4
  go_upto_region 1 with fail
  generalize (w.alloc (Obj.cells #[.slice a la.length ka, .int .i64 ca] 24)).alloc (Obj.cells #[.slice b lb.length kb, .int .i64 cb] 24) = W at HH hb0 ⊢
  have X := HH
  simp only [holds_cons, holds_nil] at X
  obtain ⟨⟨_, p0⟩, ⟨_, p1⟩, ⟨_, p2⟩, ⟨_, p3⟩, _⟩ := X
  go_wp2_with fail
  refine (between_fn _ _ _ _ la lb _ _ _ _ _ _ hla hlb hka hkb (ha.below hb0 (Nat.le_refl _)) (hb.below hb0 (Nat.le_refl _))).mono ?_
  rintro e w2 ⟨hb1, hgives⟩
  replace HH := HH.below hb1 (Nat.le_refl _)
  replace hb0 := hb0.thru hb1 hb0.size
  clear hb1 p0 p1 p2 p3
  have X := HH
  simp only [holds_cons, holds_nil] at X
  obtain ⟨⟨_, p0⟩, ⟨_, p1⟩, ⟨_, p2⟩, ⟨_, p3⟩, _⟩ := X
  rcases hgives with ⟨hne, rfl⟩ | ⟨he, O, pl, r, rfl, hmk, hcand, r1, r2⟩
  · generalize hE : btwErr la ca lb cb site clock many = er at hne ⊢
    have HE := hidE hE
    have hne' : (er != 0) = true := by rw [bne_iff_ne]; exact hne
    have hsame : (er != er) = false := by simp
    clear hne hE
    go_wp2_with fail
    refine (checkBetween_any _ _ _ _ la lb _ _ _ _ _ _ hla hlb (ha.below hb0 (Nat.le_refl _)) (hb.below hb0 (Nat.le_refl _))).mono ?_
    rintro e w3 ⟨rfl, hb1⟩
    rw [HE.out]
    replace hb0 := hb0.thru hb1 hb0.size
    clear hb1
    go_wp2_with fail
    refine (markBegun_true _).mono ?_
    rintro e w4 ⟨rfl, hb1⟩
    go_wp2
    go_ret
    exact ⟨rfl, hb0.thru hb1 hb0.size⟩
  · obtain ⟨_, hargs, _, l8, l8'⟩ := btwErr_zero he
    obtain ⟨_, _, c1, c2, m1, m2⟩ := argsOk_iff hargs
    obtain ⟨mn, rfl⟩ := Int.eq_ofNat_of_zero_le (show 0 ≤ many by omega)
    have hall := btw_all he hcand r1 r2
    rw [Int.toNat_natCast] at *
    have HE := hidE he
    clear he hcand r1 r2 hargs
    go_wp2_with fail
    refine (checkBetween_any _ _ _ _ la lb _ _ _ _ _ _ hla hlb (ha.below hb0 (Nat.le_refl _)) (hb.below hb0 (Nat.le_refl _))).mono ?_
    rintro e w3 ⟨rfl, hb1⟩
    rw [HE.out]
    replace HH := HH.below hb1 (Nat.le_refl _)
    replace hb0 := hb0.thru hb1 hb0.size
    replace hmk := hmk.below hb1 (Nat.le_refl _)
    clear hb1 p0 p1 p2 p3
    go_wp2_with fail
    refine (markBegun_true _).mono ?_
    rintro e w4 ⟨rfl, hb1⟩
    replace HH := HH.below hb1 (Nat.le_refl _)
    replace hb0 := hb0.thru hb1 hb0.size
    replace hmk := hmk.below hb1 (Nat.le_refl _)
    clear hb1
    have X := HH
    simp only [holds_cons, holds_nil] at X
    obtain ⟨⟨_, p0⟩, ⟨_, p1⟩, ⟨_, p2⟩, ⟨_, p3⟩, _⟩ := X
    have HL := hidE (rowOf_length pl r site clock mn)
    go_wp2_with fail
    refine (isBetween_true _ _ _ _ _ _ la lb _ _ _ _ mn (rowOf pl r site clock mn) _ hla hlb (ha.below hb0 (Nat.le_refl _)) (hb.below hb0 (Nat.le_refl _)) hmk HL.out (by omega) (by omega) (by omega) (by omega) (by omega) hall).mono ?_
    rintro e w5 ⟨rfl, hb1⟩
    go_wp2
    go_ret
    exact ⟨rfl, hb0.thru hb1 hb0.size⟩

set_option maxRecDepth 100000 in
theorem markBetween_lifted (os : Os) (started : os.Started) (H : Type) (enc : TypeId × Value → H) :
    ReturnsInHanded {} Try.checked os 4 .any (Rows.markBetweenSpec.pre6 enc Try.prog Try.f4 Rows.markBetweenRow.domain false) (Rows.markBetweenSpec.post enc Try.prog Try.f4 false true false false) := by
  refine returnsInHanded_of_change (C := Try.checked) Try.own started (by kernel_rfl) Try.func4
    (ChangeSpec.witness6 (enc := enc) (C := Try.checked) false ⟨#[], #[.agg #[.slice none 0 0, .int .i64 0], .agg #[.slice none 0 0, .int .i64 0], .int .i64 0, .int .i64 0, .int .i64 0], []⟩ 8 (by kernel_rfl) (by kernel_rfl) (by kernel_rfl) (by kernel_rfl)) ?_
  intro W base args ds gs before hval0 hW hcnd _
  have hval : ∀ (j : Nat) t v, Try.f4.params[j]? = some t → args[j]? = some v → Value.okWide Try.prog W .any base t v := hval0
  have hW' := hW
  obtain ⟨p, q, hA0, hV, rfl, hfz, hnd⟩ := hW
  have hA : DataW.TrodAll enc Try.prog W 0 (fun _ => true) true Try.f4.params.toList args.toList ds p := hA0
  rw [Try.params4] at hA hval
  have hA1 := hA
  obtain ⟨v0, vs0, d0, ds0, p0, q0, hargs, rfl, rfl, h0, r0⟩ := trodAll_cons hA
  obtain ⟨v1, vs1, d1, ds1, p1, q1, rfl, rfl, rfl, h1, r1⟩ := trodAll_cons r0
  obtain ⟨v2, vs2, d2, ds2, p2, q2, rfl, rfl, rfl, h2, r2⟩ := trodAll_cons r1
  obtain ⟨v3, vs3, d3, ds3, p3, q3, rfl, rfl, rfl, h3, r3⟩ := trodAll_cons r2
  obtain ⟨v4, vs4, d4, ds4, p4, q4, rfl, rfl, rfl, h4, r4⟩ := trodAll_cons r3
  obtain ⟨rfl, rfl, rfl⟩ : vs4 = [] ∧ ds4 = [] ∧ q4 = [] := by cases vs4 <;> cases ds4 <;> simp_all [DataW.TrodAll]
  obtain rfl : args = #[v0, v1, v2, v3, v4] := Array.toList_inj.1 hargs
  obtain ⟨rfl, rfl⟩ := trodVars_none hV
  obtain ⟨a0, k0, l0, c0, rfl, s0, hk0, hl0⟩ := open_mark (hval 0 24 v0 rfl rfl) h0
  obtain ⟨a1, k1, l1, c1, rfl, s1, hk1, hl1⟩ := open_mark (hval 1 24 v1 rfl rfl) h1
  obtain ⟨n2, rfl, rfl, rfl, wf2⟩ := open_int Try.underlying3 (hval 2 3 v2 rfl rfl) h2
  obtain ⟨n3, rfl, rfl, rfl, wf3⟩ := open_int Try.underlying3 (hval 3 3 v3 rfl rfl) h3
  obtain ⟨n4, rfl, rfl, rfl, wf4⟩ := open_int Try.underlying3 (hval 4 3 v4 rfl rfl) h4
  clear hA0 hval0
  simp only [List.append_nil] at hW'
  refine (markBetween_true a0 a1 k0 k1 l0 l1 c0 c1 n2 n3 n4 W hl0 hl1 hk0 hk1 s0 s1).mono fun e W' ⟨he, hn⟩ => ?_
  subst he
  have hargs := trodAll_stays hn (by intro t ht; simp only [List.mem_cons, List.not_mem_nil, or_false] at ht; rcases ht with rfl | rfl | rfl | rfl | rfl <;> exact ⟨by kernel_rfl, of_decide_eq_true (by kernel_rfl)⟩) hA1 (fun y hy => by simpa using hW'.lt y (by simpa using hy))
  exact ⟨_, rfl, _, _, _, [], _, [], hW', trodAll_mk1 (shut_bool Try.underlying4 _), hargs, rfl, hn.frame _, fun h => by cases h⟩

theorem markBetween_holds : Rows.MarkBetweenSaid :=
  OpenClaim.holds_of_wide 4 Try.f4 rfl rfl rfl rfl rfl rfl rfl ⟨rfl, rfl, rfl, rfl, rfl⟩ rfl rfl rfl rfl rfl (by kernel_rfl) Try.func4 (by kernel_rfl)
    (of_decide_eq_true (by kernel_rfl)) (by unfold Func.isWrapper; first | (rw [if_pos (by decide +kernel)]; kernel_rfl) | (rw [if_neg (by decide +kernel)]; exact ⟨rfl, rfl⟩))
    (fun os started H enc _ => markBetween_lifted os started H enc)
end Go.Proofs.Ytkmiafhkilhohaa
