/- The law RelayTells. -/
import Derived.Test.YtnhjebdlcbhkcafRyBeg
import Derived.Test.YtnhjebdlcbhkcafRelRef
import Derived.Test.YtnhjebdlcbhkcafNoteR
import Derived.Test.YtnhjebdlcbhkcafAppAny
import Derived.Deep.DeepCutAuto
import Derived.Deep.RegionHeldLaw
namespace Go.Proofs.Ytnhjebdlcbhkcaf
open Go.RowKit

set_option maxRecDepth 100000 in
set_option maxHeartbeats 4000000 in
theorem relayTells_ok (a : Option Addr) (c : Nat) (ns : List Nt) (n : Nt) (p q : Option Addr) (cp cq : Nat) (cu ma : Int) (w : World) (h : NotesAt w a ns) (hl : ns.length ≤ c) (hc : c ≤ maxLen) (hn : NtAt w n p q) :
    Calls Try.prog 3 #[.agg #[.slice a ns.length c], ntV n p q cp cq, .int .i64 cu, .int .i64 ma] w fun e w' => e = .returned (.bool true) ∧ Below w.heap.size w w' := by
  have HBG := hidE relayBegun_true
  have hX := (Blk.new w #[.slice a ns.length c] 24).alloc (Obj.cells #[.int .i64 n.site, .int .i64 n.number, .slice p n.needs.length cp, .slice q n.deeds.length cq] 28)
  have hY := Blk.new (w.alloc (Obj.cells #[.slice a ns.length c] 24)) #[.int .i64 n.site, .int .i64 n.number, .slice p n.needs.length cp, .slice q n.deeds.length cq] 28
  have hB := ((Below.refl w.heap.size w).alloc (Nat.le_refl _) (Obj.cells #[.slice a ns.length c] 24)).alloc (by simp) (Obj.cells #[.int .i64 n.site, .int .i64 n.number, .slice p n.needs.length cp, .slice q n.deeds.length cq] 28)
  rw [show (w.alloc (Obj.cells #[.slice a ns.length c] 24)).heap.size = w.heap.size + 1 by simp] at hY
  have HP := hidE (fun w1 (hb : Below w.heap.size w w1) => (post_any a c ns n p q cp cq w1 (h.below hb) (by omega) (hn.below hb)).mono fun e w' hP => posted_at hP)
  have HL := hidE (fun w1 (hb : Below w.heap.size w w1) => (pull_any a c ns cu ma w1 (h.below hb) hl hc).mono fun e w' hP => pulled_at hP)
  have HR := hidE (fun w1 (hb : Below w.heap.size w w1) => refRelay_any a c ns w1 (h.below hb))
  have HK := hidE (fun w1 (hb : Below w.heap.size w w1) => relayCheck_any a c ns w1 (h.below hb) (by omega))
  have HN := hidE (fun w1 (hb : Below w.heap.size w w1) => checkNote_any n p q cp cq w1 (hn.below hb))
  have HM := hidE (fun w1 (hb : Below w.heap.size w w1) (h0 : chkRel ns = 0) => howMany_any a c ns n.site w1 (h.below hb) (by have := (chkRel_len h0).1; omega))
  have HA := hidE h
  have HNT := hidE hn
  clear h hn
  have HCP := hidE hl
  have HCM := hidE hc
  unfold ntV at *
  go_enter Try.func3, Try.ntmps3
  go_upto_region 1 with fail
  generalize (w.alloc (Obj.cells #[.slice a ns.length c] 24)).alloc (Obj.cells #[.int .i64 n.site, .int .i64 n.number, .slice p n.needs.length cp, .slice q n.deeds.length cq] 28) = W at *
  have x0 := hX.is 0 rfl
  have y0 := hY.is 0 rfl
  have y1 := hY.is 1 rfl
  have y2 := hY.is 2 rfl
  have y3 := hY.is 3 rfl
  have HX := hidE hX
  have HY := hidE hY
  have HB := hidE hB
  clear hX hY hB hl hc
  go_upto_region 2 with (go_at_call 4; refine (HP.out _ HB.out).mono ?_; rintro e w1 ⟨pp, cap, rfl, h1, h2, h3, hb1⟩)
  have hAl := alloc_below w1 (Obj.cells #[.slice pp (postL ns n).length cap] 24)
  have HZ1 := hidE (Blk.new w1 #[.slice pp (postL ns n).length cap] 24)
  have HX1 := hidE ((HX.out.thruB hb1).thruB hAl)
  have HY1 := hidE ((HY.out.thruB hb1).thruB hAl)
  have hb2 := HB.out.thru hb1 HB.out.size
  have HB1 := hidE (hb2.thru hAl hb2.size)
  have HP1 := hidE (h1.below hAl)
  have HPC := hidE (And.intro h2 h3)
  generalize w1.alloc (Obj.cells #[.slice pp (postL ns n).length cap] 24) = W1 at *
  generalize w1.heap.size = Z at *
  clear hAl hb1 hb2 h1 h2 h3 HX HY HB HP x0 y0 y1 y2 y3
  have x0 := HX1.out.is 0 rfl
  have y0 := HY1.out.is 0 rfl
  have y1 := HY1.out.is 1 rfl
  have y2 := HY1.out.is 2 rfl
  have y3 := HY1.out.is 3 rfl
  go_upto_region 3 with (go_at_call 5; refine (HL.out _ HB1.out).mono ?_; rintro e w2 ⟨pl, cl, rfl, h1, h2, h3, hb2⟩)
  have HX2 := hidE (HX1.out.thruB hb2)
  have HY2 := hidE (HY1.out.thruB hb2)
  have HZ2 := hidE (HZ1.out.thruB hb2)
  have HB2 := hidE (HB1.out.thru hb2 HB1.out.size)
  have HP2 := hidE (HP1.out.below hb2)
  have HL2 := hidE h1
  have HLC := hidE (And.intro h2 h3)
  clear h1 h2 h3 hb2 HX1 HY1 HZ1 HB1 HP1 HL x0 y0 y1 y2 y3
  have x0 := HX2.out.is 0 rfl
  have y0 := HY2.out.is 0 rfl
  have y1 := HY2.out.is 1 rfl
  have y2 := HY2.out.is 2 rfl
  have y3 := HY2.out.is 3 rfl
  go_upto_region 4 with (go_at_call 6; refine (HR.out _ HB2.out).mono ?_; rintro e w3 ⟨rfl, hb3⟩)
  have HX3 := hidE (HX2.out.thruB hb3)
  have HY3 := hidE (HY2.out.thruB hb3)
  have HZ3 := hidE (HZ2.out.thruB hb3)
  have HB3 := hidE (HB2.out.thru hb3 HB2.out.size)
  have HP3 := hidE (HP2.out.below hb3)
  have HL3 := hidE (HL2.out.below hb3)
  clear hb3 HX2 HY2 HZ2 HB2 HP2 HL2 HR x0 y0 y1 y2 y3
  have x0 := HX3.out.is 0 rfl
  have y0 := HY3.out.is 0 rfl
  have y1 := HY3.out.is 1 rfl
  have y2 := HY3.out.is 2 rfl
  have y3 := HY3.out.is 3 rfl
  have HR0 : Hid (chkRel ns = 0 ∨ chkRel ns ≠ 0) := Classical.em _
  have HPE : Hid (postE ns n = if chkRel ns ≠ 0 then chkRel ns else if chkN n ≠ 0 then chkN n else if (cntS n.site ns : Int) + 1 < n.number then 4 else if n.number = (cntS n.site ns : Int) + 1 ∧ ns.length = 300 then 2 else 0) := rfl
  have HPI : Hid (postI ns n = (decide (postE ns n = 0) && decide (n.number = (cntS n.site ns : Int) + 1))) := rfl
  have HPL : Hid (postL ns n = if postE ns n ≠ 0 then [] else if postI ns n = true then ns ++ [n] else ns) := rfl
  have HLE : Hid (pullE ns cu ma = if chkRel ns ≠ 0 then chkRel ns else if cu < 0 ∨ (ns.length : Int) < cu ∨ ma < 0 ∨ 300 < ma then 3 else 0) := rfl
  have HLL : Hid (pullL ns cu ma = if pullE ns cu ma ≠ 0 then [] else (ns.drop cu.toNat).take ma.toNat) := rfl
  have HRL : Hid (chkRel ns = 0 → ns.length ≤ 300) := fun h => (chkRel_len h).1
  go_upto_if 41 with fail
  go_cut [15] (fun t wc => t = .int .i64 (if chkRel ns ≠ 0 then chkRel ns else chkN n) ∧ Below w3.heap.size w3 wc)
  case first => as_aux_lemma =>
    rcases HR0.out with h0 | h0
    · have h0' : (chkRel ns == 0) = true := by rw [h0]; rfl
      have H0 := hidE h0
      clear h0
      go_wp2_with (go_at_call 7; refine (HN.out _ HB3.out).mono ?_; rintro e w4 ⟨rfl, hb4⟩)
      go_meet
      exact ⟨by rw [if_neg (by simpa using H0.out)], hb4⟩
    · have h0' : (chkRel ns == 0) = false := by rw [beq_eq_false_iff_ne]; exact h0
      have H0 := hidE h0
      clear h0
      go_wp2_with fail
      go_meet
      exact ⟨by rw [if_pos H0.out], Below.refl _ _⟩
  case rest =>
    obtain ⟨rfl, hb4⟩ := hcut
    generalize hck : (if chkRel ns ≠ 0 then chkRel ns else chkN n) = ck
    have HCK := hidE hck
    clear hck
    have HX4 := hidE (HX3.out.thruB hb4)
    have HY4 := hidE (HY3.out.thruB hb4)
    have HZ4 := hidE (HZ3.out.thruB hb4)
    have HB4 := hidE (HB3.out.thru hb4 HB3.out.size)
    have HP4 := hidE (HP3.out.below hb4)
    have HL4 := hidE (HL3.out.below hb4)
    clear hb4 HX3 HY3 HZ3 HB3 HP3 HL3 HN x0 y0 y1 y2 y3
    have x0 := HX4.out.is 0 rfl
    have y0 := HY4.out.is 0 rfl
    have y1 := HY4.out.is 1 rfl
    have y2 := HY4.out.is 2 rfl
    have y3 := HY4.out.is 3 rfl
    go_upto_if 47 with fail
    go_cut [15, 17, 18] (fun t15 t17 t18 wc' => ∃ pw cw L, t15 = .int .i64 (postE ns n) ∧ t17 = .bool (postI ns n) ∧ t18 = .slice pw (List.length L) cw ∧ NotesAt wc' pw L ∧ (postE ns n = 0 → L = postL ns n) ∧ Below wc.heap.size wc wc')
    case first => as_aux_lemma =>
      by_cases h0 : ck = 0
      · have h0' : (ck == 0) = true := by rw [h0]; rfl
        have hr0 : chkRel ns = 0 := by
          by_cases h : chkRel ns = 0
          · exact h
          · have := HCK.out; rw [if_pos h, h0] at this; exact this
        have hn0 : chkN n = 0 := by have := HCK.out; rw [if_neg (by simpa using hr0), h0] at this; exact this
        have HE : Hid (postE ns n = if (cntS n.site ns : Int) + 1 < n.number then 4 else if n.number = (cntS n.site ns : Int) + 1 ∧ ns.length = 300 then 2 else 0) := by
          show _ = _
          rw [HPE.out, if_neg (by simpa using hr0), if_neg (by simpa using hn0)]
        have hl3 := HRL.out hr0
        have hcl := cntS_le n.site ns
        have HR0' := hidE hr0
        have HCK0 := hidE h0
        clear h0 hr0 hn0
        have HM1 := hidE (fun w1 hb => HM.out w1 hb HR0'.out)
        go_upto_region 11 with (go_at_call 8; refine (HM1.out _ HB4.out).mono ?_; rintro e w5 ⟨rfl, hb5⟩)
        have HX5 := hidE (HX4.out.thruB hb5)
        have HY5 := hidE (HY4.out.thruB hb5)
        have HB5 := hidE hb5
        clear hb5 HX4 HY4 HM HM1 x0 y0 y1 y2 y3
        have x0 := HX5.out.is 0 rfl
        have y0 := HY5.out.is 0 rfl
        have y1 := HY5.out.is 1 rfl
        have y2 := HY5.out.is 2 rfl
        have y3 := HY5.out.is 3 rfl
        have hct0 : (0 : Int) ≤ (cntS n.site ns : Int) := by omega
        have hct1 : (cntS n.site ns : Int) ≤ 300 := by omega
        have HCT : Hid ((cntS n.site ns : Int) = (cntS n.site ns : Int)) := rfl
        generalize (cntS n.site ns : Int) = ct at hct0 hct1 HE HPI ⊢
        by_cases b1 : n.number > ct + 1
        · have HE4 : Hid (postE ns n = 4) := by
            show _ = _
            rw [HE.out, if_pos (by omega)]
          have HI4 : Hid (postI ns n = false) := by
            show _ = _
            rw [HPI.out, HE4.out]; simp
          go_wp2_with fail
          go_meet
          exact ⟨a, c, ns, by rw [HE4.out], by rw [HI4.out], rfl, (HA.out.below HB4.out).below HB5.out, fun h => by rw [HE4.out] at h; exact absurd h (by decide), HB5.out⟩
        by_cases b2 : n.number = ct + 1
        · have b2' : (n.number == ct + 1) = true := by rw [b2]; simp
          by_cases b3 : ns.length = 300
          · have b3' : ((ns.length : Int) == 300) = true := by rw [b3]; rfl
            have HE4 : Hid (postE ns n = 2) := by
              show _ = _
              rw [HE.out, if_neg (by omega), if_pos ⟨b2, b3⟩]
            have HI4 : Hid (postI ns n = false) := by
              show _ = _
              rw [HPI.out, HE4.out]; simp
            have HB2 := hidE b2
            have HB3' := hidE b3
            clear b2 b3
            go_wp2_with fail
            go_meet
            exact ⟨a, c, ns, by rw [HE4.out], by rw [HI4.out], rfl, (HA.out.below HB4.out).below HB5.out, fun h => by rw [HE4.out] at h; exact absurd h (by decide), HB5.out⟩
          · have b3' : ((ns.length : Int) == 300) = false := by rw [beq_eq_false_iff_ne]; omega
            have HE4 : Hid (postE ns n = 0) := by
              show _ = _
              rw [HE.out, if_neg (by omega), if_neg (by omega)]
            have HI4 : Hid (postI ns n = true) := by
              show _ = _
              rw [HPI.out, HE4.out, b2]; simp
            have hl4 : ns.length < 300 := by omega
            have HB2 := hidE b2
            clear b2 b3
            go_upto_region 17 with fail
            obtain ⟨i0, hi0, hz0, hz1, hz2⟩ := infoCN
            have hx5 := HX5.out.lt
            have hy5 := HY5.out.lt
            have hB5 := HB4.out.thru HB5.out HB4.out.size
            have HBW := hidE hB5
            obtain ⟨xs0, hm0, hc0, hN0⟩ := notes_rowsN (HA.out.below hB5)
            have hx0 : xs0.length = ns.length := by rw [← hm0, List.length_map]
            have HC0 : Hid (∀ W', Below w5.heap.size w5 W' → ∀ j u, (xs0.flatMap RN.cells)[j]? = some u → ∃ b off, a = some ⟨b, off, none⟩ ∧ W'.cell? ⟨b, off + j, none⟩ = some u) := fun W' hb j u hj => by
              obtain ⟨b, off, e, h⟩ := hc0 j u hj
              exact ⟨b, off, e, (hb.cell (block_lt_of_cell h)).trans h⟩
            have HN0 := hidE hN0
            have HM0 := hidE hm0
            have HX0 := hidE hx0
            have HG : Hid ((w5.alloc (Obj.cells #[] 28)).ownsRow w5.heap.size 28 4 (.slice (some ⟨w5.heap.size, 0, none⟩) 0 0) 0 []) := World.ownsRow_lit w5 #[] 0 (Nat.le_refl _) (Nat.zero_le _) rfl
            have HGb : Hid (((w5.alloc (Obj.cells #[.int .i64 n.site, .int .i64 n.number, .slice p n.needs.length cp, .slice q n.deeds.length cq] 28)).alloc (Obj.cells #[] 28)).ownsRow w5.heap.size 28 4 (.slice (some ⟨w5.heap.size + 1, 0, none⟩) 0 0) 0 []) := by
              have h9 := World.ownsRow_lit (base := w5.heap.size) (size := 4) (e := 28) (w5.alloc (Obj.cells #[.int .i64 n.site, .int .i64 n.number, .slice p n.needs.length cp, .slice q n.deeds.length cq] 28)) #[] 0 (by simp) (Nat.zero_le _) rfl
              rw [show (w5.alloc (Obj.cells #[.int .i64 n.site, .int .i64 n.number, .slice p n.needs.length cp, .slice q n.deeds.length cq] 28)).heap.size = w5.heap.size + 1 by simp] at h9
              exact h9
            have HBb : Hid (Blk ((w5.alloc (Obj.cells #[] 28)).alloc (Obj.cells #[.int .i64 n.site, .int .i64 n.number, .slice p n.needs.length cp, .slice q n.deeds.length cq] 28)) (w5.heap.size + 1) #[.int .i64 n.site, .int .i64 n.number, .slice p n.needs.length cp, .slice q n.deeds.length cq] 28) := by
              have h9 := Blk.new (w5.alloc (Obj.cells #[] 28)) #[.int .i64 n.site, .int .i64 n.number, .slice p n.needs.length cp, .slice q n.deeds.length cq] 28
              rw [show (w5.alloc (Obj.cells #[] 28)).heap.size = w5.heap.size + 1 by simp] at h9
              exact h9
            have HBc : Hid (Blk ((w5.alloc (Obj.cells #[.int .i64 n.site, .int .i64 n.number, .slice p n.needs.length cp, .slice q n.deeds.length cq] 28)).alloc (Obj.cells #[] 28)) w5.heap.size #[.int .i64 n.site, .int .i64 n.number, .slice p n.needs.length cp, .slice q n.deeds.length cq] 28) := (Blk.new w5 _ _).alloc _
            clear hc0 hN0 hm0 hx0 hB5
            have HSS : Hid (∀ W', Below w5.heap.size w5 W' → W'.cell? ⟨w.heap.size, 0, none⟩ = some (.slice a ns.length c) ∧ W'.cell? ⟨w.heap.size + 1, 0, none⟩ = some (.int .i64 n.site) ∧ W'.cell? ⟨w.heap.size + 1, 1, none⟩ = some (.int .i64 n.number) ∧ W'.cell? ⟨w.heap.size + 1, 2, none⟩ = some (.slice p n.needs.length cp) ∧ W'.cell? ⟨w.heap.size + 1, 3, none⟩ = some (.slice q n.deeds.length cq)) := fun W' hb => ⟨(HX5.out.below hb hx5).is 0 rfl, (HY5.out.below hb hy5).is 0 rfl, (HY5.out.below hb hy5).is 1 rfl, (HY5.out.below hb hy5).is 2 rfl, (HY5.out.below hb hy5).is 3 rfl⟩
            go_region_held_law (fun W' => W'.cell? ⟨w.heap.size, 0, none⟩ = some (.slice a ns.length c) ∧ W'.cell? ⟨w.heap.size + 1, 0, none⟩ = some (.int .i64 n.site) ∧ W'.cell? ⟨w.heap.size + 1, 1, none⟩ = some (.int .i64 n.number) ∧ W'.cell? ⟨w.heap.size + 1, 2, none⟩ = some (.slice p n.needs.length cp) ∧ W'.cell? ⟨w.heap.size + 1, 3, none⟩ = some (.slice q n.deeds.length cq))
              (exact HSS.out _ (by first | exact hB7 | (repeat (first | exact hB6 | exact Below.refl _ _ | refine Below.drew ?_ | refine Below.alloc ?_ (by first | exact hB6.size | (simp <;> omega)) _))))
              ((first
              | (refine step_append_any rfl (.tmp 75) (.tmp 77) 22 rfl w5.heap.size 28 i0 (.agg #[.int .i64 0, .int .i64 0, .slice none 0 0, .slice none 0 0]) 4 64 Try.underlying22 hi0 hz0 hz1 hz2 rfl (by decide) (.slice (some ⟨w5.heap.size, 0, none⟩) 0 0) 0 [] (by simp [Act.eval, Act.put]) (by first | exact HG.out | exact HG.out.alloc _) a ns.length c (xs0.flatMap RN.cells) (by simp [Act.eval]) (by rw [rn_len, HX0.out]) (HC0.out _ (by repeat (first | exact Below.refl _ _ | refine Below.drew ?_ | refine Below.alloc ?_ (by simp <;> omega) _))) (rn_one xs0) (by unfold maxLen; omega) (by omega) (by simp <;> omega) ?_; intro v6 w6 hown6 hgrow6; obtain ⟨p6, c6, rfl⟩ := owns_sl hown6; rw [Nat.zero_add, List.nil_append] at hown6; have hB6 : Below w5.heap.size w5 w6 := Below.grown (by repeat (first | exact Below.refl _ _ | refine Below.drew ?_ | refine Below.alloc ?_ (by simp <;> omega) _)) hgrow6 (by simp <;> omega) (by intro k hk; simp [Value.ownBlock] at hk; omega); have hY6 := HY5.out.below hB6 hy5; have y06 := hY6.is 0 rfl; have y16 := hY6.is 1 rfl; have y26 := hY6.is 2 rfl; have y36 := hY6.is 3 rfl; first | (have hBk : Blk w6 (w5.heap.size + 1) #[.int .i64 n.site, .int .i64 n.number, .slice p n.needs.length cp, .slice q n.deeds.length cq] 28 := Blk.grown (by exact HBb.out) hgrow6 (by simp [Value.ownBlock])) | (have hBk : Blk w6 w5.heap.size #[.int .i64 n.site, .int .i64 n.number, .slice p n.needs.length cp, .slice q n.deeds.length cq] 28 := Blk.grown (by exact HBc.out) hgrow6 (by simp [Value.ownBlock])) | skip)
              | (refine step_append_any rfl (.tmp 75) (.tmp 77) 22 rfl w5.heap.size 28 i0 (.agg #[.int .i64 0, .int .i64 0, .slice none 0 0, .slice none 0 0]) 4 64 Try.underlying22 hi0 hz0 hz1 hz2 rfl (by decide) (.slice (some ⟨w5.heap.size + 1, 0, none⟩) 0 0) 0 [] (by simp [Act.eval]) HGb.out a ns.length c (xs0.flatMap RN.cells) (by simp [Act.eval]) (by rw [rn_len, HX0.out]) (HC0.out _ (by repeat (first | exact Below.refl _ _ | refine Below.drew ?_ | refine Below.alloc ?_ (by simp <;> omega) _))) (rn_one xs0) (by unfold maxLen; omega) (by omega) (by simp <;> omega) ?_; intro v6 w6 hown6 hgrow6; obtain ⟨p6, c6, rfl⟩ := owns_sl hown6; rw [Nat.zero_add, List.nil_append] at hown6; have hB6 : Below w5.heap.size w5 w6 := Below.grown (by repeat (first | exact Below.refl _ _ | refine Below.drew ?_ | refine Below.alloc ?_ (by simp <;> omega) _)) hgrow6 (by simp <;> omega) (by intro k hk; simp [Value.ownBlock] at hk; omega); have hY6 := HY5.out.below hB6 hy5; have y06 := hY6.is 0 rfl; have y16 := hY6.is 1 rfl; have y26 := hY6.is 2 rfl; have y36 := hY6.is 3 rfl; first | (have hBk : Blk w6 (w5.heap.size + 1) #[.int .i64 n.site, .int .i64 n.number, .slice p n.needs.length cp, .slice q n.deeds.length cq] 28 := Blk.grown (by exact HBb.out) hgrow6 (by simp [Value.ownBlock])) | (have hBk : Blk w6 w5.heap.size #[.int .i64 n.site, .int .i64 n.number, .slice p n.needs.length cp, .slice q n.deeds.length cq] 28 := Blk.grown (by exact HBc.out) hgrow6 (by simp [Value.ownBlock])) | skip)
              | (refine step_append_own rfl (.tmp 78) (.tmp 80) 22 rfl w5.heap.size 28 i0 (.agg #[.int .i64 0, .int .i64 0, .slice none 0 0, .slice none 0 0]) 4 64 Try.underlying22 hi0 hz0 hz1 hz2 rfl (by decide) (.slice p6 ns.length c6) ns.length (xs0.flatMap RN.cells) (by simp [Act.eval]) (hown6.alloc _) ⟨w6.heap.size, 0, none⟩ 1 1 (RN.cells ⟨n, p, q, cp, cq⟩) (by simp [Act.eval]) rfl (by intro j u hj; rw [Addr.add_lit, Nat.zero_add, World.cell?_alloc_new]; simpa [RN.cells] using hj) (fun u hu => rn_one [⟨n, p, q, cp, cq⟩] u (by simpa using hu)) (by unfold maxLen; omega) (by omega) (by have := hB6.size; simp <;> omega) ?_; intro v7 w7 hown7 hgrow7; obtain ⟨p7, c7, rfl⟩ := owns_sl hown7; have hB7 : Below w5.heap.size w5 w7 := (by first | exact hB6.grown hgrow7 hB6.size (fun k hk => (hown6.lt k hk).1) | exact (hB6.alloc hB6.size _).grown hgrow7 (hB6.alloc hB6.size _).size (fun k hk => (hown6.lt k hk).1)))
              | (refine step_append_own rfl (.tmp 78) (.tmp 80) 22 rfl w5.heap.size 28 i0 (.agg #[.int .i64 0, .int .i64 0, .slice none 0 0, .slice none 0 0]) 4 64 Try.underlying22 hi0 hz0 hz1 hz2 rfl (by decide) (.slice p6 ns.length c6) ns.length (xs0.flatMap RN.cells) (by simp [Act.eval, Act.put]) hown6 ⟨w5.heap.size + 1, 0, none⟩ 1 1 (RN.cells ⟨n, p, q, cp, cq⟩) (by simp [Act.eval, Act.put]) rfl (by intro j u hj; rw [Addr.add_lit, Nat.zero_add, hBk.cell]; simpa [RN.cells] using hj) (fun u hu => rn_one [⟨n, p, q, cp, cq⟩] u (by simpa using hu)) (by unfold maxLen; omega) (by omega) (by have := hB6.size; simp <;> omega) ?_; intro v7 w7 hown7 hgrow7; obtain ⟨p7, c7, rfl⟩ := owns_sl hown7; have hB7 : Below w5.heap.size w5 w7 := (by first | exact hB6.grown hgrow7 hB6.size (fun k hk => (hown6.lt k hk).1) | exact (hB6.alloc hB6.size _).grown hgrow7 (hB6.alloc hB6.size _).size (fun k hk => (hown6.lt k hk).1)))
              | (refine step_append_own rfl (.tmp 78) (.tmp 80) 22 rfl w5.heap.size 28 i0 (.agg #[.int .i64 0, .int .i64 0, .slice none 0 0, .slice none 0 0]) 4 64 Try.underlying22 hi0 hz0 hz1 hz2 rfl (by decide) (.slice p6 ns.length c6) ns.length (xs0.flatMap RN.cells) (by simp [Act.eval, Act.put]) hown6 ⟨w5.heap.size, 0, none⟩ 1 1 (RN.cells ⟨n, p, q, cp, cq⟩) (by simp [Act.eval, Act.put]) rfl (by intro j u hj; rw [Addr.add_lit, Nat.zero_add, hBk.cell]; simpa [RN.cells] using hj) (fun u hu => rn_one [⟨n, p, q, cp, cq⟩] u (by simpa using hu)) (by unfold maxLen; omega) (by omega) (by have := hB6.size; simp <;> omega) ?_; intro v7 w7 hown7 hgrow7; obtain ⟨p7, c7, rfl⟩ := owns_sl hown7; have hB7 : Below w5.heap.size w5 w7 := (by first | exact hB6.grown hgrow7 hB6.size (fun k hk => (hown6.lt k hk).1) | exact (hB6.alloc hB6.size _).grown hgrow7 (hB6.alloc hB6.size _).size (fun k hk => (hown6.lt k hk).1)))))
            all_goals
              have hN7 := notes_ro (rs := xs0 ++ [⟨n, p, q, cp, cq⟩]) (by rw [List.flatMap_append]; simpa using hown7) (by simp [HX0.out]) (fun r hr => by
                rcases List.mem_append.1 hr with h | h
                · exact (HN0.out r h).below hB7
                · rw [List.mem_singleton.1 h]; exact (HNT.out.below HBW.out).below hB7)
              rw [List.map_append, HM0.out] at hN7
              go_wp2_with fail
              go_meet
              exact ⟨p7, c7, ns ++ [n], by rw [HE4.out, HCK0.out], by rw [HI4.out], by simp, hN7, fun _ => by rw [HPL.out, if_neg (by rw [HE4.out]; decide), if_pos HI4.out], HB5.out.thru hB7 HB5.out.size⟩
        · have b2' : (n.number == ct + 1) = false := by rw [beq_eq_false_iff_ne]; exact b2
          have HE4 : Hid (postE ns n = 0) := by
            show _ = _
            rw [HE.out, if_neg (by omega), if_neg (by omega)]
          have HI4 : Hid (postI ns n = false) := by
            show _ = _
            rw [HPI.out]; simp [b2]
          have HB2 := hidE b2
          clear b2
          go_wp2_with fail
          go_meet
          exact ⟨a, c, ns, by rw [HE4.out, HCK0.out], by rw [HI4.out], rfl, (HA.out.below HB4.out).below HB5.out, fun _ => by rw [HPL.out, if_neg (by rw [HE4.out]; decide), if_neg (by rw [HI4.out]; decide)], HB5.out⟩
      · have h0' : (ck == 0) = false := by rw [beq_eq_false_iff_ne]; exact h0
        have HE : Hid (postE ns n = ck) := by
          show _ = _
          have := HCK.out
          rw [HPE.out]
          by_cases h : chkRel ns = 0
          · rw [if_neg (by simpa using h)] at this ⊢
            rw [if_pos (by rw [this]; exact h0)]; exact this
          · rw [if_pos h] at this ⊢; exact this
        have HI4 : Hid (postI ns n = false) := by
          show _ = _
          rw [HPI.out, HE.out]; simp [h0]
        have H0 := hidE h0
        clear h0
        go_wp2_with fail
        go_meet
        exact ⟨a, c, ns, by rw [HE.out], by rw [HI4.out], rfl, HA.out.below HB4.out, fun h => by rw [HE.out] at h; exact absurd h H0.out, Below.refl _ _⟩
    case rest =>
      obtain ⟨pw, cw, L, rfl, rfl, rfl, hW, hL, hb5⟩ := hcut
      have HX5 := hidE (HX4.out.thruB hb5)
      have HY5 := hidE (HY4.out.thruB hb5)
      have HZ5 := hidE (HZ4.out.thruB hb5)
      have HB5 := hidE (HB4.out.thru hb5 HB4.out.size)
      have HP5 := hidE (HP4.out.below hb5)
      have HL5 := hidE (HL4.out.below hb5)
      have HW5 := hidE hW
      have HWL := hidE hL
      clear hb5 hW hL HX4 HY4 HZ4 HB4 HP4 HL4 x0 y0 y1 y2 y3
      go_upto_if 83 with fail
      go_cut [18] (fun t wc' => ∃ pw' cw', t = .slice pw' (postL ns n).length cw' ∧ NotesAt wc' pw' (postL ns n) ∧ Below wc.heap.size wc wc')
      case first => as_aux_lemma =>
        by_cases h0 : postE ns n = 0
        · have h0' : (postE ns n != 0) = false := by rw [h0]; rfl
          have H0 := hidE h0
          clear h0
          go_wp2_with fail
          go_meet
          exact ⟨pw, cw, by rw [HWL.out H0.out], by rw [← HWL.out H0.out]; exact HW5.out, Below.refl _ _⟩
        · have h0' : (postE ns n != 0) = true := by rw [bne_iff_ne]; exact h0
          have H0 := hidE h0
          clear h0
          go_wp2_with fail
          go_meet
          exact ⟨none, 0, by rw [HPL.out, if_pos H0.out]; rfl, Or.inl (by rw [HPL.out, if_pos H0.out]), Below.refl _ _⟩
      case rest =>
        obtain ⟨pw', cw', rfl, hW, hb6⟩ := hcut
        have HX6 := hidE (HX5.out.thruB hb6)
        have HZ6 := hidE (HZ5.out.thruB hb6)
        have HB6 := hidE (HB5.out.thru hb6 HB5.out.size)
        have HP6 := hidE (HP5.out.below hb6)
        have HL6 := hidE (HL5.out.below hb6)
        have HW6 := hidE hW
        clear hb6 hW HX5 HY5 HZ5 HB5 HP5 HL5 HW5 HWL
        have x0 := HX6.out.is 0 rfl
        generalize hbd : decide (chkRel ns = 0 ∧ (cu < 0 ∨ (ns.length : Int) < cu ∨ ma < 0 ∨ 300 < ma)) = bd
        have HBD := hidE hbd
        clear hbd
        go_upto_region 20 with fail
        go_cut [104] (fun t wd => t = .bool bd ∧ wd = wc)
        case first => as_aux_lemma =>
          rcases HR0.out with h0 | h0
          · have h0' : (chkRel ns == 0) = true := by rw [h0]; rfl
            have HH0 := hidE h0
            clear h0
            by_cases c1 : cu < 0
            · have HD : Hid (bd = true) := by
                show _ = _
                rw [← HBD.out]; exact decide_eq_true ⟨HH0.out, Or.inl c1⟩
              go_wp2_with fail
              go_meet
              exact ⟨by rw [HD.out], rfl⟩
            by_cases c2 : cu > (ns.length : Int)
            · have HD : Hid (bd = true) := by
                show _ = _
                rw [← HBD.out]; exact decide_eq_true ⟨HH0.out, Or.inr (Or.inl c2)⟩
              go_wp2_with fail
              go_meet
              exact ⟨by rw [HD.out], rfl⟩
            by_cases c3 : ma < 0
            · have HD : Hid (bd = true) := by
                show _ = _
                rw [← HBD.out]; exact decide_eq_true ⟨HH0.out, Or.inr (Or.inr (Or.inl c3))⟩
              go_wp2_with fail
              go_meet
              exact ⟨by rw [HD.out], rfl⟩
            by_cases c4 : ma > 300
            · have HD : Hid (bd = true) := by
                show _ = _
                rw [← HBD.out]; exact decide_eq_true ⟨HH0.out, Or.inr (Or.inr (Or.inr c4))⟩
              go_wp2_with fail
              go_meet
              exact ⟨by rw [HD.out], rfl⟩
            · have HD : Hid (bd = false) := by
                show _ = _
                rw [← HBD.out]; exact decide_eq_false (by omega)
              go_wp2_with fail
              go_meet
              exact ⟨by rw [HD.out], rfl⟩
          · have h0' : (chkRel ns == 0) = false := by rw [beq_eq_false_iff_ne]; exact h0
            have HD : Hid (bd = false) := by
              show _ = _
              rw [← HBD.out]; exact decide_eq_false (fun h => h0 h.1)
            have HH0 := hidE h0
            clear h0
            go_wp2_with fail
            go_meet
            exact ⟨by rw [HD.out], rfl⟩
        case rest =>
          obtain ⟨rfl, rfl⟩ := hcut
          go_upto_if 104 with fail
          go_cut [16] (fun t we => t = .int .i64 (pullE ns cu ma) ∧ we = wc)
          case first => as_aux_lemma =>
            cases bd with
            | true =>
              have h1 := of_decide_eq_true HBD.out
              have HD : Hid (pullE ns cu ma = 3) := by
                show _ = _
                rw [HLE.out, if_neg (by simpa using h1.1), if_pos h1.2]
              clear h1
              go_wp2_with fail
              go_meet
              exact ⟨by rw [HD.out], rfl⟩
            | false =>
              have h1 := of_decide_eq_false HBD.out
              have HD : Hid (pullE ns cu ma = chkRel ns) := by
                show _ = _
                rw [HLE.out]
                by_cases h : chkRel ns = 0
                · rw [if_neg (by simpa using h), if_neg (fun h2 => h1 ⟨h, h2⟩), h]
                · rw [if_pos h]
              clear h1
              go_wp2_with fail
              go_meet
              exact ⟨by rw [HD.out], rfl⟩
          case rest =>
            obtain ⟨rfl, rfl⟩ := hcut
            go_wp2_with fail
            go_loopw [20, 21] (fun t20 t21 wr => ∃ (i : Nat) (rs : List RN) (pv : Option Addr) (cv : Nat), t21 = .int .i64 i ∧ t20 = .slice pv i cv ∧ i ≤ (pullL ns cu ma).length ∧ rs.map RN.n = (pullL ns cu ma).take i ∧ wr.ownsRow wc.heap.size 28 4 (.slice pv i cv) i (rs.flatMap RN.cells) ∧ (∀ r ∈ rs, NtAt w r.n r.p r.q) ∧ Below wc.heap.size wc wr) (fun t20 t21 _ => (pullL ns cu ma).length - (intOf t21).toNat)
            case atStart => exact ⟨0, [], none, 0, rfl, rfl, Nat.zero_le _, rfl, World.ownsRow_nil _ _ _ _, fun r h => by simp at h, Below.refl _ _⟩
            case round =>
              obtain ⟨i, rs, pv, cv, rfl, rfl, hi, hm, hO, hN, hb⟩ := hrel
              have hrl : rs.length = i := by rw [← List.length_map RN.n, hm, List.length_take]; omega
              rcases Nat.lt_or_ge i (pullL ns cu ma).length with hlt | hge
              · have h0 : pullE ns cu ma = 0 := by
                  rcases Classical.em (pullE ns cu ma = 0) with h | h
                  · exact h
                  · rw [HLL.out, if_pos h] at hlt; simp at hlt
                have h0' : (pullE ns cu ma == 0) = true := by rw [h0]; rfl
                have hbn : chkRel ns = 0 ∧ 0 ≤ cu ∧ cu ≤ (ns.length : Int) ∧ 0 ≤ ma ∧ ma ≤ 300 := by
                  rw [HLE.out] at h0
                  split at h0
                  · contradiction
                  · next h1 =>
                    split at h0
                    · cases h0
                    · exact ⟨by simpa using h1, by omega⟩
                have hll : pullL ns cu ma = (ns.drop cu.toNat).take ma.toNat := by rw [HLL.out, if_neg (by simpa using h0)]
                obtain ⟨hr0, hc0, hc1, hm0, hm1⟩ := hbn
                have hl3 := HRL.out hr0
                obtain ⟨k, rfl⟩ : ∃ k : Nat, cu = (k : Int) := ⟨cu.toNat, by omega⟩
                have hln : (pullL ns k ma).length = min ma.toNat (ns.length - k) := by rw [hll]; simp
                have hki : k + i < ns.length := by omega
                have hpi : (pullL ns k ma)[i] = ns[k + i] := by simp [hll]
                have hi1 : (i : Int) < ma := by omega
                have hi2 : (k : Int) + (i : Int) < (ns.length : Int) := by omega
                have hi3 : (0 : Int) ≤ (k : Int) + (i : Int) := by omega
                have HTK : Hid ((pullL ns k ma).take (i + 1) = (pullL ns k ma).take i ++ [ns[k + i]]) := by
                  show _ = _
                  rw [List.take_succ_eq_append_getElem hlt, hpi]
                have hBr := HB6.out.thru hb HB6.out.size
                rcases HA.out.below hBr with e0 | ⟨b, o, rfl, hlb, hc⟩
                · rw [e0] at hki; simp at hki
                obtain ⟨p1, cp1, q1, cq1, c0, c1, c2, c3, _⟩ := hc (k + i) hki
                obtain ⟨p2, cp2, q2, cq2, d0, d1, d2, d3, hDN⟩ : ∃ p2 cp2 q2 cq2, wr.cell? ⟨b, o + (k + i) * 4, none⟩ = some (.int .i64 ns[k + i].site) ∧ wr.cell? ⟨b, o + (k + i) * 4 + 1, none⟩ = some (.int .i64 ns[k + i].number) ∧ wr.cell? ⟨b, o + (k + i) * 4 + 2, none⟩ = some (.slice p2 ns[k + i].needs.length cp2) ∧ wr.cell? ⟨b, o + (k + i) * 4 + 3, none⟩ = some (.slice q2 ns[k + i].deeds.length cq2) ∧ NtAt w ns[k + i] p2 q2 := by
                  rcases HA.out with e0 | ⟨b', o', e1, hlb', hc'⟩
                  · rw [e0] at hki; simp at hki
                  simp only [Option.some.injEq, Addr.mk.injEq, and_true] at e1
                  obtain ⟨rfl, rfl⟩ := e1
                  obtain ⟨p2, cp2, q2, cq2, d0, d1, d2, d3, hD⟩ := hc' (k + i) hki
                  have kk := fun j => hBr.cell (p := ⟨b, j, none⟩) hlb'
                  exact ⟨p2, cp2, q2, cq2, (kk _).trans d0, (kk _).trans d1, (kk _).trans d2, (kk _).trans d3, hD⟩
                clear c0 c1 c2 c3 hc
                have HDN := hidE hDN
                have HO := hidE hO
                have HM := hidE hm
                have HRN := hidE hN
                have HB := hidE hb
                have HHL := hidE hlt
                have HHI := hidE hi
                have hbs := hb.size
                have x0r := ((HX6.out.thruB hb).is 0 rfl)
                obtain ⟨i0, hi0, hz0, hz1, hz2⟩ := infoCN
                clear hDN hO hm hN hb hlt hi h0 hr0 hln hpi hll x0
                generalize ns[k + i] = x at *
                go_wp2_with (at_builtin; refine wpList_append_own _ rfl _ _ 22 rfl wc.heap.size 28 i0 (.agg #[.int .i64 0, .int .i64 0, .slice none 0 0, .slice none 0 0]) 4 64 Try.underlying22 hi0 hz0 hz1 hz2 rfl (by decide) _ _ _ rfl (HO.out.alloc _) ⟨wr.heap.size, 0, none⟩ 1 1 (RN.cells ⟨x, p2, q2, cp2, cq2⟩) rfl rfl ?qa1 ?qa2 ?qa3 ?qa4 ?qa5 ?_)
                case qa1 => intro j u hj; rw [Addr.add_lit, Nat.zero_add, World.cell?_alloc_new]; simpa [RN.cells] using hj
                case qa2 => exact fun u hu => rn_one [⟨x, p2, q2, cp2, cq2⟩] u (by simpa using hu)
                case qa3 => unfold maxLen; omega
                case qa4 => omega
                case qa5 => simp; omega
                intro v' w5 hown5 hgrow _
                obtain ⟨p5, c5, rfl⟩ := owns_sl hown5
                have hb5 := (HB.out.alloc hbs (Obj.cells #[.int .i64 x.site, .int .i64 x.number, .slice p2 x.needs.length cp2, .slice q2 x.deeds.length cq2] 28)).grown hgrow (by simp; omega) (fun j hj => (HO.out.lt j hj).1)
                go_wp2_with fail
                go_roundw
                case rel => exact ⟨i + 1, rs ++ [⟨x, p2, q2, cp2, cq2⟩], p5, c5, by go_num, rfl, HHL.out, by rw [List.map_append, HM.out, HTK.out]; rfl, by rw [List.flatMap_append]; simpa using hown5, fun r hr => by
                  rcases List.mem_append.1 hr with h | h
                  · exact HRN.out r h
                  · rw [List.mem_singleton.1 h]; exact HDN.out, hb5⟩
                case measure => (have := HHL.out; simp [intOf]; omega)
              · obtain rfl : i = (pullL ns cu ma).length := by omega
                rw [List.take_length] at hm
                have hBr := HB6.out.thru hb HB6.out.size
                have HQ := hidE (hm ▸ notes_ro hO hrl (fun r hr => (hN r hr).below hBr))
                have HX7 := hidE (HX6.out.thruB hb)
                have HZ7 := hidE (HZ6.out.thruB hb)
                have HB7 := hidE hBr
                have HP7 := hidE (HP6.out.below hb)
                have HL7 := hidE (HL6.out.below hb)
                have HW7 := hidE (HW6.out.below hb)
                clear hO hm hN hrl hb hBr hi hge HX6 HZ6 HB6 HP6 HL6 HW6 x0
                go_upto_region 24 with fail
                go_cut [120] (fun t we => t = .bool false ∧ we = wr)
                case first => as_aux_lemma =>
                  by_cases h0 : pullE ns cu ma = 0
                  · have h0' : (pullE ns cu ma == 0) = true := by rw [h0]; rfl
                    have hbn : chkRel ns = 0 ∧ 0 ≤ cu ∧ cu ≤ (ns.length : Int) ∧ 0 ≤ ma ∧ ma ≤ 300 := by
                      rw [HLE.out] at h0
                      split at h0
                      · contradiction
                      · next h1 =>
                        split at h0
                        · cases h0
                        · exact ⟨by simpa using h1, by omega⟩
                    have hll : pullL ns cu ma = (ns.drop cu.toNat).take ma.toNat := by rw [HLL.out, if_neg (by simpa using h0)]
                    obtain ⟨hr0, hc0, hc1, hm0, hm1⟩ := hbn
                    have hl3 := HRL.out hr0
                    have hln : (pullL ns cu ma).length = min ma.toNat (ns.length - cu.toNat) := by rw [hll]; simp
                    have x0 := HX7.out.is 0 rfl
                    have H0 := hidE h0
                    clear h0 hll hr0
                    by_cases c1 : ((pullL ns cu ma).length : Int) < ma
                    · have c2 : ¬ (cu + ((pullL ns cu ma).length : Int) < (ns.length : Int)) := by omega
                      have HLN := hidE hln
                      clear hln
                      go_wp2_with fail
                      go_meet
                      exact ⟨rfl, rfl⟩
                    · have HLN := hidE hln
                      clear hln
                      go_wp2_with fail
                      go_meet
                      exact ⟨rfl, rfl⟩
                  · have h0' : (pullE ns cu ma == 0) = false := by rw [beq_eq_false_iff_ne]; exact h0
                    have H0 := hidE h0
                    clear h0
                    go_wp2_with fail
                    go_meet
                    exact ⟨rfl, rfl⟩
                case rest =>
                  obtain ⟨rfl, rfl⟩ := hcut
                  have HSL := hidE (Nat.le_trans HPC.out.1 HPC.out.2)
                  have HSM := hidE (Nat.le_trans HLC.out.1 HLC.out.2)
                  clear HPE HPI HPL HLE HLL HRL HR0 HCK HPC HLC HBD
                  generalize hPN : postL ns n = PN at *
                  generalize hLN : pullL ns cu ma = LN at *
                  clear hPN hLN
                  generalize postE ns n = e1 at *
                  generalize postI ns n = e2 at *
                  generalize pullE ns cu ma = e3 at *
                  have hC : Below wc.heap.size wc wc := Below.refl _ _
                  have x0 := HX7.out.is 0 rfl
                  have z0 := HZ7.out.is 0 rfl
                  go_wp2_with (first
                    | (go_at_call 9; refine (HBG.out _).mono ?_; rintro e w8 ⟨rfl, hb8⟩; replace hC := hC.thru hb8 hC.size; have x0 := (HX7.out.thruB hC).is 0 rfl; have z0 := (HZ7.out.thruB hC).is 0 rfl)
                    | (go_at_call 10; refine (HK.out _ (HB7.out.thru hC HB7.out.size)).mono ?_; rintro e w8 ⟨rfl, hb8⟩; replace hC := hC.thru hb8 hC.size; have x0 := (HX7.out.thruB hC).is 0 rfl; have z0 := (HZ7.out.thruB hC).is 0 rfl)
                    | (go_at_call 11; refine (sameNotes_true _ _ _ _ _ _ (by first | exact HSL.out | exact HSM.out) (by first | exact HP7.out.below hC | exact HL7.out.below hC) (by first | exact HW7.out.below hC | exact HQ.out.below hC)).mono ?_; rintro e w8 ⟨rfl, hb8⟩; replace hC := hC.thru hb8 hC.size))
                  go_ret
                  exact ⟨by simp, HB7.out.thru hC HB7.out.size⟩
end Go.Proofs.Ytnhjebdlcbhkcaf
