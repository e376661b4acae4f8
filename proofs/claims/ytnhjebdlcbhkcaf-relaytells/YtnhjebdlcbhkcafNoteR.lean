/- The reference's CheckNote. -/
import Derived.Test.YtnhjebdlcbhkcafNoteC
import Derived.Test.YtnhjebdlcbhkcafDeedR
import Derived.Test.YtnhjebdlcbhkcafSeenR
namespace Go.Proofs.Ytnhjebdlcbhkcaf
open Go.RowKit

theorem siteBad_in (n : Nt) : siteBad n = (!inB n.site 0 4 || !inB n.number 1 500) := by
  rw [Bool.eq_iff_iff]
  simp [siteBad, inB]
  omega

set_option maxRecDepth 100000 in
set_option maxHeartbeats 4000000 in
theorem checkNote_any (n : Nt) (p q : Option Addr) (cp cq : Nat) (w : World) (h : NtAt w n p q) :
    Calls Try.prog 7 #[ntV n p q cp cq] w fun e w' => e = .returned (.int .i64 (chkN n)) ∧ Below w.heap.size w w' := by
  have HSB := hidE (siteBad_in n)
  obtain ⟨site, number, needs, deeds⟩ := n
  obtain ⟨h1, h2, h3, h4⟩ := h
  unfold ntV
  simp only at h1 h2 h3 h4 HSB ⊢
  have hB := (Below.refl w.heap.size w).alloc (Nat.le_refl _) (Obj.cells #[.int .i64 site, .int .i64 number, .slice p needs.length cp, .slice q deeds.length cq] 28)
  have q0 : (w.alloc (Obj.cells #[.int .i64 site, .int .i64 number, .slice p needs.length cp, .slice q deeds.length cq] 28)).cell? ⟨w.heap.size, 0, none⟩ = some (.int .i64 site) := by simp
  have q1 : (w.alloc (Obj.cells #[.int .i64 site, .int .i64 number, .slice p needs.length cp, .slice q deeds.length cq] 28)).cell? ⟨w.heap.size, 1, none⟩ = some (.int .i64 number) := by simp
  have q2 : (w.alloc (Obj.cells #[.int .i64 site, .int .i64 number, .slice p needs.length cp, .slice q deeds.length cq] 28)).cell? ⟨w.heap.size, 2, none⟩ = some (.slice p needs.length cp) := by simp
  have q3 : (w.alloc (Obj.cells #[.int .i64 site, .int .i64 number, .slice p needs.length cp, .slice q deeds.length cq] 28)).cell? ⟨w.heap.size, 3, none⟩ = some (.slice q deeds.length cq) := by simp
  have z : w.heap.size < (w.alloc (Obj.cells #[.int .i64 site, .int .i64 number, .slice p needs.length cp, .slice q deeds.length cq] 28)).heap.size := by simp
  replace h1 := h1.below hB
  replace h2 := h2.below hB
  go_enter Try.func7, Try.ntmps7
  go_upto_region 1 with fail
  generalize w.alloc (Obj.cells #[.int .i64 site, .int .i64 number, .slice p needs.length cp, .slice q deeds.length cq] 28) = W at hB q0 q1 q2 q3 z h1 h2 ⊢
  generalize hzz : w.heap.size = Z at hB q0 q1 q2 q3 z ⊢
  have HZ := hidE hzz
  clear hzz
  cases hs1 : inB site 0 4
  · have HF : Hid (chkN ⟨site, number, needs, deeds⟩ = 3) := by show _ = _; unfold chkN; rw [if_pos (by rw [HSB.out, hs1]; rfl)]
    have H1 := hidE hs1
    clear hs1
    go_wp2_with (go_at_call 17; refine (between_any _ _ _ _).mono ?_; rintro e w' ⟨rfl, hw⟩; replace hw := hw.symm; subst hw; rw [H1.out])
    go_ret
    rw [HZ.out]
    exact ⟨ret_int HF.out.symm, hB⟩
  cases hs2 : inB number 1 500
  · have HF : Hid (chkN ⟨site, number, needs, deeds⟩ = 3) := by show _ = _; unfold chkN; rw [if_pos (by rw [HSB.out, hs1, hs2]; rfl)]
    have H1 := hidE hs1
    have H2 := hidE hs2
    clear hs1 hs2
    go_wp2_with (go_at_call 17; refine (between_any _ _ _ _).mono ?_; rintro e w' ⟨rfl, hw⟩; replace hw := hw.symm; subst hw; first | rw [H1.out] | rw [H2.out])
    go_ret
    rw [HZ.out]
    exact ⟨ret_int HF.out.symm, hB⟩
  have HC1 : Hid (chkN ⟨site, number, needs, deeds⟩ = if needs.length ≠ 5 then 1 else if okNums needs = false then 3 else if needOf ⟨site, number, needs, deeds⟩ site ≠ number - 1 then 4 else if deeds.length = 0 then 1 else if 20 < deeds.length then 2 else chkDl deeds) := by show _ = _; unfold chkN; rw [if_neg (by rw [HSB.out, hs1, hs2]; decide)]
  have H1 := hidE hs1
  have H2 := hidE hs2
  have s1 : 0 ≤ site ∧ site < 5 ∧ 1 ≤ number ∧ number ≤ 500 := by
    simp [inB] at hs1 hs2
    omega
  clear hs1 hs2
  by_cases hn5 : needs.length = 5
  case neg =>
    have HF : Hid (chkN ⟨site, number, needs, deeds⟩ = 1) := by show _ = _; rw [HC1.out, if_pos hn5]
    have hd : ((needs.length : Int) != 5) = true := by rw [bne_iff_ne]; omega
    clear HC1 hn5 s1
    go_wp2_with (go_at_call 17; refine (between_any _ _ _ _).mono ?_; rintro e w' ⟨rfl, hw⟩; replace hw := hw.symm; subst hw; first | rw [H1.out] | rw [H2.out])
    go_ret
    rw [HZ.out]
    exact ⟨ret_int HF.out.symm, hB⟩
  have HC2 : Hid (chkN ⟨site, number, needs, deeds⟩ = if okNums needs = false then 3 else if needOf ⟨site, number, needs, deeds⟩ site ≠ number - 1 then 4 else if deeds.length = 0 then 1 else if 20 < deeds.length then 2 else chkDl deeds) := by show _ = _; rw [HC1.out, if_neg (by simpa using hn5)]
  rw [hn5] at q2
  clear HC1
  rcases h1 with e | ⟨b, o, rfl, hbl, hc⟩
  · rw [e] at hn5; simp at hn5
  have HL := hidE hn5
  have HS1 := hidE s1
  have HHC := hidE hc
  clear hn5 s1 hc
  go_wp2_with (go_at_call 17; refine (between_any _ _ _ _).mono ?_; rintro e w' ⟨rfl, hw⟩; replace hw := hw.symm; subst hw; first | rw [H1.out] | rw [H2.out])
  go_loopw [3] (fun i wr => ∃ k : Nat, k ≤ 5 ∧ i = .int .i64 k ∧ okNums needs = okNums (needs.drop k) ∧ wr = W) (fun i _ => 5 - (intOf i).toNat)
  case atStart => exact ⟨0, Nat.zero_le _, rfl, by simp, rfl⟩
  case round =>
    obtain ⟨k, hk, rfl, hck, rfl⟩ := hrel
    have HK := hidE hck
    clear hck
    by_cases hlt : k < 5
    · have hlt' : k < needs.length := by have := HL.out; omega
      have c0 := HHC.out k hlt'
      have HD := hidE (okNums_drop hlt')
      have hi1 : (k : Int) < 5 := by omega
      have HE : Hid (okNum needs[k] = inB needs[k] 0 500) := rfl
      generalize needs[k] = x at c0 HD HE
      clear HHC
      cases hx : inB x 0 500
      · have HF : Hid (chkN ⟨site, number, needs, deeds⟩ = 3) := by show _ = _; rw [HC2.out, if_pos (by rw [HK.out, HD.out, HE.out, hx]; rfl)]
        have HX := hidE hx
        clear hx HD HE HC2 HK
        go_wp2_with (go_at_call 17; refine (between_any _ _ _ _).mono ?_; rintro e w' ⟨rfl, hw⟩; replace hw := hw.symm; subst hw; rw [HX.out])
        go_ret
        rw [HZ.out]
        exact ⟨ret_int HF.out.symm, hB⟩
      · have HN : Hid (okNums needs = okNums (needs.drop (k + 1))) := by show _ = _; rw [HK.out, HD.out, HE.out, hx]; rfl
        have HX := hidE hx
        clear hx HD HE HK
        go_wp2_with (go_at_call 17; refine (between_any _ _ _ _).mono ?_; rintro e w' ⟨rfl, hw⟩; replace hw := hw.symm; subst hw; rw [HX.out])
        go_roundw
        case rel => exact ⟨k + 1, by omega, by go_num, HN.out, trivial⟩
        case measure => simp [intOf]; omega
    · have HC3 : Hid (chkN ⟨site, number, needs, deeds⟩ = if needOf ⟨site, number, needs, deeds⟩ site ≠ number - 1 then 4 else if deeds.length = 0 then 1 else if 20 < deeds.length then 2 else chkDl deeds) := by show _ = _; rw [HC2.out, if_neg (by rw [HK.out, List.drop_eq_nil_of_le (by have := HL.out; omega)]; decide)]
      have hk5 : k = 5 := by omega
      subst hk5
      clear HK HC2 hk
      obtain ⟨s0, s1, s2, s3⟩ := HS1.out
      obtain ⟨s, rfl⟩ : ∃ s : Nat, site = s := ⟨site.toNat, by omega⟩
      have hs5 : s < 5 := by omega
      have HND : Hid (needOf ⟨s, number, needs, deeds⟩ s = needs[s]'(by have := HL.out; omega)) := by
        show _ = _
        unfold needOf
        simp [List.getD, List.getElem?_eq_getElem (show s < needs.length by have := HL.out; omega)]
      have c0 := HHC.out s (by have := HL.out; omega)
      clear HHC
      generalize needs[s]'(by have := HL.out; omega) = x at c0 HND
      have k0 := cell_regrown q0
      have k1 := cell_regrown q1
      have k2 := cell_regrown q2
      have k3 := cell_regrown q3
      have k4 := cell_regrown c0
      have hsi : (s : Int) < 5 := by omega
      have hw1 : IntKind.i64.wrap (number - 1) = number - 1 := by rw [IntKind.wrap_i64] <;> omega
      go_upto_region 10 with fail
      refine wp_region_quiet_below (by kernel_rfl) (by kernel_rfl) ?_
      repeat (first | go_big_quiet_step (fail) | quiet_step (fail))
      refine wpQuiet_nil ?_
      intro _ hw'
      obtain ⟨⟨dq, osq⟩, hw''⟩ := hw'
      subst hw''
      have hb := below_regrown wr dq osq
      dsimp only
      generalize «Sort».grow (redrawn wr dq) osq = w2 at hb ⊢
      replace q3 := (hb.cell (p := ⟨Z, 3, none⟩) z).trans q3
      replace h2 := h2.below hb
      replace hB := hB.thru hb (Nat.le_of_lt z)
      replace z := Nat.lt_of_lt_of_le z hb.size
      clear hb k0 k1 k2 k3 k4 q0 q1 q2 c0 hbl
      cases hx : (x != number - 1)
      case true =>
        have HF : Hid (chkN ⟨s, number, needs, deeds⟩ = 4) := by show _ = _; rw [HC3.out, HND.out, if_pos (by rwa [bne_iff_ne] at hx)]
        clear HC3 HND hx
        go_wp2_with fail
        go_ret
        rw [HZ.out]
        exact ⟨ret_int HF.out.symm, hB⟩
      have HC4 : Hid (chkN ⟨s, number, needs, deeds⟩ = if deeds.length = 0 then 1 else if 20 < deeds.length then 2 else chkDl deeds) := by show _ = _; rw [HC3.out, HND.out, if_neg (fun e => by rw [← bne_iff_ne, hx] at e; cases e)]
      clear HC3 HND hx
      by_cases hd0 : deeds.length = 0
      · have HF : Hid (chkN ⟨s, number, needs, deeds⟩ = 1) := by show _ = _; rw [HC4.out, if_pos hd0]
        rw [hd0] at q3
        clear HC4 hd0
        go_wp2_with fail
        go_ret
        rw [HZ.out]
        exact ⟨ret_int HF.out.symm, hB⟩
      have HC5 : Hid (chkN ⟨s, number, needs, deeds⟩ = if 20 < deeds.length then 2 else chkDl deeds) := by show _ = _; rw [HC4.out, if_neg hd0]
      have hdb : ((deeds.length : Int) == 0) = false := by simpa using hd0
      clear HC4
      by_cases hd20 : (deeds.length : Int) > 20
      · have HF : Hid (chkN ⟨s, number, needs, deeds⟩ = 2) := by show _ = _; rw [HC5.out, if_pos (by omega)]
        clear HC5
        go_wp2_with fail
        go_ret
        rw [HZ.out]
        exact ⟨ret_int HF.out.symm, hB⟩
      have HC6 : Hid (chkN ⟨s, number, needs, deeds⟩ = chkDl deeds) := by show _ = _; rw [HC5.out, if_neg (by omega)]
      clear HC5
      go_wp2_with fail
      go_loopw [4] (fun i wr => ∃ k : Nat, k ≤ deeds.length ∧ i = .int .i64 k ∧ chkDl (deeds.drop k) = chkDl deeds ∧ Below w2.heap.size w2 wr) (fun i _ => deeds.length - (intOf i).toNat)
      case atStart => exact ⟨0, Nat.zero_le _, rfl, rfl, Below.refl _ _⟩
      case round =>
        obtain ⟨k, hk, rfl, hck, hb⟩ := hrel
        have HK := hidE hck
        have r3 := (hb.cell (p := ⟨Z, 3, none⟩) z).trans q3
        clear hck
        by_cases hlt : k < deeds.length
        · rcases h2.below hb with e | ⟨ab, ao, rfl, hab, hc⟩
          · simp [e] at hlt
          have HCD := hidE (chkDl_drop hlt)
          obtain ⟨pp, cp', qq, cq', c0, c1, c2, c3, c4, c5, c6, hDd, hm1, hm2⟩ := hc k hlt
          have hi1 : (k : Int) < deeds.length := by omega
          generalize deeds[k] = dd at *
          clear hc h2
          have HDD := hidE (checkDeed_any dd pp qq cp' cq' wr hDd hm1 hm2)
          unfold ddV at HDD
          go_wp2_with fail
          refine HDD.out.mono ?_
          rintro e w4 ⟨rfl, hb4⟩
          replace hb4 := hb.thru hb4 hb.size
          clear HDD
          by_cases hcd : chkD dd = 0
          · have HN : Hid (chkDl (deeds.drop (k + 1)) = chkDl deeds) := by show _ = _; rw [← HK.out, HCD.out, if_neg (by simpa using hcd)]
            rw [hcd]
            clear hcd HCD
            go_wp2_with fail
            go_roundw
            case rel => exact ⟨k + 1, by omega, by go_num, HN.out, hb4⟩
            case measure => simp [intOf]; omega
          · have HF : Hid (chkN ⟨s, number, needs, deeds⟩ = chkD dd) := by show _ = _; rw [HC6.out, ← HK.out, HCD.out, if_pos hcd]
            have hcb : (chkD dd != 0) = true := by rw [bne_iff_ne]; exact hcd
            clear hcd HCD
            go_wp2_with fail
            go_ret
            rw [HZ.out]
            exact ⟨ret_int HF.out.symm, hB.thru hb4 (Nat.le_of_lt z)⟩
        · have HF : Hid (chkN ⟨s, number, needs, deeds⟩ = 0) := by show _ = _; rw [HC6.out, ← HK.out, List.drop_eq_nil_of_le (by omega)]; rfl
          have hle : ¬ ((k : Int) < deeds.length) := by omega
          go_wp2_with fail
          go_ret
          rw [HZ.out]
          exact ⟨ret_int HF.out.symm, hB.thru hb (Nat.le_of_lt z)⟩
end Go.Proofs.Ytnhjebdlcbhkcaf
