/- Contract of seen.Ready. -/
import Derived.Test.YtlpfnpkmgkbngaeSeenJ
import Derived.Test.YtlpfnpkmgkbngaeNoteC
import Derived.Deep.RegionWith
namespace Go.Proofs.Ytlpfnpkmgkbngae
open Go.RowKit

def errR (l : List Int) (n : Nt) : Int := orE (chkSeen l) (chkN n)
/-- may a note that is right be done? -/
def mayR (l : List Int) (n : Nt) : Bool := covL l n.needs && decide (l.getD n.site.toNat 0 = needOf n n.site)
def readyOf (l : List Int) (n : Nt) : Bool := decide (errR l n = 0) && mayR l n

theorem chkN_zero {n : Nt} (h : chkN n = 0) : 0 ≤ n.site ∧ n.site < 5 ∧ n.needs.length = 5 ∧ okNums n.needs = true ∧ needOf n n.site = n.number - 1 ∧ 1 ≤ n.number ∧ n.number ≤ 500 ∧ 0 < n.deeds.length ∧ n.deeds.length ≤ 20 ∧ chkDl n.deeds = 0 := by
  unfold chkN at h
  by_cases hs : siteBad n = true
  · rw [if_pos hs] at h; cases h
  rw [if_neg hs] at h
  by_cases h1 : n.needs.length = 5
  case neg => rw [if_pos h1] at h; cases h
  rw [if_neg (by simpa using h1)] at h
  cases h2 : okNums n.needs
  · rw [if_pos h2] at h; cases h
  rw [if_neg (by rw [h2]; decide)] at h
  by_cases h3 : needOf n n.site = n.number - 1
  case neg => rw [if_pos h3] at h; cases h
  rw [if_neg (by simpa using h3)] at h
  by_cases h4 : n.deeds.length = 0
  · rw [if_pos h4] at h; cases h
  rw [if_neg h4] at h
  by_cases h5 : 20 < n.deeds.length
  · rw [if_pos h5] at h; cases h
  rw [if_neg h5] at h
  unfold siteBad at hs
  simp only [Bool.or_eq_true, decide_eq_true_eq] at hs
  exact ⟨by omega, by omega, h1, rfl, h3, by omega, by omega, by omega, by omega, h⟩

set_option maxRecDepth 100000 in
set_option maxHeartbeats 4000000 in
theorem seenReady_any (a : Option Addr) (cap : Nat) (l : List Int) (n : Nt) (p q : Option Addr) (cp cq : Nat) (w : World) (hl : l.length ≤ maxLen) (h : IntsAt w a l) (hn : NtAt w n p q) :
    Calls Try.prog 8 #[.slice a l.length cap, ntV n p q cp cq] w fun e w' => e = .returned (.tuple #[.bool (readyOf l n), .int .i64 (errR l n)]) ∧ Below w.heap.size w w' := by
  have HW := hidE (fun (W : World) (hb : NtAt W n p q) => wireCheck_any n p q cp cq W hb)
  have HE : Hid (errR l n = orE (chkSeen l) (chkN n)) := rfl
  have HZ0 := hidE (@chkN_zero n)
  have HR : Hid (readyOf l n = (decide (errR l n = 0) && (covL l n.needs && decide (l.getD n.site.toNat 0 = needOf n n.site)))) := rfl
  have HNO : Hid (needOf n n.site = n.needs.getD n.site.toNat 0) := rfl
  obtain ⟨site, number, needs, deeds⟩ := n
  unfold ntV at HW ⊢
  simp only at HW HR HZ0 HNO ⊢
  have hB := (Below.refl w.heap.size w).alloc (Nat.le_refl _) (Obj.cells #[.int .i64 site, .int .i64 number, .slice p needs.length cp, .slice q deeds.length cq] 25)
  have q0 : (w.alloc (Obj.cells #[.int .i64 site, .int .i64 number, .slice p needs.length cp, .slice q deeds.length cq] 25)).cell? ⟨w.heap.size, 0, none⟩ = some (.int .i64 site) := by simp
  have q1 : (w.alloc (Obj.cells #[.int .i64 site, .int .i64 number, .slice p needs.length cp, .slice q deeds.length cq] 25)).cell? ⟨w.heap.size, 1, none⟩ = some (.int .i64 number) := by simp
  have q2 : (w.alloc (Obj.cells #[.int .i64 site, .int .i64 number, .slice p needs.length cp, .slice q deeds.length cq] 25)).cell? ⟨w.heap.size, 2, none⟩ = some (.slice p needs.length cp) := by simp
  have q3 : (w.alloc (Obj.cells #[.int .i64 site, .int .i64 number, .slice p needs.length cp, .slice q deeds.length cq] 25)).cell? ⟨w.heap.size, 3, none⟩ = some (.slice q deeds.length cq) := by simp
  have z : w.heap.size < (w.alloc (Obj.cells #[.int .i64 site, .int .i64 number, .slice p needs.length cp, .slice q deeds.length cq] 25)).heap.size := by simp
  replace h := h.below hB
  replace hn := hn.below hB
  go_enter Try.func8, Try.ntmps8
  go_upto_region 1 with fail
  generalize w.alloc (Obj.cells #[.int .i64 site, .int .i64 number, .slice p needs.length cp, .slice q deeds.length cq] 25) = W at hB q0 q1 q2 q3 z h hn ⊢
  generalize hzz : w.heap.size = Z at hB q0 q1 q2 q3 z ⊢
  have HZ := hidE hzz
  clear hzz
  have hB0 := hidE hB
  have hW1 : Below W.heap.size W W.drew := (Below.refl _ _).drew
  have HS := hidE (seenCheck_any a cap l W.drew hl (h.below hW1))
  go_region_with (first
    | (go_at_call 13; refine HS.out.mono ?_; rintro e w1 ⟨rfl, hb1⟩; replace hb1 := hW1.thru hb1 hW1.size; have r0 := (hb1.cell (p := ⟨Z, 0, none⟩) z).trans q0; have r1 := (hb1.cell (p := ⟨Z, 1, none⟩) z).trans q1; have r2 := (hb1.cell (p := ⟨Z, 2, none⟩) z).trans q2; have r3 := (hb1.cell (p := ⟨Z, 3, none⟩) z).trans q3; have z1 := Nat.lt_of_lt_of_le z hb1.size)
    | (go_at_call 21; refine (HW.out _ (hn.below hb1)).mono ?_; rintro e w2 ⟨rfl, hb2⟩; replace hb2 := hb1.thru hb2 hb1.size)
    | (go_at_call 17; refine (orE_any _ _ (chkSeen l) (chkN ⟨site, number, needs, deeds⟩) _ (by simp) (by simp)).mono ?_; rintro e w3 ⟨rfl, rfl⟩))
  all_goals
    replace hB := hB.thru hb2 (Nat.le_of_lt z)
    have z2 := Nat.lt_of_lt_of_le z hb2.size
    have hb3 : Below W.heap.size W (w2.alloc (Obj.cells #[.int .i64 (chkSeen l), .int .i64 (chkN ⟨site, number, needs, deeds⟩)] 26)) := hb2.alloc hb2.size _
    rw [← HE.out]
    generalize w2.alloc (Obj.cells #[.int .i64 (chkSeen l), .int .i64 (chkN ⟨site, number, needs, deeds⟩)] 26) = w3 at hb3 ⊢
    replace q0 := (hb3.cell (p := ⟨Z, 0, none⟩) z).trans q0
    replace q2 := (hb3.cell (p := ⟨Z, 2, none⟩) z).trans q2
    replace hB := hB0.out.thru hb3 (Nat.le_of_lt z)
    replace h := h.below hb3
    replace hn := hn.below hb3
    have z3 := Nat.lt_of_lt_of_le z hb3.size
    clear hb1 hb2 hb3 r0 r1 r2 r3 q1 q3 z1 z2 HW HS hW1
    by_cases he : errR l ⟨site, number, needs, deeds⟩ = 0
    · have HE0 := hidE he
      rw [he]
      have hk1 : chkSeen l = 0 ∧ chkN ⟨site, number, needs, deeds⟩ = 0 := by
        rw [HE.out] at he
        unfold orE at he
        by_cases e : chkSeen l = 0
        · rw [if_neg (by simpa using e)] at he; exact ⟨e, he⟩
        · rw [if_pos e] at he; exact absurd he e
      have h5 := (chkSeen_zero hk1.1).1
      obtain ⟨s0, s1, hn5, _⟩ := HZ0.out hk1.2
      obtain ⟨s, rfl⟩ : ∃ s : Nat, site = s := ⟨site.toNat, by omega⟩
      have HCV := hidE (fun (d : World) (hh : IntsAt d a l) (hh' : IntsAt d p needs) => covers_any a p cap cp l needs d h5 hn5 hh hh')
      have H1 := hidE (fun d os => h.below (below_regrown w3 d os))
      have H2 := hidE (fun d os => hn.needs.below (below_regrown w3 d os))
      rcases h with e | ⟨b, o, rfl, hbl, hc⟩
      · rw [e] at h5; simp at h5
      have hnn : IntsAt w3 p needs := hn.needs
      rcases hnn with e | ⟨b', o', e, hbl', hc'⟩
      · rw [e] at hn5; simp at hn5
      subst e
      have HG1 : Hid (l.getD (s : Int).toNat 0 = l[s]) := by show _ = _; simp [List.getD, List.getElem?_eq_getElem (show s < l.length by omega)]
      have HG2 : Hid (needs.getD (s : Int).toNat 0 = needs[s]) := by show _ = _; simp [List.getD, List.getElem?_eq_getElem (show s < needs.length by omega)]
      have c0 := hc s (by omega)
      have c1 := hc' s (by omega)
      generalize l[s] = x at c0 HG1
      generalize needs[s] = y at c1 HG2
      have HF : Hid (readyOf l ⟨s, number, needs, deeds⟩ = (covL l needs && (x == y))) := by
        show _ = _
        rw [HR.out, decide_eq_true he, HG1.out, HNO.out, HG2.out]
        rfl
      rw [h5] at *
      rw [hn5] at *
      clear hc hc' hn he hk1 HR HG1 HG2 HNO HZ0 HE
      have hsi : (s : Int) < 5 := by omega
      have k0 := cell_regrown q0
      have k2 := cell_regrown q2
      have k4 := cell_regrown c0
      have k5 := cell_regrown c1
      generalize hcv : covL l needs = cv at HCV HF
      clear hcv
      go_upto_region 4 with fail
      cases cv
      all_goals
        refine wp_region_quiet_below (by kernel_rfl) (by kernel_rfl) ?_
        repeat (first | go_big_quiet_step ((go_at_call 20; exact Calls.regrown_of (HCV.out _ (H1.out _ _) (H2.out _ _)))) | quiet_step ((go_at_call 20; exact Calls.regrown_of (HCV.out _ (H1.out _ _) (H2.out _ _)))))
        refine wpQuiet_nil ?_
        intro _ hw'
        obtain ⟨⟨dq, osq⟩, hw''⟩ := hw'
        subst hw''
        replace hB := hB.thru (below_regrown w3 dq osq) (Nat.le_of_lt z3)
        go_wp2_with fail
        go_ret2
        rw [HZ.out]
        exact ⟨by rw [HF.out, HE0.out]; rfl, hB⟩
    · have HJ : Hid (readyOf l ⟨site, number, needs, deeds⟩ = false) := by show _ = _; rw [HR.out, decide_eq_false he]; rfl
      have heb : (errR l ⟨site, number, needs, deeds⟩ != 0) = true := by rw [bne_iff_ne]; exact he
      clear he
      go_wp2_with fail
      go_ret2
      rw [HZ.out]
      exact ⟨by rw [HJ.out]; rfl, hB⟩
end Go.Proofs.Ytlpfnpkmgkbngae
