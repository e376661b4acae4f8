/- Contracts of the reference's lastSite, CheckPut. -/
import Derived.Test.YtnhjebdlcbhkcaeGreatCaretPu
import Derived.Test.YtnhjebdlcbhkcaeGreatChkBtw
import Derived.Test.YtnhjebdlcbhkcaeGreatStateCkR
namespace Go.Proofs.YtnhjebdlcbhkcaeGreat
open Go.RowKit

set_option maxHeartbeats 1000000 in
theorem lastSite_any (a : Option Addr) (cap : Nat) (l : List (Int × Int)) (c : Int) (w : World) (h0 : 0 < l.length) (hl : l.length ≤ maxLen) (h : StepsAt w a l) :
    Calls Tryz.prog 108 #[.agg #[.slice a l.length cap, .int .i64 c]] w fun e w' => e = .returned (.int .i64 (lastS l).2) ∧ Below w.heap.size w w' := by
  unfold maxLen at hl
  rcases h with hs | ⟨b, off, rfl, hbl, hc⟩
  · simp [hs] at h0
  obtain ⟨-, q⟩ := hc (l.length - 1) (by omega)
  have hg : l[l.length - 1]'(by omega) = lastS l := by unfold lastS; rw [List.getD_eq_getElem?_getD, List.getElem?_eq_getElem (by omega)]; rfl
  rw [hg] at q
  clear hc hg
  generalize (lastS l).2 = ls at *
  obtain ⟨n, hn⟩ : ∃ n, l.length = n + 1 := ⟨l.length - 1, by omega⟩
  rw [hn] at hl q ⊢
  rw [Nat.add_sub_cancel] at q
  clear hn h0
  have hbA := (Below.refl w.heap.size w).alloc (Nat.le_refl _) (Obj.cells #[.slice (some ⟨b, off, none⟩) (n + 1) cap, .int .i64 c] 42)
  have q' := (hbA.cell (p := ⟨b, off + n * 2 + 1, none⟩) hbl).trans q
  have y0 : (w.alloc (Obj.cells #[.slice (some ⟨b, off, none⟩) (n + 1) cap, .int .i64 c] 42)).cell? ⟨w.heap.size, 0, none⟩ = some (.slice (some ⟨b, off, none⟩) (n + 1) cap) := by simp
  have HB := hidE hbA
  have hw1 : IntKind.i64.wrap (((n + 1 : Nat) : Int) - 1) = (n : Int) := by rw [IntKind.wrap_i64] <;> omega
  have hj1 : (n : Int) < ((n + 1 : Nat) : Int) := by omega
  clear q hbl
  go_enter Tryz.func108, Tryz.ntmps108
  go_upto_region 1 with fail
  generalize w.alloc (Obj.cells #[.slice (some ⟨b, off, none⟩) (n + 1) cap, .int .i64 c] 42) = W at *
  go_wp2_with fail
  go_ret
  exact ⟨rfl, HB.out⟩

theorem usedM_iff (site clock : Int) (p : List (Int × Int)) (c : Int) : usedM site clock p c = (decide ((lastS p).2 = site) && decide (clock ≤ c)) := rfl

set_option maxRecDepth 100000 in
set_option maxHeartbeats 8000000 in
theorem checkPutR_any (a b : Option Addr) (cap cap' : Nat) (l : List At) (g : List (List (Int × Int) × Int)) (n : Int) (t : ByteArray) (site clock : Int) (w : World) (hl : l.length ≤ maxLen) (_ht : t.size ≤ maxLen) (h : AtomsAt w a l) (h' : MarksAt w b g) :
    Calls Tryz.prog 37 #[.agg #[.slice a l.length cap, .slice b g.length cap'], .int .i64 n, .string t, .int .i64 site, .int .i64 clock] w fun e w' => e = .returned (.int .i64 (putEr l g n t site clock)) ∧ Below w.heap.size w w' := by
  have hB := (Below.refl w.heap.size w).alloc (Nat.le_refl _) (Obj.cells #[.slice a l.length cap, .slice b g.length cap'] 25)
  have q0 : (w.alloc (Obj.cells #[.slice a l.length cap, .slice b g.length cap'] 25)).cell? ⟨w.heap.size, 0, none⟩ = some (.slice a l.length cap) := by simp
  have q1 : (w.alloc (Obj.cells #[.slice a l.length cap, .slice b g.length cap'] 25)).cell? ⟨w.heap.size, 1, none⟩ = some (.slice b g.length cap') := by simp
  have z : w.heap.size < (w.alloc (Obj.cells #[.slice a l.length cap, .slice b g.length cap'] 25)).heap.size := by simp
  replace h := h.below hB (Nat.le_refl _)
  replace h' := h'.below hB (Nat.le_refl _)
  go_enter Tryz.func37, Tryz.ntmps37
  go_upto_region 1 with fail
  generalize w.alloc (Obj.cells #[.slice a l.length cap, .slice b g.length cap'] 25) = W at hB q0 q1 z h h' ⊢
  generalize hzz : w.heap.size = Z at hB q0 q1 z ⊢
  have HZ := hidE hzz
  clear hzz
  have HC := hidE (checkState_any a b cap cap' l g W hl h h')
  go_wp2_with fail
  refine HC.out.mono ?_
  rintro e w1 ⟨rfl, hb⟩
  replace q0 := (hb.cell (p := ⟨Z, 0, none⟩) z).trans q0
  replace q1 := (hb.cell (p := ⟨Z, 1, none⟩) z).trans q1
  replace h := h.below hb (Nat.le_refl _)
  replace h' := h'.below hb (Nat.le_refl _)
  replace hB := hB.thru hb (Nat.le_of_lt z)
  replace z := Nat.lt_of_lt_of_le z hb.size
  clear HC hb
  by_cases hS : chkS l g = 0
  case neg =>
    have HE : Hid (putEr l g n t site clock = chkS l g) := by
      show _ = _
      have e : putCk l g n t site clock = chkS l g := by unfold putCk; rw [if_pos hS]
      unfold putEr; rw [if_pos (by rw [e]; exact hS), e]
    have hcb : (chkS l g != 0) = true := by rw [bne_iff_ne]; exact hS
    generalize chkS l g = er at *
    clear hS
    go_wp2_with fail
    go_ret
    exact ⟨by rw [HE.out]; rfl, by rw [HZ.out]; exact hB⟩
  have hok := okS_of hS
  have hl300 := hok.atoms.len
  have hg600 := hok.len
  have HCK : Hid (putCk l g n t site clock = if inB n 0 l.length = false then 3 else if usedS site clock l g = true then 4 else if 60 < t.size ∨ 300 < l.length + t.size then 2 else if t.size = 0 then 1 else if allS t.data.toList = false then 3 else 0) := by show _ = _; unfold putCk; rw [if_neg (by simpa using hS)]
  have HER : Hid (∀ x, putCk l g n t site clock = x → x ≠ 0 → putEr l g n t site clock = x) := fun x hx h0 => by unfold putEr; rw [if_pos (by rw [hx]; exact h0), hx]
  have HER0 : Hid (putCk l g n t site clock = 0 → putEr l g n t site clock = btwErr (aheadM l n.toNat).1 (aheadM l n.toNat).2 (behindM l n.toNat).1 (behindM l n.toNat).2 site clock t.size) := fun hx => by unfold putEr; rw [if_neg (by rw [hx]; decide)]
  have HPA : Hid (∀ x ∈ l, 0 < x.path.length) := fun x hx => by obtain ⟨i, hi, rfl⟩ := List.getElem_of_mem hx; exact (okPath hok.atoms i hi).1
  have HPG : Hid (∀ x ∈ g, 0 < x.1.length) := fun x hx => (chk_ok (hok.each x hx)).1
  rw [hS]
  clear hok hS
  cases h1 : inB n 0 l.length
  · have HE2 : Hid (putEr l g n t site clock = 3) := HER.out 3 (by rw [HCK.out, if_pos h1]) (by decide)
    have H1 := hidE h1
    clear h1 HCK HER HER0
    go_wp2_with (go_at_call 101; refine (between_any _ _ _ _).mono ?_; rintro e w' ⟨rfl, hw⟩; replace hw := hw.symm; subst hw; rw [H1.out])
    go_ret
    exact ⟨by rw [HE2.out]; rfl, by rw [HZ.out]; exact hB⟩
  have HCK1 : Hid (putCk l g n t site clock = if usedS site clock l g = true then 4 else if 60 < t.size ∨ 300 < l.length + t.size then 2 else if t.size = 0 then 1 else if allS t.data.toList = false then 3 else 0) := by show _ = _; rw [HCK.out, if_neg (by rw [h1]; decide)]
  have hn : 0 ≤ n ∧ n ≤ l.length := by simpa [inB] using h1
  have H1 := hidE h1
  clear h1 HCK
  go_upto_region 7 with (go_at_call 101; refine (between_any _ _ _ _).mono ?_; rintro e w' ⟨rfl, hw⟩; replace hw := hw.symm; subst hw; rw [H1.out])
  go_wp2_with fail
  go_loopw [13] (fun i wr => ∃ k : Nat, k ≤ l.length ∧ i = .int .i64 k ∧ (∀ j (hj : j < l.length), j < k → usedM site clock l[j].path l[j].clock = false) ∧ Below w1.heap.size w1 wr) (fun i _ => l.length - (intOf i).toNat)
  case atStart => exact ⟨0, Nat.zero_le _, rfl, fun j _ hj => absurd hj (Nat.not_lt_zero _), Below.refl _ _⟩
  case round =>
    obtain ⟨k, hk, rfl, hall, hb⟩ := hrel
    have HALL := hidE hall
    have r0 := (hb.cell (p := ⟨Z, 0, none⟩) z).trans q0
    have r1 := (hb.cell (p := ⟨Z, 1, none⟩) z).trans q1
    have zr := Nat.lt_of_lt_of_le z hb.size
    clear hall
    by_cases hlt : k < l.length
    · have hs := h.below hb (Nat.le_refl _)
      rcases hs with hs | ⟨ab, ao, rfl, hbl, hc⟩
      · simp [hs] at hlt
      obtain ⟨p, cp, c0, c1, _, hst, hpl, _, _, _⟩ := hc k hlt
      have h0 := HPA.out l[k] (List.getElem_mem hlt)
      clear hc h h' q0 q1
      have hi1 : (k : Int) < (l.length : Int) := by omega
      have HK : Hid (usedM site clock l[k].path l[k].clock = (decide ((lastS l[k].path).2 = site) && decide (clock ≤ l[k].clock))) := rfl
      have HC := hidE (lastSite_any p cp l[k].path l[k].clock wr h0 hpl hst)
      have HUS : Hid (usedM site clock l[k].path l[k].clock = true → usedS site clock l g = true) := fun e => by
        unfold usedS
        have : l.any (fun x => usedM site clock x.path x.clock) = true := List.any_eq_true.2 ⟨l[k], List.getElem_mem hlt, e⟩
        rw [this]; rfl
      clear h0 hst hpl
      generalize hux : usedM site clock l[k].path l[k].clock = ub at *
      have HUX := hidE hux
      clear hux
      generalize l[k].path = pk at c0 HC HK
      generalize (lastS pk).2 = ls at HC HK
      generalize l[k].clock = ck at c1 HC HK
      by_cases e1 : ls = site
      · have e1b : (ls == site) = true := by rw [beq_iff_eq]; exact e1
        by_cases e2 : ck ≥ clock
        · have HU := HUS.out (by rw [HK.out, decide_eq_true e1, decide_eq_true e2]; rfl)
          have HE2 : Hid (putEr l g n t site clock = 4) := HER.out 4 (by rw [HCK1.out, if_pos HU]) (by decide)
          clear HU e1
          go_wp2_with fail
          refine HC.out.mono ?_
          rintro e w' ⟨rfl, hb2⟩
          have t0 := (hb2.cell (p := ⟨Z, 0, none⟩) zr).trans r0
          have t1 := (hb2.cell (p := ⟨ab, ao + k * 3 + 1, none⟩) hbl).trans c1
          have hb3 := hb.thru hb2 hb.size
          go_wp2_with fail
          go_ret
          exact ⟨by rw [HE2.out]; rfl, by rw [HZ.out]; exact hB.trans (hb3.mono (Nat.le_of_lt z))⟩
        · have HUF : Hid (ub = false) := by show _ = _; rw [HK.out, decide_eq_false e2]; simp
          have e2b : decide (ck ≥ clock) = false := decide_eq_false e2
          clear e1
          go_wp2_with fail
          refine HC.out.mono ?_
          rintro e w' ⟨rfl, hb2⟩
          have t0 := (hb2.cell (p := ⟨Z, 0, none⟩) zr).trans r0
          have t1 := (hb2.cell (p := ⟨ab, ao + k * 3 + 1, none⟩) hbl).trans c1
          have hb3 := hb.thru hb2 hb.size
          go_wp2_with fail
          go_roundw
          case rel =>
            refine ⟨k + 1, by omega, by go_num, fun j hj hjk => ?_, hb3⟩
            by_cases e : j = k
            · subst e; exact HUX.out.trans HUF.out
            · exact HALL.out j hj (by omega)
          case measure => simp [intOf]; omega
      · have HUF : Hid (ub = false) := by show _ = _; rw [HK.out, decide_eq_false e1]; rfl
        have e1b : (ls == site) = false := by rw [beq_eq_false_iff_ne]; exact e1
        clear e1
        go_wp2_with fail
        refine HC.out.mono ?_
        rintro e w' ⟨rfl, hb2⟩
        have hb3 := hb.thru hb2 hb.size
        go_wp2_with fail
        go_roundw
        case rel =>
          refine ⟨k + 1, by omega, by go_num, fun j hj hjk => ?_, hb3⟩
          by_cases e : j = k
          · subst e; exact HUX.out.trans HUF.out
          · exact HALL.out j hj (by omega)
        case measure => simp [intOf]; omega
    · have HLF : Hid (l.any (fun x => usedM site clock x.path x.clock) = false) := by
        show _ = _
        rw [List.any_eq_false]
        intro x hx
        obtain ⟨i, hi, rfl⟩ := List.getElem_of_mem hx
        simp [HALL.out i hi (by omega)]
      replace h := h.below hb (Nat.le_refl _)
      replace h' := h'.below hb (Nat.le_refl _)
      replace hB := hB.trans (hb.mono (Nat.le_of_lt z))
      clear hb q0 q1 z HALL
      go_wp2_with fail
      go_loopw [14] (fun i wq => ∃ k : Nat, k ≤ g.length ∧ i = .int .i64 k ∧ (∀ j (hj : j < g.length), j < k → usedM site clock g[j].1 g[j].2 = false) ∧ Below wr.heap.size wr wq) (fun i _ => g.length - (intOf i).toNat)
      case atStart => exact ⟨0, Nat.zero_le _, rfl, fun j _ hj => absurd hj (Nat.not_lt_zero _), Below.refl _ _⟩
      case round =>
        obtain ⟨m, hm, rfl, hall, hb⟩ := hrel
        have HALL := hidE hall
        replace r0 := (hb.cell (p := ⟨Z, 0, none⟩) zr).trans r0
        replace r1 := (hb.cell (p := ⟨Z, 1, none⟩) zr).trans r1
        have zq := Nat.lt_of_lt_of_le zr hb.size
        replace hB := hB.trans (hb.mono (Nat.le_of_lt zr))
        clear hall
        by_cases hlm : m < g.length
        · have hs := h'.below hb (Nat.le_refl _)
          rcases hs with hs | ⟨gb, go, rfl, hbl, hc⟩
          · simp [hs] at hlm
          obtain ⟨p, cp, c0, c1, hst, hpl⟩ := hc m hlm
          have h0 := HPG.out g[m] (List.getElem_mem hlm)
          clear hc h h'
          have hi1 : (m : Int) < (g.length : Int) := by omega
          have HK : Hid (usedM site clock g[m].1 g[m].2 = (decide ((lastS g[m].1).2 = site) && decide (clock ≤ g[m].2))) := rfl
          have HC := hidE (lastSite_any p cp g[m].1 g[m].2 _ h0 hpl hst)
          have HUS : Hid (usedM site clock g[m].1 g[m].2 = true → usedS site clock l g = true) := fun e => by
            unfold usedS
            have : g.any (fun x => usedM site clock x.1 x.2) = true := List.any_eq_true.2 ⟨g[m], List.getElem_mem hlm, e⟩
            rw [this]; simp
          clear h0 hst hpl
          generalize hux : usedM site clock g[m].1 g[m].2 = ub at *
          have HUX := hidE hux
          clear hux
          generalize g[m].1 = pk at c0 HC HK
          generalize (lastS pk).2 = ls at HC HK
          generalize g[m].2 = ck at c1 HC HK
          by_cases e1 : ls = site
          · have e1b : (ls == site) = true := by rw [beq_iff_eq]; exact e1
            by_cases e2 : ck ≥ clock
            · have HU := HUS.out (by rw [HK.out, decide_eq_true e1, decide_eq_true e2]; rfl)
              have HE2 : Hid (putEr l g n t site clock = 4) := HER.out 4 (by rw [HCK1.out, if_pos HU]) (by decide)
              clear HU e1
              go_wp2_with fail
              refine HC.out.mono ?_
              rintro e w' ⟨rfl, hb2⟩
              have t0 := (hb2.cell (p := ⟨Z, 1, none⟩) zq).trans r1
              have t1 := (hb2.cell (p := ⟨gb, go + m * 2 + 1, none⟩) hbl).trans c1
              have hB2 := hB.trans (hb2.mono (Nat.le_of_lt zq))
              go_wp2_with fail
              go_ret
              exact ⟨by rw [HE2.out]; rfl, by rw [HZ.out]; exact hB2⟩
            · have HUF : Hid (ub = false) := by show _ = _; rw [HK.out, decide_eq_false e2]; simp
              have e2b : decide (ck ≥ clock) = false := decide_eq_false e2
              clear e1
              go_wp2_with fail
              refine HC.out.mono ?_
              rintro e w' ⟨rfl, hb2⟩
              have t0 := (hb2.cell (p := ⟨Z, 1, none⟩) zq).trans r1
              have t1 := (hb2.cell (p := ⟨gb, go + m * 2 + 1, none⟩) hbl).trans c1
              have hb3 := hb.thru hb2 hb.size
              go_wp2_with fail
              go_roundw
              case rel =>
                refine ⟨m + 1, by omega, by go_num, fun j hj hjk => ?_, hb3⟩
                by_cases e : j = m
                · subst e; exact HUX.out.trans HUF.out
                · exact HALL.out j hj (by omega)
              case measure => simp [intOf]; omega
          · have HUF : Hid (ub = false) := by show _ = _; rw [HK.out, decide_eq_false e1]; rfl
            have e1b : (ls == site) = false := by rw [beq_eq_false_iff_ne]; exact e1
            clear e1
            go_wp2_with fail
            refine HC.out.mono ?_
            rintro e w' ⟨rfl, hb2⟩
            have hb3 := hb.thru hb2 hb.size
            go_wp2_with fail
            go_roundw
            case rel =>
              refine ⟨m + 1, by omega, by go_num, fun j hj hjk => ?_, hb3⟩
              by_cases e : j = m
              · subst e; exact HUX.out.trans HUF.out
              · exact HALL.out j hj (by omega)
            case measure => simp [intOf]; omega
        · have HGF : Hid (g.any (fun x => usedM site clock x.1 x.2) = false) := by
            show _ = _
            rw [List.any_eq_false]
            intro x hx
            obtain ⟨i, hi, rfl⟩ := List.getElem_of_mem hx
            simp [HALL.out i hi (by omega)]
          have HCK2 : Hid (putCk l g n t site clock = if 60 < t.size ∨ 300 < l.length + t.size then 2 else if t.size = 0 then 1 else if allS t.data.toList = false then 3 else 0) := by
            show _ = _
            rw [HCK1.out, if_neg (by unfold usedS; rw [HLF.out, HGF.out]; decide)]
          replace h := h.below hb (Nat.le_refl _)
          clear h' hb HALL HLF HGF HCK1 HPG
          by_cases h60 : (t.size : Int) > 60
          · have HE3 : Hid (putEr l g n t site clock = 2) := HER.out 2 (by rw [HCK2.out, if_pos (by omega)]) (by decide)
            go_wp2_with fail
            go_ret
            exact ⟨by rw [HE3.out]; rfl, by rw [HZ.out]; exact hB⟩
          have hw1 : IntKind.i64.wrap ((l.length : Int) + t.size) = l.length + t.size := by rw [IntKind.wrap_i64] <;> omega
          by_cases h3 : (l.length : Int) + t.size > 300
          · have HE3 : Hid (putEr l g n t site clock = 2) := HER.out 2 (by rw [HCK2.out, if_pos (by omega)]) (by decide)
            go_wp2_with fail
            go_ret
            exact ⟨by rw [HE3.out]; rfl, by rw [HZ.out]; exact hB⟩
          have HCK3 : Hid (putCk l g n t site clock = if t.size = 0 then 1 else if allS t.data.toList = false then 3 else 0) := by show _ = _; rw [HCK2.out, if_neg (by omega)]
          clear HCK2
          by_cases h0 : t.size = 0
          · have HE4 : Hid (putEr l g n t site clock = 1) := HER.out 1 (by rw [HCK3.out, if_pos h0]) (by decide)
            have h0b : t.toList.isEmpty = true := by rw [isEmpty_size, h0]; rfl
            go_wp2_with fail
            go_ret
            exact ⟨by rw [HE4.out]; rfl, by rw [HZ.out]; exact hB⟩
          have h0b : t.toList.isEmpty = false := by rw [isEmpty_size]; simpa using h0
          cases hs : allS t.data.toList
          · have HE4 : Hid (putEr l g n t site clock = 3) := HER.out 3 (by rw [HCK3.out, if_neg h0, if_pos hs]) (by decide)
            have HSG := hidE hs
            clear hs h0
            go_wp2_with (go_at_call 109; refine (areSigns_any t _ (by unfold maxLen; omega)).mono ?_; rintro e w' ⟨rfl, hw⟩; replace hw := hw.symm; subst hw; rw [HSG.out])
            go_ret
            exact ⟨by rw [HE4.out]; rfl, by rw [HZ.out]; exact hB⟩
          have HSG := hidE hs
          have HE5 := hidE (HER0.out (by rw [HCK3.out, if_neg h0, if_neg (by rw [hs]; decide)]))
          clear hs h0 HER HER0 HCK3
          obtain ⟨i, rfl⟩ : ∃ i : Nat, n = i := ⟨n.toNat, by omega⟩
          rw [Int.toNat_natCast] at HE5
          have HBB : Hid (∀ (o1 o2 : Obj), Below wr.heap.size wr ((wr.alloc o1).alloc o2)) := fun o1 o2 => ((Below.refl _ _).alloc (Nat.le_refl _) _).alloc (by simp) _
          by_cases h0 : i = 0
          · subst h0
            have HA : Hid (aheadM l 0 = ([], 0)) := by show _ = _; rfl
            by_cases hnl : 0 < l.length
            · have HBe : Hid (behindM l 0 = (l[0].path, l[0].clock)) := by show _ = _; unfold behindM; rw [List.getElem?_eq_getElem hnl]
              have hpos := hnl
              obtain ⟨bb, oo, rfl, hbb, hc⟩ : ∃ b off, a = some ⟨b, off, none⟩ ∧ b < wr.heap.size ∧ ∀ i (h : i < l.length), ∃ p cap, wr.cell? ⟨b, off + i * 3, none⟩ = some (.slice p l[i].path.length cap) ∧ wr.cell? ⟨b, off + i * 3 + 1, none⟩ = some (.int .i64 l[i].clock) ∧ wr.cell? ⟨b, off + i * 3 + 2, none⟩ = some (.int .u8 l[i].sign) ∧ StepsAt wr p l[i].path ∧ l[i].path.length ≤ maxLen ∧ l[i].path.length ≤ cap ∧ 0 ≤ l[i].sign ∧ l[i].sign ≤ 255 := by
                rcases h with hs | h
                · exfalso; rw [hs] at hpos; simp at hpos
                · exact h
              obtain ⟨pb, cb, b0, b1, -, sb, lb, kb, -, -⟩ := hc (0) hnl
              have HSB : Hid (∀ W', Below wr.heap.size wr W' → StepsAt W' pb l[0].path) := fun W' hb => sb.below hb (Nat.le_refl _)
              have HLB : Hid (l[0].path.length ≤ maxLen) := lb
              have hi0 : (0 : Int) < (l.length : Int) := by omega
              simp only [Nat.zero_mul, Nat.add_zero] at b0 b1
              clear hc sb lb kb h
              generalize l[0] = xb at *
              go_wp2_with (go_at_call 109; refine (areSigns_any t _ (by unfold maxLen; omega)).mono ?_; rintro e w' ⟨rfl, hw⟩; replace hw := hw.symm; subst hw; rw [HSG.out])
              refine (checkBetween_any none pb 0 cb [] xb.path 0 xb.clock site clock t.size _ (Nat.zero_le _) HLB.out (Or.inl rfl) (HSB.out _ (HBB.out _ _))).mono ?_
              rintro e w2 ⟨rfl, hb2⟩
              have hB2 : Below Z w w2 := hB.trans (((HBB.out _ _).thru hb2 (HBB.out _ _).size).mono (Nat.le_of_lt zq))
              clear hb2
              go_wp2_with fail
              go_ret
              exact ⟨by rw [HE5.out, HA.out, HBe.out] <;> rfl, by rw [HZ.out]; exact hB2⟩
            · have HBe : Hid (behindM l 0 = ([], 0)) := by show _ = _; unfold behindM; rw [List.getElem?_eq_none (by omega)]
              have hl0 : l.length = 0 := by omega
              rw [hl0] at r0
              go_wp2_with (go_at_call 109; refine (areSigns_any t _ (by unfold maxLen; omega)).mono ?_; rintro e w' ⟨rfl, hw⟩; replace hw := hw.symm; subst hw; rw [HSG.out])
              refine (checkBetween_any none none 0 0 [] [] 0 0 site clock t.size _ (Nat.zero_le _) (Nat.zero_le _) (Or.inl rfl) (Or.inl rfl)).mono ?_
              rintro e w2 ⟨rfl, hb2⟩
              have hB2 : Below Z w w2 := hB.trans (((HBB.out _ _).thru hb2 (HBB.out _ _).size).mono (Nat.le_of_lt zq))
              clear hb2
              go_wp2_with fail
              go_ret
              exact ⟨by rw [HE5.out, HA.out, HBe.out] <;> rfl, by rw [HZ.out]; exact hB2⟩
          · obtain ⟨k2, rfl⟩ : ∃ k2, i = k2 + 1 := ⟨i - 1, by omega⟩
            have hk2 : k2 < l.length := by omega
            have HA : Hid (aheadM l (k2 + 1) = (l[k2].path, l[k2].clock)) := by show _ = _; unfold aheadM; rw [if_neg (by omega), Nat.add_sub_cancel, List.getElem?_eq_getElem hk2]
            have hw2 : IntKind.i64.wrap (((k2 + 1 : Nat) : Int) - 1) = (k2 : Int) := by rw [IntKind.wrap_i64] <;> omega
            have hpos : 0 < l.length := by omega
            have hi0 : (0 : Int) < ((k2 + 1 : Nat) : Int) := by omega
            have hi1 : (k2 : Int) < (l.length : Int) := by omega
            by_cases hnl : k2 + 1 < l.length
            · have HBe : Hid (behindM l (k2 + 1) = (l[k2 + 1].path, l[k2 + 1].clock)) := by show _ = _; unfold behindM; rw [List.getElem?_eq_getElem hnl]
              obtain ⟨bb, oo, rfl, hbb, hc⟩ : ∃ b off, a = some ⟨b, off, none⟩ ∧ b < wr.heap.size ∧ ∀ i (h : i < l.length), ∃ p cap, wr.cell? ⟨b, off + i * 3, none⟩ = some (.slice p l[i].path.length cap) ∧ wr.cell? ⟨b, off + i * 3 + 1, none⟩ = some (.int .i64 l[i].clock) ∧ wr.cell? ⟨b, off + i * 3 + 2, none⟩ = some (.int .u8 l[i].sign) ∧ StepsAt wr p l[i].path ∧ l[i].path.length ≤ maxLen ∧ l[i].path.length ≤ cap ∧ 0 ≤ l[i].sign ∧ l[i].sign ≤ 255 := by
                rcases h with hs | h
                · exfalso; rw [hs] at hpos; simp at hpos
                · exact h
              obtain ⟨pa, ca, a0, a1, -, sa, la, ka, -, -⟩ := hc (k2) hk2
              have HSA : Hid (∀ W', Below wr.heap.size wr W' → StepsAt W' pa l[k2].path) := fun W' hb => sa.below hb (Nat.le_refl _)
              have HLA : Hid (l[k2].path.length ≤ maxLen) := la
              obtain ⟨pb, cb, b0, b1, -, sb, lb, kb, -, -⟩ := hc (k2 + 1) hnl
              have HSB : Hid (∀ W', Below wr.heap.size wr W' → StepsAt W' pb l[k2 + 1].path) := fun W' hb => sb.below hb (Nat.le_refl _)
              have HLB : Hid (l[k2 + 1].path.length ≤ maxLen) := lb
              have hi2 : ((k2 + 1 : Nat) : Int) < (l.length : Int) := by omega
              clear hc sa la ka sb lb kb h
              generalize l[k2] = xa at *
              generalize l[k2 + 1] = xb at *
              go_wp2_with (go_at_call 109; refine (areSigns_any t _ (by unfold maxLen; omega)).mono ?_; rintro e w' ⟨rfl, hw⟩; replace hw := hw.symm; subst hw; rw [HSG.out])
              refine (checkBetween_any pa pb ca cb xa.path xb.path xa.clock xb.clock site clock t.size _ HLA.out HLB.out (HSA.out _ (HBB.out _ _)) (HSB.out _ (HBB.out _ _))).mono ?_
              rintro e w2 ⟨rfl, hb2⟩
              have hB2 : Below Z w w2 := hB.trans (((HBB.out _ _).thru hb2 (HBB.out _ _).size).mono (Nat.le_of_lt zq))
              clear hb2
              go_wp2_with fail
              go_ret
              exact ⟨by rw [HE5.out, HA.out, HBe.out] <;> rfl, by rw [HZ.out]; exact hB2⟩
            · have HBe : Hid (behindM l (k2 + 1) = ([], 0)) := by show _ = _; unfold behindM; rw [List.getElem?_eq_none (by omega)]
              have hl0 : l.length = k2 + 1 := by omega
              have hl0b : ¬ (((k2 + 1 : Nat) : Int) < (l.length : Int)) := by omega
              obtain ⟨bb, oo, rfl, hbb, hc⟩ : ∃ b off, a = some ⟨b, off, none⟩ ∧ b < wr.heap.size ∧ ∀ i (h : i < l.length), ∃ p cap, wr.cell? ⟨b, off + i * 3, none⟩ = some (.slice p l[i].path.length cap) ∧ wr.cell? ⟨b, off + i * 3 + 1, none⟩ = some (.int .i64 l[i].clock) ∧ wr.cell? ⟨b, off + i * 3 + 2, none⟩ = some (.int .u8 l[i].sign) ∧ StepsAt wr p l[i].path ∧ l[i].path.length ≤ maxLen ∧ l[i].path.length ≤ cap ∧ 0 ≤ l[i].sign ∧ l[i].sign ≤ 255 := by
                rcases h with hs | h
                · exfalso; rw [hs] at hpos; simp at hpos
                · exact h
              obtain ⟨pa, ca, a0, a1, -, sa, la, ka, -, -⟩ := hc (k2) hk2
              have HSA : Hid (∀ W', Below wr.heap.size wr W' → StepsAt W' pa l[k2].path) := fun W' hb => sa.below hb (Nat.le_refl _)
              have HLA : Hid (l[k2].path.length ≤ maxLen) := la
              clear hc sa la ka h hl0
              generalize l[k2] = xa at *
              go_wp2_with (go_at_call 109; refine (areSigns_any t _ (by unfold maxLen; omega)).mono ?_; rintro e w' ⟨rfl, hw⟩; replace hw := hw.symm; subst hw; rw [HSG.out])
              refine (checkBetween_any pa none ca 0 xa.path [] xa.clock 0 site clock t.size _ HLA.out (Nat.zero_le _) (HSA.out _ (HBB.out _ _)) (Or.inl rfl)).mono ?_
              rintro e w2 ⟨rfl, hb2⟩
              have hB2 : Below Z w w2 := hB.trans (((HBB.out _ _).thru hb2 (HBB.out _ _).size).mono (Nat.le_of_lt zq))
              clear hb2
              go_wp2_with fail
              go_ret
              exact ⟨by rw [HE5.out, HA.out, HBe.out] <;> rfl, by rw [HZ.out]; exact hB2⟩
end Go.Proofs.YtnhjebdlcbhkcaeGreat
