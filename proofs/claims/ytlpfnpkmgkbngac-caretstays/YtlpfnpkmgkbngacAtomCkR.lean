/- Contract of the reference's NextOf. -/
import Derived.Test.YtlpfnpkmgkbngacAfter
import Derived.Test.YtlpfnpkmgkbngacAtomCk
namespace Go.Proofs.Ytlpfnpkmgkbngac
open Go.RowKit

set_option maxHeartbeats 1000000 in
theorem nextOf_bad (a : Option Addr) (cap : Nat) (l : List (Int × Int)) (c n : Int) (w : World) (hl : l.length ≤ maxLen) (h : StepsAt w a l) (hbad : chk l c ≠ 0) :
    Calls Try.prog 82 #[.agg #[.slice a l.length cap, .int .i64 c], .int .i64 n] w (NextGives w l c n) := by
  have hn : Hid (nxt l c n = ([], 0, chk l c)) := by show _ = _; unfold nxt; rw [if_pos hbad]
  have hx : (chk l c != 0) = true := by rw [bne_iff_ne]; exact hbad
  clear hbad
  go_enter Try.func82, Try.ntmps82
  go_wp2_with (go_at_call 17; refine (checkMark_any _ _ _ _ _ hl (by exact h.below (((Below.refl _ _).alloc (Nat.le_refl _) _).alloc (by simp) _) (Nat.le_refl _))).mono ?_; rintro e w' ⟨rfl, hb⟩; obtain ⟨hcc, hff⟩ := bcellN hb (w.heap.size + 2) (by simp))
  refine bodyPost_ret (v := .tuple #[.agg #[.slice none 0 0, .int .i64 0], .int .i64 (chk l c)]) (by simp [results, Try.results82, go_sem, hcc]) rfl ?_
  refine ⟨none, 0, by rw [hn.out]; rfl, Or.inl (by rw [hn.out]), ?_⟩
  exact ((((Below.refl _ _).alloc (Nat.le_refl _) _).alloc (by simp) _).thru hb (by simp; omega)).setCell (by simp) _ |>.setCell (by simp) _

set_option maxHeartbeats 1000000 in
theorem nextOf_range (a : Option Addr) (cap : Nat) (l : List (Int × Int)) (c n : Int) (w : World) (hl : l.length ≤ maxLen) (h : StepsAt w a l) (hok : chk l c = 0) (hr : n < 0 ∨ 60 < n) :
    Calls Try.prog 82 #[.agg #[.slice a l.length cap, .int .i64 c], .int .i64 n] w (NextGives w l c n) := by
  have hn : Hid (nxt l c n = ([], 0, 3)) := by show _ = _; unfold nxt; rw [if_neg (by omega), if_pos hr]
  have H0 : Hid (chk l c = 0) := hok
  have HI : Hid (inB n 0 60 = false) := by show _ = _; rw [Bool.eq_false_iff]; intro e; simp [inB] at e; omega
  clear hok hr
  go_enter Try.func82, Try.ntmps82
  go_wp2_with (first | (go_at_call 17; refine (checkMark_any _ _ _ _ _ hl (by exact h.below (((Below.refl _ _).alloc (Nat.le_refl _) _).alloc (by simp) _) (Nat.le_refl _))).mono ?_; rintro e w' ⟨rfl, hb⟩; rw [H0.out]; obtain ⟨hcc, hff⟩ := bcellN hb (w.heap.size + 2) (by simp)) | (go_at_call 28; refine (between_any _ _ _ _).mono ?_; rintro e w'' ⟨rfl, rfl⟩; rw [HI.out]))
  refine bodyPost_ret (v := .tuple #[.agg #[.slice none 0 0, .int .i64 0], .int .i64 3]) (by simp [results, Try.results82, go_sem, hcc]) rfl ?_
  refine ⟨none, 0, by rw [hn.out]; rfl, Or.inl (by rw [hn.out]), ?_⟩
  exact ((((Below.refl _ _).alloc (Nat.le_refl _) _).alloc (by simp) _).thru hb (by simp; omega)).setCell (by simp) _ |>.setCell (by simp) _

set_option maxRecDepth 100000 in
set_option maxHeartbeats 1000000 in
theorem nextOf_in (b off : Nat) (cap : Nat) (l : List (Int × Int)) (c n : Int) (w : World) (h : StepsAt w (some ⟨b, off, none⟩) l) (hok : chk l c = 0) (h0 : 0 ≤ n) (h60 : n ≤ 60) :
    Calls Try.prog 82 #[.agg #[.slice (some ⟨b, off, none⟩) l.length cap, .int .i64 c], .int .i64 n] w (NextGives w l c n) := by
  have hn : Hid (nxt l c n = if chk (bump l n) (c + n) ≠ 0 then ([], 0, 3) else (bump l n, c + n, 0)) := by show _ = _; unfold nxt; rw [if_neg (by omega), if_neg (by omega)]
  obtain ⟨hl0, hl10, _, _, hc1, hc2⟩ := chk_ok hok
  have H0 : Hid (chk l c = 0) := hok
  have HI : Hid (inB n 0 60 = true) := by show _ = _; simp [inB]; omega
  have hml : l.length ≤ maxLen := by unfold maxLen; omega
  have HLB : Hid ((bump l n).length = l.length) := by show _ = _; unfold bump setL; simp
  have hmlb : (bump l n).length ≤ maxLen := by rw [HLB.out]; exact hml
  clear hok
  obtain ⟨q0, q1, q3, q4, hz, hb1⟩ := boxes2 w (.slice (some ⟨b, off, none⟩) l.length cap) (.int .i64 c) (.slice none 0 0) (.int .i64 0) 41 41
  have q2 : ∀ o, ((w.alloc (Obj.cells #[.slice (some ⟨b, off, none⟩) l.length cap, .int .i64 c] 41)).alloc (Obj.cells #[.slice none 0 0, .int .i64 0] 41)).frozen? ⟨w.heap.size + 1, o, none⟩ = false := by intro o; go_simp
  go_enter Try.func82, Try.ntmps82
  go_upto_region 1 with fail
  generalize (w.alloc (Obj.cells #[.slice (some ⟨b, off, none⟩) l.length cap, .int .i64 c] 41)).alloc (Obj.cells #[.slice none 0 0, .int .i64 0] 41) = w1 at q0 q1 q2 q3 q4 hz hb1 ⊢
  have z1 : w.heap.size < w1.heap.size := by omega
  have z2 : w.heap.size + 1 < w1.heap.size := by omega
  clear hz
  go_wp2_with fail
  refine (checkMark_any _ _ l _ _ hml (h.below hb1 (Nat.le_refl _))).mono ?_
  rintro e w2 ⟨rfl, hb2⟩
  rw [H0.out]
  have p0 := (hb2.cell (p := ⟨w.heap.size, 0, none⟩) z1).trans q0
  have p1 := (hb2.cell (p := ⟨w.heap.size, 1, none⟩) z1).trans q1
  go_wp2_with fail
  refine (between_any _ _ _ _).mono ?_
  rintro e w2' ⟨rfl, rfl⟩
  rw [HI.out]
  go_wp2_with fail
  have hbb := hb1.thru hb2 hb1.size
  refine (afterOf_any b off _ l c n _ (h.below hbb (Nat.le_refl _)) H0.out h0 h60).mono ?_
  rintro e w3 ⟨g, cap2, rfl, hs3, hb3, _⟩
  have hb4 : Below w1.heap.size w1 (w3.alloc (Obj.cells #[.slice (some ⟨g, 0, none⟩) l.length cap2, .int .i64 (c + n)] 41)) := (hb2.thru hb3 hb2.size).alloc (Nat.le_trans hb2.size hb3.size) _
  have n0 : (w3.alloc (Obj.cells #[.slice (some ⟨g, 0, none⟩) l.length cap2, .int .i64 (c + n)] 41)).cell? ⟨w3.heap.size, 0, none⟩ = some (.slice (some ⟨g, 0, none⟩) l.length cap2) := by go_simp
  have n1 : (w3.alloc (Obj.cells #[.slice (some ⟨g, 0, none⟩) l.length cap2, .int .i64 (c + n)] 41)).cell? ⟨w3.heap.size, 1, none⟩ = some (.int .i64 (c + n)) := by go_simp
  have zN : w3.heap.size < (w3.alloc (Obj.cells #[.slice (some ⟨g, 0, none⟩) l.length cap2, .int .i64 (c + n)] 41)).heap.size := by simp
  have hs4 := hs3.below ((Below.refl _ w3).alloc (Nat.le_refl _) (Obj.cells #[.slice (some ⟨g, 0, none⟩) l.length cap2, .int .i64 (c + n)] 41)) (Nat.le_refl _)
  have gnz : g ≠ w.heap.size + 1 := by
    intro e
    rcases id hs3 with h1 | ⟨b1, o1, he, _, hc1⟩
    · have := HLB.out; rw [h1] at this; simp at this; omega
    · simp only [Option.some.injEq, Addr.mk.injEq] at he
      obtain ⟨rfl, rfl, _⟩ := he
      have hx := (hc1 0 (by rw [HLB.out]; exact hl0)).1
      rw [Nat.zero_mul, Nat.add_zero, e, (hb2.thru hb3 hb2.size).cell (p := ⟨w.heap.size + 1, 0, none⟩) z2, q3] at hx
      simp at hx
  clear hs3 hb3 hb2 p0 p1
  go_wp2_with fail
  generalize w3.alloc (Obj.cells #[.slice (some ⟨g, 0, none⟩) l.length cap2, .int .i64 (c + n)] 41) = V at hb4 n0 n1 zN hs4 ⊢
  refine (checkMark_n _ _ _ (bump l n) _ _ HLB.out.symm hmlb hs4).mono ?_
  rintro e w5 ⟨rfl, hb5⟩
  have hb6 := hb4.thru hb5 hb4.size
  have m0 := (hb5.cell (p := ⟨w3.heap.size, 0, none⟩) zN).trans n0
  have m1 := (hb5.cell (p := ⟨w3.heap.size, 1, none⟩) zN).trans n1
  have y2 := (hb6.cell (p := ⟨w.heap.size + 1, 0, none⟩) z2).trans q3
  have y3 := (hb6.cell (p := ⟨w.heap.size + 1, 1, none⟩) z2).trans q4
  have y4 : ∀ o, w5.frozen? ⟨w.heap.size + 1, o, none⟩ = false := fun o => (hb6.frozen (p := ⟨w.heap.size + 1, o, none⟩) z2).trans (q2 o)
  have hs5 := hs4.below hb5 (Nat.le_refl _)
  clear q0 q1 q2 q3 q4 n0 n1 hs4 hb5
  by_cases hk : chk (bump l n) (c + n) = 0
  · have hn' : Hid (nxt l c n = (bump l n, c + n, 0)) := by show _ = _; rw [hn.out, if_neg (by omega)]
    rw [hk]
    clear hk
    go_wp2_with fail
    refine bodyPost_ret (v := .tuple #[.agg #[.slice (some ⟨g, 0, none⟩) l.length cap2, .int .i64 (c + n)], .int .i64 0]) (by simp [results, Try.results82, go_sem, y2, y3]) rfl ?_
    refine ⟨some ⟨g, 0, none⟩, cap2, by rw [hn'.out]; show _ = Ending.returned (.tuple #[.agg #[.slice _ (bump l n).length _, _], _]); rw [HLB.out], ?_, ?_⟩
    · rw [hn'.out]
      exact (hs5.setOld gnz).setOld gnz
    · exact ((hb1.thru hb6 hb1.size).setCell (by simp) _).setCell (by simp) _
  · have hn' : Hid (nxt l c n = ([], 0, 3)) := by show _ = _; rw [hn.out, if_pos hk]
    have hk' : (chk (bump l n) (c + n) != 0) = true := by rw [bne_iff_ne]; exact hk
    clear hk
    go_wp2_with fail
    refine bodyPost_ret (v := .tuple #[.agg #[.slice none 0 0, .int .i64 0], .int .i64 3]) (by simp [results, Try.results82, go_sem, y2, y3]) rfl ?_
    refine ⟨none, 0, by rw [hn'.out]; rfl, Or.inl (by rw [hn'.out]), ?_⟩
    exact ((hb1.thru hb6 hb1.size).setCell (by simp) _).setCell (by simp) _

theorem nextOf_any (a : Option Addr) (cap : Nat) (l : List (Int × Int)) (c n : Int) (w : World) (hl : l.length ≤ maxLen) (h : StepsAt w a l) :
    Calls Try.prog 82 #[.agg #[.slice a l.length cap, .int .i64 c], .int .i64 n] w (NextGives w l c n) := by
  by_cases hok : chk l c = 0
  · by_cases hr : n < 0 ∨ 60 < n
    · exact nextOf_range a cap l c n w hl h hok hr
    · rcases id h with hs | ⟨b, off, rfl, _⟩
      · have := (chk_ok hok).1
        simp [hs] at this
      · exact nextOf_in b off cap l c n w h hok (by omega) (by omega)
  · exact nextOf_bad a cap l c n w hl h hok
end Go.Proofs.Ytlpfnpkmgkbngac

namespace Go.Proofs.Ytlpfnpkmgkbngac
open Go.RowKit

set_option maxHeartbeats 400000 in
theorem isSign_any (s : Int) (w : World) (h0 : 0 ≤ s) (h1 : s ≤ 255) :
    Calls Try.prog 67 #[.int .u8 s] w fun e w' => e = .returned (.bool (isSignB s)) ∧ w' = w := by
  have hw : IntKind.i64.wrap s = s := by rw [IntKind.wrap_i64] <;> omega
  go_enter Try.func67, Try.ntmps67
  go_wp2_with (go_at_call 28; refine (between_any _ _ _ _).mono ?_; rintro e w' ⟨rfl, rfl⟩)
  go_ret
  exact ⟨by rfl, rfl⟩

set_option maxRecDepth 100000 in
set_option maxHeartbeats 2000000 in
theorem checkAtoms_any (a : Option Addr) (cap : Nat) (l : List At) (w : World) (hl : l.length ≤ maxLen) (h : AtomsAt w a l) :
    Calls Try.prog 55 #[.slice a l.length cap] w fun e w' => e = .returned (.int .i64 (chkL l)) ∧ Below w.heap.size w w' := by
  unfold maxLen at hl
  by_cases h300 : 300 < l.length
  · have hd : ((l.length : Int) > 300) := by omega
    go_enter Try.func55, Try.ntmps55
    go_wp2
    go_ret
    exact ⟨ret_int (by unfold chkL; rw [if_pos h300]), Below.refl _ _⟩
  have hd : ¬ ((l.length : Int) > 300) := by omega
  have HC : Hid (chkL l = chkFrom none l) := by show _ = _; unfold chkL; rw [if_neg h300]
  go_enter Try.func55, Try.ntmps55
  go_wp2
  go_loopw [3] (fun i wr => ∃ k : Nat, k ≤ l.length ∧ i = .int .i64 k ∧ chkFrom (prevOf l k) (l.drop k) = chkFrom none l ∧ Below w.heap.size w wr) (fun i _ => l.length - (intOf i).toNat)
  case atStart => exact ⟨0, Nat.zero_le _, rfl, rfl, Below.refl _ _⟩
  case round =>
    obtain ⟨k, hk, rfl, hck, hb⟩ := hrel
    have HK := hidE hck
    clear hck
    by_cases hlt : k < l.length
    · rcases h.below hb (Nat.le_refl _) with hs | ⟨ab, ao, rfl, hab, hc⟩
      · simp [hs] at hlt
      have hcons : Hid (chkFrom (prevOf l k) (l.drop k) = if chkAt (prevOf l k) l[k] ≠ 0 then chkAt (prevOf l k) l[k] else chkFrom (some l[k]) (l.drop (k + 1))) := by
        show _ = _
        rw [List.drop_eq_getElem_cons hlt, chkFrom_cons]
      have hnext : Hid (prevOf l (k + 1) = some l[k]) := by
        show _ = _
        unfold prevOf; rw [if_neg (by omega), Nat.add_sub_cancel, List.getElem?_eq_getElem hlt]
      obtain ⟨p, cp, c0, c1, c2, hst, hle, _, s0, s1⟩ := hc k hlt
      have HP : Hid (chkAt (prevOf l k) l[k] = chkAt (prevOf l k) ⟨l[k].path, l[k].clock, l[k].sign⟩) := rfl
      have hi1 : (k : Int) < l.length := by omega
      have HAll := hidE hc
      generalize l[k].path = pk at *
      generalize l[k].clock = ck at *
      generalize l[k].sign = sk at *
      clear hc h
      go_wp2_with fail
      refine (checkMark_any _ _ pk _ _ hle hst).mono ?_
      rintro e w2 ⟨rfl, hbW⟩
      have p0 := (hbW.cell (p := ⟨ab, ao + k * 3, none⟩) hab).trans c0
      have p1 := (hbW.cell (p := ⟨ab, ao + k * 3 + 1, none⟩) hab).trans c1
      have p2 := (hbW.cell (p := ⟨ab, ao + k * 3 + 2, none⟩) hab).trans c2
      have hb2w := hb.thru hbW hb.size
      clear hb c0 c1 c2
      have HR : Hid (chkL l = if chkAt (prevOf l k) ⟨pk, ck, sk⟩ ≠ 0 then chkAt (prevOf l k) ⟨pk, ck, sk⟩ else chkFrom (some l[k]) (l.drop (k + 1))) := by
        show _ = _
        rw [HC.out, ← HK.out, hcons.out, HP.out]
      clear HC HP hcons
      by_cases hc0 : chk pk ck = 0
      · rw [hc0]
        have HA : Hid (chkAt (prevOf l k) ⟨pk, ck, sk⟩ = if isSignB sk = false then 3 else match prevOf l k with
            | none => 0
            | some y => if 0 ≤ ordA y ⟨pk, ck, sk⟩ then 4 else 0) := by
          show _ = _
          unfold chkAt
          rw [if_neg (by simpa using hc0)]
          rfl
        clear hc0
        by_cases g1 : isSignB sk = false
        · have HA2 : Hid (chkL l = 3) := by
            show _ = _
            rw [HR.out, HA.out, if_pos g1, if_pos (by decide)]
          have G1 := hidE g1
          clear g1
          go_wp2_with (go_at_call 67; refine (isSign_any _ _ s0 s1).mono ?_; rintro e w' ⟨rfl, rfl⟩; rw [G1.out])
          go_ret
          exact ⟨ret_int HA2.out.symm, hb2w⟩
        have HA2 : Hid (chkAt (prevOf l k) ⟨pk, ck, sk⟩ = match prevOf l k with
            | none => 0
            | some y => if 0 ≤ ordA y ⟨pk, ck, sk⟩ then 4 else 0) := by
          show _ = _
          rw [HA.out, if_neg g1]
        have G1 : Hid (isSignB sk = true) := by show _ = _; simpa using g1
        clear HA g1
        rcases Nat.eq_zero_or_pos k with rfl | hk0
        · have HA3 : Hid (chkFrom (some l[0]) (l.drop 1) = chkL l) := by
            show _ = _
            rw [HR.out, HA2.out]
            rfl
          have hg : decide ((0 : Int) > 0) = false := by decide
          simp only [Nat.zero_mul, Nat.add_zero] at p0 p1 p2
          go_wp2_with (go_at_call 67; refine (isSign_any _ _ s0 s1).mono ?_; rintro e w' ⟨rfl, rfl⟩; rw [G1.out])
          refine wp_region_quiet_below (by kernel_rfl) (by kernel_rfl) ?_
          repeat (first | go_big_quiet_step (fail) | quiet_step (fail))
          refine wpQuiet_nil ?_
          intro _ hw'
          obtain ⟨⟨dq, osq⟩, hw''⟩ := hw'
          subst hw''
          go_wp2
          go_roundw
          case rel => exact ⟨1, by omega, by go_num, by rw [hnext.out, HA3.out]; unfold chkL; rw [if_neg h300], hb2w.thru (below_regrown _ _ _) hb2w.size⟩
          case measure => simp [intOf]; omega
        · obtain ⟨j, rfl⟩ : ∃ j, k = j + 1 := ⟨k - 1, by omega⟩
          obtain ⟨py, cy, c0, c1, _, hsy, hly, _⟩ := HAll.out j (by omega)
          have d0 := (hbW.cell (p := ⟨ab, ao + j * 3, none⟩) hab).trans c0
          have d1 := (hbW.cell (p := ⟨ab, ao + j * 3 + 1, none⟩) hab).trans c1
          have hpv : Hid (prevOf l (j + 1) = some l[j]) := by
            show _ = _
            unfold prevOf; rw [if_neg (by omega), Nat.add_sub_cancel, List.getElem?_eq_getElem (by omega)]
          have HA3 : Hid (chkAt (prevOf l (j + 1)) ⟨pk, ck, sk⟩ = if 0 ≤ ordM l[j].path l[j].clock pk ck then 4 else 0) := by
            show _ = _
            rw [HA2.out, hpv.out]; rfl
          have k0 := cell_regrown d0
          have k1 := cell_regrown d1
          have k2 := cell_regrown p0
          have k3 := cell_regrown p1
          have S1 := hidE (fun d os => (hsy.below hbW (Nat.le_refl _)).below (below_regrown w2 d os) (Nat.le_refl _))
          have S2 := hidE (fun d os => (hst.below hbW (Nat.le_refl _)).below (below_regrown w2 d os) (Nat.le_refl _))
          clear c0 c1 HA2 hsy hst
          generalize l[j].path = lp at d0 d1 hly HA3 k0 S1
          generalize l[j].clock = lc at d0 d1 HA3 k1
          have hw1 : IntKind.i64.wrap (((j + 1 : Nat) : Int) - 1) = (j : Int) := by rw [IntKind.wrap_i64] <;> omega
          have hg : decide (((j + 1 : Nat) : Int) > 0) = true := by simp
          have hj1 : (j : Int) < l.length := by omega
          go_wp2_with (go_at_call 67; refine (isSign_any _ _ s0 s1).mono ?_; rintro e w' ⟨rfl, rfl⟩; rw [G1.out])
          refine wp_region_quiet_below (by kernel_rfl) (by kernel_rfl) ?_
          repeat (first | go_big_quiet_step ((go_at_call 56; exact Calls.regrown_of (orderOf_any _ _ _ _ lp pk _ _ _ hly hle (S1.out _ _) (S2.out _ _)))) | quiet_step ((go_at_call 56; exact Calls.regrown_of (orderOf_any _ _ _ _ lp pk _ _ _ hly hle (S1.out _ _) (S2.out _ _)))))
          refine wpQuiet_nil ?_
          intro _ hw'
          obtain ⟨⟨dq, osq⟩, hw''⟩ := hw'
          subst hw''
          by_cases ho : 0 ≤ ordM lp lc pk ck
          · have HF : Hid (chkL l = 4) := by show _ = _; rw [HR.out, HA3.out, if_pos ho, if_pos (by decide)]
            go_wp2
            go_ret
            exact ⟨ret_int HF.out.symm, hb2w.thru (below_regrown _ _ _) hb2w.size⟩
          · have HF : Hid (chkL l = chkFrom (some l[j + 1]) (l.drop (j + 1 + 1))) := by show _ = _; rw [HR.out, HA3.out, if_neg ho, if_neg (by decide)]
            have hlt' : ordM lp lc pk ck < 0 := by omega
            go_wp2
            go_roundw
            case rel => exact ⟨j + 1 + 1, by omega, by go_num, by rw [hnext.out, ← HF.out]; unfold chkL; rw [if_neg h300], hb2w.thru (below_regrown _ _ _) hb2w.size⟩
            case measure => simp [intOf]; omega
      · have hcb : (chk pk ck != 0) = true := by rw [bne_iff_ne]; exact hc0
        have HA : Hid (chkL l = chk pk ck) := by
          show _ = _
          have : chkAt (prevOf l k) ⟨pk, ck, sk⟩ = chk pk ck := by unfold chkAt; rw [if_pos hc0]
          rw [HR.out, this, if_pos hc0]
        clear hc0
        go_wp2_with fail
        go_ret
        exact ⟨ret_int HA.out.symm, hb2w⟩
    · go_wp2
      go_ret
      refine ⟨ret_int ?_, hb⟩
      rw [HC.out, ← HK.out, List.drop_eq_nil_of_le (by omega)]; rfl
end Go.Proofs.Ytlpfnpkmgkbngac
