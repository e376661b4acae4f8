/- The reference's JoinOf and IsReady. -/
import Derived.Test.YtlpfnpkmgkbngaeSeenR
import Derived.Test.YtlpfnpkmgkbngaeReadyC
namespace Go.Proofs.Ytlpfnpkmgkbngae
open Go.RowKit

/-- a row of numbers that is the call's own lies there -/
theorem ints_owns {w : World} {base : Nat} {p : Option Addr} {c : Nat} {xs : List Int} (hown : w.ownsRow base 3 1 (.slice p xs.length c) xs.length (xs.map (Value.int .i64))) : IntsAt w p xs := by
  by_cases he : xs = []
  · exact Or.inl he
  have hpos : 0 < xs.length := List.length_pos_iff.2 he
  obtain ⟨g, cap, e⟩ := owns_form hown hpos
  cases e
  refine Or.inr ⟨g, 0, rfl, (hown.lt g rfl).2, fun i hi => ?_⟩
  have := hown.cellAt i (by omega)
  rw [Nat.zero_add, this]
  simp

set_option maxRecDepth 100000 in
set_option maxHeartbeats 4000000 in
theorem joinOf_any (a a' : Option Addr) (cap cap' : Nat) (l m : List Int) (w : World) (h5 : l.length = 5) (h5' : m.length = 5) (h : IntsAt w a l) (h' : IntsAt w a' m) :
    Calls Try.prog 11 #[.slice a 5 cap, .slice a' 5 cap'] w fun e w' => ∃ p c, e = .returned (.slice p 5 c) ∧ IntsAt w' p (List.zipWith max l m) ∧ Below w.heap.size w w' := by
  rcases h with e | ⟨b, o, rfl, hbl, hc⟩
  · rw [e] at h5; simp at h5
  rcases h' with e | ⟨b', o', rfl, hbl', hc'⟩
  · rw [e] at h5'; simp at h5'
  obtain ⟨i0, hi0, hz0, hz1, hz2⟩ := Try.info3
  go_enter Try.func11, Try.ntmps11
  go_wp2_with fail
  go_loopw [5, 6] (fun v5 i wr => ∃ k : Nat, k ≤ 5 ∧ i = .int .i64 k ∧ (∃ p c, v5 = .slice p (List.zipWith max (l.take k) (m.take k)).length c) ∧ wr.ownsRow w.heap.size 3 1 v5 (List.zipWith max (l.take k) (m.take k)).length ((List.zipWith max (l.take k) (m.take k)).map (Value.int .i64)) ∧ Below w.heap.size w wr) (fun _ i _ => 5 - (intOf i).toNat)
  case atStart => exact ⟨0, Nat.zero_le _, rfl, ⟨none, 0, rfl⟩, World.ownsRow_nil _ _ _ _, Below.refl _ _⟩
  case round =>
    obtain ⟨k, hk, rfl, ⟨p9, c9, rfl⟩, hown, hb⟩ := hrel
    by_cases hlt : k < 5
    · have c0 := (hb.cell (p := ⟨b, o + k, none⟩) hbl).trans (hc k (by omega))
      have c1 := (hb.cell (p := ⟨b', o' + k, none⟩) hbl').trans (hc' k (by omega))
      have HZ : Hid (List.zipWith max (l.take (k + 1)) (m.take (k + 1)) = List.zipWith max (l.take k) (m.take k) ++ [max l[k] m[k]]) := by
        show _ = _
        rw [List.take_succ_eq_append_getElem (by omega), List.take_succ_eq_append_getElem (by omega), List.zipWith_append (by simp; omega)]
        rfl
      have HLN : Hid ((List.zipWith max (l.take k) (m.take k)).length = k) := by show _ = _; simp; omega
      have hi1 : (k : Int) < 5 := by omega
      clear hc hc'
      generalize l[k] = x at c0 HZ
      generalize m[k] = y at c1 HZ
      generalize List.zipWith max (l.take k) (m.take k) = xs at *
      have hxk := HLN.out
      generalize hnn : xs.length = n at *
      have HNN := hidE hnn
      clear hnn
      subst hxk
      by_cases hxy : y > x
      · have HM : Hid (max x y = y) := by show _ = _; omega
        have hown1 := hown.alloc (Obj.cells #[.int .i64 y] 3)
        have hbA := hb.alloc hb.size (Obj.cells #[.int .i64 y] 3)
        go_wp2_with (at_builtin; refine wpList_append_own _ rfl _ _ 22 rfl w.heap.size 3 i0 (.int .i64 0) 1 8 Try.underlying22 hi0 hz0 hz1 hz2 rfl (by decide) _ _ _ rfl hown1 ⟨wr.heap.size, 0, none⟩ 1 1 [.int .i64 y] rfl rfl (by intro j u hj; rw [Addr.add_lit, World.cell?_alloc_new]; simpa using hj) (by intro u hu; rw [List.mem_singleton.1 hu]; rfl) (by unfold maxLen; omega) (by omega) (by have := hb.size; simp; omega) ?_)
        intro v' w5 hown5 hgrow _
        obtain ⟨p', c', rfl⟩ := owns_slice hown5
        have hb5 := hbA.grown hgrow hbA.size (fun j hj => (hown.lt j hj).1)
        have HO5 : Hid (w5.ownsRow w.heap.size 3 1 (.slice p' (n + 1) c') (List.zipWith max (l.take (n + 1)) (m.take (n + 1))).length ((List.zipWith max (l.take (n + 1)) (m.take (n + 1))).map (Value.int .i64))) := by
          show World.ownsRow _ _ _ _ _ _ _
          rw [HZ.out, HM.out, List.length_append, List.map_append, HNN.out]
          exact hown5
        have HL5 : Hid (n + 1 = (List.zipWith max (l.take (n + 1)) (m.take (n + 1))).length) := by show _ = _; rw [HZ.out, List.length_append, HNN.out]; rfl
        clear hown5 hgrow hown1 hown
        go_wp2_with fail
        go_roundw
        case rel => exact ⟨n + 1, by omega, by go_num, ⟨p', c', by rw [← HL5.out]⟩, HO5.out, hb5⟩
        case measure => simp [intOf]; omega
      · have HM : Hid (max x y = x) := by show _ = _; omega
        have hown1 := hown.alloc (Obj.cells #[.int .i64 x] 3)
        have hbA := hb.alloc hb.size (Obj.cells #[.int .i64 x] 3)
        go_wp2_with (at_builtin; refine wpList_append_own _ rfl _ _ 22 rfl w.heap.size 3 i0 (.int .i64 0) 1 8 Try.underlying22 hi0 hz0 hz1 hz2 rfl (by decide) _ _ _ rfl hown1 ⟨wr.heap.size, 0, none⟩ 1 1 [.int .i64 x] rfl rfl (by intro j u hj; rw [Addr.add_lit, World.cell?_alloc_new]; simpa using hj) (by intro u hu; rw [List.mem_singleton.1 hu]; rfl) (by unfold maxLen; omega) (by omega) (by have := hb.size; simp; omega) ?_)
        intro v' w5 hown5 hgrow _
        obtain ⟨p', c', rfl⟩ := owns_slice hown5
        have hb5 := hbA.grown hgrow hbA.size (fun j hj => (hown.lt j hj).1)
        have HO5 : Hid (w5.ownsRow w.heap.size 3 1 (.slice p' (n + 1) c') (List.zipWith max (l.take (n + 1)) (m.take (n + 1))).length ((List.zipWith max (l.take (n + 1)) (m.take (n + 1))).map (Value.int .i64))) := by
          show World.ownsRow _ _ _ _ _ _ _
          rw [HZ.out, HM.out, List.length_append, List.map_append, HNN.out]
          exact hown5
        have HL5 : Hid (n + 1 = (List.zipWith max (l.take (n + 1)) (m.take (n + 1))).length) := by show _ = _; rw [HZ.out, List.length_append, HNN.out]; rfl
        clear hown5 hgrow hown1 hown
        go_wp2_with fail
        go_roundw
        case rel => exact ⟨n + 1, by omega, by go_num, ⟨p', c', by rw [← HL5.out]⟩, HO5.out, hb5⟩
        case measure => simp [intOf]; omega
    · have hk5 : k = 5 := by omega
      subst hk5
      rw [List.take_of_length_le (by omega), List.take_of_length_le (by omega)] at hown
      have HI := hidE (ints_owns hown)
      have hln : (List.zipWith max (l.take 5) (m.take 5)).length = 5 := by simp; omega
      have hi1 : ¬ ((5 : Int) < 5) := by omega
      rw [hln] at *
      clear hown hln
      go_wp2_with fail
      go_ret
      exact ⟨p9, ⟨c9, rfl⟩, HI.out, hb⟩

set_option maxRecDepth 100000 in
set_option maxHeartbeats 4000000 in
theorem isReady_any (a : Option Addr) (cap : Nat) (l : List Int) (n : Nt) (p q : Option Addr) (cp cq : Nat) (w : World) (hl : chkSeen l = 0) (hn0 : chkN n = 0) (h : IntsAt w a l) (hn : NtAt w n p q) :
    Calls Try.prog 16 #[.slice a 5 cap, ntV n p q cp cq] w fun e w' => e = .returned (.bool (mayR l n)) ∧ Below w.heap.size w w' := by
  have h5 := (chkSeen_zero hl).1
  obtain ⟨s0, s1, hn5, _, hnb, n1, n2, _⟩ := chkN_zero hn0
  have HR : Hid (mayR l n = (covL l n.needs && decide (l.getD n.site.toNat 0 = n.number - 1))) := by show _ = _; unfold mayR; rw [hnb]
  obtain ⟨site, number, needs, deeds⟩ := n
  unfold ntV
  simp only at HR s0 s1 hn5 n1 n2 ⊢
  have HN5 := hidE hn5
  clear hl hn0 hnb hn5
  have hB := (Below.refl w.heap.size w).alloc (Nat.le_refl _) (Obj.cells #[.int .i64 site, .int .i64 number, .slice p needs.length cp, .slice q deeds.length cq] 25)
  have q0 : (w.alloc (Obj.cells #[.int .i64 site, .int .i64 number, .slice p needs.length cp, .slice q deeds.length cq] 25)).cell? ⟨w.heap.size, 0, none⟩ = some (.int .i64 site) := by simp
  have q1 : (w.alloc (Obj.cells #[.int .i64 site, .int .i64 number, .slice p needs.length cp, .slice q deeds.length cq] 25)).cell? ⟨w.heap.size, 1, none⟩ = some (.int .i64 number) := by simp
  have q2 : (w.alloc (Obj.cells #[.int .i64 site, .int .i64 number, .slice p needs.length cp, .slice q deeds.length cq] 25)).cell? ⟨w.heap.size, 2, none⟩ = some (.slice p needs.length cp) := by simp
  have z : w.heap.size < (w.alloc (Obj.cells #[.int .i64 site, .int .i64 number, .slice p needs.length cp, .slice q deeds.length cq] 25)).heap.size := by simp
  replace h := h.below hB
  replace hn := hn.below hB
  go_enter Try.func16, Try.ntmps16
  go_upto_region 1 with fail
  generalize w.alloc (Obj.cells #[.int .i64 site, .int .i64 number, .slice p needs.length cp, .slice q deeds.length cq] 25) = w3 at hB q0 q1 q2 z h hn ⊢
  generalize hzz : w.heap.size = Z at hB q0 q1 q2 z ⊢
  have HZ := hidE hzz
  clear hzz
  have hn5 := HN5.out
  obtain ⟨s, rfl⟩ : ∃ s : Nat, site = s := ⟨site.toNat, by omega⟩
  have HCV := hidE (fun (d : World) (hh : IntsAt d a l) (hh' : IntsAt d p needs) => coversOf_any a p cap cp l needs d h5 hn5 hh hh')
  have hnn : IntsAt w3 p needs := hn.needs
  have H1 := hidE (fun d os => h.below (below_regrown w3 d os))
  have H2 := hidE (fun d os => hnn.below (below_regrown w3 d os))
  rcases h with e | ⟨b, o, rfl, hbl, hc⟩
  · rw [e] at h5; simp at h5
  have HG1 : Hid (l.getD (s : Int).toNat 0 = l[s]) := by show _ = _; simp [List.getD, List.getElem?_eq_getElem (show s < l.length by omega)]
  have c0 := hc s (by omega)
  generalize l[s] = x at c0 HG1
  have HF : Hid (mayR l ⟨s, number, needs, deeds⟩ = (covL l needs && (x == number - 1))) := by
    show _ = _
    rw [HR.out, HG1.out]
    generalize number - 1 = y
    rfl
  rw [hn5] at q2
  clear hc hn hnn HR HG1 HN5
  have hsi : (s : Int) < 5 := by omega
  have hw1 : IntKind.i64.wrap (number - 1) = number - 1 := by rw [IntKind.wrap_i64] <;> omega
  have k0 := cell_regrown q0
  have k1 := cell_regrown q1
  have k2 := cell_regrown q2
  have k4 := cell_regrown c0
  generalize hcv : covL l needs = cv at HCV HF
  clear hcv
  cases cv
  all_goals
    refine wp_region_quiet_below (by kernel_rfl) (by kernel_rfl) ?_
    repeat (first | go_big_quiet_step ((go_at_call 15; with_reducible exact Calls.regrown_of (HCV.out _ (H1.out _ _) (H2.out _ _)))) | quiet_step ((go_at_call 15; with_reducible exact Calls.regrown_of (HCV.out _ (H1.out _ _) (H2.out _ _)))))
    refine wpQuiet_nil ?_
    intro _ hw'
    obtain ⟨⟨dq, osq⟩, hw''⟩ := hw'
    subst hw''
    replace hB := hB.thru (below_regrown w3 dq osq) (Nat.le_of_lt z)
    go_wp2_with fail
    go_ret
    rw [HZ.out]
    exact ⟨by rw [HF.out]; rfl, hB⟩
end Go.Proofs.Ytlpfnpkmgkbngae
