/- Contracts of wire.list at steps. -/
import Derived.Test.YtnhjebdlcbhkcadRdOne
import Derived.Test.YtnhjebdlcbhkcadRdListA
namespace Go.Proofs.Ytnhjebdlcbhkcad
open Go.RowKit

theorem info_step : ∃ i, Try.prog.info? 110 = some i ∧ i.zero = some (.agg #[.int .i64 0, .int .i64 0]) ∧ i.size = 2 ∧ i.bytes = 16 := by
  have h : (Try.prog.info? 110).map (fun i => (i.zero, i.size, i.bytes)) = some (some (.agg #[.int .i64 0, .int .i64 0]), 2, 16) := by kernel_rfl
  rw [Option.map_eq_some_iff] at h
  obtain ⟨i, hi, he⟩ := h
  simp only [Prod.mk.injEq] at he
  exact ⟨i, hi, he⟩

set_option maxRecDepth 100000 in
set_option maxHeartbeats 1000000 in
theorem rdCloS_ok (R Z : Nat) (s : ByteArray) (e : Bool) (w : World) (h : RdSt w R s e) (hz : Blk w Z #[.pointer (some ⟨R, 0, none⟩)] 132) (hs : s.size ≤ maxLen) (hZR : Z ≠ R) :
    Calls Try.prog 138 #[.pointer (some ⟨Z, 0, none⟩)] w fun r w' => ∃ (x : (Int × Int)) (s' : ByteArray) (e' : Bool), r = .returned (.agg #[.int .i64 x.1, .int .i64 x.2]) ∧ True ∧ RdSt w' R s' e' ∧ Rd pStep s.data.toList e x s'.data.toList e' ∧ s'.size ≤ s.size ∧ w.grownBy w' (some R) := by
  have c0 := hz.is 0 rfl
  have hA := alloc_below w (Obj.cells #[.int .i64 0, .int .i64 0] 110)
  have hN := Blk.new w #[.int .i64 0, .int .i64 0] 110
  have hS0 := h.below hA h.lt
  have hz0 := hz.below hA hz.lt
  have hNR : w.heap.size ≠ R := by have := h.lt; omega
  have HGA := hidE (grownBy_none hA (row := some R))
  clear h hz
  go_enter Try.func138, Try.ntmps138
  go_upto_region 1 with fail
  generalize w.alloc (Obj.cells #[.int .i64 0, .int .i64 0] 110) = W at *
  generalize hNe : w.heap.size = N at *
  have HNE := hidE hNe
  clear hNe
  have c0 := hz0.is 0 rfl
  have H1 := hidE (rdOne_ok R s e W hS0 hs)
  have HN := hidE hN
  have HZ := hidE hz0
  clear hS0 hA hN hz0
  go_wp2_with fail
  refine H1.out.mono ?_
  rintro r w1 ⟨a, s1, e1, rfl, hS, hR, a0, a1, hsz, hg⟩
  have hz1 := HZ.out.grown hg (fun q => hZR (by simpa using q))
  have HN1 := hidE (HN.out.grown hg (fun q => hNR (by simpa using q)))
  have HG1 := hidE (HGA.out.trans hg)
  have HR1 := hidE hR
  have H2 := hidE (rdOne_ok R s1 e1 w1 hS (by omega))
  replace c0 := hz1.is 0 rfl
  clear hS hR hg H1 HN HZ HGA hz1
  go_wp2_with fail
  refine H2.out.mono ?_
  rintro r w2 ⟨b, s2, e2, rfl, hS, hR, b0, b1, hsz2, hg⟩
  have hN2 := HN1.out.grown hg (fun q => hNR (by simpa using q))
  have x0 := hN2.is 0 rfl
  have x1 := hN2.is 1 rfl
  have y0 := hN2.frozen 0
  have y1 := hN2.frozen 1
  have HG2 := hidE (HG1.out.trans hg)
  have HR2 := hidE (HR1.out.step hR)
  have hF : Blk ((w2.setCell ⟨N, 0, none⟩ (.int .i64 a)).setCell ⟨N, 1, none⟩ (.int .i64 b)) N #[.int .i64 a, .int .i64 b] 110 := (hN2.set 0 (.int .i64 a)).set 1 (.int .i64 b)
  have HF := hidE hF
  have HS2 := hidE ((hS.setOther (a := ⟨N, 0, none⟩) hNR (.int .i64 a)).setOther (a := ⟨N, 1, none⟩) hNR (.int .i64 b))
  have HG3 := hidE (grownBy_own (grownBy_own HG2.out (grownBy_set' w2 N 0 (.int .i64 a)) (fun g q => Or.inl (by cases q; rw [HNE.out]; exact Nat.le_refl _))) (grownBy_set' (w2.setCell ⟨N, 0, none⟩ (.int .i64 a)) N 1 (.int .i64 b)) (fun g q => Or.inl (by cases q; rw [HNE.out]; exact Nat.le_refl _)))
  clear hS hR hg H2 HN1 HG1 HR1 hN2 HG2 hF
  go_wp2_with fail
  have k0 := HF.out.is 0 rfl
  have k1 := HF.out.is 1 rfl
  exact bodyPost_ret (v := .agg #[.int .i64 a, .int .i64 b]) (by simp [results, Try.results138, go_sem, k0, k1]) rfl ⟨(a, b), s2, e2, rfl, trivial, HS2.out, HR2.out, by omega, HG3.out⟩

set_option maxRecDepth 100000 in
set_option maxHeartbeats 2000000 in
theorem rdListS_ok (R Z k : Nat) (s : ByteArray) (e : Bool) (w : World) (h : RdSt w R s e) (hz : Blk w Z #[.pointer (some ⟨R, 0, none⟩)] 132) (hZR : Z ≠ R) (hk : k ≤ 255) (hs : s.size ≤ maxLen) :
    Calls Try.prog 137 #[.int .i64 (k : Int), .func (.func 138) #[] #[.pointer (some ⟨Z, 0, none⟩)]] w (ListGives 110 2 (fun y : Int × Int => [.int .i64 y.1, .int .i64 y.2]) (fun _ _ _ => True) pStep id w R k s e) := by
  obtain ⟨i0, hi0, hz0, hz1, hz2⟩ := info_step
  have hE : Stays 110 R (fun _ _ _ => True : World → Nat → (Int × Int) → Prop) := Stays.free _ _
  have hRw := h.lt
  have HS := hidE h
  have HZ := hidE hz
  clear h hz
  go_enter Try.func137, Try.ntmps137
  go_wp2_with fail
  go_loopw [5, 7] (fun vo vi wr => ∃ (i : Nat) (xs : List (Int × Int)) (s' : ByteArray) (e' : Bool), i ≤ k ∧ vi = .int .i64 i ∧ xs.length = i ∧ RowOwn 110 2 (fun y : Int × Int => [.int .i64 y.1, .int .i64 y.2]) (fun _ _ _ => True) wr w.heap.size vo xs ∧ RdSt wr R s' e' ∧ Rd (pMany pStep i) s.data.toList e xs s'.data.toList e' ∧ s'.size ≤ s.size ∧ w.grownBy wr (some R) ∧ Blk wr Z #[.pointer (some ⟨R, 0, none⟩)] 132) (fun _ vi _ => k - (intOf vi).toNat)
  case atStart => exact ⟨0, [], s, e, Nat.zero_le _, rfl, rfl, RowOwn.nil, HS.out, Rd.nil, Nat.le_refl _, World.grownBy.refl _ _, HZ.out⟩
  case round =>
    clear HS HZ
    obtain ⟨i, xs, s1, e1, hik, rfl, hl, hO, hS, hR, hsz, hg, hz⟩ := hrel
    have HR := hidE hR
    have HG := hidE hg
    clear hR
    obtain ⟨p, c, rfl⟩ := owns_sl hO.own
    rcases Nat.lt_or_ge i k with hlt | hge
    · have hi1 : (i : Int) < (k : Int) := by omega
      have H1 := hidE (rdCloS_ok R Z s1 e1 wr hS hz (by omega) hZR)
      have HO := hidE hO
      have HZ := hidE hz
      have hsize := hg.size
      generalize hn : xs.length = n at *
      subst hl
      have HN := hidE hn
      clear hS hz hO hn hg
      go_wp2_with fail
      refine H1.out.mono ?_
      rintro r w1 ⟨x, s2, e2, rfl, _, hS2, hR2, hsz2, hg2⟩
      have hO1 := HO.out.far hE hRw hg2
      have hA := alloc_below w1 (Obj.cells #[.int .i64 x.1, .int .i64 x.2] 110)
      have hO2 : RowOwn 110 2 (fun y : Int × Int => [.int .i64 y.1, .int .i64 y.2]) (fun _ _ _ => True) (w1.alloc (Obj.cells #[.int .i64 x.1, .int .i64 x.2] 110)) w.heap.size (.slice p n c) xs := hO1.far hE hRw (grownBy_none hA)
      have hX2 : (fun _ _ _ => True : World → Nat → (Int × Int) → Prop) (w1.alloc (Obj.cells #[.int .i64 x.1, .int .i64 x.2] 110)) w.heap.size x := hE.far _ _ _ x trivial hRw (grownBy_none hA)
      have hown := hO2.own
      rw [HN.out] at hown
      have hsizeA : w.heap.size ≤ (w1.alloc (Obj.cells #[.int .i64 x.1, .int .i64 x.2] 110)).heap.size := Nat.le_trans hsize (Nat.le_trans hg2.size hA.size)
      have HS2 := hidE (hS2.below hA hS2.lt)
      have HZ2 := hidE ((HZ.out.grown hg2 (fun q => hZR (by simpa using q))).below hA (HZ.out.grown hg2 (fun q => hZR (by simpa using q))).lt)
      have HG2 := hidE ((grownBy_trans' HG.out hg2).trans (grownBy_none hA))
      have HR2 := hidE (HR.out.snoc hR2)
      have HO2 := hidE hO2
      have HX2 := hidE hX2
      clear hO1 hA hO2 hX2 hS2 hR2 hg2 H1 HO HZ HG HR hsize
      go_wp2_with (at_builtin; refine wpList_append_own _ rfl _ _ 27 rfl w.heap.size 110 i0 (.agg #[.int .i64 0, .int .i64 0]) 2 16 Try.underlying27 hi0 hz0 hz1 hz2 rfl (by decide) _ _ _ rfl hown ⟨w1.heap.size, 0, none⟩ 1 1 ((fun y : Int × Int => [.int .i64 y.1, .int .i64 y.2]) x) rfl rfl (by intro j u hj; rw [Addr.add_lit, World.cell?_alloc_new]; simpa using hj) (by intro u hu; simp only [List.mem_cons, List.not_mem_nil, or_false] at hu; rcases hu with rfl | rfl <;> rfl) (by unfold maxLen; omega) (by omega) hsizeA ?_)
      intro v' w5 hown5 hgrow _
      obtain ⟨p', c', rfl⟩ := owns_sl hown5
      have hO5 := HO2.out.snoc hE HX2.out (by rw [HN.out]; exact hown5) hgrow
      have hRg : some R ≠ (Value.slice p n c).ownBlock := fun q => own_apart HO2.out.own hRw q.symm
      have HS5 := hidE (HS2.out.grown hgrow hRg)
      have hZg : some Z ≠ (Value.slice p n c).ownBlock := fun q => by
        rcases types_apart (T := 110) (T' := 132) (K := 2) (K' := 1) (b := w.heap.size) (b' := 0) (n := n) (m := 1) (v := .slice p n c) (v' := .slice (some ⟨Z, 0, none⟩) 1 1) hown (show World.ownsRow _ 0 _ 1 _ 1 [.pointer (some ⟨R, 0, none⟩)] from ⟨rfl, Or.inr ⟨Z, 1, #[.pointer (some ⟨R, 0, none⟩)], rfl, Nat.zero_le _, HZ2.out, Nat.le_refl _, by decide, rfl, rfl⟩⟩) (by decide) with q2 | q2
        · rw [q2] at q; cases q
        · exact q2 q.symm
      have HZ5 := hidE (HZ2.out.grown hgrow hZg)
      have HG5 := hidE (grownBy_own HG2.out hgrow (fun g hg => Or.inl (hown.lt g hg).1))
      have HO5 := hidE hO5
      have hlen : (xs ++ [x]).length = n + 1 := by rw [List.length_append, HN.out]; rfl
      clear hO5 hgrow hown5 hown hRg hZg HO2 HX2 HS2 HZ2 HG2
      go_wp2_with fail
      go_roundw
      case rel => exact ⟨n + 1, xs ++ [x], s2, e2, hlt, by go_num, hlen, HO5.out, HS5.out, HR2.out, by omega, HG5.out, HZ5.out⟩
      case measure => simp [intOf]; omega
    · have hki : i = k := by omega
      subst hki
      subst hl
      have hi1 : ¬ ((xs.length : Int) < (xs.length : Int)) := by omega
      have HO := hidE hO
      have HS := hidE hS
      clear hO hS hz hg
      go_wp2_with fail
      go_ret
      exact ⟨_, xs, s1, e1, rfl, rfl, HO.out, HS.out, by rw [List.map_id]; exact HR.out, hsz, HG.out⟩
end Go.Proofs.Ytnhjebdlcbhkcad
