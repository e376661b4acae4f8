/- Contracts of wire.list at deeds. -/
import Derived.Test.YtnhjebdlcbhkcadRdOne
import Derived.Test.YtnhjebdlcbhkcadRdDeed
namespace Go.Proofs.Ytnhjebdlcbhkcad
open Go.RowKit

theorem DdOwn.mono {w : World} {base base' : Nat} {x : RD} (h : DdOwn w base x) (hb : base' ≤ base) : DdOwn w base' x := ⟨owns_base h.run hb, owns_base h.mark hb, h.rl, h.ml, h.tl, h.n0, h.n1⟩
theorem DdOwn.grown {w w' : World} {base N : Nat} {x : RD} (h : DdOwn w base x) (hg : w.grownBy w' (some N)) (hN : N < base) : DdOwn w' base x := ⟨h.run.kept hg (Or.inr (own_apart h.run hN)), h.mark.kept hg (Or.inr (own_apart h.mark hN)), h.rl, h.ml, h.tl, h.n0, h.n1⟩
theorem info_deed : ∃ i, Try.prog.info? 98 = some i ∧ i.zero = some (.agg #[.int .i64 0, .slice none 0 0, .int .i64 0, .string ⟨#[]⟩, .slice none 0 0, .int .i64 0, .int .i64 0]) ∧ i.size = 7 ∧ i.bytes = 96 := by
  have h : (Try.prog.info? 98).map (fun i => (i.zero, i.size, i.bytes)) = some (some (.agg #[.int .i64 0, .slice none 0 0, .int .i64 0, .string ⟨#[]⟩, .slice none 0 0, .int .i64 0, .int .i64 0]), 7, 96) := by kernel_rfl
  rw [Option.map_eq_some_iff] at h
  obtain ⟨i, hi, he⟩ := h
  simp only [Prod.mk.injEq] at he
  exact ⟨i, hi, he⟩

set_option maxRecDepth 100000 in
set_option maxHeartbeats 1000000 in
theorem rdCloD_ok (R Z : Nat) (s : ByteArray) (e : Bool) (w : World) (h : RdSt w R s e) (hz : Blk w Z #[.pointer (some ⟨R, 0, none⟩)] 132) (hs : s.size ≤ maxLen) :
    Calls Try.prog 104 #[.pointer (some ⟨Z, 0, none⟩)] w fun r w' => ∃ (x : RD) (s' : ByteArray) (e' : Bool), r = .returned (.agg #[.int .i64 x.d.kind, .slice x.p x.d.rp.length x.cp, .int .i64 x.d.rc, .string x.d.rt, .slice x.q x.d.mp.length x.cq, .int .i64 x.d.mc, .int .i64 x.d.many]) ∧ DdOwn w' w.heap.size x ∧ RdSt w' R s' e' ∧ Rd pD s.data.toList e x.d s'.data.toList e' ∧ s'.size ≤ s.size ∧ w.grownBy w' (some R) := by
  have c0 := hz.is 0 rfl
  have hRw := h.lt
  have hA := alloc_below w (Obj.cells zeroD 98)
  have hN := Blk.new w zeroD 98
  have hS0 := h.below hA h.lt
  have hz0 := hz.below hA hz.lt
  have nNR : w.heap.size ≠ R := by omega
  have HGA := hidE (grownBy_none hA (row := some R))
  clear h hz
  go_enter Try.func104, Try.ntmps104
  go_upto_region 1 with fail
  generalize w.alloc (Obj.cells zeroD 98) = W at *
  have c0 := hz0.is 0 rfl
  have H1 := hidE (rdDeed_ok R s e W hS0 hs)
  have hNW := hN.lt
  have HN := hidE hN
  have hsA := hA.size
  clear hS0 hA hN hz0
  go_wp2_with fail
  refine H1.out.mono ?_
  rintro r w1 ⟨x, s1, e1, rfl, hx, hS, hR, hsz, hg⟩
  have hN1 := HN.out.grown hg (fun q => nNR (by simpa using q))
  have fy := hN1.frozen
  have y0 := hN1.is 0 rfl
  have y1 := hN1.is 1 rfl
  have y2 := hN1.is 2 rfl
  have y3 := hN1.is 3 rfl
  have y4 := hN1.is 4 rfl
  have y5 := hN1.is 5 rfl
  have y6 := hN1.is 6 rfl
  obtain ⟨hF, hGF⟩ := fill7 hN1 (.int .i64 x.d.kind) (.slice x.p x.d.rp.length x.cp) (.int .i64 x.d.rc) (.string x.d.rt) (.slice x.q x.d.mp.length x.cq) (.int .i64 x.d.mc) (.int .i64 x.d.many)
  have HOF := hidE ((hx.grown hGF hNW).mono hsA)
  have HSF := hidE (hS.grown hGF (fun q => nNR (by simpa using q.symm)))
  have HGF := hidE (grownBy_new (HGA.out.trans hg) hGF (Nat.le_refl _))
  have HR := hidE hR
  unfold put7 at hF
  have HF := hidE hF
  unfold ddV
  clear hF hGF hN1 hx hS hg hR H1 HN HGA
  go_wp2_with fail
  have k0 := HF.out.is 0 rfl
  have k1 := HF.out.is 1 rfl
  have k2 := HF.out.is 2 rfl
  have k3 := HF.out.is 3 rfl
  have k4 := HF.out.is 4 rfl
  have k5 := HF.out.is 5 rfl
  have k6 := HF.out.is 6 rfl
  refine bodyPost_ret (v := .agg #[.int .i64 x.d.kind, .slice x.p x.d.rp.length x.cp, .int .i64 x.d.rc, .string x.d.rt, .slice x.q x.d.mp.length x.cq, .int .i64 x.d.mc, .int .i64 x.d.many]) (by simp [results, Try.results104, go_sem, k0, k1, k2, k3, k4, k5, k6]) rfl ⟨x, s1, e1, rfl, HOF.out, HSF.out, HR.out, hsz, HGF.out⟩

set_option maxRecDepth 100000 in
set_option maxHeartbeats 2000000 in
theorem rdListD_ok (R Z k : Nat) (s : ByteArray) (e : Bool) (w : World) (h : RdSt w R s e) (hz : Blk w Z #[.pointer (some ⟨R, 0, none⟩)] 132) (hZR : Z ≠ R) (hk : k ≤ 255) (hs : s.size ≤ maxLen) :
    Calls Try.prog 103 #[.int .i64 (k : Int), .func (.func 104) #[] #[.pointer (some ⟨Z, 0, none⟩)]] w (ListGives 98 7 RD.cells DdOwn pD RD.d w R k s e) := by
  obtain ⟨i0, hi0, hz0, hz1, hz2⟩ := info_deed
  have hE : Stays 98 R DdOwn := DdOwn.stays R
  have hRw := h.lt
  have HS := hidE h
  have HZ := hidE hz
  clear h hz
  go_enter Try.func103, Try.ntmps103
  go_wp2_with fail
  go_loopw [5, 7] (fun vo vi wr => ∃ (i : Nat) (xs : List RD) (s' : ByteArray) (e' : Bool), i ≤ k ∧ vi = .int .i64 i ∧ xs.length = i ∧ RowOwn 98 7 RD.cells DdOwn wr w.heap.size vo xs ∧ RdSt wr R s' e' ∧ Rd (pMany pD i) s.data.toList e (xs.map RD.d) s'.data.toList e' ∧ s'.size ≤ s.size ∧ w.grownBy wr (some R) ∧ Blk wr Z #[.pointer (some ⟨R, 0, none⟩)] 132) (fun _ vi _ => k - (intOf vi).toNat)
  case atStart => exact ⟨0, [], s, e, Nat.zero_le _, rfl, rfl, RowOwn.nil, HS.out, Rd.nil, Nat.le_refl _, World.grownBy.refl _ _, HZ.out⟩
  case round =>
    clear HS HZ
    obtain ⟨i, xs, s1, e1, hik, rfl, hl, hO, hS, hR, hsz, hg, hz⟩ := hrel
    have HR := hidE hR
    have HG := hidE hg
    clear hR
    obtain ⟨p, c, rfl⟩ := owns_sl hO.own
    rcases Nat.lt_or_ge i k with hlt | hge
    · have hi1 : (i : Int) < (k : Int) := by omega
      have H1 := hidE (rdCloD_ok R Z s1 e1 wr hS hz (by omega))
      have HO := hidE hO
      have HZ := hidE hz
      have hsize := hg.size
      generalize hn : xs.length = n at *
      subst hl
      have HN := hidE hn
      clear hS hz hO hn hg
      go_wp2_with fail
      refine H1.out.mono ?_
      rintro r w1 ⟨x, s2, e2, rfl, hx, hS2, hR2, hsz2, hg2⟩
      have hO1 := HO.out.far hE hRw hg2
      have hA := alloc_below w1 (Obj.cells #[.int .i64 x.d.kind, .slice x.p x.d.rp.length x.cp, .int .i64 x.d.rc, .string x.d.rt, .slice x.q x.d.mp.length x.cq, .int .i64 x.d.mc, .int .i64 x.d.many] 98)
      have hO2 : RowOwn 98 7 RD.cells DdOwn (w1.alloc (Obj.cells #[.int .i64 x.d.kind, .slice x.p x.d.rp.length x.cp, .int .i64 x.d.rc, .string x.d.rt, .slice x.q x.d.mp.length x.cq, .int .i64 x.d.mc, .int .i64 x.d.many] 98)) w.heap.size (.slice p n c) xs := hO1.far hE hRw (grownBy_none hA)
      have hX2 : DdOwn (w1.alloc (Obj.cells #[.int .i64 x.d.kind, .slice x.p x.d.rp.length x.cp, .int .i64 x.d.rc, .string x.d.rt, .slice x.q x.d.mp.length x.cq, .int .i64 x.d.mc, .int .i64 x.d.many] 98)) w.heap.size x := hE.far _ _ _ x (hx.mono hsize) hRw (grownBy_none hA)
      have hown := hO2.own
      rw [HN.out] at hown
      have hsizeA : w.heap.size ≤ (w1.alloc (Obj.cells #[.int .i64 x.d.kind, .slice x.p x.d.rp.length x.cp, .int .i64 x.d.rc, .string x.d.rt, .slice x.q x.d.mp.length x.cq, .int .i64 x.d.mc, .int .i64 x.d.many] 98)).heap.size := Nat.le_trans hsize (Nat.le_trans hg2.size hA.size)
      have HS2 := hidE (hS2.below hA hS2.lt)
      have HZ2 := hidE ((HZ.out.grown hg2 (fun q => hZR (by simpa using q))).below hA (HZ.out.grown hg2 (fun q => hZR (by simpa using q))).lt)
      have HG2 := hidE ((grownBy_trans' HG.out hg2).trans (grownBy_none hA))
      have HR2 := hidE (HR.out.snoc hR2)
      have HO2 := hidE hO2
      have HX2 := hidE hX2
      clear hO1 hA hO2 hX2 hS2 hR2 hg2 H1 HO HZ HG HR hsize
      go_wp2_with (at_builtin; refine wpList_append_own _ rfl _ _ 51 rfl w.heap.size 98 i0 (.agg #[.int .i64 0, .slice none 0 0, .int .i64 0, .string ⟨#[]⟩, .slice none 0 0, .int .i64 0, .int .i64 0]) 7 96 Try.underlying51 hi0 hz0 hz1 hz2 rfl (by decide) _ _ _ rfl hown ⟨w1.heap.size, 0, none⟩ 1 1 (RD.cells x) rfl rfl (by intro j u hj; rw [Addr.add_lit, World.cell?_alloc_new]; simpa [RD.cells] using hj) (by intro u hu; simp only [RD.cells, List.mem_cons, List.not_mem_nil, or_false] at hu; rcases hu with rfl | rfl | rfl | rfl | rfl | rfl | rfl <;> rfl) (by unfold maxLen; omega) (by omega) hsizeA ?_)
      intro v' w5 hown5 hgrow _
      obtain ⟨p', c', rfl⟩ := owns_sl hown5
      have hO5 := HO2.out.snoc hE HX2.out (by rw [HN.out]; exact hown5) hgrow
      have hRg : some R ≠ (Value.slice p n c).ownBlock := fun q => own_apart HO2.out.own hRw q.symm
      have HS5 := hidE (HS2.out.grown hgrow hRg)
      have hZg : some Z ≠ (Value.slice p n c).ownBlock := fun q => by
        rcases types_apart (T := 98) (T' := 132) (K := 7) (K' := 1) (b := w.heap.size) (b' := 0) (n := n) (m := 1) (v := .slice p n c) (v' := .slice (some ⟨Z, 0, none⟩) 1 1) hown (show World.ownsRow _ 0 _ 1 _ 1 [.pointer (some ⟨R, 0, none⟩)] from ⟨rfl, Or.inr ⟨Z, 1, #[.pointer (some ⟨R, 0, none⟩)], rfl, Nat.zero_le _, HZ2.out, Nat.le_refl _, by decide, rfl, rfl⟩⟩) (by decide) with q2 | q2
        · rw [q2] at q; cases q
        · exact q2 q.symm
      have HZ5 := hidE (HZ2.out.grown hgrow hZg)
      have HG5 := hidE (grownBy_own HG2.out hgrow (fun g hg => Or.inl (hown.lt g hg).1))
      have HO5 := hidE hO5
      have hlen : (xs ++ [x]).length = n + 1 := by rw [List.length_append, HN.out]; rfl
      clear hO5 hgrow hown5 hown hRg hZg HO2 HX2 HS2 HZ2 HG2
      go_wp2_with fail
      go_roundw
      case rel => exact ⟨n + 1, xs ++ [x], s2, e2, hlt, by go_num, hlen, HO5.out, HS5.out, by rw [List.map_append]; exact HR2.out, by omega, HG5.out, HZ5.out⟩
      case measure => simp [intOf]; omega
    · have hki : i = k := by omega
      subst hki
      subst hl
      have hi1 : ¬ ((xs.length : Int) < (xs.length : Int)) := by omega
      have HO := hidE hO
      have HS := hidE hS
      clear hO hS hz hg
      go_wp2_with fail
      go_ret
      exact ⟨_, xs, s1, e1, rfl, rfl, HO.out, HS.out, by exact HR.out, hsz, HG.out⟩
end Go.Proofs.Ytnhjebdlcbhkcad
