/- Contract of wire's reader: notes. -/
import Derived.Test.YtnhjebdlcbhkcadRdListD
import Derived.Test.YtnhjebdlcbhkcadNoteC
namespace Go.Proofs.Ytnhjebdlcbhkcad
open Go.RowKit

/-- a note whose lists are the call's own -/
structure NtOwn (w : World) (base : Nat) (n : Nt) (p q : Option Addr) (cp cq : Nat) : Prop where
  nl : n.needs.length ≤ 255
  dl : n.deeds.length ≤ 255
  needs : w.ownsRow base 3 1 (.slice p n.needs.length cp) n.needs.length (n.needs.map (Value.int .i64))
  deeds : ∃ rs : List RD, rs.map RD.d = n.deeds ∧ RowOwn 98 7 RD.cells DdOwn w base (.slice q rs.length cq) rs
theorem NtOwn.far {w w' : World} {base N : Nat} {n : Nt} {p q : Option Addr} {cp cq : Nat} (h : NtOwn w base n p q cp cq) (hN : N < base) (hg : w.grownBy w' (some N)) : NtOwn w' base n p q cp cq := by
  obtain ⟨rs, e, hd⟩ := h.deeds
  exact ⟨h.nl, h.dl, h.needs.kept hg (Or.inr (own_apart h.needs hN)), rs, e, hd.far (DdOwn.stays N) hN hg⟩

/-- what a note that is read is -/
def NoteGives (w : World) (R : Nat) (s : ByteArray) (e : Bool) (r : Ending) (w' : World) : Prop :=
  ∃ (n : Nt) (p q : Option Addr) (cp cq : Nat) (s' : ByteArray) (e' : Bool),
    r = .returned (ntV n p q cp cq) ∧ NtOwn w' w.heap.size n p q cp cq ∧ RdSt w' R s' e' ∧ Rd pN s.data.toList e n s'.data.toList e' ∧ s'.size ≤ s.size ∧ w.grownBy w' (some R)

theorem steps_own {w : World} {base : Nat} {p : Option Addr} {cap : Nat} {l : List (Int × Int)} (h : w.ownsRow base 110 2 (.slice p l.length cap) l.length (flatS l)) : StepsAt w p l := by
  have h' := h
  rcases h.2 with ⟨_, h0⟩ | ⟨g, c, cur, e1, _⟩
  · exact Or.inl (List.length_eq_zero_iff.1 h0)
  · simp only [Value.slice.injEq] at e1
    obtain ⟨rfl, _, _⟩ := e1
    exact stepsAt_owns h' rfl
theorem deeds_own {w : World} {base : Nat} {p : Option Addr} {cap : Nat} {rs : List RD} (h : RowOwn 98 7 RD.cells DdOwn w base (.slice p rs.length cap) rs) : DeedsAt w p (rs.map RD.d) := by
  obtain ⟨hown, hr⟩ := h
  have hown' := hown
  rcases hown.2 with ⟨e0, h0⟩ | ⟨g, c, cur, e1, _, _, _, _, _⟩
  · exact Or.inl (by rw [List.length_eq_zero_iff.1 h0]; rfl)
  simp only [Value.slice.injEq] at e1
  obtain ⟨rfl, _, _⟩ := e1
  refine Or.inr ⟨g, 0, rfl, (hown'.lt g rfl).2, fun i hi => ?_⟩
  have hi' : i < rs.length := by simpa using hi
  have fl : ∀ (l : List RD) (i : Nat) (hi : i < l.length) (j : Nat), j < 7 → (l.flatMap RD.cells)[i * 7 + j]? = l[i].cells[j]? := by
    intro l
    induction l with
    | nil => intro i h; simp at h
    | cons x l ih =>
      intro i h j hj
      have hc : x.cells.length = 7 := rfl
      cases i with
      | zero => rw [List.flatMap_cons, List.getElem?_append_left (by omega)]; simp
      | succ i =>
        rw [List.flatMap_cons, List.getElem?_append_right (by omega), hc]
        have := ih i (by simpa using h) j hj
        rw [show (i + 1) * 7 + j - 7 = i * 7 + j by omega]
        simpa using this
  have k : ∀ j (hj : j < 7), w.cell? ⟨g, 0 + i * 7 + j, none⟩ = rs[i].cells[j]? := fun j hj => by
    rw [Nat.zero_add]
    exact (hown'.cellAt (i * 7 + j) (by omega)).trans (fl rs i hi' j hj)
  have em : (rs.map RD.d)[i] = rs[i].d := by simp
  have hx := hr _ (List.getElem_mem hi')
  have r1 := hx.rl
  have r2 := hx.ml
  have r3 := hx.tl
  have r4 := hx.n0
  have r5 := hx.n1
  rw [em]
  exact ⟨rs[i].p, rs[i].cp, rs[i].q, rs[i].cq, k 0 (by decide), k 1 (by decide), k 2 (by decide), k 3 (by decide), k 4 (by decide), k 5 (by decide), k 6 (by decide), ⟨steps_own hx.run, steps_own hx.mark, by unfold maxLen; omega, by unfold maxLen; omega, by unfold maxLen; omega⟩, by omega, by omega⟩

theorem ints_own {w : World} {base : Nat} {p : Option Addr} {c : Nat} {xs : List Int} (hown : w.ownsRow base 3 1 (.slice p xs.length c) xs.length (xs.map (Value.int .i64))) : IntsAt w p xs := by
  by_cases he : xs = []
  · exact Or.inl he
  have hpos : 0 < xs.length := List.length_pos_iff.2 he
  obtain ⟨g, cap, e⟩ := owns_form hown hpos
  cases e
  refine Or.inr ⟨g, 0, rfl, (hown.lt g rfl).2, fun i hi => ?_⟩
  have := hown.cellAt i (by omega)
  rw [Nat.zero_add, this]
  simp

theorem NtOwn.at' {w : World} {base : Nat} {n : Nt} {p q : Option Addr} {cp cq : Nat} (h : NtOwn w base n p q cp cq) : NtAt w n p q := by
  obtain ⟨rs, e, hd⟩ := h.deeds
  have h1 := h.nl
  have h2 := h.dl
  exact ⟨ints_own h.needs, by rw [← e]; exact deeds_own hd, by unfold maxLen; omega, by unfold maxLen; omega⟩

theorem flatMap_i64 : ∀ l : List Int, l.flatMap (fun y => [Value.int .i64 y]) = l.map (Value.int .i64)
  | [] => rfl
  | x :: l => by rw [List.flatMap_cons, flatMap_i64 l]; rfl

abbrev zeroN : Array Value := #[.int .i64 0, .int .i64 0, .slice none 0 0, .slice none 0 0]
def put4 (w : World) (N : Nat) (a b c d : Value) : World := (((w.setCell ⟨N, 0, none⟩ a).setCell ⟨N, 1, none⟩ b).setCell ⟨N, 2, none⟩ c).setCell ⟨N, 3, none⟩ d
theorem fill4 {w : World} {N : Nat} {t : TypeId} (h : Blk w N zeroN t) (a b c d : Value) : Blk (put4 w N a b c d) N #[a, b, c, d] t ∧ w.grownBy (put4 w N a b c d) (some N) := by
  refine ⟨(((h.set 0 a).set 1 b).set 2 c).set 3 d, ?_⟩
  unfold put4
  exact (((grownBy_set' w N 0 a).trans (grownBy_set' _ N 1 b)).trans (grownBy_set' _ N 2 c)).trans (grownBy_set' _ N 3 d)

set_option maxRecDepth 100000 in
set_option maxHeartbeats 4000000 in
theorem rdNote_ok (R : Nat) (s : ByteArray) (e : Bool) (w : World) (h : RdSt w R s e) (hs : s.size ≤ maxLen) :
    Calls Try.prog 55 #[.pointer (some ⟨R, 0, none⟩)] w (NoteGives w R s e) := by
  have hA := alloc_below w (Obj.cells #[.pointer (some ⟨R, 0, none⟩)] 132)
  have hZ := Blk.new w #[.pointer (some ⟨R, 0, none⟩)] 132
  have hS := h.alloc (Obj.cells #[.pointer (some ⟨R, 0, none⟩)] 132)
  have hRw := h.lt
  have sz1 : (w.alloc (Obj.cells #[.pointer (some ⟨R, 0, none⟩)] 132)).heap.size = w.heap.size + 1 := by simp
  have hN := Blk.new (w.alloc (Obj.cells #[.pointer (some ⟨R, 0, none⟩)] 132)) zeroN 53
  replace hA := hA.trans ((alloc_below (w.alloc (Obj.cells #[.pointer (some ⟨R, 0, none⟩)] 132)) (Obj.cells zeroN 53)).mono hA.size)
  replace hZ := hZ.alloc (Obj.cells zeroN 53)
  replace hS := hS.alloc (Obj.cells zeroN 53)
  rw [sz1] at hN
  have sz2 : ((w.alloc (Obj.cells #[.pointer (some ⟨R, 0, none⟩)] 132)).alloc (Obj.cells zeroN 53)).heap.size = w.heap.size + 2 := by simp
  clear sz1
  go_enter Try.func55, Try.ntmps55
  go_upto_region 1 with fail
  generalize (w.alloc (Obj.cells #[.pointer (some ⟨R, 0, none⟩)] 132)).alloc (Obj.cells zeroN 53) = W at *
  have hM := Blk.new W zeroN 53
  replace hA := hA.trans ((alloc_below W (Obj.cells zeroN 53)).mono hA.size)
  replace hZ := hZ.alloc (Obj.cells zeroN 53)
  replace hN := hN.alloc (Obj.cells zeroN 53)
  replace hS := hS.alloc (Obj.cells zeroN 53)
  rw [sz2] at hM
  go_upto_region 2 with fail
  generalize W.alloc (Obj.cells zeroN 53) = W3 at *
  clear sz2
  have nZR : w.heap.size ≠ R := by omega
  have nNR : w.heap.size + 1 ≠ R := by omega
  have nMR : w.heap.size + 2 ≠ R := by omega
  have hM1lt := hM.lt
  have H1 := hidE (rdOne_ok R s e W3 hS hs)
  have c0 := hZ.is 0 rfl
  have HZ := hidE hZ
  have HN := hidE hN
  have HM := hidE hM
  have HG := hidE (grownBy_none hA (row := some R))
  clear hZ hN hM hS h hA
  go_wp2_with fail
  refine H1.out.mono ?_
  rintro r w1 ⟨site, s1, e1, rfl, hS, hR1, i0, i1, hsz1, hg⟩
  have hZ1 := HZ.out.grown hg (fun q => nZR (by simpa using q))
  have hN1 := HN.out.grown hg (fun q => nNR (by simpa using q))
  have hM1 := HM.out.grown hg (fun q => nMR (by simpa using q))
  have m0 := hM1.is 0 rfl
  have fm := hM1.frozen
  have hs0 := grownBy_set' w1 (w.heap.size + 2) 0 (.int .i64 site)
  have hM2 : Blk (w1.setCell ⟨w.heap.size + 2, 0, none⟩ (.int .i64 site)) (w.heap.size + 2) #[.int .i64 site, .int .i64 0, .slice none 0 0, .slice none 0 0] 53 := hM1.set 0 _
  have hZ2 := hZ1.grown hs0 (fun q => by simp at q)
  have hN2 := hN1.grown hs0 (fun q => by simp at q)
  have hS2 := hS.grown hs0 (fun q => nMR (by simpa using q.symm))
  have HG2 := hidE (grownBy_new (HG.out.trans hg) hs0 (by omega))
  have HR1 := hidE hR1
  clear hS hR1 hZ1 hN1 hM1 hs0 hg H1 HZ HN HM HG
  go_upto_region 3 with fail
  generalize w1.setCell ⟨w.heap.size + 2, 0, none⟩ (.int .i64 site) = W4 at *
  have H2 := hidE (rdTwo_ok R s1 e1 W4 hS2 (by omega))
  replace c0 := hZ2.is 0 rfl
  have HZ := hidE hZ2
  have HN := hidE hN2
  have HM := hidE hM2
  have hM1lt2 := hM2.lt
  clear hS2 hZ2 hN2 hM2 m0 fm
  go_wp2_with fail
  refine H2.out.mono ?_
  rintro r w2 ⟨number, s2, e2, rfl, hS, hR2, j0, j1, hsz2, hg⟩
  have hZ1 := HZ.out.grown hg (fun q => nZR (by simpa using q))
  have hN1 := HN.out.grown hg (fun q => nNR (by simpa using q))
  have hM1 := HM.out.grown hg (fun q => nMR (by simpa using q))
  have m0 := hM1.is 1 rfl
  have fm := hM1.frozen
  have hs0 := grownBy_set' w2 (w.heap.size + 2) 1 (.int .i64 number)
  have hM2 : Blk (w2.setCell ⟨w.heap.size + 2, 1, none⟩ (.int .i64 number)) (w.heap.size + 2) #[.int .i64 site, .int .i64 number, .slice none 0 0, .slice none 0 0] 53 := hM1.set 1 _
  have hZ2 := hZ1.grown hs0 (fun q => by simp at q)
  have hN2 := hN1.grown hs0 (fun q => by simp at q)
  have hS2 := hS.grown hs0 (fun q => nMR (by simpa using q.symm))
  have HG3 := hidE (grownBy_new (HG2.out.trans hg) hs0 (by omega))
  have HR2 := hidE hR2
  clear hS hR2 hZ1 hN1 hM1 hs0 hg H2 HZ HN HM HG2
  go_upto_region 4 with fail
  generalize w2.setCell ⟨w.heap.size + 2, 1, none⟩ (.int .i64 number) = W5 at *
  have H3 := hidE (rdListI_ok R w.heap.size 5 s2 e2 W5 hS2 hZ2 nZR (by decide) (by omega))
  replace c0 := hZ2.is 0 rfl
  have HZ := hidE hZ2
  have HN := hidE hN2
  have HM := hidE hM2
  have hM5 := hM2.lt
  clear hS2 hZ2 hN2 hM2 m0 fm
  go_wp2_with fail
  refine H3.out.mono ?_
  rintro r w3 ⟨v, needs, s3, e3, rfl, hl, hO, hS, hR3, hsz3, hg⟩
  rw [List.map_id] at hR3
  obtain ⟨p, cp, rfl⟩ := owns_sl hO.own
  have hZ1 := HZ.out.grown hg (fun q => nZR (by simpa using q))
  have hN1 := HN.out.grown hg (fun q => nNR (by simpa using q))
  have hM1 := HM.out.grown hg (fun q => nMR (by simpa using q))
  have m0 := hM1.is 2 rfl
  have fm := hM1.frozen
  have hs0 := grownBy_set' w3 (w.heap.size + 2) 2 (.slice p needs.length cp)
  have hM2 : Blk (w3.setCell ⟨w.heap.size + 2, 2, none⟩ (.slice p needs.length cp)) (w.heap.size + 2) #[.int .i64 site, .int .i64 number, .slice p needs.length cp, .slice none 0 0] 53 := hM1.set 2 _
  have hZ2 := hZ1.grown hs0 (fun q => by simp at q)
  have hN2 := hN1.grown hs0 (fun q => by simp at q)
  have hS2 := hS.grown hs0 (fun q => nMR (by simpa using q.symm))
  have hO2 := hO.own.kept hs0 (Or.inr (own_apart hO.own hM5))
  have HG4 := hidE (grownBy_new (HG3.out.trans hg) hs0 (by omega))
  have HR3 := hidE hR3
  have HL := hidE hl
  clear hS hR3 hZ1 hN1 hM1 hs0 hO H3 HZ HN HM HG3
  clear hl
  generalize hX : needs.length = nl at *
  go_upto_region 5 with fail
  generalize w3.setCell ⟨w.heap.size + 2, 2, none⟩ (.slice p nl cp) = W6 at *
  have H4 := hidE (rdOne_ok R s3 e3 W6 hS2 (by omega))
  replace c0 := hZ2.is 0 rfl
  have HZ := hidE hZ2
  have HN := hidE hN2
  have HM := hidE hM2
  have HO := hidE hO2
  have hM6 := hM2.lt
  clear hS2 hZ2 hN2 hM2 m0 fm hO2 hg
  go_wp2_with fail
  refine H4.out.mono ?_
  rintro r w4 ⟨n, s4, e4, rfl, hS, hR4, n0, n1, hsz4, hg⟩
  obtain ⟨nn, hnn⟩ : ∃ k : Nat, n = (k : Int) := ⟨n.toNat, by omega⟩
  subst hnn
  have hZ1 := HZ.out.grown hg (fun q => nZR (by simpa using q))
  have hN1 := HN.out.grown hg (fun q => nNR (by simpa using q))
  have hM1 := HM.out.grown hg (fun q => nMR (by simpa using q))
  have hO1 := HO.out.kept hg (Or.inr (own_apart HO.out (by omega)))
  have H5 := hidE (rdListD_ok R w.heap.size nn s4 e4 w4 hS hZ1 nZR (by omega) (by omega))
  have HG5 := hidE (HG4.out.trans hg)
  have HR4 := hidE hR4
  have HZ1 := hidE hZ1
  have HN1 := hidE hN1
  have HM1 := hidE hM1
  have HO1 := hidE hO1
  have hM7 := hM1.lt
  clear hS hR4 hg H4 HZ HN HM HO HG4 hZ1 hN1 hM1 hO1
  go_wp2_with fail
  refine H5.out.mono ?_
  rintro r w5 ⟨v, rs, s5, e5, rfl, hl, hO, hS, hR5, hsz5, hg⟩
  obtain ⟨q, cq, rfl⟩ := owns_sl hO.own
  have hN2 := HN1.out.grown hg (fun q => nNR (by simpa using q))
  have hM2 := HM1.out.grown hg (fun q => nMR (by simpa using q))
  have hO2 := HO1.out.kept hg (Or.inr (own_apart HO1.out (by omega)))
  have m3 := hM2.is 3 rfl
  have fm := hM2.frozen
  have hs0 := grownBy_set' w5 (w.heap.size + 2) 3 (.slice q rs.length cq)
  have hM3 : Blk (w5.setCell ⟨w.heap.size + 2, 3, none⟩ (.slice q rs.length cq)) (w.heap.size + 2) #[.int .i64 site, .int .i64 number, .slice p nl cp, .slice q rs.length cq] 53 := hM2.set 3 _
  have hN3 := hN2.grown hs0 (fun q => by simp at q)
  have hS3 := hS.grown hs0 (fun q => nMR (by simpa using q.symm))
  have hO3 := hO2.kept hs0 (Or.inr (own_apart hO2 hM5))
  have hD3 := hO.far (DdOwn.stays (w.heap.size + 2)) hM7 hs0
  have HG6 := hidE (grownBy_new (HG5.out.trans hg) hs0 (by omega))
  have hRN := HR1.out.note HR2.out HR3.out HR4.out (many := (nn : Int)) (by simpa using hR5)
  have HRN := hidE hRN
  clear hS hR5 hg H5 HZ1 HN1 HM1 HO1 HG5 hN2 hM2 hO2 hs0 hO hRN HR1 HR2 HR3 HR4
  have HLe := hidE hl
  clear hl
  generalize hY : rs.length = rl at *
  go_upto_region 6 with fail
  generalize w5.setCell ⟨w.heap.size + 2, 3, none⟩ (.slice q rl cq) = W7 at *
  have x0 := hM3.is 0 rfl
  have x1 := hM3.is 1 rfl
  have x2 := hM3.is 2 rfl
  have x3 := hM3.is 3 rfl
  have y0 := hN3.is 0 rfl
  have y1 := hN3.is 1 rfl
  have y2 := hN3.is 2 rfl
  have y3 := hN3.is 3 rfl
  have fy := hN3.frozen
  obtain ⟨hF, hGF⟩ := fill4 hN3 (.int .i64 site) (.int .i64 number) (.slice p nl cp) (.slice q rl cq)
  have hO9 := hO3.kept hGF (Or.inr (own_apart hO3 (by omega)))
  have hD9 := hD3.far (DdOwn.stays (w.heap.size + 1)) (by omega) hGF
  have HSF := hidE (hS3.grown hGF (fun q => nNR (by simpa using q.symm)))
  have HGF := hidE (grownBy_new HG6.out hGF (Nat.le_succ _))
  have HNT : Hid (NtOwn (put4 W7 (w.heap.size + 1) (.int .i64 site) (.int .i64 number) (.slice p nl cp) (.slice q rl cq)) w.heap.size ⟨site, number, needs, rs.map RD.d⟩ p q cp cq) := by
    subst hX hY
    have hO8 := owns_base hO9 (base' := w.heap.size) (by omega)
    rw [flatMap_i64] at hO8
    exact hidE ⟨by have h9 := HL.out; show needs.length ≤ 255; omega, by have h9 := HLe.out; show (rs.map RD.d).length ≤ 255; rw [List.length_map]; omega, hO8, rs, rfl, owns_base hD9.own (by omega), fun x hx => (hD9.each x hx).mono (by omega)⟩
  have HLr : Hid ((rs.map RD.d).length = rl) := by show _ = _; rw [List.length_map]; exact hY
  unfold put4 at hF
  have HF := hidE hF
  have HX := hidE hX
  clear hF hGF hO9 hD9 hO3 hD3 hM3 hN3 hS3 HG6 m3 fm hX hY
  go_wp2_with fail
  have k0 := HF.out.is 0 rfl
  have k1 := HF.out.is 1 rfl
  have k2 := HF.out.is 2 rfl
  have k3 := HF.out.is 3 rfl
  refine bodyPost_ret (v := .agg #[.int .i64 site, .int .i64 number, .slice p nl cp, .slice q rl cq]) (by simp [results, Try.results55, go_sem, k0, k1, k2, k3]) rfl ⟨⟨site, number, needs, rs.map RD.d⟩, p, q, cp, cq, s5, e5, ?_, HNT.out, HSF.out, HRN.out, by omega, HGF.out⟩
  unfold ntV
  simp only [HX.out, HLr.out]
end Go.Proofs.Ytnhjebdlcbhkcad
