/- Contracts of wire's reader: marks, texts. -/
import Derived.Test.YtnhjebdlcbhkcadRdListB
namespace Go.Proofs.Ytnhjebdlcbhkcad
open Go.RowKit

/-- what a mark that is read is -/
def MarkGives (w : World) (R : Nat) (s : ByteArray) (e : Bool) (r : Ending) (w' : World) : Prop :=
  ∃ (p : Option Addr) (cap : Nat) (l : List (Int × Int)) (c : Int) (s' : ByteArray) (e' : Bool), r = .returned (.agg #[.slice p l.length cap, .int .i64 c]) ∧ w'.ownsRow w.heap.size 110 2 (.slice p l.length cap) l.length (flatS l) ∧ l.length ≤ 255 ∧ RdSt w' R s' e' ∧ Rd pM s.data.toList e (l, c) s'.data.toList e' ∧ s'.size ≤ s.size ∧ w.grownBy w' (some R)

theorem flatS_eq (l : List (Int × Int)) : l.flatMap (fun y : Int × Int => [Value.int .i64 y.1, Value.int .i64 y.2]) = flatS l := rfl

/-- the local blocks: their own, and behind all that was -/
theorem grownBy_new {w w' w'' : World} {row : Option Nat} {N : Nat} (h : w.grownBy w' row) (k : w'.grownBy w'' (some N)) (hN : w.heap.size ≤ N) : w.grownBy w'' row :=
  grownBy_own h k (fun g q => Or.inl (by cases q; exact hN))

set_option maxRecDepth 100000 in
set_option maxHeartbeats 2000000 in
theorem rdMark_ok (R : Nat) (s : ByteArray) (e : Bool) (w : World) (h : RdSt w R s e) (hs : s.size ≤ maxLen) :
    Calls Try.prog 125 #[.pointer (some ⟨R, 0, none⟩)] w (MarkGives w R s e) := by
  have hA := alloc_below w (Obj.cells #[.pointer (some ⟨R, 0, none⟩)] 132)
  have hZ := Blk.new w #[.pointer (some ⟨R, 0, none⟩)] 132
  have hS := h.alloc (Obj.cells #[.pointer (some ⟨R, 0, none⟩)] 132)
  have hRw := h.lt
  have sz1 : (w.alloc (Obj.cells #[.pointer (some ⟨R, 0, none⟩)] 132)).heap.size = w.heap.size + 1 := by simp
  have hN := Blk.new (w.alloc (Obj.cells #[.pointer (some ⟨R, 0, none⟩)] 132)) #[.slice none 0 0, .int .i64 0] 29
  replace hA := hA.trans ((alloc_below (w.alloc (Obj.cells #[.pointer (some ⟨R, 0, none⟩)] 132)) (Obj.cells #[.slice none 0 0, .int .i64 0] 29)).mono hA.size)
  replace hZ := hZ.alloc (Obj.cells #[.slice none 0 0, .int .i64 0] 29)
  replace hS := hS.alloc (Obj.cells #[.slice none 0 0, .int .i64 0] 29)
  rw [sz1] at hN
  have sz2 : ((w.alloc (Obj.cells #[.pointer (some ⟨R, 0, none⟩)] 132)).alloc (Obj.cells #[.slice none 0 0, .int .i64 0] 29)).heap.size = w.heap.size + 2 := by simp
  clear sz1
  go_enter Try.func125, Try.ntmps125
  go_upto_region 1 with fail
  generalize (w.alloc (Obj.cells #[.pointer (some ⟨R, 0, none⟩)] 132)).alloc (Obj.cells #[.slice none 0 0, .int .i64 0] 29) = W at *
  have hM := Blk.new W #[.slice none 0 0, .int .i64 0] 29
  replace hA := hA.trans ((alloc_below W (Obj.cells #[.slice none 0 0, .int .i64 0] 29)).mono hA.size)
  replace hZ := hZ.alloc (Obj.cells #[.slice none 0 0, .int .i64 0] 29)
  replace hN := hN.alloc (Obj.cells #[.slice none 0 0, .int .i64 0] 29)
  replace hS := hS.alloc (Obj.cells #[.slice none 0 0, .int .i64 0] 29)
  rw [sz2] at hM
  go_upto_region 2 with fail
  generalize W.alloc (Obj.cells #[.slice none 0 0, .int .i64 0] 29) = W3 at *
  clear sz2
  have nZR : w.heap.size ≠ R := by omega
  have nNR : w.heap.size + 1 ≠ R := by omega
  have nMR : w.heap.size + 2 ≠ R := by omega
  have H1 := hidE (rdOne_ok R s e W3 hS hs)
  have c0 := hZ.is 0 rfl
  have HZ := hidE hZ
  have HN := hidE hN
  have HM := hidE hM
  have HG := hidE (grownBy_none hA (row := some R))
  have hAs := hA.size
  clear hZ hN hM hS h
  go_wp2_with fail
  refine H1.out.mono ?_
  rintro r w1 ⟨n, s1, e1, rfl, hS, hR, n0, n1, hsz, hg⟩
  have hZ1 := HZ.out.grown hg (fun q => nZR (by simpa using q))
  have HN1 := hidE (HN.out.grown hg (fun q => nNR (by simpa using q)))
  have HM1 := hidE (HM.out.grown hg (fun q => nMR (by simpa using q)))
  have HG1 := hidE (HG.out.trans hg)
  have HR1 := hidE hR
  have hsw1 := Nat.le_trans hAs hg.size
  obtain ⟨nn, hnn⟩ : ∃ k : Nat, n = (k : Int) := ⟨n.toNat, by omega⟩
  subst hnn
  have H2 := hidE (rdListS_ok R w.heap.size nn s1 e1 w1 hS hZ1 nZR (by omega) (by omega))
  have HZ1 := hidE hZ1
  clear hS hR hg H1 HZ HN HM HG hZ1
  go_wp2_with fail
  refine H2.out.mono ?_
  rintro r w2 ⟨v, l, s2, e2, rfl, hl, hO, hS, hR, hsz2, hg⟩
  rw [List.map_id] at hR
  obtain ⟨p, cap, rfl⟩ := owns_sl hO.own
  have hZ2 := HZ1.out.grown hg (fun q => nZR (by simpa using q))
  have hN2 := HN1.out.grown hg (fun q => nNR (by simpa using q))
  have hM2 := HM1.out.grown hg (fun q => nMR (by simpa using q))
  have m0 := hM2.is 0 rfl
  have fm := hM2.frozen 0
  have hM3 : Blk (w2.setCell ⟨w.heap.size + 2, 0, none⟩ (.slice p l.length cap)) (w.heap.size + 2) #[.slice p l.length cap, .int .i64 0] 29 := hM2.set 0 _
  have hZ3 := hZ2.setOther (a := ⟨w.heap.size + 2, 0, none⟩) (by show w.heap.size + 2 ≠ w.heap.size; omega) (.slice p l.length cap)
  have hN3 := hN2.setOther (a := ⟨w.heap.size + 2, 0, none⟩) (by show w.heap.size + 2 ≠ w.heap.size + 1; omega) (.slice p l.length cap)
  have hS3 := hS.setOther (a := ⟨w.heap.size + 2, 0, none⟩) nMR (.slice p l.length cap)
  have hM1lt := HM1.out.lt
  have hO3 := ownsRow_setCell_other (a := ⟨w.heap.size + 2, 0, none⟩) hO.own (fun q => by have h9 : w1.heap.size ≤ w.heap.size + 2 := (hO.own.lt _ q).1; omega) (.slice p l.length cap)
  have HG3 := hidE (grownBy_new (HG1.out.trans hg) (grownBy_set' w2 (w.heap.size + 2) 0 (.slice p l.length cap)) (by omega))
  have HR3 := hidE hR
  have hsw3 := Nat.le_trans hsw1 hg.size
  clear hO hS hR hg H2 HZ1 HN1 HM1 HG1 hZ2 hN2 hM2
  rw [flatS_eq] at hO3
  have HO3 := hidE hO3
  have HN3 := hidE hN3
  have HM3 := hidE hM3
  have HL := hidE hl
  have hl255 : l.length ≤ 255 := by omega
  clear hO3 hl
  generalize hX : l.length = ln at *
  go_upto_region 3 with fail
  generalize w2.setCell ⟨w.heap.size + 2, 0, none⟩ (.slice p ln cap) = W4 at *
  have H3 := hidE (rdTwo_ok R s2 e2 W4 hS3 (by omega))
  replace c0 := hZ3.is 0 rfl
  clear m0 fm hN3 hM3 hZ3 hS3
  go_wp2_with fail
  refine H3.out.mono ?_
  rintro r w5 ⟨c, s3, e3, rfl, hS, hR, d0, d1, hsz3, hg⟩
  have hN5 := HN3.out.grown hg (fun q => nNR (by simpa using q))
  have hM5 := HM3.out.grown hg (fun q => nMR (by simpa using q))
  have hO5 := HO3.out.kept hg (Or.inr (own_apart HO3.out (by omega)))
  have m0 := hM5.is 0 rfl
  have m1 := hM5.is 1 rfl
  have fm := hM5.frozen 1
  have n0 := hN5.is 0 rfl
  have n1 := hN5.is 1 rfl
  have fn0 := hN5.frozen 0
  have fn1 := hN5.frozen 1
  have HR5 := hidE (HR1.out.mark (by simpa using HR3.out) hR)
  have HG5 := hidE (HG3.out.trans hg)
  have hM6 : Blk (w5.setCell ⟨w.heap.size + 2, 1, none⟩ (.int .i64 c)) (w.heap.size + 2) #[.slice p ln cap, .int .i64 c] 29 := hM5.set 1 _
  have hN6 := hN5.setOther (a := ⟨w.heap.size + 2, 1, none⟩) (by show w.heap.size + 2 ≠ w.heap.size + 1; omega) (.int .i64 c)
  have hS6 := hS.setOther (a := ⟨w.heap.size + 2, 1, none⟩) nMR (.int .i64 c)
  have HG6 := hidE (grownBy_new HG5.out (grownBy_set' w5 (w.heap.size + 2) 1 (.int .i64 c)) (by omega))
  have hO6 := ownsRow_setCell_other (a := ⟨w.heap.size + 2, 1, none⟩) hO5 (own_apart hO5 hM1lt) (.int .i64 c)
  clear hS hR hg H3 HN3 HM3 HG3 HR3 HR1 hN5 hM5 hO5 HG5 HO3
  go_upto_region 4 with fail
  generalize w5.setCell ⟨w.heap.size + 2, 1, none⟩ (.int .i64 c) = W6 at *
  have x0 := hM6.is 0 rfl
  have x1 := hM6.is 1 rfl
  have y0 := hN6.is 0 rfl
  have y1 := hN6.is 1 rfl
  have fy0 := hN6.frozen 0
  have fy1 := hN6.frozen 1
  have hF : Blk ((W6.setCell ⟨w.heap.size + 1, 0, none⟩ (.slice p ln cap)).setCell ⟨w.heap.size + 1, 1, none⟩ (.int .i64 c)) (w.heap.size + 1) #[.slice p ln cap, .int .i64 c] 29 := (hN6.set 0 _).set 1 _
  have hO7 := ownsRow_setCell_other (a := ⟨w.heap.size + 1, 0, none⟩) hO6 (own_apart hO6 (show w.heap.size + 1 < w1.heap.size by omega)) (.slice p ln cap)
  have hO8 := ownsRow_setCell_other (a := ⟨w.heap.size + 1, 1, none⟩) hO7 (own_apart hO7 (show w.heap.size + 1 < w1.heap.size by omega)) (.int .i64 c)
  have HS8 := hidE ((hS6.setOther (a := ⟨w.heap.size + 1, 0, none⟩) nNR (.slice p ln cap)).setOther (a := ⟨w.heap.size + 1, 1, none⟩) nNR (.int .i64 c))
  have HG8 := hidE (grownBy_new (grownBy_new HG6.out (grownBy_set' W6 (w.heap.size + 1) 0 (.slice p ln cap)) (by omega)) (grownBy_set' (W6.setCell ⟨w.heap.size + 1, 0, none⟩ (.slice p ln cap)) (w.heap.size + 1) 1 (.int .i64 c)) (by omega))
  have HO8 := hidE (owns_base hO8 hsw1)
  have HF := hidE hF
  clear hF hO7 hO8 hO6 hS6 HG6 hM6 hN6 m0 m1 fm n0 n1 fn0 fn1
  go_wp2_with fail
  have k0 := HF.out.is 0 rfl
  have k1 := HF.out.is 1 rfl
  refine bodyPost_ret (v := .agg #[.slice p ln cap, .int .i64 c]) (by simp [results, Try.results125, go_sem, k0, k1]) rfl ⟨p, cap, l, c, s3, e3, by rw [hX], ?_, by omega, HS8.out, HR5.out, by omega, HG8.out⟩
  rw [hX]; exact HO8.out

theorem flatMap_u8 : ∀ l : List Int, l.flatMap (fun y => [Value.int .u8 y]) = l.map (Value.int .u8)
  | [] => rfl
  | x :: l => by rw [List.flatMap_cons, flatMap_u8 l]; rfl
theorem convert_own {w : World} {base : Nat} {v : Value} {l : List Int} (h : w.ownsRow base 5 1 v l.length (l.flatMap fun y => [.int .u8 y])) : ∃ p cap, v = .slice p l.length cap ∧ ∀ dst, Try.prog.underlying dst = some .string → (convert 86 dst (.slice p l.length cap)).run Try.prog w = .ok (.string (strOfNums l)) w := by
  have h' := h
  rcases h.2 with ⟨rfl, h0⟩ | ⟨g, cap, cur, rfl, _⟩
  · have hl0 := List.length_eq_zero_iff.1 h0
    subst hl0
    exact ⟨none, 0, rfl, fun dst hd => run_convert_bytes_nil (P := Try.prog) w 86 5 Try.underlying86 Try.underlying5 0 0 dst hd⟩
  · refine ⟨some ⟨g, 0, none⟩, cap, rfl, fun dst hd => run_convert_bytes_arg (P := Try.prog) w 86 5 Try.underlying86 Try.underlying5 g 0 l.length cap l rfl (fun i hi => ?_) dst hd⟩
    rw [Nat.zero_add]
    refine (h'.cellAt i (by omega)).trans ?_
    rw [flatMap_u8, List.getElem?_map, List.getElem?_eq_getElem hi]
    simp [List.getD, hi]

set_option maxRecDepth 100000 in
set_option maxHeartbeats 2000000 in
theorem rdText_ok (R : Nat) (s : ByteArray) (e : Bool) (w : World) (h : RdSt w R s e) (hs : s.size ≤ maxLen) :
    Calls Try.prog 126 #[.pointer (some ⟨R, 0, none⟩)] w fun r w' => ∃ (t : ByteArray) (s' : ByteArray) (e' : Bool), r = .returned (.string t) ∧ t.size ≤ 255 ∧ RdSt w' R s' e' ∧ Rd pT s.data.toList e t s'.data.toList e' ∧ s'.size ≤ s.size ∧ w.grownBy w' (some R) := by
  have hA := alloc_below w (Obj.cells #[.pointer (some ⟨R, 0, none⟩)] 132)
  have hZ := Blk.new w #[.pointer (some ⟨R, 0, none⟩)] 132
  have hS := h.alloc (Obj.cells #[.pointer (some ⟨R, 0, none⟩)] 132)
  have hRw := h.lt
  have nZR : w.heap.size ≠ R := by omega
  clear h
  go_enter Try.func126, Try.ntmps126
  go_upto_region 1 with fail
  generalize w.alloc (Obj.cells #[.pointer (some ⟨R, 0, none⟩)] 132) = W at *
  have H1 := hidE (rdOne_ok R s e W hS hs)
  have c0 := hZ.is 0 rfl
  have HZ := hidE hZ
  have HG := hidE (grownBy_none hA (row := some R))
  clear hZ hS hA
  go_wp2_with fail
  refine H1.out.mono ?_
  rintro r w1 ⟨n, s1, e1, rfl, hS, hR, n0, n1, hsz, hg⟩
  have hZ1 := HZ.out.grown hg (fun q => nZR (by simpa using q))
  have HG1 := hidE (HG.out.trans hg)
  have HR1 := hidE hR
  obtain ⟨nn, hnn⟩ : ∃ k : Nat, n = (k : Int) := ⟨n.toNat, by omega⟩
  subst hnn
  have H2 := hidE (rdListB_ok R w.heap.size nn s1 e1 w1 hS hZ1 nZR (by omega) (by omega))
  clear hS hR hg H1 HZ HG hZ1
  go_wp2_with fail
  refine H2.out.mono ?_
  rintro r w2 ⟨v, l, s2, e2, rfl, hl, hO, hS, hR, hsz2, hg⟩
  rw [List.map_id] at hR
  have HR2 := hidE (HR1.out.text (by simpa using hR))
  have HS2 := hidE hS
  have HG2 := hidE (HG1.out.trans hg)
  have hown := hO.own
  have hsl := strOfNums_size l
  have HSL : Hid ((strOfNums l).size ≤ 255) := by show _ ≤ _; omega
  clear hS hR hg H2 HR1 HG1 hO
  obtain ⟨p, cap, rfl, hcv⟩ := convert_own hown
  have hcv2 := hcv 9 Try.underlying9
  clear hcv hown hsl
  generalize strOfNums l = t at *
  subst hl
  generalize l.length = ln at *
  go_wp2_with fail
  go_ret
  exact ⟨t, s2, e2, rfl, HSL.out, HS2.out, HR2.out, by omega, HG2.out⟩
end Go.Proofs.Ytnhjebdlcbhkcad
