/- Contract of wire.Decode. -/
import Derived.Test.YtnhjebdlcbhkcadRdNote
namespace Go.Proofs.Ytnhjebdlcbhkcad
open Go.RowKit

/-- what Decode answers, and the reference's DecodeOf -/
def DecGives (s : ByteArray) (w : World) (r : Ending) (w' : World) : Prop :=
  ∃ (p q : Option Addr) (cp cq : Nat), r = .returned (.tuple #[ntV (decN s.data.toList) p q cp cq, .int .i64 (decE s.data.toList)]) ∧ NtAt w' (decN s.data.toList) p q ∧ Below w.heap.size w w'

theorem noNt_at (w : World) : NtAt w noNt none none := ⟨Or.inl rfl, Or.inl rfl, Nat.zero_le _, Nat.zero_le _⟩

set_option maxRecDepth 100000 in
set_option maxHeartbeats 4000000 in
theorem decode_any (s : ByteArray) (w : World) (hs : s.size ≤ maxLen) :
    Calls Try.prog 22 #[.string s] w (DecGives s w) := by
  have hN := Blk.new w zeroN 53
  have hA := alloc_below w (Obj.cells zeroN 53)
  have sz1 : (w.alloc (Obj.cells zeroN 53)).heap.size = w.heap.size + 1 := by simp
  go_enter Try.func22, Try.ntmps22
  go_upto_region 1 with fail
  generalize w.alloc (Obj.cells zeroN 53) = W at *
  have hS : RdSt (W.alloc (Obj.cells #[.string s, .bool false] 91)) W.heap.size s false := Blk.new W #[.string s, .bool false] 91
  have hA2 := alloc_below W (Obj.cells #[.string s, .bool false] 91)
  replace hN := hN.below hA2 hN.lt
  replace hA := hA.trans (hA2.mono hA.size)
  rw [sz1] at hS
  go_upto_region 2 with fail
  generalize W.alloc (Obj.cells #[.string s, .bool false] 91) = W2 at *
  clear hA2 sz1
  have H1 := hidE (rdNote_ok (w.heap.size + 1) s false W2 hS hs)
  have hNW2 := hN.lt
  have HA := hidE hA
  have HN := hidE hN
  clear hS hA hN
  go_upto_region 3 with (go_at_call 55; refine H1.out.mono ?_; rintro r w1 ⟨n, p, q, cp, cq, s1, e1, rfl, hNT, hS, hR, hsz, hg⟩; unfold ntV)
  have nNR : w.heap.size ≠ w.heap.size + 1 := by omega
  have hK := Blk.new w1 #[.int .i64 n.site, .int .i64 n.number, .slice p n.needs.length cp, .slice q n.deeds.length cq] 53
  have hAl := alloc_below w1 (Obj.cells #[.int .i64 n.site, .int .i64 n.number, .slice p n.needs.length cp, .slice q n.deeds.length cq] 53)
  have hN3 := (HN.out.grown hg (fun q => nNR (by simp at q))).below hAl (HN.out.grown hg (fun q => nNR (by simp at q))).lt
  have hS3 := hS.below hAl hS.lt
  have hNT3 := hNT.far (N := w.heap.size) hNW2 (grownBy_none hAl)
  have hT3 := hNT3.at'
  have hb3 : Below w.heap.size w w1 := HA.out.trans (below_of_grown hg (Nat.le_succ _) HA.out.size)
  have hb4 := hb3.trans (hAl.mono hb3.size)
  have hwK : w.heap.size < w1.heap.size := (HN.out.grown hg (fun q => nNR (by simp at q))).lt
  generalize w1.alloc (Obj.cells #[.int .i64 n.site, .int .i64 n.number, .slice p n.needs.length cp, .slice q n.deeds.length cq] 53) = W3 at *
  generalize w1.heap.size = K at *
  have HT := hidE hNT3
  have HB := hidE hb4
  have HK := hidE hK
  have HN3 := hidE hN3
  have HC := hidE (wireCheck_any n p q cp cq W3 hT3)
  have r0 := hS3.is 0 rfl
  have r1 := hS3.is 1 rfl
  have hKlt := hK.lt
  clear hS hNT hNT3 hAl hT3 hb3 hb4 hg H1 HA HN hK hN3 hS3
  have HR := hidE hR
  clear hR
  obtain ⟨hF0, hG0⟩ := fill4 HN3.out (.int .i64 0) (.int .i64 0) (.slice none 0 0) (.slice none 0 0)
  have hbF : Below w.heap.size w (put4 W3 w.heap.size (.int .i64 0) (.int .i64 0) (.slice none 0 0) (.slice none 0 0)) := HB.out.trans (below_of_grown hG0 (Nat.le_refl _) HB.out.size)
  unfold put4 at hF0 hbF
  have HF0 := hidE hF0
  have HBF := hidE hbF
  have y0 := HN3.out.is 0 rfl
  have y1 := HN3.out.is 1 rfl
  have y2 := HN3.out.is 2 rfl
  have y3 := HN3.out.is 3 rfl
  have fy := HN3.out.frozen
  clear hF0 hG0 hbF
  have HBAD : Hid ((e1 = true ∨ s1.data.toList ≠ []) → decE s.data.toList = 1 ∧ decN s.data.toList = noNt) := hidE fun h => HR.out.dec_bad h
  cases e1 with
  | true =>
    obtain ⟨hE, hD⟩ := HBAD.out (Or.inl rfl)
    clear HBAD HR HC HT
    go_wp2_with fail
    have k0 := HF0.out.is 0 rfl
    have k1 := HF0.out.is 1 rfl
    have k2 := HF0.out.is 2 rfl
    have k3 := HF0.out.is 3 rfl
    exact bodyPost_ret (v := .tuple #[.agg #[.int .i64 0, .int .i64 0, .slice none 0 0, .slice none 0 0], .int .i64 1]) (by simp [results, Try.results22, go_sem, k0, k1, k2, k3]) rfl ⟨none, none, 0, 0, by rw [hE, hD]; rfl, by rw [hD]; exact noNt_at _, HBF.out⟩
  | false =>
    by_cases hs1 : s1.size = 0
    · have hte : s1.toList.isEmpty = true := by rw [isEmpty_size, hs1]; rfl
      have hGOOD := Rd.dec_good (s := s.data.toList) (n := n) (by have := HR.out; rw [size_nil hs1] at this; exact this)
      have HGOOD := hidE hGOOD
      clear hGOOD HR HBAD HF0 HBF
      have x0 := HK.out.is 0 rfl
      have x1 := HK.out.is 1 rfl
      have x2 := HK.out.is 2 rfl
      have x3 := HK.out.is 3 rfl
      have HN3b := HN3
      have HNT := HT
      unfold ntV at HC
      clear HT
      have HNM := hidE (show ntV n p q cp cq = .agg #[.int .i64 n.site, .int .i64 n.number, .slice p n.needs.length cp, .slice q n.deeds.length cq] from rfl)
      generalize n.needs.length = n1 at *
      generalize n.deeds.length = n2 at *
      generalize n.site = a1 at *
      generalize n.number = a2 at *
      clear HN3
      go_upto_region 6 with (go_at_call 27; refine HC.out.mono ?_; rintro r w4 ⟨rfl, hb⟩)
      have hN4 := HN3b.out.below hb HN3b.out.lt
      have hK4 := HK.out.below hb hKlt
      have hT4 := HNT.out.far (N := w.heap.size) hNW2 (grownBy_none hb)
      have hb4 := HB.out.trans (hb.mono HB.out.size)
      replace x0 := hK4.is 0 rfl
      replace x1 := hK4.is 1 rfl
      replace x2 := hK4.is 2 rfl
      replace x3 := hK4.is 3 rfl
      replace y0 := hN4.is 0 rfl
      replace y1 := hN4.is 1 rfl
      replace y2 := hN4.is 2 rfl
      replace y3 := hN4.is 3 rfl
      replace fy := hN4.frozen
      clear r0 r1 HC hK4
      by_cases hc : chkN n = 0
      · have HE := hidE HGOOD.out
        rw [hc, if_pos rfl] at HE
        rw [hc]
        obtain ⟨hF, hG⟩ := fill4 hN4 (.int .i64 a1) (.int .i64 a2) (.slice p n1 cp) (.slice q n2 cq)
        have hbF := hb4.trans (below_of_grown hG (Nat.le_refl _) hb4.size)
        have hTF : NtAt (put4 w4 w.heap.size (.int .i64 a1) (.int .i64 a2) (.slice p n1 cp) (.slice q n2 cq)) n p q := (hT4.far hNW2 hG).at'
        have HTF := hidE hTF
        unfold put4 at hF hbF
        have HF := hidE hF
        have HBF := hidE hbF
        clear hF hbF hG hTF hT4 hb4 hN4 HGOOD hb
        go_wp2_with fail
        have k0 := HF.out.is 0 rfl
        have k1 := HF.out.is 1 rfl
        have k2 := HF.out.is 2 rfl
        have k3 := HF.out.is 3 rfl
        exact bodyPost_ret (v := .tuple #[.agg #[.int .i64 a1, .int .i64 a2, .slice p n1 cp, .slice q n2 cq], .int .i64 0]) (by simp [results, Try.results22, go_sem, k0, k1, k2, k3]) rfl ⟨p, q, cp, cq, by rw [HE.out.1, HE.out.2, HNM.out], by rw [HE.out.2]; exact HTF.out, HBF.out⟩
      · have hcb : (chkN n != 0) = true := bne_iff_ne.2 hc
        have HE := hidE HGOOD.out
        rw [if_neg hc] at HE
        obtain ⟨hF, hG⟩ := fill4 hN4 (.int .i64 0) (.int .i64 0) (.slice none 0 0) (.slice none 0 0)
        have hbF := hb4.trans (below_of_grown hG (Nat.le_refl _) hb4.size)
        unfold put4 at hF hbF
        have HF := hidE hF
        have HBF := hidE hbF
        clear hF hbF hG hT4 hb4 hN4 HGOOD hb hc
        generalize chkN n = cn at *
        go_wp2_with fail
        have k0 := HF.out.is 0 rfl
        have k1 := HF.out.is 1 rfl
        have k2 := HF.out.is 2 rfl
        have k3 := HF.out.is 3 rfl
        exact bodyPost_ret (v := .tuple #[.agg #[.int .i64 0, .int .i64 0, .slice none 0 0, .slice none 0 0], .int .i64 cn]) (by simp [results, Try.results22, go_sem, k0, k1, k2, k3]) rfl ⟨none, none, 0, 0, by rw [HE.out.1, HE.out.2]; rfl, by rw [HE.out.2]; exact noNt_at _, HBF.out⟩
    · have hte : s1.toList.isEmpty = false := by rw [isEmpty_size]; simpa using hs1
      obtain ⟨hE, hD⟩ := HBAD.out (Or.inr (fun h => hs1 (by have := congrArg List.length h; simpa using this)))
      clear HBAD HR HC HT
      go_wp2_with fail
      have k0 := HF0.out.is 0 rfl
      have k1 := HF0.out.is 1 rfl
      have k2 := HF0.out.is 2 rfl
      have k3 := HF0.out.is 3 rfl
      exact bodyPost_ret (v := .tuple #[.agg #[.int .i64 0, .int .i64 0, .slice none 0 0, .slice none 0 0], .int .i64 1]) (by simp [results, Try.results22, go_sem, k0, k1, k2, k3]) rfl ⟨none, none, 0, 0, by rw [hE, hD]; rfl, by rw [hD]; exact noNt_at _, HBF.out⟩
end Go.Proofs.Ytnhjebdlcbhkcad
