/- The law WireBack. -/
import Derived.Test.YtnhjebdlcbhkcadWBegun
namespace Go.Proofs.Ytnhjebdlcbhkcad
open Go.RowKit

/-- Decode, as the law takes it -/
theorem dec_row (s : ByteArray) (w : World) (hs : s.size ≤ maxLen) :
    Calls Try.prog 22 #[.string s] w fun r w' => ∃ p q cp cq, r = .returned (.tuple #[ntV (decN s.data.toList) p q cp cq, .int .i64 (decE s.data.toList)]) ∧ NtAt w' (decN s.data.toList) p q ∧ Below w.heap.size w w' := decode_any s w hs

set_option maxRecDepth 100000 in
set_option maxHeartbeats 4000000 in
theorem wireBack_ok (n : Nt) (p q : Option Addr) (cp cq : Nat) (s : ByteArray) (w : World) (h : NtAt w n p q) (hs : s.size ≤ maxLen) :
    Calls Try.prog 8 #[ntV n p q cp cq, .string s] w fun e w' => e = .returned (.bool true) ∧ Below w.heap.size w w' := by
  have HBG := hidE wireBegun_true
  have hA := alloc_below w (Obj.cells #[.int .i64 n.site, .int .i64 n.number, .slice p n.needs.length cp, .slice q n.deeds.length cq] 53)
  have hX := Blk.new w #[.int .i64 n.site, .int .i64 n.number, .slice p n.needs.length cp, .slice q n.deeds.length cq] 53
  have hT := h.below hA
  have HE := hidE (fun w1 (hb : Below w.heap.size w w1) => encode_any n p q cp cq w1 (h.below hb))
  have HS := hidE (fun p' q' cp' cq' w1 (hb : Below w.heap.size w w1) (h' : NtAt w1 n p' q') => sameNote_true p' q' p q cp' cq' cp cq n w1 h' (h.below hb))
  have HD1 := hidE (fun w1 (h0 : chkN n = 0) => dec_row (strOfNums (encN n)) w1 (by have := enc_small h0; unfold maxLen; omega))
  have HDE := hidE (fun h0 : chkN n = 0 => dec_enc h0)
  have HD2 := hidE (fun w1 => dec_row s w1 hs)
  have HE2 := hidE (fun p' q' cp' cq' w1 (h0 : decE s.data.toList = 0) (h' : NtAt w1 (decN s.data.toList) p' q') => encode_good (decN s.data.toList) p' q' cp' cq' w1 h' (enc_dec h0).1)
  have HED := hidE (fun h0 : decE s.data.toList = 0 => (enc_dec h0).2)
  have HDB := hidE (fun h0 : decE s.data.toList ≠ 0 => dec_bad h0)
  clear h hT
  unfold ntV at *
  go_enter Try.func8, Try.ntmps8
  go_upto_region 1 with fail
  generalize w.alloc (Obj.cells #[.int .i64 n.site, .int .i64 n.number, .slice p n.needs.length cp, .slice q n.deeds.length cq] 53) = W at *
  have HX := hidE hX
  have hlt := hX.lt
  have HA := hidE hA
  clear hX hA
  go_upto_region 3 with (go_at_call 26; refine (HBG.out _).mono ?_; rintro e w1 ⟨rfl, hb⟩)
  have hX1 := HX.out.below hb hlt
  have HB1 := hidE (HA.out.trans (hb.mono HA.out.size))
  have hlt1 := hX1.lt
  have x0 := hX1.is 0 rfl
  have x1 := hX1.is 1 rfl
  have x2 := hX1.is 2 rfl
  have x3 := hX1.is 3 rfl
  have HX1 := hidE hX1
  clear hb HX HA hX1
  by_cases h0 : chkN n = 0
  · have HE1 := hidE (HE.out w1 HB1.out)
    rw [if_pos h0, h0] at HE1
    have HD1' := hidE (fun w1 => HD1.out w1 h0)
    have hde := HDE.out h0
    rw [hde.1, hde.2] at HD1'
    clear HE HD1 HDE hde h0
    generalize strOfNums (encN n) = t at *
    go_upto_region 4 with (go_at_call 21; refine HE1.out.mono ?_; rintro e w2 ⟨rfl, hb⟩)
    have hX2 := HX1.out.below hb hlt1
    have HB2 := hidE (HB1.out.trans (hb.mono HB1.out.size))
    have hlt2 := hX2.lt
    have HX2 := hidE hX2
    clear hb HX1 HB1 hX2 x0 x1 x2 x3 HE1
    go_upto_region 6 with (go_at_call 22; refine (HD1'.out _).mono ?_; rintro e w3 ⟨p1, q1, cp1, cq1, rfl, h1, hb⟩)
    have hX3 := HX2.out.below hb hlt2
    have HB3 := hidE (HB2.out.trans (hb.mono HB2.out.size))
    have hY := Blk.new w3 #[.int .i64 n.site, .int .i64 n.number, .slice p1 n.needs.length cp1, .slice q1 n.deeds.length cq1] 53
    have hA3 := alloc_below w3 (Obj.cells #[.int .i64 n.site, .int .i64 n.number, .slice p1 n.needs.length cp1, .slice q1 n.deeds.length cq1] 53)
    have hX4 := hX3.below hA3 hX3.lt
    have h4 := h1.below hA3
    have HB4 := hidE (HB3.out.trans (hA3.mono HB3.out.size))
    generalize w3.alloc (Obj.cells #[.int .i64 n.site, .int .i64 n.number, .slice p1 n.needs.length cp1, .slice q1 n.deeds.length cq1] 53) = W4 at *
    have x0 := hX4.is 0 rfl
    have x1 := hX4.is 1 rfl
    have x2 := hX4.is 2 rfl
    have x3 := hX4.is 3 rfl
    have y0 := hY.is 0 rfl
    have y1 := hY.is 1 rfl
    have y2 := hY.is 2 rfl
    have y3 := hY.is 3 rfl
    have HSN := hidE (HS.out p1 q1 cp1 cq1 W4 HB4.out h4)
    clear hb hX3 hY hA3 hX4 h1 h4 HB3 HX2 HB2 HS HD1'
    go_upto_region 8 with (go_at_call 28; refine HSN.out.mono ?_; rintro e w6 ⟨rfl, hb⟩)
    have HB6 := hidE (HB4.out.trans (hb.mono HB4.out.size))
    clear hb HSN HB4 x0 x1 x2 x3 y0 y1 y2 y3
    go_upto_region 9 with (go_at_call 22; refine (HD2.out _).mono ?_; rintro e w7 ⟨p2, q2, cp2, cq2, rfl, h2, hb⟩)
    have HB7 := hidE (HB6.out.trans (hb.mono HB6.out.size))
    have hY := Blk.new w7 #[.int .i64 (decN s.data.toList).site, .int .i64 (decN s.data.toList).number, .slice p2 (decN s.data.toList).needs.length cp2, .slice q2 (decN s.data.toList).deeds.length cq2] 53
    have hA7 := alloc_below w7 (Obj.cells #[.int .i64 (decN s.data.toList).site, .int .i64 (decN s.data.toList).number, .slice p2 (decN s.data.toList).needs.length cp2, .slice q2 (decN s.data.toList).deeds.length cq2] 53)
    have H2 := hidE (h2.below hA7)
    have HB8 := hidE (HB7.out.trans (hA7.mono HB7.out.size))
    generalize w7.alloc (Obj.cells #[.int .i64 (decN s.data.toList).site, .int .i64 (decN s.data.toList).number, .slice p2 (decN s.data.toList).needs.length cp2, .slice q2 (decN s.data.toList).deeds.length cq2] 53) = W8 at *
    have y0 := hY.is 0 rfl
    have y1 := hY.is 1 rfl
    have y2 := hY.is 2 rfl
    have y3 := hY.is 3 rfl
    clear hb h2 hY hA7 HB7 HB6 HD2
    by_cases hd0 : decE s.data.toList = 0
    · have HE3 := hidE (HE2.out p2 q2 cp2 cq2 W8 hd0 H2.out)
      rw [HED.out hd0] at HE3
      rw [hd0]
      clear HE2 HED HDB hd0 H2
      generalize decN s.data.toList = m at *
      generalize m.needs.length = m1 at *
      generalize m.deeds.length = m2 at *
      generalize m.site = m3 at *
      generalize m.number = m4 at *
      go_wp2_with (go_at_call 21; refine HE3.out.mono ?_; rintro e w9 ⟨rfl, hb⟩)
      go_ret
      exact ⟨by simp, HB8.out.trans (hb.mono HB8.out.size)⟩
    · have hdb : (decE s.data.toList != 0) = true := bne_iff_ne.2 hd0
      have hno := HDB.out hd0
      rw [hno] at y0 y1 y2 y3 ⊢
      clear HE2 HED HDB hd0 H2 hno
      have e3 : noNt.needs.length = 0 := rfl
      have e4 : noNt.deeds.length = 0 := rfl
      simp only [e3, e4] at y2 y3 ⊢
      generalize decE s.data.toList = er at *
      generalize noNt.site = m3 at *
      generalize noNt.number = m4 at *
      go_wp2_with fail
      go_ret
      exact ⟨rfl, HB8.out⟩
  · have HE1 := hidE (HE.out w1 HB1.out)
    rw [if_neg h0] at HE1
    have hcb : (chkN n == 0) = false := by rw [beq_eq_false_iff_ne]; exact h0
    have hcb2 : decide (chkN n = 0) = false := decide_eq_false h0
    clear HE HD1 HDE h0 HS
    generalize chkN n = c at *
    go_upto_region 8 with (go_at_call 21; refine HE1.out.mono ?_; rintro e w6 ⟨rfl, hb⟩)
    have HB6 := hidE (HB1.out.trans (hb.mono HB1.out.size))
    clear hb HX1 HB1 x0 x1 x2 x3 HE1 hcb hcb2
    go_upto_region 9 with (go_at_call 22; refine (HD2.out _).mono ?_; rintro e w7 ⟨p2, q2, cp2, cq2, rfl, h2, hb⟩)
    have HB7 := hidE (HB6.out.trans (hb.mono HB6.out.size))
    have hY := Blk.new w7 #[.int .i64 (decN s.data.toList).site, .int .i64 (decN s.data.toList).number, .slice p2 (decN s.data.toList).needs.length cp2, .slice q2 (decN s.data.toList).deeds.length cq2] 53
    have hA7 := alloc_below w7 (Obj.cells #[.int .i64 (decN s.data.toList).site, .int .i64 (decN s.data.toList).number, .slice p2 (decN s.data.toList).needs.length cp2, .slice q2 (decN s.data.toList).deeds.length cq2] 53)
    have H2 := hidE (h2.below hA7)
    have HB8 := hidE (HB7.out.trans (hA7.mono HB7.out.size))
    generalize w7.alloc (Obj.cells #[.int .i64 (decN s.data.toList).site, .int .i64 (decN s.data.toList).number, .slice p2 (decN s.data.toList).needs.length cp2, .slice q2 (decN s.data.toList).deeds.length cq2] 53) = W8 at *
    have y0 := hY.is 0 rfl
    have y1 := hY.is 1 rfl
    have y2 := hY.is 2 rfl
    have y3 := hY.is 3 rfl
    clear hb h2 hY hA7 HB7 HB6 HD2
    by_cases hd0 : decE s.data.toList = 0
    · have HE3 := hidE (HE2.out p2 q2 cp2 cq2 W8 hd0 H2.out)
      rw [HED.out hd0] at HE3
      rw [hd0]
      clear HE2 HED HDB hd0 H2
      generalize decN s.data.toList = m at *
      generalize m.needs.length = m1 at *
      generalize m.deeds.length = m2 at *
      generalize m.site = m3 at *
      generalize m.number = m4 at *
      go_wp2_with (go_at_call 21; refine HE3.out.mono ?_; rintro e w9 ⟨rfl, hb⟩)
      go_ret
      exact ⟨by simp, HB8.out.trans (hb.mono HB8.out.size)⟩
    · have hdb : (decE s.data.toList != 0) = true := bne_iff_ne.2 hd0
      have hno := HDB.out hd0
      rw [hno] at y0 y1 y2 y3 ⊢
      clear HE2 HED HDB hd0 H2 hno
      have e3 : noNt.needs.length = 0 := rfl
      have e4 : noNt.deeds.length = 0 := rfl
      simp only [e3, e4] at y2 y3 ⊢
      generalize decE s.data.toList = er at *
      generalize noNt.site = m3 at *
      generalize noNt.number = m4 at *
      go_wp2_with fail
      go_ret
      exact ⟨rfl, HB8.out⟩
end Go.Proofs.Ytnhjebdlcbhkcad
