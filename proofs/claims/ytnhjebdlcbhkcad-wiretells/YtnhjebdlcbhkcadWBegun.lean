/- Contract of the reference's SameNote, where the notes are the same. -/
import Derived.Test.YtnhjebdlcbhkcadFreshM
import Derived.Test.YtnhjebdlcbhkcadSameD
import Derived.Test.YtnhjebdlcbhkcadNoteC
import Derived.Test.YtnhjebdlcbhkcadText
import Derived.Test.YtnhjebdlcbhkcadDecC
import Derived.Test.YtnhjebdlcbhkcadEncC
import Derived.Test.YtnhjebdlcbhkcadLawNote
namespace Go.Proofs.Ytnhjebdlcbhkcad
open Go.RowKit

set_option maxRecDepth 100000 in
set_option maxHeartbeats 2000000 in
theorem sameNote_true (p q p' q' : Option Addr) (cp cq cp' cq' : Nat) (n : Nt) (w : World) (h : NtAt w n p q) (h' : NtAt w n p' q') :
    Calls Try.prog 28 #[ntV n p q cp cq, ntV n p' q' cp' cq'] w fun e w' => e = .returned (.bool true) ∧ Below w.heap.size w w' := by
  have hA := alloc_below w (Obj.cells #[.int .i64 n.site, .int .i64 n.number, .slice p n.needs.length cp, .slice q n.deeds.length cq] 53)
  have hN := Blk.new w #[.int .i64 n.site, .int .i64 n.number, .slice p n.needs.length cp, .slice q n.deeds.length cq] 53
  have sz1 : (w.alloc (Obj.cells #[.int .i64 n.site, .int .i64 n.number, .slice p n.needs.length cp, .slice q n.deeds.length cq] 53)).heap.size = w.heap.size + 1 := by simp
  have hM := Blk.new (w.alloc (Obj.cells #[.int .i64 n.site, .int .i64 n.number, .slice p n.needs.length cp, .slice q n.deeds.length cq] 53)) #[.int .i64 n.site, .int .i64 n.number, .slice p' n.needs.length cp', .slice q' n.deeds.length cq'] 53
  have hA2 := alloc_below (w.alloc (Obj.cells #[.int .i64 n.site, .int .i64 n.number, .slice p n.needs.length cp, .slice q n.deeds.length cq] 53)) (Obj.cells #[.int .i64 n.site, .int .i64 n.number, .slice p' n.needs.length cp', .slice q' n.deeds.length cq'] 53)
  replace hN := hN.below hA2 hN.lt
  replace hA := hA.trans (hA2.mono hA.size)
  rw [sz1] at hM
  clear hA2 sz1
  unfold ntV
  have HI := hidE (fun w1 (hb : Below w.heap.size w w1) => sameInts_any p p' cp cp' n.needs n.needs w1 h.nl h.nl (h.needs.below hb) (h'.needs.below hb))
  have HD := hidE (fun w1 (hb : Below w.heap.size w w1) => sameDeeds_true q q' cq cq' n.deeds w1 h.dl (h.deeds.below hb) (h'.deeds.below hb))
  have hdt : decide (n.needs = n.needs) = true := decide_eq_true rfl
  rw [hdt] at HI
  clear h h' hdt
  generalize n.needs.length = n1 at *
  generalize n.deeds.length = n2 at *
  generalize n.site = a1 at *
  generalize n.number = a2 at *
  go_enter Try.func28, Try.ntmps28
  go_upto_region 1 with fail
  generalize (w.alloc (Obj.cells #[.int .i64 a1, .int .i64 a2, .slice p n1 cp, .slice q n2 cq] 53)).alloc (Obj.cells #[.int .i64 a1, .int .i64 a2, .slice p' n1 cp', .slice q' n2 cq'] 53) = W at *
  have x0 := hN.is 0 rfl
  have x1 := hN.is 1 rfl
  have x2 := hN.is 2 rfl
  have x3 := hN.is 3 rfl
  have y0 := hM.is 0 rfl
  have y1 := hM.is 1 rfl
  have y2 := hM.is 2 rfl
  have y3 := hM.is 3 rfl
  have HN := hidE hN
  have HM := hidE hM
  have HA := hidE hA
  clear hN hM hA
  go_wp2_with (first
    | (go_at_call 68; refine (HI.out _ HA.out).mono ?_; rintro e w1 ⟨rfl, hb⟩; have HB := hidE (HA.out.trans (hb.mono HA.out.size)); replace x3 := (HN.out.below hb HN.out.lt).is 3 rfl; replace y3 := (HM.out.below hb HM.out.lt).is 3 rfl)
    | (go_at_call 69; refine (HD.out _ HB.out).mono ?_; rintro e w2 ⟨rfl, hb2⟩))
  go_ret
  exact ⟨rfl, HB.out.trans (hb2.mono HB.out.size)⟩
end Go.Proofs.Ytnhjebdlcbhkcad

namespace Go.Proofs.Ytnhjebdlcbhkcad
open Go.RowKit

theorem dec_enc {n : Nt} (h : chkN n = 0) : decE (strOfNums (encN n)).data.toList = 0 ∧ decN (strOfNums (encN n)).data.toList = n := by
  have e := pN_of (roomN_of h)
  rw [← byt_str] at e
  unfold decE decN
  rw [e]
  exact ⟨h, if_pos h⟩
theorem enc_dec {s : ByteArray} (h : decE s.data.toList = 0) : chkN (decN s.data.toList) = 0 ∧ strOfNums (encN (decN s.data.toList)) = s := by
  unfold decE at h
  unfold decN
  split at h
  · rename_i n e
    rw [if_pos h]
    refine ⟨h, ?_⟩
    have hb := pN_back e
    rw [List.append_nil] at hb
    apply ByteArray.ext
    apply Array.toList_inj.1
    rw [byt_str, ← hb]
  · cases h
theorem dec_bad {s : ByteArray} (h : decE s.data.toList ≠ 0) : decN s.data.toList = noNt := by
  unfold decE at h
  unfold decN
  split
  · rename_i n e
    rw [e] at h
    rw [if_neg h]
  · rfl
theorem enc_small {n : Nt} (h : chkN n = 0) : (strOfNums (encN n)).size ≤ 300000 := by
  rw [strOfNums_size]; exact encN_len (roomN_of h)

def hiBytes : ByteArray := ⟨#[0, 1, 0, 0, 0, 0, 0, 0, 0, 0, 0, 0, 0, 1, 1, 1, 3, 0, 1, 0, 2, 104, 105]⟩
theorem enc_nHi : strOfNums (encN nHi) = hiBytes := by decide

theorem ntV_hi (p q : Option Addr) (cp cq : Nat) : ntV nHi p q cp cq = .agg #[.int .i64 0, .int .i64 1, .slice p 5 cp, .slice q 1 cq] := rfl

set_option maxRecDepth 100000 in
set_option maxHeartbeats 2000000 in
theorem wireBegun_true (w : World) :
    Calls Try.prog 26 #[] w fun e w' => e = .returned (.bool true) ∧ Below w.heap.size w w' := by
  have HNT := hidE lawNote_any
  have HE := hidE (fun p q w1 (h : NtAt w1 nHi p q) => encode_good nHi p q 5 1 w1 h chk_nHi)
  rw [enc_nHi] at HE
  have HD := hidE (fun w1 => decode_any hiBytes w1 (by decide))
  have hd := dec_enc chk_nHi
  rw [enc_nHi] at hd
  unfold DecGives at HD
  rw [hd.1, hd.2] at HD
  have HC := hidE (fun p q w1 (h : NtAt w1 nHi p q) => wireCheck_any nHi p q 5 1 w1 h)
  rw [chk_nHi] at HC
  have HS := hidE (fun p q p' q' cp cq w1 (h : NtAt w1 nHi p q) (h' : NtAt w1 nHi p' q') => sameNote_true p q p' q' cp cq 5 1 nHi w1 h h')
  clear hd
  simp only [ntV_hi] at HNT HE HD HC HS
  unfold hiBytes at *
  go_enter Try.func26, Try.ntmps26
  go_upto_region 2 with (first
    | (go_at_call 64; refine (HNT.out _).mono ?_; rintro e w1 ⟨p1, q1, rfl, h1, hb1⟩)
    | (go_at_call 21; refine (HE.out p1 q1 w1 h1).mono ?_; rintro e w2 ⟨rfl, hb2⟩))
  have HB2 := hidE (hb1.trans (hb2.mono hb1.size))
  clear hb1 hb2 h1
  go_upto_region 3 with (go_at_call 22; refine (HD.out w2).mono ?_; rintro e w3 ⟨p2, q2, cp, cq, rfl, h2, hb3⟩)
  have HB3 := hidE (HB2.out.trans (hb3.mono HB2.out.size))
  have hA := alloc_below w3 (Obj.cells #[.int .i64 0, .int .i64 1, .slice p2 5 cp, .slice q2 1 cq] 53)
  have hX := Blk.new w3 #[.int .i64 0, .int .i64 1, .slice p2 5 cp, .slice q2 1 cq] 53
  have h2A := h2.below hA
  have HB4 := hidE (HB3.out.trans (hA.mono HB3.out.size))
  generalize w3.alloc (Obj.cells #[.int .i64 0, .int .i64 1, .slice p2 5 cp, .slice q2 1 cq] 53) = W at *
  clear hb3 h2 hA HB2 HB3 HE HD
  have HX := hidE hX
  have H2 := hidE h2A
  have hlt := hX.lt
  clear hX h2A
  have x0 := HX.out.is 0 rfl
  have x1 := HX.out.is 1 rfl
  have x2 := HX.out.is 2 rfl
  have x3 := HX.out.is 3 rfl
  have hb : Below W.heap.size W W.drew := (Below.refl _ _).drew
  replace x0 := (HX.out.below hb hlt).is 0 rfl
  replace x1 := (HX.out.below hb hlt).is 1 rfl
  replace x2 := (HX.out.below hb hlt).is 2 rfl
  replace x3 := (HX.out.below hb hlt).is 3 rfl
  go_region_with (first
    | (go_at_call 64; refine (HNT.out _).mono ?_; rintro e w4 ⟨pn, qn, rfl, hn, hbn⟩; replace hb := hb.trans (hbn.mono hb.size); replace x0 := (HX.out.below hb hlt).is 0 rfl; replace x1 := (HX.out.below hb hlt).is 1 rfl; replace x2 := (HX.out.below hb hlt).is 2 rfl; replace x3 := (HX.out.below hb hlt).is 3 rfl)
    | (go_at_call 27; refine (HC.out pn qn _ hn).mono ?_; rintro e w5 ⟨rfl, hbn⟩; replace hb := hb.trans (hbn.mono hb.size); replace x0 := (HX.out.below hb hlt).is 0 rfl; replace x1 := (HX.out.below hb hlt).is 1 rfl; replace x2 := (HX.out.below hb hlt).is 2 rfl; replace x3 := (HX.out.below hb hlt).is 3 rfl)
    | (go_at_call 28; refine (HS.out p2 q2 pn qn cp cq _ (H2.out.below hb) hn).mono ?_; rintro e w6 ⟨rfl, hbn⟩; replace hb := hb.trans (hbn.mono hb.size)))
  all_goals
    go_wp2_with fail
    go_ret
    exact ⟨rfl, HB4.out.trans (hb.mono HB4.out.size)⟩
end Go.Proofs.Ytnhjebdlcbhkcad
