/- The law RestStates. -/
import Derived.Test.YtnhjebdlcbhkcaeGreatRestC
import Derived.Test.YtnhjebdlcbhkcaeGreatCopS
import Derived.Test.YtnhjebdlcbhkcaeGreatChkBtw
import Derived.Test.YtnhjebdlcbhkcaeGreatSBeg
import Derived.Test.YtnhjebdlcbhkcaeGreatSameD
import Derived.Test.YtnhjebdlcbhkcaeGreatDoC
import Derived.Deep.DeepCutAuto
import Derived.Deep.RegionHeldLaw
namespace Go.Proofs.YtnhjebdlcbhkcaeGreat
open Go.RowKit

theorem AllPost.both {l : List At} {g : List Mk} {ds : List Dd} {base : Nat} {e : Ending} {w : World} (h : AllPost l g ds base e w) : ∃ p n c q m d, e = .returned (.tuple #[.agg #[.slice p n c, .slice q m d], .int .i64 (errAll l g ds)]) ∧ StP l g ds p n c q m d w ∧ ShA w base p n ∧ ShM w base q m ∧ n ≤ maxLen ∧ m ≤ maxLen := by
  rcases h with ⟨hne, rfl⟩ | ⟨h0, l', g', p, c, q, d, hok, hda, hok', rfl, hP, hM⟩
  · exact ⟨none, 0, 0, none, 0, 0, rfl, Or.inl ⟨hne, rfl, rfl, rfl, rfl, rfl, rfl⟩, Or.inl rfl, Or.inl rfl, Nat.zero_le _, Nat.zero_le _⟩
  · obtain ⟨p1, c1, e1, hat, _⟩ := hP.owns.atoms (Below.refl _ _)
    cases e1
    obtain ⟨p2, c2, e2, hmk, _⟩ := hM.marks
    cases e2
    have hl3 : l'.length ≤ maxLen := small_max (by have := hok'.atoms.len; omega)
    have hg6 : g'.length ≤ maxLen := small_max (by have := hok'.len; omega)
    exact ⟨p, l'.length, c, q, g'.length, d, by rw [h0], Or.inr ⟨h0, l', g', hda, rfl, rfl, hat, hmk, hl3, hg6⟩, ShA.pick hP rfl, ShM.mk hM rfl, hl3, hg6⟩

theorem marks1_new {w : World} {p : Option Addr} {cap : Nat} {l : List (Int × Int)} {c : Int} {t : TypeId} (h : StepsAt w p l) (hl : l.length ≤ maxLen) : MarksAt (w.alloc (Obj.cells #[.slice p l.length cap, .int .i64 c] t)) (some ⟨w.heap.size, 0, none⟩) [(l, c)] := by
  have hX := Blk.new w #[.slice p l.length cap, .int .i64 c] t
  refine Or.inr ⟨_, 0, rfl, hX.lt, fun i hi => ?_⟩
  obtain rfl : i = 0 := by simpa using hi
  exact ⟨p, cap, hX.is 0 rfl, hX.is 1 rfl, h.below (alloc_below _ _) (Nat.le_refl _), hl⟩

structure RsAt (w : World) (S4 S9 S11 : Nat) (a b r p q z u v : Option Addr) (ca cb cp cq n1 cu m1 cv : Nat) (l : List At) (g : List Mk) (ds : List Dd) : Prop where
  arg : Blk w S4 #[.slice a l.length ca, .slice b g.length cb] 25
  inn : Blk w S9 #[.slice p l.length cp, .slice q g.length cq] 25
  want : Blk w S11 #[.slice u n1 cu, .slice v m1 cv] 25
  s0 : AtomsAt w a l
  s1 : MarksAt w b g
  s2 : DeedsAt w r ds
  i0 : AtomsAt w p l
  i1 : MarksAt w q g
  i2 : DeedsAt w z ds
  wa : StP l g ds u n1 cu v m1 cv w
theorem RsAt.below {w w' : World} {S4 S9 S11 : Nat} {a b r p q z u v : Option Addr} {ca cb cp cq n1 cu m1 cv : Nat} {l : List At} {g : List Mk} {ds : List Dd} (h : RsAt w S4 S9 S11 a b r p q z u v ca cb cp cq n1 cu m1 cv l g ds) (hb : Below w.heap.size w w') : RsAt w' S4 S9 S11 a b r p q z u v ca cb cp cq n1 cu m1 cv l g ds :=
  ⟨h.arg.thruB hb, h.inn.thruB hb, h.want.thruB hb, h.s0.below hb (Nat.le_refl _), h.s1.below hb (Nat.le_refl _), h.s2.below hb, h.i0.below hb (Nat.le_refl _), h.i1.below hb (Nat.le_refl _), h.i2.below hb, h.wa.below hb⟩

set_option maxRecDepth 100000 in
set_option maxHeartbeats 8000000 in
theorem restStates_ok (a b r : Option Addr) (ca cb cr : Nat) (l : List At) (g : List Mk) (ds : List Dd) (place : Int) (t : ByteArray) (w : World) (h : AtomsAt w a l) (h' : MarksAt w b g) (hr : DeedsAt w r ds) (hz : StSz l g) (hd : DdSz ds) (ht : t.size ≤ maxLen) :
    Calls Tryz.prog 3 #[.agg #[.slice a l.length ca, .slice b g.length cb], .slice r ds.length cr, .int .i64 place, .string t] w fun e w' => e = .returned (.bool true) ∧ Below w.heap.size w w' := by
  have hX := Blk.new w #[.slice a l.length ca, .slice b g.length cb] 25
  have hB := alloc_below w (Obj.cells #[.slice a l.length ca, .slice b g.length cb] 25)
  have hlm : l.length ≤ maxLen := by have := hz.1.1; unfold maxLen; omega
  have hgm : g.length ≤ maxLen := by have := hz.2.1; unfold maxLen; omega
  have hdm : ds.length ≤ maxLen := by have := hd.1; unfold maxLen; omega
  have HA := hidE h
  have HM := hidE h'
  have HD := hidE hr
  have HZ := hidE hz
  have HDZ := hidE hd
  have HT := hidE ht
  clear h h' hr hz hd ht
  go_enter Tryz.func3, Tryz.ntmps3
  go_upto_region 1 with fail
  generalize w.alloc (Obj.cells #[.slice a l.length ca, .slice b g.length cb] 25) = W at *
  have HX := hidE hX
  have HB := hidE hB
  clear hX hB
  have hC : Below W.heap.size W W := Below.refl _ _
  go_upto_region 3 with (first
    | (go_at_call 6; refine (stateBegun_true _).mono ?_; rintro e w1 ⟨rfl, hb1⟩; replace hC := hC.thru hb1 hC.size)
    | (go_at_call 7; refine (atomBegun_true _).mono ?_; rintro e w1 ⟨rfl, hb1⟩; replace hC := hC.thru hb1 hC.size)
    | (go_at_call 8; refine (runBegun_true _).mono ?_; rintro e w1 ⟨rfl, hb1⟩; replace hC := hC.thru hb1 hC.size)
    | (go_at_call 9; refine (editBegun_true _).mono ?_; rintro e w1 ⟨rfl, hb1⟩; replace hC := hC.thru hb1 hC.size)
    | (go_at_call 10; refine (caretBegun_true _).mono ?_; rintro e w1 ⟨rfl, hb1⟩; replace hC := hC.thru hb1 hC.size)
    | (go_at_call 11; refine (markBegun_true _).mono ?_; rintro e w1 ⟨rfl, hb1⟩; replace hC := hC.thru hb1 hC.size)
    | (go_at_call 12; refine (diffBegun_true _).mono ?_; rintro e w1 ⟨rfl, hb1⟩; replace hC := hC.thru hb1 hC.size))
  have HX1 := hidE (HX.out.thruB hC)
  have HB1 := hidE (HB.out.thru hC HB.out.size)
  have x0 := HX1.out.is 0 rfl
  have x1 := HX1.out.is 1 rfl
  clear hC
  have HCS := hidE (copiedState_ok a b ca cb l g w1 (HA.out.below HB1.out (Nat.le_refl _)) (HM.out.below HB1.out (Nat.le_refl _)) HZ.out)
  have HCD := hidE (fun w2 (hb : Below w1.heap.size w1 w2) => copiedDeeds_ok r cr ds w2 (HD.out.below (HB1.out.thru hb HB1.out.size)) HDZ.out)
  go_upto_region 4 with (first
    | (go_at_call 13; refine HCS.out.mono ?_; rintro e w2 ⟨p, cp, q, cq, rfl, hi0, hi1, hcp1, hcp2, hb2⟩)
    | (go_at_call 14; refine (HCD.out _ hb2).mono ?_; rintro e w3 ⟨z, cz, rfl, hi2, _, _, hb3⟩))
  have hbA := alloc_below w3 (Obj.cells #[.slice p l.length cp, .slice q g.length cq] 25)
  have hbB := (hb2.thru hb3 hb2.size).thru hbA (hb2.thru hb3 hb2.size).size
  have HX2 := hidE (HX1.out.thruB hbB)
  have HI2 := hidE (Blk.new w3 #[.slice p l.length cp, .slice q g.length cq] 25)
  have HB2 := hidE (HB1.out.thru hbB HB1.out.size)
  have HI0 := hidE (hi0.below (hb3.thru hbA hb3.size) (Nat.le_refl _))
  have HI1 := hidE (hi1.below (hb3.thru hbA hb3.size) (Nat.le_refl _))
  have HID := hidE (hi2.below hbA)
  have HCP := hidE (And.intro hcp1 hcp2)
  clear hi0 hi1 hi2 hcp1 hcp2 hb2 hb3 hbA hbB x0 x1 HX1 HB1 HCS HCD
  generalize w3.alloc (Obj.cells #[.slice p l.length cp, .slice q g.length cq] 25) = W3 at *
  generalize w3.heap.size = S9 at *
  have x0 := HX2.out.is 0 rfl
  have x1 := HX2.out.is 1 rfl
  have HAO := hidE (allOf_ok a b r ca cb cr l g ds W3 hlm hdm (HA.out.below HB2.out (Nat.le_refl _)) (HM.out.below HB2.out (Nat.le_refl _)) (HD.out.below HB2.out))
  go_upto_region 5 with (go_at_call 15; refine HAO.out.mono ?_; rintro e w4 ⟨hb4, hAR⟩; obtain ⟨u, n1, cu, v, m1, cv, rfl, hwa⟩ := hAR.stP)
  have hbA := alloc_below w4 (Obj.cells #[.slice u n1 cu, .slice v m1 cv] 25)
  have hbB := hb4.thru hbA hb4.size
  have hB5 := HB2.out.thru hbB HB2.out.size
  have HE : Hid (RsAt (w4.alloc (Obj.cells #[.slice u n1 cu, .slice v m1 cv] 25)) w.heap.size S9 w4.heap.size a b r p q z u v ca cb cp cq n1 cu m1 cv l g ds) :=
    ⟨HX2.out.thruB hbB, HI2.out.thruB hbB, Blk.new _ _ _, HA.out.below hB5 (Nat.le_refl _), HM.out.below hB5 (Nat.le_refl _), HD.out.below hB5, HI0.out.below hbB (Nat.le_refl _), HI1.out.below hbB (Nat.le_refl _), HID.out.below hbB, hwa.below hbA⟩
  have HB5 := hidE hB5
  clear hbA hbB hB5 hAR hwa hb4 x0 x1 HX2 HI2 HI0 HI1 HID HAO HB2 HA HM HD HX HB
  generalize w4.alloc (Obj.cells #[.slice u n1 cu, .slice v m1 cv] 25) = W5 at *
  generalize w4.heap.size = S11 at *
  go_wp2_with fail
  go_loopw [13] (fun t13 wr => ∃ i : Nat, i ≤ 2 ∧ t13 = .int .i64 i ∧ Below W5.heap.size W5 wr) (fun t13 _ => 2 - (intOf t13).toNat)
  case atStart => exact ⟨0, Nat.zero_le _, rfl, Below.refl _ _⟩
  case round =>
    obtain ⟨i, hi, rfl, hbr⟩ := hrel
    rcases Nat.lt_or_ge i 2 with hlt | hge
    · have hi1 : (i : Int) < 2 := by omega
      have HR := hidE (HE.out.below hbr)
      have HBR := hidE hbr
      have HI := hidE hlt
      clear hbr hi hlt
      have y0 := HR.out.inn.is 0 rfl
      have y1 := HR.out.inn.is 1 rfl
      have HAL := hidE (stateAll_ok p q z cp cq cz l g ds wr hlm hdm HR.out.i0 HR.out.i1 HR.out.i2)
      go_upto_region 9 with (go_at_call 16; refine HAL.out.mono ?_; rintro e w6 ⟨hb6, hAP⟩; obtain ⟨pa, na, ka, qa, ma, da, rfl, hsp, hsA, hsM, hna, hma⟩ := hAP.both)
      have hbA := alloc_below w6 (Obj.cells #[.slice pa na ka, .slice qa ma da] 25)
      have hb7 := hb6.thru hbA hb6.size
      have hX7 := Blk.new w6 #[.slice pa na ka, .slice qa ma da] 25
      have HS7 := hidE (SpG.of_below hb7 (Nat.le_refl wr.heap.size))
      have hsb := SpG.of_below hbA (Nat.le_refl w6.heap.size)
      have HA7 := hidE (hsA.sp hsb)
      have HM7 := hidE (hsM.sp hsb)
      have HP7 := hidE (hsp.below hbA)
      have HR7 := hidE (HR.out.below hb7)
      have HAN := hidE (And.intro hna hma)
      clear hAP hsp hsA hsM hna hma hb6 hbA hb7 hsb HAL y0 y1
      generalize w6.alloc (Obj.cells #[.slice pa na ka, .slice qa ma da] 25) = W7 at *
      generalize w6.heap.size = S14 at *
      have HX7 := hidE hX7
      have x0 := hX7.is 0 rfl
      have x1 := hX7.is 1 rfl
      have v0 := HR7.out.want.is 0 rfl
      have v1 := HR7.out.want.is 1 rfl
      clear hX7
      have a0 := HR7.out.arg.is 0 rfl
      have a1 := HR7.out.arg.is 1 rfl
      have y0 := HR7.out.inn.is 0 rfl
      have y1 := HR7.out.inn.is 1 rfl
      have hC : Below W7.heap.size W7 W7 := Below.refl _ _
      go_upto_region 11 with (first
        | (go_at_call 17; refine (stateIs_two HP7.out HR7.out.wa).mono ?_; rintro e w8 ⟨rfl, hb8⟩; replace hC := hC.thru hb8 hC.size; have a0 := (HR7.out.below hC).arg.is 0 rfl; have a1 := (HR7.out.below hC).arg.is 1 rfl; have y0 := (HR7.out.below hC).inn.is 0 rfl; have y1 := (HR7.out.below hC).inn.is 1 rfl)
        | (go_at_call 18; refine (sameState_same _ _ _ _ _ _ _ _ l g _ hlm hgm (by exact (HR7.out.below hC).i0) (by exact (HR7.out.below hC).s0) (by exact (HR7.out.below hC).i1) (by exact (HR7.out.below hC).s1)).mono ?_; rintro e w8 ⟨rfl, hb8⟩; replace hC := hC.thru hb8 hC.size; have a0 := (HR7.out.below hC).arg.is 0 rfl; have a1 := (HR7.out.below hC).arg.is 1 rfl; have y0 := (HR7.out.below hC).inn.is 0 rfl; have y1 := (HR7.out.below hC).inn.is 1 rfl)
        | (go_at_call 19; refine (sameDeeds_true _ _ _ _ ds _ hdm (by exact (HR7.out.below hC).i2) (by exact (HR7.out.below hC).s2)).mono ?_; rintro e w8 ⟨rfl, hb8⟩; replace hC := hC.thru hb8 hC.size; have a0 := (HR7.out.below hC).arg.is 0 rfl; have a1 := (HR7.out.below hC).arg.is 1 rfl; have y0 := (HR7.out.below hC).inn.is 0 rfl; have y1 := (HR7.out.below hC).inn.is 1 rfl))
      have hx14 := And.intro x0 x1
      have st8 := SpG.of_below hC (show wr.heap.size ≤ W7.heap.size from HS7.out.1.size)
      have HS8 := hidE (HS7.out.trans st8)
      have HA8 := hidE (HA7.out.sp st8)
      have HM8 := hidE (HM7.out.sp st8)
      have X14 := hidE (And.intro (st8.cellS hx14.1) (st8.cellS hx14.2))
      clear hC a0 a1 x0 x1 v0 v1 hx14 st8 HS7 HA7 HM7 HP7 HR7 HX7
      have HRC := hidE (HR.out.below HS8.out.1)
      have hdr : Below w8.heap.size w8 w8.drew := (Below.refl _ _).drew
      go_region_held_law (fun W' => W'.cell? ⟨S9, 0, none⟩ = some (.slice p l.length cp))
        (first | exact yB | exact yA | exact y0)
        ((first
        | (go_at_call 21; refine (hi_any _).mono ?_; rintro e wA ⟨g9, rfl, hhi, hbA⟩; have hbA8 := hdr.thru hbA hdr.size; have yA := (HRC.out.below hbA8).inn.is 0 rfl)
        | (go_at_call 20; refine (put_sh p (some ⟨g9, 0, none⟩) cp 2 l hiL wA hlm (by decide) (by exact (HRC.out.below hbA8).i0) (by exact hhi)).mono ?_; rintro e wB ⟨pb, nb, kb, eb, rfl, hsB, hnB, hbB⟩; have yB := ((HRC.out.below hbA8).below hbB).inn.is 0 rfl)))
      have hbN := hbA8.thru hbB hbA8.size
      have st9 := SpG.of_below hbN (show wr.heap.size ≤ w8.heap.size from HS8.out.1.size)
      have HS9 := hidE (HS8.out.trans st9)
      have HA9 := hidE (HA8.out.sp st9)
      have HM9 := hidE (HM8.out.sp st9)
      have X14 := hidE (And.intro (st9.cellS X14.out.1) (st9.cellS X14.out.2))
      have HB9 := hidE (hsB.mono (show wr.heap.size ≤ wA.heap.size from Nat.le_trans HS8.out.1.size hbA8.size))
      have HBN := hidE hnB
      clear hbA hbA8 hbB hbN hhi hsB hnB hdr yA yB y0 y1 st9
      have y0 := (HR.out.below HS9.out.1).inn.is 0 rfl
      have HRC := hidE (HR.out.below HS9.out.1)
      have hdr : Below wB.heap.size wB wB.drew := (Below.refl _ _).drew
      go_upto_region 12 with fail
      go_region_held_law (fun W' => W'.cell? ⟨S9, 0, none⟩ = some (.slice p l.length cp))
        (first | exact yD | exact Lib.cell?_alloc_some _ yC | exact yC | exact y0)
        ((first
        | (go_at_call 23; refine (at_any 3 0 1 _).mono ?_; rintro e wC ⟨rfl, hst, hbC⟩; have hbC8 := hdr.thru hbC hdr.size; have yC := (HRC.out.below hbC8).inn.is 0 rfl)
        | (go_at_call 22; refine (take_sh p (some ⟨wC.heap.size, 0, none⟩) cp 1 l [([(3, 0)], 1)] _ hlm (by decide) (by exact ((HRC.out.below hbC8).below (alloc_below wC _)).i0) (by exact marks1_new hst (by decide))).mono ?_; rintro e wD ⟨pc, nc, kc, ec, rfl, hsC, hnC, hbD⟩; have hbD8 := (hbC8.thru (alloc_below wC _) hbC8.size).thru hbD (hbC8.thru (alloc_below wC _) hbC8.size).size; have yD := (HRC.out.below hbD8).inn.is 0 rfl)))
      have st10 := SpG.of_below hbD8 (show wr.heap.size ≤ wB.heap.size from HS9.out.1.size)
      have HS10 := hidE (HS9.out.trans st10)
      have HA10 := hidE (HA9.out.sp st10)
      have HM10 := hidE (HM9.out.sp st10)
      have HB10 := hidE (HB9.out.sp st10)
      have X14 := hidE (And.intro (st10.cellS X14.out.1) (st10.cellS X14.out.2))
      have HC10 := hidE (hsC.mono (show wr.heap.size ≤ _ from Nat.le_trans HS9.out.1.size (hbC8.thru (alloc_below wC _) hbC8.size).size))
      have HCN := hidE hnC
      clear hbC hbC8 hbD hbD8 hst hsC hnC hdr yC yD y0 st10
      have y0 := (HR.out.below HS10.out.1).inn.is 0 rfl
      have y1 := (HR.out.below HS10.out.1).inn.is 1 rfl
      have HCT := hidE (runs_sh p cp l wD HCP.out.1 HCP.out.2 (HR.out.below HS10.out.1).i0)
      go_upto_region 14 with (go_at_call 24; refine HCT.out.mono ?_; rintro e wr1 ⟨pr1, nr1, kr1, er1, rfl, hsr1, hnr1, hbr1⟩)
      have st11 := SpG.of_below hbr1 (show wr.heap.size ≤ wD.heap.size from HS10.out.1.size)
      have HS11 := hidE (HS10.out.trans st11)
      have HA11 := hidE (HA10.out.sp st11)
      have HM11 := hidE (HM10.out.sp st11)
      have HB11 := hidE (HB10.out.sp st11)
      have HC11 := hidE (HC10.out.sp st11)
      have X14 := hidE (And.intro (st11.cellS X14.out.1) (st11.cellS X14.out.2))
      have HR11 := hidE (hsr1.mono HS10.out.1.size)
      have HRN := hidE hnr1
      clear hbr1 hsr1 hnr1 y0 y1 HCT st11
      have y0 := (HR.out.below HS11.out.1).inn.is 0 rfl
      have y1 := (HR.out.below HS11.out.1).inn.is 1 rfl
      have HCT := hidE (editPut_sh p q cp cq l g place t 4 9930 wr1 hlm HT.out (HR.out.below HS11.out.1).i0 (HR.out.below HS11.out.1).i1)
      go_upto_region 15 with (go_at_call 25; refine HCT.out.mono ?_; rintro e wd1 ⟨pd1, nd1, kd1, ed1, rfl, hsd1, hnd1, hbd1⟩)
      have st12 := SpG.of_below hbd1 (show wr.heap.size ≤ wr1.heap.size from HS11.out.1.size)
      have HS12 := hidE (HS11.out.trans st12)
      have HA12 := hidE (HA11.out.sp st12)
      have HM12 := hidE (HM11.out.sp st12)
      have HB12 := hidE (HB11.out.sp st12)
      have HC12 := hidE (HC11.out.sp st12)
      have HR12 := hidE (HR11.out.sp st12)
      have X14 := hidE (And.intro (st12.cellS X14.out.1) (st12.cellS X14.out.2))
      have HD12 := hidE (hsd1.mono HS11.out.1.size)
      have HDN := hidE hnd1
      clear hbd1 hsd1 hnd1 y0 y1 HCT st12
      have y0 := (HR.out.below HS12.out.1).inn.is 0 rfl
      have y1 := (HR.out.below HS12.out.1).inn.is 1 rfl
      have HCT := hidE (editTake_sh p q cp cq l g 0 l.length wd1 hlm HCP.out.1 HCP.out.2 (by unfold maxLen at hlm; omega) (HR.out.below HS12.out.1).i0 (HR.out.below HS12.out.1).i1)
      go_upto_region 16 with (go_at_call 26; refine HCT.out.mono ?_; rintro e wf1 ⟨pf1, nf1, kf1, ef1, rfl, hsf1, hnf1, hbf1⟩)
      have st13 := SpG.of_below hbf1 (show wr.heap.size ≤ wd1.heap.size from HS12.out.1.size)
      have HS13 := hidE (HS12.out.trans st13)
      have HA13 := hidE (HA12.out.sp st13)
      have HM13 := hidE (HM12.out.sp st13)
      have HB13 := hidE (HB12.out.sp st13)
      have HC13 := hidE (HC12.out.sp st13)
      have HR13 := hidE (HR12.out.sp st13)
      have HD13 := hidE (HD12.out.sp st13)
      have X14 := hidE (And.intro (st13.cellS X14.out.1) (st13.cellS X14.out.2))
      have HF13 := hidE (hsf1.mono HS12.out.1.size)
      have HFN := hidE hnf1
      clear hbf1 hsf1 hnf1 y0 y1 HCT st13
      have y0 := (HR.out.below HS13.out.1).inn.is 0 rfl
      have y1 := (HR.out.below HS13.out.1).inn.is 1 rfl
      have HCT := hidE (caretOf_sh p q cp cq l g place wf1 hlm (HR.out.below HS13.out.1).i0 (HR.out.below HS13.out.1).i1)
      go_upto_region 17 with (go_at_call 27; refine HCT.out.mono ?_; rintro e wm ⟨pm, nm, km, cm, em, rfl, hsm, hnm, hbm⟩)
      have hbA := alloc_below wm (Obj.cells #[.slice pm nm km, .int .i64 cm] 42)
      have hbmA := hbm.thru hbA hbm.size
      have hX26 := Blk.new wm #[.slice pm nm km, .int .i64 cm] 42
      have hsm2 := hsm.sp (SpG.of_below hbA (Nat.le_refl wm.heap.size))
      generalize hWm : wm.alloc (Obj.cells #[.slice pm nm km, .int .i64 cm] 42) = Wm at *
      generalize wm.heap.size = S26 at *
      have st14 := SpG.of_below hbmA (show wr.heap.size ≤ wf1.heap.size from HS13.out.1.size)
      have HS14 := hidE (HS13.out.trans st14)
      have HA14 := hidE (HA13.out.sp st14)
      have HM14 := hidE (HM13.out.sp st14)
      have HB14 := hidE (HB13.out.sp st14)
      have HC14 := hidE (HC13.out.sp st14)
      have HR14 := hidE (HR13.out.sp st14)
      have HD14 := hidE (HD13.out.sp st14)
      have HF14 := hidE (HF13.out.sp st14)
      have X14 := hidE (And.intro (st14.cellS X14.out.1) (st14.cellS X14.out.2))
      have HK14 := hidE (hsm2.mono HS13.out.1.size)
      have HKN := hidE hnm
      have X26 := hidE (And.intro (hX26.is 0 rfl) (⟨cm, hX26.is 1 rfl⟩ : ∃ y, Wm.cell? ⟨S26, 1, none⟩ = some (.int .i64 y)))
      clear hbm hbA hbmA hX26 hsm hsm2 hnm y0 y1 HCT st14 hWm
      have HCT := hidE (diff_sh ⟨#[104, 97, 116]⟩ t Wm)
      go_upto_region 18 with (go_at_call 28; refine HCT.out.mono ?_; rintro e wg ⟨pg, ng, kg, eg, rfl, hsg, hng, hbg⟩)
      have st15 := SpG.of_below hbg (show wr.heap.size ≤ Wm.heap.size from HS14.out.1.size)
      have HS15 := hidE (HS14.out.trans st15)
      have HA15 := hidE (HA14.out.sp st15)
      have HM15 := hidE (HM14.out.sp st15)
      have HB15 := hidE (HB14.out.sp st15)
      have HC15 := hidE (HC14.out.sp st15)
      have HR15 := hidE (HR14.out.sp st15)
      have HD15 := hidE (HD14.out.sp st15)
      have HF15 := hidE (HF14.out.sp st15)
      have HK15 := hidE (HK14.out.sp st15)
      have X14 := hidE (And.intro (st15.cellS X14.out.1) (st15.cellS X14.out.2))
      have X26 := hidE (And.intro (st15.cellS X26.out.1) (X26.out.2.elim fun y h => st15.cellI h))
      have HG15 := hidE (hsg.mono HS14.out.1.size)
      have HGN := hidE hng
      clear hbg hsg hng HCT st15
      have y0 := (HR.out.below HS15.out.1).inn.is 0 rfl
      have y1 := (HR.out.below HS15.out.1).inn.is 1 rfl
      have a0 := (HR.out.below HS15.out.1).arg.is 0 rfl
      have a1 := (HR.out.below HS15.out.1).arg.is 1 rfl
      have HCT := hidE (sameState_same p a q b cp ca cq cb l g wg hlm hgm (HR.out.below HS15.out.1).i0 (HR.out.below HS15.out.1).s0 (HR.out.below HS15.out.1).i1 (HR.out.below HS15.out.1).s1)
      go_upto_region 20 with (go_at_call 18; refine HCT.out.mono ?_; rintro e ws ⟨rfl, hbs⟩)
      have st16 := SpG.of_below hbs (show wr.heap.size ≤ wg.heap.size from HS15.out.1.size)
      have HS16 := hidE (HS15.out.trans st16)
      have HA16 := hidE (HA15.out.sp st16)
      have HM16 := hidE (HM15.out.sp st16)
      have HB16 := hidE (HB15.out.sp st16)
      have HC16 := hidE (HC15.out.sp st16)
      have HR16 := hidE (HR15.out.sp st16)
      have HD16 := hidE (HD15.out.sp st16)
      have HF16 := hidE (HF15.out.sp st16)
      have HK16 := hidE (HK15.out.sp st16)
      have HG16 := hidE (HG15.out.sp st16)
      have X14 := hidE (And.intro (st16.cellS X14.out.1) (st16.cellS X14.out.2))
      have X26 := hidE (And.intro (st16.cellS X26.out.1) (X26.out.2.elim fun y h => st16.cellI h))
      clear hbs HCT y0 y1 a0 a1 st16
      have x0 := X14.out.1
      have x1 := X14.out.2
      have HCT := hidE (spoilState_ok wr.heap.size na ka ma da pa qa ws HA16.out HM16.out HAN.out.1 HAN.out.2 HS16.out.1.size)
      go_upto_region 21 with (go_at_call 29; refine HCT.out.mono ?_; rintro e t1 ⟨rfl, hspt1⟩)
      have st17 := hspt1
      have HS17 := hidE (HS16.out.trans st17)
      have HA17 := hidE (HA16.out.sp st17)
      have HM17 := hidE (HM16.out.sp st17)
      have HB17 := hidE (HB16.out.sp st17)
      have HC17 := hidE (HC16.out.sp st17)
      have HR17 := hidE (HR16.out.sp st17)
      have HD17 := hidE (HD16.out.sp st17)
      have HF17 := hidE (HF16.out.sp st17)
      have HK17 := hidE (HK16.out.sp st17)
      have HG17 := hidE (HG16.out.sp st17)
      have X26 := hidE (And.intro (st17.cellS X26.out.1) (X26.out.2.elim fun y h => st17.cellI h))
      clear HCT st17 hspt1
      clear x0 x1 X14
      have HCT := hidE (spoilAtoms_ok wr.heap.size nb kb pb t1 HB17.out HBN.out HS17.out.1.size)
      go_upto_region 22 with (go_at_call 30; refine HCT.out.mono ?_; rintro e t2 ⟨rfl, hspt2⟩)
      have st18 := hspt2
      have HS18 := hidE (HS17.out.trans st18)
      have HA18 := hidE (HA17.out.sp st18)
      have HM18 := hidE (HM17.out.sp st18)
      have HB18 := hidE (HB17.out.sp st18)
      have HC18 := hidE (HC17.out.sp st18)
      have HR18 := hidE (HR17.out.sp st18)
      have HD18 := hidE (HD17.out.sp st18)
      have HF18 := hidE (HF17.out.sp st18)
      have HK18 := hidE (HK17.out.sp st18)
      have HG18 := hidE (HG17.out.sp st18)
      have X26 := hidE (And.intro (st18.cellS X26.out.1) (X26.out.2.elim fun y h => st18.cellI h))
      clear HCT st18 hspt2
      have HCT := hidE (spoilAtoms_ok wr.heap.size nc kc pc t2 HC18.out HCN.out HS18.out.1.size)
      go_upto_region 23 with (go_at_call 30; refine HCT.out.mono ?_; rintro e t3 ⟨rfl, hspt3⟩)
      have st19 := hspt3
      have HS19 := hidE (HS18.out.trans st19)
      have HA19 := hidE (HA18.out.sp st19)
      have HM19 := hidE (HM18.out.sp st19)
      have HB19 := hidE (HB18.out.sp st19)
      have HC19 := hidE (HC18.out.sp st19)
      have HR19 := hidE (HR18.out.sp st19)
      have HD19 := hidE (HD18.out.sp st19)
      have HF19 := hidE (HF18.out.sp st19)
      have HK19 := hidE (HK18.out.sp st19)
      have HG19 := hidE (HG18.out.sp st19)
      have X26 := hidE (And.intro (st19.cellS X26.out.1) (X26.out.2.elim fun y h => st19.cellI h))
      clear HCT st19 hspt3
      have HENV := hidE (fun w' (hb : Below wr.heap.size wr w') => HR.out.below hb)
      have HFIN := hidE (fun w' (hb : Below wr.heap.size wr w') => HBR.out.trans (hb.mono HBR.out.size))
      have hH3 : wr.heap.size ≤ t3.heap.size := HS19.out.1.size
      clear HA19 HM19 HB19 HC19 HBN HCN HAN HRC HR HBR HE
      generalize wr.heap.size = H0 at *
      have hn2 := HRN.out
      unfold maxLen at hn2
      go_wp2_with fail
      go_loopw [30] (fun tj wv => ∃ j : Nat, j ≤ nr1 ∧ tj = .int .i64 j ∧ SpG H0 t3 wv) (fun tj _ => nr1 - (intOf tj).toNat)
      case atStart => exact ⟨0, Nat.zero_le _, rfl, SpG.refl _ _⟩
      case round =>
        obtain ⟨j, hj, rfl, hs⟩ := hrel
        have hHr := Nat.le_trans hH3 hs.1.size
        rcases Nat.lt_or_ge j nr1 with hlt | hge
        · have hj1 : (j : Int) < (nr1 : Int) := by omega
          rcases HR19.out.sp hs with e0 | ⟨b2, o2, rfl, hb2, hc⟩
          · omega
          obtain ⟨q2, m2, cc, tt, c0, ⟨x, c1⟩, c2, hS, hm, htt⟩ := hc j hlt
          have HCT := hidE (spoilMark_ok H0 m2 cc q2 x wr hS hm hHr)
          have HST := hidE (And.intro hs (And.intro hS (And.intro hm htt)))
          have HCC := hidE (And.intro c0 (And.intro c1 c2))
          clear hc hS htt hs hm
          go_upto_region 27 with (go_at_call 31; refine HCT.out.mono ?_; rintro e w1 ⟨rfl, hs1⟩)
          have d0 := hs1.cellS HCC.out.1
          obtain ⟨y, d1⟩ := hs1.cellI HCC.out.2.1
          have d2 := hs1.cellT HCC.out.2.2
          have hHr1 := Nat.le_trans hHr hs1.1.size
          have HS1 := hidE hs1
          have hm := HST.out.2.2.1
          obtain ⟨l1, rfl, hst⟩ := (HST.out.2.1.sp hs1).steps
          have HCT2 := hidE (runAtoms_sh q2 cc l1 y tt w1 hm HST.out.2.2.2 hst)
          clear c0 c1 c2 hs1 hm hst HCT
          go_upto_region 28 with (go_at_call 32; refine HCT2.out.mono ?_; rintro e w2 ⟨pq, nq, kq, eq, rfl, hsq, hnq, hbq⟩)
          have HCT3 := hidE (spoilAtoms_ok H0 nq kq pq w2 (hsq.mono hHr1) hnq (Nat.le_trans hHr1 hbq.size))
          have HS2 := hidE ((HST.out.1.trans HS1.out).trans (SpG.of_below hbq hHr1))
          clear hsq hnq hbq d0 d1 d2 HCT2
          go_wp2_with (go_at_call 30; refine HCT3.out.mono ?_; rintro e w3 ⟨rfl, hs3⟩)
          have HN := hidE (HS2.out.trans hs3)
          clear hs3
          go_roundw
          case rel => exact ⟨j + 1, hlt, by go_num, HN.out⟩
          case measure => simp [intOf]; omega
        · have hj1 : ¬ ((j : Int) < (nr1 : Int)) := by omega
          generalize hg2 : wr = v2 at *
          clear hg2
          have HS20 := hidE (HS19.out.trans hs)
          have HD20 := hidE (HD19.out.sp hs)
          have HF20 := hidE (HF19.out.sp hs)
          have HK20 := hidE (HK19.out.sp hs)
          have HG20 := hidE (HG19.out.sp hs)
          have X26 := hidE (And.intro (hs.cellS X26.out.1) (X26.out.2.elim fun y h => hs.cellI h))
          clear hs hj hge
          have hz2 : H0 ≤ v2.heap.size := hHr
          have HCT := hidE (spoilDeeds_ok H0 nd1 kd1 pd1 v2 HD20.out HDN.out hz2)
          go_upto_region 30 with (go_at_call 33; refine HCT.out.mono ?_; rintro e v3 ⟨rfl, hsp⟩)
          have hz2 := Nat.le_trans hz2 hsp.1.size
          have HS21 := hidE (HS20.out.trans hsp)
          have HD21 := hidE (HD20.out.sp hsp)
          have HF21 := hidE (HF20.out.sp hsp)
          have HK21 := hidE (HK20.out.sp hsp)
          have HG21 := hidE (HG20.out.sp hsp)
          have X26 := hidE (And.intro (hsp.cellS X26.out.1) (X26.out.2.elim fun y h => hsp.cellI h))
          clear HCT hsp
          have HCT := hidE (spoilDeeds_ok H0 nf1 kf1 pf1 v3 HF21.out HFN.out hz2)
          go_upto_region 31 with (go_at_call 33; refine HCT.out.mono ?_; rintro e v4 ⟨rfl, hsp⟩)
          have hz2 := Nat.le_trans hz2 hsp.1.size
          have HS22 := hidE (HS21.out.trans hsp)
          have HD22 := hidE (HD21.out.sp hsp)
          have HF22 := hidE (HF21.out.sp hsp)
          have HK22 := hidE (HK21.out.sp hsp)
          have HG22 := hidE (HG21.out.sp hsp)
          have X26 := hidE (And.intro (hsp.cellS X26.out.1) (X26.out.2.elim fun y h => hsp.cellI h))
          clear HCT hsp
          have x0 := X26.out.1
          obtain ⟨ym, x1⟩ := X26.out.2
          have HCT := hidE (spoilMark_ok H0 nm km pm ym v4 HK22.out HKN.out hz2)
          go_upto_region 32 with (go_at_call 31; refine HCT.out.mono ?_; rintro e v5 ⟨rfl, hsp⟩)
          have hz2 := Nat.le_trans hz2 hsp.1.size
          have HS23 := hidE (HS22.out.trans hsp)
          have HD23 := hidE (HD22.out.sp hsp)
          have HF23 := hidE (HF22.out.sp hsp)
          have HK23 := hidE (HK22.out.sp hsp)
          have HG23 := hidE (HG22.out.sp hsp)
          have X26 := hidE (And.intro (hsp.cellS X26.out.1) (X26.out.2.elim fun y h => hsp.cellI h))
          clear HCT hsp
          clear x0 x1
          have hn3 := hdm
          unfold maxLen at hn3
          replace hH3 := hz2
          go_wp2_with fail
          go_loopw [33] (fun tj wv => ∃ j : Nat, j ≤ ds.length ∧ tj = .int .i64 j ∧ SpG H0 v5 wv) (fun tj _ => ds.length - (intOf tj).toNat)
          case atStart => exact ⟨0, Nat.zero_le _, rfl, SpG.refl _ _⟩
          case round =>
            obtain ⟨j, hj, rfl, hs⟩ := hrel
            have hHr := Nat.le_trans hH3 hs.1.size
            rcases Nat.lt_or_ge j ds.length with hlt | hge
            · have hj1 : (j : Int) < (ds.length : Int) := by omega
              rcases (HENV.out wr (HS23.out.trans hs).1).i2 with e0 | ⟨b2, o2, rfl, hb2, hc⟩
              · rw [e0] at hlt; simp at hlt
              obtain ⟨p2, cp2, q2, cq2, _, _, _, _, c4, c5, _, hD2, _, _⟩ := hc j hlt
              have HCT := hidE (next_sh q2 cq2 ds[j].mp ds[j].mc 0 wr hD2.ml hD2.mark)
              have HST := hidE hs
              clear hc hD2 hs
              generalize ds[j].mp = mp at *
              generalize ds[j].mc = mc at *
              go_upto_region 36 with (go_at_call 34; refine HCT.out.mono ?_; rintro e w1 ⟨pn, nn, kn, cn, en, rfl, hsn, hnn, hbn⟩)
              have hbA := alloc_below w1 (Obj.cells #[.slice pn nn kn, .int .i64 cn] 42)
              have hX34 := Blk.new w1 #[.slice pn nn kn, .int .i64 cn] 42
              have hbB := hbn.thru hbA hbn.size
              have HS2 := hidE (HST.out.trans (SpG.of_below hbB hHr))
              have HCT3 := hidE (spoilMark_ok H0 nn kn pn cn _ ((hsn.sp (SpG.of_below hbA (Nat.le_refl w1.heap.size))).mono hHr) hnn (Nat.le_trans hHr hbB.size))
              generalize w1.alloc (Obj.cells #[.slice pn nn kn, .int .i64 cn] 42) = W1 at *
              generalize w1.heap.size = S34 at *
              have x0 := hX34.is 0 rfl
              have x1 := hX34.is 1 rfl
              clear hsn hnn hbn hbA hX34 hbB c4 c5 HCT
              go_wp2_with (go_at_call 31; refine HCT3.out.mono ?_; rintro e w3 ⟨rfl, hs3⟩)
              have HN := hidE (HS2.out.trans hs3)
              clear hs3 x0 x1
              go_roundw
              case rel => exact ⟨j + 1, hlt, by go_num, HN.out⟩
              case measure => simp [intOf]; omega
            · have hj1 : ¬ ((j : Int) < (ds.length : Int)) := by omega
              generalize hg2 : wr = v6 at *
              clear hg2
              have HS24 := hidE (HS23.out.trans hs)
              have HG24 := hidE (HG23.out.sp hs)
              have X26 := hidE (And.intro (hs.cellS X26.out.1) (X26.out.2.elim fun y h => hs.cellI h))
              clear hs hj hge
              replace hH3 := hHr
              have hn4 := HGN.out
              unfold maxLen at hn4
              go_wp2_with fail
              go_loopw [36] (fun tj wv => ∃ j : Nat, j ≤ ng ∧ tj = .int .i64 j ∧ SpG H0 v6 wv) (fun tj _ => ng - (intOf tj).toNat)
              case atStart => exact ⟨0, Nat.zero_le _, rfl, SpG.refl _ _⟩
              case round =>
                obtain ⟨j, hj, rfl, hs⟩ := hrel
                have hHr := Nat.le_trans hH3 hs.1.size
                rcases Nat.lt_or_ge j ng with hlt | hge
                · have hj1 : (j : Int) < (ng : Int) := by omega
                  rcases HG24.out.sp hs with e0 | ⟨b2, o2, rfl, hb2, hc⟩
                  · omega
                  obtain ⟨⟨x, c0⟩, hf⟩ := hc j hlt
                  have HN := hidE (hs.trans (SpG.set (y := -7) c0 hb2))
                  clear hc hs
                  go_wp2_with fail
                  go_roundw
                  case rel => exact ⟨j + 1, hlt, by go_num, HN.out⟩
                  case measure => simp [intOf]; omega
                · have hj1 : ¬ ((j : Int) < (ng : Int)) := by omega
                  have HEND := hidE (HFIN.out wr (HS24.out.trans hs).1)
                  have hi2 := HI.out
                  clear hs hj hge
                  go_wp2_with fail
                  go_roundw
                  case rel => exact ⟨i + 1, hi2, by go_num, HEND.out⟩
                  case measure => simp [intOf]; omega
    · have hi1 : ¬ ((i : Int) < 2) := by omega
      have HN := hidE (HB5.out.thru hbr HB5.out.size)
      clear hbr hi hge
      go_wp2_with fail
      go_ret
      exact ⟨rfl, HN.out⟩
end Go.Proofs.YtnhjebdlcbhkcaeGreat
