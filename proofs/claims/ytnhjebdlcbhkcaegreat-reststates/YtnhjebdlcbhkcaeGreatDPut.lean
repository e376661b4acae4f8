/- Contract of atom.Put: what is right. -/
import Derived.Test.YtnhjebdlcbhkcaeGreatPutC
import Derived.Test.YtnhjebdlcbhkcaeGreatPutLe
import Derived.Test.YtnhjebdlcbhkcaeGreatAtomCk
import Derived.Test.YtnhjebdlcbhkcaeGreatDoerC
import Derived.Deep.DeepCutAuto
import Derived.Test.YtnhjebdlcbhkcaeGreatRunsC
import Derived.Test.YtnhjebdlcbhkcaeGreatPutStep
import Derived.Test.YtnhjebdlcbhkcaeGreatDelF
namespace Go.Proofs.YtnhjebdlcbhkcaeGreat
open Go.RowKit

def PutGives (w : World) (l m : List At) (e : Ending) (w' : World) : Prop :=
  ((300 < (putL l m).length ∧ e = .returned (.tuple #[.slice none 0 0, .int .i64 2])) ∨ ((putL l m).length ≤ 300 ∧ ∃ p c, e = .returned (.tuple #[.slice p (putL l m).length c, .int .i64 0]) ∧ AtomsAt w' p (putL l m) ∧ PickRow w' w.heap.size (.slice p (putL l m).length c) (putL l m))) ∧ Below w.heap.size w w'

set_option maxRecDepth 100000 in
set_option maxHeartbeats 4000000 in
theorem put_ok (a a' : Option Addr) (cap cap' : Nat) (l m : List At) (w : World) (h : AtomsAt w a l) (h' : AtomsAt w a' m) (h0 : chkL l = 0) (h0' : chkL m = 0) :
    Calls Tryz.prog 20 #[.slice a l.length cap, .slice a' m.length cap'] w (PutGives w l m) := by
  have hl3 := chkL_len h0
  have hm3 := chkL_len h0'
  have HOK := hidE (okL_of h0)
  have HOK' := hidE (okL_of h0')
  have hl : l.length ≤ maxLen := by unfold maxLen; omega
  have hm : m.length ≤ maxLen := by unfold maxLen; omega
  have H0 := hidE h0
  have H0' := hidE h0'
  clear h0 h0'
  go_enter Tryz.func20, Tryz.ntmps20
  go_wp2_with fail
  refine (atomCheck_any _ _ l _ hl h).mono ?_
  rintro e w1 ⟨rfl, hb1⟩
  rw [H0.out]
  go_wp2_with fail
  refine (atomCheck_any _ _ m _ hm (h'.below hb1 (Nat.le_refl _))).mono ?_
  rintro e w2 ⟨rfl, hb2⟩
  rw [H0'.out]
  have hb3 := hb1.thru hb2 hb1.size
  clear hb1 hb2
  go_upto_region 2 with (go_at_call 71; refine (or25_any _ _ 0 0 _ (by go_simp) (by go_simp)).mono ?_; rintro e w' ⟨rfl, rfl⟩; rw [show orI 0 0 = 0 from rfl])
  have hb4 := hb3.alloc hb3.size (.cells #[.int .i64 0, .int .i64 0] 30)
  generalize w2.alloc (.cells #[.int .i64 0, .int .i64 0] 30) = w3 at hb4 ⊢
  clear hb3
  go_wp2_with fail
  have HP : Hid (pickTo (fun _ => true) l l.length = l) := by show _ = _; rw [pickTo_all l _ (Nat.le_refl _), List.take_length]
  refine (pickAll_ok _ _ l _ (h.below hb4 (Nat.le_refl _)) (by omega) (okPath HOK.out)).mono ?_
  rintro e w5 ⟨p5, c5, rfl, _, hrow5, hb5⟩
  rw [HP.out] at hrow5 ⊢
  have hbW := hb4.thru hb5 hb4.size
  replace hrow5 := hrow5.mono hb4.size
  clear hb4 hb5 HP
  go_wp2_with fail
  go_loopw [25, 7] (fun i v wr => ∃ k : Nat, k ≤ m.length ∧ i = .int .i64 k ∧ PickRow wr w.heap.size v (putL l (m.take k)) ∧ Below w.heap.size w wr) (fun i _ _ => m.length - (intOf i).toNat)
  case atStart => exact ⟨0, Nat.zero_le _, rfl, by simpa [putL] using hrow5, hbW⟩
  case round =>
    clear hrow5 hbW
    obtain ⟨k, hk, rfl, hrow, hb⟩ := hrel
    have HE := hidE (putL_okE HOK.out.okE HOK'.out.okE k hk)
    have hlen := putL_len l m k hk
    by_cases hlt : k < m.length
    · obtain ⟨ab, ao, rfl, hab, hc⟩ := (h'.below hb (Nat.le_refl _)).raw (by omega)
      obtain ⟨⟨p, n, cp, ck, sk⟩, hr, c0, c1, c2⟩ := hc k hlt
      have hi1 : (k : Int) < m.length := by omega
      have HN := hidE (putL_take_succ l m k hlt)
      have hokk := okPath HOK'.out k hlt
      have hn : n = m[k].path.length := hr.n
      have hck : ck = m[k].clock := hr.clock
      have hsk : sk = m[k].sign := hr.sign
      subst hn hck hsk
      have s0 := hr.s0
      have s1 := hr.s1
      have hst := hr.steps
      generalize putL l (m.take k) = xs at *
      generalize m[k] = x at *
      clear hc h h' hr
      obtain ⟨pb, po, rfl⟩ : ∃ pb po, p = some ⟨pb, po, none⟩ := by
        rcases hst with e | ⟨pb, po, rfl, _⟩
        · have e' : x.path = [] := e
          have : x.path.length = 0 := by rw [e']; rfl
          omega
        · exact ⟨pb, po, rfl⟩
      have hb0 := hb.alloc hb.size (.cells #[.slice (some ⟨pb, po, none⟩) x.path.length cp, .int .i64 x.clock, .int .u8 x.sign] 108)
      have hbn : Below wr.heap.size wr (wr.alloc (.cells #[.slice (some ⟨pb, po, none⟩) x.path.length cp, .int .i64 x.clock, .int .u8 x.sign] 108)) := (Below.refl _ _).alloc (Nat.le_refl _) _
      have x0 : (wr.alloc (.cells #[.slice (some ⟨pb, po, none⟩) x.path.length cp, .int .i64 x.clock, .int .u8 x.sign] 108)).cell? ⟨wr.heap.size, 0, none⟩ = some (.slice (some ⟨pb, po, none⟩) x.path.length cp) := by simp
      have x1 : (wr.alloc (.cells #[.slice (some ⟨pb, po, none⟩) x.path.length cp, .int .i64 x.clock, .int .u8 x.sign] 108)).cell? ⟨wr.heap.size, 1, none⟩ = some (.int .i64 x.clock) := by simp
      have x2 : (wr.alloc (.cells #[.slice (some ⟨pb, po, none⟩) x.path.length cp, .int .i64 x.clock, .int .u8 x.sign] 108)).cell? ⟨wr.heap.size, 2, none⟩ = some (.int .u8 x.sign) := by simp
      have hsz : wr.heap.size < (wr.alloc (.cells #[.slice (some ⟨pb, po, none⟩) x.path.length cp, .int .i64 x.clock, .int .u8 x.sign] 108)).heap.size := by simp
      have hrowN := hrow.below hbn
      have hstN := hst.below hbn (Nat.le_refl _)
      have hwn : w.heap.size ≤ wr.heap.size := hb.size
      obtain ⟨rs0, hrl0, hown0, _⟩ := hrow
      have hON : some wr.heap.size ≠ Value.ownBlock u7 := own_ne hown0 (by omega)
      clear hrl0 hown0
      go_upto_region 8 with fail
      generalize wr.alloc (.cells #[.slice (some ⟨pb, po, none⟩) x.path.length cp, .int .i64 x.clock, .int .u8 x.sign] 108) = w2 at hb0 hbn x0 x1 x2 hsz hrowN hstN ⊢
      clear c0 c1 c2 hst hb hbn
      have hml : x.path.length ≤ maxLen := by unfold maxLen; omega
      obtain ⟨pq, cq, rfl, hatq, hlq⟩ := hrowN.owns.atoms (Below.refl _ _)
      go_wp2_with fail
      refine (find_any _ _ _ _ xs x.path x.clock _ (by omega) hml hatq hstN (parts_rise HE.out.rise _ _)).mono ?_
      rintro e w3 ⟨i, hil, hcut, fb, rfl, hfb, hb3⟩
      have y0 := (hb3.cell (p := ⟨wr.heap.size, 0, none⟩) hsz).trans x0
      have y1 := (hb3.cell (p := ⟨wr.heap.size, 1, none⟩) hsz).trans x1
      have y2 := (hb3.cell (p := ⟨wr.heap.size, 2, none⟩) hsz).trans x2
      have hz3 := Nat.lt_of_lt_of_le hsz hb3.size
      have hrow3 := hrowN.below hb3
      have hst3 := hstN.below hb3 (Nat.le_refl _)
      have hbW := hb0.thru hb3 hb0.size
      clear x0 x1 x2 hsz hrowN hstN hb3 hb0 hatq
      cases fb
      · have HX : Hid (putL l (m.take (k + 1)) = xs.take i ++ x :: xs.drop i) := by
          show _ = _
          rw [HN.out]
          exact putA_cut HE.out.rise hil hcut (fun e => by have := hfb.2 e; cases this)
        clear hcut hfb HN
        obtain ⟨rs, hrl, hown, hrr⟩ := hrow3
        have HRR := hidE hrr
        clear hrr
        go_upto_region 11 with fail
        have hBd : Below w3.heap.size w3 w3.drew := (Below.refl _ _).drew
        go_region_held_law (fun w' => w'.cell? ⟨wr.heap.size, 0, none⟩ = some (.slice (some ⟨pb, po, none⟩) x.path.length cp) ∧ w'.cell? ⟨wr.heap.size, 1, none⟩ = some (.int .i64 x.clock) ∧ w'.cell? ⟨wr.heap.size, 2, none⟩ = some (.int .u8 x.sign))
          (first | exact ⟨y0, y1, y2⟩ | exact ⟨t0, t1, t2⟩ | exact ⟨s0', s1', s2'⟩ | exact ⟨z0, z1, z2⟩)
          (first
            | (go_at_call 75; refine (insA_own w.heap.size _ xs.length i w4.heap.size (flatR rs) ((⟨some ⟨g, 0, none⟩, x.path.length, cap2, x.clock, x.sign⟩ : Raw).cells) _ (hown4.alloc _) hbs4 hil (by omega) (heap_new _ _) rfl (own_ne hown4 (Or.inr (Nat.le_refl _))) (flatR_one rs) (fun u hu => flatR_one [⟨some ⟨g, 0, none⟩, x.path.length, cap2, x.clock, x.sign⟩] u (by simpa [flatR] using hu))).mono ?_; rintro e w5 ⟨v', rfl, hown5, hgrow⟩; have z0 := (grown_cell hgrow hzA hON 0).trans s0'; have z1 := (grown_cell hgrow hzA hON 1).trans s1'; have z2 := (grown_cell hgrow hzA hON 2).trans s2')
            | (go_at_call 76; refine (freshMark_ok pb po _ _ x.path _ _ rfl hml (by omega) (hst3.below hBd (Nat.le_refl _))).mono ?_; rintro e w4 ⟨g, cap2, rfl, hownS, hb4⟩; have hb4' : Below w3.heap.size w3 w4 := hBd.thru hb4 (Nat.le_refl _); have t0 := (hb4'.cell (p := ⟨wr.heap.size, 0, none⟩) hz3).trans y0; have t1 := (hb4'.cell (p := ⟨wr.heap.size, 1, none⟩) hz3).trans y1; have t2 := (hb4'.cell (p := ⟨wr.heap.size, 2, none⟩) hz3).trans y2; have hz4 : wr.heap.size < w4.heap.size := Nat.lt_of_lt_of_le hz3 hb4'.size; have hown4 := owns_below hown hb4'; have hbA : Below w4.heap.size w4 (w4.alloc (.cells #[.slice (some ⟨g, 0, none⟩) x.path.length cap2, .int .i64 x.clock, .int .u8 x.sign] 108)) := (Below.refl _ _).alloc (Nat.le_refl _) _; have hzA : wr.heap.size < (w4.alloc (.cells #[.slice (some ⟨g, 0, none⟩) x.path.length cap2, .int .i64 x.clock, .int .u8 x.sign] 108)).heap.size := Nat.lt_of_lt_of_le hz4 hbA.size; have hbs4 : w.heap.size ≤ (w4.alloc (.cells #[.slice (some ⟨g, 0, none⟩) x.path.length cap2, .int .i64 x.clock, .int .u8 x.sign] 108)).heap.size := Nat.le_trans hwn (Nat.le_of_lt hzA); have s0' := (hbA.cell (p := ⟨wr.heap.size, 0, none⟩) hz4).trans t0; have s1' := (hbA.cell (p := ⟨wr.heap.size, 1, none⟩) hz4).trans t1; have s2' := (hbA.cell (p := ⟨wr.heap.size, 2, none⟩) hz4).trans t2))
        have hb3w := hbW.thru hb4' hbW.size
        have hb5 := (hb3w.alloc hb3w.size _).grown hgrow (hb3w.alloc hb3w.size _).size (fun k hk => (hown4.lt k hk).1)
        have hrow2 : PickRow w5 w.heap.size v' (xs.take i ++ x :: xs.drop i) := PickRow.ins hil hrl (hown4.alloc _) (fun i h h' => ((HRR.out i h h').below hb4').below hbA) ⟨g, cap2, rfl, (owns_base hownS (by show w.heap.size ≤ w3.heap.size; exact hbW.size)).alloc _, hml, s0, s1⟩ hgrow hown5
        go_wp2_with fail
        go_roundw
        case rel => exact ⟨k + 1, by omega, by go_num, by rw [HX.out]; exact hrow2, hb5⟩
        case measure => simp [intOf]; omega
      · obtain ⟨hil', h00⟩ := hfb.1 rfl
        have HX : Hid (putL l (m.take (k + 1)) = xs.set i (lessSign x xs[i])) := by
          show _ = _
          rw [HN.out]
          exact putA_found xs i hil' HE.out.rise h00
        clear hcut hfb HN h00
        obtain ⟨rs, hrl, hown, hrr⟩ := hrow3
        obtain ⟨g, cq', hv⟩ := owns_form hown (by omega)
        obtain ⟨rfl, rfl⟩ : pq = some ⟨g, 0, none⟩ ∧ cq = cq' := by simpa using hv
        clear hv
        have hraw := hrr i hil' (by omega)
        have hsg : rs[i].sign = xs[i].sign := by obtain ⟨_, _, e, _⟩ := hraw; rw [e]
        obtain ⟨_, _, _, _, _, q0, q1⟩ := hraw
        have fc := (hown.cellAt (i * 3 + 2) (by omega)).trans (flatR_get rs i (by omega)).2.2
        rw [hsg] at fc
        have ff := hown.frozenAt (i * 3 + 2)
        obtain ⟨hrow2, hgrow⟩ := PickRow.less (s := if x.sign < xs[i].sign then x.sign else xs[i].sign) hil' hrl hown hrr (by split <;> omega) (by split <;> omega)
        have hi2 : (i : Int) < xs.length := by omega
        have HLS : Hid (lessSign x xs[i] = { xs[i] with sign := if x.sign < xs[i].sign then x.sign else xs[i].sign }) := rfl
        generalize xs[i].sign = sq at *
        have hgz : g ≠ wr.heap.size := fun e => hON (by rw [e]; rfl)
        have y2' : w3.drew.cell? ⟨wr.heap.size, 2, none⟩ = some (.int .u8 x.sign) := y2
        have fc' : w3.drew.cell? ⟨g, i * 3 + 2, none⟩ = some (.int .u8 sq) := fc
        have ff' : w3.drew.frozen? ⟨g, i * 3 + 2, none⟩ = false := ff
        go_upto_region 10 with fail
        go_region
        go_wp2_with fail
        go_roundw
        case rel =>
          refine ⟨k + 1, by omega, by go_num, ?_, ((hbW.setCell (hown.lt g rfl).1 _).drew)⟩
          rw [HX.out, HLS.out, show min sq x.sign = if x.sign < sq then x.sign else sq by split <;> omega]
          exact hrow2
        case measure => simp [intOf]; omega
    · have hkl : k = m.length := by omega
      subst hkl
      rw [List.take_length] at hrow HE hlen
      obtain ⟨p, c, rfl, hat, _⟩ := hrow.owns.atoms (Below.refl _ _)
      by_cases h300 : 300 < (putL l m).length
      · have hd : ((putL l m).length : Int) > 300 := by omega
        go_wp2
        refine bodyPost_ret (v := .tuple #[.slice none 0 0, .int .i64 2]) (by simp [results, Tryz.results20, go_sem]) rfl ?_
        exact ⟨Or.inl ⟨h300, rfl⟩, hb⟩
      · have hd : ¬ ((putL l m).length : Int) > 300 := by omega
        go_wp2
        refine bodyPost_ret (v := .tuple #[.slice p (putL l m).length c, .int .i64 0]) (by simp [results, Tryz.results20, go_sem]) rfl ?_
        exact ⟨Or.inr ⟨by omega, p, c, rfl, hat, hrow⟩, hb⟩
end Go.Proofs.YtnhjebdlcbhkcaeGreat

namespace Go.Proofs.YtnhjebdlcbhkcaeGreat
open Go.RowKit

def hiL : List At := [⟨[(3, 0)], 1, 104⟩, ⟨[(4, 0)], 2, 105⟩]

set_option maxRecDepth 100000 in
set_option maxHeartbeats 1000000 in
theorem hi_any (w : World) : Calls Tryz.prog 21 #[] w fun e w' => ∃ g, e = .returned (.slice (some ⟨g, 0, none⟩) 2 2) ∧ AtomsAt w' (some ⟨g, 0, none⟩) hiL ∧ Below w.heap.size w w' := by
  go_enter Tryz.func21, Tryz.ntmps21
  go_wp2_with fail
  refine (at_any 3 0 1 w).mono ?_
  rintro e w1 ⟨rfl, hs1, hb1⟩
  go_wp2_with fail
  refine (at_any 4 0 2 w1).mono ?_
  rintro e w2 ⟨rfl, hs2, hb2⟩
  have hs1' := hs1.below hb2 (Nat.le_refl _)
  have hb3 := hb1.thru hb2 hb1.size
  go_wp2_with fail
  go_ret
  refine ⟨w2.heap.size, rfl, ?_, hb3.alloc hb3.size _⟩
  have hbn : Below w2.heap.size w2 (w2.alloc (Obj.cells #[.slice (some ⟨w.heap.size + 1, 0, none⟩) 1 1, .int .i64 1, .int .u8 104, .slice (some ⟨w1.heap.size + 1, 0, none⟩) 1 1, .int .i64 2, .int .u8 105] 108)) := (Below.refl _ _).alloc (Nat.le_refl _) _
  refine Or.inr ⟨w2.heap.size, 0, rfl, by simp, fun i hi => ?_⟩
  have h2 : i < 2 := hi
  rcases (show i = 0 ∨ i = 1 by omega) with rfl | rfl
  · exact ⟨_, 1, by simp [hiL], by simp [hiL], by simp [hiL], hs1'.below hbn (Nat.le_refl _), by simp [hiL, maxLen], by simp [hiL], by simp [hiL], by simp [hiL]⟩
  · exact ⟨_, 1, by simp [hiL], by simp [hiL], by simp [hiL], hs2.below hbn (Nat.le_refl _), by simp [hiL, maxLen], by simp [hiL], by simp [hiL], by simp [hiL]⟩
end Go.Proofs.YtnhjebdlcbhkcaeGreat

namespace Go.Proofs.YtnhjebdlcbhkcaeGreat
open Go.RowKit

theorem hiL_chk : chkL hiL = 0 := by decide
theorem hi1_chk : chkL (hiL.drop 1) = 0 := by decide
theorem hi0_chk : chkL (hiL.take 1) = 0 := by decide
theorem hi_put : putL (hiL.drop 1) (hiL.take 1) = hiL := by rfl
theorem hi_take : takeL hiL [([(3, 0)], 1)] = hiL.drop 1 := by rfl
theorem hi_txt : txtS hiL = ⟨#[104, 105]⟩ := by rfl

theorem put_is (a a' : Option Addr) (cap cap' : Nat) (l m : List At) (w : World) (h : AtomsAt w a l) (h' : AtomsAt w a' m) (h0 : chkL l = 0) (h0' : chkL m = 0) (hn : (putL l m).length ≤ 300) :
    Calls Tryz.prog 20 #[.slice a l.length cap, .slice a' m.length cap'] w fun e w' => ∃ p c, e = .returned (.tuple #[.slice p (putL l m).length c, .int .i64 0]) ∧ AtomsAt w' p (putL l m) ∧ Below w.heap.size w w' := by
  refine (put_ok a a' cap cap' l m w h h' h0 h0').mono ?_
  rintro e w' ⟨hc, hb⟩
  rcases hc with ⟨h1, _⟩ | ⟨_, p, c, he, hat, _⟩
  · omega
  · exact ⟨p, c, he, hat, hb⟩
theorem put_many (a a' : Option Addr) (cap cap' : Nat) (l m : List At) (w : World) (h : AtomsAt w a l) (h' : AtomsAt w a' m) (h0 : chkL l = 0) (h0' : chkL m = 0) (hn : 300 < (putL l m).length) :
    Calls Tryz.prog 20 #[.slice a l.length cap, .slice a' m.length cap'] w fun e w' => e = .returned (.tuple #[.slice none 0 0, .int .i64 2]) ∧ Below w.heap.size w w' := by
  refine (put_ok a a' cap cap' l m w h h' h0 h0').mono ?_
  rintro e w' ⟨hc, hb⟩
  rcases hc with ⟨_, he⟩ | ⟨h1, _⟩
  · exact ⟨he, hb⟩
  · omega
theorem take_is (a a' : Option Addr) (cap cap' : Nat) (l : List At) (ms : List (List (Int × Int) × Int)) (w : World) (h : AtomsAt w a l) (h0 : chkL l = 0) (hm : ms.length ≤ maxLen) (h' : MarksAt w a' ms) :
    Calls Tryz.prog 22 #[.slice a l.length cap, .slice a' ms.length cap'] w fun e w' => ∃ p c, e = .returned (.tuple #[.slice p (takeL l ms).length c, .int .i64 0]) ∧ AtomsAt w' p (takeL l ms) ∧ Below w.heap.size w w' := by
  refine (take_ok a a' cap cap' l ms w h h0 hm h').mono ?_
  rintro e w' ⟨p, c, he, hat, _, hb⟩
  exact ⟨p, c, he, hat, hb⟩
end Go.Proofs.YtnhjebdlcbhkcaeGreat

namespace Go.Proofs.YtnhjebdlcbhkcaeGreat

def flwAt (l : List At) (j : Nat) : Bool := match l[j]?, l[j + 1]? with
  | some x, some y => flw x.path x.clock y.path y.clock
  | _, _ => false

theorem goesB_iff (l : List At) (f k : Nat) : goesB l f k = true ↔ k + 1 < l.length ∧ k + 1 - f < 60 ∧ flwAt l k = true := by
  unfold goesB flwAt
  simp only [Bool.and_eq_true, decide_eq_true_eq]
  exact Iff.rfl

structure PcOk (l : List At) (p : Nat × Nat) : Prop where
  lt : p.1 < p.2
  le : p.2 ≤ l.length
  len : p.2 - p.1 ≤ 60
  inner : ∀ j, p.1 ≤ j → j + 1 < p.2 → flwAt l j = true
  shut : p.2 - p.1 = 60 ∨ p.2 = l.length ∨ flwAt l (p.2 - 1) = false

structure PstInv (l : List At) (k : Nat) : Prop where
  cat : ((pst l k).1.flatMap fun p => part l p.1 (p.2 - p.1)) = l.take (pst l k).2
  each : ∀ p ∈ (pst l k).1, PcOk l p
  link : ∀ i (h : i + 1 < (pst l k).1.length), ((pst l k).1[i]'(by omega)).2 = (pst l k).1[i + 1].1
  last : ∀ i (h : i < (pst l k).1.length), i + 1 = (pst l k).1.length → (pst l k).1[i].2 = (pst l k).2
  le : (pst l k).2 ≤ k
  few : (pst l k).2 < k → k - (pst l k).2 < 60
  op : ∀ j, (pst l k).2 ≤ j → j < k → flwAt l j = true
  shut : k = l.length → 0 < k → (pst l k).2 = k

theorem part_take (l : List At) (f t : Nat) (hf : f ≤ t) : l.take f ++ part l f (t - f) = l.take t := by
  unfold part
  have := List.take_add (l := l) (i := f) (j := t - f)
  rw [← this]
  congr 1; omega

theorem pstInv (l : List At) : ∀ k, k ≤ l.length → PstInv l k
  | 0, _ => ⟨rfl, fun p hp => by simp [pst] at hp, fun i h => by simp [pst] at h, fun i h => by simp [pst] at h, Nat.le_refl _, fun h => by simp [pst] at h, fun j _ h => by omega, fun _ h => by omega⟩
  | k + 1, hk => by
    have ih := pstInv l k (by omega)
    by_cases hg : goesB l (pst l k).2 k = true
    · have e : pst l (k + 1) = pst l k := by rw [pst, if_pos hg]
      obtain ⟨g1, g2, g3⟩ := (goesB_iff _ _ _).1 hg
      refine ⟨by rw [e]; exact ih.cat, by rw [e]; exact ih.each, by simp only [e]; exact ih.link, by simp only [e]; exact ih.last, by rw [e]; have := ih.le; omega, by rw [e]; intro _; exact g2, ?_, fun h => by omega⟩
      rw [e]
      intro j h1 h2
      by_cases ej : j = k
      · subst ej; exact g3
      · exact ih.op j h1 (by omega)
    · have e : pst l (k + 1) = ((pst l k).1 ++ [((pst l k).2, k + 1)], k + 1) := by rw [pst, if_neg hg]
      have hle := ih.le
      have hpc : PcOk l ((pst l k).2, k + 1) := by
        refine ⟨by show _ < k + 1; omega, hk, ?_, fun j h1 h2 => ih.op j h1 (by simp only at h2; omega), ?_⟩
        · by_cases h : (pst l k).2 < k
          · have := ih.few h; show k + 1 - _ ≤ 60; omega
          · show k + 1 - _ ≤ 60; omega
        · by_cases c1 : k + 1 < l.length
          · by_cases c2 : k + 1 - (pst l k).2 < 60
            · right; right
              show flwAt l (k + 1 - 1) = false
              rw [Nat.add_sub_cancel]
              cases c3 : flwAt l k
              · rfl
              · exact absurd ((goesB_iff _ _ _).2 ⟨c1, c2, c3⟩) hg
            · left
              by_cases h : (pst l k).2 < k
              · have := ih.few h; show k + 1 - _ = 60; omega
              · show k + 1 - _ = 60; omega
          · right; left; show k + 1 = l.length; omega
      rw [show PstInv l (k + 1) = PstInv l (k + 1) from rfl]
      refine ⟨?_, ?_, ?_, ?_, by rw [e]; exact Nat.le_refl _, by rw [e]; intro h; exact absurd h (Nat.lt_irrefl _), by rw [e]; intro j h1 h2; simp only at h1; omega, fun _ _ => by rw [e]⟩
      · rw [e]
        simp only [List.flatMap_append, List.flatMap_cons, List.flatMap_nil, List.append_nil]
        rw [ih.cat]
        exact part_take l _ _ (by omega)
      · rw [e]
        intro p hp
        rcases List.mem_append.1 hp with hp | hp
        · exact ih.each p hp
        · have : p = ((pst l k).2, k + 1) := by simpa using hp
          rw [this]; exact hpc
      · simp only [e]
        intro i hi
        simp only [List.length_append, List.length_singleton] at hi
        by_cases h : i + 1 < (pst l k).1.length
        · rw [List.getElem_append_left (by omega), List.getElem_append_left h]
          exact ih.link i h
        · have hi' : i + 1 = (pst l k).1.length := by omega
          rw [List.getElem_append_left (by omega), List.getElem_append_right (by omega)]
          simp only [hi', Nat.sub_self, List.getElem_cons_zero]
          exact ih.last i (by omega) hi'
      · simp only [e]
        intro i hi hil
        simp only [List.length_append, List.length_singleton] at hi hil
        rw [List.getElem_append_right (by omega)]
        simp [show i - (pst l k).1.length = 0 by omega]

theorem bump_bump {p : List (Int × Int)} (hp : 0 < p.length) (a b : Int) : bump (bump p a) b = bump p (a + b) := by
  have h1 : lastS (bump p a) = ((lastS p).1 + a, (lastS p).2) := lastS_bump hp a
  have h2 : bump (bump p a) b = setL (bump p a) ((lastS (bump p a)).1 + b, (lastS (bump p a)).2) := rfl
  rw [h2, h1]
  unfold bump setL
  simp only [List.length_set, List.set_set]
  congr 2; omega
theorem bump_zero {p : List (Int × Int)} (hp : 0 < p.length) : bump p 0 = p := by
  unfold bump setL
  rw [Int.add_zero]
  show p.set (p.length - 1) (lastS p) = p
  rw [lastS_eq hp, List.set_getElem_self]

theorem pc_marks {l : List At} (ok : OkL l) {p : Nat × Nat} (h : PcOk l p) : ∀ j (hj : p.1 + j < p.2), (l[p.1 + j]'(by have := h.le; omega)).path = bump (l[p.1]'(by have := h.le; have := h.lt; omega)).path j ∧ (l[p.1 + j]'(by have := h.le; omega)).clock = (l[p.1]'(by have := h.le; have := h.lt; omega)).clock + j := by
  intro j
  have hle := h.le
  have hlt := h.lt
  have hp0 : 0 < (l[p.1]'(by omega)).path.length := (okPath ok p.1 (by omega)).1
  induction j with
  | zero => intro hj; exact ⟨(bump_zero hp0).symm, by simp⟩
  | succ j ih =>
    intro hj
    obtain ⟨i1, i2⟩ := ih (by omega)
    have hf := h.inner (p.1 + j) (by omega) (by omega)
    unfold flwAt at hf
    rw [List.getElem?_eq_getElem (by omega), List.getElem?_eq_getElem (by omega)] at hf
    simp only [flw, beq_iff_eq] at hf
    obtain ⟨e1, e2⟩ := ordM_zero hf
    have e3 : l[p.1 + (j + 1)]'(by omega) = l[p.1 + j + 1]'(by omega) := rfl
    rw [e3, ← e1, ← e2, i1, i2, bump_bump hp0]
    exact ⟨by congr 1, by push_cast; omega⟩

theorem sign_back {s : Int} (h : isSignB s = true) : ((UInt8.ofNat s.toNat).toNat : Int) = s := by
  unfold isSignB inB at h
  simp only [Bool.and_eq_true, decide_eq_true_eq] at h
  rw [UInt8.toNat_ofNat']
  omega

theorem runOf_eq {l : List At} {p : Nat × Nat} (h : p.1 < l.length) : runOf l p = ⟨l[p.1].path, l[p.1].clock, txtS (part l p.1 (p.2 - p.1))⟩ := by
  unfold runOf; rw [List.getElem?_eq_getElem h]; rfl

theorem txt_size (l : List At) : (txtS l).size = l.length := by unfold txtS; rw [strOfNums_size, List.length_map]

theorem txt_signs {l : List At} (h : ∀ x ∈ l, isSignB x.sign = true) : allS (txtS l).data.toList = true := by
  unfold txtS allS
  rw [strOfNums_data, List.map_map, List.all_map, List.all_eq_true]
  intro x hx
  simp only [Function.comp]
  rw [sign_back (h x hx)]
  exact h x hx

theorem pc_run {l : List At} (ok : OkL l) {p : Nat × Nat} (h : PcOk l p) : chkRun (runOf l p).path (runOf l p).clock (runOf l p).text = 0 ∧ atomsR (runOf l p).path (runOf l p).clock (runOf l p).text = part l p.1 (p.2 - p.1) := by
  have hle := h.le
  have hlt := h.lt
  have h60 := h.len
  rw [runOf_eq (by omega)]
  have hpl := part_len (l := l) (f := p.1) (n := p.2 - p.1) (by omega)
  have hsz : (txtS (part l p.1 (p.2 - p.1))).size = p.2 - p.1 := by rw [txt_size, hpl]
  have hk0 := (ok.each _ (List.getElem_mem (show p.1 < l.length by omega))).1
  have hp0 : 0 < (l[p.1]'(by omega)).path.length := (okPath ok p.1 (by omega)).1
  constructor
  · show chkRun (l[p.1]'(by omega)).path (l[p.1]'(by omega)).clock (txtS (part l p.1 (p.2 - p.1))) = 0
    unfold chkRun
    rw [if_neg (by omega), hsz, if_neg (by omega), if_neg (by omega), if_neg (by rw [txt_signs (fun x hx => ((ok.part p.1 (p.2 - p.1)).each x hx).2)]; decide)]
    unfold nxt
    rw [if_neg (by omega), if_neg (by omega)]
    obtain ⟨m1, m2⟩ := pc_marks ok h (p.2 - p.1 - 1) (by omega)
    have hkl := (ok.each _ (List.getElem_mem (show p.1 + (p.2 - p.1 - 1) < l.length by omega))).1
    rw [m1, m2] at hkl
    rw [if_neg]
    rw [show ((p.2 - p.1 : Nat) : Int) - 1 = ((p.2 - p.1 - 1 : Nat) : Int) by omega]
    omega
  · refine List.ext_getElem (by simp [atomsR, hsz, hpl]) (fun i h1 h2 => ?_)
    have hi : i < p.2 - p.1 := by rw [hpl] at h2; exact h2
    rw [part_get (by omega) hi]
    have e : (atomsR (l[p.1]'(by omega)).path (l[p.1]'(by omega)).clock (txtS (part l p.1 (p.2 - p.1))))[i] = runAt (l[p.1]'(by omega)).path (l[p.1]'(by omega)).clock (txtS (part l p.1 (p.2 - p.1))) i := by simp [atomsR]
    show (atomsR (l[p.1]'(by omega)).path (l[p.1]'(by omega)).clock (txtS (part l p.1 (p.2 - p.1))))[i] = _
    rw [e]
    obtain ⟨m1, m2⟩ := pc_marks ok h i (by omega)
    have hs := (ok.each _ (List.getElem_mem (show p.1 + i < l.length by omega))).2
    unfold runAt
    have e3 : ((txtS (part l p.1 (p.2 - p.1))).data.toList.getD i 0).toNat = (UInt8.ofNat (l[p.1 + i]'(by omega)).sign.toNat).toNat := by
      unfold txtS
      rw [strOfNums_data, List.getD_eq_getElem?_getD, List.getElem?_map, List.getElem?_map, List.getElem?_eq_getElem (by rw [hpl]; exact hi), part_get (by omega) hi]; rfl
    rw [e3, ← m1, ← m2, sign_back hs]

end Go.Proofs.YtnhjebdlcbhkcaeGreat

namespace Go.Proofs.YtnhjebdlcbhkcaeGreat

theorem bump_snoc {l : List (Int × Int)} (h : 0 < l.length) (n : Int) : bump l n = l.dropLast ++ [((lastS l).1 + n, (lastS l).2)] := by
  have e : l = l.dropLast ++ [lastS l] := by
    have h1 : l ≠ [] := by intro e; rw [e] at h; simp at h
    conv => lhs; rw [← List.dropLast_concat_getLast h1]
    congr 2
    rw [lastS_eq h, List.getLast_eq_getElem]
  have key : ∀ s, setL l s = l.dropLast ++ [s] := by
    intro s
    unfold setL
    conv => lhs; rw [e]
    rw [show (l.dropLast ++ [lastS l]).length - 1 = l.dropLast.length by simp, List.set_append_right _ _ (Nat.le_refl _)]
    simp
  exact key _

theorem ordM_bump {l : List (Int × Int)} (h : 0 < l.length) (c : Int) {i j : Int} (hij : i < j) : ordM (bump l i) (c + i) (bump l j) (c + j) < 0 := by
  have : ordP (bump l i) (bump l j) = -1 := by
    rw [bump_snoc h, bump_snoc h, ordP_same]
    exact ordP_one _ _ (ordS_of (Or.inl (by simp only; omega)))
  have := ordM_of (c := c + i) (d := c + j) this
  omega

theorem atomsR_len (l : List (Int × Int)) (c : Int) (t : ByteArray) : (atomsR l c t).length = t.size := by simp [atomsR]
theorem atomsR_get {l : List (Int × Int)} {c : Int} {t : ByteArray} {i : Nat} (h : i < t.size) : (atomsR l c t)[i]'(by rw [atomsR_len]; exact h) = ⟨bump l i, c + i, t[i].toNat⟩ := by
  have e : (atomsR l c t)[i]'(by rw [atomsR_len]; exact h) = runAt l c t i := by simp [atomsR]
  rw [e]
  unfold runAt
  rw [List.getD_eq_getElem?_getD, List.getElem?_eq_getElem (by simpa using h)]; rfl

theorem allS_get {t : ByteArray} (h : allS t.data.toList = true) {i : Nat} (hi : i < t.size) : isSignB (t[i].toNat : Int) = true := by
  unfold allS at h
  rw [List.all_eq_true] at h
  exact h t[i] (by
    have : t[i] = t.data.toList[i]'(by simpa using hi) := rfl
    rw [this]; exact List.getElem_mem _)

theorem atomsR_ok {l : List (Int × Int)} {c : Int} {t : ByteArray} (ok : OkRun l c t) : OkL (atomsR l c t) := by
  refine ⟨by rw [atomsR_len]; have := ok.len; omega, fun x hx => ?_, ?_⟩
  · obtain ⟨i, hi, rfl⟩ := List.getElem_of_mem hx
    rw [atomsR_len] at hi
    rw [atomsR_get hi]
    exact ⟨ok.each i hi, allS_get ok.signs hi⟩
  · rw [List.pairwise_iff_getElem]
    intro i j hi hj hij
    rw [atomsR_len] at hi hj
    rw [atomsR_get hi, atomsR_get hj]
    exact ordM_bump (chk_ok ok.mark).1 c (by omega)

end Go.Proofs.YtnhjebdlcbhkcaeGreat

namespace Go.Proofs.YtnhjebdlcbhkcaeGreat
open Go.RowKit

theorem keepG_ok {g : List Mk} {l : List At} (h : OkL l) : OkL (keepG g l) := by
  refine ⟨?_, fun x hx => h.each x (List.mem_filter.1 hx).1, h.rise.filter _⟩
  have := List.length_filter_le (fun x => !goneA g x) l
  unfold keepG
  have := h.len
  omega

theorem put_isP (a a' : Option Addr) (cap cap' : Nat) (l m : List At) (w : World) (h : AtomsAt w a l) (h' : AtomsAt w a' m) (h0 : chkL l = 0) (h0' : chkL m = 0) (hn : (putL l m).length ≤ 300) :
    Calls Tryz.prog 20 #[.slice a l.length cap, .slice a' m.length cap'] w fun e w' => ∃ p c, e = .returned (.tuple #[.slice p (putL l m).length c, .int .i64 0]) ∧ PickRow w' w.heap.size (.slice p (putL l m).length c) (putL l m) ∧ Below w.heap.size w w' := by
  refine (put_ok a a' cap cap' l m w h h' h0 h0').mono ?_
  rintro e w' ⟨hc, hb⟩
  rcases hc with ⟨h1, _⟩ | ⟨_, p, c, he, _, hp⟩
  · omega
  · exact ⟨p, c, he, hp, hb⟩

theorem DoerAt.set0 {w : World} {base D : Nat} {vA vG u : Value} {l m : List At} {g : List Mk} (h : DoerAt w base D vA vG l g) (hm : PickRow w base u m) : DoerAt (w.setCell ⟨D, 0, none⟩ u) base D u vG m g := by
  obtain ⟨⟨cur, h1⟩, h2, h3, h4, h5, h6, h7, h8⟩ := h
  refine ⟨?_, World.cell?_setCell_same _ _ _ h2, ?_, fun o => by rw [World.frozen?_setCell]; exact h4 o, by simpa [World.setCell] using h5, h6, hm.setD ⟨cur, h1⟩, h8.setD ⟨cur, h1⟩⟩
  · refine ⟨cur.setIfInBounds 0 u, ?_⟩
    simp [World.setCell, Array.getElem?_modify, h1]
  · rw [World.cell?_setCell_other _ _ _ _ (by simp)]; exact h3

set_option maxRecDepth 100000 in
set_option maxHeartbeats 8000000 in
theorem doerPut_ok (base D : Nat) (vA vG : Value) (l : List At) (g : List Mk) (p : Option Addr) (cap : Nat) (rp : List (Int × Int)) (rc : Int) (rt : ByteArray) (w : World) (hd : DoerAt w base D vA vG l g) (hl : chkL l = 0) (hu : Up g) (hg : g.length ≤ 1000) (hs : StepsAt w p rp) (hr : chkRun rp rc rt = 0) :
    Calls Tryz.prog 161 #[.pointer (some ⟨D, 0, none⟩), .agg #[.slice p rp.length cap, .int .i64 rc, .string rt]] w fun e w' => Below base w w' ∧ ((300 < (putL l (keepG g (atomsR rp rc rt))).length ∧ e = .returned (.int .i64 2)) ∨ ((putL l (keepG g (atomsR rp rc rt))).length ≤ 300 ∧ e = .returned (.int .i64 0) ∧ ∃ vA', DoerAt w' base D vA' vG (putL l (keepG g (atomsR rp rc rt))) g)) := by
  have HRU := hidE (okRun_of hr)
  have HAO := hidE (atomsR_ok (okRun_of hr))
  have HU := hidE hu
  have HR := hidE hr
  clear hu hr
  have hB := ((Below.refl w.heap.size w).alloc (Nat.le_refl _) (Obj.cells #[.pointer (some ⟨D, 0, none⟩)] 109)).alloc (by simp) (Obj.cells #[.slice p rp.length cap, .int .i64 rc, .string rt] 59)
  have b0 : ((w.alloc (Obj.cells #[.pointer (some ⟨D, 0, none⟩)] 109)).alloc (Obj.cells #[.slice p rp.length cap, .int .i64 rc, .string rt] 59)).cell? ⟨w.heap.size, 0, none⟩ = some (.pointer (some ⟨D, 0, none⟩)) := by simp
  have z : w.heap.size < ((w.alloc (Obj.cells #[.pointer (some ⟨D, 0, none⟩)] 109)).alloc (Obj.cells #[.slice p rp.length cap, .int .i64 rc, .string rt] 59)).heap.size := by simp; omega
  have hDZ : D < w.heap.size := hd.lt
  have hBb := hB.mono (show base ≤ w.heap.size from Nat.le_trans hd.le (Nat.le_of_lt hd.lt))
  have hbs : base ≤ ((w.alloc (Obj.cells #[.pointer (some ⟨D, 0, none⟩)] 109)).alloc (Obj.cells #[.slice p rp.length cap, .int .i64 rc, .string rt] 59)).heap.size := Nat.le_trans (Nat.le_trans hd.le (Nat.le_of_lt hd.lt)) hB.size
  replace hd := hd.below hB
  replace hs := hs.below hB (Nat.le_refl _)
  go_enter Tryz.func161, Tryz.ntmps161
  go_wp2_with fail
  generalize (w.alloc (Obj.cells #[.pointer (some ⟨D, 0, none⟩)] 109)).alloc (Obj.cells #[.slice p rp.length cap, .int .i64 rc, .string rt] 59) = W at hB hBb hbs b0 z hd hs ⊢
  generalize w.heap.size = Z at b0 z hDZ ⊢
  clear hB
  refine (runAtoms_ok _ _ rp rc rt _ hs HR.out).mono ?_
  rintro e w1 ⟨pA, kA, rfl, hatA, ⟨rs, hrl, hown, hrr⟩, hb⟩
  have hal : (atomsR rp rc rt).length = rt.size := atomsR_len rp rc rt
  have ht0 := HRU.out.len0
  have ht60 := HRU.out.len
  obtain ⟨blk, kk, hvv⟩ := owns_form hown (by omega)
  obtain ⟨rfl, rfl⟩ : pA = some ⟨blk, 0, none⟩ ∧ kA = kk := by simpa using hvv
  clear hvv hatA
  have hcm : (atomsR rp rc rt).length ≤ kA ∧ kA ≤ maxLen := by
    rcases hown.2 with ⟨h, _⟩ | ⟨g1, c1, cur, h, _, _, h1, h2, _⟩
    · simp at h
    · simp at h; rw [h.2]; exact ⟨h1, h2⟩
  have hblk : W.heap.size ≤ blk ∧ blk < w1.heap.size := hown.lt blk rfl
  have hrow : RowAt w1 blk rs := by
    refine ⟨hblk.2, fun j u hj => ⟨?_, hown.frozenAt j⟩⟩
    have := hown.cells (g := blk) rfl j u hj
    rw [Addr.add_lit, Nat.zero_add] at this
    exact this
  have hty : ∀ gp cur, w1.heap[gp]? = some (.cells cur 124 (0, 0)) → gp ≠ blk := by
    intro gp cur hgp e
    subst e
    rcases hown.2 with ⟨h, _⟩ | ⟨g1, c1, cur1, h, _, h2, _⟩
    · simp at h
    · simp at h
      rw [← h.1, hgp] at h2
      simp at h2
  obtain ⟨vg, cg, rfl, hM, _, _⟩ := hd.gone.marks
  have hGo : GoneAt W Z D g := ⟨z, b0, hd.lt, vg, cg, hd.c1, hM⟩
  have HDEL := hidE (deleteG_ok W w1 blk kA Z D rs (atomsR rp rc rt) g hb hblk.1 hrl (by omega) hcm.1 hcm.2 hrr hrow hty hGo hg HU.out)
  clear hrow hty hown hrr hal hcm ht0 ht60 hrl
  go_wp2_with fail
  refine HDEL.out.mono ?_
  rintro e w2 ⟨c2, rfl, hat2, _, _, hb2⟩
  clear HDEL hGo hM
  have HCO := hidE (okL_chk (keepG_ok (g := g) HAO.out))
  have hBb2 := hBb.thru hb2 hbs
  have hd2 := hd.below hb2
  have b02 := (hb2.cell (p := ⟨Z, 0, none⟩) z).trans b0
  have z2 := Nat.lt_of_lt_of_le z hb2.size
  have hbs2 := Nat.le_trans hbs hb2.size
  generalize hcm' : keepG g (atomsR rp rc rt) = cm at hat2 HCO ⊢
  have HCM := hidE hcm'
  clear hcm'
  clear hb2 hd b0 z hbs hBb hb hs hblk
  obtain ⟨va, ca, hva, hat, _⟩ := hd2.atoms.owns.atoms (Below.refl _ _)
  subst hva
  have d0 := hd2.c0
  have df := hd2.free
  have hdl := hd2.lt
  have hBd : Below w2.heap.size w2 w2.drew := (Below.refl _ _).drew
  have HD := hidE hd2
  clear hd2
  by_cases hn : 300 < (putL l cm).length
  · have HP := hidE (fun (W : World) (hb : Below w2.heap.size w2 W) => put_many va (some ⟨blk, 0, none⟩) ca c2 l cm W (hat.below hb (Nat.le_refl _)) (hat2.below hb (Nat.le_refl _)) hl HCO.out hn)
    go_upto_region 4 with fail
    go_region_with ((go_at_call 20; refine (HP.out _ (by first | exact Below.refl _ _ | exact hBd)).mono ?_; rintro e w3 ⟨rfl, hb3⟩; have hb3' : Below w2.heap.size w2 w3 := hBd.thru hb3 (Nat.le_refl _); have t0 := (hb3'.cell (p := ⟨Z, 0, none⟩) z2).trans b02; have t1 := (hb3'.cell (p := ⟨D, 0, none⟩) hdl).trans d0; have t2 := fun o => (hb3'.frozen (p := ⟨D, o, none⟩) hdl).trans (df o)))
    all_goals
      go_wp2_with fail
      go_ret
      rw [HCM.out]
      exact ⟨(hBb2.thru hb3' hbs2).setCell HD.out.le _, Or.inl ⟨hn, rfl⟩⟩
  · have HP := hidE (fun (W : World) (hb : Below w2.heap.size w2 W) => put_isP va (some ⟨blk, 0, none⟩) ca c2 l cm W (hat.below hb (Nat.le_refl _)) (hat2.below hb (Nat.le_refl _)) hl HCO.out (by omega))
    go_upto_region 4 with fail
    go_region_with ((go_at_call 20; refine (HP.out _ (by first | exact Below.refl _ _ | exact hBd)).mono ?_; rintro e w3 ⟨p3, c3, rfl, hpk, hb3⟩; have hb3' : Below w2.heap.size w2 w3 := hBd.thru hb3 (Nat.le_refl _); have t0 := (hb3'.cell (p := ⟨Z, 0, none⟩) z2).trans b02; have t1 := (hb3'.cell (p := ⟨D, 0, none⟩) hdl).trans d0; have t2 := fun o => (hb3'.frozen (p := ⟨D, o, none⟩) hdl).trans (df o)))
    all_goals
      go_wp2_with fail
      go_ret
      rw [HCM.out]
      exact ⟨(hBb2.thru hb3' hbs2).setCell HD.out.le _, Or.inr ⟨by omega, rfl, _, (HD.out.below hb3').set0 (hpk.mono hbs2)⟩⟩
end Go.Proofs.YtnhjebdlcbhkcaeGreat
