/- Contract of atom.Put: what is right. -/
import Derived.Test.YtnhjebdlcbhkcacGreatPutC
import Derived.Test.YtnhjebdlcbhkcacGreatHasC
import Derived.Test.YtnhjebdlcbhkcacGreatAtomCk
import Derived.Test.YtnhjebdlcbhkcacGreatGapA
namespace Go.Proofs.YtnhjebdlcbhkcacGreat
open Go.RowKit

/-- what Put gives -/
def PutGives (w : World) (l m : List At) (e : Ending) (w' : World) : Prop :=
  ((300 < (putL l m).length ∧ e = .returned (.tuple #[.slice none 0 0, .int .i64 2])) ∨ ((putL l m).length ≤ 300 ∧ ∃ p c, e = .returned (.tuple #[.slice p (putL l m).length c, .int .i64 0]) ∧ AtomsAt w' p (putL l m) ∧ PickRow w' w.heap.size (.slice p (putL l m).length c) (putL l m))) ∧ Below w.heap.size w w'

set_option maxRecDepth 100000 in
set_option maxHeartbeats 4000000 in
theorem put_ok (a a' : Option Addr) (cap cap' : Nat) (l m : List At) (w : World) (h : AtomsAt w a l) (h' : AtomsAt w a' m) (h0 : chkL l = 0) (h0' : chkL m = 0) :
    Calls Tryz.prog 77 #[.slice a l.length cap, .slice a' m.length cap'] w (PutGives w l m) := by
  have hl3 := chkL_len h0
  have hm3 := chkL_len h0'
  have HOK := hidE (okL_of h0)
  have HOK' := hidE (okL_of h0')
  have hl : l.length ≤ maxLen := by unfold maxLen; omega
  have hm : m.length ≤ maxLen := by unfold maxLen; omega
  have H0 := hidE h0
  have H0' := hidE h0'
  clear h0 h0'
  go_enter Tryz.func77, Tryz.ntmps77
  go_wp2_with fail
  refine (atomCheck_any _ _ l _ hl h).mono ?_
  rintro e w1 ⟨rfl, hb1⟩
  rw [H0.out]
  go_wp2_with fail
  refine (atomCheck_any _ _ m _ hm (h'.below hb1 (Nat.le_refl _))).mono ?_
  rintro e w2 ⟨rfl, hb2⟩
  rw [H0'.out]
  have hb3 := hb1.thru hb2 hb1.size
  clear hb1 hb2
  go_upto_region 2 with (go_at_call 108; refine (or25_any _ _ 0 0 _ (by go_simp) (by go_simp)).mono ?_; rintro e w' ⟨rfl, rfl⟩; rw [show orI 0 0 = 0 from rfl])
  have hb4 := hb3.alloc hb3.size (.cells #[.int .i64 0, .int .i64 0] 27)
  generalize w2.alloc (.cells #[.int .i64 0, .int .i64 0] 27) = w3 at hb4 ⊢
  clear hb3
  go_wp2_with fail
  have HP : Hid (pickTo (fun _ => true) l l.length = l) := by show _ = _; rw [pickTo_all l _ (Nat.le_refl _), List.take_length]
  refine (pickAll_ok _ _ l _ (h.below hb4 (Nat.le_refl _)) (by omega) (okPath HOK.out)).mono ?_
  rintro e w5 ⟨p5, c5, rfl, _, hrow5, hb5⟩
  rw [HP.out] at hrow5 ⊢
  have hbW := hb4.thru hb5 hb4.size
  replace hrow5 := hrow5.mono hb4.size
  clear hb4 hb5 HP
  go_wp2_with fail
  go_loopw [25, 7] (fun i v wr => ∃ k : Nat, k ≤ m.length ∧ i = .int .i64 k ∧ PickRow wr w.heap.size v (putL l (m.take k)) ∧ Below w.heap.size w wr) (fun i _ _ => m.length - (intOf i).toNat)
  case atStart => exact ⟨0, Nat.zero_le _, rfl, by simpa [putL] using hrow5, hbW⟩
  case round =>
    clear hrow5 hbW
    obtain ⟨k, hk, rfl, hrow, hb⟩ := hrel
    have HE := hidE (putL_okE HOK.out.okE HOK'.out.okE k hk)
    have hlen := putL_len l m k hk
    by_cases hlt : k < m.length
    · obtain ⟨ab, ao, rfl, hab, hc⟩ := (h'.below hb (Nat.le_refl _)).raw (by omega)
      obtain ⟨⟨p, n, cp, ck, sk⟩, hr, c0, c1, c2⟩ := hc k hlt
      have hi1 : (k : Int) < m.length := by omega
      have HN := hidE (putL_take_succ l m k hlt)
      have hokk := okPath HOK'.out k hlt
      have hn : n = m[k].path.length := hr.n
      have hck : ck = m[k].clock := hr.clock
      have hsk : sk = m[k].sign := hr.sign
      subst hn hck hsk
      have s0 := hr.s0
      have s1 := hr.s1
      have hst := hr.steps
      generalize putL l (m.take k) = xs at *
      generalize m[k] = x at *
      clear hc h h' hr
      obtain ⟨pb, po, rfl⟩ : ∃ pb po, p = some ⟨pb, po, none⟩ := by
        rcases hst with e | ⟨pb, po, rfl, _⟩
        · have e' : x.path = [] := e
          have : x.path.length = 0 := by rw [e']; rfl
          omega
        · exact ⟨pb, po, rfl⟩
      have hb0 := hb.alloc hb.size (.cells #[.slice (some ⟨pb, po, none⟩) x.path.length cp, .int .i64 x.clock, .int .u8 x.sign] 66)
      have hbn : Below wr.heap.size wr (wr.alloc (.cells #[.slice (some ⟨pb, po, none⟩) x.path.length cp, .int .i64 x.clock, .int .u8 x.sign] 66)) := (Below.refl _ _).alloc (Nat.le_refl _) _
      have x0 : (wr.alloc (.cells #[.slice (some ⟨pb, po, none⟩) x.path.length cp, .int .i64 x.clock, .int .u8 x.sign] 66)).cell? ⟨wr.heap.size, 0, none⟩ = some (.slice (some ⟨pb, po, none⟩) x.path.length cp) := by simp
      have x1 : (wr.alloc (.cells #[.slice (some ⟨pb, po, none⟩) x.path.length cp, .int .i64 x.clock, .int .u8 x.sign] 66)).cell? ⟨wr.heap.size, 1, none⟩ = some (.int .i64 x.clock) := by simp
      have x2 : (wr.alloc (.cells #[.slice (some ⟨pb, po, none⟩) x.path.length cp, .int .i64 x.clock, .int .u8 x.sign] 66)).cell? ⟨wr.heap.size, 2, none⟩ = some (.int .u8 x.sign) := by simp
      have hsz : wr.heap.size < (wr.alloc (.cells #[.slice (some ⟨pb, po, none⟩) x.path.length cp, .int .i64 x.clock, .int .u8 x.sign] 66)).heap.size := by simp
      have hrowN := hrow.below hbn
      have hstN := hst.below hbn (Nat.le_refl _)
      have hwn : w.heap.size ≤ wr.heap.size := hb.size
      obtain ⟨rs0, hrl0, hown0, _⟩ := hrow
      have hON : some wr.heap.size ≠ Value.ownBlock u7 := own_ne hown0 (by omega)
      clear hrl0 hown0
      go_upto_region 8 with fail
      generalize wr.alloc (.cells #[.slice (some ⟨pb, po, none⟩) x.path.length cp, .int .i64 x.clock, .int .u8 x.sign] 66) = w2 at hb0 hbn x0 x1 x2 hsz hrowN hstN ⊢
      clear c0 c1 c2 hst hb hbn
      have hml : x.path.length ≤ maxLen := by unfold maxLen; omega
      obtain ⟨pq, cq, rfl, hatq, hlq⟩ := hrowN.owns.atoms (Below.refl _ _)
      go_wp2_with fail
      refine (find_any _ _ _ _ xs x.path x.clock _ (by omega) hml hatq hstN (parts_rise HE.out.rise _ _)).mono ?_
      rintro e w3 ⟨i, hil, hcut, fb, rfl, hfb, hb3⟩
      have y0 := (hb3.cell (p := ⟨wr.heap.size, 0, none⟩) hsz).trans x0
      have y1 := (hb3.cell (p := ⟨wr.heap.size, 1, none⟩) hsz).trans x1
      have y2 := (hb3.cell (p := ⟨wr.heap.size, 2, none⟩) hsz).trans x2
      have hz3 := Nat.lt_of_lt_of_le hsz hb3.size
      have hrow3 := hrowN.below hb3
      have hst3 := hstN.below hb3 (Nat.le_refl _)
      have hbW := hb0.thru hb3 hb0.size
      clear x0 x1 x2 hsz hrowN hstN hb3 hb0 hatq
      cases fb
      · have HX : Hid (putL l (m.take (k + 1)) = xs.take i ++ x :: xs.drop i) := by
          show _ = _
          rw [HN.out]
          exact putA_cut HE.out.rise hil hcut (fun e => by have := hfb.2 e; cases this)
        clear hcut hfb HN
        obtain ⟨rs, hrl, hown, hrr⟩ := hrow3
        have HRR := hidE hrr
        clear hrr
        go_upto_region 11 with fail
        have hBd : Below w3.heap.size w3 w3.drew := (Below.refl _ _).drew
        go_region_held_law (fun w' => w'.cell? ⟨wr.heap.size, 0, none⟩ = some (.slice (some ⟨pb, po, none⟩) x.path.length cp) ∧ w'.cell? ⟨wr.heap.size, 1, none⟩ = some (.int .i64 x.clock) ∧ w'.cell? ⟨wr.heap.size, 2, none⟩ = some (.int .u8 x.sign))
          (first | exact ⟨y0, y1, y2⟩ | exact ⟨t0, t1, t2⟩ | exact ⟨s0', s1', s2'⟩ | exact ⟨z0, z1, z2⟩)
          (first
            | (go_at_call 112; refine (insA_own w.heap.size _ xs.length i w4.heap.size (flatR rs) ((⟨some ⟨g, 0, none⟩, x.path.length, cap2, x.clock, x.sign⟩ : Raw).cells) _ (hown4.alloc _) hbs4 hil (by omega) (heap_new _ _) rfl (own_ne hown4 (Or.inr (Nat.le_refl _))) (flatR_one rs) (fun u hu => flatR_one [⟨some ⟨g, 0, none⟩, x.path.length, cap2, x.clock, x.sign⟩] u (by simpa [flatR] using hu))).mono ?_; rintro e w5 ⟨v', rfl, hown5, hgrow⟩; have z0 := (grown_cell hgrow hzA hON 0).trans s0'; have z1 := (grown_cell hgrow hzA hON 1).trans s1'; have z2 := (grown_cell hgrow hzA hON 2).trans s2')
            | (go_at_call 78; refine (freshMark_ok pb po _ _ x.path _ _ rfl hml (by omega) (hst3.below hBd (Nat.le_refl _))).mono ?_; rintro e w4 ⟨g, cap2, rfl, hownS, hb4⟩; have hb4' : Below w3.heap.size w3 w4 := hBd.thru hb4 (Nat.le_refl _); have t0 := (hb4'.cell (p := ⟨wr.heap.size, 0, none⟩) hz3).trans y0; have t1 := (hb4'.cell (p := ⟨wr.heap.size, 1, none⟩) hz3).trans y1; have t2 := (hb4'.cell (p := ⟨wr.heap.size, 2, none⟩) hz3).trans y2; have hz4 : wr.heap.size < w4.heap.size := Nat.lt_of_lt_of_le hz3 hb4'.size; have hown4 := owns_below hown hb4'; have hbA : Below w4.heap.size w4 (w4.alloc (.cells #[.slice (some ⟨g, 0, none⟩) x.path.length cap2, .int .i64 x.clock, .int .u8 x.sign] 66)) := (Below.refl _ _).alloc (Nat.le_refl _) _; have hzA : wr.heap.size < (w4.alloc (.cells #[.slice (some ⟨g, 0, none⟩) x.path.length cap2, .int .i64 x.clock, .int .u8 x.sign] 66)).heap.size := Nat.lt_of_lt_of_le hz4 hbA.size; have hbs4 : w.heap.size ≤ (w4.alloc (.cells #[.slice (some ⟨g, 0, none⟩) x.path.length cap2, .int .i64 x.clock, .int .u8 x.sign] 66)).heap.size := Nat.le_trans hwn (Nat.le_of_lt hzA); have s0' := (hbA.cell (p := ⟨wr.heap.size, 0, none⟩) hz4).trans t0; have s1' := (hbA.cell (p := ⟨wr.heap.size, 1, none⟩) hz4).trans t1; have s2' := (hbA.cell (p := ⟨wr.heap.size, 2, none⟩) hz4).trans t2))
        have hb3w := hbW.thru hb4' hbW.size
        have hb5 := (hb3w.alloc hb3w.size _).grown hgrow (hb3w.alloc hb3w.size _).size (fun k hk => (hown4.lt k hk).1)
        have hrow2 : PickRow w5 w.heap.size v' (xs.take i ++ x :: xs.drop i) := PickRow.ins hil hrl (hown4.alloc _) (fun i h h' => ((HRR.out i h h').below hb4').below hbA) ⟨g, cap2, rfl, (owns_base hownS (by show w.heap.size ≤ w3.heap.size; exact hbW.size)).alloc _, hml, s0, s1⟩ hgrow hown5
        go_wp2_with fail
        go_roundw
        case rel => exact ⟨k + 1, by omega, by go_num, by rw [HX.out]; exact hrow2, hb5⟩
        case measure => simp [intOf]; omega
      · obtain ⟨hil', h00⟩ := hfb.1 rfl
        have HX : Hid (putL l (m.take (k + 1)) = xs.set i (lessSign x xs[i])) := by
          show _ = _
          rw [HN.out]
          exact putA_found xs i hil' HE.out.rise h00
        clear hcut hfb HN h00
        obtain ⟨rs, hrl, hown, hrr⟩ := hrow3
        obtain ⟨g, cq', hv⟩ := owns_form hown (by omega)
        obtain ⟨rfl, rfl⟩ : pq = some ⟨g, 0, none⟩ ∧ cq = cq' := by simpa using hv
        clear hv
        have hraw := hrr i hil' (by omega)
        have hsg : rs[i].sign = xs[i].sign := by obtain ⟨_, _, e, _⟩ := hraw; rw [e]
        obtain ⟨_, _, _, _, _, q0, q1⟩ := hraw
        have fc := (hown.cellAt (i * 3 + 2) (by omega)).trans (flatR_get rs i (by omega)).2.2
        rw [hsg] at fc
        have ff := hown.frozenAt (i * 3 + 2)
        obtain ⟨hrow2, hgrow⟩ := PickRow.less (s := if x.sign < xs[i].sign then x.sign else xs[i].sign) hil' hrl hown hrr (by split <;> omega) (by split <;> omega)
        have hi2 : (i : Int) < xs.length := by omega
        have HLS : Hid (lessSign x xs[i] = { xs[i] with sign := if x.sign < xs[i].sign then x.sign else xs[i].sign }) := rfl
        generalize xs[i].sign = sq at *
        have hgz : g ≠ wr.heap.size := fun e => hON (by rw [e]; rfl)
        have y2' : w3.drew.cell? ⟨wr.heap.size, 2, none⟩ = some (.int .u8 x.sign) := y2
        have fc' : w3.drew.cell? ⟨g, i * 3 + 2, none⟩ = some (.int .u8 sq) := fc
        have ff' : w3.drew.frozen? ⟨g, i * 3 + 2, none⟩ = false := ff
        go_upto_region 10 with fail
        go_region
        go_wp2_with fail
        go_roundw
        case rel =>
          refine ⟨k + 1, by omega, by go_num, ?_, ((hbW.setCell (hown.lt g rfl).1 _).drew)⟩
          rw [HX.out, HLS.out, show min sq x.sign = if x.sign < sq then x.sign else sq by split <;> omega]
          exact hrow2
        case measure => simp [intOf]; omega
    · have hkl : k = m.length := by omega
      subst hkl
      rw [List.take_length] at hrow HE hlen
      obtain ⟨p, c, rfl, hat, _⟩ := hrow.owns.atoms (Below.refl _ _)
      by_cases h300 : 300 < (putL l m).length
      · have hd : ((putL l m).length : Int) > 300 := by omega
        go_wp2
        refine bodyPost_ret (v := .tuple #[.slice none 0 0, .int .i64 2]) (by simp [results, Tryz.results77, go_sem]) rfl ?_
        exact ⟨Or.inl ⟨h300, rfl⟩, hb⟩
      · have hd : ¬ ((putL l m).length : Int) > 300 := by omega
        go_wp2
        refine bodyPost_ret (v := .tuple #[.slice p (putL l m).length c, .int .i64 0]) (by simp [results, Tryz.results77, go_sem]) rfl ?_
        exact ⟨Or.inr ⟨by omega, p, c, rfl, hat, hrow⟩, hb⟩
end Go.Proofs.YtnhjebdlcbhkcacGreat

namespace Go.Proofs.YtnhjebdlcbhkcacGreat
open Go.RowKit

def hiL : List At := [⟨[(3, 0)], 1, 104⟩, ⟨[(4, 0)], 2, 105⟩]

set_option maxRecDepth 100000 in
set_option maxHeartbeats 1000000 in
theorem hi_any (w : World) : Calls Tryz.prog 22 #[] w fun e w' => ∃ g, e = .returned (.slice (some ⟨g, 0, none⟩) 2 2) ∧ AtomsAt w' (some ⟨g, 0, none⟩) hiL ∧ Below w.heap.size w w' := by
  go_enter Tryz.func22, Tryz.ntmps22
  go_wp2_with fail
  refine (at_any 3 0 1 w).mono ?_
  rintro e w1 ⟨rfl, hs1, hb1⟩
  go_wp2_with fail
  refine (at_any 4 0 2 w1).mono ?_
  rintro e w2 ⟨rfl, hs2, hb2⟩
  have hs1' := hs1.below hb2 (Nat.le_refl _)
  have hb3 := hb1.thru hb2 hb1.size
  go_wp2_with fail
  go_ret
  refine ⟨w2.heap.size, rfl, ?_, hb3.alloc hb3.size _⟩
  have hbn : Below w2.heap.size w2 (w2.alloc (Obj.cells #[.slice (some ⟨w.heap.size + 1, 0, none⟩) 1 1, .int .i64 1, .int .u8 104, .slice (some ⟨w1.heap.size + 1, 0, none⟩) 1 1, .int .i64 2, .int .u8 105] 66)) := (Below.refl _ _).alloc (Nat.le_refl _) _
  refine Or.inr ⟨w2.heap.size, 0, rfl, by simp, fun i hi => ?_⟩
  have h2 : i < 2 := hi
  rcases (show i = 0 ∨ i = 1 by omega) with rfl | rfl
  · exact ⟨_, 1, by simp [hiL], by simp [hiL], by simp [hiL], hs1'.below hbn (Nat.le_refl _), by simp [hiL, maxLen], by simp [hiL], by simp [hiL], by simp [hiL]⟩
  · exact ⟨_, 1, by simp [hiL], by simp [hiL], by simp [hiL], hs2.below hbn (Nat.le_refl _), by simp [hiL, maxLen], by simp [hiL], by simp [hiL], by simp [hiL]⟩
end Go.Proofs.YtnhjebdlcbhkcacGreat

namespace Go.Proofs.YtnhjebdlcbhkcacGreat
open Go.RowKit

set_option maxHeartbeats 400000 in
theorem take2_any (T R n : Nat) (k : Nat) (b : Bool) (w : World) (hk : k < n) (_hn : n ≤ 1000) (h0 : w.cell? ⟨T, 0, none⟩ = some (.slice (some ⟨R, 0, none⟩) n n)) (h1 : w.cell? ⟨R, k, none⟩ = some (.bool b)) :
    Calls Tryz.prog 137 #[.int .i64 k, .pointer (some ⟨T, 0, none⟩)] w fun e w' => e = .returned (.bool (!b)) ∧ w' = w := by
  have hi : (k : Int) < n := by omega
  go_enter Tryz.func137, Tryz.ntmps137
  go_wp2
  go_ret
  exact ⟨rfl, rfl⟩

set_option maxRecDepth 100000 in
set_option maxHeartbeats 4000000 in
theorem pickNot_ok (T R : Nat) (tk : Nat → Bool) (a : Option Addr) (cap : Nat) (l : List At) (w : World) (h : AtomsAt w a l) (hl : l.length ≤ 1000) (hok : ∀ i (h : i < l.length), 0 < l[i].path.length ∧ l[i].path.length ≤ 10) (hT : T < w.heap.size) (hR : R < w.heap.size) (hT0 : w.cell? ⟨T, 0, none⟩ = some (.slice (some ⟨R, 0, none⟩) l.length l.length)) (hRk : ∀ k, k < l.length → w.cell? ⟨R, k, none⟩ = some (.bool (tk k))) :
    Calls Tryz.prog 109 #[.slice a l.length cap, .func (.func 137) #[] #[.pointer (some ⟨T, 0, none⟩)]] w fun e w' => ∃ p c, e = .returned (.slice p (pickTo (fun k => !tk k) l l.length).length c) ∧ AtomsAt w' p (pickTo (fun k => !tk k) l l.length) ∧ PickRow w' w.heap.size (.slice p (pickTo (fun k => !tk k) l l.length).length c) (pickTo (fun k => !tk k) l l.length) ∧ Below w.heap.size w w' := by
  obtain ⟨i0, hi, hz0, hz1, hz2⟩ := Tryz.info66
  have HOK := hidE hok
  clear hok
  go_enter Tryz.func109, Tryz.ntmps109
  go_wp2
  go_loopw [10, 5] (fun i v wr => ∃ k : Nat, k ≤ l.length ∧ i = .int .i64 k ∧ PickRow wr w.heap.size v (pickTo (fun k => !tk k) l k) ∧ Below w.heap.size w wr) (fun i _ _ => l.length - (intOf i).toNat)
  case atStart => exact ⟨0, Nat.zero_le _, rfl, ⟨[], rfl, World.ownsRow_nil _ _ _ _, fun i h => by simp [pickTo] at h⟩, Below.refl _ _⟩
  case round =>
    obtain ⟨k, hk, rfl, hrow, hb⟩ := hrel
    by_cases hlt : k < l.length
    · obtain ⟨ab, ao, rfl, hab, hc⟩ := (h.below hb (Nat.le_refl _)).raw (by omega)
      obtain ⟨⟨p, n, cp, ck, sk⟩, hr, c0, c1, c2⟩ := hc k hlt
      have hi1 : (k : Int) < l.length := by omega
      have HT : Hid (pickTo (fun k => !tk k) l (k + 1) = pickTo (fun k => !tk k) l k ++ if (!tk k) = true then [l[k]] else []) := by
        show (pickTo (fun k => !tk k) l k ++ if (!tk k) = true then l[k]?.toList else []) = _
        rw [List.getElem?_eq_getElem hlt]; rfl
      have r0 := (hb.cell (p := ⟨T, 0, none⟩) hT).trans hT0
      have r1 := (hb.cell (p := ⟨R, k, none⟩) hR).trans (hRk k hlt)
      have hTr : T < wr.heap.size := Nat.lt_of_lt_of_le hT hb.size
      have hRr : R < wr.heap.size := Nat.lt_of_lt_of_le hR hb.size
      generalize tk k = tb at r1 HT
      have HL := hidE (pickTo_len (fun k => !tk k) l k)
      have hokk := HOK.out k hlt
      have hn : n = l[k].path.length := hr.n
      have hck : ck = l[k].clock := hr.clock
      have hsk : sk = l[k].sign := hr.sign
      subst hn hck hsk
      have s0 := hr.s0
      have s1 := hr.s1
      have hst := hr.steps
      generalize pickTo (fun k => !tk k) l k = xs at *
      generalize l[k] = x at *
      clear hc h hr HOK
      obtain ⟨pb, po, rfl⟩ : ∃ pb po, p = some ⟨pb, po, none⟩ := by
        rcases hst with e | ⟨pb, po, rfl, _⟩
        · have e' : x.path = [] := e
          have : x.path.length = 0 := by rw [e']; rfl
          omega
        · exact ⟨pb, po, rfl⟩
      obtain ⟨rs, hrl, hown, hrr⟩ := hrow
      have hb0 := hb.alloc hb.size (.cells #[.slice (some ⟨pb, po, none⟩) x.path.length cp, .int .i64 x.clock, .int .u8 x.sign] 66)
      have hbn : Below wr.heap.size wr (wr.alloc (.cells #[.slice (some ⟨pb, po, none⟩) x.path.length cp, .int .i64 x.clock, .int .u8 x.sign] 66)) := (Below.refl _ _).alloc (Nat.le_refl _) _
      have x0 : (wr.alloc (.cells #[.slice (some ⟨pb, po, none⟩) x.path.length cp, .int .i64 x.clock, .int .u8 x.sign] 66)).cell? ⟨wr.heap.size, 0, none⟩ = some (.slice (some ⟨pb, po, none⟩) x.path.length cp) := by simp
      have x1 : (wr.alloc (.cells #[.slice (some ⟨pb, po, none⟩) x.path.length cp, .int .i64 x.clock, .int .u8 x.sign] 66)).cell? ⟨wr.heap.size, 1, none⟩ = some (.int .i64 x.clock) := by simp
      have x2 : (wr.alloc (.cells #[.slice (some ⟨pb, po, none⟩) x.path.length cp, .int .i64 x.clock, .int .u8 x.sign] 66)).cell? ⟨wr.heap.size, 2, none⟩ = some (.int .u8 x.sign) := by simp
      have hsz : wr.heap.size < (wr.alloc (.cells #[.slice (some ⟨pb, po, none⟩) x.path.length cp, .int .i64 x.clock, .int .u8 x.sign] 66)).heap.size := by simp
      have hON : some wr.heap.size ≠ Value.ownBlock u5 := own_ne hown (by omega)
      have hownN := owns_below hown hbn
      have HRN := hidE (fun i h h' => (hrr i h h').below hbn)
      have hstN := hst.below hbn (Nat.le_refl _)
      have hwn : w.heap.size ≤ wr.heap.size := hb.size
      replace r0 := (hbn.cell (p := ⟨T, 0, none⟩) hTr).trans r0
      replace r1 := (hbn.cell (p := ⟨R, k, none⟩) hRr).trans r1
      go_upto_region 5 with fail
      generalize wr.alloc (.cells #[.slice (some ⟨pb, po, none⟩) x.path.length cp, .int .i64 x.clock, .int .u8 x.sign] 66) = w2 at hb0 hbn x0 x1 x2 hsz hownN HRN hstN r0 r1 ⊢
      clear c0 c1 c2 hown hrr hst hb hbn
      cases tb
      rotate_left
      · have HT2 : Hid (pickTo (fun k => !tk k) l (k + 1) = xs) := by show _ = _; rw [HT.out, if_neg (by decide), List.append_nil]
        clear HT
        go_wp2_with (go_at_call 137; refine (take2_any T R l.length k true _ hlt hl r0 r1).mono ?_; rintro e w' ⟨rfl, hw⟩; rw [hw]; clear hw w')
        go_roundw
        case rel => exact ⟨k + 1, by omega, by go_num, by rw [HT2.out]; exact ⟨rs, hrl, hownN, HRN.out⟩, hb0⟩
        case measure => simp [intOf]; omega
      replace HT : Hid (pickTo (fun k => !tk k) l (k + 1) = xs ++ [x]) := by show _ = _; rw [HT.out, if_pos (by decide)]
      go_upto_region 6 with (go_at_call 137; refine (take2_any T R l.length k false _ hlt hl r0 r1).mono ?_; rintro e w' ⟨rfl, hw⟩; rw [hw]; clear hw w')
      have hBd : Below w2.heap.size w2 w2.drew := (Below.refl _ _).drew
      have hml : x.path.length ≤ maxLen := by unfold maxLen; omega
      go_region_held_law (fun w' => w'.cell? ⟨wr.heap.size, 0, none⟩ = some (.slice (some ⟨pb, po, none⟩) x.path.length cp) ∧ w'.cell? ⟨wr.heap.size, 1, none⟩ = some (.int .i64 x.clock) ∧ w'.cell? ⟨wr.heap.size, 2, none⟩ = some (.int .u8 x.sign))
          (first | exact ⟨x0, x1, x2⟩ | exact ⟨t0, t1, t2⟩ | exact ⟨s0', s1', s2'⟩ | exact ⟨y0, y1, y2⟩)
          (first
            | (refine step_append_own rfl (.tmp 18) (.tmp 25) 22 rfl w.heap.size 66 i0 (.agg #[.slice none 0 0, .int .i64 0, .int .u8 0]) 3 40 Tryz.underlying22 hi hz0 hz1 hz2 rfl (by decide) u5 xs.length (flatR rs) (by simp [Act.eval]) (hown3.alloc _) ⟨w3.heap.size, 0, none⟩ 1 1 ((⟨some ⟨g, 0, none⟩, x.path.length, cap2, x.clock, x.sign⟩ : Raw).cells) (by simp [Act.eval]) rfl (by intro j u hj; rw [Addr.add_lit, Nat.zero_add]; exact raw_new w3 ⟨some ⟨g, 0, none⟩, x.path.length, cap2, x.clock, x.sign⟩ j u hj) (fun u hu => flatR_one [⟨some ⟨g, 0, none⟩, x.path.length, cap2, x.clock, x.sign⟩] u (by simpa [flatR] using hu)) (by have := HL.out; unfold maxLen; omega) (by have := HL.out; omega) (by simp; omega) ?_; intro v' w4 hown4 hgrow; have y0 := ((grown_cell hgrow hz4 hON 0).trans (hb4.cell (p := ⟨wr.heap.size, 0, none⟩) hz3)).trans t0; have y1 := ((grown_cell hgrow hz4 hON 1).trans (hb4.cell (p := ⟨wr.heap.size, 1, none⟩) hz3)).trans t1; have y2 := ((grown_cell hgrow hz4 hON 2).trans (hb4.cell (p := ⟨wr.heap.size, 2, none⟩) hz3)).trans t2)
            | (go_at_call 78; refine (freshMark_ok pb po _ _ x.path _ _ rfl hml (by omega) (hstN.below hBd (Nat.le_refl _))).mono ?_; rintro e w3 ⟨g, cap2, rfl, hownS, hb3⟩; have hb3' : Below w2.heap.size w2 w3 := hBd.thru hb3 (Nat.le_refl _); have t0 := (hb3'.cell (p := ⟨wr.heap.size, 0, none⟩) hsz).trans x0; have t1 := (hb3'.cell (p := ⟨wr.heap.size, 1, none⟩) hsz).trans x1; have t2 := (hb3'.cell (p := ⟨wr.heap.size, 2, none⟩) hsz).trans x2; have hz3 : wr.heap.size < w3.heap.size := Nat.lt_of_lt_of_le hsz hb3'.size; have hown3 := owns_below hownN hb3'; have hb4 : Below w3.heap.size w3 (w3.alloc (.cells #[.slice (some ⟨g, 0, none⟩) x.path.length cap2, .int .i64 x.clock, .int .u8 x.sign] 66)) := (Below.refl _ _).alloc (Nat.le_refl _) _; have hz4 : wr.heap.size < (w3.alloc (.cells #[.slice (some ⟨g, 0, none⟩) x.path.length cap2, .int .i64 x.clock, .int .u8 x.sign] 66)).heap.size := Nat.lt_of_lt_of_le hz3 hb4.size; have s0' := (hb4.cell (p := ⟨wr.heap.size, 0, none⟩) hz3).trans t0; have s1' := (hb4.cell (p := ⟨wr.heap.size, 1, none⟩) hz3).trans t1; have s2' := (hb4.cell (p := ⟨wr.heap.size, 2, none⟩) hz3).trans t2))
      have hb3w := hb0.thru hb3' hb0.size
      have hb5 := (hb3w.alloc hb3w.size _).grown hgrow (hb3w.alloc hb3w.size _).size (fun k hk => (hown3.lt k hk).1)
      have hrow2 : PickRow w4 w.heap.size v' (xs ++ [x]) := PickRow.snoc hrl (hown3.alloc _) (fun i h h' => ((HRN.out i h h').below hb3').below hb4) ⟨g, cap2, rfl, (owns_base hownS (by show w.heap.size ≤ w2.heap.size; omega)).alloc _, hml, s0, s1⟩ hgrow hown4
      go_wp2_with fail
      go_roundw
      case rel => exact ⟨k + 1, by omega, by go_num, by rw [HT.out]; exact hrow2, hb5⟩
      case measure => simp [intOf]; omega
    · have hkl : k = l.length := by omega
      subst hkl
      obtain ⟨p, c, rfl, hat, _⟩ := hrow.owns.atoms (Below.refl _ _)
      go_wp2
      go_ret
      exact ⟨p, c, rfl, hat, hrow, hb⟩
end Go.Proofs.YtnhjebdlcbhkcacGreat
