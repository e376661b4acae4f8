/- slices.BinarySearchFunc over marks. -/
import Derived.Test.YtnhjebdlcbhkcaeGreatGapA
import Derived.Test.YtnhjebdlcbhkcaeGreatPutLe
import Derived.Deep.OwnRows
import Derived.Test.YtnhjebdlcbhkcaeGreatAtomCk
import Derived.Test.YtnhjebdlcbhkcaeGreatNextOf
import Derived.Test.YtnhjebdlcbhkcaeGreatSearch
namespace Go.Proofs.YtnhjebdlcbhkcaeGreat
open Go.RowKit

set_option maxHeartbeats 400000 in
theorem take2_any (T R n : Nat) (k : Nat) (b : Bool) (w : World) (hk : k < n) (_hn : n ≤ 1000) (h0 : w.cell? ⟨T, 0, none⟩ = some (.slice (some ⟨R, 0, none⟩) n n)) (h1 : w.cell? ⟨R, k, none⟩ = some (.bool b)) :
    Calls Tryz.prog 77 #[.int .i64 k, .pointer (some ⟨T, 0, none⟩)] w fun e w' => e = .returned (.bool (!b)) ∧ w' = w := by
  have hi : (k : Int) < n := by omega
  go_enter Tryz.func77, Tryz.ntmps77
  go_wp2
  go_ret
  exact ⟨rfl, rfl⟩

set_option maxRecDepth 100000 in
set_option maxHeartbeats 4000000 in
theorem pickNot_ok (T R : Nat) (tk : Nat → Bool) (a : Option Addr) (cap : Nat) (l : List At) (w : World) (h : AtomsAt w a l) (hl : l.length ≤ 1000) (hok : ∀ i (h : i < l.length), 0 < l[i].path.length ∧ l[i].path.length ≤ 10) (hT : T < w.heap.size) (hR : R < w.heap.size) (hT0 : w.cell? ⟨T, 0, none⟩ = some (.slice (some ⟨R, 0, none⟩) l.length l.length)) (hRk : ∀ k, k < l.length → w.cell? ⟨R, k, none⟩ = some (.bool (tk k))) :
    Calls Tryz.prog 72 #[.slice a l.length cap, .func (.func 77) #[] #[.pointer (some ⟨T, 0, none⟩)]] w fun e w' => ∃ p c, e = .returned (.slice p (pickTo (fun k => !tk k) l l.length).length c) ∧ AtomsAt w' p (pickTo (fun k => !tk k) l l.length) ∧ PickRow w' w.heap.size (.slice p (pickTo (fun k => !tk k) l l.length).length c) (pickTo (fun k => !tk k) l l.length) ∧ Below w.heap.size w w' := by
  obtain ⟨i0, hi, hz0, hz1, hz2⟩ := Tryz.info108
  have HOK := hidE hok
  clear hok
  go_enter Tryz.func72, Tryz.ntmps72
  go_wp2
  go_loopw [10, 5] (fun i v wr => ∃ k : Nat, k ≤ l.length ∧ i = .int .i64 k ∧ PickRow wr w.heap.size v (pickTo (fun k => !tk k) l k) ∧ Below w.heap.size w wr) (fun i _ _ => l.length - (intOf i).toNat)
  case atStart => exact ⟨0, Nat.zero_le _, rfl, ⟨[], rfl, World.ownsRow_nil _ _ _ _, fun i h => by simp [pickTo] at h⟩, Below.refl _ _⟩
  case round =>
    obtain ⟨k, hk, rfl, hrow, hb⟩ := hrel
    by_cases hlt : k < l.length
    · obtain ⟨ab, ao, rfl, hab, hc⟩ := (h.below hb (Nat.le_refl _)).raw (by omega)
      obtain ⟨⟨p, n, cp, ck, sk⟩, hr, c0, c1, c2⟩ := hc k hlt
      have hi1 : (k : Int) < l.length := by omega
      have HT : Hid (pickTo (fun k => !tk k) l (k + 1) = pickTo (fun k => !tk k) l k ++ if (!tk k) = true then [l[k]] else []) := by
        show (pickTo (fun k => !tk k) l k ++ if (!tk k) = true then l[k]?.toList else []) = _
        rw [List.getElem?_eq_getElem hlt]; rfl
      have r0 := (hb.cell (p := ⟨T, 0, none⟩) hT).trans hT0
      have r1 := (hb.cell (p := ⟨R, k, none⟩) hR).trans (hRk k hlt)
      have hTr : T < wr.heap.size := Nat.lt_of_lt_of_le hT hb.size
      have hRr : R < wr.heap.size := Nat.lt_of_lt_of_le hR hb.size
      generalize tk k = tb at r1 HT
      have HL := hidE (pickTo_len (fun k => !tk k) l k)
      have hokk := HOK.out k hlt
      have hn : n = l[k].path.length := hr.n
      have hck : ck = l[k].clock := hr.clock
      have hsk : sk = l[k].sign := hr.sign
      subst hn hck hsk
      have s0 := hr.s0
      have s1 := hr.s1
      have hst := hr.steps
      generalize pickTo (fun k => !tk k) l k = xs at *
      generalize l[k] = x at *
      clear hc h hr HOK
      obtain ⟨pb, po, rfl⟩ : ∃ pb po, p = some ⟨pb, po, none⟩ := by
        rcases hst with e | ⟨pb, po, rfl, _⟩
        · have e' : x.path = [] := e
          have : x.path.length = 0 := by rw [e']; rfl
          omega
        · exact ⟨pb, po, rfl⟩
      obtain ⟨rs, hrl, hown, hrr⟩ := hrow
      have hb0 := hb.alloc hb.size (.cells #[.slice (some ⟨pb, po, none⟩) x.path.length cp, .int .i64 x.clock, .int .u8 x.sign] 108)
      have hbn : Below wr.heap.size wr (wr.alloc (.cells #[.slice (some ⟨pb, po, none⟩) x.path.length cp, .int .i64 x.clock, .int .u8 x.sign] 108)) := (Below.refl _ _).alloc (Nat.le_refl _) _
      have x0 : (wr.alloc (.cells #[.slice (some ⟨pb, po, none⟩) x.path.length cp, .int .i64 x.clock, .int .u8 x.sign] 108)).cell? ⟨wr.heap.size, 0, none⟩ = some (.slice (some ⟨pb, po, none⟩) x.path.length cp) := by simp
      have x1 : (wr.alloc (.cells #[.slice (some ⟨pb, po, none⟩) x.path.length cp, .int .i64 x.clock, .int .u8 x.sign] 108)).cell? ⟨wr.heap.size, 1, none⟩ = some (.int .i64 x.clock) := by simp
      have x2 : (wr.alloc (.cells #[.slice (some ⟨pb, po, none⟩) x.path.length cp, .int .i64 x.clock, .int .u8 x.sign] 108)).cell? ⟨wr.heap.size, 2, none⟩ = some (.int .u8 x.sign) := by simp
      have hsz : wr.heap.size < (wr.alloc (.cells #[.slice (some ⟨pb, po, none⟩) x.path.length cp, .int .i64 x.clock, .int .u8 x.sign] 108)).heap.size := by simp
      have hON : some wr.heap.size ≠ Value.ownBlock u5 := own_ne hown (by omega)
      have hownN := owns_below hown hbn
      have HRN := hidE (fun i h h' => (hrr i h h').below hbn)
      have hstN := hst.below hbn (Nat.le_refl _)
      have hwn : w.heap.size ≤ wr.heap.size := hb.size
      replace r0 := (hbn.cell (p := ⟨T, 0, none⟩) hTr).trans r0
      replace r1 := (hbn.cell (p := ⟨R, k, none⟩) hRr).trans r1
      go_upto_region 5 with fail
      generalize wr.alloc (.cells #[.slice (some ⟨pb, po, none⟩) x.path.length cp, .int .i64 x.clock, .int .u8 x.sign] 108) = w2 at hb0 hbn x0 x1 x2 hsz hownN HRN hstN r0 r1 ⊢
      clear c0 c1 c2 hown hrr hst hb hbn
      cases tb
      rotate_left
      · have HT2 : Hid (pickTo (fun k => !tk k) l (k + 1) = xs) := by show _ = _; rw [HT.out, if_neg (by decide), List.append_nil]
        clear HT
        go_wp2_with (go_at_call 77; refine (take2_any T R l.length k true _ hlt hl r0 r1).mono ?_; rintro e w' ⟨rfl, hw⟩; rw [hw]; clear hw w')
        go_roundw
        case rel => exact ⟨k + 1, by omega, by go_num, by rw [HT2.out]; exact ⟨rs, hrl, hownN, HRN.out⟩, hb0⟩
        case measure => simp [intOf]; omega
      replace HT : Hid (pickTo (fun k => !tk k) l (k + 1) = xs ++ [x]) := by show _ = _; rw [HT.out, if_pos (by decide)]
      go_upto_region 6 with (go_at_call 77; refine (take2_any T R l.length k false _ hlt hl r0 r1).mono ?_; rintro e w' ⟨rfl, hw⟩; rw [hw]; clear hw w')
      have hBd : Below w2.heap.size w2 w2.drew := (Below.refl _ _).drew
      have hml : x.path.length ≤ maxLen := by unfold maxLen; omega
      go_region_held_law (fun w' => w'.cell? ⟨wr.heap.size, 0, none⟩ = some (.slice (some ⟨pb, po, none⟩) x.path.length cp) ∧ w'.cell? ⟨wr.heap.size, 1, none⟩ = some (.int .i64 x.clock) ∧ w'.cell? ⟨wr.heap.size, 2, none⟩ = some (.int .u8 x.sign))
          (first | exact ⟨x0, x1, x2⟩ | exact ⟨t0, t1, t2⟩ | exact ⟨s0', s1', s2'⟩ | exact ⟨y0, y1, y2⟩)
          (first
            | (refine step_append_own rfl (.tmp 18) (.tmp 25) 22 rfl w.heap.size 108 i0 (.agg #[.slice none 0 0, .int .i64 0, .int .u8 0]) 3 40 Tryz.underlying22 hi hz0 hz1 hz2 rfl (by decide) u5 xs.length (flatR rs) (by simp [Act.eval]) (hown3.alloc _) ⟨w3.heap.size, 0, none⟩ 1 1 ((⟨some ⟨g, 0, none⟩, x.path.length, cap2, x.clock, x.sign⟩ : Raw).cells) (by simp [Act.eval]) rfl (by intro j u hj; rw [Addr.add_lit, Nat.zero_add]; exact raw_new w3 ⟨some ⟨g, 0, none⟩, x.path.length, cap2, x.clock, x.sign⟩ j u hj) (fun u hu => flatR_one [⟨some ⟨g, 0, none⟩, x.path.length, cap2, x.clock, x.sign⟩] u (by simpa [flatR] using hu)) (by have := HL.out; unfold maxLen; omega) (by have := HL.out; omega) (by simp; omega) ?_; intro v' w4 hown4 hgrow; have y0 := ((grown_cell hgrow hz4 hON 0).trans (hb4.cell (p := ⟨wr.heap.size, 0, none⟩) hz3)).trans t0; have y1 := ((grown_cell hgrow hz4 hON 1).trans (hb4.cell (p := ⟨wr.heap.size, 1, none⟩) hz3)).trans t1; have y2 := ((grown_cell hgrow hz4 hON 2).trans (hb4.cell (p := ⟨wr.heap.size, 2, none⟩) hz3)).trans t2)
            | (go_at_call 76; refine (freshMark_ok pb po _ _ x.path _ _ rfl hml (by omega) (hstN.below hBd (Nat.le_refl _))).mono ?_; rintro e w3 ⟨g, cap2, rfl, hownS, hb3⟩; have hb3' : Below w2.heap.size w2 w3 := hBd.thru hb3 (Nat.le_refl _); have t0 := (hb3'.cell (p := ⟨wr.heap.size, 0, none⟩) hsz).trans x0; have t1 := (hb3'.cell (p := ⟨wr.heap.size, 1, none⟩) hsz).trans x1; have t2 := (hb3'.cell (p := ⟨wr.heap.size, 2, none⟩) hsz).trans x2; have hz3 : wr.heap.size < w3.heap.size := Nat.lt_of_lt_of_le hsz hb3'.size; have hown3 := owns_below hownN hb3'; have hb4 : Below w3.heap.size w3 (w3.alloc (.cells #[.slice (some ⟨g, 0, none⟩) x.path.length cap2, .int .i64 x.clock, .int .u8 x.sign] 108)) := (Below.refl _ _).alloc (Nat.le_refl _) _; have hz4 : wr.heap.size < (w3.alloc (.cells #[.slice (some ⟨g, 0, none⟩) x.path.length cap2, .int .i64 x.clock, .int .u8 x.sign] 108)).heap.size := Nat.lt_of_lt_of_le hz3 hb4.size; have s0' := (hb4.cell (p := ⟨wr.heap.size, 0, none⟩) hz3).trans t0; have s1' := (hb4.cell (p := ⟨wr.heap.size, 1, none⟩) hz3).trans t1; have s2' := (hb4.cell (p := ⟨wr.heap.size, 2, none⟩) hz3).trans t2))
      have hb3w := hb0.thru hb3' hb0.size
      have hb5 := (hb3w.alloc hb3w.size _).grown hgrow (hb3w.alloc hb3w.size _).size (fun k hk => (hown3.lt k hk).1)
      have hrow2 : PickRow w4 w.heap.size v' (xs ++ [x]) := PickRow.snoc hrl (hown3.alloc _) (fun i h h' => ((HRN.out i h h').below hb3').below hb4) ⟨g, cap2, rfl, (owns_base hownS (by show w.heap.size ≤ w2.heap.size; omega)).alloc _, hml, s0, s1⟩ hgrow hown4
      go_wp2_with fail
      go_roundw
      case rel => exact ⟨k + 1, by omega, by go_num, by rw [HT.out]; exact hrow2, hb5⟩
      case measure => simp [intOf]; omega
    · have hkl : k = l.length := by omega
      subst hkl
      obtain ⟨p, c, rfl, hat, _⟩ := hrow.owns.atoms (Below.refl _ _)
      go_wp2
      go_ret
      exact ⟨p, c, rfl, hat, hrow, hb⟩
end Go.Proofs.YtnhjebdlcbhkcaeGreat

namespace Go.Proofs.YtnhjebdlcbhkcaeGreat
open Go.RowKit

theorem Tryz.info4 : ∃ i, Tryz.prog.info? 4 = some i ∧ i.zero = some (.bool false) ∧ i.size = 1 ∧ i.bytes = 1 := by
  have h : (Tryz.prog.info? 4).map (fun i => (i.zero, i.size, i.bytes)) = some (some (.bool false), 1, 1) := by kernel_rfl
  rw [Option.map_eq_some_iff] at h
  obtain ⟨i, hi, he⟩ := h
  simp only [Prod.mk.injEq] at he
  exact ⟨i, hi, he⟩

set_option maxRecDepth 100000 in
set_option maxHeartbeats 2000000 in
theorem take_bad (a a' : Option Addr) (cap cap' : Nat) (l : List At) (ms : List (List (Int × Int) × Int)) (w : World) (hl : l.length ≤ maxLen) (h : AtomsAt w a l) (h0 : chkL l ≠ 0) :
    Calls Tryz.prog 22 #[.slice a l.length cap, .slice a' ms.length cap'] w fun e w' => e = .returned (.tuple #[.slice none 0 0, .int .i64 (chkL l)]) ∧ Below w.heap.size w w' := by
  have hx : (chkL l != 0) = true := bne_iff_ne.2 h0
  clear h0
  go_enter Tryz.func22, Tryz.ntmps22
  go_wp2_with (go_at_call 53; refine (atomCheck_any _ _ l _ hl h).mono ?_; rintro e w' ⟨rfl, hb⟩)
  refine bodyPost_ret (v := .tuple #[.slice none 0 0, .int .i64 (chkL l)]) (by simp [results, Tryz.results22, go_sem]) rfl ?_
  exact ⟨rfl, hb⟩

set_option maxRecDepth 100000 in
set_option maxHeartbeats 2000000 in
theorem take_ok (a a' : Option Addr) (cap cap' : Nat) (l : List At) (ms : List (List (Int × Int) × Int)) (w : World) (h : AtomsAt w a l) (h0 : chkL l = 0) (hm : ms.length ≤ maxLen) (h' : MarksAt w a' ms) :
    Calls Tryz.prog 22 #[.slice a l.length cap, .slice a' ms.length cap'] w fun e w' => ∃ p c, e = .returned (.tuple #[.slice p (takeL l ms).length c, .int .i64 0]) ∧ AtomsAt w' p (takeL l ms) ∧ PickRow w' w.heap.size (.slice p (takeL l ms).length c) (takeL l ms) ∧ Below w.heap.size w w' := by
  have HOK := hidE (okL_of h0)
  have h300 := chkL_len h0
  have hl : l.length ≤ maxLen := by unfold maxLen; omega
  unfold maxLen at hm
  obtain ⟨i0, hi, hz0, hz1, hz2⟩ := Tryz.info4
  have hmk : ∀ w : World, (Instr.makeSlice 122 (.int .i64 l.length) (.int .i64 l.length)).run Tryz.prog w = .ok (.slice (some ⟨w.heap.size, 0, none⟩) l.length l.length) (w.alloc (.cells (madeCells #[.bool false] l.length) 4)) := by
    intro w
    have := run_make (P := Tryz.prog) w 122 4 i0 _ Tryz.underlying122 hi hz0 .i64 .i64 l.length l.length (by omega) (Int.le_refl _) (by rw [hz2]; omega) (by omega)
    rw [hz1] at this
    simp only [Int.toNat_natCast, Nat.mul_one] at this
    exact this
  have H0 := hidE h0
  clear h0
  go_enter Tryz.func22, Tryz.ntmps22
  go_wp2_with fail
  refine (atomCheck_any _ _ l _ hl h).mono ?_
  rintro e w1 ⟨rfl, hb1⟩
  rw [H0.out]
  go_wp2_with fail
  have hR := (World.rowIs_made w1 (.bool false) l.length 4).alloc (.cells #[.slice (some ⟨w1.heap.size, 0, none⟩) l.length l.length] 122)
  have hO : w.heap.size ≤ w1.heap.size := hb1.size
  have hb3 := (hb1.alloc hb1.size (.cells (madeCells #[.bool false] l.length) 4)).alloc (by simp; omega) (.cells #[.slice (some ⟨w1.heap.size, 0, none⟩) l.length l.length] 122)
  have q0 : ((w1.alloc (.cells (madeCells #[.bool false] l.length) 4)).alloc (.cells #[.slice (some ⟨w1.heap.size, 0, none⟩) l.length l.length] 122)).cell? ⟨w1.heap.size + 1, 0, none⟩ = some (.slice (some ⟨w1.heap.size, 0, none⟩) l.length l.length) := by go_simp
  have qz : w1.heap.size + 1 < ((w1.alloc (.cells (madeCells #[.bool false] l.length) 4)).alloc (.cells #[.slice (some ⟨w1.heap.size, 0, none⟩) l.length l.length] 122)).heap.size := by simp
  generalize (w1.alloc (.cells (madeCells #[.bool false] l.length) 4)).alloc (.cells #[.slice (some ⟨w1.heap.size, 0, none⟩) l.length l.length] 122) = W at hR hb3 q0 qz ⊢
  generalize w1.heap.size = O at hR hO q0 qz ⊢
  clear hb1 hmk
  go_loopw [22] (fun i wr => ∃ k : Nat, k ≤ ms.length ∧ i = .int .i64 k ∧ (∃ f, wr.rowIs O 4 l.length f ∧ ∀ j, j < l.length → f j = .bool (goneAt l (ms.take k) j)) ∧ wr.cell? ⟨O + 1, 0, none⟩ = some (.slice (some ⟨O, 0, none⟩) l.length l.length) ∧ O + 1 < wr.heap.size ∧ Below w.heap.size w wr) (fun i _ => ms.length - (intOf i).toNat)
  case atStart => exact ⟨0, Nat.zero_le _, rfl, ⟨_, hR, fun j _ => by rw [List.take_zero, goneAt_nil]⟩, q0, qz, hb3⟩
  case round =>
    clear hR q0 qz hb3
    obtain ⟨k, hk, rfl, ⟨f, hf, hfk⟩, q0, qz, hb⟩ := hrel
    have HF := hidE hfk
    clear hfk
    by_cases hlt : k < ms.length
    · have hat := h.below hb (Nat.le_refl _)
      rcases h'.below hb (Nat.le_refl _) with hs | ⟨mb, mo, rfl, hmb, hc⟩
      · simp [hs] at hlt
      obtain ⟨p, cp, c0, c1, hst, hle⟩ := hc k hlt
      have hi1 : (k : Int) < ms.length := by omega
      have HG : Hid (∀ j (h : j < l.length), goneAt l (ms.take (k + 1)) j = (goneAt l (ms.take k) j || (ordM l[j].path l[j].clock ms[k].1 ms[k].2 == 0))) := by
        intro j hj
        rw [List.take_succ_eq_append_getElem hlt, goneAt_snoc l _ _ j hj]
      generalize ms[k].1 = pk at *
      generalize ms[k].2 = ck at *
      clear hc h h'
      have hbn : Below wr.heap.size wr (wr.alloc (.cells #[.slice p pk.length cp, .int .i64 ck] 42)) := (Below.refl _ _).alloc (Nat.le_refl _) _
      have hfn := hf.alloc (.cells #[.slice p pk.length cp, .int .i64 ck] 42)
      have HA := hidE (hat.below hbn (Nat.le_refl _))
      have HS := hidE (hst.below hbn (Nat.le_refl _))
      replace q0 := (hbn.cell (p := ⟨O + 1, 0, none⟩) qz).trans q0
      have x0 : (wr.alloc (.cells #[.slice p pk.length cp, .int .i64 ck] 42)).cell? ⟨wr.heap.size, 0, none⟩ = some (.slice p pk.length cp) := by simp
      have x1 : (wr.alloc (.cells #[.slice p pk.length cp, .int .i64 ck] 42)).cell? ⟨wr.heap.size, 1, none⟩ = some (.int .i64 ck) := by simp
      have hbw := hb.thru hbn hb.size
      replace qz := Nat.lt_of_lt_of_le qz hbn.size
      go_upto_region 8 with fail
      generalize wr.alloc (.cells #[.slice p pk.length cp, .int .i64 ck] 42) = w2 at hfn HA HS q0 qz x0 x1 hbw ⊢
      clear hbn hat hst hf hb c0 c1
      go_wp2_with fail
      refine (find_any _ _ _ _ l pk ck _ (by omega) hle HA.out HS.out (parts_of HOK.out pk ck)).mono ?_
      rintro e w3 ⟨i, hil, hcut, fb, rfl, hfb, hb3⟩
      have HCut := hidE hcut
      have HFB := hidE hfb
      clear hcut hfb
      have hf3 : w3.rowIs O 4 l.length f := hfn.of_block (hb3.block O hfn.lt)
      replace q0 := (hb3.cell (p := ⟨O + 1, 0, none⟩) qz).trans q0
      replace qz := Nat.lt_of_lt_of_le qz hb3.size
      replace hbw := hbw.thru hb3 hbw.size
      cases fb
      · have HG2 : Hid (∀ j (h : j < l.length), goneAt l (ms.take (k + 1)) j = goneAt l (ms.take k) j) := by
          intro j hj
          rw [HG.out j hj, gone_none HOK.out HCut.out (fun e => by have := HFB.out.2 e; cases this) hj, Bool.or_false]
        go_wp2_with fail
        go_roundw
        case rel => exact ⟨k + 1, by omega, by go_num, ⟨f, hf3, fun j hj => by rw [HG2.out j hj]; exact HF.out j hj⟩, q0, qz, hbw⟩
        case measure => simp [intOf]; omega
      · obtain ⟨hil', h00⟩ := HFB.out.1 rfl
        have HG2 : Hid (∀ j (h : j < l.length), goneAt l (ms.take (k + 1)) j = (goneAt l (ms.take k) j || decide (j = i))) := by
          intro j hj
          rw [HG.out j hj, gone_found HOK.out hil' HCut.out h00 hj]
        have hi2 : (i : Int) < l.length := by omega
        have fc := hf3.cell hil'
        have ff := hf3.frozen i
        have hset := hf3.set i (.bool true)
        have hq : (w3.setCell ⟨O, i, none⟩ (.bool true)).cell? ⟨O + 1, 0, none⟩ = some (.slice (some ⟨O, 0, none⟩) l.length l.length) := by
          rw [World.cell?_setCell_other _ _ _ _ (by simp)]; exact q0
        clear h00
        go_wp2_with fail
        go_roundw
        case rel => exact ⟨k + 1, by omega, by go_num, ⟨_, hset, fun j hj => by
          rw [HG2.out j hj]
          show (if j = i then _ else f j) = _
          by_cases e : j = i
          · rw [if_pos e, e]; simp
          · rw [if_neg e, HF.out j hj]; simp [e]⟩, hq, by simpa [World.setCell] using qz, hbw.setCell hO _⟩
        case measure => simp [intOf]; omega
    · have hkl : k = ms.length := by omega
      subst hkl
      rw [List.take_length] at HF
      have HT : Hid (pickTo (fun j => !goneAt l ms j) l l.length = takeL l ms) := by show _ = _; rw [pickTo_take l ms l.length (Nat.le_refl _), List.take_length]
      go_wp2_with fail
      refine (pickNot_ok (O + 1) O (goneAt l ms) _ _ l _ (h.below hb (Nat.le_refl _)) (by omega) (okPath HOK.out) qz hf.lt q0 (fun j hj => by rw [hf.cell hj, HF.out j hj])).mono ?_
      rintro e w5 ⟨p5, c5, rfl, hat5, hrow5, hb5⟩
      rw [HT.out] at hat5 hrow5 ⊢
      go_wp2_with fail
      refine bodyPost_ret (v := .tuple #[.slice p5 (takeL l ms).length c5, .int .i64 0]) (by simp [results, Tryz.results22, go_sem]) rfl ?_
      exact ⟨p5, c5, rfl, hat5, hrow5.mono hb.size, hb.thru hb5 hb.size⟩
end Go.Proofs.YtnhjebdlcbhkcaeGreat

namespace Go.Proofs.YtnhjebdlcbhkcaeGreat
open Go.RowKit

def CutM (l : List (List (Int × Int) × Int)) (m : List (Int × Int)) (d : Int) (i j : Nat) : Prop := (∀ t (h : t < l.length), t < i → ordM l[t].1 l[t].2 m d < 0) ∧ (∀ t (h : t < l.length), j ≤ t → 0 ≤ ordM l[t].1 l[t].2 m d)
def PartsM (l : List (List (Int × Int) × Int)) (m : List (Int × Int)) (d : Int) : Prop := ∀ s t (h : t < l.length) (hs : s < t), ordM l[t].1 l[t].2 m d < 0 → ordM (l[s]'(by omega)).1 (l[s]'(by omega)).2 m d < 0

set_option maxRecDepth 100000 in
set_option maxHeartbeats 2000000 in
theorem searchM_any (a a' : Option Addr) (cap cap' : Nat) (l : List (List (Int × Int) × Int)) (m : List (Int × Int)) (d : Int) (w : World) (hl : l.length ≤ 1000) (hm : m.length ≤ maxLen) (h : MarksAt w a l) (h' : StepsAt w a' m) (hp : PartsM l m d) :
    Calls Tryz.prog 245 #[.slice a l.length cap, .agg #[.slice a' m.length cap', .int .i64 d], .func (.func 61) #[] #[]] w fun e w' => ∃ i : Nat, i ≤ l.length ∧ CutM l m d i i ∧ ∃ f : Bool, e = .returned (.tuple #[.int .i64 i, .bool f]) ∧ (f = true ↔ ∃ h : i < l.length, ordM l[i].1 l[i].2 m d = 0) ∧ Below w.heap.size w w' := by
  have HP := hidE hp
  clear hp
  go_enter Tryz.func245, Tryz.ntmps245
  go_upto_region 1 with fail
  have hbA : Below w.heap.size w (w.alloc (Obj.cells #[.slice a' m.length cap', .int .i64 d] 42)) := (Below.refl _ _).alloc (Nat.le_refl _) _
  have q0 : (w.alloc (Obj.cells #[.slice a' m.length cap', .int .i64 d] 42)).cell? ⟨w.heap.size, 0, none⟩ = some (.slice a' m.length cap') := by simp
  have q1 : (w.alloc (Obj.cells #[.slice a' m.length cap', .int .i64 d] 42)).cell? ⟨w.heap.size, 1, none⟩ = some (.int .i64 d) := by simp
  have z1 : w.heap.size < (w.alloc (Obj.cells #[.slice a' m.length cap', .int .i64 d] 42)).heap.size := by simp
  generalize w.alloc (Obj.cells #[.slice a' m.length cap', .int .i64 d] 42) = w1 at hbA q0 q1 z1 ⊢
  go_wp2_with fail
  go_loopw [9, 10] (fun i j wr => ∃ x y : Nat, x ≤ y ∧ y ≤ l.length ∧ i = .int .i64 x ∧ j = .int .i64 y ∧ CutM l m d x y ∧ Below w1.heap.size w1 wr) (fun i j _ => (intOf j).toNat - (intOf i).toNat)
  case atStart => exact ⟨0, l.length, Nat.zero_le _, Nat.le_refl _, rfl, rfl, ⟨fun t _ h => by omega, fun t h h' => by omega⟩, Below.refl _ _⟩
  case round =>
    obtain ⟨x, y, hxy, hy, rfl, rfl, hcut, hb⟩ := hrel
    have HCut := hidE hcut
    clear hcut
    have hbW := hbA.thru hb hbA.size
    by_cases hlt : x < y
    · have hi1 : (x : Int) < y := by omega
      have hh : (x + y) / 2 < l.length := by omega
      go_upto_region 5 with fail
      rw [show ((x : Int) + y) / 2 = (((x + y) / 2 : Nat) : Int) by omega]
      have hz1 : x ≤ (x + y) / 2 := by omega
      have hz2 : (x + y) / 2 < y := by omega
      generalize (x + y) / 2 = z at hz1 hz2 hh ⊢
      rcases h.below hbW (Nat.le_refl _) with hs | ⟨ab, ao, rfl, hab, hc⟩
      · simp [hs] at hh
      obtain ⟨p, cp, c0, c1, hst, hle⟩ := hc z hh
      have hi2 : (z : Int) < l.length := by omega
      have HZ : Hid (∀ o, o = ordM l[z].1 l[z].2 m d → (o < 0 → CutM l m d (z + 1) y) ∧ (0 ≤ o → CutM l m d x z)) := by
        intro o ho
        subst ho
        refine ⟨fun h0 => ⟨fun t ht htz => ?_, HCut.out.2⟩, fun h0 => ⟨HCut.out.1, fun t ht htz => ?_⟩⟩
        · by_cases e : t = z
          · subst e; exact h0
          · exact HP.out t z hh (by omega) h0
        · by_cases e : t = z
          · subst e; exact h0
          · rcases Int.lt_or_le (ordM l[t].1 l[t].2 m d) 0 with hn | hn
            · have := HP.out z t ht (by omega) hn
              omega
            · exact hn
      generalize l[z].1 = pk at *
      generalize l[z].2 = ck at *
      have k0 := cell_regrown c0
      have k1 := cell_regrown c1
      have k3 := cell_regrown ((hb.cell (p := ⟨w.heap.size, 0, none⟩) z1).trans q0)
      have k4 := cell_regrown ((hb.cell (p := ⟨w.heap.size, 1, none⟩) z1).trans q1)
      have S1 := hidE (fun d os => hst.below (below_regrown wr d os) (Nat.le_refl _))
      have S2 := hidE (fun d os => (h'.below hbW (Nat.le_refl _)).below (below_regrown wr d os) (Nat.le_refl _))
      clear hc h hst h'
      refine wp_region_quiet_below (by kernel_rfl) (by kernel_rfl) ?_
      repeat (first | go_big_quiet_step ((go_at_call 61; exact Calls.regrown_of (order_any _ _ _ _ pk m _ _ _ hle hm (S1.out _ _) (S2.out _ _)))) | quiet_step ((go_at_call 61; exact Calls.regrown_of (order_any _ _ _ _ pk m _ _ _ hle hm (S1.out _ _) (S2.out _ _)))))
      refine wpQuiet_nil ?_
      intro _ hw'
      obtain ⟨⟨dq, osq⟩, hw''⟩ := hw'
      subst hw''
      obtain ⟨HZ1, HZ2⟩ := HZ.out _ rfl
      by_cases ho : ordM pk ck m d < 0
      · have HC2 := hidE (HZ1 ho)
        clear HZ1 HZ2
        go_wp2
        go_roundw
        case rel => exact ⟨z + 1, y, by omega, hy, by go_num, rfl, HC2.out, hb.thru (below_regrown _ _ _) hb.size⟩
        case measure => simp [intOf]; omega
      · have HC2 := hidE (HZ2 (by omega))
        clear HZ1 HZ2
        go_wp2
        go_roundw
        case rel => exact ⟨x, z, by omega, by omega, rfl, rfl, HC2.out, hb.thru (below_regrown _ _ _) hb.size⟩
        case measure => simp [intOf]; omega
    · have hxe : x = y := by omega
      subst hxe
      by_cases hlen : x < l.length
      · rcases h.below hbW (Nat.le_refl _) with hs | ⟨ab, ao, rfl, hab, hc⟩
        · simp [hs] at hlen
        obtain ⟨p, cp, c0, c1, hst, hle⟩ := hc x hlen
        have HO : Hid (∃ o, o = ordM l[x].1 l[x].2 m d) := ⟨_, rfl⟩
        have HE : Hid ((∃ h : x < l.length, ordM l[x].1 l[x].2 m d = 0) ↔ ordM l[x].1 l[x].2 m d = 0) := by
          constructor
          · rintro ⟨_, h⟩; exact h
          · intro h; exact ⟨hlen, h⟩
        have hi1 : decide ((x : Int) < l.length) = true := by simpa using hlen
        have hi2 : (x : Int) < l.length := by omega
        generalize hpk : l[x].1 = pk at *
        generalize hck : l[x].2 = ck at *
        have HPK := hidE hpk
        have HCK := hidE hck
        have k0 := cell_regrown c0
        have k1 := cell_regrown c1
        have k3 := cell_regrown ((hb.cell (p := ⟨w.heap.size, 0, none⟩) z1).trans q0)
        have k4 := cell_regrown ((hb.cell (p := ⟨w.heap.size, 1, none⟩) z1).trans q1)
        have S1 := hidE (fun d os => hst.below (below_regrown wr d os) (Nat.le_refl _))
        have S2 := hidE (fun d os => (h'.below hbW (Nat.le_refl _)).below (below_regrown wr d os) (Nat.le_refl _))
        clear hc h hst h' hpk hck
        go_wp2_with fail
        refine wp_region_quiet_below (by kernel_rfl) (by kernel_rfl) ?_
        repeat (first | go_big_quiet_step ((go_at_call 61; exact Calls.regrown_of (order_any _ _ _ _ pk m _ _ _ hle hm (S1.out _ _) (S2.out _ _)))) | quiet_step ((go_at_call 61; exact Calls.regrown_of (order_any _ _ _ _ pk m _ _ _ hle hm (S1.out _ _) (S2.out _ _)))))
        refine wpQuiet_nil ?_
        intro _ hw'
        obtain ⟨⟨dq, osq⟩, hw''⟩ := hw'
        subst hw''
        go_wp2
        refine bodyPost_ret (v := .tuple #[.int .i64 x, .bool (ordM pk ck m d == 0)]) (by simp [results, Tryz.results245, go_sem]) rfl ?_
        refine ⟨x, by omega, HCut.out, _, rfl, ?_, hbW.thru (below_regrown _ _ _) hbW.size⟩
        rw [beq_iff_eq]
        constructor
        · intro e; exact ⟨hlen, by rw [HPK.out, HCK.out]; exact e⟩
        · rintro ⟨_, e⟩; rw [HPK.out, HCK.out] at e; exact e
      · have hi1 : decide ((x : Int) < l.length) = false := by simpa using hlen
        have HN : Hid ((false = true) ↔ ∃ h : x < l.length, ordM l[x].1 l[x].2 m d = 0) := by
          constructor
          · intro h; cases h
          · rintro ⟨h, _⟩; exact absurd h hlen
        go_wp2_with fail
        refine wp_region_quiet_below (by kernel_rfl) (by kernel_rfl) ?_
        repeat (first | go_big_quiet_step (fail) | quiet_step (fail))
        refine wpQuiet_nil ?_
        intro _ hw'
        obtain ⟨⟨dq, osq⟩, hw''⟩ := hw'
        subst hw''
        go_wp2
        refine bodyPost_ret (v := .tuple #[.int .i64 x, .bool false]) (by simp [results, Tryz.results245, go_sem]) rfl ?_
        exact ⟨x, by omega, HCut.out, _, rfl, HN.out, hbW.thru (below_regrown _ _ _) hbW.size⟩
end Go.Proofs.YtnhjebdlcbhkcaeGreat

namespace Go.Proofs.YtnhjebdlcbhkcaeGreat
open Go.RowKit

def Up (g : List (List (Int × Int) × Int)) : Prop := g.Pairwise (fun x y => ordM x.1 x.2 y.1 y.2 < 0)
theorem Up.get {g : List (List (Int × Int) × Int)} (h : Up g) {i j : Nat} (hj : j < g.length) (hij : i < j) : ordM (g[i]'(by omega)).1 (g[i]'(by omega)).2 g[j].1 g[j].2 < 0 := List.pairwise_iff_getElem.1 h i j (by omega) hj hij

def lowM (g : List (List (Int × Int) × Int)) (m : List (Int × Int)) (d : Int) : Nat := g.countP fun x => decide (ordM x.1 x.2 m d < 0)

theorem lowM_cut {g : List (List (Int × Int) × Int)} {m : List (Int × Int)} {d : Int} {i : Nat} (hi : i ≤ g.length) (h : CutM g m d i i) : lowM g m d = i := by
  have e1 : (g.take i).countP (fun x => decide (ordM x.1 x.2 m d < 0)) = (g.take i).length := by
    rw [List.countP_eq_length]
    intro x hx
    obtain ⟨j, hj, rfl⟩ := List.getElem_of_mem hx
    have hj' : j < i ∧ j < g.length := by simp at hj; omega
    simpa using h.1 j hj'.2 hj'.1
  have e2 : (g.drop i).countP (fun x => decide (ordM x.1 x.2 m d < 0)) = 0 := by
    rw [List.countP_eq_zero]
    intro x hx
    obtain ⟨j, hj, rfl⟩ := List.getElem_of_mem hx
    have hj' : i + j < g.length := by simp at hj; omega
    have := h.2 (i + j) hj' (by omega)
    simp; omega
  unfold lowM
  rw [← List.take_append_drop i g, List.countP_append, e1, e2]
  simp; omega

theorem partsM_of {g : List (List (Int × Int) × Int)} (h : Up g) (m : List (Int × Int)) (d : Int) : PartsM g m d := by
  intro s t ht hs hn
  have h1 := h.get ht hs
  exact cmpM.le_lt (a := g[s]'(by omega)) (b := g[t]) (c := (m, d)) (Int.le_of_lt h1) hn

theorem found_gone {g : List (List (Int × Int) × Int)} (hu : Up g) {m : List (Int × Int)} {d : Int} {i : Nat} {f : Bool} (hc : CutM g m d i i) (hf : f = true ↔ ∃ h : i < g.length, ordM g[i].1 g[i].2 m d = 0) : f = hasGone g m d := by
  cases f with
  | true =>
    obtain ⟨h, h0⟩ := hf.1 rfl
    symm
    unfold hasGone
    rw [List.any_eq_true]
    exact ⟨g[i], List.getElem_mem h, by simpa using h0⟩
  | false =>
    have hn : ¬ ∃ h : i < g.length, ordM g[i].1 g[i].2 m d = 0 := fun h => by simpa using hf.2 h
    symm
    unfold hasGone
    rw [List.any_eq_false]
    intro x hx
    obtain ⟨j, hj, rfl⟩ := List.getElem_of_mem hx
    rw [beq_iff_eq]
    intro h0
    rcases Nat.lt_or_ge j i with hlt | hge
    · have := hc.1 j hj hlt; omega
    · by_cases e : i = j
      · subst e; exact hn ⟨hj, h0⟩
      · have h1 := hu.get hj (show i < j by omega)
        have h2 : ordM (g[i]'(by omega)).1 (g[i]'(by omega)).2 g[j].1 g[j].2 = ordM (g[i]'(by omega)).1 (g[i]'(by omega)).2 m d := cmpM.eqv' (g[i]'(by omega)) g[j] (m, d) h0
        have h5 := hc.2 i (by omega) (Nat.le_refl _)
        rw [h2] at h1
        omega
end Go.Proofs.YtnhjebdlcbhkcaeGreat

namespace Go.Proofs.YtnhjebdlcbhkcaeGreat
open Go.RowKit

structure DoerAt (w : World) (base D : Nat) (vA vG : Value) (l : List At) (g : List Mk) : Prop where
  ty : ∃ cur, w.heap[D]? = some (.cells cur 112 (0, 0))
  c0 : w.cell? ⟨D, 0, none⟩ = some vA
  c1 : w.cell? ⟨D, 1, none⟩ = some vG
  free : ∀ o, w.frozen? ⟨D, o, none⟩ = false
  lt : D < w.heap.size
  le : base ≤ D
  atoms : PickRow w base vA l
  gone : MkRow w base vG g

theorem DoerAt.below {w w' : World} {base D : Nat} {vA vG : Value} {l : List At} {g : List Mk} (h : DoerAt w base D vA vG l g) (hb : Below w.heap.size w w') : DoerAt w' base D vA vG l g := by
  obtain ⟨⟨cur, h1⟩, h2, h3, h4, h5, h6, h7, h8⟩ := h
  exact ⟨⟨cur, (hb.block D h5).trans h1⟩, (hb.cell (p := ⟨D, 0, none⟩) h5).trans h2, (hb.cell (p := ⟨D, 1, none⟩) h5).trans h3, fun o => (hb.frozen (p := ⟨D, o, none⟩) h5).trans (h4 o), Nat.lt_of_lt_of_le h5 hb.size, h6, h7.below hb, h8.below hb⟩

theorem owns_setD {w : World} {base D o : Nat} {e : TypeId} {size : Nat} {v u : Value} {n : Nat} {xs : List Value} (he : e ≠ 112) (hD : ∃ cur, w.heap[D]? = some (.cells cur 112 (0, 0))) (h : w.ownsRow base e size v n xs) : (w.setCell ⟨D, o, none⟩ u).ownsRow base e size v n xs := by
  obtain ⟨cur, hD⟩ := hD
  refine ownsRow_setCell_other h ?_ u
  rcases h.2 with ⟨rfl, _⟩ | ⟨g1, c1, cur1, rfl, _, h2, _⟩
  · simp [Value.ownBlock]
  · intro e1
    simp [Value.ownBlock] at e1
    subst e1
    rw [hD] at h2
    simp at h2
    exact he h2.2.symm

theorem PickRow.setD {w : World} {base D o : Nat} {v u : Value} {xs : List At} (hD : ∃ cur, w.heap[D]? = some (.cells cur 112 (0, 0))) (h : PickRow w base v xs) : PickRow (w.setCell ⟨D, o, none⟩ u) base v xs := by
  obtain ⟨rs, h1, h2, h3⟩ := h
  refine ⟨rs, h1, owns_setD (by decide) hD h2, fun i h h' => ?_⟩
  obtain ⟨g, cap, e, hown, h4⟩ := h3 i h h'
  exact ⟨g, cap, e, owns_setD (by decide) hD hown, h4⟩
theorem MkRow.setD {w : World} {base D o : Nat} {v u : Value} {xs : List Mk} (hD : ∃ cur, w.heap[D]? = some (.cells cur 112 (0, 0))) (h : MkRow w base v xs) : MkRow (w.setCell ⟨D, o, none⟩ u) base v xs := by
  obtain ⟨rs, h1, h2, h3⟩ := h
  refine ⟨rs, h1, owns_setD (by decide) hD h2, fun i h h' => ?_⟩
  obtain ⟨g, cap, e, hown, h4⟩ := h3 i h h'
  exact ⟨g, cap, e, owns_setD (by decide) hD hown, h4⟩

theorem searchM_det (a a' : Option Addr) (cap cap' : Nat) (g : List Mk) (m : List (Int × Int)) (d : Int) (w : World) (hl : g.length ≤ 1000) (hm : m.length ≤ maxLen) (h : MarksAt w a g) (h' : StepsAt w a' m) (hu : Up g) :
    Calls Tryz.prog 245 #[.slice a g.length cap, .agg #[.slice a' m.length cap', .int .i64 d], .func (.func 61) #[] #[]] w fun e w' => e = .returned (.tuple #[.int .i64 (lowM g m d), .bool (hasGone g m d)]) ∧ Below w.heap.size w w' := by
  refine (searchM_any a a' cap cap' g m d w hl hm h h' (partsM_of hu m d)).mono ?_
  rintro e w1 ⟨i, hi, hc, f, rfl, hf, hb⟩
  exact ⟨by rw [lowM_cut hi hc, found_gone hu hc hf], hb⟩

set_option maxRecDepth 100000 in
set_option maxHeartbeats 4000000 in
theorem doerFind_any (D : Nat) (b a' : Option Addr) (cap cap' : Nat) (g : List Mk) (m : List (Int × Int)) (d : Int) (w : World) (hl : g.length ≤ 1000) (hm : m.length ≤ maxLen) (c1 : w.cell? ⟨D, 1, none⟩ = some (.slice b g.length cap)) (hD : D < w.heap.size) (h : MarksAt w b g) (h' : StepsAt w a' m) (hu : Up g) :
    Calls Tryz.prog 210 #[.pointer (some ⟨D, 0, none⟩), .agg #[.slice a' m.length cap', .int .i64 d]] w fun e w' => e = .returned (.tuple #[.int .i64 (lowM g m d), .bool (hasGone g m d)]) ∧ Below w.heap.size w w' := by
  have hb1 : Below w.heap.size w (w.alloc (Obj.cells #[.slice a' m.length cap', .int .i64 d] 42)) := (Below.refl _ _).alloc (Nat.le_refl _) _
  have c1' := (hb1.cell (p := ⟨D, 1, none⟩) hD).trans c1
  have m0 : (w.alloc (Obj.cells #[.slice a' m.length cap', .int .i64 d] 42)).cell? ⟨w.heap.size, 0, none⟩ = some (.slice a' m.length cap') := by simp
  have m1 : (w.alloc (Obj.cells #[.slice a' m.length cap', .int .i64 d] 42)).cell? ⟨w.heap.size, 1, none⟩ = some (.int .i64 d) := by simp
  have HU := hidE hu
  clear hu
  go_enter Tryz.func210, Tryz.ntmps210
  go_upto_region 1 with fail
  replace h := h.below hb1 (Nat.le_refl _)
  replace h' := h'.below hb1 (Nat.le_refl _)
  generalize w.alloc (Obj.cells #[.slice a' m.length cap', .int .i64 d] 42) = w1 at hb1 c1' m0 m1 h h' ⊢
  have k0 := cell_regrown c1'
  have k1 := cell_regrown m0
  have k2 := cell_regrown m1
  have S1 := hidE (fun d os => h.below (below_regrown w1 d os) (Nat.le_refl _))
  have S2 := hidE (fun d os => h'.below (below_regrown w1 d os) (Nat.le_refl _))
  refine wp_region_quiet_below (by kernel_rfl) (by kernel_rfl) ?_
  repeat (first | go_big_quiet_step ((go_at_call 245; exact Calls.regrown_of (searchM_det _ _ _ _ g m _ _ hl hm (S1.out _ _) (S2.out _ _) HU.out))) | quiet_step ((go_at_call 245; exact Calls.regrown_of (searchM_det _ _ _ _ g m _ _ hl hm (S1.out _ _) (S2.out _ _) HU.out))))
  refine wpQuiet_nil ?_
  intro _ hw'
  obtain ⟨⟨dq, osq⟩, hw''⟩ := hw'
  subst hw''
  go_wp2
  go_ret2
  exact ⟨rfl, hb1.thru (below_regrown _ _ _) hb1.size⟩
end Go.Proofs.YtnhjebdlcbhkcaeGreat
