/- Contract of doer.put. -/
import Derived.Test.YtnhjebdlcbhkcacGreatPutLe
import Derived.Test.YtnhjebdlcbhkcacGreatPickN
import Derived.Deep.OwnRows
import Derived.Test.YtnhjebdlcbhkcacGreatHasC
import Derived.Deep.DeepCutAuto
import Derived.Test.YtnhjebdlcbhkcacGreatDelF
import Derived.Test.YtnhjebdlcbhkcacGreatPutStep
import Derived.Test.YtnhjebdlcbhkcacGreatCutPu
namespace Go.Proofs.YtnhjebdlcbhkcacGreat
open Go.RowKit

theorem Tryz.info4 : ∃ i, Tryz.prog.info? 4 = some i ∧ i.zero = some (.bool false) ∧ i.size = 1 ∧ i.bytes = 1 := by
  have h : (Tryz.prog.info? 4).map (fun i => (i.zero, i.size, i.bytes)) = some (some (.bool false), 1, 1) := by kernel_rfl
  rw [Option.map_eq_some_iff] at h
  obtain ⟨i, hi, he⟩ := h
  simp only [Prod.mk.injEq] at he
  exact ⟨i, hi, he⟩

set_option maxRecDepth 100000 in
set_option maxHeartbeats 2000000 in
theorem take_bad (a a' : Option Addr) (cap cap' : Nat) (l : List At) (ms : List (List (Int × Int) × Int)) (w : World) (hl : l.length ≤ maxLen) (h : AtomsAt w a l) (h0 : chkL l ≠ 0) :
    Calls Tryz.prog 118 #[.slice a l.length cap, .slice a' ms.length cap'] w fun e w' => e = .returned (.tuple #[.slice none 0 0, .int .i64 (chkL l)]) ∧ Below w.heap.size w w' := by
  have hx : (chkL l != 0) = true := bne_iff_ne.2 h0
  clear h0
  go_enter Tryz.func118, Tryz.ntmps118
  go_wp2_with (go_at_call 44; refine (atomCheck_any _ _ l _ hl h).mono ?_; rintro e w' ⟨rfl, hb⟩)
  refine bodyPost_ret (v := .tuple #[.slice none 0 0, .int .i64 (chkL l)]) (by simp [results, Tryz.results118, go_sem]) rfl ?_
  exact ⟨rfl, hb⟩

set_option maxRecDepth 100000 in
set_option maxHeartbeats 2000000 in
theorem take_ok (a a' : Option Addr) (cap cap' : Nat) (l : List At) (ms : List (List (Int × Int) × Int)) (w : World) (h : AtomsAt w a l) (h0 : chkL l = 0) (hm : ms.length ≤ maxLen) (h' : MarksAt w a' ms) :
    Calls Tryz.prog 118 #[.slice a l.length cap, .slice a' ms.length cap'] w fun e w' => ∃ p c, e = .returned (.tuple #[.slice p (takeL l ms).length c, .int .i64 0]) ∧ AtomsAt w' p (takeL l ms) ∧ PickRow w' w.heap.size (.slice p (takeL l ms).length c) (takeL l ms) ∧ Below w.heap.size w w' := by
  have HOK := hidE (okL_of h0)
  have h300 := chkL_len h0
  have hl : l.length ≤ maxLen := by unfold maxLen; omega
  unfold maxLen at hm
  obtain ⟨i0, hi, hz0, hz1, hz2⟩ := Tryz.info4
  have hmk : ∀ w : World, (Instr.makeSlice 165 (.int .i64 l.length) (.int .i64 l.length)).run Tryz.prog w = .ok (.slice (some ⟨w.heap.size, 0, none⟩) l.length l.length) (w.alloc (.cells (madeCells #[.bool false] l.length) 4)) := by
    intro w
    have := run_make (P := Tryz.prog) w 165 4 i0 _ Tryz.underlying165 hi hz0 .i64 .i64 l.length l.length (by omega) (Int.le_refl _) (by rw [hz2]; omega) (by omega)
    rw [hz1] at this
    simp only [Int.toNat_natCast, Nat.mul_one] at this
    exact this
  have H0 := hidE h0
  clear h0
  go_enter Tryz.func118, Tryz.ntmps118
  go_wp2_with fail
  refine (atomCheck_any _ _ l _ hl h).mono ?_
  rintro e w1 ⟨rfl, hb1⟩
  rw [H0.out]
  go_wp2_with fail
  have hR := (World.rowIs_made w1 (.bool false) l.length 4).alloc (.cells #[.slice (some ⟨w1.heap.size, 0, none⟩) l.length l.length] 165)
  have hO : w.heap.size ≤ w1.heap.size := hb1.size
  have hb3 := (hb1.alloc hb1.size (.cells (madeCells #[.bool false] l.length) 4)).alloc (by simp; omega) (.cells #[.slice (some ⟨w1.heap.size, 0, none⟩) l.length l.length] 165)
  have q0 : ((w1.alloc (.cells (madeCells #[.bool false] l.length) 4)).alloc (.cells #[.slice (some ⟨w1.heap.size, 0, none⟩) l.length l.length] 165)).cell? ⟨w1.heap.size + 1, 0, none⟩ = some (.slice (some ⟨w1.heap.size, 0, none⟩) l.length l.length) := by go_simp
  have qz : w1.heap.size + 1 < ((w1.alloc (.cells (madeCells #[.bool false] l.length) 4)).alloc (.cells #[.slice (some ⟨w1.heap.size, 0, none⟩) l.length l.length] 165)).heap.size := by simp
  generalize (w1.alloc (.cells (madeCells #[.bool false] l.length) 4)).alloc (.cells #[.slice (some ⟨w1.heap.size, 0, none⟩) l.length l.length] 165) = W at hR hb3 q0 qz ⊢
  generalize w1.heap.size = O at hR hO q0 qz ⊢
  clear hb1 hmk
  go_loopw [22] (fun i wr => ∃ k : Nat, k ≤ ms.length ∧ i = .int .i64 k ∧ (∃ f, wr.rowIs O 4 l.length f ∧ ∀ j, j < l.length → f j = .bool (goneAt l (ms.take k) j)) ∧ wr.cell? ⟨O + 1, 0, none⟩ = some (.slice (some ⟨O, 0, none⟩) l.length l.length) ∧ O + 1 < wr.heap.size ∧ Below w.heap.size w wr) (fun i _ => ms.length - (intOf i).toNat)
  case atStart => exact ⟨0, Nat.zero_le _, rfl, ⟨_, hR, fun j _ => by rw [List.take_zero, goneAt_nil]⟩, q0, qz, hb3⟩
  case round =>
    clear hR q0 qz hb3
    obtain ⟨k, hk, rfl, ⟨f, hf, hfk⟩, q0, qz, hb⟩ := hrel
    have HF := hidE hfk
    clear hfk
    by_cases hlt : k < ms.length
    · have hat := h.below hb (Nat.le_refl _)
      rcases h'.below hb (Nat.le_refl _) with hs | ⟨mb, mo, rfl, hmb, hc⟩
      · simp [hs] at hlt
      obtain ⟨p, cp, c0, c1, hst, hle⟩ := hc k hlt
      have hi1 : (k : Int) < ms.length := by omega
      have HG : Hid (∀ j (h : j < l.length), goneAt l (ms.take (k + 1)) j = (goneAt l (ms.take k) j || (ordM l[j].path l[j].clock ms[k].1 ms[k].2 == 0))) := by
        intro j hj
        rw [List.take_succ_eq_append_getElem hlt, goneAt_snoc l _ _ j hj]
      generalize ms[k].1 = pk at *
      generalize ms[k].2 = ck at *
      clear hc h h'
      have hbn : Below wr.heap.size wr (wr.alloc (.cells #[.slice p pk.length cp, .int .i64 ck] 46)) := (Below.refl _ _).alloc (Nat.le_refl _) _
      have hfn := hf.alloc (.cells #[.slice p pk.length cp, .int .i64 ck] 46)
      have HA := hidE (hat.below hbn (Nat.le_refl _))
      have HS := hidE (hst.below hbn (Nat.le_refl _))
      replace q0 := (hbn.cell (p := ⟨O + 1, 0, none⟩) qz).trans q0
      have x0 : (wr.alloc (.cells #[.slice p pk.length cp, .int .i64 ck] 46)).cell? ⟨wr.heap.size, 0, none⟩ = some (.slice p pk.length cp) := by simp
      have x1 : (wr.alloc (.cells #[.slice p pk.length cp, .int .i64 ck] 46)).cell? ⟨wr.heap.size, 1, none⟩ = some (.int .i64 ck) := by simp
      have hbw := hb.thru hbn hb.size
      replace qz := Nat.lt_of_lt_of_le qz hbn.size
      go_upto_region 8 with fail
      generalize wr.alloc (.cells #[.slice p pk.length cp, .int .i64 ck] 46) = w2 at hfn HA HS q0 qz x0 x1 hbw ⊢
      clear hbn hat hst hf hb c0 c1
      go_wp2_with fail
      refine (find_any _ _ _ _ l pk ck _ (by omega) hle HA.out HS.out (parts_of HOK.out pk ck)).mono ?_
      rintro e w3 ⟨i, hil, hcut, fb, rfl, hfb, hb3⟩
      have HCut := hidE hcut
      have HFB := hidE hfb
      clear hcut hfb
      have hf3 : w3.rowIs O 4 l.length f := hfn.of_block (hb3.block O hfn.lt)
      replace q0 := (hb3.cell (p := ⟨O + 1, 0, none⟩) qz).trans q0
      replace qz := Nat.lt_of_lt_of_le qz hb3.size
      replace hbw := hbw.thru hb3 hbw.size
      cases fb
      · have HG2 : Hid (∀ j (h : j < l.length), goneAt l (ms.take (k + 1)) j = goneAt l (ms.take k) j) := by
          intro j hj
          rw [HG.out j hj, gone_none HOK.out HCut.out (fun e => by have := HFB.out.2 e; cases this) hj, Bool.or_false]
        go_wp2_with fail
        go_roundw
        case rel => exact ⟨k + 1, by omega, by go_num, ⟨f, hf3, fun j hj => by rw [HG2.out j hj]; exact HF.out j hj⟩, q0, qz, hbw⟩
        case measure => simp [intOf]; omega
      · obtain ⟨hil', h00⟩ := HFB.out.1 rfl
        have HG2 : Hid (∀ j (h : j < l.length), goneAt l (ms.take (k + 1)) j = (goneAt l (ms.take k) j || decide (j = i))) := by
          intro j hj
          rw [HG.out j hj, gone_found HOK.out hil' HCut.out h00 hj]
        have hi2 : (i : Int) < l.length := by omega
        have fc := hf3.cell hil'
        have ff := hf3.frozen i
        have hset := hf3.set i (.bool true)
        have hq : (w3.setCell ⟨O, i, none⟩ (.bool true)).cell? ⟨O + 1, 0, none⟩ = some (.slice (some ⟨O, 0, none⟩) l.length l.length) := by
          rw [World.cell?_setCell_other _ _ _ _ (by simp)]; exact q0
        clear h00
        go_wp2_with fail
        go_roundw
        case rel => exact ⟨k + 1, by omega, by go_num, ⟨_, hset, fun j hj => by
          rw [HG2.out j hj]
          show (if j = i then _ else f j) = _
          by_cases e : j = i
          · rw [if_pos e, e]; simp
          · rw [if_neg e, HF.out j hj]; simp [e]⟩, hq, by simpa [World.setCell] using qz, hbw.setCell hO _⟩
        case measure => simp [intOf]; omega
    · have hkl : k = ms.length := by omega
      subst hkl
      rw [List.take_length] at HF
      have HT : Hid (pickTo (fun j => !goneAt l ms j) l l.length = takeL l ms) := by show _ = _; rw [pickTo_take l ms l.length (Nat.le_refl _), List.take_length]
      go_wp2_with fail
      refine (pickNot_ok (O + 1) O (goneAt l ms) _ _ l _ (h.below hb (Nat.le_refl _)) (by omega) (okPath HOK.out) qz hf.lt q0 (fun j hj => by rw [hf.cell hj, HF.out j hj])).mono ?_
      rintro e w5 ⟨p5, c5, rfl, hat5, hrow5, hb5⟩
      rw [HT.out] at hat5 hrow5 ⊢
      go_wp2_with fail
      refine bodyPost_ret (v := .tuple #[.slice p5 (takeL l ms).length c5, .int .i64 0]) (by simp [results, Tryz.results118, go_sem]) rfl ?_
      exact ⟨p5, c5, rfl, hat5, hrow5.mono hb.size, hb.thru hb5 hb.size⟩
end Go.Proofs.YtnhjebdlcbhkcacGreat

namespace Go.Proofs.YtnhjebdlcbhkcacGreat
open Go.RowKit

theorem hiL_chk : chkL hiL = 0 := by decide
theorem hi1_chk : chkL (hiL.drop 1) = 0 := by decide
theorem hi0_chk : chkL (hiL.take 1) = 0 := by decide
theorem hi_put : putL (hiL.drop 1) (hiL.take 1) = hiL := by rfl
theorem hi_take : takeL hiL [([(3, 0)], 1)] = hiL.drop 1 := by rfl
theorem hi_txt : txtS hiL = ⟨#[104, 105]⟩ := by rfl

/-- Put of two lists that Check lets through, if not too many come out -/
theorem put_is (a a' : Option Addr) (cap cap' : Nat) (l m : List At) (w : World) (h : AtomsAt w a l) (h' : AtomsAt w a' m) (h0 : chkL l = 0) (h0' : chkL m = 0) (hn : (putL l m).length ≤ 300) :
    Calls Tryz.prog 77 #[.slice a l.length cap, .slice a' m.length cap'] w fun e w' => ∃ p c, e = .returned (.tuple #[.slice p (putL l m).length c, .int .i64 0]) ∧ AtomsAt w' p (putL l m) ∧ Below w.heap.size w w' := by
  refine (put_ok a a' cap cap' l m w h h' h0 h0').mono ?_
  rintro e w' ⟨hc, hb⟩
  rcases hc with ⟨h1, _⟩ | ⟨_, p, c, he, hat, _⟩
  · omega
  · exact ⟨p, c, he, hat, hb⟩
theorem put_many (a a' : Option Addr) (cap cap' : Nat) (l m : List At) (w : World) (h : AtomsAt w a l) (h' : AtomsAt w a' m) (h0 : chkL l = 0) (h0' : chkL m = 0) (hn : 300 < (putL l m).length) :
    Calls Tryz.prog 77 #[.slice a l.length cap, .slice a' m.length cap'] w fun e w' => e = .returned (.tuple #[.slice none 0 0, .int .i64 2]) ∧ Below w.heap.size w w' := by
  refine (put_ok a a' cap cap' l m w h h' h0 h0').mono ?_
  rintro e w' ⟨hc, hb⟩
  rcases hc with ⟨_, he⟩ | ⟨h1, _⟩
  · exact ⟨he, hb⟩
  · omega
theorem take_is (a a' : Option Addr) (cap cap' : Nat) (l : List At) (ms : List (List (Int × Int) × Int)) (w : World) (h : AtomsAt w a l) (h0 : chkL l = 0) (hm : ms.length ≤ maxLen) (h' : MarksAt w a' ms) :
    Calls Tryz.prog 118 #[.slice a l.length cap, .slice a' ms.length cap'] w fun e w' => ∃ p c, e = .returned (.tuple #[.slice p (takeL l ms).length c, .int .i64 0]) ∧ AtomsAt w' p (takeL l ms) ∧ Below w.heap.size w w' := by
  refine (take_ok a a' cap cap' l ms w h h0 hm h').mono ?_
  rintro e w' ⟨p, c, he, hat, _, hb⟩
  exact ⟨p, c, he, hat, hb⟩
end Go.Proofs.YtnhjebdlcbhkcacGreat

namespace Go.Proofs.YtnhjebdlcbhkcacGreat
open Go.RowKit

theorem keepG_ok {g : List Mk} {l : List At} (h : OkL l) : OkL (keepG g l) := by
  refine ⟨?_, fun x hx => h.each x (List.mem_filter.1 hx).1, h.rise.filter _⟩
  have := List.length_filter_le (fun x => !goneA g x) l
  unfold keepG
  have := h.len
  omega

theorem put_isP (a a' : Option Addr) (cap cap' : Nat) (l m : List At) (w : World) (h : AtomsAt w a l) (h' : AtomsAt w a' m) (h0 : chkL l = 0) (h0' : chkL m = 0) (hn : (putL l m).length ≤ 300) :
    Calls Tryz.prog 77 #[.slice a l.length cap, .slice a' m.length cap'] w fun e w' => ∃ p c, e = .returned (.tuple #[.slice p (putL l m).length c, .int .i64 0]) ∧ PickRow w' w.heap.size (.slice p (putL l m).length c) (putL l m) ∧ Below w.heap.size w w' := by
  refine (put_ok a a' cap cap' l m w h h' h0 h0').mono ?_
  rintro e w' ⟨hc, hb⟩
  rcases hc with ⟨h1, _⟩ | ⟨_, p, c, he, _, hp⟩
  · omega
  · exact ⟨p, c, he, hp, hb⟩

/-- the atoms are put anew -/
theorem DoerAt.set0 {w : World} {base D : Nat} {vA vG u : Value} {l m : List At} {g : List Mk} (h : DoerAt w base D vA vG l g) (hm : PickRow w base u m) : DoerAt (w.setCell ⟨D, 0, none⟩ u) base D u vG m g := by
  obtain ⟨⟨cur, h1⟩, h2, h3, h4, h5, h6, h7, h8⟩ := h
  refine ⟨?_, World.cell?_setCell_same _ _ _ h2, ?_, fun o => by rw [World.frozen?_setCell]; exact h4 o, by simpa [World.setCell] using h5, h6, hm.setD ⟨cur, h1⟩, h8.setD ⟨cur, h1⟩⟩
  · refine ⟨cur.setIfInBounds 0 u, ?_⟩
    simp [World.setCell, Array.getElem?_modify, h1]
  · rw [World.cell?_setCell_other _ _ _ _ (by simp)]; exact h3

set_option maxRecDepth 100000 in
set_option maxHeartbeats 8000000 in
theorem doerPut_ok (base D : Nat) (vA vG : Value) (l : List At) (g : List Mk) (p : Option Addr) (cap : Nat) (rp : List (Int × Int)) (rc : Int) (rt : ByteArray) (w : World) (hd : DoerAt w base D vA vG l g) (hl : chkL l = 0) (hu : Up g) (hg : g.length ≤ 1000) (hs : StepsAt w p rp) (hr : chkRun rp rc rt = 0) :
    Calls Tryz.prog 79 #[.pointer (some ⟨D, 0, none⟩), .agg #[.slice p rp.length cap, .int .i64 rc, .string rt]] w fun e w' => Below base w w' ∧ ((300 < (putL l (keepG g (atomsR rp rc rt))).length ∧ e = .returned (.int .i64 2)) ∨ ((putL l (keepG g (atomsR rp rc rt))).length ≤ 300 ∧ e = .returned (.int .i64 0) ∧ ∃ vA', DoerAt w' base D vA' vG (putL l (keepG g (atomsR rp rc rt))) g)) := by
  have HRU := hidE (okRun_of hr)
  have HAO := hidE (atomsR_ok (okRun_of hr))
  have HU := hidE hu
  have HR := hidE hr
  clear hu hr
  have hB := ((Below.refl w.heap.size w).alloc (Nat.le_refl _) (Obj.cells #[.pointer (some ⟨D, 0, none⟩)] 80)).alloc (by simp) (Obj.cells #[.slice p rp.length cap, .int .i64 rc, .string rt] 48)
  have b0 : ((w.alloc (Obj.cells #[.pointer (some ⟨D, 0, none⟩)] 80)).alloc (Obj.cells #[.slice p rp.length cap, .int .i64 rc, .string rt] 48)).cell? ⟨w.heap.size, 0, none⟩ = some (.pointer (some ⟨D, 0, none⟩)) := by simp
  have z : w.heap.size < ((w.alloc (Obj.cells #[.pointer (some ⟨D, 0, none⟩)] 80)).alloc (Obj.cells #[.slice p rp.length cap, .int .i64 rc, .string rt] 48)).heap.size := by simp; omega
  have hDZ : D < w.heap.size := hd.lt
  have hBb := hB.mono (show base ≤ w.heap.size from Nat.le_trans hd.le (Nat.le_of_lt hd.lt))
  have hbs : base ≤ ((w.alloc (Obj.cells #[.pointer (some ⟨D, 0, none⟩)] 80)).alloc (Obj.cells #[.slice p rp.length cap, .int .i64 rc, .string rt] 48)).heap.size := Nat.le_trans (Nat.le_trans hd.le (Nat.le_of_lt hd.lt)) hB.size
  replace hd := hd.below hB
  replace hs := hs.below hB (Nat.le_refl _)
  go_enter Tryz.func79, Tryz.ntmps79
  go_wp2_with fail
  generalize (w.alloc (Obj.cells #[.pointer (some ⟨D, 0, none⟩)] 80)).alloc (Obj.cells #[.slice p rp.length cap, .int .i64 rc, .string rt] 48) = W at hB hBb hbs b0 z hd hs ⊢
  generalize w.heap.size = Z at b0 z hDZ ⊢
  clear hB
  refine (runAtoms_ok _ _ rp rc rt _ hs HR.out).mono ?_
  rintro e w1 ⟨pA, kA, rfl, hatA, ⟨rs, hrl, hown, hrr⟩, hb⟩
  have hal : (atomsR rp rc rt).length = rt.size := atomsR_len rp rc rt
  have ht0 := HRU.out.len0
  have ht60 := HRU.out.len
  obtain ⟨blk, kk, hvv⟩ := owns_form hown (by omega)
  obtain ⟨rfl, rfl⟩ : pA = some ⟨blk, 0, none⟩ ∧ kA = kk := by simpa using hvv
  clear hvv hatA
  have hcm : (atomsR rp rc rt).length ≤ kA ∧ kA ≤ maxLen := by
    rcases hown.2 with ⟨h, _⟩ | ⟨g1, c1, cur, h, _, _, h1, h2, _⟩
    · simp at h
    · simp at h; rw [h.2]; exact ⟨h1, h2⟩
  have hblk : W.heap.size ≤ blk ∧ blk < w1.heap.size := hown.lt blk rfl
  have hrow : RowAt w1 blk rs := by
    refine ⟨hblk.2, fun j u hj => ⟨?_, hown.frozenAt j⟩⟩
    have := hown.cells (g := blk) rfl j u hj
    rw [Addr.add_lit, Nat.zero_add] at this
    exact this
  have hty : ∀ gp cur, w1.heap[gp]? = some (.cells cur 99 (0, 0)) → gp ≠ blk := by
    intro gp cur hgp e
    subst e
    rcases hown.2 with ⟨h, _⟩ | ⟨g1, c1, cur1, h, _, h2, _⟩
    · simp at h
    · simp at h
      rw [← h.1, hgp] at h2
      simp at h2
  obtain ⟨vg, cg, rfl, hM, _, _⟩ := hd.gone.marks
  have hGo : GoneAt W Z D g := ⟨z, b0, hd.lt, vg, cg, hd.c1, hM⟩
  have HDEL := hidE (deleteG_ok W w1 blk kA Z D rs (atomsR rp rc rt) g hb hblk.1 hrl (by omega) hcm.1 hcm.2 hrr hrow hty hGo hg HU.out)
  clear hrow hty hown hrr hal hcm ht0 ht60 hrl
  go_wp2_with fail
  refine HDEL.out.mono ?_
  rintro e w2 ⟨c2, rfl, hat2, _, _, hb2⟩
  clear HDEL hGo hM
  have HCO := hidE (okL_chk (keepG_ok (g := g) HAO.out))
  have hBb2 := hBb.thru hb2 hbs
  have hd2 := hd.below hb2
  have b02 := (hb2.cell (p := ⟨Z, 0, none⟩) z).trans b0
  have z2 := Nat.lt_of_lt_of_le z hb2.size
  have hbs2 := Nat.le_trans hbs hb2.size
  generalize hcm' : keepG g (atomsR rp rc rt) = cm at hat2 HCO ⊢
  have HCM := hidE hcm'
  clear hcm'
  clear hb2 hd b0 z hbs hBb hb hs hblk
  obtain ⟨va, ca, hva, hat, _⟩ := hd2.atoms.owns.atoms (Below.refl _ _)
  subst hva
  have d0 := hd2.c0
  have df := hd2.free
  have hdl := hd2.lt
  have hBd : Below w2.heap.size w2 w2.drew := (Below.refl _ _).drew
  have HD := hidE hd2
  clear hd2
  by_cases hn : 300 < (putL l cm).length
  · have HP := hidE (fun (W : World) (hb : Below w2.heap.size w2 W) => put_many va (some ⟨blk, 0, none⟩) ca c2 l cm W (hat.below hb (Nat.le_refl _)) (hat2.below hb (Nat.le_refl _)) hl HCO.out hn)
    go_upto_region 4 with fail
    go_region_with ((go_at_call 77; refine (HP.out _ (by first | exact Below.refl _ _ | exact hBd)).mono ?_; rintro e w3 ⟨rfl, hb3⟩; have hb3' : Below w2.heap.size w2 w3 := hBd.thru hb3 (Nat.le_refl _); have t0 := (hb3'.cell (p := ⟨Z, 0, none⟩) z2).trans b02; have t1 := (hb3'.cell (p := ⟨D, 0, none⟩) hdl).trans d0; have t2 := fun o => (hb3'.frozen (p := ⟨D, o, none⟩) hdl).trans (df o)))
    all_goals
      go_wp2_with fail
      go_ret
      rw [HCM.out]
      exact ⟨(hBb2.thru hb3' hbs2).setCell HD.out.le _, Or.inl ⟨hn, rfl⟩⟩
  · have HP := hidE (fun (W : World) (hb : Below w2.heap.size w2 W) => put_isP va (some ⟨blk, 0, none⟩) ca c2 l cm W (hat.below hb (Nat.le_refl _)) (hat2.below hb (Nat.le_refl _)) hl HCO.out (by omega))
    go_upto_region 4 with fail
    go_region_with ((go_at_call 77; refine (HP.out _ (by first | exact Below.refl _ _ | exact hBd)).mono ?_; rintro e w3 ⟨p3, c3, rfl, hpk, hb3⟩; have hb3' : Below w2.heap.size w2 w3 := hBd.thru hb3 (Nat.le_refl _); have t0 := (hb3'.cell (p := ⟨Z, 0, none⟩) z2).trans b02; have t1 := (hb3'.cell (p := ⟨D, 0, none⟩) hdl).trans d0; have t2 := fun o => (hb3'.frozen (p := ⟨D, o, none⟩) hdl).trans (df o)))
    all_goals
      go_wp2_with fail
      go_ret
      rw [HCM.out]
      exact ⟨(hBb2.thru hb3' hbs2).setCell HD.out.le _, Or.inr ⟨by omega, rfl, _, (HD.out.below hb3').set0 (hpk.mono hbs2)⟩⟩
end Go.Proofs.YtnhjebdlcbhkcacGreat
