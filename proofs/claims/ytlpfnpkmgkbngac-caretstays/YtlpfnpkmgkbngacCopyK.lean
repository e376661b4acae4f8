/- copy of rows whose elements are several cells. -/
import Derived.Test.YtlpfnpkmgkbngacFresh
import Derived.Test.YtlpfnpkmgkbngacText
import Derived.Deep.OwnRows
import Derived.Test.YtlpfnpkmgkbngacNextC
namespace Go.Proofs.Ytlpfnpkmgkbngac
open Go.RowKit

theorem Try.info4 : ∃ i, Try.prog.info? 4 = some i ∧ i.zero = some (.bool false) ∧ i.size = 1 ∧ i.bytes = 1 := by
  have h : (Try.prog.info? 4).map (fun i => (i.zero, i.size, i.bytes)) = some (some (.bool false), 1, 1) := by kernel_rfl
  rw [Option.map_eq_some_iff] at h
  obtain ⟨i, hi, he⟩ := h
  simp only [Prod.mk.injEq] at he
  exact ⟨i, hi, he⟩

set_option maxRecDepth 100000 in
set_option maxHeartbeats 2000000 in
theorem take_bad (a a' : Option Addr) (cap cap' : Nat) (l : List At) (ms : List (List (Int × Int) × Int)) (w : World) (hl : l.length ≤ maxLen) (h : AtomsAt w a l) (h0 : chkL l ≠ 0) :
    Calls Try.prog 130 #[.slice a l.length cap, .slice a' ms.length cap'] w fun e w' => e = .returned (.tuple #[.slice none 0 0, .int .i64 (chkL l)]) ∧ Below w.heap.size w w' := by
  have hx : (chkL l != 0) = true := bne_iff_ne.2 h0
  clear h0
  go_enter Try.func130, Try.ntmps130
  go_wp2_with (go_at_call 89; refine (atomCheck_any _ _ l _ hl h).mono ?_; rintro e w' ⟨rfl, hb⟩)
  refine bodyPost_ret (v := .tuple #[.slice none 0 0, .int .i64 (chkL l)]) (by simp [results, Try.results130, go_sem]) rfl ?_
  exact ⟨rfl, hb⟩

set_option maxRecDepth 100000 in
set_option maxHeartbeats 2000000 in
theorem take_ok (a a' : Option Addr) (cap cap' : Nat) (l : List At) (ms : List (List (Int × Int) × Int)) (w : World) (h : AtomsAt w a l) (h0 : chkL l = 0) (hm : ms.length ≤ maxLen) (h' : MarksAt w a' ms) :
    Calls Try.prog 130 #[.slice a l.length cap, .slice a' ms.length cap'] w fun e w' => ∃ p c, e = .returned (.tuple #[.slice p (takeL l ms).length c, .int .i64 0]) ∧ AtomsAt w' p (takeL l ms) ∧ PickRow w' w.heap.size (.slice p (takeL l ms).length c) (takeL l ms) ∧ Below w.heap.size w w' := by
  have HOK := hidE (okL_of h0)
  have h300 := chkL_len h0
  have hl : l.length ≤ maxLen := by unfold maxLen; omega
  unfold maxLen at hm
  obtain ⟨i0, hi, hz0, hz1, hz2⟩ := Try.info4
  have hmk : ∀ w : World, (Instr.makeSlice 172 (.int .i64 l.length) (.int .i64 l.length)).run Try.prog w = .ok (.slice (some ⟨w.heap.size, 0, none⟩) l.length l.length) (w.alloc (.cells (madeCells #[.bool false] l.length) 4)) := by
    intro w
    have := run_make (P := Try.prog) w 172 4 i0 _ Try.underlying172 hi hz0 .i64 .i64 l.length l.length (by omega) (Int.le_refl _) (by rw [hz2]; omega) (by omega)
    rw [hz1] at this
    simp only [Int.toNat_natCast, Nat.mul_one] at this
    exact this
  have H0 := hidE h0
  clear h0
  go_enter Try.func130, Try.ntmps130
  go_wp2_with fail
  refine (atomCheck_any _ _ l _ hl h).mono ?_
  rintro e w1 ⟨rfl, hb1⟩
  rw [H0.out]
  go_wp2_with fail
  have hR := (World.rowIs_made w1 (.bool false) l.length 4).alloc (.cells #[.slice (some ⟨w1.heap.size, 0, none⟩) l.length l.length] 172)
  have hO : w.heap.size ≤ w1.heap.size := hb1.size
  have hb3 := (hb1.alloc hb1.size (.cells (madeCells #[.bool false] l.length) 4)).alloc (by simp; omega) (.cells #[.slice (some ⟨w1.heap.size, 0, none⟩) l.length l.length] 172)
  have q0 : ((w1.alloc (.cells (madeCells #[.bool false] l.length) 4)).alloc (.cells #[.slice (some ⟨w1.heap.size, 0, none⟩) l.length l.length] 172)).cell? ⟨w1.heap.size + 1, 0, none⟩ = some (.slice (some ⟨w1.heap.size, 0, none⟩) l.length l.length) := by go_simp
  have qz : w1.heap.size + 1 < ((w1.alloc (.cells (madeCells #[.bool false] l.length) 4)).alloc (.cells #[.slice (some ⟨w1.heap.size, 0, none⟩) l.length l.length] 172)).heap.size := by simp
  generalize (w1.alloc (.cells (madeCells #[.bool false] l.length) 4)).alloc (.cells #[.slice (some ⟨w1.heap.size, 0, none⟩) l.length l.length] 172) = W at hR hb3 q0 qz ⊢
  generalize w1.heap.size = O at hR hO q0 qz ⊢
  clear hb1 hmk
  go_loopw [22] (fun i wr => ∃ k : Nat, k ≤ ms.length ∧ i = .int .i64 k ∧ (∃ f, wr.rowIs O 4 l.length f ∧ ∀ j, j < l.length → f j = .bool (goneAt l (ms.take k) j)) ∧ wr.cell? ⟨O + 1, 0, none⟩ = some (.slice (some ⟨O, 0, none⟩) l.length l.length) ∧ O + 1 < wr.heap.size ∧ Below w.heap.size w wr) (fun i _ => ms.length - (intOf i).toNat)
  case atStart => exact ⟨0, Nat.zero_le _, rfl, ⟨_, hR, fun j _ => by rw [List.take_zero, goneAt_nil]⟩, q0, qz, hb3⟩
  case round =>
    clear hR q0 qz hb3
    obtain ⟨k, hk, rfl, ⟨f, hf, hfk⟩, q0, qz, hb⟩ := hrel
    have HF := hidE hfk
    clear hfk
    by_cases hlt : k < ms.length
    · have hat := h.below hb (Nat.le_refl _)
      rcases h'.below hb (Nat.le_refl _) with hs | ⟨mb, mo, rfl, hmb, hc⟩
      · simp [hs] at hlt
      obtain ⟨p, cp, c0, c1, hst, hle⟩ := hc k hlt
      have hi1 : (k : Int) < ms.length := by omega
      have HG : Hid (∀ j (h : j < l.length), goneAt l (ms.take (k + 1)) j = (goneAt l (ms.take k) j || (ordM l[j].path l[j].clock ms[k].1 ms[k].2 == 0))) := by
        intro j hj
        rw [List.take_succ_eq_append_getElem hlt, goneAt_snoc l _ _ j hj]
      generalize ms[k].1 = pk at *
      generalize ms[k].2 = ck at *
      clear hc h h'
      have hbn : Below wr.heap.size wr (wr.alloc (.cells #[.slice p pk.length cp, .int .i64 ck] 41)) := (Below.refl _ _).alloc (Nat.le_refl _) _
      have hfn := hf.alloc (.cells #[.slice p pk.length cp, .int .i64 ck] 41)
      have HA := hidE (hat.below hbn (Nat.le_refl _))
      have HS := hidE (hst.below hbn (Nat.le_refl _))
      replace q0 := (hbn.cell (p := ⟨O + 1, 0, none⟩) qz).trans q0
      have x0 : (wr.alloc (.cells #[.slice p pk.length cp, .int .i64 ck] 41)).cell? ⟨wr.heap.size, 0, none⟩ = some (.slice p pk.length cp) := by simp
      have x1 : (wr.alloc (.cells #[.slice p pk.length cp, .int .i64 ck] 41)).cell? ⟨wr.heap.size, 1, none⟩ = some (.int .i64 ck) := by simp
      have hbw := hb.thru hbn hb.size
      replace qz := Nat.lt_of_lt_of_le qz hbn.size
      go_upto_region 8 with fail
      generalize wr.alloc (.cells #[.slice p pk.length cp, .int .i64 ck] 41) = w2 at hfn HA HS q0 qz x0 x1 hbw ⊢
      clear hbn hat hst hf hb c0 c1
      go_wp2_with fail
      refine (find_any _ _ _ _ l pk ck _ (by omega) hle HA.out HS.out (parts_of HOK.out pk ck)).mono ?_
      rintro e w3 ⟨i, hil, hcut, fb, rfl, hfb, hb3⟩
      have HCut := hidE hcut
      have HFB := hidE hfb
      clear hcut hfb
      have hf3 : w3.rowIs O 4 l.length f := hfn.of_block (hb3.block O hfn.lt)
      replace q0 := (hb3.cell (p := ⟨O + 1, 0, none⟩) qz).trans q0
      replace qz := Nat.lt_of_lt_of_le qz hb3.size
      replace hbw := hbw.thru hb3 hbw.size
      cases fb
      · have HG2 : Hid (∀ j (h : j < l.length), goneAt l (ms.take (k + 1)) j = goneAt l (ms.take k) j) := by
          intro j hj
          rw [HG.out j hj, gone_none HOK.out HCut.out (fun e => by have := HFB.out.2 e; cases this) hj, Bool.or_false]
        go_wp2_with fail
        go_roundw
        case rel => exact ⟨k + 1, by omega, by go_num, ⟨f, hf3, fun j hj => by rw [HG2.out j hj]; exact HF.out j hj⟩, q0, qz, hbw⟩
        case measure => simp [intOf]; omega
      · obtain ⟨hil', h00⟩ := HFB.out.1 rfl
        have HG2 : Hid (∀ j (h : j < l.length), goneAt l (ms.take (k + 1)) j = (goneAt l (ms.take k) j || decide (j = i))) := by
          intro j hj
          rw [HG.out j hj, gone_found HOK.out hil' HCut.out h00 hj]
        have hi2 : (i : Int) < l.length := by omega
        have fc := hf3.cell hil'
        have ff := hf3.frozen i
        have hset := hf3.set i (.bool true)
        have hq : (w3.setCell ⟨O, i, none⟩ (.bool true)).cell? ⟨O + 1, 0, none⟩ = some (.slice (some ⟨O, 0, none⟩) l.length l.length) := by
          rw [World.cell?_setCell_other _ _ _ _ (by simp)]; exact q0
        clear h00
        go_wp2_with fail
        go_roundw
        case rel => exact ⟨k + 1, by omega, by go_num, ⟨_, hset, fun j hj => by
          rw [HG2.out j hj]
          show (if j = i then _ else f j) = _
          by_cases e : j = i
          · rw [if_pos e, e]; simp
          · rw [if_neg e, HF.out j hj]; simp [e]⟩, hq, by simpa [World.setCell] using qz, hbw.setCell hO _⟩
        case measure => simp [intOf]; omega
    · have hkl : k = ms.length := by omega
      subst hkl
      rw [List.take_length] at HF
      have HT : Hid (pickTo (fun j => !goneAt l ms j) l l.length = takeL l ms) := by show _ = _; rw [pickTo_take l ms l.length (Nat.le_refl _), List.take_length]
      go_wp2_with fail
      refine (pickNot_ok (O + 1) O (goneAt l ms) _ _ l _ (h.below hb (Nat.le_refl _)) (by omega) (okPath HOK.out) qz hf.lt q0 (fun j hj => by rw [hf.cell hj, HF.out j hj])).mono ?_
      rintro e w5 ⟨p5, c5, rfl, hat5, hrow5, hb5⟩
      rw [HT.out] at hat5 hrow5 ⊢
      go_wp2_with fail
      refine bodyPost_ret (v := .tuple #[.slice p5 (takeL l ms).length c5, .int .i64 0]) (by simp [results, Try.results130, go_sem]) rfl ?_
      exact ⟨p5, c5, rfl, hat5, hrow5.mono hb.size, hb.thru hb5 hb.size⟩
end Go.Proofs.Ytlpfnpkmgkbngac

namespace Go.Proofs.Ytlpfnpkmgkbngac
open Go.RowKit

theorem run_copy_rowK {P : Program} (w : World) (dT sT ty elem : TypeId) (g o dLen dCap : Nat) (a : Addr) (sLen sCap size n : Nat) (cur : Array Value) (t : TypeId) (cs : List Value)
    (hu : P.underlying dT = some (.slice elem)) (hs : (P.info? elem).map (·.size) = some size)
    (hg : w.heap[g]? = some (.cells cur t (0, 0))) (hn : n = Nat.min sLen dLen) (hcn : cs.length = n * size)
    (hsrc : ∀ j v, cs[j]? = some v → w.cell? (a.add j) = some v) (hfit : o + cs.length ≤ cur.size) (h1 : ∀ v ∈ cs, v.oneCell' = true) :
    (Builtin.copy_ #[dT, sT] ty #[.slice (some ⟨g, o, none⟩) dLen dCap, .slice (some a) sLen sCap]).run P w =
      .ok (goInt n) (w.setRow g (cur.toList.take o ++ cs ++ cur.toList.drop (o + cs.length)).toArray) := by
  have hl := run_loadCells_list (P := P) w a cs hsrc
  have hst := run_storeCells_at P g o t cs 0 cur w hg (by simpa using hfit) h1
  cases hq : P.info? elem with
  | none => simp [hq] at hs
  | some i =>
    have hi : i.size = size := by simpa [hq] using hs
    rw [hcn] at hl
    simp [Builtin.copy_, run_underlying hu, Builtin.lenOf, Builtin.firstCells, sizeOf, typeInfo, hq, hi, ← hn, hl, hst]

theorem run_copy_zeroK {P : Program} (w : World) (dT sT ty elem : TypeId) (d a : Option Addr) (dLen dCap sLen sCap : Nat)
    (hu : P.underlying dT = some (.slice elem)) (hs : ((P.info? elem).map (·.size)).isSome = true) (hn : Nat.min sLen dLen = 0) :
    (Builtin.copy_ #[dT, sT] ty #[.slice d dLen dCap, .slice a sLen sCap]).run P w = .ok (goInt 0) w := by
  cases hq : P.info? elem with
  | none => simp [hq] at hs
  | some i =>
    cases a with
    | none => cases d <;> simp [Builtin.copy_, run_underlying hu, Builtin.lenOf, Builtin.firstCells, sizeOf, typeInfo, hq, hn, storeCells]
    | some a =>
      have hl := run_loadCells_list (P := P) w a [] (by simp)
      cases d <;> simp [Builtin.copy_, run_underlying hu, Builtin.lenOf, Builtin.firstCells, sizeOf, typeInfo, hq, hn] <;> simp_all [storeCells]

theorem heap_new (w : World) (o : Obj) : (w.alloc o).heap[w.heap.size]? = some o := by
  show (w.heap.push o)[w.heap.size]? = _; simp

theorem setRow_alloc (w : World) (c c' : Array Value) (t : TypeId) : (w.alloc (.cells c t)).setRow w.heap.size c' = w.alloc (.cells c' t) := by
  unfold World.setRow World.alloc
  simp only
  congr 1
  apply Array.ext_getElem?
  intro i
  simp only [Array.getElem?_modify, Array.getElem?_push]
  by_cases h : i = w.heap.size
  · simp [h]
  · have h' : w.heap.size ≠ i := fun e => h e.symm
    simp [h, h']

end Go.Proofs.Ytlpfnpkmgkbngac
