/- Contract of the reference's AtomsOf. -/
import Derived.Test.YtnhjebdlcbhkcaeGreatPutStep
import Derived.Test.YtnhjebdlcbhkcaeGreatGapA
import Derived.Test.YtnhjebdlcbhkcaeGreatDPut
import Derived.Laws.Concat
import Derived.Test.YtnhjebdlcbhkcaeGreatSearch
import Derived.Test.YtnhjebdlcbhkcaeGreatAtomCk
import Derived.Deep.OwnRows
import Derived.Laws.BytesArg
namespace Go.Proofs.YtnhjebdlcbhkcaeGreat
open Go.RowKit

def atomsTo (l : List (Int × Int)) (c : Int) (t : ByteArray) (k : Nat) : List At := (List.range k).map (runAt l c t)

theorem atomsTo_succ (l : List (Int × Int)) (c : Int) (t : ByteArray) (k : Nat) (h : k < t.size) : atomsTo l c t (k + 1) = atomsTo l c t k ++ [⟨bump l k, c + k, t[k].toNat⟩] := by
  unfold atomsTo
  rw [List.range_succ, List.map_append]
  congr 1
  show [runAt l c t k] = _
  unfold runAt
  rw [List.getD_eq_getElem?_getD, List.getElem?_eq_getElem (by simpa using h)]; rfl

set_option maxRecDepth 100000 in
set_option maxHeartbeats 4000000 in
theorem atomsOf_pick (b off cap : Nat) (l : List (Int × Int)) (c : Int) (t : ByteArray) (w : World) (ok : OkRun l c t) (h : StepsAt w (some ⟨b, off, none⟩) l) :
    Calls Tryz.prog 118 #[.agg #[.slice (some ⟨b, off, none⟩) l.length cap, .int .i64 c, .string t]] w fun e w' => ∃ p k, e = .returned (.slice p (atomsR l c t).length k) ∧ AtomsAt w' p (atomsR l c t) ∧ PickRow w' w.heap.size (.slice p (atomsR l c t).length k) (atomsR l c t) ∧ Below w.heap.size w w' := by
  obtain ⟨i0, hi, hz0, hz1, hz2⟩ := Tryz.info108
  have ht60 := ok.len
  have hl10 := (chk_ok ok.mark).2.1
  have HOK := hidE ok
  clear ok
  have hbA := (Below.refl w.heap.size w).alloc (Nat.le_refl _) (Obj.cells #[.slice (some ⟨b, off, none⟩) l.length cap, .int .i64 c, .string t] 59)
  have q0 : (w.alloc (Obj.cells #[.slice (some ⟨b, off, none⟩) l.length cap, .int .i64 c, .string t] 59)).cell? ⟨w.heap.size, 0, none⟩ = some (.slice (some ⟨b, off, none⟩) l.length cap) := by simp
  have q1 : (w.alloc (Obj.cells #[.slice (some ⟨b, off, none⟩) l.length cap, .int .i64 c, .string t] 59)).cell? ⟨w.heap.size, 1, none⟩ = some (.int .i64 c) := by simp
  have q2 : (w.alloc (Obj.cells #[.slice (some ⟨b, off, none⟩) l.length cap, .int .i64 c, .string t] 59)).cell? ⟨w.heap.size, 2, none⟩ = some (.string t) := by simp
  have z1 : w.heap.size < (w.alloc (Obj.cells #[.slice (some ⟨b, off, none⟩) l.length cap, .int .i64 c, .string t] 59)).heap.size := by simp
  go_enter Tryz.func118, Tryz.ntmps118
  go_upto_region 1 with fail
  generalize w.alloc (Obj.cells #[.slice (some ⟨b, off, none⟩) l.length cap, .int .i64 c, .string t] 59) = W at hbA q0 q1 q2 z1 ⊢
  have hsW := h.below hbA (Nat.le_refl _)
  generalize w.heap.size = Z at q0 q1 q2 z1
  go_wp2_with fail
  go_loopw [3, 4] (fun v i wr => ∃ k : Nat, k ≤ t.size ∧ i = .int .i64 k ∧ PickRow wr W.heap.size v (atomsTo l c t k) ∧ Below W.heap.size W wr) (fun _ i _ => t.size - (intOf i).toNat)
  case atStart => exact ⟨0, Nat.zero_le _, rfl, ⟨[], rfl, World.ownsRow_nil _ _ _ _, fun i h => by simp [atomsTo] at h⟩, Below.refl _ _⟩
  case round =>
    obtain ⟨k, hk, rfl, hrow, hb⟩ := hrel
    have r0 := (hb.cell (p := ⟨Z, 0, none⟩) z1).trans q0
    have r1 := (hb.cell (p := ⟨Z, 1, none⟩) z1).trans q1
    have r2 := (hb.cell (p := ⟨Z, 2, none⟩) z1).trans q2
    have hzr : Z < wr.heap.size := Nat.lt_of_lt_of_le z1 hb.size
    by_cases hlt : k < t.size
    · have hi1 : (k : Int) < t.size := by omega
      have HT := hidE (atomsTo_succ l c t k hlt)
      have HL : Hid ((atomsTo l c t k).length = k) := by show _ = _; simp [atomsTo]
      have hr := u8_range t[k]
      generalize atomsTo l c t k = xs at *
      obtain ⟨rs, hrl, hown, hrr⟩ := hrow
      have HRR := hidE hrr
      have hBd : Below wr.heap.size wr wr.drew := (Below.refl _ _).drew
      have hsr := hsW.below hb (Nat.le_refl _)
      have hkc := HOK.out.each k hlt
      have HKC := hidE hkc
      have hON : some Z ≠ Value.ownBlock u3 := own_ne hown (Or.inl z1)
      clear hkc hrr
      go_upto_region 5 with fail
      go_region_held_law (fun w' => w'.cell? ⟨Z, 0, none⟩ = some (.slice (some ⟨b, off, none⟩) l.length cap) ∧ w'.cell? ⟨Z, 1, none⟩ = some (.int .i64 c) ∧ w'.cell? ⟨Z, 2, none⟩ = some (.string t))
          (first | exact ⟨r0, r1, r2⟩ | exact ⟨t0, t1, t2⟩ | exact ⟨s0', s1', s2'⟩ | exact ⟨y0, y1, y2⟩)
          (first
            | (refine step_append_own rfl (.tmp 12) (.tmp 22) 22 rfl W.heap.size 108 i0 (.agg #[.slice none 0 0, .int .i64 0, .int .u8 0]) 3 40 Tryz.underlying22 hi hz0 hz1 hz2 rfl (by decide) u3 xs.length (flatR rs) (by simp [Act.eval]) (hown3.alloc _) ⟨w3.heap.size, 0, none⟩ 1 1 ((⟨some ⟨g, 0, none⟩, l.length, cap2, c + k, t[k].toNat⟩ : Raw).cells) (by simp [Act.eval]) rfl (by intro j u hj; rw [Addr.add_lit, Nat.zero_add]; exact raw_new w3 ⟨some ⟨g, 0, none⟩, l.length, cap2, c + k, t[k].toNat⟩ j u hj) (fun u hu => flatR_one [⟨some ⟨g, 0, none⟩, l.length, cap2, c + k, t[k].toNat⟩] u (by simpa [flatR] using hu)) (by have := HL.out; unfold maxLen; omega) (by have := HL.out; omega) (by have := hb.size; have := hb3'.size; simp; omega) ?_; intro v' w4 hown4 hgrow; have y0 := (grown_cell hgrow hz4 hON 0).trans s0'; have y1 := (grown_cell hgrow hz4 hON 1).trans s1'; have y2 := (grown_cell hgrow hz4 hON 2).trans s2')
            | (go_at_call 197; refine (afterOf_any b off _ l c k _ (hsr.below hBd (Nat.le_refl _)) HOK.out.mark (by omega) (by omega)).mono ?_; rintro e w3 ⟨g, cap2, rfl, _, hb3, hownS⟩; have hb3' : Below wr.heap.size wr w3 := hBd.thru hb3 (Nat.le_refl _); have t0 := (hb3'.cell (p := ⟨Z, 0, none⟩) hzr).trans r0; have t1 := (hb3'.cell (p := ⟨Z, 1, none⟩) hzr).trans r1; have t2 := (hb3'.cell (p := ⟨Z, 2, none⟩) hzr).trans r2; have hz3 : Z < w3.heap.size := Nat.lt_of_lt_of_le hzr hb3'.size; have hown3 := owns_below hown hb3'; have hb4 : Below w3.heap.size w3 (w3.alloc (.cells #[.slice (some ⟨g, 0, none⟩) l.length cap2, .int .i64 (c + k), .int .u8 t[k].toNat] 108)) := (Below.refl _ _).alloc (Nat.le_refl _) _; have hz4 : Z < (w3.alloc (.cells #[.slice (some ⟨g, 0, none⟩) l.length cap2, .int .i64 (c + k), .int .u8 t[k].toNat] 108)).heap.size := Nat.lt_of_lt_of_le hz3 hb4.size; have s0' := (hb4.cell (p := ⟨Z, 0, none⟩) hz3).trans t0; have s1' := (hb4.cell (p := ⟨Z, 1, none⟩) hz3).trans t1; have s2' := (hb4.cell (p := ⟨Z, 2, none⟩) hz3).trans t2))
      all_goals
        have hb3w := hb.thru hb3' hb.size
        have hb5 := (hb3w.alloc hb3w.size _).grown hgrow (hb3w.alloc hb3w.size _).size (fun k hk => (hown3.lt k hk).1)
        have hraw : PickRaw (w3.alloc (.cells #[.slice (some ⟨g, 0, none⟩) l.length cap2, .int .i64 (c + k), .int .u8 t[k].toNat] 108)) W.heap.size ⟨some ⟨g, 0, none⟩, l.length, cap2, c + k, t[k].toNat⟩ ⟨bump l k, c + k, t[k].toNat⟩ := by
          refine ⟨g, cap2, by rw [bump_len], ?_, by rw [bump_len]; unfold maxLen; omega, hr.1, hr.2⟩
          show World.ownsRow _ _ _ _ (.slice _ (bump l k).length _) (bump l k).length (flatS (bump l k))
          rw [bump_len]
          exact (owns_base hownS (by show W.heap.size ≤ wr.heap.size; exact hb.size)).alloc _
        have hrow2 : PickRow w4 W.heap.size v' (xs ++ [⟨bump l k, c + k, t[k].toNat⟩]) := PickRow.snoc hrl (hown3.alloc _) (fun i h h' => ((HRR.out i h h').below hb3').below hb4) hraw hgrow hown4
        go_wp2_with fail
        go_roundw
        case rel => exact ⟨k + 1, by omega, by go_num, by rw [HT.out]; exact hrow2, hb5⟩
        case measure => simp [intOf]; omega
    · have hkl : k = t.size := by omega
      subst hkl
      have hrow' : PickRow wr W.heap.size u3 (atomsR l c t) := hrow
      obtain ⟨p, kk, rfl, hat, _⟩ := hrow'.owns.atoms (Below.refl _ _)
      have HPK := hidE (hrow'.mono hbA.size)
      go_wp2_with fail
      go_ret
      exact ⟨p, kk, rfl, hat, HPK.out, hbA.thru hb hbA.size⟩

end Go.Proofs.YtnhjebdlcbhkcaeGreat

namespace Go.Proofs.YtnhjebdlcbhkcaeGreat

def runsTo (l : List At) (k : Nat) : List Rn := (pst l k).1.map (runOf l) ++ if (pst l k).2 < k then [runOf l ((pst l k).2, k)] else []

theorem runsTo_succ (l : List At) (k : Nat) : runsTo l (k + 1) = (pst l k).1.map (runOf l) ++ [runOf l ((pst l k).2, k + 1)] := by
  have hle := pst_le l k
  unfold runsTo
  by_cases hg : goesB l (pst l k).2 k = true
  · have e : pst l (k + 1) = pst l k := by rw [pst, if_pos hg]
    rw [e, if_pos (by omega)]
  · have e : pst l (k + 1) = ((pst l k).1 ++ [((pst l k).2, k + 1)], k + 1) := by rw [pst, if_neg hg]
    rw [e]
    simp

theorem runsTo_all (l : List At) : runsTo l l.length = runsL l := by
  unfold runsTo runsL
  have h := pstInv l l.length (Nat.le_refl _)
  by_cases e : 0 < l.length
  · rw [h.shut rfl e, if_neg (Nat.lt_irrefl _), List.append_nil]
  · have : l = [] := List.length_eq_zero_iff.1 (by omega)
    subst this; rfl

theorem runOf_one {l : List At} {k : Nat} (h : k < l.length) : runOf l (k, k + 1) = ⟨l[k].path, l[k].clock, strOfNums [l[k].sign]⟩ := by
  rw [runOf_eq h]
  have : part l k (k + 1 - k) = [l[k]] := by
    unfold part
    rw [show k + 1 - k = 1 by omega, List.drop_eq_getElem_cons h]; rfl
  rw [this]; rfl

theorem runOf_more {l : List At} {f k : Nat} (hf : f < k) (h : k < l.length) : runOf l (f, k + 1) = ⟨(runOf l (f, k)).path, (runOf l (f, k)).clock, (runOf l (f, k)).text ++ strOfNums [l[k].sign]⟩ := by
  rw [runOf_eq (p := (f, k + 1)) (by show f < _; omega), runOf_eq (p := (f, k)) (by show f < _; omega)]
  have e : part l f (k + 1 - f) = part l f (k - f) ++ [l[k]] := by
    unfold part
    rw [show k + 1 - f = (k - f) + 1 by omega, List.take_succ_eq_append_getElem (by simp; omega)]
    congr 2
    simp [show f + (k - f) = k by omega]
  simp only [e]
  unfold txtS
  rw [List.map_append]
  congr 1
  apply ByteArray.ext
  simp [strOfNums, ByteArray.data_append]

theorem joined_iff {l : List At} {k : Nat} (hk : k + 1 < l.length) :
    ((pst l (k + 1)).2 < k + 1 → (runOf l ((pst l (k + 1)).2, k + 1)).text.size < 60 ∧ flwAt l k = true) ∧
    ((pst l (k + 1)).2 = k + 1 → ∃ p, (pst l (k + 1)).1.getLast? = some p ∧ ((runOf l p).text.size = 60 ∨ flwAt l k = false)) := by
  have h := pstInv l (k + 1) (by omega)
  constructor
  · intro hf
    have h1 := h.few hf
    have hop := h.op k (by omega) (by omega)
    refine ⟨?_, hop⟩
    rw [runOf_eq (by show _ < l.length; have := pst_le l (k + 1); omega)]
    show (txtS (part l (pst l (k + 1)).2 (k + 1 - (pst l (k + 1)).2))).size < 60
    rw [txt_size, part_len (by omega)]
    exact h1
  · intro hf
    have hne : (pst l (k + 1)).1 ≠ [] := by
      intro e
      have hc := h.cat
      rw [e, hf] at hc
      have := congrArg List.length hc
      simp at this
      omega
    have hpos : 0 < (pst l (k + 1)).1.length := List.length_pos_iff.2 hne
    have hl := h.last ((pst l (k + 1)).1.length - 1) (by omega) (by omega)
    have hpc := h.each _ (List.getElem_mem (show (pst l (k + 1)).1.length - 1 < (pst l (k + 1)).1.length by omega))
    refine ⟨(pst l (k + 1)).1[(pst l (k + 1)).1.length - 1], ?_, ?_⟩
    · rw [List.getLast?_eq_getElem?, List.getElem?_eq_getElem (by omega)]
    · rw [hf] at hl
      rcases hpc.shut with e | e | e
      · left
        have h1 := hpc.lt
        have h2 := hpc.le
        rw [runOf_eq (by omega)]
        show (txtS (part l _ _)).size = 60
        rw [txt_size, part_len (by omega)]
        exact e
      · omega
      · right
        rw [hl] at e
        simpa using e

theorem runsTo_step {l : List At} {k : Nat} (h : k + 1 < l.length) : ∃ xs y, runsTo l (k + 1) = xs ++ [y] ∧ y.text.size ≤ 60 ∧
    ((y.text.size < 60 ∧ flwAt l k = true → runsTo l (k + 1 + 1) = xs ++ [⟨y.path, y.clock, y.text ++ strOfNums [l[k + 1].sign]⟩]) ∧
     (¬ (y.text.size < 60 ∧ flwAt l k = true) → runsTo l (k + 1 + 1) = (xs ++ [y]) ++ [⟨l[k + 1].path, l[k + 1].clock, strOfNums [l[k + 1].sign]⟩])) := by
  have hle := pst_le l (k + 1)
  obtain ⟨ja, jb⟩ := joined_iff h
  rcases Nat.lt_or_ge (pst l (k + 1)).2 (k + 1) with hf | hf
  · obtain ⟨h1, h2⟩ := ja hf
    refine ⟨(pst l (k + 1)).1.map (runOf l), runOf l ((pst l (k + 1)).2, k + 1), by unfold runsTo; rw [if_pos hf], by omega, ?_, fun hn => absurd ⟨h1, h2⟩ hn⟩
    intro _
    rw [runsTo_succ, runOf_more hf h]
  · have hf' : (pst l (k + 1)).2 = k + 1 := by omega
    obtain ⟨p, hp, hor⟩ := jb hf'
    have hd : (pst l (k + 1)).1 = (pst l (k + 1)).1.dropLast ++ [p] := by
      rw [List.getLast?_eq_some_iff] at hp
      obtain ⟨ys, hys⟩ := hp
      rw [hys]; simp
    have hr : runsTo l (k + 1) = (pst l (k + 1)).1.dropLast.map (runOf l) ++ [runOf l p] := by
      unfold runsTo
      rw [if_neg (by omega), List.append_nil]
      conv => lhs; rw [hd]
      simp
    have hpc := (pstInv l (k + 1) (by omega)).each p (by rw [hd]; simp)
    have hsz : (runOf l p).text.size ≤ 60 := by
      have h1 := hpc.lt
      have h2 := hpc.le
      rw [runOf_eq (by omega)]
      show (txtS (part l _ _)).size ≤ 60
      rw [txt_size, part_len (by omega)]
      exact hpc.len
    refine ⟨_, _, hr, hsz, fun hy => ?_, fun _ => ?_⟩
    · exfalso
      rcases hor with e | e
      · omega
      · rw [e] at hy; exact absurd hy.2 (by decide)
    · rw [runsTo_succ, hf', runOf_one h, ← hr]
      unfold runsTo
      rw [if_neg (by omega), List.append_nil]
end Go.Proofs.YtnhjebdlcbhkcaeGreat

namespace Go.Proofs.YtnhjebdlcbhkcaeGreat
open Go.RowKit

structure RawNOf (w0 : World) (r : RawN) (x : Rn) : Prop where
  n : r.n = x.path.length
  clock : r.clock = x.clock
  text : r.text = x.text
  steps : StepsAt w0 r.p x.path
  len : x.path.length ≤ maxLen
  tlen : x.text.size ≤ maxLen

def OwnsN (w0 w : World) (base : Nat) (v : Value) (xs : List Rn) : Prop :=
  ∃ rs : List RawN, rs.length = xs.length ∧ w.ownsRow base 59 3 v xs.length (flatN rs) ∧ ∀ i (h : i < xs.length) (h' : i < rs.length), RawNOf w0 rs[i] xs[i]

theorem OwnsN.runs {w0 w : World} {base : Nat} {v : Value} {xs : List Rn} (h : OwnsN w0 w base v xs) (hb : Below w0.heap.size w0 w) : ∃ p cap, v = .slice p xs.length cap ∧ RunsAt w p xs ∧ xs.length ≤ cap := by
  obtain ⟨rs, h1, h2, h3⟩ := h
  rcases h2.2 with ⟨rfl, h0⟩ | ⟨g, c, cur, rfl, hbg, hh, hc, _⟩
  · have : xs = [] := List.length_eq_zero_iff.1 h0
    subst this
    exact ⟨none, 0, rfl, Or.inl rfl, Nat.le_refl _⟩
  · refine ⟨_, c, rfl, Or.inr ⟨g, 0, rfl, (Array.getElem?_eq_some_iff.1 hh).1, fun i hi => ?_⟩, hc⟩
    have r := h3 i hi (by omega)
    obtain ⟨f0, f1, f2⟩ := flatN_get rs i (by omega)
    rw [r.n] at f0
    rw [r.clock] at f1
    rw [r.text] at f2
    rw [Nat.zero_add]
    exact ⟨_, _, (h2.cellAt (i * 3) (by omega)).trans f0, (h2.cellAt (i * 3 + 1) (by omega)).trans f1, (h2.cellAt (i * 3 + 2) (by omega)).trans f2, r.steps.below hb (Nat.le_refl _), r.len, r.tlen⟩

theorem ownsN_snoc {w0 w : World} {base : Nat} {v : Value} {xs : List Rn} {rs : List RawN} {r : RawN} {x : Rn} (hl : rs.length = xs.length) (hr : ∀ i (h : i < xs.length) (h' : i < rs.length), RawNOf w0 rs[i] xs[i]) (hx : RawNOf w0 r x) (h : w.ownsRow base 59 3 v (xs.length + 1) (flatN rs ++ r.cells)) : OwnsN w0 w base v (xs ++ [x]) := by
  refine ⟨rs ++ [r], by simp [hl], ?_, fun i hi hi' => ?_⟩
  · rw [flatN_append, List.length_append]
    show w.ownsRow base _ 3 v (xs.length + 1) (flatN rs ++ (r.cells ++ []))
    rw [List.append_nil]; exact h
  · by_cases e : i < xs.length
    · rw [List.getElem_append_left (by omega), List.getElem_append_left e]
      exact hr i e (by omega)
    · have : i = xs.length := by simp at hi; omega
      subst this
      have e1 : (rs ++ [r])[xs.length] = r := by rw [List.getElem_append_right (by omega)]; simp [hl]
      have e2 : (xs ++ [x])[xs.length] = x := by simp
      rw [e1, e2]; exact hx

theorem flatN_set (rs : List RawN) : ∀ (i : Nat) (s : ByteArray) (h : i < rs.length), (flatN rs).set (i * 3 + 2) (.string s) = flatN (rs.set i { rs[i] with text := s }) := by
  induction rs with
  | nil => intro i s h; simp at h
  | cons r rs ih =>
    intro i s h
    cases i with
    | zero => rfl
    | succ i =>
      have h1 : flatN (r :: rs) = r.cells ++ flatN rs := rfl
      have h2 : flatN ((r :: rs).set (i + 1) { (r :: rs)[i + 1] with text := s }) = r.cells ++ flatN (rs.set i { (rs[i]'(by simpa using h)) with text := s }) := rfl
      rw [h1, h2, List.set_append_right _ _ (by show 3 ≤ _; omega), show (i + 1) * 3 + 2 - r.cells.length = i * 3 + 2 by show (i + 1) * 3 + 2 - 3 = _; omega, ih i s (by simpa using h)]

theorem ownsN_last {w0 w : World} {base g cap : Nat} {xs : List Rn} {y : Rn} {rs : List RawN} {s : ByteArray} (hl : rs.length = xs.length + 1) (hown : w.ownsRow base 59 3 (.slice (some ⟨g, 0, none⟩) (xs.length + 1) cap) (xs.length + 1) (flatN rs)) (hr : ∀ i (h : i < (xs ++ [y]).length) (h' : i < rs.length), RawNOf w0 rs[i] (xs ++ [y])[i]) (hs : s.size ≤ maxLen) :
    OwnsN w0 (w.setCell ⟨g, xs.length * 3 + 2, none⟩ (.string s)) base (.slice (some ⟨g, 0, none⟩) (xs.length + 1) cap) (xs ++ [{ y with text := s }]) ∧ w.grownBy (w.setCell ⟨g, xs.length * 3 + 2, none⟩ (.string s)) (some g) := by
  obtain ⟨h1, h2⟩ := hown.stored (xs.length * 3 + 2) (.string s)
  refine ⟨⟨rs.set xs.length { (rs[xs.length]'(by omega)) with text := s }, by simp [hl], ?_, fun i hi hi' => ?_⟩, h2⟩
  · rw [flatN_set rs xs.length s (by omega)] at h1
    simpa using h1
  · have hi2 : i < xs.length + 1 := by simpa using hi
    by_cases e : i = xs.length
    · subst e
      have r := hr xs.length (by simp) (by omega)
      have e2 : (xs ++ [y])[xs.length]'(by simp) = y := by simp
      rw [e2] at r
      rw [List.getElem_set_self]
      have e3 : (xs ++ [{ y with text := s }])[xs.length]'(by simp) = { y with text := s } := by simp
      rw [e3]
      exact ⟨r.n, r.clock, rfl, r.steps, r.len, hs⟩
    · rw [List.getElem_set_ne (fun h => e h.symm), List.getElem_append_left (by omega)]
      have r := hr i (by simp; omega) (by omega)
      rwa [List.getElem_append_left (by omega)] at r

theorem same_flw {l : List At} {k : Nat} (h : k + 1 < l.length) : (ordM l[k + 1].path l[k + 1].clock (bump (l[k]'(by omega)).path 1) ((l[k]'(by omega)).clock + 1) == 0) = flwAt l k := by
  unfold flwAt
  rw [List.getElem?_eq_getElem (by omega), List.getElem?_eq_getElem h]
  show _ = flw _ _ _ _
  unfold flw
  have := cmpM.anti (bump (l[k]'(by omega)).path 1, (l[k]'(by omega)).clock + 1) (l[k + 1].path, l[k + 1].clock)
  simp only at this
  rw [this]
  rw [Bool.eq_iff_iff]
  simp only [beq_iff_eq]
  omega
end Go.Proofs.YtnhjebdlcbhkcaeGreat

namespace Go.Proofs.YtnhjebdlcbhkcaeGreat
open Go.RowKit

theorem keep4 {w1 w' : World} {b o z : Nat} {v0 v1 v2 v3 v4 : Value} {g p : Nat} (hb : Below w1.heap.size w1 w') (hg : g < w1.heap.size) (hz : b < w1.heap.size) (q4 : w1.cell? ⟨g, p, none⟩ = some v4) (q0 : w1.cell? ⟨b, o, none⟩ = some v0) (q1 : w1.cell? ⟨b, o + 1, none⟩ = some v1) (q2 : w1.cell? ⟨b, z, none⟩ = some v2) (q3 : w1.cell? ⟨b, z + 1, none⟩ = some v3) :
    Below w1.heap.size w1 w' ∧ w'.cell? ⟨g, p, none⟩ = some v4 ∧ w'.cell? ⟨b, o, none⟩ = some v0 ∧ w'.cell? ⟨b, o + 1, none⟩ = some v1 ∧ w'.cell? ⟨b, z, none⟩ = some v2 ∧ w'.cell? ⟨b, z + 1, none⟩ = some v3 :=
  ⟨hb, (hb.cell (p := ⟨g, p, none⟩) hg).trans q4, (hb.cell (p := ⟨b, o, none⟩) hz).trans q0, (hb.cell (p := ⟨b, o + 1, none⟩) hz).trans q1, (hb.cell (p := ⟨b, z, none⟩) hz).trans q2, (hb.cell (p := ⟨b, z + 1, none⟩) hz).trans q3⟩

theorem rawN_newX (w : World) (r : RawN) : ∀ j u, r.cells[j]? = some u → (w.alloc (.cells #[.slice r.p r.n r.cap, .int .i64 r.clock, .string r.text] 59)).cell? ⟨w.heap.size, j, none⟩ = some u := by
  intro j u hj
  rw [World.cell?_alloc_new]
  simpa [RawN.cells] using hj

theorem row_shape {w : World} {base : Nat} {e : TypeId} {size : Nat} {v : Value} {n : Nat} {xs : List Value} (h : w.ownsRow base e size v n xs) : ∃ p c, v = .slice p n c := by
  rcases h.2 with ⟨rfl, rfl⟩ | ⟨g, c, cur, rfl, _⟩
  · exact ⟨none, 0, rfl⟩
  · exact ⟨_, c, rfl⟩

set_option maxRecDepth 100000 in
set_option maxHeartbeats 40000000 in
theorem runsOf_ok (a : Option Addr) (cap : Nat) (l : List At) (w : World) (h : AtomsAt w a l) (ok : OkL l) :
    Calls Tryz.prog 119 #[.slice a l.length cap] w fun e w' => ∃ p k, e = .returned (.slice p (runsL l).length k) ∧ RunsAt w' p (runsL l) ∧ Below w.heap.size w w' := by
  obtain ⟨i0, hi0, hz0, hz1, hz2⟩ := Tryz.info59
  have h300 := ok.len
  have HOK := hidE ok
  clear ok
  have hcv : ∀ (w : World) (x : Int), (convert 179 9 (.slice (some ⟨w.heap.size, 0, none⟩) 1 1)).run Tryz.prog (w.alloc (.cells #[.int .u8 x] 5)) = .ok (.string (strOfNums [x])) (w.alloc (.cells #[.int .u8 x] 5)) := by
    intro w x
    refine run_convert_bytes_arg (P := Tryz.prog) _ 179 5 Tryz.underlying179 Tryz.underlying5 w.heap.size 0 1 1 [x] rfl (fun i hi => ?_) 9 Tryz.underlying9
    have : i = 0 := by omega
    subst this
    simp
  have HCV := hidE hcv
  clear hcv
  go_enter Tryz.func119, Tryz.ntmps119
  go_wp2_with fail
  go_loopw [3, 4] (fun v i wr => ∃ k : Nat, k ≤ l.length ∧ i = .int .i64 k ∧ OwnsN w wr w.heap.size v (runsTo l k) ∧ (runsTo l k).length ≤ k ∧ Below w.heap.size w wr) (fun _ i _ => l.length - (intOf i).toNat)
  case atStart => exact ⟨0, Nat.zero_le _, rfl, ⟨[], rfl, World.ownsRow_nil _ _ _ _, fun i h => by simp [runsTo, pst] at h⟩, by simp [runsTo, pst], Below.refl _ _⟩
  case round =>
    obtain ⟨k, hk, rfl, hrow, hrlen, hb⟩ := hrel
    by_cases hlt : k < l.length
    · have hi1 : (k : Int) < l.length := by omega
      obtain ⟨ab, ao, rfl, hab, hc⟩ := h.raw (by omega)
      have habr : ab < wr.heap.size := Nat.lt_of_lt_of_le hab hb.size
      obtain ⟨⟨p, n, cp, ck, sk⟩, hr, c0, c1, c2⟩ := hc k hlt
      have en : n = l[k].path.length := hr.n
      have eck : ck = l[k].clock := hr.clock
      have esk : sk = l[k].sign := hr.sign
      subst en eck esk
      have hst := hr.steps
      have hplen := hr.len
      have d0 := (hb.cell (p := ⟨ab, ao + k * 3, none⟩) hab).trans c0
      have d1 := (hb.cell (p := ⟨ab, ao + k * 3 + 1, none⟩) hab).trans c1
      have d2 := (hb.cell (p := ⟨ab, ao + k * 3 + 2, none⟩) hab).trans c2
      have htl1 : (strOfNums [l[k].sign]).size = 1 := by rw [strOfNums_size]; rfl
      have hx : RawNOf w ⟨p, l[k].path.length, cp, l[k].clock, strOfNums [l[k].sign]⟩ ⟨l[k].path, l[k].clock, strOfNums [l[k].sign]⟩ := ⟨rfl, rfl, rfl, hst, hplen, by rw [htl1]; unfold maxLen; omega⟩
      obtain ⟨rs, hrl, hown, hrr⟩ := hrow
      obtain ⟨pv, cv, rfl⟩ := row_shape hown
      have HRR := hidE hrr
      have hlk : (runsTo l k).length ≤ 300 := by omega
      clear hrr
      obtain ⟨nn, hnn⟩ : ∃ nn, (runsTo l k).length = nn := ⟨_, rfl⟩
      have HNN := hidE hnn
      rw [hnn] at hown hrl hlk hrlen ⊢
      clear hnn
      go_upto_region 6 with fail
      go_cut [40] (fun t40 wc => ∃ bb : Bool, t40 = .bool bb ∧ Below wr.heap.size wr wc ∧ (bb = false → runsTo l (k + 1) = runsTo l k ++ [⟨l[k].path, l[k].clock, strOfNums [l[k].sign]⟩]) ∧ (bb = true → ∃ xs y, runsTo l k = xs ++ [y] ∧ y.text.size < 60 ∧ runsTo l (k + 1) = xs ++ [⟨y.path, y.clock, y.text ++ strOfNums [l[k].sign]⟩]))
      case first =>
        rcases Nat.eq_zero_or_pos k with rfl | hk0
        · have hg0 : decide ((0 : Int) > 0) = false := by decide
          refine wp_region_quiet_below (by kernel_rfl) (by kernel_rfl) ?_
          repeat (first | go_big_quiet_step (fail) | quiet_step (fail))
          refine wpQuiet_nil ?_
          intro X hw'
          obtain ⟨⟨dq, osq⟩, hw''⟩ := hw'
          have hbX : Below wr.heap.size wr X := by rw [hw'']; exact below_regrown wr dq osq
          clear hw''
          go_wp2_with fail
          go_meet
          refine ⟨false, rfl, hbX, fun _ => ?_, fun h => by cases h⟩
          rw [runsTo_succ]
          show [] ++ [runOf l (0, 0 + 1)] = [] ++ _
          rw [runOf_one hlt]
        · obtain ⟨j, rfl⟩ : ∃ j, k = j + 1 := ⟨k - 1, by omega⟩
          obtain ⟨xs, y, hxy, hy60, hA, hN⟩ := runsTo_step hlt
          obtain rfl : nn = xs.length + 1 := by rw [← HNN.out, hxy]; simp
          have HXY := hidE hxy
          have HA := hidE hA
          have HN := hidE hN
          have HF := hidE (same_flw hlt)
          clear hxy hA hN
          have hrs : xs.length < rs.length := by omega
          have hraw := HRR.out xs.length (by rw [HNN.out]; omega) hrs
          have hy : (runsTo l (j + 1))[xs.length]'(by rw [HNN.out]; omega) = y := by simp [HXY.out]
          rw [hy] at hraw
          have htx := hraw.text
          obtain ⟨g, cg, hv⟩ := owns_form hown (by omega)
          obtain ⟨rfl, rfl⟩ : pv = some ⟨g, 0, none⟩ ∧ cv = cg := by simpa using hv
          clear hv hy hraw
          have fc := (hown.cellAt (xs.length * 3 + 2) (by omega)).trans (flatN_get rs xs.length hrs).2.2
          rw [htx] at fc
          have hgl := (hown.lt g rfl).2
          obtain ⟨⟨p', n', cp', ck', sk'⟩, hr', c0', c1', _⟩ := hc j (by omega)
          have en : n' = (l[j]'(by omega)).path.length := hr'.n
          have eck : ck' = (l[j]'(by omega)).clock := hr'.clock
          subst en eck
          have hst' := hr'.steps.below hb (Nat.le_refl _)
          have hstr := hst.below hb (Nat.le_refl _)
          have d0' := (hb.cell (p := ⟨ab, ao + j * 3, none⟩) hab).trans c0'
          have d1' := (hb.cell (p := ⟨ab, ao + j * 3 + 1, none⟩) hab).trans c1'
          have hkj := (HOK.out.each (l[j]'(by omega)) (List.getElem_mem (by omega))).1
          have HKJ := hidE hkj
          clear hkj hr' c0' c1'
          have hg0 : decide (((j : Int) + 1) > 0) = true := decide_eq_true (by omega)
          have hn1 : IntKind.i64.wrap (((xs.length : Int) + 1) - 1) = (xs.length : Int) := by rw [IntKind.wrap_i64] <;> omega
          have hn2 : IntKind.i64.wrap (xs.length : Int) = (xs.length : Int) := by rw [IntKind.wrap_i64] <;> omega
          have hj1 : IntKind.i64.wrap (((j : Int) + 1) - 1) = (j : Int) := by rw [IntKind.wrap_i64] <;> omega
          have hj2 : IntKind.i64.wrap (j : Int) = (j : Int) := by rw [IntKind.wrap_i64] <;> omega
          have hj3 : (j : Int) < l.length := by omega
          have hj4 : ((j : Int) + 1) < l.length := by omega
          have hj5 : ((j : Int) + 1).toNat = j + 1 := by omega
          have hx1 : (xs.length : Int) < (xs.length : Int) + 1 := by omega
          have hBd : Below wr.heap.size wr wr.drew := (Below.refl _ _).drew
          by_cases hs60 : y.text.size < 60
          · have hd6 : decide ((y.text.size : Int) < 60) = true := by simp; omega
            obtain ⟨pb, po, rfl⟩ : ∃ pb po, p' = some ⟨pb, po, none⟩ := by
              rcases hst' with e | ⟨pb, po, rfl, _⟩
              · have := (chk_ok HKJ.out).1
                rw [e] at this; simp at this
              · exact ⟨pb, po, rfl⟩
            have hjl : (l[j]'(by omega)).path.length ≤ maxLen := by have := (chk_ok HKJ.out).2.1; unfold maxLen; omega
            generalize (l[j]'(by omega)).path = pj at *
            generalize (l[j]'(by omega)).clock = cj at *
            generalize hPK : l[j + 1].path = pk at *
            generalize hCK : l[j + 1].clock = ck at *
            go_region_held_law (fun w' => Below wr.heap.size wr w' ∧ w'.cell? ⟨g, xs.length * 3 + 2, none⟩ = some (.string y.text) ∧ w'.cell? ⟨ab, ao + (j + 1) * 3, none⟩ = some (.slice p pk.length cp) ∧ w'.cell? ⟨ab, ao + (j + 1) * 3 + 1, none⟩ = some (.int .i64 ck) ∧ w'.cell? ⟨ab, ao + j * 3, none⟩ = some (.slice (some ⟨pb, po, none⟩) pj.length cp') ∧ w'.cell? ⟨ab, ao + j * 3 + 1, none⟩ = some (.int .i64 cj))
              ((refine keep4 ?_ hgl habr fc d0 d1 d0' d1'; first | exact hBd | exact hB1 | exact hB2))
              (first
                | (go_at_call 197; refine (afterOf_any pb po _ pj cj 1 _ (hst'.below (And.left ‹Below wr.heap.size wr _ ∧ _›) (Nat.le_refl _)) HKJ.out (by omega) (by omega)).mono ?_; rintro e w3 ⟨g3, cap3, rfl, hs3, hb3, _⟩; have hB1 := (And.left ‹Below wr.heap.size wr _ ∧ _›).thru hb3 (And.left ‹Below wr.heap.size wr _ ∧ _›).size)
                | (go_at_call 58; refine (sameMark_n _ _ _ _ _ _ pk (bump pj 1) _ _ _ rfl (by rw [bump_len]) hplen (by rw [bump_len]; exact hjl) (hstr.below hB1 (Nat.le_refl _)) hs3).mono ?_; rintro e w4 ⟨rfl, hb4⟩; have hB2 := hB1.thru hb4 hB1.size))
            all_goals
              go_wp2_with fail
              go_meet
              subst hPK hCK
              refine ⟨ordM l[j + 1].path l[j + 1].clock (bump pj 1) (cj + 1) == 0, rfl, hB2, fun hf => ?_, fun ht => ?_⟩
              · rw [HN.out (fun hh => by rw [← HF.out] at hh; rw [hf] at hh; exact absurd hh.2 (by decide)), ← HXY.out]
              · exact ⟨xs, y, HXY.out, hs60, HA.out ⟨hs60, by rw [← HF.out]; exact ht⟩⟩
          · have hd6 : decide ((y.text.size : Int) < 60) = false := by simp; omega
            have k0 := cell_regrown fc
            refine wp_region_quiet_below (by kernel_rfl) (by kernel_rfl) ?_
            repeat (first | go_big_quiet_step (fail) | quiet_step (fail))
            refine wpQuiet_nil ?_
            intro X hw'
            obtain ⟨⟨dq, osq⟩, hw''⟩ := hw'
            have hbX : Below wr.heap.size wr X := by rw [hw'']; exact below_regrown wr dq osq
            clear hw''
            go_wp2_with fail
            go_meet
            refine ⟨false, rfl, hbX, fun _ => ?_, fun h => by cases h⟩
            rw [HN.out (fun hh => hs60 hh.1), ← HXY.out]
      case rest =>
        obtain ⟨bb, rfl, hbX, hF, hT⟩ := hcut
        have HF := hidE hF
        have HT := hidE hT
        clear hF hT
        cases bb
        · have HN : Hid (runsTo l (k + 1) = runsTo l k ++ [⟨l[k].path, l[k].clock, strOfNums [l[k].sign]⟩]) := HF.out rfl
          clear HF HT
          have e0 := (hbX.cell (p := ⟨ab, ao + k * 3, none⟩) habr).trans d0
          have e1 := (hbX.cell (p := ⟨ab, ao + k * 3 + 1, none⟩) habr).trans d1
          have e2 := (hbX.cell (p := ⟨ab, ao + k * 3 + 2, none⟩) habr).trans d2
          have hzX : ab < wc.heap.size := Nat.lt_of_lt_of_le habr hbX.size
          have hownX := owns_below hown hbX
          have hbwX := hb.thru hbX hb.size
          generalize l[k].path = pk at *
          generalize l[k].clock = ck at *
          generalize l[k].sign = sk at *
          have hcv1 := HCV.out wc.drew sk
          have hcv2 : (convert 179 9 (.slice (some ⟨wc.heap.size, 0, none⟩) 1 1)).run Tryz.prog (wc.alloc (.cells #[.int .u8 sk] 5)).drew = .ok (.string (strOfNums [sk])) (wc.alloc (.cells #[.int .u8 sk] 5)).drew := hcv1
          have hbA : Below wc.heap.size wc (wc.alloc (.cells #[.int .u8 sk] 5)).drew := ((Below.refl _ _).alloc (Nat.le_refl _) _).drew
          have hbB : Below wc.heap.size wc ((wc.alloc (.cells #[.int .u8 sk] 5)).drew.alloc (.cells #[.slice p pk.length cp, .int .i64 ck, .string (strOfNums [sk])] 59)) := hbA.alloc (by simp) _
          have hownB := owns_below hownX hbB
          have HSZ : Hid ((wc.alloc (.cells #[.int .u8 sk] 5)).drew.heap.size = wc.heap.size + 1) := by show _ = _; simp
          go_upto_region 8 with fail
          generalize strOfNums [sk] = sx at *
          go_region_held_law (fun w' => w'.cell? ⟨ab, ao + k * 3, none⟩ = some (.slice p pk.length cp) ∧ w'.cell? ⟨ab, ao + k * 3 + 1, none⟩ = some (.int .i64 ck) ∧ w'.cell? ⟨ab, ao + k * 3 + 2, none⟩ = some (.int .u8 sk))
            (first | exact ⟨e0, e1, e2⟩ | exact ⟨(hbA.cell (p := ⟨ab, ao + k * 3, none⟩) hzX).trans e0, (hbA.cell (p := ⟨ab, ao + k * 3 + 1, none⟩) hzX).trans e1, (hbA.cell (p := ⟨ab, ao + k * 3 + 2, none⟩) hzX).trans e2⟩ | exact ⟨(hbB.cell (p := ⟨ab, ao + k * 3, none⟩) hzX).trans e0, (hbB.cell (p := ⟨ab, ao + k * 3 + 1, none⟩) hzX).trans e1, (hbB.cell (p := ⟨ab, ao + k * 3 + 2, none⟩) hzX).trans e2⟩ | exact ⟨y0, y1, y2⟩)
            ((refine step_append_own rfl (.tmp 57) (.tmp 71) 44 rfl w.heap.size 59 i0 (.agg #[.slice none 0 0, .int .i64 0, .string ⟨#[]⟩]) 3 48 Tryz.underlying44 hi0 hz0 hz1 hz2 rfl (by decide) (.slice pv nn cv) nn (flatN rs) (by simp [Act.eval]) hownB ⟨wc.heap.size + 1, 0, none⟩ 1 1 ((⟨p, pk.length, cp, ck, sx⟩ : RawN).cells) (by simp [Act.eval]) rfl (by intro j u hj; rw [Addr.add_lit, Nat.zero_add, ← HSZ.out]; exact rawN_newX (wc.alloc (.cells #[.int .u8 sk] 5)).drew ⟨p, pk.length, cp, ck, sx⟩ j u hj) (fun u hu => flatN_one [⟨p, pk.length, cp, ck, sx⟩] u (by simpa [flatN] using hu)) (by unfold maxLen; omega) (by omega) (by have := hbwX.size; simp; omega) ?_; intro v' w4 hown4 hgrow; have hNE : some ab ≠ Value.ownBlock (.slice pv nn cv) := own_ne hown (Or.inl hab); have y0 := (grown_cell hgrow (Nat.lt_of_lt_of_le hzX hbB.size) hNE _).trans ((hbB.cell (p := ⟨ab, ao + k * 3, none⟩) hzX).trans e0); have y1 := (grown_cell hgrow (Nat.lt_of_lt_of_le hzX hbB.size) hNE _).trans ((hbB.cell (p := ⟨ab, ao + k * 3 + 1, none⟩) hzX).trans e1); have y2 := (grown_cell hgrow (Nat.lt_of_lt_of_le hzX hbB.size) hNE _).trans ((hbB.cell (p := ⟨ab, ao + k * 3 + 2, none⟩) hzX).trans e2)))
          have hb5 := (hbwX.thru hbB hbwX.size).grown hgrow (hbwX.thru hbB hbwX.size).size (fun j hj => (hown.lt j hj).1)
          have hrow5 : OwnsN w w4 w.heap.size v' (runsTo l k ++ [⟨pk, ck, sx⟩]) := ownsN_snoc (by rw [HNN.out]; exact hrl) HRR.out hx (by rw [HNN.out]; exact hown4)
          go_wp2_with fail
          go_roundw
          case rel => exact ⟨k + 1, by omega, by go_num, by rw [HN.out]; exact hrow5, by rw [HN.out, List.length_append, HNN.out]; simp; omega, hb5⟩
          case measure => simp [intOf]; omega
        · obtain ⟨xs, y, hxy, h60, hnx⟩ := HT.out rfl
          have HNX := hidE hnx
          obtain rfl : nn = xs.length + 1 := by rw [← HNN.out, hxy]; simp
          have hrr2 : ∀ i (h : i < (xs ++ [y]).length) (h' : i < rs.length), RawNOf w rs[i] (xs ++ [y])[i] := by
            rw [← hxy]; exact HRR.out
          have HRR2 := hidE hrr2
          have hraw := hrr2 xs.length (by simp) (by omega)
          have hy : (xs ++ [y])[xs.length]'(by simp) = y := by simp
          rw [hy] at hraw
          have htx := hraw.text
          obtain ⟨g, cg, hv⟩ := owns_form hown (by omega)
          obtain ⟨rfl, rfl⟩ : pv = some ⟨g, 0, none⟩ ∧ cv = cg := by simpa using hv
          clear hv hy hraw hnx hxy HF HT HRR hrr2
          have hownX := owns_below hown hbX
          have hbwX := hb.thru hbX hb.size
          have fc := (hownX.cellAt (xs.length * 3 + 2) (by omega)).trans (flatN_get rs xs.length (by omega)).2.2
          rw [htx] at fc
          have ff := hownX.frozenAt (xs.length * 3 + 2)
          have hgl := (hownX.lt g rfl).2
          have e2 := (hbX.cell (p := ⟨ab, ao + k * 3 + 2, none⟩) habr).trans d2
          have hzX : ab < wc.heap.size := Nat.lt_of_lt_of_le habr hbX.size
          have hga : g ≠ ab := by have := (hown.lt g rfl).1; omega
          generalize l[k].sign = sk at *
          have hcv1 := HCV.out wc.drew sk
          have hcv2 : (convert 179 9 (.slice (some ⟨wc.heap.size, 0, none⟩) 1 1)).run Tryz.prog (wc.alloc (.cells #[.int .u8 sk] 5)).drew = .ok (.string (strOfNums [sk])) (wc.alloc (.cells #[.int .u8 sk] 5)).drew := hcv1
          have hn1 : IntKind.i64.wrap (((xs.length : Int) + 1) - 1) = (xs.length : Int) := by rw [IntKind.wrap_i64] <;> omega
          have hn2 : IntKind.i64.wrap (xs.length : Int) = (xs.length : Int) := by rw [IntKind.wrap_i64] <;> omega
          have hx1 : (xs.length : Int) < (xs.length : Int) + 1 := by omega
          have fc' : wc.drew.cell? ⟨g, xs.length * 3 + 2, none⟩ = some (.string y.text) := fc
          have ff' : wc.drew.frozen? ⟨g, xs.length * 3 + 2, none⟩ = false := ff
          have e2' : wc.drew.cell? ⟨ab, ao + k * 3 + 2, none⟩ = some (.int .u8 sk) := e2
          generalize strOfNums [sk] = sx at *
          go_upto_region 7 with fail
          go_region
          go_wp2_with fail
          have hsz : (y.text ++ sx).size ≤ maxLen := by rw [ByteArray.size_append, htl1]; unfold maxLen; omega
          obtain ⟨⟨rs5, a1, a2, a3⟩, _⟩ := ownsN_last (w0 := w) (s := y.text ++ sx) hrl hownX HRR2.out hsz
          have hb5 := (hbwX.setCell (p := ⟨g, xs.length * 3 + 2, none⟩) (hown.lt g rfl).1 (.string (y.text ++ sx)))
          go_roundw
          case rel => exact ⟨k + 1, by omega, by go_num, by rw [HNX.out]; exact ⟨rs5, a1, by have a4 := (a2.alloc (.cells #[.int .u8 sk] 5)).drew; simp only [List.length_append, List.length_singleton] at a4 ⊢; exact a4, a3⟩, by rw [HNX.out]; simp; omega, (hb5.alloc hb5.size _).drew⟩
          case measure => simp [intOf]; omega
    · have hkl : k = l.length := by omega
      subst hkl
      rw [runsTo_all] at hrow
      obtain ⟨p, kk, rfl, hat, _⟩ := hrow.runs hb
      go_wp2_with fail
      go_ret
      exact ⟨p, kk, rfl, hat, hb⟩
end Go.Proofs.YtnhjebdlcbhkcaeGreat

namespace Go.Proofs.YtnhjebdlcbhkcaeGreat
open Go.RowKit

theorem strOfNums_snoc (xs : List Int) (n : Int) : strOfNums (xs ++ [n]) = strOfNums xs ++ strOfNums [n] := by
  apply ByteArray.ext
  simp [strOfNums, ByteArray.data_append]

set_option maxRecDepth 100000 in
set_option maxHeartbeats 2000000 in
theorem textOf_ok (a : Option Addr) (cap : Nat) (l : List At) (w : World) (h : AtomsAt w a l) (h300 : l.length ≤ 300) :
    Calls Tryz.prog 117 #[.slice a l.length cap] w fun e w' => e = .returned (.string (strOfNums (l.map At.sign))) ∧ Below w.heap.size w w' := by
  have hcv : ∀ (w : World) (x : Int), (convert 179 9 (.slice (some ⟨w.heap.size, 0, none⟩) 1 1)).run Tryz.prog (w.alloc (.cells #[.int .u8 x] 5)) = .ok (.string (strOfNums [x])) (w.alloc (.cells #[.int .u8 x] 5)) := by
    intro w x
    refine run_convert_bytes_arg (P := Tryz.prog) _ 179 5 Tryz.underlying179 Tryz.underlying5 w.heap.size 0 1 1 [x] rfl (fun i hi => ?_) 9 Tryz.underlying9
    have : i = 0 := by omega
    subst this
    simp
  go_enter Tryz.func117, Tryz.ntmps117
  go_wp2
  go_loopw [3, 4] (fun s i wr => ∃ k : Nat, k ≤ l.length ∧ i = .int .i64 k ∧ s = .string (strOfNums ((l.take k).map At.sign)) ∧ Below w.heap.size w wr) (fun _ i _ => l.length - (intOf i).toNat)
  case atStart => exact ⟨0, Nat.zero_le _, rfl, rfl, Below.refl _ _⟩
  case round =>
    obtain ⟨k, hk, rfl, rfl, hb⟩ := hrel
    by_cases hlt : k < l.length
    · rcases h.below hb (Nat.le_refl _) with hs | ⟨ab, ao, rfl, hab, hc⟩
      · simp [hs] at hlt
      obtain ⟨p, cp, c0, c1, c2, hst, hle, _⟩ := hc k hlt
      have hi1 : (k : Int) < l.length := by omega
      have HS : Hid (strOfNums ((l.take (k + 1)).map At.sign) = strOfNums ((l.take k).map At.sign) ++ strOfNums [l[k].sign]) := by
        show _ = _
        rw [List.take_succ_eq_append_getElem hlt, List.map_append, ← strOfNums_snoc]; rfl
      have hsz : (strOfNums ((l.take k).map At.sign)).size = k := by rw [strOfNums_size]; simp; omega
      have hsz1 : (strOfNums [l[k].sign]).size = 1 := by rw [strOfNums_size]; rfl
      generalize strOfNums ((l.take k).map At.sign) = sk at *
      have hcvk := hcv wr l[k].sign
      clear hc h hcv
      generalize l[k].sign = xk at *
      generalize strOfNums [xk] = sx at *
      go_wp2_with fail

      go_roundw
      case rel => exact ⟨k + 1, by omega, by go_num, by rw [HS.out], hb.alloc hb.size _⟩
      case measure => simp [intOf]; omega
    · have hkl : k = l.length := by omega
      subst hkl
      rw [List.take_length]
      go_wp2
      go_ret
      exact ⟨rfl, hb⟩
end Go.Proofs.YtnhjebdlcbhkcaeGreat
