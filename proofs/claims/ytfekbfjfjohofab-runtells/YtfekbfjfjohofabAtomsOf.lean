/- Contract of the reference's AtomsOf. -/
import Derived.Test.YtfekbfjfjohofabEach
import Derived.Test.YtfekbfjfjohofabPickR
namespace Go.Proofs.Ytfekbfjfjohofab
open Go.RowKit

def atomsTo (l : List (Int × Int)) (c : Int) (t : ByteArray) (k : Nat) : List At := (List.range k).map (runAt l c t)

theorem atomsTo_succ (l : List (Int × Int)) (c : Int) (t : ByteArray) (k : Nat) (h : k < t.size) : atomsTo l c t (k + 1) = atomsTo l c t k ++ [⟨bump l k, c + k, t[k].toNat⟩] := by
  unfold atomsTo
  rw [List.range_succ, List.map_append]
  congr 1
  show [runAt l c t k] = _
  unfold runAt
  rw [List.getD_eq_getElem?_getD, List.getElem?_eq_getElem (by simpa using h)]; rfl

set_option maxRecDepth 100000 in
set_option maxHeartbeats 4000000 in
theorem atomsOf_ok (b off cap : Nat) (l : List (Int × Int)) (c : Int) (t : ByteArray) (w : World) (ok : OkRun l c t) (h : StepsAt w (some ⟨b, off, none⟩) l) :
    Calls Try.prog 13 #[.agg #[.slice (some ⟨b, off, none⟩) l.length cap, .int .i64 c, .string t]] w fun e w' => ∃ p k, e = .returned (.slice p (atomsR l c t).length k) ∧ AtomsAt w' p (atomsR l c t) ∧ Below w.heap.size w w' := by
  obtain ⟨i0, hi, hz0, hz1, hz2⟩ := Try.info69
  have ht60 := ok.len
  have hl10 := (chk_ok ok.mark).2.1
  have HOK := hidE ok
  clear ok
  have hbA := (Below.refl w.heap.size w).alloc (Nat.le_refl _) (Obj.cells #[.slice (some ⟨b, off, none⟩) l.length cap, .int .i64 c, .string t] 26)
  have q0 : (w.alloc (Obj.cells #[.slice (some ⟨b, off, none⟩) l.length cap, .int .i64 c, .string t] 26)).cell? ⟨w.heap.size, 0, none⟩ = some (.slice (some ⟨b, off, none⟩) l.length cap) := by simp
  have q1 : (w.alloc (Obj.cells #[.slice (some ⟨b, off, none⟩) l.length cap, .int .i64 c, .string t] 26)).cell? ⟨w.heap.size, 1, none⟩ = some (.int .i64 c) := by simp
  have q2 : (w.alloc (Obj.cells #[.slice (some ⟨b, off, none⟩) l.length cap, .int .i64 c, .string t] 26)).cell? ⟨w.heap.size, 2, none⟩ = some (.string t) := by simp
  have z1 : w.heap.size < (w.alloc (Obj.cells #[.slice (some ⟨b, off, none⟩) l.length cap, .int .i64 c, .string t] 26)).heap.size := by simp
  go_enter Try.func13, Try.ntmps13
  go_upto_region 1 with fail
  generalize w.alloc (Obj.cells #[.slice (some ⟨b, off, none⟩) l.length cap, .int .i64 c, .string t] 26) = W at hbA q0 q1 q2 z1 ⊢
  have hsW := h.below hbA (Nat.le_refl _)
  generalize w.heap.size = Z at q0 q1 q2 z1
  go_wp2_with fail
  go_loopw [3, 4] (fun v i wr => ∃ k : Nat, k ≤ t.size ∧ i = .int .i64 k ∧ PickRow wr W.heap.size v (atomsTo l c t k) ∧ Below W.heap.size W wr) (fun _ i _ => t.size - (intOf i).toNat)
  case atStart => exact ⟨0, Nat.zero_le _, rfl, ⟨[], rfl, World.ownsRow_nil _ _ _ _, fun i h => by simp [atomsTo] at h⟩, Below.refl _ _⟩
  case round =>
    obtain ⟨k, hk, rfl, hrow, hb⟩ := hrel
    have r0 := (hb.cell (p := ⟨Z, 0, none⟩) z1).trans q0
    have r1 := (hb.cell (p := ⟨Z, 1, none⟩) z1).trans q1
    have r2 := (hb.cell (p := ⟨Z, 2, none⟩) z1).trans q2
    have hzr : Z < wr.heap.size := Nat.lt_of_lt_of_le z1 hb.size
    by_cases hlt : k < t.size
    · have hi1 : (k : Int) < t.size := by omega
      have HT := hidE (atomsTo_succ l c t k hlt)
      have HL : Hid ((atomsTo l c t k).length = k) := by show _ = _; simp [atomsTo]
      have hr := u8_range t[k]
      generalize atomsTo l c t k = xs at *
      obtain ⟨rs, hrl, hown, hrr⟩ := hrow
      have HRR := hidE hrr
      have hBd : Below wr.heap.size wr wr.drew := (Below.refl _ _).drew
      have hsr := hsW.below hb (Nat.le_refl _)
      have hkc := HOK.out.each k hlt
      have HKC := hidE hkc
      have hON : some Z ≠ Value.ownBlock u3 := own_ne hown (Or.inl z1)
      clear hkc hrr
      go_upto_region 5 with fail
      go_region_held_law (fun w' => w'.cell? ⟨Z, 0, none⟩ = some (.slice (some ⟨b, off, none⟩) l.length cap) ∧ w'.cell? ⟨Z, 1, none⟩ = some (.int .i64 c) ∧ w'.cell? ⟨Z, 2, none⟩ = some (.string t))
          (first | exact ⟨r0, r1, r2⟩ | exact ⟨t0, t1, t2⟩ | exact ⟨s0', s1', s2'⟩ | exact ⟨y0, y1, y2⟩)
          (first
            | (refine step_append_own rfl (.tmp 12) (.tmp 22) 27 rfl W.heap.size 69 i0 (.agg #[.slice none 0 0, .int .i64 0, .int .u8 0]) 3 40 Try.underlying27 hi hz0 hz1 hz2 rfl (by decide) u3 xs.length (flatR rs) (by simp [Act.eval]) (hown3.alloc _) ⟨w3.heap.size, 0, none⟩ 1 1 ((⟨some ⟨g, 0, none⟩, l.length, cap2, c + k, t[k].toNat⟩ : Raw).cells) (by simp [Act.eval]) rfl (by intro j u hj; rw [Addr.add_lit, Nat.zero_add]; exact raw_new w3 ⟨some ⟨g, 0, none⟩, l.length, cap2, c + k, t[k].toNat⟩ j u hj) (fun u hu => flatR_one [⟨some ⟨g, 0, none⟩, l.length, cap2, c + k, t[k].toNat⟩] u (by simpa [flatR] using hu)) (by have := HL.out; unfold maxLen; omega) (by have := HL.out; omega) (by have := hb.size; have := hb3'.size; simp; omega) ?_; intro v' w4 hown4 hgrow; have y0 := (grown_cell hgrow hz4 hON 0).trans s0'; have y1 := (grown_cell hgrow hz4 hON 1).trans s1'; have y2 := (grown_cell hgrow hz4 hON 2).trans s2')
            | (go_at_call 46; refine (afterOf_any b off _ l c k _ (hsr.below hBd (Nat.le_refl _)) HOK.out.mark (by omega) (by omega)).mono ?_; rintro e w3 ⟨g, cap2, rfl, _, hb3, hownS⟩; have hb3' : Below wr.heap.size wr w3 := hBd.thru hb3 (Nat.le_refl _); have t0 := (hb3'.cell (p := ⟨Z, 0, none⟩) hzr).trans r0; have t1 := (hb3'.cell (p := ⟨Z, 1, none⟩) hzr).trans r1; have t2 := (hb3'.cell (p := ⟨Z, 2, none⟩) hzr).trans r2; have hz3 : Z < w3.heap.size := Nat.lt_of_lt_of_le hzr hb3'.size; have hown3 := owns_below hown hb3'; have hb4 : Below w3.heap.size w3 (w3.alloc (.cells #[.slice (some ⟨g, 0, none⟩) l.length cap2, .int .i64 (c + k), .int .u8 t[k].toNat] 69)) := (Below.refl _ _).alloc (Nat.le_refl _) _; have hz4 : Z < (w3.alloc (.cells #[.slice (some ⟨g, 0, none⟩) l.length cap2, .int .i64 (c + k), .int .u8 t[k].toNat] 69)).heap.size := Nat.lt_of_lt_of_le hz3 hb4.size; have s0' := (hb4.cell (p := ⟨Z, 0, none⟩) hz3).trans t0; have s1' := (hb4.cell (p := ⟨Z, 1, none⟩) hz3).trans t1; have s2' := (hb4.cell (p := ⟨Z, 2, none⟩) hz3).trans t2))
      all_goals
        have hb3w := hb.thru hb3' hb.size
        have hb5 := (hb3w.alloc hb3w.size _).grown hgrow (hb3w.alloc hb3w.size _).size (fun k hk => (hown3.lt k hk).1)
        have hraw : PickRaw (w3.alloc (.cells #[.slice (some ⟨g, 0, none⟩) l.length cap2, .int .i64 (c + k), .int .u8 t[k].toNat] 69)) W.heap.size ⟨some ⟨g, 0, none⟩, l.length, cap2, c + k, t[k].toNat⟩ ⟨bump l k, c + k, t[k].toNat⟩ := by
          refine ⟨g, cap2, by rw [bump_len], ?_, by rw [bump_len]; unfold maxLen; omega, hr.1, hr.2⟩
          show World.ownsRow _ _ _ _ (.slice _ (bump l k).length _) (bump l k).length (flatS (bump l k))
          rw [bump_len]
          exact (owns_base hownS (by show W.heap.size ≤ wr.heap.size; exact hb.size)).alloc _
        have hrow2 : PickRow w4 W.heap.size v' (xs ++ [⟨bump l k, c + k, t[k].toNat⟩]) := PickRow.snoc hrl (hown3.alloc _) (fun i h h' => ((HRR.out i h h').below hb3').below hb4) hraw hgrow hown4
        go_wp2_with fail
        go_roundw
        case rel => exact ⟨k + 1, by omega, by go_num, by rw [HT.out]; exact hrow2, hb5⟩
        case measure => simp [intOf]; omega
    · have hkl : k = t.size := by omega
      subst hkl
      have hrow' : PickRow wr W.heap.size u3 (atomsR l c t) := hrow
      obtain ⟨p, kk, rfl, hat, _⟩ := hrow'.owns.atoms (Below.refl _ _)
      go_wp2_with fail
      go_ret
      exact ⟨p, kk, rfl, hat, hbA.thru hb hbA.size⟩
end Go.Proofs.Ytfekbfjfjohofab
