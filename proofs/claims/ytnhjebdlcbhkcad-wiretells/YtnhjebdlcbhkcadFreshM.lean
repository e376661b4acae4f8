/- Contract of the reference's SameInts. -/
import Derived.Test.YtnhjebdlcbhkcadIntsC
import Derived.Test.YtnhjebdlcbhkcadOwnsF
import Derived.Deep.RegionLawGrows
import Derived.Deep.RegionHeldLaw
namespace Go.Proofs.Ytnhjebdlcbhkcad
open Go.RowKit

set_option maxRecDepth 100000 in
set_option maxHeartbeats 1000000 in
theorem sameInts_any (a a' : Option Addr) (cap cap' : Nat) (l m : List Int) (w : World) (hl : l.length ≤ maxLen) (hl' : m.length ≤ maxLen) (h : IntsAt w a l) (h' : IntsAt w a' m) :
    Calls Try.prog 68 #[.slice a l.length cap, .slice a' m.length cap'] w fun e w' => e = .returned (.bool (decide (l = m))) ∧ Below w.heap.size w w' := by
  unfold maxLen at hl hl'
  by_cases hlm : l.length = m.length
  case neg =>
    have HF : Hid (decide (l = m) = false) := decide_eq_false (fun e => hlm (by rw [e]))
    have hd : ((l.length : Int) != m.length) = true := by rw [bne_iff_ne]; omega
    go_enter Try.func68, Try.ntmps68
    go_wp2_with fail
    go_ret
    exact ⟨ret_bool HF.out.symm, Below.refl _ _⟩
  have HL := hidE hlm
  go_enter Try.func68, Try.ntmps68
  generalize hmn : m.length = mn at hlm hl'
  have HM := hidE hmn
  clear hmn
  subst hlm
  go_wp2_with fail
  go_loopw [5] (fun i wr => ∃ k : Nat, k ≤ l.length ∧ i = .int .i64 k ∧ l.take k = m.take k ∧ Below w.heap.size w wr) (fun i _ => l.length - (intOf i).toNat)
  case atStart => exact ⟨0, Nat.zero_le _, rfl, by simp, Below.refl _ _⟩
  case round =>
    obtain ⟨k, hk, rfl, hck, hb⟩ := hrel
    have HK := hidE hck
    clear hck
    by_cases hlt : k < l.length
    · have hlt' : k < m.length := by have := HM.out; omega
      rcases h.below hb with e | ⟨b, o, rfl, hbl, hc⟩
      · rw [e] at hlt; simp at hlt
      rcases h'.below hb with e | ⟨b', o', rfl, hbl', hc'⟩
      · rw [e] at hlt'; simp at hlt'
      have c0 := hc k hlt
      have c1 := hc' k hlt'
      have HN : Hid (l[k] = m[k] → l.take (k + 1) = m.take (k + 1)) := fun e => by
        rw [List.take_succ_eq_append_getElem hlt, List.take_succ_eq_append_getElem hlt', HK.out, e]
      have HX : Hid (l[k] ≠ m[k] → decide (l = m) = false) := fun e => decide_eq_false (fun e1 => e (by simp [e1]))
      have hi1 : (k : Int) < l.length := by omega
      clear hc hc' h h'
      generalize l[k] = x at c0 HN HX
      generalize m[k] = y at c1 HN HX
      have k0 := cell_regrown c0
      have k1 := cell_regrown c1
      go_upto_region 6 with fail
      refine wp_region_quiet_below (by kernel_rfl) (by kernel_rfl) ?_
      repeat (first | go_big_quiet_step (fail) | quiet_step (fail))
      refine wpQuiet_nil ?_
      intro _ hw'
      obtain ⟨⟨dq, osq⟩, hw''⟩ := hw'
      subst hw''
      replace hb := hb.thru (below_regrown wr dq osq) hb.size
      by_cases hxy : x = y
      · subst hxy
        go_wp2_with fail
        go_roundw
        case rel => exact ⟨k + 1, by omega, by go_num, HN.out rfl, hb⟩
        case measure => simp [intOf]; omega
      · have hd : (x != y) = true := by rw [bne_iff_ne]; exact hxy
        have HF := hidE (HX.out hxy)
        clear hxy HX HN
        go_wp2_with fail
        go_ret
        exact ⟨ret_bool HF.out.symm, hb⟩
    · have HF : Hid (decide (l = m) = true) := decide_eq_true (by
        have := HK.out
        rw [List.take_of_length_le (by omega), List.take_of_length_le (by have := HM.out; omega)] at this
        exact this)
      go_wp2_with fail
      go_ret
      exact ⟨ret_bool HF.out.symm, hb⟩
end Go.Proofs.Ytnhjebdlcbhkcad

namespace Go.Proofs.Ytnhjebdlcbhkcad
open Go.RowKit

set_option maxRecDepth 100000 in
set_option maxHeartbeats 2000000 in
theorem freshMark_ok (b off n c : Nat) (l : List (Int × Int)) (ck : Int) (w : World) (hn : n = l.length) (hl : l.length ≤ maxLen) (hbig : l.length * 16 ≤ 140737488355328) (h : StepsAt w (some ⟨b, off, none⟩) l) :
    Calls Try.prog 37 #[.agg #[.slice (some ⟨b, off, none⟩) n c, .int .i64 ck]] w fun e w' => ∃ g cap, e = .returned (.agg #[.slice (some ⟨g, 0, none⟩) n cap, .int .i64 ck]) ∧ w'.ownsRow w.heap.size 110 2 (.slice (some ⟨g, 0, none⟩) n cap) n (flatS l) ∧ Below w.heap.size w w' := by
  subst hn
  obtain ⟨q0, q1, q3, q4, hz, hb1⟩ := boxes2 w (.slice (some ⟨b, off, none⟩) l.length c) (.int .i64 ck) (.slice none 0 0) (.int .i64 0) 29 29
  have q2 : ∀ o, ((w.alloc (Obj.cells #[.slice (some ⟨b, off, none⟩) l.length c, .int .i64 ck] 29)).alloc (Obj.cells #[.slice none 0 0, .int .i64 0] 29)).frozen? ⟨w.heap.size + 1, o, none⟩ = false := fun o => by go_simp
  go_enter Try.func37, Try.ntmps37
  go_upto_region 1 with fail
  generalize (w.alloc (Obj.cells #[.slice (some ⟨b, off, none⟩) l.length c, .int .i64 ck] 29)).alloc (Obj.cells #[.slice none 0 0, .int .i64 0] 29) = w1 at q0 q1 q2 q3 q4 hz hb1 ⊢
  have z1 : w.heap.size < w1.heap.size := by omega
  have z2 : w.heap.size + 1 < w1.heap.size := by omega
  clear hz
  have hBd : Below w1.heap.size w1 w1.drew := (Below.refl _ _).drew
  have hs1 := h.below hb1 (Nat.le_refl _)
  go_region_held_law (fun w' => w'.cell? ⟨w.heap.size, 0, none⟩ = some (.slice (some ⟨b, off, none⟩) l.length c) ∧ w'.cell? ⟨w.heap.size, 1, none⟩ = some (.int .i64 ck))
      (first | exact ⟨q0, q1⟩ | exact ⟨t0, t1⟩ | exact ⟨cell_other (by omega) (cell_other (by omega) t0), cell_other (by omega) (cell_other (by omega) t1)⟩)
      ((go_at_call 71; refine (clone_any b off _ _ l _ rfl hl hbig (hs1.below hBd (Nat.le_refl _))).mono ?_; rintro e w3 ⟨g, cap2, rfl, hown, hb3⟩; have hb3' : Below w1.heap.size w1 w3 := hBd.thru hb3 (Nat.le_refl _); have t0 := (hb3'.cell (p := ⟨w.heap.size, 0, none⟩) z1).trans q0; have t1 := (hb3'.cell (p := ⟨w.heap.size, 1, none⟩) z1).trans q1; have t3 := (hb3'.cell (p := ⟨w.heap.size + 1, 0, none⟩) z2).trans q3; have t4 := (hb3'.cell (p := ⟨w.heap.size + 1, 1, none⟩) z2).trans q4; have t2 := fun o => (hb3'.frozen (p := ⟨w.heap.size + 1, o, none⟩) z2).trans (q2 o)))
  go_wp2_with fail
  have hg := hown.lt g rfl
  have hgz : w1.heap.size ≤ g := hg.1
  have s3 : (w3.setCell ⟨w.heap.size + 1, 0, none⟩ (.slice (some ⟨g, 0, none⟩) l.length cap2)).cell? ⟨w.heap.size + 1, 1, none⟩ = some (.int .i64 0) := (World.cell?_setCell_other _ _ _ _ (by simp)).trans t4
  refine bodyPost_ret (v := .agg #[.slice (some ⟨g, 0, none⟩) l.length cap2, .int .i64 ck]) (by simp [results, Try.results37, go_sem, t3, s3]) rfl ⟨g, cap2, rfl, ?_, ?_⟩
  · exact ownsRow_setCell_other (ownsRow_setCell_other (owns_base hown (by simp; omega)) (by simp [Value.ownBlock]; omega) _) (by simp [Value.ownBlock]; omega) _
  · exact ((hb1.thru hb3' hb1.size).setCell (by simp) _).setCell (by simp) _

end Go.Proofs.Ytnhjebdlcbhkcad
