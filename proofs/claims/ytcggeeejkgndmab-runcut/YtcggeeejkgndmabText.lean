import Derived.Test.YtcggeeejkgndmabAtomCk
import Derived.Deep.OwnRows
import Derived.Laws.BytesArg
namespace Go.Proofs.Ytcggeeejkgndmab
open Go.RowKit

theorem Try.info5 : ∃ i, Try.prog.info? 5 = some i ∧ i.zero = some (.int .u8 0) ∧ i.size = 1 ∧ i.bytes = 1 := by
  have h : (Try.prog.info? 5).map (fun i => (i.zero, i.size, i.bytes)) = some (some (.int .u8 0), 1, 1) := by kernel_rfl
  rw [Option.map_eq_some_iff] at h
  obtain ⟨i, hi, he⟩ := h
  simp only [Prod.mk.injEq] at he
  exact ⟨i, hi, he⟩

theorem chkL_len {l : List At} (h : chkL l = 0) : l.length ≤ 300 := by
  unfold chkL at h; split at h <;> omega

def txtS (l : List At) : ByteArray := strOfNums (l.map At.sign)

set_option maxRecDepth 100000 in
set_option maxHeartbeats 2000000 in
theorem text_bad (a : Option Addr) (cap : Nat) (l : List At) (w : World) (hl : l.length ≤ maxLen) (h : AtomsAt w a l) (h0 : chkL l ≠ 0) :
    Calls Try.prog 72 #[.slice a l.length cap] w fun e w' => e = .returned (.tuple #[.string ⟨#[]⟩, .int .i64 (chkL l)]) ∧ Below w.heap.size w w' := by
  have hx : (chkL l != 0) = true := bne_iff_ne.2 h0
  clear h0
  go_enter Try.func72, Try.ntmps72
  go_wp2_with (go_at_call 38; refine (atomCheck_any _ _ l _ hl h).mono ?_; rintro e w' ⟨rfl, hb⟩)
  refine bodyPost_ret (v := .tuple #[.string ⟨#[]⟩, .int .i64 (chkL l)]) (by simp [results, Try.results72, go_sem]) rfl ?_
  exact ⟨rfl, hb⟩

set_option maxRecDepth 100000 in
set_option maxHeartbeats 2000000 in
theorem text_ok (a : Option Addr) (cap : Nat) (l : List At) (w : World) (h : AtomsAt w a l) (h0 : chkL l = 0) :
    Calls Try.prog 72 #[.slice a l.length cap] w fun e w' => e = .returned (.tuple #[.string (txtS l), .int .i64 0]) ∧ Below w.heap.size w w' := by
  have h300 := chkL_len h0
  have hl : l.length ≤ maxLen := by unfold maxLen; omega
  obtain ⟨i0, hi, hz0, hz1, hz2⟩ := Try.info5
  have hmk : ∀ w : World, (Instr.makeSlice 83 (.int .i64 l.length) (.int .i64 l.length)).run Try.prog w = .ok (.slice (some ⟨w.heap.size, 0, none⟩) l.length l.length) (w.alloc (.cells (madeCells #[.int .u8 0] l.length) 5)) := by
    intro w
    have := run_make (P := Try.prog) w 83 5 i0 _ Try.underlying83 hi hz0 .i64 .i64 l.length l.length (by omega) (Int.le_refl _) (by rw [hz2]; omega) (by omega)
    rw [hz1] at this
    simp only [Int.toNat_natCast, Nat.mul_one] at this
    exact this
  have H0 := hidE h0
  clear h0
  go_enter Try.func72, Try.ntmps72
  go_wp2_with fail
  refine (atomCheck_any _ _ l _ hl h).mono ?_
  rintro e w1 ⟨rfl, hb1⟩
  rw [H0.out]
  go_wp2_with fail
  have hR := World.rowIs_made w1 (.int .u8 0) l.length 5
  have hb2 : Below w1.heap.size w1 (w1.alloc (.cells (madeCells #[.int .u8 0] l.length) 5)) := (Below.refl _ _).alloc (Nat.le_refl _) _
  have hO : w.heap.size ≤ w1.heap.size := hb1.size
  have hb3 := hb1.thru hb2 hb1.size
  generalize w1.alloc (.cells (madeCells #[.int .u8 0] l.length) 5) = W at hR hb3 ⊢
  generalize w1.heap.size = O at hR hO ⊢
  clear hb1 hb2 hmk
  go_loopw [18] (fun i wr => ∃ k : Nat, k ≤ l.length ∧ i = .int .i64 k ∧ (∃ f, wr.rowIs O 5 l.length f ∧ ∀ j, (hj : j < l.length) → j < k → f j = .int .u8 l[j].sign) ∧ Below w.heap.size w wr) (fun i _ => l.length - (intOf i).toNat)
  case atStart => exact ⟨0, Nat.zero_le _, rfl, ⟨_, hR, fun j _ h => by omega⟩, hb3⟩
  case round =>
    obtain ⟨k, hk, rfl, ⟨f, hf, hfk⟩, hb⟩ := hrel
    have HF := hidE hfk
    clear hfk
    by_cases hlt : k < l.length
    · rcases h.below hb (Nat.le_refl _) with hs | ⟨ab, ao, rfl, hab, hc⟩
      · simp [hs] at hlt
      obtain ⟨p, cp, c0, c1, c2, hst, hle, _⟩ := hc k hlt
      have hi1 : (k : Int) < l.length := by omega
      have HS : Hid (∃ sk, sk = l[k].sign) := ⟨_, rfl⟩
      have fc := hf.alloc (.cells #[.slice p l[k].path.length cp, .int .i64 l[k].clock, .int .u8 l[k].sign] 69)
      have ff := fc.frozen k
      have fcc := fc.cell hlt
      have hset := fc.set k (.int .u8 l[k].sign)
      have hON : O ≠ wr.heap.size := by have := hf.lt; omega
      clear hc h
      go_wp2_with fail
      go_roundw
      case rel => exact ⟨k + 1, by omega, by go_num, ⟨_, hset, fun j hj hjk => by
        show (if j = k then _ else f j) = _
        by_cases e : j = k
        · subst e; rw [if_pos rfl]
        · rw [if_neg e]; exact HF.out j hj (by omega)⟩, (hb.alloc hb.size _).setCell hO _⟩
      case measure => simp [intOf]; omega
    · have hkl : k = l.length := by omega
      subst hkl
      have hcv := run_convert_bytes_arg (P := Try.prog) wr 83 5 Try.underlying83 Try.underlying5 O 0 l.length l.length (l.map At.sign) (by simp) (fun i hi => by
        rw [Nat.zero_add, hf.cell hi, HF.out i hi hi]; simp [List.getD, hi])
      have hcv2 := hcv 9 Try.underlying9
      clear hcv
      go_wp2
      refine bodyPost_ret (v := .tuple #[.string (txtS l), .int .i64 0]) (by simp [results, Try.results72, go_sem, txtS]) rfl ?_
      exact ⟨rfl, hb⟩
end Go.Proofs.Ytcggeeejkgndmab
