/- Deeds that lie somewhere. -/
import Derived.Test.YtnhjebdlcbhkcafDeedC
import Derived.Test.YtnhjebdlcbhkcafOrderC
namespace Go.Proofs.Ytnhjebdlcbhkcaf
open Go.RowKit

/-- deeds lie there, seven cells each -/
def DeedsAt (w : World) (r : Option Addr) (ds : List Dd) : Prop :=
  ds = [] ∨ ∃ b o, r = some ⟨b, o, none⟩ ∧ b < w.heap.size ∧ ∀ i (h : i < ds.length), ∃ p cp q cq, w.cell? ⟨b, o + i * 7, none⟩ = some (.int .i64 ds[i].kind) ∧ w.cell? ⟨b, o + i * 7 + 1, none⟩ = some (.slice p ds[i].rp.length cp) ∧ w.cell? ⟨b, o + i * 7 + 2, none⟩ = some (.int .i64 ds[i].rc) ∧ w.cell? ⟨b, o + i * 7 + 3, none⟩ = some (.string ds[i].rt) ∧ w.cell? ⟨b, o + i * 7 + 4, none⟩ = some (.slice q ds[i].mp.length cq) ∧ w.cell? ⟨b, o + i * 7 + 5, none⟩ = some (.int .i64 ds[i].mc) ∧ w.cell? ⟨b, o + i * 7 + 6, none⟩ = some (.int .i64 ds[i].many) ∧ DdAt w ds[i] p q ∧ -9223372036854775808 ≤ ds[i].many ∧ ds[i].many ≤ 9223372036854775807

theorem DeedsAt.below {w w' : World} {r : Option Addr} {ds : List Dd} (h : DeedsAt w r ds) (hb : Below w.heap.size w w') : DeedsAt w' r ds := by
  rcases h with h | ⟨b, o, rfl, hlt, hc⟩
  · exact Or.inl h
  · refine Or.inr ⟨b, o, rfl, Nat.lt_of_lt_of_le hlt hb.size, fun i hi => ?_⟩
    obtain ⟨p, cp, q, cq, h0, h1, h2, h3, h4, h5, h6, h7, h8⟩ := hc i hi
    exact ⟨p, cp, q, cq, (hb.cell (p := ⟨b, o + i * 7, none⟩) hlt).trans h0, (hb.cell (p := ⟨b, o + i * 7 + 1, none⟩) hlt).trans h1, (hb.cell (p := ⟨b, o + i * 7 + 2, none⟩) hlt).trans h2, (hb.cell (p := ⟨b, o + i * 7 + 3, none⟩) hlt).trans h3, (hb.cell (p := ⟨b, o + i * 7 + 4, none⟩) hlt).trans h4, (hb.cell (p := ⟨b, o + i * 7 + 5, none⟩) hlt).trans h5, (hb.cell (p := ⟨b, o + i * 7 + 6, none⟩) hlt).trans h6, h7.below hb, h8⟩
end Go.Proofs.Ytnhjebdlcbhkcaf

namespace Go.Proofs.Ytnhjebdlcbhkcaf
open Go.RowKit

/-- numbers that lie somewhere -/
def IntsAt (w : World) (a : Option Addr) (l : List Int) : Prop := l = [] ∨ ∃ b off, a = some ⟨b, off, none⟩ ∧ b < w.heap.size ∧ ∀ i (h : i < l.length), w.cell? ⟨b, off + i, none⟩ = some (.int .i64 l[i])
theorem IntsAt.below {w w' : World} {a : Option Addr} {l : List Int} (h : IntsAt w a l) (hb : Below w.heap.size w w') : IntsAt w' a l := by
  rcases h with h | ⟨b, off, e, hlt, hc⟩
  · exact Or.inl h
  · exact Or.inr ⟨b, off, e, Nat.lt_of_lt_of_le hlt hb.size, fun i hi => (hb.cell (p := ⟨b, off + i, none⟩) hlt).trans (hc i hi)⟩

def okNum (n : Int) : Bool := inB n 0 500
def okNums (l : List Int) : Bool := l.all okNum

set_option maxHeartbeats 400000 in
theorem wrongW_any (n : Int) (w : World) :
    Calls Try.prog 21 #[.int .i64 n] w fun e w' => e = .returned (.bool (!okNum n)) ∧ w' = w := by
  by_cases h1 : n < 0 <;> by_cases h2 : n > 500
  all_goals
    go_enter Try.func21, Try.ntmps21
    go_wp2
    go_ret
    exact ⟨ret_bool (by simp [okNum, inB]; omega), rfl⟩

set_option maxHeartbeats 400000 in
theorem indexFuncW_any (a : Option Addr) (cap : Nat) (l : List Int) (w : World) (hl : l.length ≤ maxLen) (h : IntsAt w a l) :
    Calls Try.prog 35 #[.slice a l.length cap, .func (.func 21) #[] #[]] w fun e w' => (∃ r : Int, e = .returned (.int .i64 r) ∧ (0 ≤ r ↔ l.any (fun s => !okNum s) = true)) ∧ Below w.heap.size w w' := by
  unfold maxLen at hl
  go_enter Try.func35, Try.ntmps35
  go_wp2
  go_loopw [8] (fun i wr => ∃ k : Nat, k ≤ l.length ∧ i = .int .i64 k ∧ (∀ j (hj : j < l.length), j < k → okNum l[j] = true) ∧ Below w.heap.size w wr) (fun i _ => l.length - (intOf i).toNat)
  case atStart => exact ⟨0, Nat.zero_le _, rfl, fun j _ hj => absurd hj (Nat.not_lt_zero _), Below.refl _ _⟩
  case round =>
    obtain ⟨k, hk, rfl, hall, hb⟩ := hrel
    by_cases hlt : k < l.length
    · have hs := h.below hb
      rcases hs with hs | ⟨b, off, rfl, hbl, hc⟩
      · simp [hs] at hlt
      have hc0 := hc k hlt
      clear hc h
      generalize hd : l[k] = d at hc0
      have HK : Hid (okNum l[k] = okNum d) := by show okNum l[k] = okNum d; rw [← hd]
      clear hd
      go_wp2_with (go_at_call 21; refine (wrongW_any _ _).mono ?_; rintro e w' ⟨rfl, rfl⟩)
      · have hno : okNum d = false := by simp_all
        go_ret
        refine ⟨⟨_, rfl, ?_⟩, hb⟩
        have : l.any (fun s => !okNum s) = true := List.any_eq_true.2 ⟨l[k], List.getElem_mem hlt, by rw [HK.out, hno]; rfl⟩
        simp [this]
      · have hyes : okNum d = true := by simp_all
        go_roundw
        case rel =>
          refine ⟨k + 1, by omega, by go_num, fun j hj hjk => ?_, hb⟩
          by_cases e : j = k
          · subst e; rw [HK.out, hyes]
          · exact hall j hj (by omega)
        case measure => simp [intOf]; omega
    · go_wp2
      go_ret
      refine ⟨⟨_, rfl, ?_⟩, hb⟩
      have : l.any (fun s => !okNum s) = false := by
        rw [List.any_eq_false]
        intro x hx
        obtain ⟨i, hi, rfl⟩ := List.getElem_of_mem hx
        simp [hall i hi (by omega)]
      simp [this]

set_option maxHeartbeats 400000 in
theorem containsFuncW_any (a : Option Addr) (cap : Nat) (l : List Int) (w : World) (hl : l.length ≤ maxLen) (h : IntsAt w a l) :
    Calls Try.prog 22 #[.slice a l.length cap, .func (.func 21) #[] #[]] w fun e w' => e = .returned (.bool (!okNums l)) ∧ Below w.heap.size w w' := by
  go_enter Try.func22, Try.ntmps22
  go_wp2_with (go_at_call 35; refine (indexFuncW_any _ _ _ _ hl h).mono ?_; rintro e w' ⟨⟨r, rfl, hr⟩, hb⟩)
  go_ret
  refine ⟨ret_bool ?_, hb⟩
  rw [Bool.eq_iff_iff]
  simp only [decide_eq_true_eq]
  simp [okNums]
end Go.Proofs.Ytnhjebdlcbhkcaf
