/- Contracts of the reference's Taker: bytes. -/
import Derived.Test.YtnhjebdlcbhkcadWireRd
import Derived.Test.YtnhjebdlcbhkcadText
import Derived.Test.YtnhjebdlcbhkcadRdOne
import Derived.Deep.RegionHeld3
namespace Go.Proofs.Ytnhjebdlcbhkcad
open Go.RowKit

/-- the taker at T is at this place of this text; is it bad? -/
abbrev TkSt (w : World) (T : Nat) (s : ByteArray) (n : Nat) (e : Bool) : Prop := Blk w T #[.string s, .int .i64 (n : Nat), .bool e] 103
/-- what is left -/
abbrev lft (s : ByteArray) (n : Nat) : List UInt8 := s.data.toList.drop n

theorem lft_cons {s : ByteArray} {n : Nat} (h : n < s.size) : lft s n = s[n] :: lft s (n + 1) := by
  unfold lft
  rw [List.drop_eq_getElem_cons (by simpa using h)]; rfl
theorem lft_nil {s : ByteArray} {n : Nat} (h : s.size ≤ n) : lft s n = [] := List.drop_eq_nil_of_le (by simpa using h)

/-- what a number that is taken is -/
def TakeGives (p : List UInt8 → Option (Int × List UInt8)) (top : Int) (T : Nat) (s : ByteArray) (n : Nat) (e : Bool) (w : World) (r : Ending) (w' : World) : Prop :=
  ∃ (x : Int) (m : Nat) (e' : Bool), r = .returned (.int .i64 x) ∧ TkSt w' T s m e' ∧ Rd p (lft s n) e x (lft s m) e' ∧ 0 ≤ x ∧ x ≤ top ∧ m ≤ s.size ∧ w.grownBy w' (some T)

set_option maxRecDepth 100000 in
set_option maxHeartbeats 2000000 in
theorem tkOne_ok (T : Nat) (s : ByteArray) (n : Nat) (e : Bool) (w : World) (h : TkSt w T s n e) (hn : n ≤ s.size) (hs : s.size ≤ maxLen) :
    Calls Try.prog 61 #[.pointer (some ⟨T, 0, none⟩)] w (TakeGives p1 255 T s n e w) := by
  have c0 := h.is 0 rfl
  have c1 := h.is 1 rfl
  have c2 := h.is 2 rfl
  have hf := h.frozen
  have hm : (s.size : Int) ≤ 9223372036854775807 := by unfold maxLen at hs; omega
  have HH := hidE (fun n0 => (show TkSt (w.drewN n0) T s n e from h))
  have HG0 := hidE (fun n0 => grownBy_none (show Below w.heap.size w (w.drewN n0) from ⟨rfl, rfl, rfl, Nat.le_refl _, fun _ _ => rfl⟩) (row := some T))
  clear h
  by_cases hbad : e = true ∨ s.size ≤ n
  · have HR : Hid (Rd p1 (lft s n) e 0 (lft s n) true) := by
      show Rd _ _ _ _ _ _
      rcases hbad with rfl | hge
      · exact Rd.lost (Or.inl rfl)
      · rw [lft_nil hge]; exact Rd.one_nil
    have hge : e = false → (n : Int) ≥ (s.size : Int) := fun he => by
      rcases hbad with h | h
      · rw [he] at h; cases h
      · omega
    clear hbad
    cases e with
    | true =>
      clear hge
      go_enter Try.func61, Try.ntmps61
      go_upto_region 1 with fail
      go_quiet (fail)
      have hh := HH.out nq
      have HG := hidE (HG0.out nq)
      generalize w.drewN nq = w1 at *
      clear c0 c1 c2 hf HH HG0
      have c2 := hh.is 2 rfl
      have hf := hh.frozen
      have HS := hidE (hh.set 2 (.bool true))
      have HG2 := hidE (HG.out.trans (grownBy_set' w1 T 2 (.bool true)))
      clear hh
      go_wp2_with fail
      go_ret
      exact ⟨0, n, true, rfl, HS.out, HR.out, by decide, by decide, hn, HG2.out⟩
    | false =>
      have hge' := hge rfl
      have hge2 : decide ((n : Int) ≥ (s.size : Int)) = true := decide_eq_true hge'
      clear hge
      go_enter Try.func61, Try.ntmps61
      go_upto_region 1 with fail
      go_quiet (fail)
      have hh := HH.out nq
      have HG := hidE (HG0.out nq)
      generalize w.drewN nq = w1 at *
      clear c0 c1 c2 hf HH HG0
      have c2 := hh.is 2 rfl
      have hf := hh.frozen
      have HS := hidE (hh.set 2 (.bool true))
      have HG2 := hidE (HG.out.trans (grownBy_set' w1 T 2 (.bool true)))
      clear hh
      go_wp2_with fail
      go_ret
      exact ⟨0, n, true, rfl, HS.out, HR.out, by decide, by decide, hn, HG2.out⟩
  · have he : e = false := by cases e <;> simp_all
    have hlt : n < s.size := by simp_all
    subst he
    have HR : Hid (Rd p1 (lft s n) false s[n].toNat (lft s (n + 1)) false) := by
      show Rd _ _ _ _ _ _
      rw [lft_cons hlt]; exact Rd.one_cons
    have hu := u8_range s[n]
    have HU := hidE hu
    have hwr : IntKind.i64.wrap (s[n].toNat : Int) = (s[n].toNat : Int) := by rw [IntKind.wrap_i64] <;> omega
    have hlt2 : ¬ ((n : Int) ≥ (s.size : Int)) := by omega
    have hlt3 : decide ((n : Int) ≥ (s.size : Int)) = false := decide_eq_false hlt2
    have hw1 : IntKind.i64.wrap ((n : Int) + 1) = (n : Int) + 1 := by rw [IntKind.wrap_i64] <;> omega
    have hw2 : IntKind.i64.wrap ((n : Int) + 1 - 1) = (n : Int) := by rw [IntKind.wrap_i64] <;> omega
    have hi1 : (n : Int) < (s.size : Int) := by omega
    clear hu hbad
    go_enter Try.func61, Try.ntmps61
    go_upto_region 1 with fail
    go_quiet (fail)
    have hh := HH.out nq
    have HG := hidE (HG0.out nq)
    generalize w.drewN nq = w1 at *
    clear c0 c1 c2 hf HH HG0
    have c1 := hh.is 1 rfl
    have hf := hh.frozen
    have hS : TkSt (w1.setCell ⟨T, 1, none⟩ (.int .i64 ((n : Int) + 1))) T s (n + 1) false := hh.set 1 _
    have HG2 := hidE (HG.out.trans (grownBy_set' w1 T 1 (.int .i64 ((n : Int) + 1))))
    clear hh HG
    go_upto_region 5 with fail
    generalize w1.setCell ⟨T, 1, none⟩ (.int .i64 ((n : Int) + 1)) = w2 at *
    clear c1 hf
    have c0 := hS.is 0 rfl
    have c1 : w2.cell? ⟨T, 1, none⟩ = some (.int .i64 ((n : Int) + 1)) := hS.is 1 rfl
    have HH := hidE (fun n0 => (show TkSt (w2.drewN n0) T s (n + 1) false from hS))
    have HG0 := hidE (fun n0 => grownBy_none (show Below w2.heap.size w2 (w2.drewN n0) from ⟨rfl, rfl, rfl, Nat.le_refl _, fun _ _ => rfl⟩) (row := some T))
    clear hS
    go_quiet (fail)
    have HS := hidE (HH.out nq)
    have HG3 := hidE (HG2.out.trans (HG0.out nq))
    generalize w2.drewN nq = w3 at *
    clear HH HG0 c0 c1 HG2
    go_wp2_with fail
    go_ret
    exact ⟨_, n + 1, false, rfl, HS.out, HR.out, HU.out.1, HU.out.2, hlt, HG3.out⟩

set_option maxRecDepth 100000 in
set_option maxHeartbeats 1000000 in
theorem tkTwo_ok (T : Nat) (s : ByteArray) (n : Nat) (e : Bool) (w : World) (h : TkSt w T s n e) (hn : n ≤ s.size) (hs : s.size ≤ maxLen) :
    Calls Try.prog 62 #[.pointer (some ⟨T, 0, none⟩)] w (TakeGives p2 65535 T s n e w) := by
  have H1 := hidE (tkOne_ok T s n e w h hn hs)
  clear h
  go_enter Try.func62, Try.ntmps62
  go_wp2_with fail
  refine H1.out.mono ?_
  rintro r w1 ⟨a, n1, e1, rfl, hS, hR, a0, a1, hn1, hg⟩
  have H2 := hidE (tkOne_ok T s n1 e1 w1 hS hn1 hs)
  have HR := hidE hR
  have HG := hidE hg
  clear hS hR hg H1
  go_wp2_with fail
  refine H2.out.mono ?_
  rintro r w2 ⟨b, n2, e2, rfl, hS, hR, b0, b1, hn2, hg⟩
  have HS := hidE hS
  have HR2 := hidE (HR.out.two hR)
  have HG2 := hidE (HG.out.trans hg)
  have hw1 : IntKind.i64.wrap (256 * b) = 256 * b := by rw [IntKind.wrap_i64] <;> omega
  have hw2 : IntKind.i64.wrap (a + 256 * b) = a + 256 * b := by rw [IntKind.wrap_i64] <;> omega
  clear hS hR hg HR HG H2
  go_wp2_with fail
  go_ret
  exact ⟨_, n2, e2, rfl, HS.out, HR2.out, by omega, by omega, hn2, HG2.out⟩
end Go.Proofs.Ytnhjebdlcbhkcad
