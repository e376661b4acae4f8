/- Contracts of wire's reader: bytes. -/
import Derived.Test.YtnhjebdlcbhkcadWireRd
import Derived.Test.YtnhjebdlcbhkcadText
namespace Go.Proofs.Ytnhjebdlcbhkcad
open Go.RowKit

/-- the reader at R has this text left; is it wrong? -/
abbrev RdSt (w : World) (R : Nat) (s : ByteArray) (e : Bool) : Prop := Blk w R #[.string s, .bool e] 91

theorem size_nil {s : ByteArray} (h : s.size = 0) : s.data.toList = [] := List.length_eq_zero_iff.1 (by simpa using h)
theorem cons_bytes {s : ByteArray} (h : 0 < s.size) : s.data.toList = s[0] :: (s.extract 1 s.size).data.toList := by
  have e : (s.extract 1 s.size).data.toList = s.data.toList.drop 1 := by
    rw [ByteArray.data_extract, Array.toList_extract]
    simp [List.extract]
    exact List.take_of_length_le (by simp)
  have h' : 0 < s.data.toList.length := by simpa using h
  rw [e]
  conv => lhs; rw [← List.drop_zero (l := s.data.toList), List.drop_eq_getElem_cons h']
  rfl

set_option maxRecDepth 100000 in
set_option maxHeartbeats 1000000 in
theorem rdOne_ok (R : Nat) (s : ByteArray) (e : Bool) (w : World) (h : RdSt w R s e) (hs : s.size ≤ maxLen) :
    Calls Try.prog 99 #[.pointer (some ⟨R, 0, none⟩)] w fun r w' => ∃ (x : Int) (s' : ByteArray) (e' : Bool), r = .returned (.int .i64 x) ∧ RdSt w' R s' e' ∧ Rd p1 s.data.toList e x s'.data.toList e' ∧ 0 ≤ x ∧ x ≤ 255 ∧ s'.size ≤ s.size ∧ w.grownBy w' (some R) := by
  have c0 := h.is 0 rfl
  have c1 := h.is 1 rfl
  have f0 := h.frozen 0
  have f1 := h.frozen 1
  rcases Nat.eq_zero_or_pos s.size with h0 | h0
  · have hte : s.toList.isEmpty = true := by rw [isEmpty_size, h0]; rfl
    have HS := hidE (h.set 1 (.bool true))
    have HR : Hid (Rd p1 s.data.toList e 0 s.data.toList true) := by show Rd _ _ _ _ _ _; rw [size_nil h0]; exact Rd.one_nil
    have HG := hidE (grownBy_set' w R 1 (.bool true))
    clear h h0
    go_enter Try.func99, Try.ntmps99
    go_wp2_with fail
    go_ret
    exact ⟨0, s, true, rfl, HS.out, HR.out, by omega, by omega, Nat.le_refl _, HG.out⟩
  · have hte : s.toList.isEmpty = false := by rw [isEmpty_size]; simpa using (show ¬ s.size = 0 by omega)
    have HS := hidE (h.set 0 (.string (s.extract 1 s.size)))
    have hu := u8_range s[0]
    have HU := hidE hu
    have hwr : IntKind.i64.wrap (s[0].toNat : Int) = (s[0].toNat : Int) := by rw [IntKind.wrap_i64] <;> omega
    have HR : Hid (Rd p1 s.data.toList e s[0].toNat (s.extract 1 s.size).data.toList e) := by show Rd _ _ _ _ _ _; rw [cons_bytes h0]; exact Rd.one_cons
    have HG := hidE (grownBy_set' w R 0 (.string (s.extract 1 s.size)))
    have HSZ : Hid ((s.extract 1 s.size).size ≤ s.size) := by show _ ≤ _; rw [ByteArray.size_extract]; omega
    have hi0 : (0 : Int) < (s.size : Int) := by omega
    have hi1 : (1 : Int) ≤ (s.size : Int) := by omega
    have hm : (s.size : Int) ≤ 9223372036854775807 := by unfold maxLen at hs; omega
    clear h hu
    go_enter Try.func99, Try.ntmps99
    go_wp2_with fail
    go_ret
    exact ⟨_, _, e, rfl, HS.out, HR.out, HU.out.1, HU.out.2, HSZ.out, HG.out⟩

set_option maxRecDepth 100000 in
set_option maxHeartbeats 1000000 in
theorem rdTwo_ok (R : Nat) (s : ByteArray) (e : Bool) (w : World) (h : RdSt w R s e) (hs : s.size ≤ maxLen) :
    Calls Try.prog 100 #[.pointer (some ⟨R, 0, none⟩)] w fun r w' => ∃ (x : Int) (s' : ByteArray) (e' : Bool), r = .returned (.int .i64 x) ∧ RdSt w' R s' e' ∧ Rd p2 s.data.toList e x s'.data.toList e' ∧ 0 ≤ x ∧ x ≤ 65535 ∧ s'.size ≤ s.size ∧ w.grownBy w' (some R) := by
  have H1 := hidE (rdOne_ok R s e w h hs)
  clear h
  go_enter Try.func100, Try.ntmps100
  go_wp2_with fail
  refine H1.out.mono ?_
  rintro r w1 ⟨a, s1, e1, rfl, hS, hR, a0, a1, hz, hg⟩
  have H2 := hidE (rdOne_ok R s1 e1 w1 hS (by omega))
  have HR := hidE hR
  have HG := hidE hg
  clear hS hR hg H1
  go_wp2_with fail
  refine H2.out.mono ?_
  rintro r w2 ⟨b, s2, e2, rfl, hS, hR, b0, b1, hz2, hg⟩
  have HS := hidE hS
  have HR2 := hidE (HR.out.two hR)
  have HG2 := hidE (grownBy_trans' HG.out hg)
  have hw1 : IntKind.i64.wrap (256 * b) = 256 * b := by rw [IntKind.wrap_i64] <;> omega
  have hw2 : IntKind.i64.wrap (a + 256 * b) = a + 256 * b := by rw [IntKind.wrap_i64] <;> omega
  clear hS hR hg HR HG H2
  go_wp2_with fail
  go_ret
  exact ⟨_, s2, e2, rfl, HS.out, HR2.out, by omega, by omega, by omega, HG2.out⟩
/-- what a list that is read is: a row of the call's own -/
def ListGives {α β : Type} (T : TypeId) (K : Nat) (cells : α → List Value) (E : World → Nat → α → Prop) (p : List UInt8 → Option (β × List UInt8)) (f : α → β) (w : World) (R k : Nat) (s : ByteArray) (e : Bool) (r : Ending) (w' : World) : Prop :=
  ∃ (v : Value) (xs : List α) (s' : ByteArray) (e' : Bool), r = .returned v ∧ xs.length = k ∧ RowOwn T K cells E w' w.heap.size v xs ∧ RdSt w' R s' e' ∧ Rd (pMany p k) s.data.toList e (xs.map f) s'.data.toList e' ∧ s'.size ≤ s.size ∧ w.grownBy w' (some R)
end Go.Proofs.Ytnhjebdlcbhkcad
