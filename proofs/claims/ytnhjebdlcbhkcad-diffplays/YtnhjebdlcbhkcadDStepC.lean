/- Contracts of Diff's literals: a sign that goes. -/
import Derived.Test.YtnhjebdlcbhkcadDStepA
namespace Go.Proofs.Ytnhjebdlcbhkcad
open Go.RowKit
set_option maxRecDepth 100000 in
set_option maxHeartbeats 2000000 in
theorem diff1_ok (T1 T2 base : Nat) (v u : Value) (RT : List (Nat × Nat)) (RP : List (Nat × List UInt8)) (p : Nat) (w : World) (hp : p ≤ 1000) (hR : ∀ g ∈ RT, g.1 + g.2 ≤ 1000) (hl : RT.length ≤ 1000) (h : DiffSt w T1 T2 base v u RT RP) :
    Calls Try.prog 47 #[.int .i64 p, .pointer (some ⟨T1, 0, none⟩)] w fun e w' => e = .returned (.tuple #[]) ∧ (∃ v', DiffSt w' T1 T2 base v' u (tkR RT p) RP) ∧ KeptD T1 T2 base w w' := by
  have HTS := hidE (takeSign_ok base v RT p w hp hR hl h.bw h.o1)
  have c1 := h.c1
  obtain ⟨pv, cv, ev⟩ := owns_sliceE h.o1
  generalize ((RT.map tkEd).reverse).length = L at ev
  have HTK := hidE (fun (w1 : World) (v' : Value) => @DiffSt.take w w1 T1 T2 base v u v' RT (tkR RT p) RP h)
  clear h
  subst ev
  go_enter Try.func47, Try.ntmps47
  go_wp2_with fail
  refine HTS.out.mono ?_
  rintro e w1 ⟨v', rfl, ho, hg, hloc⟩
  obtain ⟨hS, hK, d1, df⟩ := HTK.out w1 v' ho hg hloc
  obtain ⟨pv', cv', ev'⟩ := owns_sliceE ho
  generalize (((tkR RT p).map tkEd).reverse).length = L' at ev'
  subst ev'
  have HS := hidE hS
  have HK := hidE hK
  clear hS hK ho hg hloc HTS HTK c1
  go_wp2_with fail
  go_end0
  exact ⟨rfl, ⟨_, HS.out⟩, HK.out⟩

end Go.Proofs.Ytnhjebdlcbhkcad

namespace Go.Proofs.Ytnhjebdlcbhkcad
open Go.RowKit
theorem extract_one (b : ByteArray) (j : Nat) (h : j < b.size) : b.extract j (j + 1) = ⟨#[b[j]]⟩ := by
  apply ba_ext
  rw [ba_extract_list]
  have h' : j < b.data.toList.length := by simpa using h
  rw [List.take_succ_eq_append_getElem h', List.drop_append_of_le_length (by simp; omega), List.drop_eq_nil_of_le (by simp; omega)]
  rfl

set_option maxRecDepth 100000 in
set_option maxHeartbeats 4000000 in
theorem diff2_ok (T1 T2 Z base : Nat) (v u : Value) (RT : List (Nat × Nat)) (RP : List (Nat × List UInt8)) (p : Nat) (b : ByteArray) (w : World) (hp : p < b.size) (hb : b.size ≤ 300) (hR : ∀ g ∈ RP, g.1 ≤ 1000 ∧ g.2.length ≤ 60) (hl : RP.length ≤ 1000) (hz : w.cell? ⟨Z, 0, none⟩ = some (.string b)) (h : DiffSt w T1 T2 base v u RT RP) :
    Calls Try.prog 49 #[.int .i64 p, .pointer (some ⟨T2, 0, none⟩), .pointer (some ⟨Z, 0, none⟩)] w fun e w' => e = .returned (.tuple #[]) ∧ (∃ u', DiffSt w' T1 T2 base v u' RT (ptR RP p b[p])) ∧ KeptD T1 T2 base w w' := by
  have HPS := hidE (putSign_ok base u RP p b[p] w.drew (by omega) hR hl h.bw h.drew.o2)
  rw [← extract_one b p hp] at HPS
  have c2 := h.c2
  obtain ⟨pv, cv, ev⟩ := owns_sliceE h.o2
  generalize ((RP.map ptEd).reverse).length = L at ev
  have HTK := hidE (fun (w1 : World) (v' : Value) => @DiffSt.put w.drew w1 T1 T2 base v u v' RT RP (ptR RP p b[p]) h.drew)
  have hwp : IntKind.i64.wrap ((p : Int) + 1) = ((p + 1 : Nat) : Int) := by rw [IntKind.wrap_i64] <;> omega
  have hp1 : p + 1 ≤ b.size := hp
  have hpp : p ≤ p + 1 := Nat.le_succ p
  clear h
  subst ev
  go_enter Try.func49, Try.ntmps49
  go_region_with (go_at_call 50; refine HPS.out.mono ?_; rintro e w1 ⟨v', rfl, ho, hg, hloc⟩; obtain ⟨hS, hK, d1, df⟩ := HTK.out w1 v' ho hg hloc; obtain ⟨pv', cv', ev'⟩ := owns_sliceE ho; generalize (((ptR RP p b[p]).map ptEd).reverse).length = L' at ev'; subst ev'; have HS := hidE hS; have HK := hidE hK; clear hS hK ho hg hloc)
  all_goals
    go_wp2_with fail
    go_end0
    exact ⟨rfl, ⟨_, HS.out⟩, (KeptD.of_below (Below.refl _ _).drew).trans HK.out⟩
end Go.Proofs.Ytnhjebdlcbhkcad
