/- Contract of wire's writer: marks. -/
import Derived.Test.YtnhjebdlcbhkcadWrOne
namespace Go.Proofs.Ytnhjebdlcbhkcad
open Go.RowKit

theorem KeptW.low {w0 w w' : World} {R base : Nat} (h : KeptW R base w w') (hb : Below w0.heap.size w0 w) (hR : w0.heap.size ≤ R) (hRb : R < base) : Below w0.heap.size w0 w' :=
  ⟨h.os.trans hb.os, h.tape.trans hb.tape, h.output.trans hb.output, Nat.le_trans hb.size h.size, fun k hk => (h.block k (Nat.lt_of_lt_of_le hk hb.size) (by omega) (Or.inl (by omega))).trans (hb.block k hk)⟩

theorem eSteps_len : ∀ p : List (Int × Int), (eSteps p).length = 2 * p.length
  | [] => rfl
  | x :: p => by
    have ih := eSteps_len p
    unfold eSteps at *
    rw [List.flatMap_cons, List.length_append, ih, List.length_cons]
    simp only [List.length_cons, List.length_nil]
    omega
theorem eSteps_take {p : List (Int × Int)} {k : Nat} (h : k < p.length) : eSteps (p.take (k + 1)) = eSteps (p.take k) ++ [p[k].1, p[k].2] := by
  unfold eSteps
  rw [List.take_succ_eq_append_getElem h, List.flatMap_append]
  rfl

set_option maxRecDepth 100000 in
set_option maxHeartbeats 4000000 in
theorem wrMark_ok (R base : Nat) (v : Value) (l : List Int) (a : Option Addr) (cap : Nat) (p : List (Int × Int)) (c : Int) (w0 w : World) (h : WrSt w R base v l) (hm : RoomM p c) (hp : StepsAt w0 a p) (hb : Below w0.heap.size w0 w) (hR : w0.heap.size ≤ R) (hl : l.length ≤ 500000) :
    Calls Try.prog 123 #[.pointer (some ⟨R, 0, none⟩), .agg #[.slice a p.length cap, .int .i64 c]] w fun e w' => e = .returned (.tuple #[]) ∧ (∃ v', WrSt w' R base v' (l ++ encM p c)) ∧ KeptW R base w w' := by
  obtain ⟨r1, r2, r3, r4⟩ := hm
  have hA := h.alloc (Obj.cells #[.slice a p.length cap, .int .i64 c] 29)
  have hKA := (KeptW.refl R base w).alloc (Obj.cells #[.slice a p.length cap, .int .i64 c] 29)
  have hBA := Blk.new w #[.slice a p.length cap, .int .i64 c] 29
  have hZR : w.heap.size ≠ R := by have := h.lt; have := h.le; omega
  have hlt := h.lt
  go_enter Try.func123, Try.ntmps123
  go_upto_region 1 with fail
  generalize hW : w.alloc (Obj.cells #[.slice a p.length cap, .int .i64 c] 29) = W at *
  clear hW
  generalize hZ : w.heap.size = Z at *
  clear hZ
  have c0 := hBA.is 0 rfl
  have c1 := hBA.is 1 rfl
  have H1 := hidE (wrOne_ok R base v l (p.length : Int) W hA (by omega) (by omega) (by omega))
  have HKA := hidE hKA
  have HBA := hidE hBA
  clear hA h hKA hBA
  go_wp2_with fail
  refine H1.out.mono ?_
  rintro e w1 ⟨rfl, ⟨v1, hS⟩, hK⟩
  have hB1 := hK.blk HBA.out hZR (by decide)
  have HK1 := hidE (HKA.out.trans hK)
  have HB1 := hidE hB1
  have HS1 := hidE hS
  replace c0 := hB1.is 0 rfl
  replace c1 := hB1.is 1 rfl
  clear hS hK H1 HKA HBA hB1
  go_wp2_with fail
  go_loopw [14] (fun i wr => ∃ k : Nat, k ≤ p.length ∧ i = .int .i64 k ∧ (∃ v', WrSt wr R base v' ((l ++ [(p.length : Int)]) ++ eSteps (p.take k))) ∧ KeptW R base w wr ∧ Blk wr Z #[.slice a p.length cap, .int .i64 c] 29) (fun i _ => p.length - (intOf i).toNat)
  case atStart => exact ⟨0, Nat.zero_le _, rfl, ⟨v1, by simpa [eSteps] using HS1.out⟩, HK1.out, HB1.out⟩
  case round =>
    clear HS1 HK1 HB1 c0 c1
    obtain ⟨k, hk, rfl, ⟨v2, hS⟩, hK, hBl⟩ := hrel
    rcases Nat.lt_or_ge k p.length with hlk | hge
    · have hpw := hp.below (hK.low hb hR hlt) (Nat.le_refl _)
      rcases hpw with hz | ⟨ab, ao, rfl, hab, hc⟩
      · simp [hz] at hlk
      obtain ⟨s0, s1⟩ := hc k hlk
      obtain ⟨m1, m2, m3, m4⟩ := r2 p[k] (List.getElem_mem hlk)
      have hi1 : (k : Int) < (p.length : Int) := by omega
      have HE : Hid ((l ++ [(p.length : Int)]) ++ eSteps (p.take (k + 1)) = (((l ++ [(p.length : Int)]) ++ eSteps (p.take k)) ++ [p[k].1]) ++ [p[k].2]) := by
        show _ = _
        rw [eSteps_take hlk]
        simp only [List.append_assoc, List.cons_append, List.nil_append]
      have hlen : ((l ++ [(p.length : Int)]) ++ eSteps (p.take k)).length ≤ 600000 := by
        have e1 := eSteps_len (p.take k)
        rw [List.length_take] at e1
        simp only [List.length_append, e1, List.length_cons, List.length_nil]
        omega
      generalize hX : (l ++ [(p.length : Int)]) ++ eSteps (p.take k) = X at *
      clear hc hX hp
      have hwN := Blk.new wr #[.int .i64 p[k].1, .int .i64 p[k].2] 110
      have hSA := hS.alloc (Obj.cells #[.int .i64 p[k].1, .int .i64 p[k].2] 110)
      have hKA := hK.alloc (Obj.cells #[.int .i64 p[k].1, .int .i64 p[k].2] 110)
      have hBlA := hBl.alloc (Obj.cells #[.int .i64 p[k].1, .int .i64 p[k].2] 110)
      have hNR : wr.heap.size ≠ R := by have := hS.le; omega
      have hsz := hwN.lt
      clear hS hK hBl
      generalize p[k] = s at *
      obtain ⟨d, t⟩ := s
      simp only at *
      go_upto_region 5 with fail
      generalize wr.alloc (Obj.cells #[.int .i64 d, .int .i64 t] 110) = W5 at *
      generalize hN : wr.heap.size = N at *
      clear hN s0 s1
      have H5 := hidE (wrOne_ok R base v2 X d W5 hSA m1 m2 (by omega))
      replace s0 := hwN.is 0 rfl
      have HWN := hidE hwN
      have HKA := hidE hKA
      have HBL := hidE hBlA
      clear hwN hSA hKA hBlA
      go_wp2_with fail
      refine H5.out.mono ?_
      rintro e w6 ⟨rfl, ⟨v3, hS⟩, hK⟩
      have hN6 := hK.blk HWN.out hNR (by decide)
      replace s0 := hN6.is 1 rfl
      have HBL6 := hidE (hK.blk HBL.out hZR (by decide))
      have HK6 := hidE (HKA.out.trans hK)
      have H6 := hidE (wrOne_ok R base v3 (X ++ [d]) t w6 hS m3 m4 (by rw [List.length_append]; simp; omega))
      clear hS hK hN6 HBL HKA HWN H5
      go_wp2_with fail
      refine H6.out.mono ?_
      rintro e w7 ⟨rfl, ⟨v4, hS⟩, hK⟩
      have HS7 := hidE hS
      have HBL7 := hidE (hK.blk HBL6.out hZR (by decide))
      have HK7 := hidE (HK6.out.trans hK)
      clear hS hK HBL6 HK6 H6
      go_wp2_with fail
      go_roundw
      case rel => exact ⟨k + 1, hlk, by go_num, ⟨v4, by rw [HE.out]; exact HS7.out⟩, HK7.out, HBL7.out⟩
      case measure => simp [intOf]; omega
    · have hkl : k = p.length := by omega
      subst hkl
      rw [List.take_length] at hS
      have hlen : ((l ++ [(p.length : Int)]) ++ eSteps p).length ≤ 600000 := by
        have e1 := eSteps_len p
        simp only [List.length_append, e1, List.length_cons, List.length_nil]
        omega
      have HE : Hid (l ++ encM p c = ((l ++ [(p.length : Int)]) ++ eSteps p) ++ e2 c) := by show _ = _; simp [encM]
      generalize (l ++ [(p.length : Int)]) ++ eSteps p = X at *
      have c1 := hBl.is 1 rfl
      have H8 := hidE (wrTwo_ok R base v2 X c wr hS r3 r4 (by omega))
      have HK := hidE hK
      have hi1 : ¬ ((p.length : Int) < (p.length : Int)) := by omega
      clear hS hK hBl
      go_wp2_with fail
      refine H8.out.mono ?_
      rintro e w9 ⟨rfl, ⟨v4, hS⟩, hK⟩
      have HS := hidE hS
      have HK9 := hidE (HK.out.trans hK)
      clear hS hK HK H8
      go_wp2_with fail
      go_end0
      exact ⟨rfl, ⟨v4, by rw [HE.out]; exact HS.out⟩, HK9.out⟩
end Go.Proofs.Ytnhjebdlcbhkcad
