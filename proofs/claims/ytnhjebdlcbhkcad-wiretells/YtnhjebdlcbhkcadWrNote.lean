/- Contracts of wire's writer: notes; wire.Encode. -/
import Derived.Test.YtnhjebdlcbhkcadWrDeed
namespace Go.Proofs.Ytnhjebdlcbhkcad
open Go.RowKit

theorem eNeeds_take {l : List Int} {k : Nat} (h : k < l.length) : eNeeds (l.take (k + 1)) = eNeeds (l.take k) ++ e2 l[k] := by
  unfold eNeeds
  rw [List.take_succ_eq_append_getElem h, List.flatMap_append]
  simp
theorem eNeeds_len : ∀ l : List Int, (eNeeds l).length = 2 * l.length
  | [] => rfl
  | x :: p => by
    have ih := eNeeds_len p
    unfold eNeeds at *
    rw [List.flatMap_cons, List.length_append, ih, List.length_cons]
    simp only [e2, List.length_cons, List.length_nil]
    omega
theorem eDeeds_take {l : List Dd} {k : Nat} (h : k < l.length) : eDeeds (l.take (k + 1)) = eDeeds (l.take k) ++ encD l[k] := by
  unfold eDeeds
  rw [List.take_succ_eq_append_getElem h, List.flatMap_append]
  simp
theorem encD_len {d : Dd} (h : RoomD d) : (encD d).length ≤ 1000 := by
  unfold encD
  rcases h with ⟨e1, e2, e3, _⟩ | ⟨e1, e2, _⟩
  · rw [if_pos e1]
    have := encM_len (c := d.rc) e2.len
    have := txtN_length d.rt
    simp only [List.length_append, List.length_cons]
    omega
  · rw [if_neg (by omega)]
    have := encM_len (c := d.mc) e2.len
    simp only [List.length_append, List.length_cons, List.length_nil]
    omega
theorem eDeeds_len : ∀ {l : List Dd}, (∀ d ∈ l, RoomD d) → (eDeeds l).length ≤ 1000 * l.length
  | [], _ => Nat.le_refl _
  | x :: p, h => by
    have ih := eDeeds_len (l := p) fun d hd => h d (List.mem_cons_of_mem _ hd)
    have := encD_len (h x (List.mem_cons_self ..))
    unfold eDeeds at *
    rw [List.flatMap_cons, List.length_append, List.length_cons]
    omega

set_option maxRecDepth 100000 in
set_option maxHeartbeats 4000000 in
theorem wrNote_ok (R base : Nat) (v : Value) (n : Nt) (p q : Option Addr) (cp cq : Nat) (w0 w : World) (h : WrSt w R base v []) (hr : RoomN n) (hd : NtAt w0 n p q) (hb : Below w0.heap.size w0 w) (hR : w0.heap.size ≤ R) :
    Calls Try.prog 54 #[.pointer (some ⟨R, 0, none⟩), ntV n p q cp cq] w fun e w' => e = .returned (.tuple #[]) ∧ (∃ v', WrSt w' R base v' (encN n)) ∧ KeptW R base w w' := by
  obtain ⟨site, number, needs, deeds⟩ := n
  obtain ⟨h1, h2, h3, h4⟩ := hd
  obtain ⟨r1, r2, r3, r4, r5, r6, r7, r8⟩ := hr
  unfold ntV
  simp only at h1 h2 h3 h4 r1 r2 r3 r4 r5 r6 r7 r8 ⊢
  have hA := h.alloc (Obj.cells #[.int .i64 site, .int .i64 number, .slice p needs.length cp, .slice q deeds.length cq] 53)
  have hKA := (KeptW.refl R base w).alloc (Obj.cells #[.int .i64 site, .int .i64 number, .slice p needs.length cp, .slice q deeds.length cq] 53)
  have hBA := Blk.new w #[.int .i64 site, .int .i64 number, .slice p needs.length cp, .slice q deeds.length cq] 53
  have hZR : w.heap.size ≠ R := by have := h.lt; have := h.le; omega
  have hlt := h.lt
  have HE : Hid (encN ⟨site, number, needs, deeds⟩ = ((([site] ++ e2 number) ++ eNeeds needs) ++ [(deeds.length : Int)]) ++ eDeeds deeds) := by show _ = _; simp [encN]
  generalize encN ⟨site, number, needs, deeds⟩ = EN at *
  have R5 := hidE r5
  have hle5 : needs.length ≤ 1000 := by omega
  clear h r5
  go_enter Try.func54, Try.ntmps54
  go_upto_region 1 with fail
  generalize w.alloc (Obj.cells #[.int .i64 site, .int .i64 number, .slice p needs.length cp, .slice q deeds.length cq] 53) = W at *
  generalize w.heap.size = Z at *
  have H1 := hidE (wrOne_ok R base v [] site W hA r1 r2 (by simp))
  rw [List.nil_append] at H1
  have c0 := hBA.is 0 rfl
  have HKA := hidE hKA
  have HBA := hidE hBA
  clear hA hKA hBA
  go_wp2_with fail
  refine H1.out.mono ?_
  rintro e w1 ⟨rfl, ⟨v1, hS⟩, hK⟩
  have hB1 := hK.blk HBA.out hZR (by decide)
  replace c0 := hB1.is 1 rfl
  have HB1 := hidE hB1
  have HK1 := hidE (HKA.out.trans hK)
  have H2 := hidE (wrTwo_ok R base v1 [site] number w1 hS r3 r4 (by simp))
  clear hK hS H1 HKA HBA hB1
  go_wp2_with fail
  refine H2.out.mono ?_
  rintro e w2 ⟨rfl, ⟨v2, hS⟩, hK⟩
  have hB2 := hK.blk HB1.out hZR (by decide)
  replace c0 := hB2.is 2 rfl
  have HB2 := hidE hB2
  have HK2 := hidE (HK1.out.trans hK)
  have HS2 := hidE hS
  clear hK hS H2 HK1 HB1 hB2
  go_wp2_with fail
  go_loopw [19] (fun i wr => ∃ k : Nat, k ≤ needs.length ∧ i = .int .i64 k ∧ (∃ v', WrSt wr R base v' (([site] ++ e2 number) ++ eNeeds (needs.take k))) ∧ KeptW R base w wr ∧ Blk wr Z #[.int .i64 site, .int .i64 number, .slice p needs.length cp, .slice q deeds.length cq] 53) (fun i _ => needs.length - (intOf i).toNat)
  case atStart => exact ⟨0, Nat.zero_le _, rfl, ⟨v2, by simpa [eNeeds] using HS2.out⟩, HK2.out, HB2.out⟩
  case round =>
    clear HS2 HK2 HB2 c0
    obtain ⟨k, hk, rfl, ⟨v3, hS⟩, hK, hBl⟩ := hrel
    rcases Nat.lt_or_ge k needs.length with hlk | hge
    · have hpw := h1.below (hK.low hb hR hlt)
      rcases hpw with hz | ⟨ab, ao, rfl, hab, hc⟩
      · simp [hz] at hlk
      have s0 := hc k hlk
      obtain ⟨m1, m2⟩ := r6 needs[k] (List.getElem_mem hlk)
      have hi1 : (k : Int) < (needs.length : Int) := by omega
      have HE2 := hidE (eNeeds_take hlk)
      have hlen : (([site] ++ e2 number) ++ eNeeds (needs.take k)).length ≤ 600000 := by
        have e1 := eNeeds_len (needs.take k)
        rw [List.length_take] at e1
        have r5 := R5.out
        simp only [List.length_append, e1, List.length_cons, List.length_nil, e2]
        omega
      have H3 := hidE (wrTwo_ok R base v3 (([site] ++ e2 number) ++ eNeeds (needs.take k)) needs[k] wr hS m1 m2 (by omega))
      have HK := hidE hK
      have HBL := hidE hBl
      clear hS hK hBl hc h1 hlen
      generalize needs[k] = nk at *
      go_wp2_with fail
      refine H3.out.mono ?_
      rintro e w4 ⟨rfl, ⟨v4, hS⟩, hK⟩
      have HS4 := hidE hS
      have HK4 := hidE (HK.out.trans hK)
      have HB4 := hidE (hK.blk HBL.out hZR (by decide))
      clear hS hK H3 HK HBL
      go_wp2_with fail
      go_roundw
      case rel => exact ⟨k + 1, hlk, by go_num, ⟨v4, by rw [HE2.out, ← List.append_assoc]; exact HS4.out⟩, HK4.out, HB4.out⟩
      case measure => simp [intOf]; omega
    · have hkl : k = needs.length := by omega
      subst hkl
      rw [List.take_length] at hS
      have hlen : (([site] ++ e2 number) ++ eNeeds needs).length ≤ 1000 := by
        have e1 := eNeeds_len needs
        have r5 := R5.out
        simp only [List.length_append, e1, List.length_cons, List.length_nil, e2]
        omega
      generalize (([site] ++ e2 number) ++ eNeeds needs) = X at *
      have hi1 : ¬ ((needs.length : Int) < (needs.length : Int)) := by omega
      have c3 := hBl.is 3 rfl
      have H3 := hidE (wrOne_ok R base v3 X (deeds.length : Int) wr hS (by omega) (by omega) (by omega))
      have HK := hidE hK
      have HBL := hidE hBl
      clear hS hK hBl
      go_upto_region 9 with fail
      refine H3.out.mono ?_
      rintro e w4 ⟨rfl, ⟨v4, hS⟩, hK⟩
      have HS4 := hidE hS
      have HK4 := hidE (HK.out.trans hK)
      have hB4 := hK.blk HBL.out hZR (by decide)
      replace c3 := hB4.is 3 rfl
      have HB4 := hidE hB4
      clear hS hK H3 HK HBL hB4
      go_wp2_with fail
      go_loopw [35] (fun i wr => ∃ k : Nat, k ≤ deeds.length ∧ i = .int .i64 k ∧ (∃ v', WrSt wr R base v' ((X ++ [(deeds.length : Int)]) ++ eDeeds (deeds.take k))) ∧ KeptW R base w wr) (fun i _ => deeds.length - (intOf i).toNat)
      case atStart => exact ⟨0, Nat.zero_le _, rfl, ⟨v4, by simpa [eDeeds] using HS4.out⟩, HK4.out⟩
      case round =>
        clear HS4 HK4 HB4 c3
        obtain ⟨k, hk, rfl, ⟨v5, hS⟩, hK⟩ := hrel
        rcases Nat.lt_or_ge k deeds.length with hlk | hge
        · have hLow := hK.low hb hR hlt
          rcases h2 with hz | ⟨ab, ao, rfl, hab, hc⟩
          · simp [hz] at hlk
          have hrm := r8 deeds[k] (List.getElem_mem hlk)
          have hi2 : (k : Int) < (deeds.length : Int) := by omega
          have HE2 := hidE (eDeeds_take hlk)
          have hlen2 : ((X ++ [(deeds.length : Int)]) ++ eDeeds (deeds.take k)).length ≤ 400000 := by
            have e1 := eDeeds_len (l := deeds.take k) fun d hd => r8 d (List.mem_of_mem_take hd)
            rw [List.length_take] at e1
            simp only [List.length_append, List.length_cons, List.length_nil]
            omega
          obtain ⟨dp, dcp, dq, dcq, d0, d1, d2, d3, d4, d5, d6, hD0, _⟩ := hc k hlk
          replace d0 := (hLow.cell (p := ⟨ab, _, none⟩) hab).trans d0
          replace d1 := (hLow.cell (p := ⟨ab, _, none⟩) hab).trans d1
          replace d2 := (hLow.cell (p := ⟨ab, _, none⟩) hab).trans d2
          replace d3 := (hLow.cell (p := ⟨ab, _, none⟩) hab).trans d3
          replace d4 := (hLow.cell (p := ⟨ab, _, none⟩) hab).trans d4
          replace d5 := (hLow.cell (p := ⟨ab, _, none⟩) hab).trans d5
          replace d6 := (hLow.cell (p := ⟨ab, _, none⟩) hab).trans d6
          have hal := (Below.refl wr.heap.size wr).alloc (Nat.le_refl _) (Obj.cells #[.int .i64 deeds[k].kind, .slice dp deeds[k].rp.length dcp, .int .i64 deeds[k].rc, .string deeds[k].rt, .slice dq deeds[k].mp.length dcq, .int .i64 deeds[k].mc, .int .i64 deeds[k].many] 98)
          have hBN := Blk.new wr #[.int .i64 deeds[k].kind, .slice dp deeds[k].rp.length dcp, .int .i64 deeds[k].rc, .string deeds[k].rt, .slice dq deeds[k].mp.length dcq, .int .i64 deeds[k].mc, .int .i64 deeds[k].many] 98
          have hSA := hS.below hal
          have hLA := hLow.trans (hal.mono hLow.size)
          have HKA := hidE (hK.trans (KeptW.of_below hal))
          clear hc hS hK h1
          generalize deeds[k] = dk at *
          obtain ⟨kind, rp, rc, rt, mp, mc, many⟩ := dk
          simp only at *
          go_upto_region 12 with fail
          generalize wr.alloc (Obj.cells #[.int .i64 kind, .slice dp rp.length dcp, .int .i64 rc, .string rt, .slice dq mp.length dcq, .int .i64 mc, .int .i64 many] 98) = W2 at *
          have H5 := hidE (wrDeed_ok R base v5 ((X ++ [(deeds.length : Int)]) ++ eDeeds (deeds.take k)) ⟨kind, rp, rc, rt, mp, mc, many⟩ dp dq dcp dcq w0 W2 hSA hrm hD0 hLA hR hlen2)
          have b0 := hBN.is 0 rfl
          have b1 := hBN.is 1 rfl
          have b2 := hBN.is 2 rfl
          have b3 := hBN.is 3 rfl
          have b4 := hBN.is 4 rfl
          have b5 := hBN.is 5 rfl
          have b6 := hBN.is 6 rfl
          clear d0 d1 d2 d3 d4 d5 d6 hBN hSA hLA hLow hal hD0 hrm hlen2
          go_wp2_with fail
          refine H5.out.mono ?_
          rintro e w6 ⟨rfl, ⟨v6, hS⟩, hK⟩
          have HS6 := hidE hS
          have HK6 := hidE (HKA.out.trans hK)
          clear hS hK H5 HKA b0 b1 b2 b3 b4 b5 b6
          go_wp2_with fail
          go_roundw
          case rel => exact ⟨k + 1, hlk, by go_num, ⟨v6, by rw [HE2.out, ← List.append_assoc]; exact HS6.out⟩, HK6.out⟩
          case measure => simp [intOf]; omega
        · have hkl : k = deeds.length := by omega
          subst hkl
          rw [List.take_length] at hS
          have hi2 : ¬ ((deeds.length : Int) < (deeds.length : Int)) := by omega
          have HS := hidE hS
          have HK := hidE hK
          clear hS hK
          go_wp2_with fail
          go_end0
          exact ⟨rfl, ⟨v5, by rw [HE.out]; exact HS.out⟩, HK.out⟩
end Go.Proofs.Ytnhjebdlcbhkcad
