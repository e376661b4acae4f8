/- Contract of relay.Pull. -/
import Derived.Test.YtnhjebdlcbhkcafRelCk
import Derived.Test.YtnhjebdlcbhkcafCmp
namespace Go.Proofs.Ytnhjebdlcbhkcaf
open Go.RowKit

/-- what Pull tells -/
def pullE (ns : List Nt) (cu ma : Int) : Int := if chkRel ns ≠ 0 then chkRel ns else if cu < 0 ∨ (ns.length : Int) < cu ∨ ma < 0 ∨ 300 < ma then 3 else 0
/-- what Pull gives -/
def pullL (ns : List Nt) (cu ma : Int) : List Nt := if pullE ns cu ma ≠ 0 then [] else (ns.drop cu.toNat).take ma.toNat

/-- a copy of notes, and what is wrong -/
def NsTell (ns : List Nt) (er : Int) (w : World) (e : Ending) (w' : World) : Prop :=
  ∃ (rs : List RN) (p : Option Addr) (cap : Nat), e = .returned (.tuple #[.slice p ns.length cap, .int .i64 er]) ∧ rs.map RN.n = ns ∧ RowOwn 28 4 RN.cells NtO w' w.heap.size (.slice p ns.length cap) rs ∧ Below w.heap.size w w'

theorem NsTell.none {er : Int} {w w' : World} (hb : Below w.heap.size w w') : NsTell [] er w (.returned (.tuple #[.slice Option.none 0 0, .int .i64 er])) w' :=
  ⟨[], Option.none, 0, rfl, rfl, RowOwn.nil, hb⟩

set_option maxRecDepth 100000 in
set_option maxHeartbeats 4000000 in
theorem pull_any (a : Option Addr) (c : Nat) (ns : List Nt) (cu ma : Int) (w : World) (h : NotesAt w a ns) (hl : ns.length ≤ c) (hc : c ≤ maxLen) :
    Calls Try.prog 5 #[.agg #[.slice a ns.length c], .int .i64 cu, .int .i64 ma] w (NsTell (pullL ns cu ma) (pullE ns cu ma) w) := by
  have hA := alloc_below w (Obj.cells #[.slice a ns.length c] 24)
  have hN := Blk.new w #[.slice a ns.length c] 24
  have H1 := hidE (relayCheck_any a c ns _ (h.below hA) (by omega))
  have H0 := hidE h
  clear h
  go_enter Try.func5, Try.ntmps5
  go_upto_region 1 with fail
  generalize w.alloc (Obj.cells #[.slice a ns.length c] 24) = W at *
  have n0 := hN.is 0 rfl
  have HA := hidE hA
  have HN := hidE hN
  clear hN hA
  go_upto_region 2 with (go_at_call 10; refine H1.out.mono ?_; rintro r w1 ⟨rfl, hb⟩)
  have hN1 := HN.out.thruB hb
  have hB1 := HA.out.thru hb HA.out.size
  clear n0 H1 HN HA hb
  have n0 := hN1.is 0 rfl
  have HB := hidE hB1
  clear hN1 hB1
  by_cases he : chkRel ns = 0
  case neg =>
    have HE : Hid (pullE ns cu ma = chkRel ns) := by show _ = _; unfold pullE; rw [if_pos he]
    have HL : Hid (pullL ns cu ma = []) := by show _ = _; unfold pullL; rw [HE.out, if_pos he]
    generalize chkRel ns = er at *
    have he' : (er != 0) = true := by simpa using he
    clear he n0
    go_wp2_with fail
    go_ret2
    rw [HE.out, HL.out]
    exact NsTell.none HB.out
  have HS := hidE (small_rel he)
  have HEE : Hid (pullE ns cu ma = if cu < 0 ∨ (ns.length : Int) < cu ∨ ma < 0 ∨ 300 < ma then 3 else 0) := by show _ = _; unfold pullE; rw [if_neg (by simpa using he)]
  rw [he]
  clear he
  by_cases hbad : cu < 0 ∨ (ns.length : Int) < cu ∨ ma < 0 ∨ 300 < ma
  · have HE : Hid (pullE ns cu ma = 3) := by show _ = _; rw [HEE.out, if_pos hbad]
    have HL : Hid (pullL ns cu ma = []) := by show _ = _; unfold pullL; rw [HE.out]; rfl
    clear HEE
    by_cases b1 : cu < 0
    · clear hbad
      go_wp2_with fail
      go_ret2
      rw [HE.out, HL.out]
      exact NsTell.none HB.out
    · by_cases b2 : cu > (ns.length : Int)
      · clear hbad
        go_wp2_with fail
        go_ret2
        rw [HE.out, HL.out]
        exact NsTell.none HB.out
      · by_cases b3 : ma < 0
        · clear hbad
          go_wp2_with fail
          go_ret2
          rw [HE.out, HL.out]
          exact NsTell.none HB.out
        · have b4 : ma > 300 := by omega
          clear hbad
          go_wp2_with fail
          go_ret2
          rw [HE.out, HL.out]
          exact NsTell.none HB.out
  · have HE : Hid (pullE ns cu ma = 0) := by show _ = _; rw [HEE.out, if_neg hbad]
    have HL : Hid (pullL ns cu ma = (ns.drop cu.toNat).take ma.toNat) := by show _ = _; unfold pullL; rw [HE.out]; rfl
    clear HEE
    have b1 : ¬ cu < 0 := by omega
    have b2 : ¬ cu > (ns.length : Int) := by omega
    have b3 : ¬ ma < 0 := by omega
    have b4 : ¬ ma > 300 := by omega
    clear hbad
    obtain ⟨i, rfl⟩ : ∃ i : Nat, cu = (i : Int) := ⟨cu.toNat, by omega⟩
    obtain ⟨m, rfl⟩ : ∃ m : Nat, ma = (m : Int) := ⟨ma.toNat, by omega⟩
    go_upto_region 6 with fail
    have hwr : wrap64 ((i : Int) + (m : Int)) = (i : Int) + (m : Int) := by
      have := HS.out.1
      unfold wrap64
      omega
    have hi0 : (0 : Int) ≤ (i : Int) := by omega
    have hLL : ((ns.drop i).take m).length = min m (ns.length - i) := by rw [List.length_take, List.length_drop]
    have HT : Hid (∀ (A : Option Addr) (C : Nat), NotesAt w1 A ((ns.drop i).take m) → Calls Try.prog 15 #[.slice A ((ns.drop i).take m).length C] w1 (NsFresh ((ns.drop i).take m) w1)) := fun A C hA => frNotes_ok A C _ w1 hA (fun d hd => HS.out.2 d (List.mem_of_mem_drop (List.mem_of_mem_take hd))) (by have := HS.out.1; omega)
    have HP : Hid (NotesAt w1 (Option.map (fun x => x.add (i * 4)) a) ((ns.drop i).take m)) := by
      rcases H0.out.below HB.out with e0 | ⟨b, o, rfl, hb, hc9⟩
      · exact Or.inl (by rw [e0]; simp)
      · have h9 := NotesAt.slice (w := w1) (b := b) (o := o) (ns := ns) (Or.inr ⟨b, o, rfl, hb, hc9⟩) i m
        show NotesAt w1 (some ((⟨b, o, none⟩ : Addr).add (i * 4))) _
        rw [addPl]
        exact h9
    have HQ : Hid (c = i → NotesAt w1 a ((ns.drop i).take m)) := fun e => Or.inl (List.length_eq_zero_iff.1 (by omega))
    have HL' : Hid (pullL ns (i : Int) (m : Int) = (ns.drop i).take m) := HL.out
    have HR : Hid (∀ r w2, NsFresh ((ns.drop i).take m) w1 r w2 → ∃ (p : Option Addr) (cap : Nat), r = .returned (.slice p ((ns.drop i).take m).length cap) ∧ NsTell ((ns.drop i).take m) 0 w (.returned (.tuple #[.slice p ((ns.drop i).take m).length cap, .int .i64 0])) w2) := by
      rintro r w2 ⟨rs, p, cap, rfl, hm, hr, hb2⟩
      exact ⟨p, cap, rfl, rs, p, cap, rfl, hm, ⟨owns_base hr.own HB.out.size, fun x hx => NtO.mono (hr.each x hx) HB.out.size⟩, HB.out.thru hb2 HB.out.size⟩
    clear HL HS H0
    generalize (ns.drop i).take m = L at *
    rcases Nat.lt_or_ge ns.length (i + m) with hlt | hge
    · have hmin : min ((i : Int) + (m : Int)) (ns.length : Int) = (ns.length : Int) := by omega
      have s1 : (i : Int) ≤ (ns.length : Int) := by omega
      have s2 : (ns.length : Int) ≤ (c : Int) := by omega
      have hLn : L.length = ns.length - i := by omega
      rw [hLn] at HT HR
      clear hLn hLL
      by_cases hci : c = i
      · have H2 := hidE (fun C => HT.out _ C (HQ.out hci))
        go_wp2_with (go_at_call 15; refine (H2.out _).mono ?_; intro r w2 hF; obtain ⟨p, cap, rfl, hK⟩ := HR.out _ _ hF)
        go_ret2
        rw [HE.out, HL'.out]
        exact hK
      · have H2 := hidE (fun C => HT.out _ C HP.out)
        go_wp2_with (go_at_call 15; refine (H2.out _).mono ?_; intro r w2 hF; obtain ⟨p, cap, rfl, hK⟩ := HR.out _ _ hF)
        go_ret2
        rw [HE.out, HL'.out]
        exact hK
    · have hmin : min ((i : Int) + (m : Int)) (ns.length : Int) = (i : Int) + (m : Int) := by omega
      have s1 : (i : Int) ≤ (i : Int) + (m : Int) := by omega
      have s2 : (i : Int) + (m : Int) ≤ (c : Int) := by omega
      have hLn : L.length = m := by omega
      rw [hLn] at HT HR
      clear hLn hLL
      by_cases hci : c = i
      · have H2 := hidE (fun C => HT.out _ C (HQ.out hci))
        go_wp2_with (go_at_call 15; refine (H2.out _).mono ?_; intro r w2 hF; obtain ⟨p, cap, rfl, hK⟩ := HR.out _ _ hF)
        go_ret2
        rw [HE.out, HL'.out]
        exact hK
      · have H2 := hidE (fun C => HT.out _ C HP.out)
        go_wp2_with (go_at_call 15; refine (H2.out _).mono ?_; intro r w2 hF; obtain ⟨p, cap, rfl, hK⟩ := HR.out _ _ hF)
        go_ret2
        rw [HE.out, HL'.out]
        exact hK

end Go.Proofs.Ytnhjebdlcbhkcaf
