/- Contracts of the reference's CutOf, SameDeeds. -/
import Derived.Test.YtnhjebdlcbhkcacGreatPlainR
import Derived.Test.YtnhjebdlcbhkcacGreatRunsOfW
import Derived.Test.YtnhjebdlcbhkcacGreatBoxS
import Derived.Test.YtnhjebdlcbhkcacGreatStateCkR
import Derived.Test.YtnhjebdlcbhkcacGreatGapA
namespace Go.Proofs.YtnhjebdlcbhkcacGreat
open Go.RowKit

theorem rawD_newD (w : World) (r : RawD) : ∀ j u, r.cells[j]? = some u → (w.alloc (.cells #[.int .i64 r.d.kind, .slice r.p r.d.rp.length r.cp, .int .i64 r.d.rc, .string r.d.rt, .slice r.q r.d.mp.length r.cq, .int .i64 r.d.mc, .int .i64 r.d.many] 50)).drew.cell? ⟨w.heap.size, j, none⟩ = some u := by
  intro j u hj
  exact rawD_new w r j u hj

set_option maxRecDepth 100000 in
set_option maxHeartbeats 4000000 in
theorem cutOf_any (a b : Option Addr) (cap cap' : Nat) (l : List At) (g : List (List (Int × Int) × Int)) (n m : Int) (w : World) (hl : l.length ≤ maxLen) (hcap : l.length ≤ cap) (hmn : m ≤ 9223372036854775807) (h : AtomsAt w a l) (h' : MarksAt w b g) :
    Calls Tryz.prog 6 #[.agg #[.slice a l.length cap, .slice b g.length cap'], .int .i64 n, .int .i64 m] w (CutGives w l g n m) := by
  have hB := (Below.refl w.heap.size w).alloc (Nat.le_refl _) (Obj.cells #[.slice a l.length cap, .slice b g.length cap'] 25)
  have q0 : (w.alloc (Obj.cells #[.slice a l.length cap, .slice b g.length cap'] 25)).cell? ⟨w.heap.size, 0, none⟩ = some (.slice a l.length cap) := by simp
  have q1 : (w.alloc (Obj.cells #[.slice a l.length cap, .slice b g.length cap'] 25)).cell? ⟨w.heap.size, 1, none⟩ = some (.slice b g.length cap') := by simp
  have z : w.heap.size < (w.alloc (Obj.cells #[.slice a l.length cap, .slice b g.length cap'] 25)).heap.size := by simp
  replace h := h.below hB (Nat.le_refl _)
  replace h' := h'.below hB (Nat.le_refl _)
  go_enter Tryz.func6, Tryz.ntmps6
  go_upto_region 1 with fail
  generalize w.alloc (Obj.cells #[.slice a l.length cap, .slice b g.length cap'] 25) = W at hB q0 q1 z h h' ⊢
  generalize hzz : w.heap.size = Z at hB q0 q1 z ⊢
  have HZ := hidE hzz
  clear hzz
  have HC := hidE (checkState_any a b cap cap' l g W hl h h')
  go_wp2_with fail
  refine HC.out.mono ?_
  rintro e w1 ⟨rfl, hb⟩
  replace q0 := (hb.cell (p := ⟨Z, 0, none⟩) z).trans q0
  replace h := h.below hb (Nat.le_refl _)
  replace hB := hB.thru hb (Nat.le_of_lt z)
  clear HC h' q1 hb z
  by_cases hS : chkS l g = 0
  case neg =>
    have HE : Hid (cutErr l g n m = chkS l g) := by show _ = _; unfold cutErr; rw [if_pos hS]
    have HN := hidE hS
    have hcb : (chkS l g != 0) = true := by rw [bne_iff_ne]; exact hS
    generalize chkS l g = er at *
    clear hS
    go_wp2_with fail
    go_ret2
    rw [← HZ.out] at hB
    exact ⟨hB, Or.inl ⟨by rw [HE.out]; exact HN.out, by rw [HE.out]; rfl⟩⟩
  have h0 : chkL l = 0 := by
    by_cases e : chkL l = 0
    · exact e
    · unfold chkS at hS; rw [if_pos e] at hS; exact absurd hS e
  have ok := okL_of h0
  have hl300 := ok.len
  rw [hS]
  cases hp : pieceB n m l.length
  · have HE : Hid (cutErr l g n m = 3) := by show _ = _; unfold cutErr; rw [if_neg (by simpa using hS), if_pos hp]
    have HP := hidE hp
    clear hp hS h0 ok
    go_wp2_with (go_at_call 20; refine (isInside_any _ _ _ _ (by omega)).mono ?_; rintro e w' ⟨rfl, hw⟩; replace hw := hw.symm; subst hw; rw [HP.out])
    go_ret2
    rw [← HZ.out] at hB
    exact ⟨hB, Or.inl ⟨by rw [HE.out]; decide, by rw [HE.out]; rfl⟩⟩
  have HE : Hid (cutErr l g n m = 0) := by show _ = _; unfold cutErr; rw [if_neg (by simpa using hS), if_neg (by rw [hp]; decide)]
  have HP := hidE hp
  have hn : 0 ≤ n ∧ 0 ≤ m ∧ n + m ≤ l.length := by simp [pieceB] at hp; omega
  clear hp hS
  obtain ⟨k, rfl⟩ : ∃ k : Nat, n = k := ⟨n.toNat, by omega⟩
  obtain ⟨j, rfl⟩ : ∃ j : Nat, m = j := ⟨m.toNat, by omega⟩
  have hkj : k + j ≤ l.length := by omega
  have hw1 : IntKind.i64.wrap ((k : Int) + j) = ((k + j : Nat) : Int) := by rw [IntKind.wrap_i64] <;> omega
  have hpl := part_len hkj
  have hkp := ok.part k j
  have hlen : (runsL (part l k j)).length ≤ 300 := by
    have := runsL_lenE (part l k j)
    omega
  obtain ⟨i0, hi0, hz0, hz1, hz2⟩ := Tryz.info50
  have KEY : Hid (∀ (a' : Option Addr) (c' : Nat), AtomsAt w1 a' (part l k j) → Calls Tryz.prog 21 #[.slice a' j c'] w1 fun e w' => ∃ p k', e = .returned (.slice p (runsL (part l k j)).length k') ∧ RunsAt w' p (runsL (part l k j)) ∧ Below w1.heap.size w1 w') := fun a' c' ha' => by
    have := runsOf_ok a' c' (part l k j) w1 ha' hkp
    rwa [hpl] at this
  have HA : Hid (∀ bb oo, a = some ⟨bb, oo, none⟩ → AtomsAt w1 (some ⟨bb, oo + k * 3, none⟩) (part l k j)) := fun bb oo e => AtomsAt.part (by rw [← e]; exact h) hkj
  have HA0 : Hid (j = 0 → ∀ a', AtomsAt w1 a' (part l k j)) := fun e a' => Or.inl (List.eq_nil_of_length_eq_zero (by omega))
  have hform : j ≠ 0 → ∃ bb oo, a = some ⟨bb, oo, none⟩ := fun e => by
    rcases h with hs | ⟨bb, oo, rfl, _⟩
    · rw [hs] at hkj; simp at hkj; omega
    · exact ⟨bb, oo, rfl⟩
  have HRL : Hid (∃ rl, rl = runsL (part l k j)) := ⟨_, rfl⟩
  obtain ⟨rl, hrl⟩ := HRL.out
  rw [← hrl] at KEY hlen
  have HRLE := hidE hrl
  clear hrl HRL hpl hkp ok h0 h
  by_cases hj0 : j = 0
  · subst hj0
    have h1 : ((k + 0 : Nat) : Int) = (k : Int) := by omega
    rw [h1] at hw1
    have hcl : k ≤ cap := by omega
    have HK := hidE (fun a' c' => KEY.out a' c' (HA0.out rfl a'))
    clear hform KEY HA HA0
    cases a with
    | none =>
      go_wp2_with (go_at_call 20; refine (isInside_any _ _ _ _ (by omega)).mono ?_; rintro e w' ⟨rfl, hw⟩; replace hw := hw.symm; subst hw; first | rw [HP.out] | rw [show pieceB (k : Int) 0 l.length = true from HP.out])
      refine (HK.out _ _).mono ?_
      rintro e w2 ⟨p, k', rfl, hat, hb2⟩
      have hB2 := hB.trans (hb2.mono (by rw [← HZ.out]; exact hB.size))
      clear HK hB hb2 q0
      go_wp2_with fail
      go_loopw [9, 11] (fun v i wr => ∃ c : Nat, c ≤ rl.length ∧ i = .int .i64 c ∧ ∃ rs, OwnsDd w2 wr w2.heap.size v rs ∧ rs.map RawD.d = (rl.take c).map takeDd ∧ Below w2.heap.size w2 wr) (fun _ i _ => rl.length - (intOf i).toNat)
      case atStart => exact ⟨0, Nat.zero_le _, rfl, [], OwnsDd.nil _ _ _, by simp, Below.refl _ _⟩
      case round =>
        obtain ⟨c, hc0, rfl, rs, hrow, hmap, hb⟩ := hrel
        have hrsl : rs.length = c := by
          have := congrArg List.length hmap
          simp at this; omega
        by_cases hlt : c < rl.length
        · have hat2 := hat
          rcases hat2 with hs | ⟨rb, ro, rfl, hrb, hc⟩
          · simp [hs] at hlt
          obtain ⟨pp, cp, c0, c1, c2, hst, hpl, htl⟩ := hc c hlt
          clear hc
          have HTK : Hid ((rl.take (c + 1)).map takeDd = (rl.take c).map takeDd ++ [takeDd rl[c]]) := by
            show (rl.take (c + 1)).map takeDd = (rl.take c).map takeDd ++ [takeDd rl[c]]
            rw [List.take_succ_eq_append_getElem hlt, List.map_append]; rfl
          have HMAP := hidE hmap
          clear hmap
          generalize rl[c] = x at *
          have hi1 : (c : Int) < (rl.length : Int) := by omega
          replace c0 := (hb.cell (p := ⟨rb, ro + c * 3, none⟩) hrb).trans c0
          replace c1 := (hb.cell (p := ⟨rb, ro + c * 3 + 1, none⟩) hrb).trans c1
          replace c2 := (hb.cell (p := ⟨rb, ro + c * 3 + 2, none⟩) hrb).trans c2
          have HAT : Hid (RawD.At w2 ⟨takeDd x, none, pp, 0, cp⟩) := ⟨⟨Or.inl rfl, hst, Nat.zero_le _, hpl, Nat.zero_le _⟩, by show (-9223372036854775808 : Int) ≤ (x.text.size : Int); omega, by show (x.text.size : Int) ≤ 9223372036854775807; unfold maxLen at htl; omega⟩
          have HLN : Hid (rl.length ≤ 300) := hidE hlen
          clear hst hpl hat
          have HRN := hidE (rawD_newD wr ⟨takeDd x, none, pp, 0, cp⟩)
          have HEA := hidE hrow.2
          have hown := hrow.1.alloc (Obj.cells #[.int .i64 2, .slice none 0 0, .int .i64 0, .string ⟨#[]⟩, .slice pp x.path.length cp, .int .i64 x.clock, .int .i64 (x.text.size : Int)] 50)
          have hownD : (wr.alloc (Obj.cells #[.int .i64 2, .slice none 0 0, .int .i64 0, .string ⟨#[]⟩, .slice pp x.path.length cp, .int .i64 x.clock, .int .i64 (x.text.size : Int)] 50)).drew.ownsRow w2.heap.size 50 7 u9 rs.length (flatD rs) := hown
          have hB4 := (hb.alloc hb.size (Obj.cells #[.int .i64 2, .slice none 0 0, .int .i64 0, .string ⟨#[]⟩, .slice pp x.path.length cp, .int .i64 x.clock, .int .i64 (x.text.size : Int)] 50)).drew
          have hbase : w2.heap.size ≤ (wr.alloc (Obj.cells #[.int .i64 2, .slice none 0 0, .int .i64 0, .string ⟨#[]⟩, .slice pp x.path.length cp, .int .i64 x.clock, .int .i64 (x.text.size : Int)] 50)).drew.heap.size := hB4.size
          rw [hrsl] at hownD
          clear hrow hown
          go_upto_region 11 with fail
          go_region_law (first
            | (refine step_append_own rfl (.tmp 38) (.tmp 51) 26 rfl w2.heap.size 50 i0 (.agg #[.int .i64 0, .slice none 0 0, .int .i64 0, .string ⟨#[]⟩, .slice none 0 0, .int .i64 0, .int .i64 0]) 7 96 Tryz.underlying26 hi0 hz0 hz1 hz2 rfl (by decide) u9 c (flatD rs) (by simp [Act.eval]) hownD ⟨wr.heap.size, 0, none⟩ 1 1 (⟨takeDd x, none, pp, 0, cp⟩ : RawD).cells (by simp [Act.eval]) rfl (by intro j u hj; rw [Addr.add_lit, Nat.zero_add]; exact HRN.out j u hj) (fun u hu => flatD_one [(⟨takeDd x, none, pp, 0, cp⟩ : RawD)] u (by simpa [flatD] using hu)) (by have := HLN.out; unfold maxLen; omega) (by have := HLN.out; omega) hbase ?_; intro v' w5 hown5 hgrow))
          all_goals
            have hb5 := hB4.grown hgrow hbase (fun j hj => (hownD.lt j hj).1)
            have hrow5 : OwnsDd w2 w5 w2.heap.size v' (rs ++ [⟨takeDd x, none, pp, 0, cp⟩]) := by
              refine ⟨?_, fun y hy => ?_⟩
              · rw [flatD_append, List.length_append, hrsl]
                exact hown5
              · rcases List.mem_append.1 hy with hy | hy
                · exact HEA.out y hy
                · rw [List.mem_singleton.1 hy]; exact HAT.out
            have hmap5 : (rs ++ [(⟨takeDd x, none, pp, 0, cp⟩ : RawD)]).map RawD.d = (rl.take (c + 1)).map takeDd := by
              rw [HTK.out, List.map_append, HMAP.out]; rfl
            have HR5 := hidE hrow5
            have HM5 := hidE hmap5
            clear hown5 hgrow hrow5 hmap5
            go_wp2_with fail
            go_roundw
            case rel => exact ⟨c + 1, by omega, by go_num, _, HR5.out, HM5.out, hb5⟩
            case measure => simp [intOf]; omega
        · have hce : c = rl.length := by omega
          subst hce
          rw [List.take_length] at hmap
          obtain ⟨p', k2, rfl, hd⟩ := hrow.deeds hb
          rw [hmap] at hd
          have hB3 := hB2.trans (hb.mono (by rw [← HZ.out]; exact hB2.size))
          have HD := hidE hd
          clear hrow hmap hd
          go_wp2_with fail
          go_ret2
          rw [← HZ.out] at hB3
          refine ⟨hB3, Or.inr ⟨HE.out, ?_⟩⟩
          rw [Int.toNat_natCast, Int.toNat_natCast, ← HRLE.out]
          exact ⟨p', k2, by rw [hrsl]; rfl, HD.out⟩
    | some ad =>
      obtain ⟨bb, oo, rg⟩ := ad
      go_wp2_with (go_at_call 20; refine (isInside_any _ _ _ _ (by omega)).mono ?_; rintro e w' ⟨rfl, hw⟩; replace hw := hw.symm; subst hw; first | rw [HP.out] | rw [show pieceB (k : Int) 0 l.length = true from HP.out])
      all_goals
        refine (HK.out _ _).mono ?_
        rintro e w2 ⟨p, k', rfl, hat, hb2⟩
        have hB2 := hB.trans (hb2.mono (by rw [← HZ.out]; exact hB.size))
        clear HK hB hb2 q0
        go_wp2_with fail
        go_loopw [9, 11] (fun v i wr => ∃ c : Nat, c ≤ rl.length ∧ i = .int .i64 c ∧ ∃ rs, OwnsDd w2 wr w2.heap.size v rs ∧ rs.map RawD.d = (rl.take c).map takeDd ∧ Below w2.heap.size w2 wr) (fun _ i _ => rl.length - (intOf i).toNat)
        case atStart => exact ⟨0, Nat.zero_le _, rfl, [], OwnsDd.nil _ _ _, by simp, Below.refl _ _⟩
        case round =>
          obtain ⟨c, hc0, rfl, rs, hrow, hmap, hb⟩ := hrel
          have hrsl : rs.length = c := by
            have := congrArg List.length hmap
            simp at this; omega
          by_cases hlt : c < rl.length
          · have hat2 := hat
            rcases hat2 with hs | ⟨rb, ro, rfl, hrb, hc⟩
            · simp [hs] at hlt
            obtain ⟨pp, cp, c0, c1, c2, hst, hpl, htl⟩ := hc c hlt
            clear hc
            have HTK : Hid ((rl.take (c + 1)).map takeDd = (rl.take c).map takeDd ++ [takeDd rl[c]]) := by
              show (rl.take (c + 1)).map takeDd = (rl.take c).map takeDd ++ [takeDd rl[c]]
              rw [List.take_succ_eq_append_getElem hlt, List.map_append]; rfl
            have HMAP := hidE hmap
            clear hmap
            generalize rl[c] = x at *
            have hi1 : (c : Int) < (rl.length : Int) := by omega
            replace c0 := (hb.cell (p := ⟨rb, ro + c * 3, none⟩) hrb).trans c0
            replace c1 := (hb.cell (p := ⟨rb, ro + c * 3 + 1, none⟩) hrb).trans c1
            replace c2 := (hb.cell (p := ⟨rb, ro + c * 3 + 2, none⟩) hrb).trans c2
            have HAT : Hid (RawD.At w2 ⟨takeDd x, none, pp, 0, cp⟩) := ⟨⟨Or.inl rfl, hst, Nat.zero_le _, hpl, Nat.zero_le _⟩, by show (-9223372036854775808 : Int) ≤ (x.text.size : Int); omega, by show (x.text.size : Int) ≤ 9223372036854775807; unfold maxLen at htl; omega⟩
            have HLN : Hid (rl.length ≤ 300) := hidE hlen
            clear hst hpl hat
            have HRN := hidE (rawD_newD wr ⟨takeDd x, none, pp, 0, cp⟩)
            have HEA := hidE hrow.2
            have hown := hrow.1.alloc (Obj.cells #[.int .i64 2, .slice none 0 0, .int .i64 0, .string ⟨#[]⟩, .slice pp x.path.length cp, .int .i64 x.clock, .int .i64 (x.text.size : Int)] 50)
            have hownD : (wr.alloc (Obj.cells #[.int .i64 2, .slice none 0 0, .int .i64 0, .string ⟨#[]⟩, .slice pp x.path.length cp, .int .i64 x.clock, .int .i64 (x.text.size : Int)] 50)).drew.ownsRow w2.heap.size 50 7 u9 rs.length (flatD rs) := hown
            have hB4 := (hb.alloc hb.size (Obj.cells #[.int .i64 2, .slice none 0 0, .int .i64 0, .string ⟨#[]⟩, .slice pp x.path.length cp, .int .i64 x.clock, .int .i64 (x.text.size : Int)] 50)).drew
            have hbase : w2.heap.size ≤ (wr.alloc (Obj.cells #[.int .i64 2, .slice none 0 0, .int .i64 0, .string ⟨#[]⟩, .slice pp x.path.length cp, .int .i64 x.clock, .int .i64 (x.text.size : Int)] 50)).drew.heap.size := hB4.size
            rw [hrsl] at hownD
            clear hrow hown
            go_upto_region 11 with fail
            go_region_law (first
              | (refine step_append_own rfl (.tmp 38) (.tmp 51) 26 rfl w2.heap.size 50 i0 (.agg #[.int .i64 0, .slice none 0 0, .int .i64 0, .string ⟨#[]⟩, .slice none 0 0, .int .i64 0, .int .i64 0]) 7 96 Tryz.underlying26 hi0 hz0 hz1 hz2 rfl (by decide) u9 c (flatD rs) (by simp [Act.eval]) hownD ⟨wr.heap.size, 0, none⟩ 1 1 (⟨takeDd x, none, pp, 0, cp⟩ : RawD).cells (by simp [Act.eval]) rfl (by intro j u hj; rw [Addr.add_lit, Nat.zero_add]; exact HRN.out j u hj) (fun u hu => flatD_one [(⟨takeDd x, none, pp, 0, cp⟩ : RawD)] u (by simpa [flatD] using hu)) (by have := HLN.out; unfold maxLen; omega) (by have := HLN.out; omega) hbase ?_; intro v' w5 hown5 hgrow))
            all_goals
              have hb5 := hB4.grown hgrow hbase (fun j hj => (hownD.lt j hj).1)
              have hrow5 : OwnsDd w2 w5 w2.heap.size v' (rs ++ [⟨takeDd x, none, pp, 0, cp⟩]) := by
                refine ⟨?_, fun y hy => ?_⟩
                · rw [flatD_append, List.length_append, hrsl]
                  exact hown5
                · rcases List.mem_append.1 hy with hy | hy
                  · exact HEA.out y hy
                  · rw [List.mem_singleton.1 hy]; exact HAT.out
              have hmap5 : (rs ++ [(⟨takeDd x, none, pp, 0, cp⟩ : RawD)]).map RawD.d = (rl.take (c + 1)).map takeDd := by
                rw [HTK.out, List.map_append, HMAP.out]; rfl
              have HR5 := hidE hrow5
              have HM5 := hidE hmap5
              clear hown5 hgrow hrow5 hmap5
              go_wp2_with fail
              go_roundw
              case rel => exact ⟨c + 1, by omega, by go_num, _, HR5.out, HM5.out, hb5⟩
              case measure => simp [intOf]; omega
          · have hce : c = rl.length := by omega
            subst hce
            rw [List.take_length] at hmap
            obtain ⟨p', k2, rfl, hd⟩ := hrow.deeds hb
            rw [hmap] at hd
            have hB3 := hB2.trans (hb.mono (by rw [← HZ.out]; exact hB2.size))
            have HD := hidE hd
            clear hrow hmap hd
            go_wp2_with fail
            go_ret2
            rw [← HZ.out] at hB3
            refine ⟨hB3, Or.inr ⟨HE.out, ?_⟩⟩
            rw [Int.toNat_natCast, Int.toNat_natCast, ← HRLE.out]
            exact ⟨p', k2, by rw [hrsl]; rfl, HD.out⟩
  · obtain ⟨bb, oo, rfl⟩ := hform hj0
    have hck : ¬ cap = k := by omega
    have HK := hidE (KEY.out _ (cap - k) (HA.out bb oo rfl))
    clear hform KEY HA HA0
    go_wp2_with (go_at_call 20; refine (isInside_any _ _ _ _ (by omega)).mono ?_; rintro e w' ⟨rfl, hw⟩; replace hw := hw.symm; subst hw; rw [HP.out])
    refine HK.out.mono ?_
    rintro e w2 ⟨p, k', rfl, hat, hb2⟩
    have hB2 := hB.trans (hb2.mono (by rw [← HZ.out]; exact hB.size))
    clear HK hB hb2 q0
    go_wp2_with fail
    go_loopw [9, 11] (fun v i wr => ∃ c : Nat, c ≤ rl.length ∧ i = .int .i64 c ∧ ∃ rs, OwnsDd w2 wr w2.heap.size v rs ∧ rs.map RawD.d = (rl.take c).map takeDd ∧ Below w2.heap.size w2 wr) (fun _ i _ => rl.length - (intOf i).toNat)
    case atStart => exact ⟨0, Nat.zero_le _, rfl, [], OwnsDd.nil _ _ _, by simp, Below.refl _ _⟩
    case round =>
      obtain ⟨c, hc0, rfl, rs, hrow, hmap, hb⟩ := hrel
      have hrsl : rs.length = c := by
        have := congrArg List.length hmap
        simp at this; omega
      by_cases hlt : c < rl.length
      · have hat2 := hat
        rcases hat2 with hs | ⟨rb, ro, rfl, hrb, hc⟩
        · simp [hs] at hlt
        obtain ⟨pp, cp, c0, c1, c2, hst, hpl, htl⟩ := hc c hlt
        clear hc
        have HTK : Hid ((rl.take (c + 1)).map takeDd = (rl.take c).map takeDd ++ [takeDd rl[c]]) := by
          show (rl.take (c + 1)).map takeDd = (rl.take c).map takeDd ++ [takeDd rl[c]]
          rw [List.take_succ_eq_append_getElem hlt, List.map_append]; rfl
        have HMAP := hidE hmap
        clear hmap
        generalize rl[c] = x at *
        have hi1 : (c : Int) < (rl.length : Int) := by omega
        replace c0 := (hb.cell (p := ⟨rb, ro + c * 3, none⟩) hrb).trans c0
        replace c1 := (hb.cell (p := ⟨rb, ro + c * 3 + 1, none⟩) hrb).trans c1
        replace c2 := (hb.cell (p := ⟨rb, ro + c * 3 + 2, none⟩) hrb).trans c2
        have HAT : Hid (RawD.At w2 ⟨takeDd x, none, pp, 0, cp⟩) := ⟨⟨Or.inl rfl, hst, Nat.zero_le _, hpl, Nat.zero_le _⟩, by show (-9223372036854775808 : Int) ≤ (x.text.size : Int); omega, by show (x.text.size : Int) ≤ 9223372036854775807; unfold maxLen at htl; omega⟩
        have HLN : Hid (rl.length ≤ 300) := hidE hlen
        clear hst hpl hat
        have HRN := hidE (rawD_newD wr ⟨takeDd x, none, pp, 0, cp⟩)
        have HEA := hidE hrow.2
        have hown := hrow.1.alloc (Obj.cells #[.int .i64 2, .slice none 0 0, .int .i64 0, .string ⟨#[]⟩, .slice pp x.path.length cp, .int .i64 x.clock, .int .i64 (x.text.size : Int)] 50)
        have hownD : (wr.alloc (Obj.cells #[.int .i64 2, .slice none 0 0, .int .i64 0, .string ⟨#[]⟩, .slice pp x.path.length cp, .int .i64 x.clock, .int .i64 (x.text.size : Int)] 50)).drew.ownsRow w2.heap.size 50 7 u9 rs.length (flatD rs) := hown
        have hB4 := (hb.alloc hb.size (Obj.cells #[.int .i64 2, .slice none 0 0, .int .i64 0, .string ⟨#[]⟩, .slice pp x.path.length cp, .int .i64 x.clock, .int .i64 (x.text.size : Int)] 50)).drew
        have hbase : w2.heap.size ≤ (wr.alloc (Obj.cells #[.int .i64 2, .slice none 0 0, .int .i64 0, .string ⟨#[]⟩, .slice pp x.path.length cp, .int .i64 x.clock, .int .i64 (x.text.size : Int)] 50)).drew.heap.size := hB4.size
        rw [hrsl] at hownD
        clear hrow hown
        go_upto_region 11 with fail
        go_region_law (first
          | (refine step_append_own rfl (.tmp 38) (.tmp 51) 26 rfl w2.heap.size 50 i0 (.agg #[.int .i64 0, .slice none 0 0, .int .i64 0, .string ⟨#[]⟩, .slice none 0 0, .int .i64 0, .int .i64 0]) 7 96 Tryz.underlying26 hi0 hz0 hz1 hz2 rfl (by decide) u9 c (flatD rs) (by simp [Act.eval]) hownD ⟨wr.heap.size, 0, none⟩ 1 1 (⟨takeDd x, none, pp, 0, cp⟩ : RawD).cells (by simp [Act.eval]) rfl (by intro j u hj; rw [Addr.add_lit, Nat.zero_add]; exact HRN.out j u hj) (fun u hu => flatD_one [(⟨takeDd x, none, pp, 0, cp⟩ : RawD)] u (by simpa [flatD] using hu)) (by have := HLN.out; unfold maxLen; omega) (by have := HLN.out; omega) hbase ?_; intro v' w5 hown5 hgrow))
        all_goals
          have hb5 := hB4.grown hgrow hbase (fun j hj => (hownD.lt j hj).1)
          have hrow5 : OwnsDd w2 w5 w2.heap.size v' (rs ++ [⟨takeDd x, none, pp, 0, cp⟩]) := by
            refine ⟨?_, fun y hy => ?_⟩
            · rw [flatD_append, List.length_append, hrsl]
              exact hown5
            · rcases List.mem_append.1 hy with hy | hy
              · exact HEA.out y hy
              · rw [List.mem_singleton.1 hy]; exact HAT.out
          have hmap5 : (rs ++ [(⟨takeDd x, none, pp, 0, cp⟩ : RawD)]).map RawD.d = (rl.take (c + 1)).map takeDd := by
            rw [HTK.out, List.map_append, HMAP.out]; rfl
          have HR5 := hidE hrow5
          have HM5 := hidE hmap5
          clear hown5 hgrow hrow5 hmap5
          go_wp2_with fail
          go_roundw
          case rel => exact ⟨c + 1, by omega, by go_num, _, HR5.out, HM5.out, hb5⟩
          case measure => simp [intOf]; omega
      · have hce : c = rl.length := by omega
        subst hce
        rw [List.take_length] at hmap
        obtain ⟨p', k2, rfl, hd⟩ := hrow.deeds hb
        rw [hmap] at hd
        have hB3 := hB2.trans (hb.mono (by rw [← HZ.out]; exact hB2.size))
        have HD := hidE hd
        clear hrow hmap hd
        go_wp2_with fail
        go_ret2
        rw [← HZ.out] at hB3
        refine ⟨hB3, Or.inr ⟨HE.out, ?_⟩⟩
        rw [Int.toNat_natCast, Int.toNat_natCast, ← HRLE.out]
        exact ⟨p', k2, by rw [hrsl]; rfl, HD.out⟩
end Go.Proofs.YtnhjebdlcbhkcacGreat
