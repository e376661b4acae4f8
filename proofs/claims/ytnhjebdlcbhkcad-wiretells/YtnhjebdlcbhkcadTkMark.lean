/- Contract of the reference's Taker: marks. -/
import Derived.Test.YtnhjebdlcbhkcadTkOne
import Derived.Test.YtnhjebdlcbhkcadRdMark
namespace Go.Proofs.Ytnhjebdlcbhkcad
open Go.RowKit

/-- what a mark that is taken is -/
def MarkTakes (T : Nat) (s : ByteArray) (n : Nat) (e : Bool) (w : World) (r : Ending) (w' : World) : Prop :=
  ∃ (p : Option Addr) (cap : Nat) (l : List (Int × Int)) (c : Int) (m : Nat) (e' : Bool), r = .returned (.agg #[.slice p l.length cap, .int .i64 c]) ∧ w'.ownsRow w.heap.size 110 2 (.slice p l.length cap) l.length (flatS l) ∧ l.length ≤ 255 ∧ TkSt w' T s m e' ∧ Rd pM (lft s n) e (l, c) (lft s m) e' ∧ m ≤ s.size ∧ w.grownBy w' (some T)

theorem flatS_snoc (l : List (Int × Int)) (x : Int × Int) : flatS (l ++ [x]) = flatS l ++ [.int .i64 x.1, .int .i64 x.2] := by
  rw [← flatS_eq, List.flatMap_append]; rfl

set_option maxRecDepth 100000 in
set_option maxHeartbeats 4000000 in
theorem tkMark_ok (T : Nat) (s : ByteArray) (n : Nat) (e : Bool) (w : World) (h : TkSt w T s n e) (hn : n ≤ s.size) (hs : s.size ≤ maxLen) :
    Calls Try.prog 108 #[.pointer (some ⟨T, 0, none⟩)] w (MarkTakes T s n e w) := by
  obtain ⟨i0, hi0, hz0, hz1, hz2⟩ := info_step
  have hTw := h.lt
  have hA := alloc_below w (Obj.cells #[.slice none 0 0, .int .i64 0] 29)
  have hN := Blk.new w #[.slice none 0 0, .int .i64 0] 29
  have hS := h.below hA h.lt
  have sz1 : (w.alloc (Obj.cells #[.slice none 0 0, .int .i64 0] 29)).heap.size = w.heap.size + 1 := by simp
  go_enter Try.func108, Try.ntmps108
  go_upto_region 1 with fail
  generalize w.alloc (Obj.cells #[.slice none 0 0, .int .i64 0] 29) = W at *
  have hA2 := alloc_below W (Obj.cells #[.slice none 0 0, .int .i64 0] 29)
  have hM := Blk.new W #[.slice none 0 0, .int .i64 0] 29
  rw [sz1] at hM
  replace hN := hN.below hA2 hN.lt
  replace hS := hS.below hA2 hS.lt
  replace hA := hA.trans (hA2.mono hA.size)
  go_upto_region 2 with fail
  generalize W.alloc (Obj.cells #[.slice none 0 0, .int .i64 0] 29) = W3 at *
  have nNT : w.heap.size ≠ T := by omega
  have nMT : w.heap.size + 1 ≠ T := by omega
  have H1 := hidE (tkOne_ok T s n e W3 hS hn hs)
  have HN := hidE hN
  have HM := hidE hM
  have HG := hidE (grownBy_none hA (row := some T))
  have hMlt := hM.lt
  clear hN hM hS h hA hA2 sz1
  go_wp2_with fail
  refine H1.out.mono ?_
  rintro r w1 ⟨k, n1, e1, rfl, hS, hR, k0, k1, hn1, hg⟩
  have HN1 := hidE (HN.out.grown hg (fun q => nNT (by simpa using q)))
  have HM1 := hidE (HM.out.grown hg (fun q => nMT (by simpa using q)))
  have HG1 := hidE (HG.out.trans hg)
  have HS1 := hidE hS
  have HR1 := hidE hR
  have hMlt1 := HM1.out.lt
  obtain ⟨kk, hkk⟩ : ∃ j : Nat, k = (j : Int) := ⟨k.toNat, by omega⟩
  subst hkk
  clear hS hR hg H1 HN HM HG
  generalize hBs : w1.heap.size = B at *
  have HBs := hidE hBs
  clear hBs
  go_wp2_with fail
  go_loopw [5] (fun vi wr => ∃ (i : Nat) (xs : List (Int × Int)) (m : Nat) (e' : Bool) (v : Value), i ≤ kk ∧ vi = .int .i64 i ∧ xs.length = i ∧ wr.ownsRow B 110 2 v xs.length (flatS xs) ∧ TkSt wr T s m e' ∧ m ≤ s.size ∧ Rd (pMany pStep i) (lft s n1) e1 xs (lft s m) e' ∧ Blk wr (w.heap.size + 1) #[v, .int .i64 0] 29 ∧ Blk wr w.heap.size #[.slice none 0 0, .int .i64 0] 29 ∧ w.grownBy wr (some T) ∧ B ≤ wr.heap.size) (fun vi _ => kk - (intOf vi).toNat)
  case atStart => exact ⟨0, [], n1, e1, .slice none 0 0, Nat.zero_le _, rfl, rfl, World.ownsRow_nil _ _ _ _, HS1.out, hn1, Rd.nil, HM1.out, HN1.out, HG1.out, by rw [HBs.out]; exact Nat.le_refl _⟩
  case round =>
    clear HS1 HM1 HN1 HG1 HBs
    obtain ⟨i, xs, m, e', v, hik, rfl, hl, hO, hS, hm, hR, hM, hN, hg, hBw⟩ := hrel
    obtain ⟨p, c, rfl⟩ := owns_sl hO
    have t2 := hS.is 2 rfl
    have HR := hidE hR
    have HG := hidE hg
    have HN := hidE hN
    have HM := hidE hM
    have HO := hidE hO
    clear hR hg hN hM hO
    by_cases hgo : i < kk ∧ e' = false
    · obtain ⟨hlt, rfl⟩ := hgo
      have hi1 : (i : Int) < (kk : Int) := by omega
      have H6 := hidE (tkOne_ok T s m false wr hS hm hs)
      have HL := hidE hl
      clear hS
      go_upto_region 7 with (go_at_call 61; refine H6.out.mono ?_; rintro r w6 ⟨d, m6, e6, rfl, hS, hR6, d0, d1, hm6, hg6⟩)
      have HN6 := hidE (HN.out.grown hg6 (fun q => nNT (by simpa using q)))
      have HM6 := hidE (HM.out.grown hg6 (fun q => nMT (by simpa using q)))
      have HO6 := hidE (HO.out.kept hg6 (Or.inr (own_apart HO.out (by omega))))
      have HG6 := hidE (HG.out.trans hg6)
      have HR6 := hidE hR6
      have hB6 := Nat.le_trans hBw hg6.size
      have H7 := hidE (tkOne_ok T s m6 e6 w6 hS hm6 hs)
      clear hS hR6 hg6 H6 HN HM HO HG t2
      go_upto_region 8 with (go_at_call 61; refine H7.out.mono ?_; rintro r w7 ⟨y, m7, e7, rfl, hS, hR7, y0, y1, hm7, hg7⟩)
      have HN7 := hidE (HN6.out.grown hg7 (fun q => nNT (by simpa using q)))
      have HM7 := hidE (HM6.out.grown hg7 (fun q => nMT (by simpa using q)))
      have hO7 := HO6.out.kept hg7 (Or.inr (own_apart HO6.out (by omega)))
      have HG7 := hidE (HG6.out.trans hg7)
      have HR7 := hidE (HR.out.snoc (HR6.out.step hR7))
      have hB7 := Nat.le_trans hB6 hg7.size
      have hAl := alloc_below w7 (Obj.cells #[.int .i64 d, .int .i64 y] 110)
      have hown := owns_below hO7 hAl
      have HS8 := hidE (hS.thruB hAl)
      have HN8 := hidE (HN7.out.thruB hAl)
      have HM8 := hidE (HM7.out.thruB hAl)
      have HG8 := hidE (HG7.out.trans (grownBy_none hAl))
      have m0 := HM7.out.is 0 rfl
      have fm := HM7.out.frozen
      have hsA : B ≤ (w7.alloc (Obj.cells #[.int .i64 d, .int .i64 y] 110)).heap.size := Nat.le_trans hB7 hAl.size
      clear hS hR7 hg7 H7 HN6 HM6 HO6 HG6 HR6 hO7 hAl HN7 HM7 HG7 HR hl
      generalize hn9 : xs.length = nx at *
      have hni := HL.out
      subst hni
      go_wp2_with (at_builtin; refine wpList_append_own _ rfl _ _ 27 rfl B 110 i0 (.agg #[.int .i64 0, .int .i64 0]) 2 16 Try.underlying27 hi0 hz0 hz1 hz2 rfl (by decide) _ _ _ rfl hown ⟨w7.heap.size, 0, none⟩ 1 1 [.int .i64 d, .int .i64 y] rfl rfl (by intro j u hj; rw [Addr.add_lit, World.cell?_alloc_new]; simpa using hj) (by intro u hu; simp only [List.mem_cons, List.not_mem_nil, or_false] at hu; rcases hu with rfl | rfl <;> rfl) (by unfold maxLen; omega) (by omega) hsA ?_)
      intro v' w5 hown5 hgrow _
      obtain ⟨p', c', rfl⟩ := owns_sl hown5
      have hTB : T < B := by omega
      have hS5 := HS8.out.grown hgrow (fun q => own_apart hown hTB q.symm)
      have hN5 := HN8.out.grown hgrow (fun q => own_apart hown (show w.heap.size < B by omega) q.symm)
      have hM5 := HM8.out.grown hgrow (fun q => own_apart hown hMlt1 q.symm)
      have HG5 := hidE (grownBy_own HG8.out hgrow (fun g hg => Or.inl (by have := (hown.lt g hg).1; omega)))
      have hB5 := Nat.le_trans hsA hgrow.size
      have m0 := hM5.is 0 rfl
      have fm := hM5.frozen
      have hs0 := grownBy_set' w5 (w.heap.size + 1) 0 (.slice p' (nx + 1) c')
      have HMF : Hid (Blk (w5.setCell ⟨w.heap.size + 1, 0, none⟩ (.slice p' (nx + 1) c')) (w.heap.size + 1) #[.slice p' (nx + 1) c', .int .i64 0] 29) := hidE (hM5.set 0 _)
      have HSF := hidE (hS5.grown hs0 (fun q => nMT (by simpa using q.symm)))
      have HNF := hidE (hN5.grown hs0 (fun q => by simp at q))
      have HOF := hidE (ownsRow_setCell_other (a := ⟨w.heap.size + 1, 0, none⟩) hown5 (own_apart hown5 hMlt1) (.slice p' (nx + 1) c'))
      have HGF := hidE (grownBy_new HG5.out hs0 (Nat.le_succ _))
      have hBF : B ≤ (w5.setCell ⟨w.heap.size + 1, 0, none⟩ (.slice p' (nx + 1) c')).heap.size := by simpa [World.setCell] using hB5
      have hlen : (xs ++ [(d, y)]).length = nx + 1 := by rw [List.length_append, hn9]; rfl
      have HFS := hidE (flatS_snoc xs (d, y))
      clear hS5 hN5 hM5 hs0 hown5 hgrow hown HG5 HS8 HN8 HM8 HG8 hB5
      go_wp2_with fail
      go_roundw
      case rel => exact ⟨nx + 1, xs ++ [(d, y)], m7, e7, .slice p' (nx + 1) c', hlt, by go_num, hlen, by rw [hlen, HFS.out]; exact HOF.out, HSF.out, hm7, HR7.out, HMF.out, HNF.out, HGF.out, hBF⟩
      case measure => simp [intOf]; omega
    · have HRK : Hid (Rd (pMany pStep kk) (lft s n1) e1 xs (lft s m) e') := by
        show Rd _ _ _ _ _ _
        by_cases hlt : i < kk
        · have : e' = true := by cases e' with
            | true => rfl
            | false => exact absurd ⟨hlt, rfl⟩ hgo
          subst this
          exact HR.out.stop (by omega)
        · have : i = kk := by omega
          subst this; exact HR.out
      have H9 := hidE (tkTwo_ok T s m e' wr hS hm hs)
      have hdec : ¬ ((i : Int) < (kk : Int)) ∨ (((i : Int) < (kk : Int)) ∧ e' = true) := by
        by_cases hlt : i < kk
        · refine Or.inr ⟨by omega, ?_⟩
          cases e' with
          | true => rfl
          | false => exact absurd ⟨hlt, rfl⟩ hgo
        · exact Or.inl (by omega)
      have hl255 : xs.length ≤ 255 := by omega
      clear hgo hS HR
      subst hl
      generalize hX : xs.length = xl at *
      have HX := hidE hX
      clear hX
      have hTB : T < B := by omega
      rcases hdec with hd | ⟨hd, rfl⟩
      all_goals
        go_wp2_with fail
        refine H9.out.mono ?_
        rintro r w9 ⟨c9, m9, e9, rfl, hS, hR9, d0, d1, hm9, hg9⟩
        have hN9 := HN.out.grown hg9 (fun q => nNT (by simpa using q))
        have hM9 := HM.out.grown hg9 (fun q => nMT (by simpa using q))
        have hO9 := HO.out.kept hg9 (Or.inr (own_apart HO.out hTB))
        have HG9 := hidE (HG.out.trans hg9)
        have HR9 := hidE (HR1.out.mark (by simpa using HRK.out) hR9)
        have m1 := hM9.is 1 rfl
        have fm := hM9.frozen
        have hs0 := grownBy_set' w9 (w.heap.size + 1) 1 (.int .i64 c9)
        have hMF : Blk (w9.setCell ⟨w.heap.size + 1, 1, none⟩ (.int .i64 c9)) (w.heap.size + 1) #[.slice p xl c, .int .i64 c9] 29 := hM9.set 1 _
        have hSF := hS.grown hs0 (fun q => nMT (by simpa using q.symm))
        have hNF := hN9.grown hs0 (fun q => by simp at q)
        have hOF := hO9.kept hs0 (Or.inr (own_apart hO9 hMlt1))
        have HGF := hidE (grownBy_new HG9.out hs0 (Nat.le_succ _))
        clear hS hN9 hM9 hO9 hg9 hR9 hs0 H9 HN HM HO HG HRK HR1 HG9
        go_upto_region 10 with fail
        generalize w9.setCell ⟨w.heap.size + 1, 1, none⟩ (.int .i64 c9) = W6 at *
        have x0 := hMF.is 0 rfl
        have x1 := hMF.is 1 rfl
        have y0' := hNF.is 0 rfl
        have y1' := hNF.is 1 rfl
        have fy := hNF.frozen
        have hF : Blk ((W6.setCell ⟨w.heap.size, 0, none⟩ (.slice p xl c)).setCell ⟨w.heap.size, 1, none⟩ (.int .i64 c9)) w.heap.size #[.slice p xl c, .int .i64 c9] 29 := (hNF.set 0 _).set 1 _
        have hs1 := (grownBy_set' W6 w.heap.size 0 (.slice p xl c)).trans (grownBy_set' _ w.heap.size 1 (.int .i64 c9))
        have HO8 := hidE (owns_base (hOF.kept hs1 (Or.inr (own_apart hOF (show w.heap.size < B by omega)))) (show w.heap.size ≤ B by omega))
        have HS8 := hidE (hSF.grown hs1 (fun q => nNT (by simpa using q.symm)))
        have HG8 := hidE (grownBy_new HGF.out hs1 (Nat.le_refl _))
        have HF := hidE hF
        clear hF hs1 hOF hSF hMF hNF HGF m1 fm t2 hd
        go_wp2_with fail
        have k0' := HF.out.is 0 rfl
        have k1' := HF.out.is 1 rfl
        refine bodyPost_ret (v := .agg #[.slice p xl c, .int .i64 c9]) (by simp [results, Try.results108, go_sem, k0', k1']) rfl ⟨p, c, xs, c9, m9, e9, by rw [HX.out], ?_, by rw [HX.out]; exact hl255, HS8.out, HR9.out, hm9, HG8.out⟩
        rw [HX.out]; exact HO8.out
end Go.Proofs.Ytnhjebdlcbhkcad
