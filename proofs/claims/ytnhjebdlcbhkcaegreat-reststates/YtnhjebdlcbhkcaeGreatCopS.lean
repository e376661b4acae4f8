/- Contract of the law's copiedState. -/
import Derived.Test.YtnhjebdlcbhkcaeGreatCopD
import Derived.Deep.RegionHeldLaw
namespace Go.Proofs.YtnhjebdlcbhkcaeGreat
open Go.RowKit

def StSz (l : List At) (g : List Mk) : Prop := (l.length * 40 ≤ 140737488351232 ∧ ∀ x ∈ l, x.path.length * 16 ≤ 140737488351232) ∧ g.length * 32 ≤ 140737488351232 ∧ ∀ x ∈ g, x.1.length * 16 ≤ 140737488351232

theorem CaOwn.rowM {w w' : World} {base K n : Nat} {v : Value} {ys : List Value} {x : CA} (h : CaOwn w base x) {b' : Nat} (ho : w.ownsRow b' 42 K v n ys) (hg : w.grownBy w' v.ownBlock) : CaOwn w' base x := ⟨h.1.kept hg (types_apart h.1 ho (by decide)), h.2⟩

structure Cop3 (w : World) (R : Nat) (a b : Option Addr) (n c m d : Nat) (v0 v1 : Value) : Prop where
  arg : Blk w R #[.slice a n c, .slice b m d] 25
  res : Blk w (R + 1) #[.slice none 0 0, .slice none 0 0] 25
  out : Blk w (R + 2) #[v0, v1] 25
theorem Cop3.below {w w' : World} {R : Nat} {a b : Option Addr} {n c m d : Nat} {v0 v1 : Value} (h : Cop3 w R a b n c m d v0 v1) (hb : Below w.heap.size w w') : Cop3 w' R a b n c m d v0 v1 := ⟨h.arg.thruB hb, h.res.thruB hb, h.out.thruB hb⟩
theorem Cop3.grown {w w' : World} {R : Nat} {a b : Option Addr} {n c m d : Nat} {v0 v1 : Value} (h : Cop3 w R a b n c m d v0 v1) {row : Option Nat} (hg : w.grownBy w' row) (hr : ∀ k, row = some k → R + 2 < k) : Cop3 w' R a b n c m d v0 v1 :=
  ⟨h.arg.grown hg (fun e => by have := hr _ e.symm; omega), h.res.grown hg (fun e => by have := hr _ e.symm; omega), h.out.grown hg (fun e => by have := hr _ e.symm; omega)⟩
theorem Cop3.set0 {w : World} {R : Nat} {a b : Option Addr} {n c m d : Nat} {v0 v1 : Value} (h : Cop3 w R a b n c m d v0 v1) (v : Value) : Cop3 (w.setCell ⟨R + 2, 0, none⟩ v) R a b n c m d v v1 :=
  ⟨h.arg.setOther (by simp) v, h.res.setOther (by simp) v, h.out.set 0 v⟩
theorem Cop3.set1 {w : World} {R : Nat} {a b : Option Addr} {n c m d : Nat} {v0 v1 : Value} (h : Cop3 w R a b n c m d v0 v1) (v : Value) : Cop3 (w.setCell ⟨R + 2, 1, none⟩ v) R a b n c m d v0 v :=
  ⟨h.arg.setOther (by simp) v, h.res.setOther (by simp) v, h.out.set 1 v⟩

set_option linter.unusedSimpArgs false in
set_option maxRecDepth 100000 in
set_option maxHeartbeats 4000000 in
theorem copiedState_ok (a b : Option Addr) (c d : Nat) (l : List At) (g : List Mk) (w : World) (h : AtomsAt w a l) (h' : MarksAt w b g) (hz : StSz l g) :
    Calls Tryz.prog 13 #[.agg #[.slice a l.length c, .slice b g.length d]] w fun e w' => ∃ p k q j, e = .returned (.agg #[.slice p l.length k, .slice q g.length j]) ∧ AtomsAt w' p l ∧ MarksAt w' q g ∧ l.length ≤ k ∧ k ≤ maxLen ∧ Below w.heap.size w w' := by
  obtain ⟨⟨hl0, hl1⟩, hg0, hg1⟩ := hz
  have HL1 := hidE hl1
  have HG1 := hidE hg1
  have H0 := hidE h
  have H1 := hidE h'
  have hC : Cop3 (((w.alloc (Obj.cells #[.slice a l.length c, .slice b g.length d] 25)).alloc (Obj.cells #[.slice none 0 0, .slice none 0 0] 25)).alloc (Obj.cells #[.slice none 0 0, .slice none 0 0] 25)) w.heap.size a b l.length c g.length d (.slice none 0 0) (.slice none 0 0) := by
    refine ⟨((Blk.new w _ _).alloc _).alloc _, ?_, ?_⟩
    · have := (Blk.new (w.alloc (Obj.cells #[.slice a l.length c, .slice b g.length d] 25)) #[.slice none 0 0, .slice none 0 0] 25).alloc (Obj.cells #[.slice none 0 0, .slice none 0 0] 25)
      rw [show (w.alloc (Obj.cells #[.slice a l.length c, .slice b g.length d] 25)).heap.size = w.heap.size + 1 by simp] at this
      exact this
    · have := Blk.new ((w.alloc (Obj.cells #[.slice a l.length c, .slice b g.length d] 25)).alloc (Obj.cells #[.slice none 0 0, .slice none 0 0] 25)) #[.slice none 0 0, .slice none 0 0] 25
      rw [show ((w.alloc (Obj.cells #[.slice a l.length c, .slice b g.length d] 25)).alloc (Obj.cells #[.slice none 0 0, .slice none 0 0] 25)).heap.size = w.heap.size + 2 by simp] at this
      exact this
  have hB : Below w.heap.size w (((w.alloc (Obj.cells #[.slice a l.length c, .slice b g.length d] 25)).alloc (Obj.cells #[.slice none 0 0, .slice none 0 0] 25)).alloc (Obj.cells #[.slice none 0 0, .slice none 0 0] 25)) := (((Below.refl _ _).alloc (Nat.le_refl _) _).alloc (by simp) _).alloc (by simp; omega) _
  clear h h' hl1 hg1
  go_enter Tryz.func13, Tryz.ntmps13
  go_upto_region 2 with fail
  generalize ((w.alloc (Obj.cells #[.slice a l.length c, .slice b g.length d] 25)).alloc (Obj.cells #[.slice none 0 0, .slice none 0 0] 25)).alloc (Obj.cells #[.slice none 0 0, .slice none 0 0] 25) = W at *
  have HC := hidE hC
  have HB := hidE hB
  clear hC hB
  go_wp2_with fail
  go_loopw [4] (fun t4 wr => ∃ (i : Nat) (rs : List CA) (pv : Option Addr) (cv : Nat), i ≤ l.length ∧ t4 = .int .i64 i ∧ rs.map CA.x = l.take i ∧ Cop3 wr w.heap.size a b l.length c g.length d (.slice pv i cv) (.slice none 0 0) ∧ RowOwn 108 3 CA.cells CaOwn wr (w.heap.size + 3) (.slice pv i cv) rs ∧ Below w.heap.size w wr) (fun t4 _ => l.length - (intOf t4).toNat)
  case atStart => exact ⟨0, [], none, 0, Nat.zero_le _, rfl, rfl, HC.out, RowOwn.nil, HB.out⟩
  case round =>
    clear HC HB
    obtain ⟨i, rs, pv, cv, hi, rfl, hm, hC, hO, hB⟩ := hrel
    have hrl : rs.length = i := by rw [← List.length_map CA.x, hm, List.length_take]; omega
    have a0 := hC.arg.is 0 rfl
    have z0 := hC.out.is 0 rfl
    have hCl := hC.out.lt
    rcases Nat.lt_or_ge i l.length with hlt | hge
    · have hi1 : (i : Int) < (l.length : Int) := by omega
      rcases H0.out.below hB (Nat.le_refl _) with e0 | ⟨bb, o, rfl, hb, hc⟩
      · rw [e0] at hlt; simp at hlt
      obtain ⟨p, cp, c0, c1, c2, hD, hpm, _, hs0, hs1⟩ := hc i hlt
      have hps := HL1.out _ (List.getElem_mem hlt)
      have HTK : Hid (l.take (i + 1) = l.take i ++ [l[i]]) := List.take_succ_eq_append_getElem hlt
      have HD := hidE hD
      have HN := hidE (And.intro hpm (And.intro hs0 hs1))
      have HO := hidE hO
      have HM := hidE hm
      have HB := hidE hB
      have HRL := hidE hrl
      have HC := hidE hC
      have hBs := hB.size
      clear hc hD hs0 hs1 hO hm hB hrl hi hC hpm
      generalize l[i] = x at *
      obtain ⟨path, ck, sg⟩ := x
      simp only at c0 c1 c2 hps
      obtain ⟨i0, hi0, hz0', hz1', hz2'⟩ := infoCS
      obtain ⟨i1, hi1', hy0, hy1, hy2⟩ := Tryz.info108
      have hX6 := Blk.new wr #[.slice p path.length cp, .int .i64 ck, .int .u8 sg] 108
      have hB6 := alloc_below wr (Obj.cells #[.slice p path.length cp, .int .i64 ck, .int .u8 sg] 108)
      go_upto_region 6 with fail
      generalize wr.alloc (Obj.cells #[.slice p path.length cp, .int .i64 ck, .int .u8 sg] 108) = W6 at *
      have hlt6 := hX6.lt
      have x0 := hX6.is 0 rfl
      have HG7 : Hid ((W6.alloc (Obj.cells #[] 124)).ownsRow W6.heap.size 124 2 (.slice (some ⟨W6.heap.size, 0, none⟩) 0 0) 0 []) := World.ownsRow_lit W6 #[] 0 (Nat.le_refl _) (Nat.zero_le _) rfl
      have hBG7 := hB6.alloc hB6.size (Obj.cells #[] 124)
      have hXG7 := hX6.alloc (Obj.cells #[] 124)
      have HSC7 := hidE (steps_cells (HD.out.below hBG7 (Nat.le_refl _)))
      go_upto_region 7 with (at_builtin; refine wpList_append_any rfl _ _ 40 rfl W6.heap.size 124 i0 (.agg #[.int .i64 0, .int .i64 0]) 2 16 Tryz.underlying40 hi0 hz0' hz1' hz2' rfl (by decide) (.slice (some ⟨W6.heap.size, 0, none⟩) 0 0) 0 [] rfl HG7.out p path.length cp (flatS path) rfl (flatS_length path) HSC7.out (flatS_oneC path) (by unfold maxLen; omega) (by omega) (by simp) ?_; intro v7 w7 hown7 hgrow7; obtain ⟨p7, c7, rfl⟩ := owns_sl hown7; rw [Nat.zero_add, List.nil_append] at hown7; have hX7 := hXG7.grown hgrow7 (by simp [Value.ownBlock]; omega); have x7v := hX7.is 0 rfl; have x7f := hX7.frozen)
      have hb7 := (hBG7.grown hgrow7 hBG7.size (fun k hk => by simp [Value.ownBlock] at hk; omega)).setCell (p := ⟨wr.heap.size, 0, none⟩) (Nat.le_refl _) (.slice p7 path.length c7)
      have hXS7 : Blk (w7.setCell ⟨wr.heap.size, 0, none⟩ (.slice p7 path.length c7)) wr.heap.size #[.slice p7 path.length c7, .int .i64 ck, .int .u8 sg] 108 := hX7.set 0 (.slice p7 path.length c7)
      have hO7 := hown7.kept (grownBy_set' w7 wr.heap.size 0 (.slice p7 path.length c7)) (Or.inr (own_apart hown7 hlt6))
      clear hX7 x7v x7f hown7 hgrow7 hBG7 hXG7 hX6 x0 c0 c1 c2 a0 z0
      generalize w7.setCell ⟨wr.heap.size, 0, none⟩ (.slice p7 path.length c7) = W7 at *
      have y0 := hXS7.is 0 rfl
      have y1 := hXS7.is 1 rfl
      have y2 := hXS7.is 2 rfl
      have hC7 := HC.out.below hb7
      have z0 := hC7.out.is 0 rfl
      have zlt := hC7.out.lt
      have hr7 := HO.out.belowE (fun _ h => CaOwn.below h hb7) hb7
      have hO9 := hr7.own
      rw [HRL.out] at hO9
      have hA7 := alloc_below W7 (Obj.cells #[.slice p7 path.length c7, .int .i64 ck, .int .u8 sg] 108)
      have hb8 := hb7.thru hA7 hb7.size
      have hx : CaOwn (W7.alloc (Obj.cells #[.slice p7 path.length c7, .int .i64 ck, .int .u8 sg] 108)) (w.heap.size + 3) ⟨⟨path, ck, sg⟩, p7, c7⟩ := ⟨owns_base (hO7.alloc _) (by omega), HN.out⟩
      have hr8 := hr7.belowE (fun _ h => CaOwn.below h hA7) hA7
      have hC8 := hC7.below hA7
      have hbs7 : w.heap.size + 3 ≤ W7.heap.size := by omega
      have hbs8 : w.heap.size + 3 ≤ (W7.alloc (Obj.cells #[.slice p7 path.length c7, .int .i64 ck, .int .u8 sg] 108)).heap.size := Nat.le_trans hbs7 hA7.size
      have HX8 := hidE hx
      have HR8 := hidE hr8
      have HB8 := hidE hb8
      have HC8 := hidE hC8
      clear hr7 hO7 hA7 hx hr8 hb8 hC8 hXS7 hC7 hb7
      go_upto_region 4 with (at_builtin; refine wpList_append_own _ rfl _ _ 22 rfl (w.heap.size + 3) 108 i1 (.agg #[.slice none 0 0, .int .i64 0, .int .u8 0]) 3 40 Tryz.underlying22 hi1' hy0 hy1 hy2 rfl (by decide) (.slice pv i cv) i (rs.flatMap CA.cells) rfl (hO9.alloc _) ⟨W7.heap.size, 0, none⟩ 1 1 (CA.cells ⟨⟨path, ck, sg⟩, p7, c7⟩) rfl rfl (by intro j u hj; rw [Addr.add_lit, Nat.zero_add, World.cell?_alloc_new]; simpa [CA.cells] using hj) (by intro u hu; simp only [CA.cells, List.mem_cons, List.not_mem_nil, or_false] at hu; rcases hu with rfl | rfl | rfl <;> rfl) (by unfold maxLen; omega) (by omega) (by simp; omega) ?_; intro v9 w9 hown9 hgrow9 _; obtain ⟨p9, c9, rfl⟩ := owns_sl hown9; have hC9 := HC8.out.grown hgrow9 (fun k hk => by have := (hO9.lt k hk).1; omega); have k0 := hC9.out.is 0 rfl; have kf := hC9.out.frozen)
      have HS := hidE (HR8.out.snoc (CaOwn.stays 0) HX8.out (by rw [HRL.out]; exact hown9) hgrow9)
      have HBN := hidE (((HB.out.trans (HB8.out.mono hBs)).grown hgrow9 (by omega) (fun k hk => by have := (hO9.lt k hk).1; omega)).setCell (p := ⟨w.heap.size + 2, 0, none⟩) (by show w.heap.size ≤ w.heap.size + 2; omega) (.slice p9 (i + 1) c9))
      have HCN := hidE (hC9.set0 (.slice p9 (i + 1) c9))
      have HSN := hidE (HS.out.far (CaOwn.stays (w.heap.size + 2)) (Nat.lt_succ_self _) (grownBy_set' w9 (w.heap.size + 2) 0 (.slice p9 (i + 1) c9)))
      clear hown9 hgrow9 hC9 y0 y1 y2 z0
      go_wp2_with fail
      go_roundw
      case rel => exact ⟨i + 1, rs ++ [⟨⟨path, ck, sg⟩, p7, c7⟩], p9, c9, hlt, by go_num, by rw [List.map_append, HM.out, HTK.out]; rfl, HCN.out, HSN.out, HBN.out⟩
      case measure => simp [intOf]; omega
    · obtain rfl : i = l.length := by omega
      have hi1 : ¬ ((l.length : Int) < (l.length : Int)) := by omega
      rw [List.take_length] at hm
      have HC := hidE hC
      have HO := hidE hO
      have HM := hidE hm
      have HRL := hidE hrl
      have HB := hidE hB
      clear hC hO hm hrl hB hi hge
      go_wp2_with fail
      go_loopw [6] (fun t6 wv => ∃ (k : Nat) (gs : List CM) (pg : Option Addr) (cg : Nat), k ≤ g.length ∧ t6 = .int .i64 k ∧ gs.map CM.x = g.take k ∧ Cop3 wv w.heap.size a b l.length c g.length d (.slice pv l.length cv) (.slice pg k cg) ∧ RowOwn 108 3 CA.cells CaOwn wv (w.heap.size + 3) (.slice pv l.length cv) rs ∧ RowOwn 42 2 CM.cells CmOwn wv (w.heap.size + 3) (.slice pg k cg) gs ∧ Below w.heap.size w wv) (fun t6 _ => g.length - (intOf t6).toNat)
      case atStart => exact ⟨0, [], none, 0, Nat.zero_le _, rfl, rfl, HC.out, HO.out, RowOwn.nil, HB.out⟩
      case round =>
        clear HC HO HB a0 z0 hCl
        obtain ⟨k, gs, pg, cg, hk, rfl, hm, hC, hOa, hOg, hB⟩ := hrel
        have hgl : gs.length = k := by rw [← List.length_map CM.x, hm, List.length_take]; omega
        have b1 := hC.arg.is 1 rfl
        have z0 := hC.out.is 0 rfl
        have z1 := hC.out.is 1 rfl
        have hCl := hC.out.lt
        rcases Nat.lt_or_ge k g.length with hlt | hge
        · have hk1 : (k : Int) < (g.length : Int) := by omega
          rcases H1.out.below hB (Nat.le_refl _) with e0 | ⟨bb, o, rfl, hb, hc⟩
          · rw [e0] at hlt; simp at hlt
          obtain ⟨p, cp, c0, c1, hD, hpm⟩ := hc k hlt
          have hps := HG1.out _ (List.getElem_mem hlt)
          have HTK : Hid (g.take (k + 1) = g.take k ++ [g[k]]) := List.take_succ_eq_append_getElem hlt
          have HD := hidE hD
          have HPM := hidE hpm
          have HOA := hidE hOa
          have HOG := hidE hOg
          have HMG := hidE hm
          have HB := hidE hB
          have HGL := hidE hgl
          have HC := hidE hC
          have hBs := hB.size
          clear hc hD hpm hOa hOg hm hB hgl hk hC
          generalize g[k] = x at *
          obtain ⟨path, ck⟩ := x
          simp only at c0 c1 hps
          have hbw : bb < w.heap.size := by
            rcases H1.out with e0 | ⟨b', o', e1, h9, _⟩
            · rw [e0] at hlt; simp at hlt
            · simp only [Option.some.injEq, Addr.mk.injEq, and_true] at e1
              obtain ⟨rfl, rfl⟩ := e1
              exact h9
          have HSS : Hid (∀ W', Below (w.heap.size + 2) wr W' → W'.cell? ⟨w.heap.size, 1, none⟩ = some (.slice (some ⟨bb, o, none⟩) g.length d) ∧ W'.cell? ⟨bb, o + k * 2, none⟩ = some (.slice p path.length cp) ∧ W'.cell? ⟨bb, o + k * 2 + 1, none⟩ = some (.int .i64 ck)) := fun W' hb => ⟨((HC.out.arg.below hb (by omega))).is 1 rfl, (hb.cell (p := ⟨bb, o + k * 2, none⟩) (by show bb < _; omega)).trans c0, (hb.cell (p := ⟨bb, o + k * 2 + 1, none⟩) (by show bb < _; omega)).trans c1⟩
          have HSC := hidE (fun W' (hb : Below wr.heap.size wr W') => steps_cells (HD.out.below hb (Nat.le_refl _)))
          have HG : Hid ((wr.alloc (Obj.cells #[] 124)).ownsRow wr.heap.size 124 2 (.slice (some ⟨wr.heap.size, 0, none⟩) 0 0) 0 []) := World.ownsRow_lit wr #[] 0 (Nat.le_refl _) (Nat.zero_le _) rfl
          obtain ⟨i0, hi0, hz0', hz1', hz2'⟩ := infoCS
          obtain ⟨i1, hi1', hy0, hy1, hy2⟩ := Tryz.info42
          go_upto_region 11 with fail
          refine wp_region_held_drew (S := (fun W' => W'.cell? ⟨w.heap.size, 1, none⟩ = some (.slice (some ⟨bb, o, none⟩) g.length d) ∧ W'.cell? ⟨bb, o + k * 2, none⟩ = some (.slice p path.length cp) ∧ W'.cell? ⟨bb, o + k * 2 + 1, none⟩ = some (.int .i64 ck))) (by kernel_rfl) ?_ (fun hHeld => ?_)
          · ((try dsimp only); exact HSS.out _ (by repeat (first | exact hB9 | exact hB7.mono (by omega) | exact Below.refl _ _ | refine Below.drew ?_ | refine Below.setCell ?_ (by show w.heap.size + 2 ≤ w.heap.size + 1 + 1; omega) _ | refine Below.alloc ?_ (by first | omega | (simp <;> omega)) _)))
          refine wpAnyH_take (i := 0) (oi := _) (v := ?_) rfl (by kernel_rfl) (by kernel_rfl) (by kernel_rfl) (fun _ _ _ h => h) (Or.inl ⟨by rfl, ?_⟩) (by assumption) ?_
          rotate_left
          · (intro w hSw; (try dsimp only at hSw); go_simp; (try with_reducible rfl))
          try simp only [Act.put, List.setIfInBounds_toArray, List.set_cons_zero, List.set_cons_succ]
          refine wpAnyH_take (i := 3) (oi := _) (v := ?_) rfl (by kernel_rfl) (by kernel_rfl) (by kernel_rfl) (fun _ _ _ h => h) (Or.inl ⟨by rfl, ?_⟩) (by assumption) ?_
          rotate_left
          · (intro w hSw; (try dsimp only at hSw); go_simp; (try with_reducible rfl))
          try simp only [Act.put, List.setIfInBounds_toArray, List.set_cons_zero, List.set_cons_succ]
          refine wpAnyH_take (i := 4) (oi := _) (v := ?_) rfl (by kernel_rfl) (by kernel_rfl) (by kernel_rfl) (fun _ _ _ h => h) (Or.inl ⟨by rfl, ?_⟩) (by assumption) ?_
          rotate_left
          · (intro w hSw; (try dsimp only at hSw); go_simp; (try with_reducible rfl))
          try simp only [Act.put, List.setIfInBounds_toArray, List.set_cons_zero, List.set_cons_succ]
          refine wpAnyH_take (i := 5) (oi := _) (v := ?_) rfl (by kernel_rfl) (by kernel_rfl) (by kernel_rfl) (fun _ _ _ h => h) (Or.inl ⟨by rfl, ?_⟩) (by assumption) ?_
          rotate_left
          · (intro w hSw; (try dsimp only at hSw); go_simp; (try with_reducible rfl))
          try simp only [Act.put, List.setIfInBounds_toArray, List.set_cons_zero, List.set_cons_succ]
          refine wpAnyH_take (i := 6) (oi := _) (v := ?_) rfl (by kernel_rfl) (by kernel_rfl) (by kernel_rfl) (fun _ _ _ h => h) (Or.inl ⟨by rfl, ?_⟩) (by assumption) ?_
          rotate_left
          · (intro w hSw; (try dsimp only at hSw); go_simp; (try with_reducible rfl))
          try simp only [Act.put, List.setIfInBounds_toArray, List.set_cons_zero, List.set_cons_succ]
          refine wpAnyH_take (i := 7) (oi := _) (v := ?_) rfl (by kernel_rfl) (by kernel_rfl) (by kernel_rfl) (fun _ _ _ h => h) (Or.inl ⟨by rfl, ?_⟩) (by assumption) ?_
          rotate_left
          · (intro w hSw; (try dsimp only at hSw); go_simp; (try with_reducible rfl))
          try simp only [Act.put, List.setIfInBounds_toArray, List.set_cons_zero, List.set_cons_succ]
          refine wpAnyH_take (i := 8) (oi := _) (v := ?_) rfl (by kernel_rfl) (by kernel_rfl) (by kernel_rfl) (fun _ _ _ h => h) (Or.inl ⟨by rfl, ?_⟩) (by assumption) ?_
          rotate_left
          · (intro w hSw; (try dsimp only at hSw); go_simp; (try with_reducible rfl))
          try simp only [Act.put, List.setIfInBounds_toArray, List.set_cons_zero, List.set_cons_succ]
          refine wpAnyH_take (i := 10) (oi := _) (v := ?_) rfl (by kernel_rfl) (by kernel_rfl) (by kernel_rfl) (fun _ _ _ h => h) (Or.inl ⟨by rfl, ?_⟩) (by assumption) ?_
          rotate_left
          · (intro w hSw; (try dsimp only at hSw); go_simp; (try with_reducible rfl))
          try simp only [Act.put, List.setIfInBounds_toArray, List.set_cons_zero, List.set_cons_succ]
          refine wpAnyH_take (i := 11) (oi := _) (v := ?_) rfl (by kernel_rfl) (by kernel_rfl) (by kernel_rfl) (fun _ _ _ h => h) (Or.inl ⟨by rfl, ?_⟩) (by assumption) ?_
          rotate_left
          · (intro w hSw; (try dsimp only at hSw); go_simp; (try with_reducible rfl))
          try simp only [Act.put, List.setIfInBounds_toArray, List.set_cons_zero, List.set_cons_succ]
          refine wpAnyH_take (i := 12) (oi := _) (v := ?_) rfl (by kernel_rfl) (by kernel_rfl) (by kernel_rfl) (fun _ _ _ h => h) (Or.inl ⟨by rfl, ?_⟩) (by assumption) ?_
          rotate_left
          · (intro w hSw; (try dsimp only at hSw); go_simp; (try with_reducible rfl))
          try simp only [Act.put, List.setIfInBounds_toArray, List.set_cons_zero, List.set_cons_succ]
          refine wpAnyH_take (i := 13) (oi := _) (v := ?_) rfl (by kernel_rfl) (by kernel_rfl) (by kernel_rfl) (fun _ _ _ h => h) (Or.inl ⟨by rfl, ?_⟩) (by assumption) ?_
          rotate_left
          · (intro w hSw; (try dsimp only at hSw); go_simp; (try with_reducible rfl))
          try simp only [Act.put, List.setIfInBounds_toArray, List.set_cons_zero, List.set_cons_succ]
          refine wpAnyH_take (i := 14) (oi := _) (v := ?_) rfl (by kernel_rfl) (by kernel_rfl) (by kernel_rfl) (fun _ _ _ h => h) (Or.inl ⟨by rfl, ?_⟩) (by assumption) ?_
          rotate_left
          · (intro w hSw; (try dsimp only at hSw); go_simp; (try with_reducible rfl))
          try simp only [Act.put, List.setIfInBounds_toArray, List.set_cons_zero, List.set_cons_succ]
          refine wpAnyH_take (i := 15) (oi := _) (v := ?_) rfl (by kernel_rfl) (by kernel_rfl) (by kernel_rfl) (fun _ _ _ h => h) (Or.inl ⟨by rfl, ?_⟩) (by assumption) ?_
          rotate_left
          · (intro w hSw; (try dsimp only at hSw); go_simp; (try with_reducible rfl))
          try simp only [Act.put, List.setIfInBounds_toArray, List.set_cons_zero, List.set_cons_succ]
          refine wpAnyH_ready (rs := [1, 2]) (by kernel_rfl) (by simp) ?_
          refine AllReadyH.cons rfl (fun K hK => ?_) ?_
          · go_simp
            refine hK.out _ _ ?_ (fun hHeld => ?_)
            · ((try dsimp only); exact HSS.out _ (by repeat (first | exact hB9 | exact hB7.mono (by omega) | exact Below.refl _ _ | refine Below.drew ?_ | refine Below.setCell ?_ (by show w.heap.size + 2 ≤ w.heap.size + 1 + 1; omega) _ | refine Below.alloc ?_ (by first | omega | (simp <;> omega)) _)))
            clear hK K
            refine wpAnyH_ready (rs := [2]) (by kernel_rfl) (by simp) ?_
            refine AllReadyH.cons rfl (fun K hK => ?_) ?_
            · go_simp
              refine hK.out _ _ ?_ (fun hHeld => ?_)
              · ((try dsimp only); exact HSS.out _ (by repeat (first | exact hB9 | exact hB7.mono (by omega) | exact Below.refl _ _ | refine Below.drew ?_ | refine Below.setCell ?_ (by show w.heap.size + 2 ≤ w.heap.size + 1 + 1; omega) _ | refine Below.alloc ?_ (by first | omega | (simp <;> omega)) _)))
              clear hK K
              refine wpAnyH_ready (rs := [9]) (by kernel_rfl) (by simp) ?_
              refine AllReadyH.cons rfl (fun K hK => ?_) ?_
              · (refine step_append_any rfl (.tmp 41) (.tmp 47) 40 rfl wr.heap.size 124 i0 (.agg #[.int .i64 0, .int .i64 0]) 2 16 Tryz.underlying40 hi0 hz0' hz1' hz2' rfl (by decide) (.slice (some ⟨wr.heap.size, 0, none⟩) 0 0) 0 [] (by simp [Act.eval, Act.put]) (by exact HG.out) p path.length cp (flatS path) (by simp [Act.eval, Act.put]) (flatS_length path) (HSC.out _ (by repeat (first | exact Below.refl _ _ | refine Below.drew ?_ | refine Below.alloc ?_ (by simp <;> omega) _))) (flatS_oneC path) (by unfold maxLen; omega) (by omega) (by simp <;> omega) ?_; intro v7 w7 hown7 hgrow7; obtain ⟨p7, c7, rfl⟩ := owns_sl hown7; rw [Nat.zero_add, List.nil_append] at hown7; have hB7 : Below wr.heap.size wr w7 := Below.grown (by repeat (first | exact Below.refl _ _ | refine Below.drew ?_ | refine Below.alloc ?_ (by simp <;> omega) _)) hgrow7 (by simp <;> omega) (by intro k hk; simp [Value.ownBlock] at hk; omega); have z17 := (HC.out.out.thruB hB7).is 1 rfl; have hC7l := (HC.out.out.thruB hB7).lt; have hs7 := hB7.size; have hG7 := HOG.out.belowE (fun _ h => CmOwn.below h hB7) hB7; have hO7g := hG7.own; rw [HGL.out] at hO7g)
                refine hK.out _ _ ?_ (fun hHeld => ?_)
                · ((try dsimp only); exact HSS.out _ (by repeat (first | exact hB9 | exact hB7.mono (by omega) | exact Below.refl _ _ | refine Below.drew ?_ | refine Below.setCell ?_ (by show w.heap.size + 2 ≤ w.heap.size + 1 + 1; omega) _ | refine Below.alloc ?_ (by first | omega | (simp <;> omega)) _)))
                clear hK K
                refine wpAnyH_take (i := 16) (oi := _) (v := ?_) rfl (by kernel_rfl) (by kernel_rfl) (by kernel_rfl) (fun _ _ _ h => h) (Or.inl ⟨by rfl, ?_⟩) (by assumption) ?_
                rotate_left
                · (intro w hSw; (try dsimp only at hSw); go_simp; (try with_reducible rfl))
                try simp only [Act.put, List.setIfInBounds_toArray, List.set_cons_zero, List.set_cons_succ]
                refine wpAnyH_ready (rs := [17]) (by kernel_rfl) (by simp) ?_
                refine AllReadyH.cons rfl (fun K hK => ?_) ?_
                · go_simp
                  refine hK.out _ _ ?_ (fun hHeld => ?_)
                  · ((try dsimp only); exact HSS.out _ (by repeat (first | exact hB9 | exact hB7.mono (by omega) | exact Below.refl _ _ | refine Below.drew ?_ | refine Below.setCell ?_ (by show w.heap.size + 2 ≤ w.heap.size + 1 + 1; omega) _ | refine Below.alloc ?_ (by first | omega | (simp <;> omega)) _)))
                  clear hK K
                  refine wpAnyH_ready (rs := [18]) (by kernel_rfl) (by simp) ?_
                  refine AllReadyH.cons rfl (fun K hK => ?_) ?_
                  · (refine step_append_own rfl (.tmp 40) (.tmp 56) 23 rfl (w.heap.size + 3) 42 i1 (.agg #[.slice none 0 0, .int .i64 0]) 2 32 Tryz.underlying23 hi1' hy0 hy1 hy2 rfl (by decide) (.slice pg k cg) k (gs.flatMap CM.cells) (by simp [Act.eval, Act.put]) (by exact hO7g.alloc _) ⟨w7.heap.size, 0, none⟩ 1 1 (CM.cells ⟨(path, ck), p7, c7⟩) (by simp [Act.eval, Act.put]) rfl (by intro j u hj; rw [Addr.add_lit, Nat.zero_add, World.cell?_alloc_new]; simpa [CM.cells] using hj) (by intro u hu; simp only [CM.cells, List.mem_cons, List.not_mem_nil, or_false] at hu; rcases hu with rfl | rfl <;> rfl) (by unfold maxLen; omega) (by omega) (by simp <;> omega) ?_; intro v9 w9 hown9 hgrow9; obtain ⟨p9, c9, rfl⟩ := owns_sl hown9; have hB9 : Below (w.heap.size + 2) wr w9 := ((hB7.mono (by omega)).alloc (by omega) (Obj.cells #[.slice p7 path.length c7, .int .i64 ck] 42)).grown hgrow9 (by simp <;> omega) (fun k hk => by have := (hO7g.lt k hk).1; omega); have hC9 := ((HC.out.below hB7).below (alloc_below w7 (Obj.cells #[.slice p7 path.length c7, .int .i64 ck] 42))).grown hgrow9 (fun k hk => by have := (hO7g.lt k hk).1; omega); have k1 := hC9.out.is 1 rfl; have kf := hC9.out.frozen)
                    refine hK.out _ _ ?_ (fun hHeld => ?_)
                    · ((try dsimp only); exact HSS.out _ (by repeat (first | exact hB9 | exact hB7.mono (by omega) | exact Below.refl _ _ | refine Below.drew ?_ | refine Below.setCell ?_ (by show w.heap.size + 2 ≤ w.heap.size + 1 + 1; omega) _ | refine Below.alloc ?_ (by first | omega | (simp <;> omega)) _)))
                    clear hK K
                    refine wpAnyH_take (i := 19) (oi := _) (v := ?_) rfl (by kernel_rfl) (by kernel_rfl) (by kernel_rfl) (fun _ _ _ h => h) (Or.inl ⟨by rfl, ?_⟩) (by assumption) ?_
                    rotate_left
                    · (intro w hSw; (try dsimp only at hSw); go_simp; (try with_reducible rfl))
                    try simp only [Act.put, List.setIfInBounds_toArray, List.set_cons_zero, List.set_cons_succ]
                    refine wpAnyH_ready (rs := [20]) (by kernel_rfl) (by simp) ?_
                    refine AllReadyH.cons rfl (fun K hK => ?_) ?_
                    · go_simp
                      refine hK.out _ _ ?_ (fun hHeld => ?_)
                      · ((try dsimp only); exact HSS.out _ (by repeat (first | exact hB9 | exact hB7.mono (by omega) | exact Below.refl _ _ | refine Below.drew ?_ | refine Below.setCell ?_ (by show w.heap.size + 2 ≤ w.heap.size + 1 + 1; omega) _ | refine Below.alloc ?_ (by first | omega | (simp <;> omega)) _)))
                      clear hK K
                      refine wpAnyH_done (by kernel_rfl) ?_ _
                      have hx : CmOwn (w7.alloc (Obj.cells #[.slice p7 path.length c7, .int .i64 ck] 42)) (w.heap.size + 3) ⟨(path, ck), p7, c7⟩ := ⟨owns_base (hown7.alloc _) (by omega), HPM.out⟩
                      have hA7 := alloc_below w7 (Obj.cells #[.slice p7 path.length c7, .int .i64 ck] 42)
                      have hS := (hG7.belowE (fun _ h => CmOwn.below h hA7) hA7).snoc (CmOwn.stays 0) hx (by rw [HGL.out]; exact hown9) hgrow9
                      have hAt := (HOA.out.belowE (fun _ h => CaOwn.below h hB7) hB7).belowE (fun _ h => CaOwn.below h hA7) hA7
                      have hO8g := hO7g.alloc (Obj.cells #[.slice p7 path.length c7, .int .i64 ck] 42)
                      have hAr : RowOwn 108 3 CA.cells CaOwn w9 (w.heap.size + 3) (.slice pv l.length cv) rs := ⟨hAt.own.kept hgrow9 (types_apart hAt.own hO8g (by decide)), fun x hx => CaOwn.rowM (hAt.each x hx) hO8g hgrow9⟩
                      have HS := hidE (hS.far (CmOwn.stays (w.heap.size + 2)) (Nat.lt_succ_self _) (grownBy_set' w9 (w.heap.size + 2) 1 (.slice p9 (k + 1) c9)))
                      have HAR := hidE (hAr.far (CaOwn.stays (w.heap.size + 2)) (Nat.lt_succ_self _) (grownBy_set' w9 (w.heap.size + 2) 1 (.slice p9 (k + 1) c9)))
                      have HBN := hidE ((HB.out.trans (hB9.mono (by omega))).setCell (p := ⟨w.heap.size + 2, 1, none⟩) (by show w.heap.size ≤ w.heap.size + 2; omega) (.slice p9 (k + 1) c9))
                      have HCN := hidE (hC9.set1 (.slice p9 (k + 1) c9))
                      clear hx hA7 hS hAt hO8g hAr hown9 hgrow9 hC9 hG7 hO7g hown7 hgrow7 hB7 hB9
                      go_wp2_with fail
                      go_roundw
                      case rel => exact ⟨k + 1, gs ++ [⟨(path, ck), p7, c7⟩], p9, c9, hlt, by go_num, by rw [List.map_append, HMG.out, HTK.out]; rfl, HCN.out, HAR.out, HS.out, HBN.out⟩
                      case measure => simp [intOf]; omega
                    exact AllReadyH.nil
                  exact AllReadyH.nil
                exact AllReadyH.nil
              exact AllReadyH.nil
            exact AllReadyH.nil
          refine AllReadyH.cons rfl (fun K hK => ?_) ?_
          · go_simp
            refine hK.out _ _ ?_ (fun hHeld => ?_)
            · ((try dsimp only); exact HSS.out _ (by repeat (first | exact hB9 | exact hB7.mono (by omega) | exact Below.refl _ _ | refine Below.drew ?_ | refine Below.setCell ?_ (by show w.heap.size + 2 ≤ w.heap.size + 1 + 1; omega) _ | refine Below.alloc ?_ (by first | omega | (simp <;> omega)) _)))
            clear hK K
            refine wpAnyH_ready (rs := [1, 9]) (by kernel_rfl) (by simp) ?_
            refine AllReadyH.cons rfl (fun K hK => ?_) ?_
            · go_simp
              refine hK.out _ _ ?_ (fun hHeld => ?_)
              · ((try dsimp only); exact HSS.out _ (by repeat (first | exact hB9 | exact hB7.mono (by omega) | exact Below.refl _ _ | refine Below.drew ?_ | refine Below.setCell ?_ (by show w.heap.size + 2 ≤ w.heap.size + 1 + 1; omega) _ | refine Below.alloc ?_ (by first | omega | (simp <;> omega)) _)))
              clear hK K
              refine wpAnyH_ready (rs := [9]) (by kernel_rfl) (by simp) ?_
              refine AllReadyH.cons rfl (fun K hK => ?_) ?_
              · (refine step_append_any rfl (.tmp 41) (.tmp 47) 40 rfl wr.heap.size 124 i0 (.agg #[.int .i64 0, .int .i64 0]) 2 16 Tryz.underlying40 hi0 hz0' hz1' hz2' rfl (by decide) (.slice (some ⟨wr.heap.size, 0, none⟩) 0 0) 0 [] (by simp [Act.eval, Act.put]) (by exact HG.out) p path.length cp (flatS path) (by simp [Act.eval, Act.put]) (flatS_length path) (HSC.out _ (by repeat (first | exact Below.refl _ _ | refine Below.drew ?_ | refine Below.alloc ?_ (by simp <;> omega) _))) (flatS_oneC path) (by unfold maxLen; omega) (by omega) (by simp <;> omega) ?_; intro v7 w7 hown7 hgrow7; obtain ⟨p7, c7, rfl⟩ := owns_sl hown7; rw [Nat.zero_add, List.nil_append] at hown7; have hB7 : Below wr.heap.size wr w7 := Below.grown (by repeat (first | exact Below.refl _ _ | refine Below.drew ?_ | refine Below.alloc ?_ (by simp <;> omega) _)) hgrow7 (by simp <;> omega) (by intro k hk; simp [Value.ownBlock] at hk; omega); have z17 := (HC.out.out.thruB hB7).is 1 rfl; have hC7l := (HC.out.out.thruB hB7).lt; have hs7 := hB7.size; have hG7 := HOG.out.belowE (fun _ h => CmOwn.below h hB7) hB7; have hO7g := hG7.own; rw [HGL.out] at hO7g)
                refine hK.out _ _ ?_ (fun hHeld => ?_)
                · ((try dsimp only); exact HSS.out _ (by repeat (first | exact hB9 | exact hB7.mono (by omega) | exact Below.refl _ _ | refine Below.drew ?_ | refine Below.setCell ?_ (by show w.heap.size + 2 ≤ w.heap.size + 1 + 1; omega) _ | refine Below.alloc ?_ (by first | omega | (simp <;> omega)) _)))
                clear hK K
                refine wpAnyH_take (i := 16) (oi := _) (v := ?_) rfl (by kernel_rfl) (by kernel_rfl) (by kernel_rfl) (fun _ _ _ h => h) (Or.inl ⟨by rfl, ?_⟩) (by assumption) ?_
                rotate_left
                · (intro w hSw; (try dsimp only at hSw); go_simp; (try with_reducible rfl))
                try simp only [Act.put, List.setIfInBounds_toArray, List.set_cons_zero, List.set_cons_succ]
                refine wpAnyH_ready (rs := [17]) (by kernel_rfl) (by simp) ?_
                refine AllReadyH.cons rfl (fun K hK => ?_) ?_
                · go_simp
                  refine hK.out _ _ ?_ (fun hHeld => ?_)
                  · ((try dsimp only); exact HSS.out _ (by repeat (first | exact hB9 | exact hB7.mono (by omega) | exact Below.refl _ _ | refine Below.drew ?_ | refine Below.setCell ?_ (by show w.heap.size + 2 ≤ w.heap.size + 1 + 1; omega) _ | refine Below.alloc ?_ (by first | omega | (simp <;> omega)) _)))
                  clear hK K
                  refine wpAnyH_ready (rs := [18]) (by kernel_rfl) (by simp) ?_
                  refine AllReadyH.cons rfl (fun K hK => ?_) ?_
                  · (refine step_append_own rfl (.tmp 40) (.tmp 56) 23 rfl (w.heap.size + 3) 42 i1 (.agg #[.slice none 0 0, .int .i64 0]) 2 32 Tryz.underlying23 hi1' hy0 hy1 hy2 rfl (by decide) (.slice pg k cg) k (gs.flatMap CM.cells) (by simp [Act.eval, Act.put]) (by exact hO7g.alloc _) ⟨w7.heap.size, 0, none⟩ 1 1 (CM.cells ⟨(path, ck), p7, c7⟩) (by simp [Act.eval, Act.put]) rfl (by intro j u hj; rw [Addr.add_lit, Nat.zero_add, World.cell?_alloc_new]; simpa [CM.cells] using hj) (by intro u hu; simp only [CM.cells, List.mem_cons, List.not_mem_nil, or_false] at hu; rcases hu with rfl | rfl <;> rfl) (by unfold maxLen; omega) (by omega) (by simp <;> omega) ?_; intro v9 w9 hown9 hgrow9; obtain ⟨p9, c9, rfl⟩ := owns_sl hown9; have hB9 : Below (w.heap.size + 2) wr w9 := ((hB7.mono (by omega)).alloc (by omega) (Obj.cells #[.slice p7 path.length c7, .int .i64 ck] 42)).grown hgrow9 (by simp <;> omega) (fun k hk => by have := (hO7g.lt k hk).1; omega); have hC9 := ((HC.out.below hB7).below (alloc_below w7 (Obj.cells #[.slice p7 path.length c7, .int .i64 ck] 42))).grown hgrow9 (fun k hk => by have := (hO7g.lt k hk).1; omega); have k1 := hC9.out.is 1 rfl; have kf := hC9.out.frozen)
                    refine hK.out _ _ ?_ (fun hHeld => ?_)
                    · ((try dsimp only); exact HSS.out _ (by repeat (first | exact hB9 | exact hB7.mono (by omega) | exact Below.refl _ _ | refine Below.drew ?_ | refine Below.setCell ?_ (by show w.heap.size + 2 ≤ w.heap.size + 1 + 1; omega) _ | refine Below.alloc ?_ (by first | omega | (simp <;> omega)) _)))
                    clear hK K
                    refine wpAnyH_take (i := 19) (oi := _) (v := ?_) rfl (by kernel_rfl) (by kernel_rfl) (by kernel_rfl) (fun _ _ _ h => h) (Or.inl ⟨by rfl, ?_⟩) (by assumption) ?_
                    rotate_left
                    · (intro w hSw; (try dsimp only at hSw); go_simp; (try with_reducible rfl))
                    try simp only [Act.put, List.setIfInBounds_toArray, List.set_cons_zero, List.set_cons_succ]
                    refine wpAnyH_ready (rs := [20]) (by kernel_rfl) (by simp) ?_
                    refine AllReadyH.cons rfl (fun K hK => ?_) ?_
                    · go_simp
                      refine hK.out _ _ ?_ (fun hHeld => ?_)
                      · ((try dsimp only); exact HSS.out _ (by repeat (first | exact hB9 | exact hB7.mono (by omega) | exact Below.refl _ _ | refine Below.drew ?_ | refine Below.setCell ?_ (by show w.heap.size + 2 ≤ w.heap.size + 1 + 1; omega) _ | refine Below.alloc ?_ (by first | omega | (simp <;> omega)) _)))
                      clear hK K
                      refine wpAnyH_done (by kernel_rfl) ?_ _
                      have hx : CmOwn (w7.alloc (Obj.cells #[.slice p7 path.length c7, .int .i64 ck] 42)) (w.heap.size + 3) ⟨(path, ck), p7, c7⟩ := ⟨owns_base (hown7.alloc _) (by omega), HPM.out⟩
                      have hA7 := alloc_below w7 (Obj.cells #[.slice p7 path.length c7, .int .i64 ck] 42)
                      have hS := (hG7.belowE (fun _ h => CmOwn.below h hA7) hA7).snoc (CmOwn.stays 0) hx (by rw [HGL.out]; exact hown9) hgrow9
                      have hAt := (HOA.out.belowE (fun _ h => CaOwn.below h hB7) hB7).belowE (fun _ h => CaOwn.below h hA7) hA7
                      have hO8g := hO7g.alloc (Obj.cells #[.slice p7 path.length c7, .int .i64 ck] 42)
                      have hAr : RowOwn 108 3 CA.cells CaOwn w9 (w.heap.size + 3) (.slice pv l.length cv) rs := ⟨hAt.own.kept hgrow9 (types_apart hAt.own hO8g (by decide)), fun x hx => CaOwn.rowM (hAt.each x hx) hO8g hgrow9⟩
                      have HS := hidE (hS.far (CmOwn.stays (w.heap.size + 2)) (Nat.lt_succ_self _) (grownBy_set' w9 (w.heap.size + 2) 1 (.slice p9 (k + 1) c9)))
                      have HAR := hidE (hAr.far (CaOwn.stays (w.heap.size + 2)) (Nat.lt_succ_self _) (grownBy_set' w9 (w.heap.size + 2) 1 (.slice p9 (k + 1) c9)))
                      have HBN := hidE ((HB.out.trans (hB9.mono (by omega))).setCell (p := ⟨w.heap.size + 2, 1, none⟩) (by show w.heap.size ≤ w.heap.size + 2; omega) (.slice p9 (k + 1) c9))
                      have HCN := hidE (hC9.set1 (.slice p9 (k + 1) c9))
                      clear hx hA7 hS hAt hO8g hAr hown9 hgrow9 hC9 hG7 hO7g hown7 hgrow7 hB7 hB9
                      go_wp2_with fail
                      go_roundw
                      case rel => exact ⟨k + 1, gs ++ [⟨(path, ck), p7, c7⟩], p9, c9, hlt, by go_num, by rw [List.map_append, HMG.out, HTK.out]; rfl, HCN.out, HAR.out, HS.out, HBN.out⟩
                      case measure => simp [intOf]; omega
                    exact AllReadyH.nil
                  exact AllReadyH.nil
                exact AllReadyH.nil
              exact AllReadyH.nil
            refine AllReadyH.cons rfl (fun K hK => ?_) ?_
            · (refine step_append_any rfl (.tmp 41) (.tmp 47) 40 rfl wr.heap.size 124 i0 (.agg #[.int .i64 0, .int .i64 0]) 2 16 Tryz.underlying40 hi0 hz0' hz1' hz2' rfl (by decide) (.slice (some ⟨wr.heap.size, 0, none⟩) 0 0) 0 [] (by simp [Act.eval, Act.put]) (by exact HG.out) p path.length cp (flatS path) (by simp [Act.eval, Act.put]) (flatS_length path) (HSC.out _ (by repeat (first | exact Below.refl _ _ | refine Below.drew ?_ | refine Below.alloc ?_ (by simp <;> omega) _))) (flatS_oneC path) (by unfold maxLen; omega) (by omega) (by simp <;> omega) ?_; intro v7 w7 hown7 hgrow7; obtain ⟨p7, c7, rfl⟩ := owns_sl hown7; rw [Nat.zero_add, List.nil_append] at hown7; have hB7 : Below wr.heap.size wr w7 := Below.grown (by repeat (first | exact Below.refl _ _ | refine Below.drew ?_ | refine Below.alloc ?_ (by simp <;> omega) _)) hgrow7 (by simp <;> omega) (by intro k hk; simp [Value.ownBlock] at hk; omega); have z17 := (HC.out.out.thruB hB7).is 1 rfl; have hC7l := (HC.out.out.thruB hB7).lt; have hs7 := hB7.size; have hG7 := HOG.out.belowE (fun _ h => CmOwn.below h hB7) hB7; have hO7g := hG7.own; rw [HGL.out] at hO7g)
              refine hK.out _ _ ?_ (fun hHeld => ?_)
              · ((try dsimp only); exact HSS.out _ (by repeat (first | exact hB9 | exact hB7.mono (by omega) | exact Below.refl _ _ | refine Below.drew ?_ | refine Below.setCell ?_ (by show w.heap.size + 2 ≤ w.heap.size + 1 + 1; omega) _ | refine Below.alloc ?_ (by first | omega | (simp <;> omega)) _)))
              clear hK K
              refine wpAnyH_take (i := 16) (oi := _) (v := ?_) rfl (by kernel_rfl) (by kernel_rfl) (by kernel_rfl) (fun _ _ _ h => h) (Or.inl ⟨by rfl, ?_⟩) (by assumption) ?_
              rotate_left
              · (intro w hSw; (try dsimp only at hSw); go_simp; (try with_reducible rfl))
              try simp only [Act.put, List.setIfInBounds_toArray, List.set_cons_zero, List.set_cons_succ]
              refine wpAnyH_ready (rs := [1, 17]) (by kernel_rfl) (by simp) ?_
              refine AllReadyH.cons rfl (fun K hK => ?_) ?_
              · go_simp
                refine hK.out _ _ ?_ (fun hHeld => ?_)
                · ((try dsimp only); exact HSS.out _ (by repeat (first | exact hB9 | exact hB7.mono (by omega) | exact Below.refl _ _ | refine Below.drew ?_ | refine Below.setCell ?_ (by show w.heap.size + 2 ≤ w.heap.size + 1 + 1; omega) _ | refine Below.alloc ?_ (by first | omega | (simp <;> omega)) _)))
                clear hK K
                refine wpAnyH_ready (rs := [17]) (by kernel_rfl) (by simp) ?_
                refine AllReadyH.cons rfl (fun K hK => ?_) ?_
                · go_simp
                  refine hK.out _ _ ?_ (fun hHeld => ?_)
                  · ((try dsimp only); exact HSS.out _ (by repeat (first | exact hB9 | exact hB7.mono (by omega) | exact Below.refl _ _ | refine Below.drew ?_ | refine Below.setCell ?_ (by show w.heap.size + 2 ≤ w.heap.size + 1 + 1; omega) _ | refine Below.alloc ?_ (by first | omega | (simp <;> omega)) _)))
                  clear hK K
                  refine wpAnyH_ready (rs := [18]) (by kernel_rfl) (by simp) ?_
                  refine AllReadyH.cons rfl (fun K hK => ?_) ?_
                  · (refine step_append_own rfl (.tmp 40) (.tmp 56) 23 rfl (w.heap.size + 3) 42 i1 (.agg #[.slice none 0 0, .int .i64 0]) 2 32 Tryz.underlying23 hi1' hy0 hy1 hy2 rfl (by decide) (.slice pg k cg) k (gs.flatMap CM.cells) (by simp [Act.eval, Act.put]) (by exact hO7g.alloc _) ⟨w7.heap.size, 0, none⟩ 1 1 (CM.cells ⟨(path, ck), p7, c7⟩) (by simp [Act.eval, Act.put]) rfl (by intro j u hj; rw [Addr.add_lit, Nat.zero_add, World.cell?_alloc_new]; simpa [CM.cells] using hj) (by intro u hu; simp only [CM.cells, List.mem_cons, List.not_mem_nil, or_false] at hu; rcases hu with rfl | rfl <;> rfl) (by unfold maxLen; omega) (by omega) (by simp <;> omega) ?_; intro v9 w9 hown9 hgrow9; obtain ⟨p9, c9, rfl⟩ := owns_sl hown9; have hB9 : Below (w.heap.size + 2) wr w9 := ((hB7.mono (by omega)).alloc (by omega) (Obj.cells #[.slice p7 path.length c7, .int .i64 ck] 42)).grown hgrow9 (by simp <;> omega) (fun k hk => by have := (hO7g.lt k hk).1; omega); have hC9 := ((HC.out.below hB7).below (alloc_below w7 (Obj.cells #[.slice p7 path.length c7, .int .i64 ck] 42))).grown hgrow9 (fun k hk => by have := (hO7g.lt k hk).1; omega); have k1 := hC9.out.is 1 rfl; have kf := hC9.out.frozen)
                    refine hK.out _ _ ?_ (fun hHeld => ?_)
                    · ((try dsimp only); exact HSS.out _ (by repeat (first | exact hB9 | exact hB7.mono (by omega) | exact Below.refl _ _ | refine Below.drew ?_ | refine Below.setCell ?_ (by show w.heap.size + 2 ≤ w.heap.size + 1 + 1; omega) _ | refine Below.alloc ?_ (by first | omega | (simp <;> omega)) _)))
                    clear hK K
                    refine wpAnyH_take (i := 19) (oi := _) (v := ?_) rfl (by kernel_rfl) (by kernel_rfl) (by kernel_rfl) (fun _ _ _ h => h) (Or.inl ⟨by rfl, ?_⟩) (by assumption) ?_
                    rotate_left
                    · (intro w hSw; (try dsimp only at hSw); go_simp; (try with_reducible rfl))
                    try simp only [Act.put, List.setIfInBounds_toArray, List.set_cons_zero, List.set_cons_succ]
                    refine wpAnyH_ready (rs := [20]) (by kernel_rfl) (by simp) ?_
                    refine AllReadyH.cons rfl (fun K hK => ?_) ?_
                    · go_simp
                      refine hK.out _ _ ?_ (fun hHeld => ?_)
                      · ((try dsimp only); exact HSS.out _ (by repeat (first | exact hB9 | exact hB7.mono (by omega) | exact Below.refl _ _ | refine Below.drew ?_ | refine Below.setCell ?_ (by show w.heap.size + 2 ≤ w.heap.size + 1 + 1; omega) _ | refine Below.alloc ?_ (by first | omega | (simp <;> omega)) _)))
                      clear hK K
                      refine wpAnyH_done (by kernel_rfl) ?_ _
                      have hx : CmOwn (w7.alloc (Obj.cells #[.slice p7 path.length c7, .int .i64 ck] 42)) (w.heap.size + 3) ⟨(path, ck), p7, c7⟩ := ⟨owns_base (hown7.alloc _) (by omega), HPM.out⟩
                      have hA7 := alloc_below w7 (Obj.cells #[.slice p7 path.length c7, .int .i64 ck] 42)
                      have hS := (hG7.belowE (fun _ h => CmOwn.below h hA7) hA7).snoc (CmOwn.stays 0) hx (by rw [HGL.out]; exact hown9) hgrow9
                      have hAt := (HOA.out.belowE (fun _ h => CaOwn.below h hB7) hB7).belowE (fun _ h => CaOwn.below h hA7) hA7
                      have hO8g := hO7g.alloc (Obj.cells #[.slice p7 path.length c7, .int .i64 ck] 42)
                      have hAr : RowOwn 108 3 CA.cells CaOwn w9 (w.heap.size + 3) (.slice pv l.length cv) rs := ⟨hAt.own.kept hgrow9 (types_apart hAt.own hO8g (by decide)), fun x hx => CaOwn.rowM (hAt.each x hx) hO8g hgrow9⟩
                      have HS := hidE (hS.far (CmOwn.stays (w.heap.size + 2)) (Nat.lt_succ_self _) (grownBy_set' w9 (w.heap.size + 2) 1 (.slice p9 (k + 1) c9)))
                      have HAR := hidE (hAr.far (CaOwn.stays (w.heap.size + 2)) (Nat.lt_succ_self _) (grownBy_set' w9 (w.heap.size + 2) 1 (.slice p9 (k + 1) c9)))
                      have HBN := hidE ((HB.out.trans (hB9.mono (by omega))).setCell (p := ⟨w.heap.size + 2, 1, none⟩) (by show w.heap.size ≤ w.heap.size + 2; omega) (.slice p9 (k + 1) c9))
                      have HCN := hidE (hC9.set1 (.slice p9 (k + 1) c9))
                      clear hx hA7 hS hAt hO8g hAr hown9 hgrow9 hC9 hG7 hO7g hown7 hgrow7 hB7 hB9
                      go_wp2_with fail
                      go_roundw
                      case rel => exact ⟨k + 1, gs ++ [⟨(path, ck), p7, c7⟩], p9, c9, hlt, by go_num, by rw [List.map_append, HMG.out, HTK.out]; rfl, HCN.out, HAR.out, HS.out, HBN.out⟩
                      case measure => simp [intOf]; omega
                    exact AllReadyH.nil
                  exact AllReadyH.nil
                exact AllReadyH.nil
              refine AllReadyH.cons rfl (fun K hK => ?_) ?_
              · go_simp
                refine hK.out _ _ ?_ (fun hHeld => ?_)
                · ((try dsimp only); exact HSS.out _ (by repeat (first | exact hB9 | exact hB7.mono (by omega) | exact Below.refl _ _ | refine Below.drew ?_ | refine Below.setCell ?_ (by show w.heap.size + 2 ≤ w.heap.size + 1 + 1; omega) _ | refine Below.alloc ?_ (by first | omega | (simp <;> omega)) _)))
                clear hK K
                refine wpAnyH_ready (rs := [1]) (by kernel_rfl) (by simp) ?_
                refine AllReadyH.cons rfl (fun K hK => ?_) ?_
                · go_simp
                  refine hK.out _ _ ?_ (fun hHeld => ?_)
                  · ((try dsimp only); exact HSS.out _ (by repeat (first | exact hB9 | exact hB7.mono (by omega) | exact Below.refl _ _ | refine Below.drew ?_ | refine Below.setCell ?_ (by show w.heap.size + 2 ≤ w.heap.size + 1 + 1; omega) _ | refine Below.alloc ?_ (by first | omega | (simp <;> omega)) _)))
                  clear hK K
                  refine wpAnyH_ready (rs := [18]) (by kernel_rfl) (by simp) ?_
                  refine AllReadyH.cons rfl (fun K hK => ?_) ?_
                  · (refine step_append_own rfl (.tmp 40) (.tmp 56) 23 rfl (w.heap.size + 3) 42 i1 (.agg #[.slice none 0 0, .int .i64 0]) 2 32 Tryz.underlying23 hi1' hy0 hy1 hy2 rfl (by decide) (.slice pg k cg) k (gs.flatMap CM.cells) (by simp [Act.eval, Act.put]) (by exact hO7g.alloc _) ⟨w7.heap.size, 0, none⟩ 1 1 (CM.cells ⟨(path, ck), p7, c7⟩) (by simp [Act.eval, Act.put]) rfl (by intro j u hj; rw [Addr.add_lit, Nat.zero_add, World.cell?_alloc_new]; simpa [CM.cells] using hj) (by intro u hu; simp only [CM.cells, List.mem_cons, List.not_mem_nil, or_false] at hu; rcases hu with rfl | rfl <;> rfl) (by unfold maxLen; omega) (by omega) (by simp <;> omega) ?_; intro v9 w9 hown9 hgrow9; obtain ⟨p9, c9, rfl⟩ := owns_sl hown9; have hB9 : Below (w.heap.size + 2) wr w9 := ((hB7.mono (by omega)).alloc (by omega) (Obj.cells #[.slice p7 path.length c7, .int .i64 ck] 42)).grown hgrow9 (by simp <;> omega) (fun k hk => by have := (hO7g.lt k hk).1; omega); have hC9 := ((HC.out.below hB7).below (alloc_below w7 (Obj.cells #[.slice p7 path.length c7, .int .i64 ck] 42))).grown hgrow9 (fun k hk => by have := (hO7g.lt k hk).1; omega); have k1 := hC9.out.is 1 rfl; have kf := hC9.out.frozen)
                    refine hK.out _ _ ?_ (fun hHeld => ?_)
                    · ((try dsimp only); exact HSS.out _ (by repeat (first | exact hB9 | exact hB7.mono (by omega) | exact Below.refl _ _ | refine Below.drew ?_ | refine Below.setCell ?_ (by show w.heap.size + 2 ≤ w.heap.size + 1 + 1; omega) _ | refine Below.alloc ?_ (by first | omega | (simp <;> omega)) _)))
                    clear hK K
                    refine wpAnyH_take (i := 19) (oi := _) (v := ?_) rfl (by kernel_rfl) (by kernel_rfl) (by kernel_rfl) (fun _ _ _ h => h) (Or.inl ⟨by rfl, ?_⟩) (by assumption) ?_
                    rotate_left
                    · (intro w hSw; (try dsimp only at hSw); go_simp; (try with_reducible rfl))
                    try simp only [Act.put, List.setIfInBounds_toArray, List.set_cons_zero, List.set_cons_succ]
                    refine wpAnyH_ready (rs := [20]) (by kernel_rfl) (by simp) ?_
                    refine AllReadyH.cons rfl (fun K hK => ?_) ?_
                    · go_simp
                      refine hK.out _ _ ?_ (fun hHeld => ?_)
                      · ((try dsimp only); exact HSS.out _ (by repeat (first | exact hB9 | exact hB7.mono (by omega) | exact Below.refl _ _ | refine Below.drew ?_ | refine Below.setCell ?_ (by show w.heap.size + 2 ≤ w.heap.size + 1 + 1; omega) _ | refine Below.alloc ?_ (by first | omega | (simp <;> omega)) _)))
                      clear hK K
                      refine wpAnyH_done (by kernel_rfl) ?_ _
                      have hx : CmOwn (w7.alloc (Obj.cells #[.slice p7 path.length c7, .int .i64 ck] 42)) (w.heap.size + 3) ⟨(path, ck), p7, c7⟩ := ⟨owns_base (hown7.alloc _) (by omega), HPM.out⟩
                      have hA7 := alloc_below w7 (Obj.cells #[.slice p7 path.length c7, .int .i64 ck] 42)
                      have hS := (hG7.belowE (fun _ h => CmOwn.below h hA7) hA7).snoc (CmOwn.stays 0) hx (by rw [HGL.out]; exact hown9) hgrow9
                      have hAt := (HOA.out.belowE (fun _ h => CaOwn.below h hB7) hB7).belowE (fun _ h => CaOwn.below h hA7) hA7
                      have hO8g := hO7g.alloc (Obj.cells #[.slice p7 path.length c7, .int .i64 ck] 42)
                      have hAr : RowOwn 108 3 CA.cells CaOwn w9 (w.heap.size + 3) (.slice pv l.length cv) rs := ⟨hAt.own.kept hgrow9 (types_apart hAt.own hO8g (by decide)), fun x hx => CaOwn.rowM (hAt.each x hx) hO8g hgrow9⟩
                      have HS := hidE (hS.far (CmOwn.stays (w.heap.size + 2)) (Nat.lt_succ_self _) (grownBy_set' w9 (w.heap.size + 2) 1 (.slice p9 (k + 1) c9)))
                      have HAR := hidE (hAr.far (CaOwn.stays (w.heap.size + 2)) (Nat.lt_succ_self _) (grownBy_set' w9 (w.heap.size + 2) 1 (.slice p9 (k + 1) c9)))
                      have HBN := hidE ((HB.out.trans (hB9.mono (by omega))).setCell (p := ⟨w.heap.size + 2, 1, none⟩) (by show w.heap.size ≤ w.heap.size + 2; omega) (.slice p9 (k + 1) c9))
                      have HCN := hidE (hC9.set1 (.slice p9 (k + 1) c9))
                      clear hx hA7 hS hAt hO8g hAr hown9 hgrow9 hC9 hG7 hO7g hown7 hgrow7 hB7 hB9
                      go_wp2_with fail
                      go_roundw
                      case rel => exact ⟨k + 1, gs ++ [⟨(path, ck), p7, c7⟩], p9, c9, hlt, by go_num, by rw [List.map_append, HMG.out, HTK.out]; rfl, HCN.out, HAR.out, HS.out, HBN.out⟩
                      case measure => simp [intOf]; omega
                    exact AllReadyH.nil
                  exact AllReadyH.nil
                exact AllReadyH.nil
              exact AllReadyH.nil
            exact AllReadyH.nil
          exact AllReadyH.nil
        · obtain rfl : k = g.length := by omega
          have hk1 : ¬ ((g.length : Int) < (g.length : Int)) := by omega
          rw [List.take_length] at hm
          have hcap : l.length ≤ cv ∧ cv ≤ maxLen := by
            rcases hOa.own.2 with ⟨e, h0⟩ | ⟨g, c, cur, e, _, _, h1, h2, _⟩
            · simp only [Value.slice.injEq] at e; omega
            · simp only [Value.slice.injEq] at e; omega
          have r0 := hC.res.is 0 rfl
          have r1 := hC.res.is 1 rfl
          have rf := hC.res.frozen
          have hW : Blk ((wr.setCell ⟨w.heap.size + 1, 0, none⟩ (.slice pv l.length cv)).setCell ⟨w.heap.size + 1, 1, none⟩ (.slice pg g.length cg)) (w.heap.size + 1) #[.slice pv l.length cv, .slice pg g.length cg] 25 := (hC.res.set 0 (.slice pv l.length cv)).set 1 (.slice pg g.length cg)
          have k0 := hW.is 0 rfl
          have k1 := hW.is 1 rfl
          have hAf := (hOa.far (CaOwn.stays (w.heap.size + 1)) (by omega) (grownBy_set' wr (w.heap.size + 1) 0 (.slice pv l.length cv))).far (CaOwn.stays (w.heap.size + 1)) (by omega) (grownBy_set' _ (w.heap.size + 1) 1 (.slice pg g.length cg))
          have hGf := (hOg.far (CmOwn.stays (w.heap.size + 1)) (by omega) (grownBy_set' wr (w.heap.size + 1) 0 (.slice pv l.length cv))).far (CmOwn.stays (w.heap.size + 1)) (by omega) (grownBy_set' _ (w.heap.size + 1) 1 (.slice pg g.length cg))
          have HAA := hidE (HM.out ▸ atoms_copy hAf HRL.out)
          have HGG := hidE (hm ▸ marks_copy hGf hgl)
          have HBB := hidE ((hB.setCell (p := ⟨w.heap.size + 1, 0, none⟩) (by show w.heap.size ≤ w.heap.size + 1; omega) (.slice pv l.length cv)).setCell (p := ⟨w.heap.size + 1, 1, none⟩) (by show w.heap.size ≤ w.heap.size + 1; omega) (.slice pg g.length cg))
          have HCC := hidE hcap
          clear hm hC hOa hOg hB hcap hgl hge hk hW hAf hGf
          go_wp2_with fail
          refine bodyPost_ret (v := .agg #[.slice pv l.length cv, .slice pg g.length cg]) (by simp [results, Tryz.results13, go_sem, k0, k1]) rfl ?_
          exact ⟨pv, cv, pg, ⟨cg, rfl⟩, HAA.out, HGG.out, HCC.out.1, HCC.out.2, HBB.out⟩
end Go.Proofs.YtnhjebdlcbhkcaeGreat
