/- The row of what is gone grows by one mark: slices.Insert, and all else stays. -/
import Derived.Test.YtnhjebdlcbhkcaeGreatDoerC
import Derived.Test.YtnhjebdlcbhkcaeGreatDelI
import Derived.Test.YtnhjebdlcbhkcaeGreatDPut
import Derived.Test.YtnhjebdlcbhkcaeGreatSearch
namespace Go.Proofs.YtnhjebdlcbhkcaeGreat
open Go.RowKit

theorem DoerAt.set1 {w : World} {base D : Nat} {vA vG u : Value} {l : List At} {g h : List Mk} (hd : DoerAt w base D vA vG l g) (hm : MkRow w base u h) : DoerAt (w.setCell ⟨D, 1, none⟩ u) base D vA u l h := by
  obtain ⟨⟨cur, h1⟩, h2, h3, h4, h5, h6, h7, h8⟩ := hd
  refine ⟨?_, ?_, World.cell?_setCell_same _ _ _ h3, fun o => by rw [World.frozen?_setCell]; exact h4 o, by simpa [World.setCell] using h5, h6, h7.setD ⟨cur, h1⟩, hm.setD ⟨cur, h1⟩⟩
  · refine ⟨cur.setIfInBounds 1 u, ?_⟩
    simp [World.setCell, Array.getElem?_modify, h1]
  · rw [World.cell?_setCell_other _ _ _ _ (by simp)]; exact h2

theorem DoerAt.grow1 {w w' : World} {base D n : Nat} {vA vG u : Value} {l : List At} {g h : List Mk} {fs : List Value} (hd : DoerAt w base D vA vG l g) (ho : w.ownsRow base 42 2 vG n fs) (hg : w.grownBy w' vG.ownBlock) (hm : MkRow w' base u h) : DoerAt (w'.setCell ⟨D, 1, none⟩ u) base D vA u l h := by
  obtain ⟨⟨cur, h1⟩, h2, h3, h4, h5, h6, h7, h8⟩ := hd
  have hne : ∀ t cur', w.heap[t]? = some cur' → (∀ c, cur' ≠ .cells c 42 (0, 0)) → some t ≠ vG.ownBlock := by
    intro t cur' ht hty e
    rcases ho.2 with ⟨rfl, _⟩ | ⟨g1, c1, cur1, rfl, _, e2, _⟩
    · simp [Value.ownBlock] at e
    · simp [Value.ownBlock] at e
      subst e
      rw [ht] at e2
      exact hty cur1 (Option.some.inj e2)
  have hD := hne D _ h1 (fun c e => by simp at e)
  have hst : ∀ gp c, w.heap[gp]? = some (.cells c 124 (0, 0)) → some gp ≠ vG.ownBlock := fun gp c hc => hne gp _ hc (fun c' e => by simp at e)
  have hat : PickRow w' base vA l := by
    obtain ⟨rs, _, hown, _⟩ := h7
    exact PickRow.kept ⟨rs, by assumption, hown, by assumption⟩ hg (types_neA hown ho) hst
  have c1' := (grown_cell hg h5 hD 1).trans h3
  have hty' : ∃ cur, w'.heap[D]? = some (.cells cur 112 (0, 0)) := ⟨cur, (hg.block D h5 hD).trans h1⟩
  refine ⟨?_, ?_, World.cell?_setCell_same _ _ _ c1', fun o => ?_, by simpa [World.setCell] using Nat.lt_of_lt_of_le h5 hg.size, h6, hat.setD hty', hm.setD hty'⟩
  · obtain ⟨cur2, e2⟩ := hty'
    refine ⟨cur2.setIfInBounds 1 u, ?_⟩
    simp [World.setCell, Array.getElem?_modify, e2]
  · rw [World.cell?_setCell_other _ _ _ _ (by simp)]
    exact (grown_cell hg h5 hD 0).trans h2
  · rw [World.frozen?_setCell]
    have e3 := hg.block D h5 hD
    have e4 := h4 o
    unfold World.frozen? at e4 ⊢
    rw [e3]; exact e4


theorem DoerAt.apart {w : World} {base D n : Nat} {vA vG : Value} {l : List At} {g : List Mk} {fs : List Value} (hd : DoerAt w base D vA vG l g) (ho : w.ownsRow base 42 2 vG n fs) : some D ≠ vG.ownBlock := by
  obtain ⟨⟨cur, h1⟩, _⟩ := hd
  intro e
  rcases ho.2 with ⟨rfl, _⟩ | ⟨g1, c1, cur1, rfl, _, e2, _⟩
  · simp [Value.ownBlock] at e
  · simp [Value.ownBlock] at e
    subst e
    rw [h1] at e2
    simp at e2

theorem steps_apart {w : World} {base n : Nat} {vG : Value} {fs : List Value} (ho : w.ownsRow base 42 2 vG n fs) : ∀ g cur, w.heap[g]? = some (.cells cur 124 (0, 0)) → some g ≠ vG.ownBlock := by
  intro g cur h1 e
  rcases ho.2 with ⟨rfl, _⟩ | ⟨g1, c1, cur1, rfl, _, e2, _⟩
  · simp [Value.ownBlock] at e
  · simp [Value.ownBlock] at e
    subst e
    rw [h1] at e2
    simp at e2

theorem insDoer {base D B gp cq lo vb cg : Nat} {vT u : Value} {pg : Option Addr} {l : List At} {G ns : List Mk} {m1 : List (Int × Int)} {d1 : Int} {w w5 W' : World}
    (hd : DoerAt w5 base D vT (.slice pg G.length cg) l G) (hR : MkRow w5 B u ns) (hdis : u.ownBlock = none ∨ (Value.slice pg G.length cg).ownBlock ≠ u.ownBlock) (hBw : Below base w w5) (hBB : base ≤ B) (hBW : B ≤ w5.heap.size)
    (hpo : w5.ownsRow B 124 2 (.slice (some ⟨gp, 0, none⟩) m1.length cq) m1.length (flatS m1)) (hpl : m1.length ≤ maxLen) (hlo : lo ≤ G.length) (hG : G.length ≤ 660)
    (hb : Below w5.heap.size w5 W') (hvb : w5.heap.size ≤ vb) (hv : W'.heap[vb]? = some (.cells #[.slice (some ⟨gp, 0, none⟩) m1.length cq, .int .i64 d1] 42 (0, 0))) :
    Calls Tryz.prog 211 #[.slice pg G.length cg, .int .i64 lo, .slice (some ⟨vb, 0, none⟩) 1 1] W' fun e w6 => ∃ p6 n6 c6, e = .returned (.slice p6 n6 c6) ∧ w6.cell? ⟨D, 1, none⟩ = some (.slice pg G.length cg) ∧ (∀ o, w6.frozen? ⟨D, o, none⟩ = false) ∧ DoerAt (w6.setCell ⟨D, 1, none⟩ (.slice p6 n6 c6)) base D vT (.slice p6 n6 c6) l (G.take lo ++ (m1, d1) :: G.drop lo) ∧ MkRow (w6.setCell ⟨D, 1, none⟩ (.slice p6 n6 c6)) B u ns ∧ (u.ownBlock = none ∨ (Value.slice p6 n6 c6).ownBlock ≠ u.ownBlock) ∧ Below base w (w6.setCell ⟨D, 1, none⟩ (.slice p6 n6 c6)) ∧ B ≤ (w6.setCell ⟨D, 1, none⟩ (.slice p6 n6 c6)).heap.size := by
  obtain ⟨rs, hrl, hown5, hrr5⟩ := hd.gone
  have hown := owns_below hown5 hb
  have hdW := hd.below hb
  have hbW : base ≤ W'.heap.size := Nat.le_trans (Nat.le_trans hBB hBW) hb.size
  have hne : some vb ≠ (Value.slice pg G.length cg).ownBlock := by
    intro e
    have := (hown5.lt vb e.symm).2
    omega
  have hpk : PickK W' base ⟨some ⟨gp, 0, none⟩, m1.length, cq, d1⟩ (m1, d1) := ⟨gp, cq, rfl, owns_base (owns_below hpo hb) hBB, hpl⟩
  refine (insM_ownB base _ G.length lo vb (flatK rs) [.slice (some ⟨gp, 0, none⟩) m1.length cq, .int .i64 d1] W' hown hbW hlo (by omega) hv rfl hne (flatK_one _) (flatK_one [⟨some ⟨gp, 0, none⟩, m1.length, cq, d1⟩])).mono ?_
  rintro e w6 ⟨v', rfl, hown6, hgrow, hblk⟩
  have hrow6 : MkRow w6 base v' (G.take lo ++ (m1, d1) :: G.drop lo) := MkRow.ins hlo hrl hown (fun i h h' => (hrr5 i h h').below hb) hpk hgrow hown6
  have hap := hdW.apart hown
  have hblkD := hgrow.block D hdW.lt hap
  have hs6 := hgrow.size
  obtain ⟨p6, c6, rfl, _⟩ := hrow6.marks
  refine ⟨p6, _, c6, rfl, (grown_cell hgrow hdW.lt hap 1).trans hdW.c1, fun o => ?_, hdW.grow1 hown hgrow hrow6, ?_, ?_, ?_, ?_⟩
  · have e4 := hdW.free o
    unfold World.frozen? at e4 ⊢
    rw [hblkD]; exact e4
  · refine ((hR.below hb).kept hgrow ?_ (steps_apart hown)).setD ?_
    · rcases hdis with h | h
      · exact Or.inl h
      · exact Or.inr (Ne.symm h)
    · obtain ⟨cur, e⟩ := hdW.ty
      exact ⟨cur, hblkD.trans e⟩
  · rcases hblk with h | h
    · rw [h]; exact hdis
    · obtain ⟨rs2, _, hownR, _⟩ := hR
      cases hu : u.ownBlock with
      | none => exact Or.inl rfl
      | some x =>
        right
        rw [h]
        have h1 := (hownR.lt x hu).2
        have h2 := hb.size
        intro e
        have : W'.heap.size = x := by simpa using e
        omega
  · exact ((hBw.thru hb (Nat.le_trans hBB hBW)).grown hgrow hbW (fun j hj => (hown.lt j hj).1)).setCell hd.le _
  · have h2 := hb.size
    simp [World.setCell]
    omega
end Go.Proofs.YtnhjebdlcbhkcaeGreat

namespace Go.Proofs.YtnhjebdlcbhkcaeGreat
open Go.RowKit

set_option maxHeartbeats 1000000 in
theorem there1_any (a a' : Option Addr) (cap cap' : Nat) (l m : List (Int × Int)) (c d s : Int) (w : World) (hl : l.length ≤ maxLen) (hm : m.length ≤ maxLen) (h : StepsAt w a l) (h' : StepsAt w a' m) :
    Calls Tryz.prog 200 #[.agg #[.slice a l.length cap, .int .i64 c, .int .u8 s], .agg #[.slice a' m.length cap', .int .i64 d]] w fun e w' => e = .returned (.int .i64 (ordM l c m d)) ∧ Below w.heap.size w w' := by
  have hb0 : Below w.heap.size w ((w.alloc (Obj.cells #[.slice a l.length cap, .int .i64 c, .int .u8 s] 108)).alloc (Obj.cells #[.slice a' m.length cap', .int .i64 d] 42)) := ((Below.refl _ _).alloc (Nat.le_refl _) _).alloc (by simp) _
  go_enter Tryz.func200, Tryz.ntmps200
  go_wp2_with (go_at_call 61; refine (order_any _ _ _ _ l m _ _ _ hl hm (by exact h.below hb0 (Nat.le_refl _)) (by exact h'.below hb0 (Nat.le_refl _))).mono ?_; rintro e w' ⟨rfl, hb⟩)
  go_ret
  exact ⟨rfl, hb0.thru hb hb0.size⟩

set_option maxRecDepth 100000 in
set_option maxHeartbeats 2000000 in
theorem searchT_any (a a' : Option Addr) (cap cap' : Nat) (l : List At) (m : List (Int × Int)) (d : Int) (w : World) (hl : l.length ≤ 1000) (hm : m.length ≤ maxLen) (h : AtomsAt w a l) (h' : StepsAt w a' m) (hp : Parts l m d) :
    Calls Tryz.prog 163 #[.slice a l.length cap, .agg #[.slice a' m.length cap', .int .i64 d], .func (.func 200) #[] #[]] w fun e w' => ∃ i : Nat, i ≤ l.length ∧ Cut l m d i i ∧ ∃ f : Bool, e = .returned (.tuple #[.int .i64 i, .bool f]) ∧ (f = true ↔ ∃ h : i < l.length, ordM l[i].path l[i].clock m d = 0) ∧ Below w.heap.size w w' := by
  have HP := hidE hp
  clear hp
  go_enter Tryz.func163, Tryz.ntmps163
  go_upto_region 1 with fail
  have hbA : Below w.heap.size w (w.alloc (Obj.cells #[.slice a' m.length cap', .int .i64 d] 42)) := (Below.refl _ _).alloc (Nat.le_refl _) _
  have q0 : (w.alloc (Obj.cells #[.slice a' m.length cap', .int .i64 d] 42)).cell? ⟨w.heap.size, 0, none⟩ = some (.slice a' m.length cap') := by simp
  have q1 : (w.alloc (Obj.cells #[.slice a' m.length cap', .int .i64 d] 42)).cell? ⟨w.heap.size, 1, none⟩ = some (.int .i64 d) := by simp
  have z1 : w.heap.size < (w.alloc (Obj.cells #[.slice a' m.length cap', .int .i64 d] 42)).heap.size := by simp
  generalize w.alloc (Obj.cells #[.slice a' m.length cap', .int .i64 d] 42) = w1 at hbA q0 q1 z1 ⊢
  go_wp2_with fail
  go_loopw [9, 10] (fun i j wr => ∃ x y : Nat, x ≤ y ∧ y ≤ l.length ∧ i = .int .i64 x ∧ j = .int .i64 y ∧ Cut l m d x y ∧ Below w1.heap.size w1 wr) (fun i j _ => (intOf j).toNat - (intOf i).toNat)
  case atStart => exact ⟨0, l.length, Nat.zero_le _, Nat.le_refl _, rfl, rfl, ⟨fun t _ h => by omega, fun t h h' => by omega⟩, Below.refl _ _⟩
  case round =>
    obtain ⟨x, y, hxy, hy, rfl, rfl, hcut, hb⟩ := hrel
    have HCut := hidE hcut
    clear hcut
    have hbW := hbA.thru hb hbA.size
    by_cases hlt : x < y
    · have hi1 : (x : Int) < y := by omega
      have hh : (x + y) / 2 < l.length := by omega
      go_upto_region 5 with fail
      rw [show ((x : Int) + y) / 2 = (((x + y) / 2 : Nat) : Int) by omega]
      have hz1 : x ≤ (x + y) / 2 := by omega
      have hz2 : (x + y) / 2 < y := by omega
      generalize (x + y) / 2 = z at hz1 hz2 hh ⊢
      rcases h.below hbW (Nat.le_refl _) with hs | ⟨ab, ao, rfl, hab, hc⟩
      · simp [hs] at hh
      obtain ⟨p, cp, c0, c1, c2, hst, hle, _⟩ := hc z hh
      have hi2 : (z : Int) < l.length := by omega
      have HZ : Hid (∀ o, o = ordM l[z].path l[z].clock m d → (o < 0 → Cut l m d (z + 1) y) ∧ (0 ≤ o → Cut l m d x z)) := by
        intro o ho
        subst ho
        refine ⟨fun h0 => ⟨fun t ht htz => ?_, HCut.out.2⟩, fun h0 => ⟨HCut.out.1, fun t ht htz => ?_⟩⟩
        · by_cases e : t = z
          · subst e; exact h0
          · exact HP.out t z hh (by omega) h0
        · by_cases e : t = z
          · subst e; exact h0
          · rcases Int.lt_or_le (ordM l[t].path l[t].clock m d) 0 with hn | hn
            · have := HP.out z t ht (by omega) hn
              omega
            · exact hn
      generalize l[z].path = pk at *
      generalize l[z].clock = ck at *
      generalize l[z].sign = sk at *
      have k0 := cell_regrown c0
      have k1 := cell_regrown c1
      have k2 := cell_regrown c2
      have k3 := cell_regrown ((hb.cell (p := ⟨w.heap.size, 0, none⟩) z1).trans q0)
      have k4 := cell_regrown ((hb.cell (p := ⟨w.heap.size, 1, none⟩) z1).trans q1)
      have S1 := hidE (fun d os => hst.below (below_regrown wr d os) (Nat.le_refl _))
      have S2 := hidE (fun d os => (h'.below hbW (Nat.le_refl _)).below (below_regrown wr d os) (Nat.le_refl _))
      clear hc h hst h'
      refine wp_region_quiet_below (by kernel_rfl) (by kernel_rfl) ?_
      repeat (first | go_big_quiet_step ((go_at_call 200; exact Calls.regrown_of (there1_any _ _ _ _ pk m _ _ _ _ hle hm (S1.out _ _) (S2.out _ _)))) | quiet_step ((go_at_call 200; exact Calls.regrown_of (there1_any _ _ _ _ pk m _ _ _ _ hle hm (S1.out _ _) (S2.out _ _)))))
      refine wpQuiet_nil ?_
      intro _ hw'
      obtain ⟨⟨dq, osq⟩, hw''⟩ := hw'
      subst hw''
      obtain ⟨HZ1, HZ2⟩ := HZ.out _ rfl
      by_cases ho : ordM pk ck m d < 0
      · have HC2 := hidE (HZ1 ho)
        clear HZ1 HZ2
        go_wp2
        go_roundw
        case rel => exact ⟨z + 1, y, by omega, hy, by go_num, rfl, HC2.out, hb.thru (below_regrown _ _ _) hb.size⟩
        case measure => simp [intOf]; omega
      · have HC2 := hidE (HZ2 (by omega))
        clear HZ1 HZ2
        go_wp2
        go_roundw
        case rel => exact ⟨x, z, by omega, by omega, rfl, rfl, HC2.out, hb.thru (below_regrown _ _ _) hb.size⟩
        case measure => simp [intOf]; omega
    · have hxe : x = y := by omega
      subst hxe
      by_cases hlen : x < l.length
      · rcases h.below hbW (Nat.le_refl _) with hs | ⟨ab, ao, rfl, hab, hc⟩
        · simp [hs] at hlen
        obtain ⟨p, cp, c0, c1, c2, hst, hle, _⟩ := hc x hlen
        have HO : Hid (∃ o, o = ordM l[x].path l[x].clock m d) := ⟨_, rfl⟩
        have HE : Hid ((∃ h : x < l.length, ordM l[x].path l[x].clock m d = 0) ↔ ordM l[x].path l[x].clock m d = 0) := by
          constructor
          · rintro ⟨_, h⟩; exact h
          · intro h; exact ⟨hlen, h⟩
        have hi1 : decide ((x : Int) < l.length) = true := by simpa using hlen
        have hi2 : (x : Int) < l.length := by omega
        generalize hpk : l[x].path = pk at *
        generalize hck : l[x].clock = ck at *
        generalize l[x].sign = sk at *
        have HPK := hidE hpk
        have HCK := hidE hck
        have k0 := cell_regrown c0
        have k1 := cell_regrown c1
        have k2 := cell_regrown c2
        have k3 := cell_regrown ((hb.cell (p := ⟨w.heap.size, 0, none⟩) z1).trans q0)
        have k4 := cell_regrown ((hb.cell (p := ⟨w.heap.size, 1, none⟩) z1).trans q1)
        have S1 := hidE (fun d os => hst.below (below_regrown wr d os) (Nat.le_refl _))
        have S2 := hidE (fun d os => (h'.below hbW (Nat.le_refl _)).below (below_regrown wr d os) (Nat.le_refl _))
        clear hc h hst h' hpk hck
        go_wp2_with fail
        refine wp_region_quiet_below (by kernel_rfl) (by kernel_rfl) ?_
        repeat (first | go_big_quiet_step ((go_at_call 200; exact Calls.regrown_of (there1_any _ _ _ _ pk m _ _ _ _ hle hm (S1.out _ _) (S2.out _ _)))) | quiet_step ((go_at_call 200; exact Calls.regrown_of (there1_any _ _ _ _ pk m _ _ _ _ hle hm (S1.out _ _) (S2.out _ _)))))
        refine wpQuiet_nil ?_
        intro _ hw'
        obtain ⟨⟨dq, osq⟩, hw''⟩ := hw'
        subst hw''
        go_wp2
        refine bodyPost_ret (v := .tuple #[.int .i64 x, .bool (ordM pk ck m d == 0)]) (by simp [results, Tryz.results163, go_sem]) rfl ?_
        refine ⟨x, by omega, HCut.out, _, rfl, ?_, hbW.thru (below_regrown _ _ _) hbW.size⟩
        rw [beq_iff_eq]
        constructor
        · intro e; exact ⟨hlen, by rw [HPK.out, HCK.out]; exact e⟩
        · rintro ⟨_, e⟩; rw [HPK.out, HCK.out] at e; exact e
      · have hi1 : decide ((x : Int) < l.length) = false := by simpa using hlen
        have HN : Hid ((false = true) ↔ ∃ h : x < l.length, ordM l[x].path l[x].clock m d = 0) := by
          constructor
          · intro h; cases h
          · rintro ⟨h, _⟩; exact absurd h hlen
        go_wp2_with fail
        refine wp_region_quiet_below (by kernel_rfl) (by kernel_rfl) ?_
        repeat (first | go_big_quiet_step (fail) | quiet_step (fail))
        refine wpQuiet_nil ?_
        intro _ hw'
        obtain ⟨⟨dq, osq⟩, hw''⟩ := hw'
        subst hw''
        go_wp2
        refine bodyPost_ret (v := .tuple #[.int .i64 x, .bool false]) (by simp [results, Tryz.results163, go_sem]) rfl ?_
        exact ⟨x, by omega, HCut.out, _, rfl, HN.out, hbW.thru (below_regrown _ _ _) hbW.size⟩
end Go.Proofs.YtnhjebdlcbhkcaeGreat

namespace Go.Proofs.YtnhjebdlcbhkcaeGreat
open Go.RowKit

theorem found_has {l : List At} (hok : OkL l) {m : List (Int × Int)} {d : Int} {i : Nat} {f : Bool} (hc : Cut l m d i i) (hf : f = true ↔ ∃ h : i < l.length, ordM l[i].path l[i].clock m d = 0) : f = hasMk l m d := by
  cases f with
  | true =>
    obtain ⟨h, h0⟩ := hf.1 rfl
    symm
    unfold hasMk
    rw [List.any_eq_true]
    exact ⟨l[i], List.getElem_mem h, by simpa using h0⟩
  | false =>
    have hn : ¬ ∃ h : i < l.length, ordM l[i].path l[i].clock m d = 0 := fun h => by simpa using hf.2 h
    symm
    unfold hasMk
    rw [List.any_eq_false]
    intro x hx
    obtain ⟨j, hj, rfl⟩ := List.getElem_of_mem hx
    rw [gone_none hok hc hn hj]
    decide

set_option maxRecDepth 100000 in
set_option maxHeartbeats 2000000 in
theorem isThere_ok (a a' : Option Addr) (cap cap' : Nat) (l : List At) (m : List (Int × Int)) (d : Int) (w : World) (hok : OkL l) (hm : m.length ≤ maxLen) (h : AtomsAt w a l) (h' : StepsAt w a' m) :
    Calls Tryz.prog 134 #[.slice a l.length cap, .agg #[.slice a' m.length cap', .int .i64 d]] w fun e w' => e = .returned (.bool (hasMk l m d)) ∧ Below w.heap.size w w' := by
  have hb1 : Below w.heap.size w (w.alloc (Obj.cells #[.slice a' m.length cap', .int .i64 d] 42)) := (Below.refl _ _).alloc (Nat.le_refl _) _
  have HP := hidE (parts_of hok m d)
  have HOK := hidE hok
  have hl : l.length ≤ 1000 := by have := hok.len; omega
  clear hok
  go_enter Tryz.func134, Tryz.ntmps134
  go_wp2_with fail
  refine (searchT_any _ _ _ _ l m _ _ hl hm (h.below hb1 (Nat.le_refl _)) (h'.below hb1 (Nat.le_refl _)) HP.out).mono ?_
  rintro e w2 ⟨i, hi, hc, f, rfl, hf, hb⟩
  have HFH := hidE (found_has HOK.out hc hf)
  clear hc hf
  go_wp2_with fail
  go_ret
  exact ⟨by rw [← HFH.out]; rfl, hb1.thru hb hb1.size⟩
end Go.Proofs.YtnhjebdlcbhkcaeGreat

namespace Go.Proofs.YtnhjebdlcbhkcaeGreat
open Go.RowKit

def chkGn (l : List At) (prev : Option (List (Int × Int) × Int)) (x : List (Int × Int) × Int) : Int :=
  if chk x.1 x.2 ≠ 0 then chk x.1 x.2 else if (match prev with | none => false | some y => decide (0 ≤ ordM y.1 y.2 x.1 x.2)) || hasMk l x.1 x.2 then 4 else 0
def chkGF (l : List At) (prev : Option (List (Int × Int) × Int)) : List (List (Int × Int) × Int) → Int
  | [] => 0
  | x :: g => if chkGn l prev x ≠ 0 then chkGn l prev x else chkGF l (some x) g
def chkS (l : List At) (g : List (List (Int × Int) × Int)) : Int := if chkL l ≠ 0 then chkL l else if 600 < g.length then 2 else chkGF l none g

theorem chkGF_cons (l : List At) (prev : Option (List (Int × Int) × Int)) (x : List (Int × Int) × Int) (g : List (List (Int × Int) × Int)) : chkGF l prev (x :: g) = if chkGn l prev x ≠ 0 then chkGn l prev x else chkGF l (some x) g := rfl
def prevM (l : List (List (Int × Int) × Int)) (k : Nat) : Option (List (Int × Int) × Int) := if k = 0 then none else l[k - 1]?

set_option maxRecDepth 100000 in
set_option maxHeartbeats 4000000 in
theorem stateCheck_any (a b : Option Addr) (cap cap' : Nat) (l : List At) (g : List (List (Int × Int) × Int)) (w : World) (hl : l.length ≤ maxLen) (h : AtomsAt w a l) (h' : MarksAt w b g) :
    Calls Tryz.prog 50 #[.agg #[.slice a l.length cap, .slice b g.length cap']] w fun e w' => e = .returned (.int .i64 (chkS l g)) ∧ Below w.heap.size w w' := by
  have hB := (Below.refl w.heap.size w).alloc (Nat.le_refl _) (Obj.cells #[.slice a l.length cap, .slice b g.length cap'] 25)
  have q0 : (w.alloc (Obj.cells #[.slice a l.length cap, .slice b g.length cap'] 25)).cell? ⟨w.heap.size, 0, none⟩ = some (.slice a l.length cap) := by simp
  have q1 : (w.alloc (Obj.cells #[.slice a l.length cap, .slice b g.length cap'] 25)).cell? ⟨w.heap.size, 1, none⟩ = some (.slice b g.length cap') := by simp
  have z : w.heap.size < (w.alloc (Obj.cells #[.slice a l.length cap, .slice b g.length cap'] 25)).heap.size := by simp
  replace h := h.below hB (Nat.le_refl _)
  replace h' := h'.below hB (Nat.le_refl _)
  go_enter Tryz.func50, Tryz.ntmps50
  go_upto_region 1 with fail
  generalize w.alloc (Obj.cells #[.slice a l.length cap, .slice b g.length cap'] 25) = W at hB q0 q1 z h h' ⊢
  generalize w.heap.size = Z at q0 q1 z
  go_wp2_with fail
  refine (atomCheck_any _ _ l _ hl h).mono ?_
  rintro e w1 ⟨rfl, hb⟩
  replace q0 := (hb.cell (p := ⟨Z, 0, none⟩) z).trans q0
  replace q1 := (hb.cell (p := ⟨Z, 1, none⟩) z).trans q1
  replace z := Nat.lt_of_lt_of_le z hb.size
  replace h := h.below hb (Nat.le_refl _)
  replace h' := h'.below hb (Nat.le_refl _)
  replace hB := hB.thru hb hB.size
  clear hb
  by_cases hc : chkL l = 0
  case neg =>
    have hcb : (chkL l != 0) = true := by rw [bne_iff_ne]; exact hc
    have HA : Hid (chkS l g = chkL l) := by show _ = _; unfold chkS; rw [if_pos hc]
    clear hc
    go_wp2_with fail
    go_ret
    exact ⟨ret_int HA.out.symm, hB⟩
  have HOK := hidE (okL_of hc)
  have HC0 := hidE hc
  rw [hc]
  clear hc
  by_cases h600 : 600 < g.length
  · have hd : ((g.length : Int) > 600) := by omega
    have HA : Hid (chkS l g = 2) := by show _ = _; unfold chkS; rw [if_neg (by rw [HC0.out]; decide), if_pos h600]
    go_wp2_with fail
    go_ret
    exact ⟨ret_int HA.out.symm, hB⟩
  have hd : ¬ ((g.length : Int) > 600) := by omega
  have HC : Hid (chkS l g = chkGF l none g) := by show _ = _; unfold chkS; rw [if_neg (by rw [HC0.out]; decide), if_neg h600]
  go_wp2_with fail
  go_loopw [20] (fun i wr => ∃ k : Nat, k ≤ g.length ∧ i = .int .i64 k ∧ chkGF l (prevM g k) (g.drop k) = chkGF l none g ∧ Below w1.heap.size w1 wr) (fun i _ => g.length - (intOf i).toNat)
  case atStart => exact ⟨0, Nat.zero_le _, rfl, rfl, Below.refl _ _⟩
  case round =>
    obtain ⟨k, hk, rfl, hck, hb⟩ := hrel
    have HK := hidE hck
    clear hck
    replace hB := hB.thru hb hB.size
    by_cases hlt : k < g.length
    · replace q0 := (hb.cell (p := ⟨Z, 0, none⟩) z).trans q0
      replace q1 := (hb.cell (p := ⟨Z, 1, none⟩) z).trans q1
      replace z := Nat.lt_of_lt_of_le z hb.size
      replace h := h.below hb (Nat.le_refl _)
      rcases h'.below hb (Nat.le_refl _) with hs | ⟨ab, ao, rfl, hab, hc⟩
      · simp [hs] at hlt
      have hcons : Hid (chkGF l (prevM g k) (g.drop k) = if chkGn l (prevM g k) g[k] ≠ 0 then chkGn l (prevM g k) g[k] else chkGF l (some g[k]) (g.drop (k + 1))) := by
        show _ = _
        rw [List.drop_eq_getElem_cons hlt, chkGF_cons]
      have hnext : Hid (prevM g (k + 1) = some g[k]) := by
        show _ = _
        unfold prevM; rw [if_neg (by omega), Nat.add_sub_cancel, List.getElem?_eq_getElem hlt]
      obtain ⟨p, cp, c0, c1, hst, hle⟩ := hc k hlt
      have HP : Hid (chkGn l (prevM g k) g[k] = chkGn l (prevM g k) (g[k].1, g[k].2)) := rfl
      have hi1 : (k : Int) < g.length := by omega
      have HAll := hidE hc
      generalize g[k].1 = pk at *
      generalize g[k].2 = ck at *
      clear hc h'
      go_upto_region 9 with fail
      have hbA : Below wr.heap.size wr (wr.alloc (Obj.cells #[.slice p pk.length cp, .int .i64 ck] 42)) := (Below.refl _ _).alloc (Nat.le_refl _) _
      have m0 : (wr.alloc (Obj.cells #[.slice p pk.length cp, .int .i64 ck] 42)).cell? ⟨wr.heap.size, 0, none⟩ = some (.slice p pk.length cp) := by simp
      have m1 : (wr.alloc (Obj.cells #[.slice p pk.length cp, .int .i64 ck] 42)).cell? ⟨wr.heap.size, 1, none⟩ = some (.int .i64 ck) := by simp
      have zm : wr.heap.size < (wr.alloc (Obj.cells #[.slice p pk.length cp, .int .i64 ck] 42)).heap.size := by simp
      generalize wr.alloc (Obj.cells #[.slice p pk.length cp, .int .i64 ck] 42) = wA at hbA m0 m1 zm ⊢
      go_wp2_with fail
      refine (check_any _ _ pk _ _ hle (hst.below hbA (Nat.le_refl _))).mono ?_
      rintro e w2 ⟨rfl, hb2⟩
      replace m0 := (hb2.cell (p := ⟨wr.heap.size, 0, none⟩) zm).trans m0
      replace m1 := (hb2.cell (p := ⟨wr.heap.size, 1, none⟩) zm).trans m1
      have hbW : Below wr.heap.size wr w2 := hbA.thru hb2 hbA.size
      replace q0 := (hbW.cell (p := ⟨Z, 0, none⟩) z).trans q0
      replace q1 := (hbW.cell (p := ⟨Z, 1, none⟩) z).trans q1
      replace h := h.below hbW (Nat.le_refl _)
      have hB2 := hB.thru hbW hB.size
      have hb2w := hb.thru hbW hb.size
      replace hst := hst.below hbW (Nat.le_refl _)
      clear hbA hb2 hb c0 c1
      have HR : Hid (chkS l g = if chkGn l (prevM g k) (pk, ck) ≠ 0 then chkGn l (prevM g k) (pk, ck) else chkGF l (some g[k]) (g.drop (k + 1))) := by
        show _ = _
        rw [HC.out, ← HK.out, hcons.out, HP.out]
      have HCC := hidE HC.out
      clear HC HP hcons
      by_cases hc0 : chk pk ck = 0
      case neg =>
        have hcb : (chk pk ck != 0) = true := by rw [bne_iff_ne]; exact hc0
        have HA : Hid (chkS l g = chk pk ck) := by
          show _ = _
          have : chkGn l (prevM g k) (pk, ck) = chk pk ck := by unfold chkGn; rw [if_pos hc0]
          rw [HR.out, this, if_pos hc0]
        clear hc0
        go_wp2_with fail
        go_ret
        exact ⟨ret_int HA.out.symm, hB2⟩
      rw [hc0]
      have HA : Hid (chkGn l (prevM g k) (pk, ck) = if (match prevM g k with | none => false | some y => decide (0 ≤ ordM y.1 y.2 pk ck)) || hasMk l pk ck then 4 else 0) := by
        show _ = _
        unfold chkGn
        rw [if_neg (by simpa using hc0)]
      clear hc0
      have k2 := cell_regrown m0
      have k3 := cell_regrown m1
      have k4 := cell_regrown q0
      have k5 := cell_regrown q1
      have S2 := hidE (fun d os => hst.below (below_regrown w2 d os) (Nat.le_refl _))
      have S3 := hidE (fun d os => h.below (below_regrown w2 d os) (Nat.le_refl _))
      rcases Nat.eq_zero_or_pos k with rfl | hk0
      · have hgz : decide ((0 : Int) > 0) = false := by decide
        go_upto_region 12 with fail
        refine wp_region_quiet_below (by kernel_rfl) (by kernel_rfl) ?_
        repeat (first | go_big_quiet_step ((go_at_call 134; exact Calls.regrown_of (isThere_ok _ _ _ _ l pk _ _ HOK.out hle (S3.out _ _) (S2.out _ _)))) | quiet_step ((go_at_call 134; exact Calls.regrown_of (isThere_ok _ _ _ _ l pk _ _ HOK.out hle (S3.out _ _) (S2.out _ _)))))
        refine wpQuiet_nil ?_
        intro _ hw'
        obtain ⟨⟨dq, osq⟩, hw''⟩ := hw'
        subst hw''
        clear k2 k3 k4 k5
        cases hhas : hasMk l pk ck
        · have HF : Hid (chkGF l (some g[0]) (g.drop 1) = chkGF l none g) := by
            show _ = _
            rw [← HCC.out, HR.out, HA.out, hhas]
            rfl
          clear hhas
          go_wp2
          go_roundw
          case rel => exact ⟨1, by omega, by go_num, by rw [hnext.out, HF.out], hb2w.thru (below_regrown _ _ _) hb2w.size⟩
          case measure => simp [intOf]; omega
        · have HF : Hid (chkS l g = 4) := by show _ = _; rw [HR.out, HA.out, hhas]; rfl
          clear hhas
          go_wp2
          go_ret
          exact ⟨ret_int HF.out.symm, hB2.thru (below_regrown _ _ _) hB2.size⟩
      · obtain ⟨j, rfl⟩ : ∃ j, k = j + 1 := ⟨k - 1, by omega⟩
        obtain ⟨py, cy, c0, c1, hsy, hly⟩ := HAll.out j (by omega)
        have d0 := (hbW.cell (p := ⟨ab, ao + j * 2, none⟩) hab).trans c0
        have d1 := (hbW.cell (p := ⟨ab, ao + j * 2 + 1, none⟩) hab).trans c1
        have hpv : Hid (prevM g (j + 1) = some g[j]) := by
          show _ = _
          unfold prevM; rw [if_neg (by omega), Nat.add_sub_cancel, List.getElem?_eq_getElem (by omega)]
        have HA3 : Hid (chkGn l (prevM g (j + 1)) (pk, ck) = if decide (0 ≤ ordM g[j].1 g[j].2 pk ck) || hasMk l pk ck then 4 else 0) := by
          show _ = _
          rw [HA.out, hpv.out]
        have k0 := cell_regrown d0
        have k1 := cell_regrown d1
        have S1 := hidE (fun d os => (hsy.below hbW (Nat.le_refl _)).below (below_regrown w2 d os) (Nat.le_refl _))
        clear c0 c1 HA hsy hst
        generalize g[j].1 = lp at d0 d1 hly HA3 k0 S1
        generalize g[j].2 = lc at d0 d1 HA3 k1
        have hw1 : IntKind.i64.wrap (((j + 1 : Nat) : Int) - 1) = (j : Int) := by rw [IntKind.wrap_i64] <;> omega
        have hgz : decide (((j + 1 : Nat) : Int) > 0) = true := by simp
        have hj1 : (j : Int) < g.length := by omega
        go_upto_region 12 with fail
        by_cases ho : 0 ≤ ordM lp lc pk ck
        · have ho' : decide (ordM lp lc pk ck ≥ 0) = true := decide_eq_true ho
          have HF : Hid (chkS l g = 4) := by show _ = _; rw [HR.out, HA3.out, decide_eq_true ho, Bool.true_or, if_pos rfl, if_pos (by decide)]
          clear ho
          refine wp_region_quiet_below (by kernel_rfl) (by kernel_rfl) ?_
          repeat (first | go_big_quiet_step ((go_at_call 61; exact Calls.regrown_of (order_any _ _ _ _ lp pk _ _ _ hly hle (S1.out _ _) (S2.out _ _)))) | quiet_step ((go_at_call 61; exact Calls.regrown_of (order_any _ _ _ _ lp pk _ _ _ hly hle (S1.out _ _) (S2.out _ _)))))
          refine wpQuiet_nil ?_
          intro _ hw'
          obtain ⟨⟨dq, osq⟩, hw''⟩ := hw'
          subst hw''
          go_wp2
          go_ret
          exact ⟨ret_int HF.out.symm, hB2.thru (below_regrown _ _ _) hB2.size⟩
        · have ho' : decide (ordM lp lc pk ck ≥ 0) = false := decide_eq_false ho
          have HNO := hidE (decide_eq_false ho)
          clear ho
          refine wp_region_quiet_below (by kernel_rfl) (by kernel_rfl) ?_
          repeat (first | go_big_quiet_step (first | (go_at_call 61; exact Calls.regrown_of (order_any _ _ _ _ lp pk _ _ _ hly hle (S1.out _ _) (S2.out _ _))) | (go_at_call 134; exact Calls.regrown_of (isThere_ok _ _ _ _ l pk _ _ HOK.out hle (S3.out _ _) (S2.out _ _)))) | quiet_step (first | (go_at_call 61; exact Calls.regrown_of (order_any _ _ _ _ lp pk _ _ _ hly hle (S1.out _ _) (S2.out _ _))) | (go_at_call 134; exact Calls.regrown_of (isThere_ok _ _ _ _ l pk _ _ HOK.out hle (S3.out _ _) (S2.out _ _)))))
          refine wpQuiet_nil ?_
          intro _ hw'
          obtain ⟨⟨dq, osq⟩, hw''⟩ := hw'
          subst hw''
          clear k0 k1 k2 k3 k4 k5
          cases hhas : hasMk l pk ck
          · have HF : Hid (chkGF l (some g[j + 1]) (g.drop (j + 1 + 1)) = chkGF l none g) := by
              show _ = _
              rw [← HCC.out, HR.out, HA3.out, hhas, HNO.out]
              rfl
            clear hhas
            go_wp2
            go_roundw
            case rel => exact ⟨j + 1 + 1, by omega, by go_num, by rw [hnext.out, HF.out], hb2w.thru (below_regrown _ _ _) hb2w.size⟩
            case measure => simp [intOf]; omega
          · have HF : Hid (chkS l g = 4) := by show _ = _; rw [HR.out, HA3.out, hhas, HNO.out]; rfl
            clear hhas
            go_wp2
            go_ret
            exact ⟨ret_int HF.out.symm, hB2.thru (below_regrown _ _ _) hB2.size⟩
    · have HF : Hid (chkS l g = 0) := by show _ = _; rw [HC.out, ← HK.out, List.drop_eq_nil_of_le (by omega)]; rfl
      go_wp2
      go_ret
      exact ⟨ret_int HF.out.symm, hB⟩
end Go.Proofs.YtnhjebdlcbhkcaeGreat
