/- The row of what is gone grows by one mark: slices.Insert, and all else stays. -/
import Derived.Test.YtlpfnpkmgkbngacDoerC
import Derived.Test.YtlpfnpkmgkbngacDelI
import Derived.Test.YtlpfnpkmgkbngacDPut
import Derived.Test.YtlpfnpkmgkbngacSortP
namespace Go.Proofs.Ytlpfnpkmgkbngac
open Go.RowKit

/-- the marks that are gone are put anew -/
theorem DoerAt.set1 {w : World} {base D : Nat} {vA vG u : Value} {l : List At} {g h : List Mk} (hd : DoerAt w base D vA vG l g) (hm : MkRow w base u h) : DoerAt (w.setCell ⟨D, 1, none⟩ u) base D vA u l h := by
  obtain ⟨⟨cur, h1⟩, h2, h3, h4, h5, h6, h7, h8⟩ := hd
  refine ⟨?_, ?_, World.cell?_setCell_same _ _ _ h3, fun o => by rw [World.frozen?_setCell]; exact h4 o, by simpa [World.setCell] using h5, h6, h7.setD ⟨cur, h1⟩, hm.setD ⟨cur, h1⟩⟩
  · refine ⟨cur.setIfInBounds 1 u, ?_⟩
    simp [World.setCell, Array.getElem?_modify, h1]
  · rw [World.cell?_setCell_other _ _ _ _ (by simp)]; exact h2

/-- the row of what is gone grows: all else stays, and the new row is put in its place -/
theorem DoerAt.grow1 {w w' : World} {base D n : Nat} {vA vG u : Value} {l : List At} {g h : List Mk} {fs : List Value} (hd : DoerAt w base D vA vG l g) (ho : w.ownsRow base 41 2 vG n fs) (hg : w.grownBy w' vG.ownBlock) (hm : MkRow w' base u h) : DoerAt (w'.setCell ⟨D, 1, none⟩ u) base D vA u l h := by
  obtain ⟨⟨cur, h1⟩, h2, h3, h4, h5, h6, h7, h8⟩ := hd
  have hne : ∀ t cur', w.heap[t]? = some cur' → (∀ c, cur' ≠ .cells c 41 (0, 0)) → some t ≠ vG.ownBlock := by
    intro t cur' ht hty e
    rcases ho.2 with ⟨rfl, _⟩ | ⟨g1, c1, cur1, rfl, _, e2, _⟩
    · simp [Value.ownBlock] at e
    · simp [Value.ownBlock] at e
      subst e
      rw [ht] at e2
      exact hty cur1 (Option.some.inj e2)
  have hD := hne D _ h1 (fun c e => by simp at e)
  have hst : ∀ gp c, w.heap[gp]? = some (.cells c 92 (0, 0)) → some gp ≠ vG.ownBlock := fun gp c hc => hne gp _ hc (fun c' e => by simp at e)
  have hat : PickRow w' base vA l := by
    obtain ⟨rs, _, hown, _⟩ := h7
    exact PickRow.kept ⟨rs, by assumption, hown, by assumption⟩ hg (types_neA hown ho) hst
  have c1' := (grown_cell hg h5 hD 1).trans h3
  have hty' : ∃ cur, w'.heap[D]? = some (.cells cur 100 (0, 0)) := ⟨cur, (hg.block D h5 hD).trans h1⟩
  refine ⟨?_, ?_, World.cell?_setCell_same _ _ _ c1', fun o => ?_, by simpa [World.setCell] using Nat.lt_of_lt_of_le h5 hg.size, h6, hat.setD hty', hm.setD hty'⟩
  · obtain ⟨cur2, e2⟩ := hty'
    refine ⟨cur2.setIfInBounds 1 u, ?_⟩
    simp [World.setCell, Array.getElem?_modify, e2]
  · rw [World.cell?_setCell_other _ _ _ _ (by simp)]
    exact (grown_cell hg h5 hD 0).trans h2
  · rw [World.frozen?_setCell]
    have e3 := hg.block D h5 hD
    have e4 := h4 o
    unfold World.frozen? at e4 ⊢
    rw [e3]; exact e4


theorem DoerAt.apart {w : World} {base D n : Nat} {vA vG : Value} {l : List At} {g : List Mk} {fs : List Value} (hd : DoerAt w base D vA vG l g) (ho : w.ownsRow base 41 2 vG n fs) : some D ≠ vG.ownBlock := by
  obtain ⟨⟨cur, h1⟩, _⟩ := hd
  intro e
  rcases ho.2 with ⟨rfl, _⟩ | ⟨g1, c1, cur1, rfl, _, e2, _⟩
  · simp [Value.ownBlock] at e
  · simp [Value.ownBlock] at e
    subst e
    rw [h1] at e2
    simp at e2

theorem steps_apart {w : World} {base n : Nat} {vG : Value} {fs : List Value} (ho : w.ownsRow base 41 2 vG n fs) : ∀ g cur, w.heap[g]? = some (.cells cur 92 (0, 0)) → some g ≠ vG.ownBlock := by
  intro g cur h1 e
  rcases ho.2 with ⟨rfl, _⟩ | ⟨g1, c1, cur1, rfl, _, e2, _⟩
  · simp [Value.ownBlock] at e
  · simp [Value.ownBlock] at e
    subst e
    rw [h1] at e2
    simp at e2

theorem insDoer {base D B gp cq lo vb cg : Nat} {vT u : Value} {pg : Option Addr} {l : List At} {G ns : List Mk} {m1 : List (Int × Int)} {d1 : Int} {w w5 W' : World}
    (hd : DoerAt w5 base D vT (.slice pg G.length cg) l G) (hR : MkRow w5 B u ns) (hdis : u.ownBlock = none ∨ (Value.slice pg G.length cg).ownBlock ≠ u.ownBlock) (hBw : Below base w w5) (hBB : base ≤ B) (hBW : B ≤ w5.heap.size)
    (hpo : w5.ownsRow B 92 2 (.slice (some ⟨gp, 0, none⟩) m1.length cq) m1.length (flatS m1)) (hpl : m1.length ≤ maxLen) (hlo : lo ≤ G.length) (hG : G.length ≤ 660)
    (hb : Below w5.heap.size w5 W') (hvb : w5.heap.size ≤ vb) (hv : W'.heap[vb]? = some (.cells #[.slice (some ⟨gp, 0, none⟩) m1.length cq, .int .i64 d1] 41 (0, 0))) :
    Calls Try.prog 131 #[.slice pg G.length cg, .int .i64 lo, .slice (some ⟨vb, 0, none⟩) 1 1] W' fun e w6 => ∃ p6 n6 c6, e = .returned (.slice p6 n6 c6) ∧ w6.cell? ⟨D, 1, none⟩ = some (.slice pg G.length cg) ∧ (∀ o, w6.frozen? ⟨D, o, none⟩ = false) ∧ DoerAt (w6.setCell ⟨D, 1, none⟩ (.slice p6 n6 c6)) base D vT (.slice p6 n6 c6) l (G.take lo ++ (m1, d1) :: G.drop lo) ∧ MkRow (w6.setCell ⟨D, 1, none⟩ (.slice p6 n6 c6)) B u ns ∧ (u.ownBlock = none ∨ (Value.slice p6 n6 c6).ownBlock ≠ u.ownBlock) ∧ Below base w (w6.setCell ⟨D, 1, none⟩ (.slice p6 n6 c6)) ∧ B ≤ (w6.setCell ⟨D, 1, none⟩ (.slice p6 n6 c6)).heap.size := by
  obtain ⟨rs, hrl, hown5, hrr5⟩ := hd.gone
  have hown := owns_below hown5 hb
  have hdW := hd.below hb
  have hbW : base ≤ W'.heap.size := Nat.le_trans (Nat.le_trans hBB hBW) hb.size
  have hne : some vb ≠ (Value.slice pg G.length cg).ownBlock := by
    intro e
    have := (hown5.lt vb e.symm).2
    omega
  have hpk : PickK W' base ⟨some ⟨gp, 0, none⟩, m1.length, cq, d1⟩ (m1, d1) := ⟨gp, cq, rfl, owns_base (owns_below hpo hb) hBB, hpl⟩
  refine (insM_ownB base _ G.length lo vb (flatK rs) [.slice (some ⟨gp, 0, none⟩) m1.length cq, .int .i64 d1] W' hown hbW hlo (by omega) hv rfl hne (flatK_one _) (flatK_one [⟨some ⟨gp, 0, none⟩, m1.length, cq, d1⟩])).mono ?_
  rintro e w6 ⟨v', rfl, hown6, hgrow, hblk⟩
  have hrow6 : MkRow w6 base v' (G.take lo ++ (m1, d1) :: G.drop lo) := MkRow.ins hlo hrl hown (fun i h h' => (hrr5 i h h').below hb) hpk hgrow hown6
  have hap := hdW.apart hown
  have hblkD := hgrow.block D hdW.lt hap
  have hs6 := hgrow.size
  obtain ⟨p6, c6, rfl, _⟩ := hrow6.marks
  refine ⟨p6, _, c6, rfl, (grown_cell hgrow hdW.lt hap 1).trans hdW.c1, fun o => ?_, hdW.grow1 hown hgrow hrow6, ?_, ?_, ?_, ?_⟩
  · have e4 := hdW.free o
    unfold World.frozen? at e4 ⊢
    rw [hblkD]; exact e4
  · refine ((hR.below hb).kept hgrow ?_ (steps_apart hown)).setD ?_
    · rcases hdis with h | h
      · exact Or.inl h
      · exact Or.inr (Ne.symm h)
    · obtain ⟨cur, e⟩ := hdW.ty
      exact ⟨cur, hblkD.trans e⟩
  · rcases hblk with h | h
    · rw [h]; exact hdis
    · obtain ⟨rs2, _, hownR, _⟩ := hR
      cases hu : u.ownBlock with
      | none => exact Or.inl rfl
      | some x =>
        right
        rw [h]
        have h1 := (hownR.lt x hu).2
        have h2 := hb.size
        intro e
        have : W'.heap.size = x := by simpa using e
        omega
  · exact ((hBw.thru hb (Nat.le_trans hBB hBW)).grown hgrow hbW (fun j hj => (hown.lt j hj).1)).setCell hd.le _
  · have h2 := hb.size
    simp [World.setCell]
    omega
end Go.Proofs.Ytlpfnpkmgkbngac

namespace Go.Proofs.Ytlpfnpkmgkbngac
open Go.RowKit

set_option maxHeartbeats 1000000 in
theorem there1_any (a a' : Option Addr) (cap cap' : Nat) (l m : List (Int × Int)) (c d s : Int) (w : World) (hl : l.length ≤ maxLen) (hm : m.length ≤ maxLen) (h : StepsAt w a l) (h' : StepsAt w a' m) :
    Calls Try.prog 115 #[.agg #[.slice a l.length cap, .int .i64 c, .int .u8 s], .agg #[.slice a' m.length cap', .int .i64 d]] w fun e w' => e = .returned (.int .i64 (ordM l c m d)) ∧ Below w.heap.size w w' := by
  have hb0 : Below w.heap.size w ((w.alloc (Obj.cells #[.slice a l.length cap, .int .i64 c, .int .u8 s] 50)).alloc (Obj.cells #[.slice a' m.length cap', .int .i64 d] 41)) := ((Below.refl _ _).alloc (Nat.le_refl _) _).alloc (by simp) _
  go_enter Try.func115, Try.ntmps115
  go_wp2_with (go_at_call 54; refine (order_any _ _ _ _ l m _ _ _ hl hm (by exact h.below hb0 (Nat.le_refl _)) (by exact h'.below hb0 (Nat.le_refl _))).mono ?_; rintro e w' ⟨rfl, hb⟩)
  go_ret
  exact ⟨rfl, hb0.thru hb hb0.size⟩

set_option maxRecDepth 100000 in
set_option maxHeartbeats 2000000 in
theorem searchT_any (a a' : Option Addr) (cap cap' : Nat) (l : List At) (m : List (Int × Int)) (d : Int) (w : World) (hl : l.length ≤ 1000) (hm : m.length ≤ maxLen) (h : AtomsAt w a l) (h' : StepsAt w a' m) (hp : Parts l m d) :
    Calls Try.prog 114 #[.slice a l.length cap, .agg #[.slice a' m.length cap', .int .i64 d], .func (.func 115) #[] #[]] w fun e w' => ∃ i : Nat, i ≤ l.length ∧ Cut l m d i i ∧ ∃ f : Bool, e = .returned (.tuple #[.int .i64 i, .bool f]) ∧ (f = true ↔ ∃ h : i < l.length, ordM l[i].path l[i].clock m d = 0) ∧ Below w.heap.size w w' := by
  have HP := hidE hp
  clear hp
  go_enter Try.func114, Try.ntmps114
  go_upto_region 1 with fail
  have hbA : Below w.heap.size w (w.alloc (Obj.cells #[.slice a' m.length cap', .int .i64 d] 41)) := (Below.refl _ _).alloc (Nat.le_refl _) _
  have q0 : (w.alloc (Obj.cells #[.slice a' m.length cap', .int .i64 d] 41)).cell? ⟨w.heap.size, 0, none⟩ = some (.slice a' m.length cap') := by simp
  have q1 : (w.alloc (Obj.cells #[.slice a' m.length cap', .int .i64 d] 41)).cell? ⟨w.heap.size, 1, none⟩ = some (.int .i64 d) := by simp
  have z1 : w.heap.size < (w.alloc (Obj.cells #[.slice a' m.length cap', .int .i64 d] 41)).heap.size := by simp
  generalize w.alloc (Obj.cells #[.slice a' m.length cap', .int .i64 d] 41) = w1 at hbA q0 q1 z1 ⊢
  go_wp2_with fail
  go_loopw [9, 10] (fun i j wr => ∃ x y : Nat, x ≤ y ∧ y ≤ l.length ∧ i = .int .i64 x ∧ j = .int .i64 y ∧ Cut l m d x y ∧ Below w1.heap.size w1 wr) (fun i j _ => (intOf j).toNat - (intOf i).toNat)
  case atStart => exact ⟨0, l.length, Nat.zero_le _, Nat.le_refl _, rfl, rfl, ⟨fun t _ h => by omega, fun t h h' => by omega⟩, Below.refl _ _⟩
  case round =>
    obtain ⟨x, y, hxy, hy, rfl, rfl, hcut, hb⟩ := hrel
    have HCut := hidE hcut
    clear hcut
    have hbW := hbA.thru hb hbA.size
    by_cases hlt : x < y
    · have hi1 : (x : Int) < y := by omega
      have hh : (x + y) / 2 < l.length := by omega
      go_upto_region 5 with fail
      rw [show ((x : Int) + y) / 2 = (((x + y) / 2 : Nat) : Int) by omega]
      have hz1 : x ≤ (x + y) / 2 := by omega
      have hz2 : (x + y) / 2 < y := by omega
      generalize (x + y) / 2 = z at hz1 hz2 hh ⊢
      rcases h.below hbW (Nat.le_refl _) with hs | ⟨ab, ao, rfl, hab, hc⟩
      · simp [hs] at hh
      obtain ⟨p, cp, c0, c1, c2, hst, hle, _⟩ := hc z hh
      have hi2 : (z : Int) < l.length := by omega
      have HZ : Hid (∀ o, o = ordM l[z].path l[z].clock m d → (o < 0 → Cut l m d (z + 1) y) ∧ (0 ≤ o → Cut l m d x z)) := by
        intro o ho
        subst ho
        refine ⟨fun h0 => ⟨fun t ht htz => ?_, HCut.out.2⟩, fun h0 => ⟨HCut.out.1, fun t ht htz => ?_⟩⟩
        · by_cases e : t = z
          · subst e; exact h0
          · exact HP.out t z hh (by omega) h0
        · by_cases e : t = z
          · subst e; exact h0
          · rcases Int.lt_or_le (ordM l[t].path l[t].clock m d) 0 with hn | hn
            · have := HP.out z t ht (by omega) hn
              omega
            · exact hn
      generalize l[z].path = pk at *
      generalize l[z].clock = ck at *
      generalize l[z].sign = sk at *
      have k0 := cell_regrown c0
      have k1 := cell_regrown c1
      have k2 := cell_regrown c2
      have k3 := cell_regrown ((hb.cell (p := ⟨w.heap.size, 0, none⟩) z1).trans q0)
      have k4 := cell_regrown ((hb.cell (p := ⟨w.heap.size, 1, none⟩) z1).trans q1)
      have S1 := hidE (fun d os => hst.below (below_regrown wr d os) (Nat.le_refl _))
      have S2 := hidE (fun d os => (h'.below hbW (Nat.le_refl _)).below (below_regrown wr d os) (Nat.le_refl _))
      clear hc h hst h'
      refine wp_region_quiet_below (by kernel_rfl) (by kernel_rfl) ?_
      repeat (first | go_big_quiet_step ((go_at_call 115; exact Calls.regrown_of (there1_any _ _ _ _ pk m _ _ _ _ hle hm (S1.out _ _) (S2.out _ _)))) | quiet_step ((go_at_call 115; exact Calls.regrown_of (there1_any _ _ _ _ pk m _ _ _ _ hle hm (S1.out _ _) (S2.out _ _)))))
      refine wpQuiet_nil ?_
      intro _ hw'
      obtain ⟨⟨dq, osq⟩, hw''⟩ := hw'
      subst hw''
      obtain ⟨HZ1, HZ2⟩ := HZ.out _ rfl
      by_cases ho : ordM pk ck m d < 0
      · have HC2 := hidE (HZ1 ho)
        clear HZ1 HZ2
        go_wp2
        go_roundw
        case rel => exact ⟨z + 1, y, by omega, hy, by go_num, rfl, HC2.out, hb.thru (below_regrown _ _ _) hb.size⟩
        case measure => simp [intOf]; omega
      · have HC2 := hidE (HZ2 (by omega))
        clear HZ1 HZ2
        go_wp2
        go_roundw
        case rel => exact ⟨x, z, by omega, by omega, rfl, rfl, HC2.out, hb.thru (below_regrown _ _ _) hb.size⟩
        case measure => simp [intOf]; omega
    · have hxe : x = y := by omega
      subst hxe
      by_cases hlen : x < l.length
      · rcases h.below hbW (Nat.le_refl _) with hs | ⟨ab, ao, rfl, hab, hc⟩
        · simp [hs] at hlen
        obtain ⟨p, cp, c0, c1, c2, hst, hle, _⟩ := hc x hlen
        have HO : Hid (∃ o, o = ordM l[x].path l[x].clock m d) := ⟨_, rfl⟩
        have HE : Hid ((∃ h : x < l.length, ordM l[x].path l[x].clock m d = 0) ↔ ordM l[x].path l[x].clock m d = 0) := by
          constructor
          · rintro ⟨_, h⟩; exact h
          · intro h; exact ⟨hlen, h⟩
        have hi1 : decide ((x : Int) < l.length) = true := by simpa using hlen
        have hi2 : (x : Int) < l.length := by omega
        generalize hpk : l[x].path = pk at *
        generalize hck : l[x].clock = ck at *
        generalize l[x].sign = sk at *
        have HPK := hidE hpk
        have HCK := hidE hck
        have k0 := cell_regrown c0
        have k1 := cell_regrown c1
        have k2 := cell_regrown c2
        have k3 := cell_regrown ((hb.cell (p := ⟨w.heap.size, 0, none⟩) z1).trans q0)
        have k4 := cell_regrown ((hb.cell (p := ⟨w.heap.size, 1, none⟩) z1).trans q1)
        have S1 := hidE (fun d os => hst.below (below_regrown wr d os) (Nat.le_refl _))
        have S2 := hidE (fun d os => (h'.below hbW (Nat.le_refl _)).below (below_regrown wr d os) (Nat.le_refl _))
        clear hc h hst h' hpk hck
        go_wp2_with fail
        refine wp_region_quiet_below (by kernel_rfl) (by kernel_rfl) ?_
        repeat (first | go_big_quiet_step ((go_at_call 115; exact Calls.regrown_of (there1_any _ _ _ _ pk m _ _ _ _ hle hm (S1.out _ _) (S2.out _ _)))) | quiet_step ((go_at_call 115; exact Calls.regrown_of (there1_any _ _ _ _ pk m _ _ _ _ hle hm (S1.out _ _) (S2.out _ _)))))
        refine wpQuiet_nil ?_
        intro _ hw'
        obtain ⟨⟨dq, osq⟩, hw''⟩ := hw'
        subst hw''
        go_wp2
        refine bodyPost_ret (v := .tuple #[.int .i64 x, .bool (ordM pk ck m d == 0)]) (by simp [results, Try.results114, go_sem]) rfl ?_
        refine ⟨x, by omega, HCut.out, _, rfl, ?_, hbW.thru (below_regrown _ _ _) hbW.size⟩
        rw [beq_iff_eq]
        constructor
        · intro e; exact ⟨hlen, by rw [HPK.out, HCK.out]; exact e⟩
        · rintro ⟨_, e⟩; rw [HPK.out, HCK.out] at e; exact e
      · have hi1 : decide ((x : Int) < l.length) = false := by simpa using hlen
        have HN : Hid ((false = true) ↔ ∃ h : x < l.length, ordM l[x].path l[x].clock m d = 0) := by
          constructor
          · intro h; cases h
          · rintro ⟨h, _⟩; exact absurd h hlen
        go_wp2_with fail
        refine wp_region_quiet_below (by kernel_rfl) (by kernel_rfl) ?_
        repeat (first | go_big_quiet_step (fail) | quiet_step (fail))
        refine wpQuiet_nil ?_
        intro _ hw'
        obtain ⟨⟨dq, osq⟩, hw''⟩ := hw'
        subst hw''
        go_wp2
        refine bodyPost_ret (v := .tuple #[.int .i64 x, .bool false]) (by simp [results, Try.results114, go_sem]) rfl ?_
        exact ⟨x, by omega, HCut.out, _, rfl, HN.out, hbW.thru (below_regrown _ _ _) hbW.size⟩
end Go.Proofs.Ytlpfnpkmgkbngac

namespace Go.Proofs.Ytlpfnpkmgkbngac
open Go.RowKit

theorem found_has {l : List At} (hok : OkL l) {m : List (Int × Int)} {d : Int} {i : Nat} {f : Bool} (hc : Cut l m d i i) (hf : f = true ↔ ∃ h : i < l.length, ordM l[i].path l[i].clock m d = 0) : f = hasMk l m d := by
  cases f with
  | true =>
    obtain ⟨h, h0⟩ := hf.1 rfl
    symm
    unfold hasMk
    rw [List.any_eq_true]
    exact ⟨l[i], List.getElem_mem h, by simpa using h0⟩
  | false =>
    have hn : ¬ ∃ h : i < l.length, ordM l[i].path l[i].clock m d = 0 := fun h => by simpa using hf.2 h
    symm
    unfold hasMk
    rw [List.any_eq_false]
    intro x hx
    obtain ⟨j, hj, rfl⟩ := List.getElem_of_mem hx
    rw [gone_none hok hc hn hj]
    decide

set_option maxRecDepth 100000 in
set_option maxHeartbeats 2000000 in
theorem isThere_ok (a a' : Option Addr) (cap cap' : Nat) (l : List At) (m : List (Int × Int)) (d : Int) (w : World) (hok : OkL l) (hm : m.length ≤ maxLen) (h : AtomsAt w a l) (h' : StepsAt w a' m) :
    Calls Try.prog 90 #[.slice a l.length cap, .agg #[.slice a' m.length cap', .int .i64 d]] w fun e w' => e = .returned (.bool (hasMk l m d)) ∧ Below w.heap.size w w' := by
  have hb1 : Below w.heap.size w (w.alloc (Obj.cells #[.slice a' m.length cap', .int .i64 d] 41)) := (Below.refl _ _).alloc (Nat.le_refl _) _
  have HP := hidE (parts_of hok m d)
  have HOK := hidE hok
  have hl : l.length ≤ 1000 := by have := hok.len; omega
  clear hok
  go_enter Try.func90, Try.ntmps90
  go_wp2_with fail
  refine (searchT_any _ _ _ _ l m _ _ hl hm (h.below hb1 (Nat.le_refl _)) (h'.below hb1 (Nat.le_refl _)) HP.out).mono ?_
  rintro e w2 ⟨i, hi, hc, f, rfl, hf, hb⟩
  have HFH := hidE (found_has HOK.out hc hf)
  clear hc hf
  go_wp2_with fail
  go_ret
  exact ⟨by rw [← HFH.out]; rfl, hb1.thru hb hb1.size⟩
end Go.Proofs.Ytlpfnpkmgkbngac
