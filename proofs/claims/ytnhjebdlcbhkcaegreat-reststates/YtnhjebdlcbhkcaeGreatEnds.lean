/- Rows that are a call's own, of whatever things. -/
import Derived.Test.YtnhjebdlcbhkcaeGreatShapeC
import Derived.Test.YtnhjebdlcbhkcaeGreatRowC
namespace Go.Proofs.YtnhjebdlcbhkcaeGreat
open Go.RowKit

structure RowOwn {α : Type} (T : TypeId) (K : Nat) (cells : α → List Value) (E : World → Nat → α → Prop) (w : World) (base : Nat) (v : Value) (xs : List α) : Prop where
  own : w.ownsRow base T K v xs.length (xs.flatMap cells)
  each : ∀ x ∈ xs, E w base x

structure Stays {α : Type} (T : TypeId) (R : Nat) (E : World → Nat → α → Prop) : Prop where
  far : ∀ w w' base x, E w base x → R < base → w.grownBy w' (some R) → E w' base x
  row : ∀ w w' base K v n ys x, E w base x → w.ownsRow base T K v n ys → w.grownBy w' v.ownBlock → E w' base x

theorem Stays.free {α : Type} (T : TypeId) (R : Nat) : Stays (α := α) T R (fun _ _ _ => True) := ⟨fun _ _ _ _ _ _ _ => trivial, fun _ _ _ _ _ _ _ _ _ _ _ => trivial⟩

section
variable {α : Type} {T : TypeId} {K R : Nat} {cells : α → List Value} {E : World → Nat → α → Prop} {w w' : World} {base : Nat} {v : Value} {xs : List α}
theorem RowOwn.nil : RowOwn T K cells E w base (.slice none 0 0) ([] : List α) := ⟨World.ownsRow_nil w base T K, fun x h => by simp at h⟩
theorem own_apart {w : World} {base : Nat} {e : TypeId} {size : Nat} {v : Value} {n : Nat} {ys : List Value} {R : Nat} (h : w.ownsRow base e size v n ys) (hR : R < base) : v.ownBlock ≠ some R := fun e => by have := (h.lt R e).1; omega
theorem RowOwn.far (h : RowOwn T K cells E w base v xs) (hE : Stays T R E) (hR : R < base) (hg : w.grownBy w' (some R)) : RowOwn T K cells E w' base v xs :=
  ⟨h.own.kept hg (Or.inr (own_apart h.own hR)), fun x hx => hE.far _ _ _ _ (h.each x hx) hR hg⟩
theorem RowOwn.snoc {x : α} {v' : Value} (h : RowOwn T K cells E w base v xs) (hE : Stays T R E) (hx : E w base x) (ho : w'.ownsRow base T K v' (xs.length + 1) (xs.flatMap cells ++ cells x)) (hg : w.grownBy w' v.ownBlock) : RowOwn T K cells E w' base v' (xs ++ [x]) := by
  refine ⟨?_, fun y hy => ?_⟩
  · rw [List.length_append, List.flatMap_append, List.flatMap_cons, List.flatMap_nil, List.append_nil]; exact ho
  · rcases List.mem_append.1 hy with hy | hy
    · exact hE.row _ _ _ _ _ _ _ _ (h.each y hy) h.own hg
    · rw [List.mem_singleton.1 hy]; exact hE.row _ _ _ _ _ _ _ _ hx h.own hg
end
theorem alloc_below (w : World) (o : Obj) : Below w.heap.size w (w.alloc o) := (Below.refl _ _).alloc (Nat.le_refl _) _
theorem Blk.thruB {w w' : World} {R : Nat} {cs : Array Value} {t : TypeId} (h : Blk w R cs t) (hb : Below w.heap.size w w') : Blk w' R cs t := h.below hb h.lt
theorem types_apart {w : World} {b b' K K' n m : Nat} {T T' : TypeId} {v v' : Value} {xs ys : List Value} (h : w.ownsRow b T K v n xs) (h' : w.ownsRow b' T' K' v' m ys) (hT : T ≠ T') : v.ownBlock = none ∨ v.ownBlock ≠ v'.ownBlock := by
  rcases h.2 with ⟨rfl, _⟩ | ⟨g, c, cur, rfl, _, h2, _⟩
  · exact Or.inl rfl
  · refine Or.inr fun e => ?_
    rcases h'.2 with ⟨rfl, _⟩ | ⟨g2, c2, cur2, rfl, _, h3, _⟩
    · simp [Value.ownBlock] at e
    · simp only [Value.ownBlock, Option.some.injEq] at e
      subst e
      rw [h2] at h3
      simp only [Option.some.injEq, Obj.cells.injEq] at h3
      exact hT h3.2.1
end Go.Proofs.YtnhjebdlcbhkcaeGreat

namespace Go.Proofs.YtnhjebdlcbhkcaeGreat
open Go.RowKit

set_option maxRecDepth 100000 in
set_option maxHeartbeats 1000000 in
theorem spoilMark_ok (B n c : Nat) (p : Option Addr) (ck : Int) (w : World) (h : ShS w B p n) (hn : n ≤ maxLen) (hB : B ≤ w.heap.size) :
    Calls Tryz.prog 31 #[.agg #[.slice p n c, .int .i64 ck]] w fun e w' => e = .returned (.tuple #[]) ∧ SpG B w w' := by
  unfold maxLen at hn
  have hA := SpG.of_below (alloc_below w (Obj.cells #[.slice p n c, .int .i64 ck] 42)) hB
  have hX := Blk.new w #[.slice p n c, .int .i64 ck] 42
  go_enter Tryz.func31, Tryz.ntmps31
  go_upto_region 1 with fail
  generalize w.alloc (Obj.cells #[.slice p n c, .int .i64 ck] 42) = W at *
  have x0 := hX.is 0 rfl
  have HA := hidE hA
  have HS := hidE (h.sp hA)
  clear h hA hX
  go_wp2_with fail
  go_loopw [2] (fun t2 wr => ∃ i : Nat, i ≤ n ∧ t2 = .int .i64 i ∧ SpG B W wr) (fun t2 _ => n - (intOf t2).toNat)
  case atStart => exact ⟨0, Nat.zero_le _, rfl, SpG.refl _ _⟩
  case round =>
    obtain ⟨i, hi, rfl, hs⟩ := hrel
    have y0 := hs.cellS x0
    rcases Nat.lt_or_ge i n with hlt | hge
    · have hi1 : (i : Int) < (n : Int) := by omega
      rcases HS.out.sp hs with e0 | ⟨b, o, rfl, hb, hbl, hc⟩
      · omega
      obtain ⟨⟨d, c0⟩, _, hf⟩ := hc i hlt
      have HN := hidE (hs.trans (SpG.set (y := -7) c0 hb))
      clear hc hs x0
      go_wp2_with fail
      go_roundw
      case rel => exact ⟨i + 1, hlt, by go_num, HN.out⟩
      case measure => simp [intOf]; omega
    · have hi1 : ¬ ((i : Int) < (n : Int)) := by omega
      have HN := hidE (HA.out.trans hs)
      clear hs
      go_wp2_with fail
      go_end0
      exact ⟨rfl, HN.out⟩

set_option maxRecDepth 100000 in
set_option maxHeartbeats 1000000 in
theorem spoilAtoms_ok (B n c : Nat) (p : Option Addr) (w : World) (h : ShA w B p n) (hn : n ≤ maxLen) (hB : B ≤ w.heap.size) :
    Calls Tryz.prog 30 #[.slice p n c] w fun e w' => e = .returned (.tuple #[]) ∧ SpG B w w' := by
  unfold maxLen at hn
  have HS := hidE h
  clear h
  go_enter Tryz.func30, Tryz.ntmps30
  go_wp2_with fail
  go_loopw [2] (fun t2 wr => ∃ i : Nat, i ≤ n ∧ t2 = .int .i64 i ∧ SpG B w wr) (fun t2 _ => n - (intOf t2).toNat)
  case atStart => exact ⟨0, Nat.zero_le _, rfl, SpG.refl _ _⟩
  case round =>
    obtain ⟨i, hi, rfl, hs⟩ := hrel
    rcases Nat.lt_or_ge i n with hlt | hge
    · have hi1 : (i : Int) < (n : Int) := by omega
      rcases HS.out.sp hs with e0 | ⟨b, o, rfl, hb, hc⟩
      · omega
      obtain ⟨q, m, cc, c0, ⟨x, c1⟩, ⟨y, c2⟩, hf, hS, hm⟩ := hc i hlt
      have HM := hidE (spoilMark_ok B m cc q x wr hS hm (Nat.le_trans hB hs.1.size))
      have HB := hidE (fun w1 (hs1 : SpG B wr w1) => (⟨hs1.cellI c2, (hs1.frozen c2).trans hf⟩ : (∃ z, w1.cell? ⟨b, o + i * 3 + 2, none⟩ = some (.int .u8 z)) ∧ w1.frozen? ⟨b, o + i * 3 + 2, none⟩ = false))
      have HQ := hidE hs
      clear hc hS hf c2 hs
      go_upto_region 4 with (go_at_call 31; refine HM.out.mono ?_; rintro e w1 ⟨rfl, hs1⟩)
      obtain ⟨⟨z, d2⟩, hf2⟩ := HB.out w1 hs1
      have HN := hidE ((HQ.out.trans hs1).trans (SpG.set (y := 0) d2 hb))
      clear hs1 c0 c1
      go_wp2_with fail
      go_roundw
      case rel => exact ⟨i + 1, hlt, by go_num, HN.out⟩
      case measure => simp [intOf]; omega
    · have hi1 : ¬ ((i : Int) < (n : Int)) := by omega
      have HN := hidE hs
      clear hs
      go_wp2_with fail
      go_end0
      exact ⟨rfl, HN.out⟩
end Go.Proofs.YtnhjebdlcbhkcaeGreat

namespace Go.Proofs.YtnhjebdlcbhkcaeGreat
open Go.RowKit

set_option maxRecDepth 100000 in
set_option maxHeartbeats 1000000 in
theorem spoilDeeds_ok (B n c : Nat) (p : Option Addr) (w : World) (h : ShD w B p n) (hn : n ≤ maxLen) (hB : B ≤ w.heap.size) :
    Calls Tryz.prog 33 #[.slice p n c] w fun e w' => e = .returned (.tuple #[]) ∧ SpG B w w' := by
  unfold maxLen at hn
  have HS := hidE h
  clear h
  go_enter Tryz.func33, Tryz.ntmps33
  go_wp2_with fail
  go_loopw [2] (fun t2 wr => ∃ i : Nat, i ≤ n ∧ t2 = .int .i64 i ∧ SpG B w wr) (fun t2 _ => n - (intOf t2).toNat)
  case atStart => exact ⟨0, Nat.zero_le _, rfl, SpG.refl _ _⟩
  case round =>
    obtain ⟨i, hi, rfl, hs⟩ := hrel
    rcases Nat.lt_or_ge i n with hlt | hge
    · have hi1 : (i : Int) < (n : Int) := by omega
      rcases HS.out.sp hs with e0 | ⟨b, o, rfl, hb, hc⟩
      · omega
      obtain ⟨q, m, cc, t, q', m', cc', ⟨x0, c0⟩, c1, ⟨x2, c2⟩, _, c4, ⟨x5, c5⟩, _, hf, hS, hS', hm, hm'⟩ := hc i hlt
      have hBr := Nat.le_trans hB hs.1.size
      have HM := hidE (spoilMark_ok B m' cc' q' x5 wr hS' hm' hBr)
      have HK := hidE (fun w1 (hs1 : SpG B wr w1) x => spoilMark_ok B m cc q x w1 (hS.sp hs1) hm (Nat.le_trans hBr hs1.1.size))
      have H1 := hidE (fun w1 (hs1 : SpG B wr w1) => (⟨hs1.cellS c1, hs1.cellI c2⟩ : w1.cell? ⟨b, o + i * 7 + 1, none⟩ = some (.slice q m cc) ∧ (∃ z, w1.cell? ⟨b, o + i * 7 + 2, none⟩ = some (.int .i64 z))))
      have H2 := hidE (fun w1 (hs1 : SpG B wr w1) => (⟨hs1.cellI c0, (hs1.frozen c0).trans hf⟩ : (∃ z, w1.cell? ⟨b, o + i * 7, none⟩ = some (.int .i64 z)) ∧ w1.frozen? ⟨b, o + i * 7, none⟩ = false))
      have HQ := hidE hs
      clear hc hS hS' hf c0 c1 c2 hs
      go_upto_region 4 with (go_at_call 31; refine HM.out.mono ?_; rintro e w1 ⟨rfl, hs1⟩)
      obtain ⟨d1, z2, d2⟩ := H1.out w1 hs1
      have HK1 := hidE (HK.out w1 hs1 z2)
      have HS1 := hidE hs1
      clear hs1 c4 c5
      go_upto_region 5 with (go_at_call 31; refine HK1.out.mono ?_; rintro e w2 ⟨rfl, hs2⟩)
      have hs3 := HS1.out.trans hs2
      obtain ⟨⟨z, f2⟩, hf2⟩ := H2.out w2 hs3
      have HN := hidE ((HQ.out.trans hs3).trans (SpG.set (y := -7) f2 hb))
      clear hs2 hs3 d1 d2
      go_wp2_with fail
      go_roundw
      case rel => exact ⟨i + 1, hlt, by go_num, HN.out⟩
      case measure => simp [intOf]; omega
    · have hi1 : ¬ ((i : Int) < (n : Int)) := by omega
      have HN := hidE hs
      clear hs
      go_wp2_with fail
      go_end0
      exact ⟨rfl, HN.out⟩

set_option maxRecDepth 100000 in
set_option maxHeartbeats 1000000 in
theorem spoilState_ok (B n c m d : Nat) (p q : Option Addr) (w : World) (h : ShA w B p n) (h' : ShM w B q m) (hn : n ≤ maxLen) (hm : m ≤ maxLen) (hB : B ≤ w.heap.size) :
    Calls Tryz.prog 29 #[.agg #[.slice p n c, .slice q m d]] w fun e w' => e = .returned (.tuple #[]) ∧ SpG B w w' := by
  have hA := SpG.of_below (alloc_below w (Obj.cells #[.slice p n c, .slice q m d] 25)) hB
  have hX := Blk.new w #[.slice p n c, .slice q m d] 25
  go_enter Tryz.func29, Tryz.ntmps29
  go_upto_region 1 with fail
  generalize w.alloc (Obj.cells #[.slice p n c, .slice q m d] 25) = W at *
  have x0 := hX.is 0 rfl
  have x1 := hX.is 1 rfl
  have HM := hidE (spoilAtoms_ok B n c p W (h.sp hA) hn (Nat.le_trans hB hA.1.size))
  have HS := hidE (h'.sp hA)
  have HA := hidE hA
  unfold maxLen at hm
  clear h h' hA hX
  go_upto_region 2 with (go_at_call 30; refine HM.out.mono ?_; rintro e w1 ⟨rfl, hs1⟩)
  have HS1 := hidE (HS.out.sp hs1)
  have HA1 := hidE (HA.out.trans hs1)
  have y1 := hs1.cellS x1
  clear hs1 x0 x1
  go_wp2_with fail
  go_loopw [2] (fun t2 wr => ∃ i : Nat, i ≤ m ∧ t2 = .int .i64 i ∧ SpG B w1 wr) (fun t2 _ => m - (intOf t2).toNat)
  case atStart => exact ⟨0, Nat.zero_le _, rfl, SpG.refl _ _⟩
  case round =>
    obtain ⟨i, hi, rfl, hs⟩ := hrel
    have z1 := hs.cellS y1
    rcases Nat.lt_or_ge i m with hlt | hge
    · have hi1 : (i : Int) < (m : Int) := by omega
      rcases HS1.out.sp hs with e0 | ⟨b, o, rfl, hb, hc⟩
      · omega
      obtain ⟨q1, m1, cc, c0, ⟨x, c1⟩, hf, hS, hm1⟩ := hc i hlt
      have hBr := Nat.le_trans hB (Nat.le_trans HA1.out.1.size hs.1.size)
      have HK := hidE (spoilMark_ok B m1 cc q1 x wr hS hm1 hBr)
      have H2 := hidE (fun w2 (hs1 : SpG B wr w2) => (⟨hs1.cellI c1, (hs1.frozen c1).trans hf, hs1.cellS z1⟩ : (∃ z, w2.cell? ⟨b, o + i * 2 + 1, none⟩ = some (.int .i64 z)) ∧ w2.frozen? ⟨b, o + i * 2 + 1, none⟩ = false ∧ w2.cell? ⟨w.heap.size, 1, none⟩ = some (.slice (some ⟨b, o, none⟩) m d)))
      have HQ := hidE hs
      clear hc hS hf hs y1
      go_upto_region 6 with (go_at_call 31; refine HK.out.mono ?_; rintro e w2 ⟨rfl, hs2⟩)
      obtain ⟨⟨z, d1⟩, hf2, u1⟩ := H2.out w2 hs2
      have HN := hidE ((HQ.out.trans hs2).trans (SpG.set (y := -7) d1 hb))
      clear hs2 c0 c1 z1
      go_wp2_with fail
      go_roundw
      case rel => exact ⟨i + 1, hlt, by go_num, HN.out⟩
      case measure => simp [intOf]; omega
    · have hi1 : ¬ ((i : Int) < (m : Int)) := by omega
      have HN := hidE (HA1.out.trans hs)
      clear hs
      go_wp2_with fail
      go_end0
      exact ⟨rfl, HN.out⟩
end Go.Proofs.YtnhjebdlcbhkcaeGreat

namespace Go.Proofs.YtnhjebdlcbhkcaeGreat
open Go.RowKit

def chkEnd (l : List (Int × Int)) (c : Int) : Int := if l.length = 0 ∧ c = 0 then 0 else chk l c
def ends (l : List (Int × Int)) (c : Int) (m : List (Int × Int)) (d : Int) : Int := orI (chkEnd l c) (chkEnd m d)

theorem boxesE (w : World) (v0 v1 u0 u1 : Value) (T T' T2 : TypeId) : ∃ W, W = ((w.alloc (Obj.cells #[v0, v1] T)).alloc (Obj.cells #[u0, u1] T')).alloc (Obj.cells #[v0, v1, u0, u1] T2) ∧
    W.cell? ⟨w.heap.size + 1 + 1, 0, none⟩ = some v0 ∧ W.cell? ⟨w.heap.size + 1 + 1, 1, none⟩ = some v1 ∧ W.cell? ⟨w.heap.size + 1 + 1, 2, none⟩ = some u0 ∧ W.cell? ⟨w.heap.size + 1 + 1, 3, none⟩ = some u1 ∧ W.heap.size = w.heap.size + 3 ∧ Below w.heap.size w W :=
  ⟨_, rfl, by go_simp, by go_simp, by go_simp, by go_simp, by simp, (((Below.refl _ _).alloc (Nat.le_refl _) _).alloc (by simp) _).alloc (by simp; omega) _⟩

set_option maxHeartbeats 1000000 in
theorem checkEnds_any (a a' : Option Addr) (cap cap' : Nat) (l m : List (Int × Int)) (c d : Int) (w : World) (hl : l.length ≤ maxLen) (hm : m.length ≤ maxLen) (h : StepsAt w a l) (h' : StepsAt w a' m) :
    Calls Tryz.prog 142 #[.agg #[.slice a l.length cap, .int .i64 c], .agg #[.slice a' m.length cap', .int .i64 d]] w fun e w' => e = .returned (.int .i64 (ends l c m d)) ∧ Below w.heap.size w w' := by
  obtain ⟨W, hW, q0, q1, q2, q3, hz, hb0⟩ := boxesE w (.slice a l.length cap) (.int .i64 c) (.slice a' m.length cap') (.int .i64 d) 42 42 42
  have HW := hidE hW
  have HQ := hidE (And.intro q0 (And.intro q1 (And.intro q2 q3)))
  clear hW q0 q1 q2 q3
  go_enter Tryz.func142, Tryz.ntmps142
  go_wp2
  rw [← HW.out]
  obtain ⟨q0, q1, q2, q3⟩ := HQ.out
  clear HW HQ
  have zW : w.heap.size + 1 + 1 < W.heap.size := by omega
  clear hz
  go_loopw [12] (fun i wr => ∃ k : Nat, k ≤ 2 ∧ i = .int .i64 k ∧ (1 ≤ k → chkEnd l c = 0) ∧ (2 ≤ k → chkEnd m d = 0) ∧ Below W.heap.size W wr) (fun i _ => 2 - (intOf i).toNat)
  case atStart => exact ⟨0, by omega, rfl, by omega, by omega, Below.refl _ _⟩
  case round =>
    obtain ⟨k, hk, rfl, k1, k2, hb⟩ := hrel
    have hbw : Below w.heap.size w wr := hb0.thru hb hb0.size
    have p0 := (hb.cell (p := ⟨w.heap.size + 1 + 1, 0, none⟩) zW).trans q0
    have p1 := (hb.cell (p := ⟨w.heap.size + 1 + 1, 1, none⟩) zW).trans q1
    have p2 := (hb.cell (p := ⟨w.heap.size + 1 + 1, 2, none⟩) zW).trans q2
    have p3 := (hb.cell (p := ⟨w.heap.size + 1 + 1, 3, none⟩) zW).trans q3
    have hr := h.below hbw (Nat.le_refl _)
    have hr' := h'.below hbw (Nat.le_refl _)
    have K1 := hidE k1
    have K2 := hidE k2
    clear k1 k2 q0 q1 q2 q3
    rcases (show k = 0 ∨ k = 1 ∨ k = 2 by omega) with rfl | rfl | rfl
    · by_cases hn : l.length = 0 ∧ c = 0
      · have HN : Hid (chkEnd l c = 0) := by show _ = _; unfold chkEnd; rw [if_pos hn]
        obtain ⟨hn0, hc0⟩ := hn
        have hn0' : ((l.length : Int) == 0) = true := by rw [hn0]; rfl
        have hc0' : ((c : Int) == 0) = true := by rw [hc0]; rfl
        clear hn0 hc0
        go_wp2
        go_roundw
        case rel => exact ⟨1, by omega, by go_num, fun _ => HN.out, by omega, hb.alloc hb.size _⟩
        case measure => simp [intOf]
      · have HN : Hid (chkEnd l c = chk l c) := by show _ = _; unfold chkEnd; rw [if_neg hn]
        have hg : (((l.length : Int) == 0) = false ∧ l.length ≠ 0) ∨ ((l.length : Int) == 0) = true ∧ (c == 0) = false := by
          by_cases e : l.length = 0
          · right; exact ⟨by rw [e]; rfl, beq_eq_false_iff_ne.2 (fun e2 => hn ⟨e, e2⟩)⟩
          · left; exact ⟨beq_eq_false_iff_ne.2 (by omega), e⟩
        clear hn
        by_cases hk : chk l c = 0
        · have HK := hidE hk
          clear hk
          rcases hg with ⟨g0, _⟩ | ⟨g0, g1⟩
          all_goals
            go_wp2_with (go_at_call 60; refine (check_any _ _ l _ _ hl (by exact hr.below ((Below.refl _ _).alloc (Nat.le_refl _) _) (Nat.le_refl _))).mono ?_; rintro e w' ⟨rfl, hb1⟩; rw [HK.out])
            go_roundw
            case rel => exact ⟨1, by omega, by go_num, fun _ => HN.out.trans HK.out, by omega, (hb.alloc hb.size _).thru hb1 (by have := hb.size; simp; omega)⟩
            case measure => simp [intOf]
        · have hk' : (chk l c != 0) = true := by rw [bne_iff_ne]; exact hk
          have HK := hidE hk
          clear hk
          rcases hg with ⟨g0, _⟩ | ⟨g0, g1⟩
          all_goals
            go_wp2_with (go_at_call 60; refine (check_any _ _ l _ _ hl (by exact hr.below ((Below.refl _ _).alloc (Nat.le_refl _) _) (Nat.le_refl _))).mono ?_; rintro e w' ⟨rfl, hb1⟩)
            go_ret
            exact ⟨ret_int (by unfold ends orI; rw [HN.out, if_neg HK.out]), (hbw.alloc hbw.size _).thru hb1 (by have := hbw.size; simp; omega)⟩
    · by_cases hn : m.length = 0 ∧ d = 0
      · have HN : Hid (chkEnd m d = 0) := by show _ = _; unfold chkEnd; rw [if_pos hn]
        obtain ⟨hn0, hc0⟩ := hn
        have hn0' : ((m.length : Int) == 0) = true := by rw [hn0]; rfl
        have hc0' : ((d : Int) == 0) = true := by rw [hc0]; rfl
        clear hn0 hc0
        go_wp2
        go_roundw
        case rel => exact ⟨2, by omega, by go_num, fun _ => K1.out (Nat.le_refl _), fun _ => HN.out, hb.alloc hb.size _⟩
        case measure => simp [intOf]
      · have HN : Hid (chkEnd m d = chk m d) := by show _ = _; unfold chkEnd; rw [if_neg hn]
        have hg : (((m.length : Int) == 0) = false ∧ m.length ≠ 0) ∨ ((m.length : Int) == 0) = true ∧ (d == 0) = false := by
          by_cases e : m.length = 0
          · right; exact ⟨by rw [e]; rfl, beq_eq_false_iff_ne.2 (fun e2 => hn ⟨e, e2⟩)⟩
          · left; exact ⟨beq_eq_false_iff_ne.2 (by omega), e⟩
        clear hn
        by_cases hk : chk m d = 0
        · have HK := hidE hk
          clear hk
          rcases hg with ⟨g0, _⟩ | ⟨g0, g1⟩
          all_goals
            go_wp2_with (go_at_call 60; refine (check_any _ _ m _ _ hm (by exact hr'.below ((Below.refl _ _).alloc (Nat.le_refl _) _) (Nat.le_refl _))).mono ?_; rintro e w' ⟨rfl, hb1⟩; rw [HK.out])
            go_roundw
            case rel => exact ⟨2, by omega, by go_num, fun _ => K1.out (Nat.le_refl _), fun _ => HN.out.trans HK.out, (hb.alloc hb.size _).thru hb1 (by have := hb.size; simp; omega)⟩
            case measure => simp [intOf]
        · have hk' : (chk m d != 0) = true := by rw [bne_iff_ne]; exact hk
          have HK := hidE hk
          clear hk
          rcases hg with ⟨g0, _⟩ | ⟨g0, g1⟩
          all_goals
            go_wp2_with (go_at_call 60; refine (check_any _ _ m _ _ hm (by exact hr'.below ((Below.refl _ _).alloc (Nat.le_refl _) _) (Nat.le_refl _))).mono ?_; rintro e w' ⟨rfl, hb1⟩)
            go_ret
            exact ⟨ret_int (by unfold ends orI; rw [if_pos (K1.out (Nat.le_refl _)), HN.out]), (hbw.alloc hbw.size _).thru hb1 (by have := hbw.size; simp; omega)⟩
    · have e1 := K1.out (by omega)
      have e2 := K2.out (by omega)
      have HE : Hid (ends l c m d = 0) := by show _ = _; unfold ends orI; rw [if_pos e1, e2]
      clear e1 e2
      go_wp2
      go_ret
      exact ⟨ret_int HE.out.symm, hbw⟩
end Go.Proofs.YtnhjebdlcbhkcaeGreat
