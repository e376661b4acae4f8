/- Contracts of slices.Grow and slices.Concat at edits. -/
import Derived.Test.YtnhjebdlcbhkcadRevE
import Derived.Lib.AppendZeros
import Derived.Laws.AppendOwnNone
namespace Go.Proofs.Ytnhjebdlcbhkcad
open Go.RowKit

theorem wpList_append_two {P : Program} {w : World} {ops : Array Oper} {rest : List Oper} {o : Oper} {a : Act} {Q : Exit → Act → World → Prop} (hgd : o.guard = none) (s x : Operand) (t : TypeId)
    (ho : o.op = .call { callee := .builtin .append, args := #[s, x], argTypes := #[t, t] })
    (base : Nat) (e : TypeId) (i : TypeInfo) (z : Value) (size bytes : Nat) (ht : P.underlying t = some (.slice e)) (hi : P.info? e = some i) (hz : i.zero = some z)
    (hsize : i.size = size) (hby : i.bytes = bytes) (hzs : z.cells.size = size) (hsz : 0 < size)
    (v : Value) (n : Nat) (xs : List Value) (hs : a.eval s = v) (hown : w.ownsRow base e size v n xs)
    (p : Option Addr) (m c : Nat) (news : List Value) (hx : a.eval x = .slice p m c) (hp : (p = none ∧ m = 0 ∧ c = 0 ∧ news = []) ∨ ∃ ad, p = some ad ∧ news.length = m * size ∧ ∀ j u, news[j]? = some u → w.cell? (ad.add j) = some u) (h1 : ∀ u ∈ news, u.oneCell' = true)
    (h63 : n + m ≤ maxLen) (hbytes : (n + m) * bytes ≤ 140737488355328) (hbase : base ≤ w.heap.size)
    (h : ∀ v' w', w'.ownsRow base e size v' (n + m) (xs ++ news) → w.grownBy w' v.ownBlock → wpList P ops Q rest (a.put o.dst v') w') : wpList P ops Q (o :: rest) a w := by
  rcases hp with ⟨rfl, rfl, rfl, rfl⟩ | ⟨ad, rfl, hl, hn⟩
  · refine wpList_append_own_none hgd s x t ho base e i size ht hi v n xs hs hown hx ?_
    exact h v w (by rw [List.append_nil]; exact hown) ⟨rfl, rfl, rfl, Nat.le_refl _, fun _ _ _ => rfl⟩
  · exact wpList_append_own w hgd s x t ho base e i z size bytes ht hi hz hsize hby hzs hsz v n xs hs hown ad m c news hx hl hn h1 h63 hbytes hbase fun v' w' a1 a2 _ => h v' w' a1 a2

set_option maxRecDepth 100000 in
set_option maxHeartbeats 1000000 in
theorem growNilE (n : Nat) (w : World) (hn : n ≤ 2000) :
    Calls Try.prog 95 #[.slice none 0 0, .int .i64 n] w fun e w' => ∃ v, e = .returned v ∧ w'.ownsRow w.heap.size 45 4 v 0 [] ∧ Below w.heap.size w w' := by
  rcases Nat.eq_zero_or_pos n with rfl | h0
  · go_enter Try.func95, Try.ntmps95
    go_wp2_with fail
    go_ret
    exact ⟨_, rfl, ⟨rfl, Or.inl ⟨rfl, rfl⟩⟩, by first | exact Below.refl _ _ | exact (Below.refl _ _).drew⟩
  obtain ⟨i0, hi, hz0, hz1, hz2⟩ := Try.info45
  have hrz : ∀ ty, _ := fun ty => Lib.run_append_nil_zeros (P := Try.prog) w 37 3 ty 45 i0 _ .i64 .i64 Try.underlying37 Try.underlying3 hi hz0 n h0 (by rw [hz1]; decide) (by omega) (by rw [hz2]; omega)
  have hcap := grownCap_ge w n 0 45
  have hcapm := grownCap_le_maxLen w n 0 45 (by unfold maxLen; omega)
  generalize grownCap w n 0 45 = G at hrz hcap hcapm
  have hcapm' : G ≤ 9223372036854775807 := by unfold maxLen at hcapm; exact hcapm
  go_enter Try.func95, Try.ntmps95
  go_wp2_with (at_builtin; refine Lib.wpList_append_run _ rfl _ _ _ _ rfl _ _ rfl rfl _ _ (hrz _) ?_)
  go_ret
  refine ⟨.slice (some ⟨w.heap.size, 0, none⟩) 0 G, rfl, (World.ownsRow_made w _ G (Nat.le_refl _) hcapm ?_).drew, ((Below.refl _ _).alloc (Nat.le_refl _) _).drew⟩
  simp only [Array.size_append, size_zeroCells, List.size_toArray, List.length_cons, List.length_nil]
  omega

theorem EdsAt.src {w : World} {p : Option Addr} {c : Nat} {l : List Ed} (h : EdsAt w p c l) : (p = none ∧ l.length = 0 ∧ c = 0 ∧ flatE l = []) ∨ ∃ ad, p = some ad ∧ (flatE l).length = l.length * 4 ∧ ∀ j u, (flatE l)[j]? = some u → w.cell? (ad.add j) = some u := by
  rcases h with ⟨rfl, rfl, rfl⟩ | ⟨g, e, hg, hc⟩
  · exact Or.inl ⟨rfl, rfl, rfl, rfl⟩
  · exact Or.inr ⟨_, e, flatE_len l, fun j u hj => by rw [Addr.add_lit, Nat.zero_add]; exact hc j u hj⟩

set_option maxRecDepth 100000 in
set_option maxHeartbeats 2000000 in
theorem concatE_any (B c c' : Nat) (p p' : Option Addr) (l m : List Ed) (w : World) (hl : l.length ≤ 1000) (hm : m.length ≤ 1000) (hB : B < w.heap.size)
   (h0 : w.cell? ⟨B, 0, none⟩ = some (.slice p l.length c)) (h1 : w.cell? ⟨B, 1, none⟩ = some (.slice p' m.length c'))
   (hs : EdsAt w p c l) (hs' : EdsAt w p' c' m) :
    Calls Try.prog 52 #[.slice (some ⟨B, 0, none⟩) 2 2] w fun e w' => ∃ v, e = .returned v ∧ OwnsE w' w.heap.size v (l ++ m) ∧ Below w.heap.size w w' := by
  obtain ⟨i0, hi, hz0, hz1, hz2⟩ := Try.info45
  go_enter Try.func52, Try.ntmps52
  go_wp2
  go_loop [11, 3] (fun i t => ∃ k : Nat, k ≤ 2 ∧ i = .int .i64 k ∧ ∃ z : Int, t = .int .i64 z ∧ (k = 0 → z = 0) ∧ (k = 1 → z = l.length) ∧ (k = 2 → z = l.length + m.length)) (fun i _ => 2 - (intOf i).toNat)
  case atStart => exact ⟨0, by omega, rfl, 0, rfl, by omega, by omega, by omega⟩
  case round =>
    obtain ⟨k, hk, rfl, z, rfl, z0, z1, z2⟩ := hrel
    rcases (show k = 0 ∨ k = 1 ∨ k = 2 by omega) with rfl | rfl | rfl
    · have e0 := z0 rfl
      subst e0
      clear z0 z1 z2
      have e1 : ¬ ((l.length : Int) < 0) := by omega
      go_wp2
      go_round
      case rel => exact ⟨1, by omega, by go_num, _, rfl, by omega, by omega, by omega⟩
      case measure => simp [intOf]
    · have e0 := z1 rfl
      subst e0
      clear z0 z1 z2
      have e1 : ¬ ((l.length : Int) + m.length < 0) := by omega
      go_wp2
      go_round
      case rel => exact ⟨2, by omega, by go_num, _, rfl, by omega, by omega, by omega⟩
      case measure => simp [intOf]
    · have e0 := z2 rfl
      subst e0
      clear z0 z1 z2
      go_wp2_with fail
      rw [show ((l.length : Int) + m.length) = ((l.length + m.length : Nat) : Int) by omega]
      refine (growNilE (l.length + m.length) _ (by omega)).mono ?_
      rintro e w1 ⟨G, rfl, hown, hb1⟩
      go_wp2
      go_loopw [27, 6] (fun i v wr => ∃ k : Nat, k ≤ 2 ∧ i = .int .i64 k ∧ Below w.heap.size w wr ∧ ((k = 0 ∧ wr.ownsRow w.heap.size 45 4 v 0 []) ∨ (k = 1 ∧ wr.ownsRow w.heap.size 45 4 v l.length (flatE l)) ∨ (k = 2 ∧ wr.ownsRow w.heap.size 45 4 v (l.length + m.length) (flatE (l ++ m))))) (fun i _ _ => 2 - (intOf i).toNat)
      case atStart => exact ⟨0, by omega, rfl, hb1, Or.inl ⟨rfl, hown⟩⟩
      case round =>
        obtain ⟨k, hk2, rfl, hbr, hcase⟩ := hrel
        have c0 := (hbr.cell (p := ⟨B, 0, none⟩) hB).trans h0
        have c1 := (hbr.cell (p := ⟨B, 1, none⟩) hB).trans h1
        have A := hidE (hs.below hbr).src
        have A' := hidE (hs'.below hbr).src
        have HB := hidE hbr
        have hge := hbr.size
        clear hbr
        rcases hcase with ⟨rfl, hown1⟩ | ⟨rfl, hown1⟩ | ⟨rfl, hown1⟩
        · go_wp2_with (at_builtin; refine wpList_append_two rfl _ _ 37 rfl w.heap.size 45 i0 (.agg #[.int .i64 0, .int .i64 0, .int .i64 0, .string ⟨#[]⟩]) 4 40 Try.underlying37 hi hz0 hz1 hz2 rfl (by decide) _ _ _ rfl hown1 p l.length c (flatE l) rfl A.out ?qc3 ?qc4 ?qc5 ?qc6 ?_)
          case qc3 => exact flatE_one l
          case qc4 => unfold maxLen; omega
          case qc5 => omega
          case qc6 => exact hge
          intro v' w2 hown2 hgrow
          go_wp2
          go_roundw
          case rel =>
            refine ⟨1, by omega, by go_num, HB.out.grown hgrow hge (fun k hk => (hown1.lt k hk).1), Or.inr (Or.inl ⟨rfl, by simpa using hown2⟩)⟩
          case measure => simp [intOf]
        · go_wp2_with (at_builtin; refine wpList_append_two rfl _ _ 37 rfl w.heap.size 45 i0 (.agg #[.int .i64 0, .int .i64 0, .int .i64 0, .string ⟨#[]⟩]) 4 40 Try.underlying37 hi hz0 hz1 hz2 rfl (by decide) _ _ _ rfl hown1 p' m.length c' (flatE m) rfl A'.out ?qc3 ?qc4 ?qc5 ?qc6 ?_)
          case qc3 => exact flatE_one m
          case qc4 => unfold maxLen; omega
          case qc5 => omega
          case qc6 => exact hge
          intro v' w2 hown2 hgrow
          go_wp2
          go_roundw
          case rel =>
            refine ⟨2, by omega, by go_num, HB.out.grown hgrow hge (fun k hk => (hown1.lt k hk).1), Or.inr (Or.inr ⟨rfl, by rw [flatE_append]; exact hown2⟩)⟩
          case measure => simp [intOf]
        · go_wp2
          go_ret
          refine ⟨_, rfl, ?_, HB.out⟩
          unfold OwnsE
          rw [List.length_append]
          exact hown1
end Go.Proofs.Ytnhjebdlcbhkcad
