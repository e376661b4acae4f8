/- Contract of slices.Reverse at edits. -/
import Derived.Test.YtnhjebdlcbhkcaeGreatDSign
import Derived.Test.YtnhjebdlcbhkcaeGreatDTab
import Derived.Shelf.SlicesQ.Reverse
import Derived.Ground.SlgnProg
import Derived.Lib.AppendZeros
import Derived.Laws.AppendOwnNone
import Derived.Test.YtnhjebdlcbhkcaeGreatDWalk
import Derived.Test.YtnhjebdlcbhkcaeGreatEditP
namespace Go.Proofs.YtnhjebdlcbhkcaeGreat
open Go.RowKit Go.Shelf Go.Lib

shelf_lay_g SlLaysE0.n35 Slgn 35 at Tryz 94 as reverseEd
instance : Inhabited Ed := ⟨⟨0, 0, 0, ⟨#[]⟩⟩⟩

theorem flatE_cons (e : Ed) (l : List Ed) : flatE (e :: l) = edCells e ++ flatE l := by unfold flatE; simp
theorem flatE_at : ∀ (l : List Ed) (t : Nat), t < l.length * 4 → (flatE l)[t]? = some ((edCells l.toArray[t / 4]!)[t % 4]!)
  | [], t, h => by simp at h
  | e :: l, t, h => by
    rw [flatE_cons]
    rcases Nat.lt_or_ge t 4 with h4 | h4
    · rw [List.getElem?_append_left (by simpa [edCells] using h4)]
      rcases (show t = 0 ∨ t = 1 ∨ t = 2 ∨ t = 3 by omega) with rfl | rfl | rfl | rfl <;> rfl
    · rw [List.getElem?_append_right (by simpa [edCells] using h4)]
      have hl : (edCells e).length = 4 := rfl
      rw [hl]
      simp only [List.length_cons] at h
      rw [flatE_at l (t - 4) (by omega)]
      have e1 : t / 4 = (t - 4) / 4 + 1 := by omega
      have e2 : t % 4 = (t - 4) % 4 := by omega
      rw [e1, e2]
      congr 3
      have h5 : (t - 4) / 4 < l.length := by omega
      rw [getElem!_pos _ _ (by simpa using h5), getElem!_pos _ _ (by simpa using h5)]
      simp

theorem flatK_E (l : List Ed) {j : Nat} (hj : j < l.length * 4) : (flatE l)[j]? = some ((Sort.flatK edCells 4 l.toArray)[j]!) := by
  rw [flatE_at l j hj]
  rw [Sort.get_flatK edCells 4 l.toArray j (by simpa using hj)]

theorem heap_putRow_other {α : Type} [Inhabited α] (enc : α → Value) (w : World) (blk off : Nat) (d : Array α) (k : Nat) (h : k ≠ blk) : (Sort.putRow enc w blk off d).heap[k]? = w.heap[k]? := by
  unfold Sort.putRow Sort.mapBlock
  rw [Array.getElem?_modify]
  rw [if_neg (fun e => h e.symm)]

def EdsAt (w : World) (p : Option Addr) (c : Nat) (l : List Ed) : Prop := (p = none ∧ l = [] ∧ c = 0) ∨ ∃ g, p = some ⟨g, 0, none⟩ ∧ g < w.heap.size ∧ ∀ j u, (flatE l)[j]? = some u → w.cell? ⟨g, j, none⟩ = some u
theorem EdsAt.below {w w' : World} {p : Option Addr} {c : Nat} {l : List Ed} (h : EdsAt w p c l) (hb : Below w.heap.size w w') : EdsAt w' p c l := by
  rcases h with h | ⟨g, e, hg, hc⟩
  · exact Or.inl h
  · exact Or.inr ⟨g, e, Nat.lt_of_lt_of_le hg hb.size, fun j u hj => (hb.cell (p := ⟨g, j, none⟩) hg).trans (hc j u hj)⟩

theorem OwnsE.eds {w : World} {base : Nat} {p : Option Addr} {n c : Nat} {l : List Ed} (h : OwnsE w base (.slice p n c) l) : EdsAt w p c l := by
  rcases h.2 with ⟨e, hn⟩ | ⟨g, cap, cur, e, _, hh, _⟩
  · injection e with e1 e2 e3
    exact Or.inl ⟨e1, List.eq_nil_of_length_eq_zero hn, e3⟩
  · injection e with e1 e2 e3
    subst e1
    exact Or.inr ⟨g, rfl, (Array.getElem?_eq_some_iff.1 hh).1, fun j u hj => by have := World.ownsRow.cells h (g := g) (by subst e2 e3; rfl) j u hj; rwa [Addr.add_lit, Nat.zero_add] at this⟩

set_option maxRecDepth 100000 in
theorem revE_any (base : Nat) (p : Option Addr) (c : Nat) (l : List Ed) (w : World) (h : OwnsE w base (.slice p l.length c) l) (hl : l.length ≤ 1000) :
    Calls Tryz.prog 94 #[.slice p l.length c] w fun e w' => e = .returned (.tuple #[]) ∧ EdsAt w' p c l.reverse ∧ w'.os = w.os ∧ w'.tape = w.tape ∧ w'.output = w.output ∧ w'.heap.size = w.heap.size ∧ (∀ k, p.map Addr.block ≠ some k → w'.heap[k]? = w.heap[k]?) ∧ (∀ a, w'.frozen? a = w.frozen? a) := by
  rcases h.2 with ⟨e0, hn⟩ | ⟨g, cap, cur, e0, hb, hh, _⟩
  · injection e0 with e1 e2 e3
    subst e1 e3
    have hl0 : l = [] := List.eq_nil_of_length_eq_zero hn
    subst hl0
    refine (AnyQ.slices_Reverse_empty reverseEd none 0 w).mono ?_
    rintro e w' ⟨rfl, n, rfl⟩
    exact ⟨rfl, Or.inl ⟨rfl, rfl, rfl⟩, rfl, rfl, rfl, rfl, fun _ _ => rfl, fun _ => rfl⟩
  · injection e0 with e1 e2 e3
    subst e1 e3
    have hc := World.ownsRow.cells h (g := g) rfl
    have hH : Sort.HoldsK edCells 4 w g 0 l.toArray := by
      intro j hj
      have hj' : j < l.length * 4 := by simpa using hj
      refine ⟨?_, by simp [World.frozen?, hh]⟩
      have := hc j _ (flatK_E l hj')
      rw [Addr.add_lit] at this
      exact this
    have HR := AnyQ.slices_Reverse reverseEd 4 Tryz.isAgg66 Tryz.sizeOf66 edCells (fun _ => rfl) (fun x v hv => flatE_one [x] v (by simpa [flatE] using hv)) g 0 c l.toArray w hH (by simp; omega)
    rw [List.size_toArray] at HR
    refine HR.mono ?_
    rintro e w' ⟨rfl, n, rfl⟩
    have hH2 := Sort.holdsK_putRowK edCells 4 (Sort.ahead w n) g 0 l.toArray l.reverse.toArray (Sort.holdsK_ahead edCells 4 w n g 0 l.toArray hH) (by rw [List.size_toArray, List.size_toArray, List.length_reverse])
    rw [List.reverse_toArray]
    refine ⟨rfl, Or.inr ⟨g, rfl, ?_, fun j u hj => ?_⟩, rfl, rfl, rfl, ?_, fun k hk => ?_, fun a => ?_⟩
    · show g < (Sort.putRow id (Sort.ahead w n) g 0 _).heap.size
      rw [Sort.size_putRow]; exact (Array.getElem?_eq_some_iff.1 hh).1
    · have hj2 : j < l.reverse.length * 4 := by
        have := (List.getElem?_eq_some_iff.1 hj).1
        rwa [flatE_len] at this
      rw [flatK_E _ hj2] at hj
      injection hj with hj
      subst hj
      have := (hH2 j (by simpa using hj2)).1
      rw [Nat.zero_add] at this
      exact this
    · show (Sort.putRow id (Sort.ahead w n) g 0 _).heap.size = _
      rw [Sort.size_putRow]; rfl
    · exact heap_putRow_other id _ g 0 _ k (fun e => hk (by rw [e]; rfl))
    · show (Sort.putRow id (Sort.ahead w n) g 0 _).frozen? a = _
      rw [Sort.frozen?_putRow]; rfl
end Go.Proofs.YtnhjebdlcbhkcaeGreat

namespace Go.Proofs.YtnhjebdlcbhkcaeGreat
open Go.RowKit

theorem wpList_append_two {P : Program} {w : World} {ops : Array Oper} {rest : List Oper} {o : Oper} {a : Act} {Q : Exit → Act → World → Prop} (hgd : o.guard = none) (s x : Operand) (t : TypeId)
    (ho : o.op = .call { callee := .builtin .append, args := #[s, x], argTypes := #[t, t] })
    (base : Nat) (e : TypeId) (i : TypeInfo) (z : Value) (size bytes : Nat) (ht : P.underlying t = some (.slice e)) (hi : P.info? e = some i) (hz : i.zero = some z)
    (hsize : i.size = size) (hby : i.bytes = bytes) (hzs : z.cells.size = size) (hsz : 0 < size)
    (v : Value) (n : Nat) (xs : List Value) (hs : a.eval s = v) (hown : w.ownsRow base e size v n xs)
    (p : Option Addr) (m c : Nat) (news : List Value) (hx : a.eval x = .slice p m c) (hp : (p = none ∧ m = 0 ∧ c = 0 ∧ news = []) ∨ ∃ ad, p = some ad ∧ news.length = m * size ∧ ∀ j u, news[j]? = some u → w.cell? (ad.add j) = some u) (h1 : ∀ u ∈ news, u.oneCell' = true)
    (h63 : n + m ≤ maxLen) (hbytes : (n + m) * bytes ≤ 140737488355328) (hbase : base ≤ w.heap.size)
    (h : ∀ v' w', w'.ownsRow base e size v' (n + m) (xs ++ news) → w.grownBy w' v.ownBlock → wpList P ops Q rest (a.put o.dst v') w') : wpList P ops Q (o :: rest) a w := by
  rcases hp with ⟨rfl, rfl, rfl, rfl⟩ | ⟨ad, rfl, hl, hn⟩
  · refine wpList_append_own_none hgd s x t ho base e i size ht hi v n xs hs hown hx ?_
    exact h v w (by rw [List.append_nil]; exact hown) ⟨rfl, rfl, rfl, Nat.le_refl _, fun _ _ _ => rfl⟩
  · exact wpList_append_own w hgd s x t ho base e i z size bytes ht hi hz hsize hby hzs hsz v n xs hs hown ad m c news hx hl hn h1 h63 hbytes hbase fun v' w' a1 a2 _ => h v' w' a1 a2

set_option maxRecDepth 100000 in
set_option maxHeartbeats 1000000 in
theorem growNilE (n : Nat) (w : World) (hn : n ≤ 2000) :
    Calls Tryz.prog 172 #[.slice none 0 0, .int .i64 n] w fun e w' => ∃ v, e = .returned v ∧ w'.ownsRow w.heap.size 66 4 v 0 [] ∧ Below w.heap.size w w' := by
  rcases Nat.eq_zero_or_pos n with rfl | h0
  · go_enter Tryz.func172, Tryz.ntmps172
    go_wp2_with fail
    go_ret
    exact ⟨_, rfl, ⟨rfl, Or.inl ⟨rfl, rfl⟩⟩, by first | exact Below.refl _ _ | exact (Below.refl _ _).drew⟩
  obtain ⟨i0, hi, hz0, hz1, hz2⟩ := Tryz.info66
  have hrz : ∀ ty, _ := fun ty => Lib.run_append_nil_zeros (P := Tryz.prog) w 52 3 ty 66 i0 _ .i64 .i64 Tryz.underlying52 Tryz.underlying3 hi hz0 n h0 (by rw [hz1]; decide) (by omega) (by rw [hz2]; omega)
  have hcap := grownCap_ge w n 0 66
  have hcapm := grownCap_le_maxLen w n 0 66 (by unfold maxLen; omega)
  generalize grownCap w n 0 66 = G at hrz hcap hcapm
  have hcapm' : G ≤ 9223372036854775807 := by unfold maxLen at hcapm; exact hcapm
  go_enter Tryz.func172, Tryz.ntmps172
  go_wp2_with (at_builtin; refine Lib.wpList_append_run _ rfl _ _ _ _ rfl _ _ rfl rfl _ _ (hrz _) ?_)
  go_ret
  refine ⟨.slice (some ⟨w.heap.size, 0, none⟩) 0 G, rfl, (World.ownsRow_made w _ G (Nat.le_refl _) hcapm ?_).drew, ((Below.refl _ _).alloc (Nat.le_refl _) _).drew⟩
  simp only [Array.size_append, size_zeroCells, List.size_toArray, List.length_cons, List.length_nil]
  omega

theorem EdsAt.src {w : World} {p : Option Addr} {c : Nat} {l : List Ed} (h : EdsAt w p c l) : (p = none ∧ l.length = 0 ∧ c = 0 ∧ flatE l = []) ∨ ∃ ad, p = some ad ∧ (flatE l).length = l.length * 4 ∧ ∀ j u, (flatE l)[j]? = some u → w.cell? (ad.add j) = some u := by
  rcases h with ⟨rfl, rfl, rfl⟩ | ⟨g, e, hg, hc⟩
  · exact Or.inl ⟨rfl, rfl, rfl, rfl⟩
  · exact Or.inr ⟨_, e, flatE_len l, fun j u hj => by rw [Addr.add_lit, Nat.zero_add]; exact hc j u hj⟩

set_option maxRecDepth 100000 in
set_option maxHeartbeats 2000000 in
theorem concatE_any (B c c' : Nat) (p p' : Option Addr) (l m : List Ed) (w : World) (hl : l.length ≤ 1000) (hm : m.length ≤ 1000) (hB : B < w.heap.size)
   (h0 : w.cell? ⟨B, 0, none⟩ = some (.slice p l.length c)) (h1 : w.cell? ⟨B, 1, none⟩ = some (.slice p' m.length c'))
   (hs : EdsAt w p c l) (hs' : EdsAt w p' c' m) :
    Calls Tryz.prog 95 #[.slice (some ⟨B, 0, none⟩) 2 2] w fun e w' => ∃ v, e = .returned v ∧ OwnsE w' w.heap.size v (l ++ m) ∧ Below w.heap.size w w' := by
  obtain ⟨i0, hi, hz0, hz1, hz2⟩ := Tryz.info66
  go_enter Tryz.func95, Tryz.ntmps95
  go_wp2
  go_loop [11, 3] (fun i t => ∃ k : Nat, k ≤ 2 ∧ i = .int .i64 k ∧ ∃ z : Int, t = .int .i64 z ∧ (k = 0 → z = 0) ∧ (k = 1 → z = l.length) ∧ (k = 2 → z = l.length + m.length)) (fun i _ => 2 - (intOf i).toNat)
  case atStart => exact ⟨0, by omega, rfl, 0, rfl, by omega, by omega, by omega⟩
  case round =>
    obtain ⟨k, hk, rfl, z, rfl, z0, z1, z2⟩ := hrel
    rcases (show k = 0 ∨ k = 1 ∨ k = 2 by omega) with rfl | rfl | rfl
    · have e0 := z0 rfl
      subst e0
      clear z0 z1 z2
      have e1 : ¬ ((l.length : Int) < 0) := by omega
      go_wp2
      go_round
      case rel => exact ⟨1, by omega, by go_num, _, rfl, by omega, by omega, by omega⟩
      case measure => simp [intOf]
    · have e0 := z1 rfl
      subst e0
      clear z0 z1 z2
      have e1 : ¬ ((l.length : Int) + m.length < 0) := by omega
      go_wp2
      go_round
      case rel => exact ⟨2, by omega, by go_num, _, rfl, by omega, by omega, by omega⟩
      case measure => simp [intOf]
    · have e0 := z2 rfl
      subst e0
      clear z0 z1 z2
      go_wp2_with fail
      rw [show ((l.length : Int) + m.length) = ((l.length + m.length : Nat) : Int) by omega]
      refine (growNilE (l.length + m.length) _ (by omega)).mono ?_
      rintro e w1 ⟨G, rfl, hown, hb1⟩
      go_wp2
      go_loopw [27, 6] (fun i v wr => ∃ k : Nat, k ≤ 2 ∧ i = .int .i64 k ∧ Below w.heap.size w wr ∧ ((k = 0 ∧ wr.ownsRow w.heap.size 66 4 v 0 []) ∨ (k = 1 ∧ wr.ownsRow w.heap.size 66 4 v l.length (flatE l)) ∨ (k = 2 ∧ wr.ownsRow w.heap.size 66 4 v (l.length + m.length) (flatE (l ++ m))))) (fun i _ _ => 2 - (intOf i).toNat)
      case atStart => exact ⟨0, by omega, rfl, hb1, Or.inl ⟨rfl, hown⟩⟩
      case round =>
        obtain ⟨k, hk2, rfl, hbr, hcase⟩ := hrel
        have c0 := (hbr.cell (p := ⟨B, 0, none⟩) hB).trans h0
        have c1 := (hbr.cell (p := ⟨B, 1, none⟩) hB).trans h1
        have A := hidE (hs.below hbr).src
        have A' := hidE (hs'.below hbr).src
        have HB := hidE hbr
        have hge := hbr.size
        clear hbr
        rcases hcase with ⟨rfl, hown1⟩ | ⟨rfl, hown1⟩ | ⟨rfl, hown1⟩
        · go_wp2_with (at_builtin; refine wpList_append_two rfl _ _ 52 rfl w.heap.size 66 i0 (.agg #[.int .i64 0, .int .i64 0, .int .i64 0, .string ⟨#[]⟩]) 4 40 Tryz.underlying52 hi hz0 hz1 hz2 rfl (by decide) _ _ _ rfl hown1 p l.length c (flatE l) rfl A.out ?qc3 ?qc4 ?qc5 ?qc6 ?_)
          case qc3 => exact flatE_one l
          case qc4 => unfold maxLen; omega
          case qc5 => omega
          case qc6 => exact hge
          intro v' w2 hown2 hgrow
          go_wp2
          go_roundw
          case rel =>
            refine ⟨1, by omega, by go_num, HB.out.grown hgrow hge (fun k hk => (hown1.lt k hk).1), Or.inr (Or.inl ⟨rfl, by simpa using hown2⟩)⟩
          case measure => simp [intOf]
        · go_wp2_with (at_builtin; refine wpList_append_two rfl _ _ 52 rfl w.heap.size 66 i0 (.agg #[.int .i64 0, .int .i64 0, .int .i64 0, .string ⟨#[]⟩]) 4 40 Tryz.underlying52 hi hz0 hz1 hz2 rfl (by decide) _ _ _ rfl hown1 p' m.length c' (flatE m) rfl A'.out ?qc3 ?qc4 ?qc5 ?qc6 ?_)
          case qc3 => exact flatE_one m
          case qc4 => unfold maxLen; omega
          case qc5 => omega
          case qc6 => exact hge
          intro v' w2 hown2 hgrow
          go_wp2
          go_roundw
          case rel =>
            refine ⟨2, by omega, by go_num, HB.out.grown hgrow hge (fun k hk => (hown1.lt k hk).1), Or.inr (Or.inr ⟨rfl, by rw [flatE_append]; exact hown2⟩)⟩
          case measure => simp [intOf]
        · go_wp2
          go_ret
          refine ⟨_, rfl, ?_, HB.out⟩
          unfold OwnsE
          rw [List.length_append]
          exact hown1
end Go.Proofs.YtnhjebdlcbhkcaeGreat

namespace Go.Proofs.YtnhjebdlcbhkcaeGreat
open Go.RowKit

def diffE (a b : ByteArray) : Int := if 300 < a.size ∨ 300 < b.size then 2 else if allS a.data.toList = true ∧ allS b.data.toList = true then 0 else 3
def diffT (a b : ByteArray) : List (Nat × Nat) := (walkA a b 0 0).1.foldl tkR []
def diffP (a b : ByteArray) : List (Nat × List UInt8) := (walkA a b 0 0).2.foldl (ptB b) []
def diffL (a b : ByteArray) : List Ed := (diffT a b).map tkEd ++ ((diffP a b).map ptEd).reverse

theorem two_boxes (W : World) (o : Obj) (v : Value) (t : TypeId) (ho : o = .cells #[v] t) (W2 : World) (h : W2 = (W.alloc o).alloc o) : W2.cell? ⟨W.heap.size, 0, none⟩ = some v ∧ W2.cell? ⟨W.heap.size + 1, 0, none⟩ = some v ∧ W2.frozen? ⟨W.heap.size, 0, none⟩ = false ∧ W2.frozen? ⟨W.heap.size + 1, 0, none⟩ = false ∧ W2.heap.size = W.heap.size + 1 + 1 ∧ Below W.heap.size W W2 := by
  subst ho h
  have hs : (W.alloc (.cells #[v] t)).heap.size = W.heap.size + 1 := by simp
  refine ⟨?_, ?_, ?_, ?_, by simp, ((Below.refl _ _).alloc (Nat.le_refl _) _).alloc (by simp) _⟩
  · rw [World.cell?_alloc_old _ _ _ (by simp)]; simp
  · rw [← hs]; simp
  · exact (World.frozen?_alloc_old _ _ (a := ⟨W.heap.size, 0, none⟩) (by show W.heap.size ≠ _; omega)).trans (World.frozen?_alloc_new ..)
  · rw [← hs]; exact World.frozen?_alloc_new ..

theorem KeptD.toBelow {T1 T2 base base' : Nat} {w w' : World} (h : KeptD T1 T2 base w w') (hb : base' ≤ base) (h1 : base' ≤ T1) (h2 : base' ≤ T2) : Below base' w w' :=
  ⟨h.os, h.tape, h.output, h.size, fun k hk => h.block k (Nat.lt_of_lt_of_le hk hb) (by omega) (by omega)⟩

theorem OwnsE.weak {w : World} {base base' : Nat} {v : Value} {l : List Ed} (h : OwnsE w base v l) (hb : base' ≤ base) : OwnsE w base' v l := by
  refine ⟨h.1, ?_⟩
  rcases h.2 with h0 | ⟨g, cap, cur, e, hg, hr⟩
  · exact Or.inl h0
  · exact Or.inr ⟨g, cap, cur, e, Nat.le_trans hb hg, hr⟩

set_option maxRecDepth 100000 in
set_option maxHeartbeats 400000 in
theorem diff_ok (a b : ByteArray) (w : World) (ha : a.size ≤ 300) (hb : b.size ≤ 300) (hsa : allS a.data.toList = true) (hsb : allS b.data.toList = true) :
    Calls Tryz.prog 28 #[.string a, .string b] w fun e w' => ∃ v, e = .returned (.tuple #[v, .int .i64 0]) ∧ OwnsE w' w.heap.size v (diffL a b) ∧ Below w.heap.size w w' := by
  have h1 : ¬ ((a.size : Int) > 300) := by omega
  have h2 : ¬ ((b.size : Int) > 300) := by omega
  have HA := hidE hsa
  have HB := hidE hsb
  have hzc : (w.alloc (Obj.cells #[.string b] 9)).cell? ⟨w.heap.size, 0, none⟩ = some (.string b) := by simp
  have hB0 : Below w.heap.size w (w.alloc (Obj.cells #[.string b] 9)) := (Below.refl _ _).alloc (Nat.le_refl _) _
  have hs0 : (w.alloc (Obj.cells #[.string b] 9)).heap.size = w.heap.size + 1 := by simp
  clear hsa hsb
  go_enter Tryz.func28, Tryz.ntmps28
  go_upto_region 1 with fail
  generalize w.alloc (Obj.cells #[.string b] 9) = W at *
  go_upto_region 6 with (go_at_call 88; refine (signAll_any _ _ (by unfold maxLen; omega)).mono ?_; rintro e w' ⟨rfl, hw⟩; replace hw := hw.symm; subst hw; first | rw [HA.out] | rw [HB.out])
  have hTB := two_boxes W (Obj.cells #[.slice none 0 0] 52) (.slice none 0 0) 52 rfl _ rfl
  rw [hs0] at hTB
  generalize (W.alloc (Obj.cells #[.slice none 0 0] 52)).alloc (Obj.cells #[.slice none 0 0] 52) = W2 at *
  obtain ⟨b1, b2, g1, g2, hs2, hB2⟩ := hTB
  have hz2 : W2.cell? ⟨w.heap.size, 0, none⟩ = some (.string b) := (hB2.cell (p := ⟨w.heap.size, 0, none⟩) (by show w.heap.size < _; omega)).trans hzc
  have HWK := hidE (walk_ok a b (w.heap.size + 1) (w.heap.size + 1 + 1) w.heap.size W2 ha hb b1 b2 hz2 g1 g2 (by omega) (by omega) (by omega) (by omega) (by omega) (by omega))
  have HB2 := hidE (hB0.trans (⟨hB2.os, hB2.tape, hB2.output, hB2.size, fun k hk => hB2.block k (Nat.lt_succ_of_lt hk)⟩ : Below w.heap.size W W2))
  have HS2 := hidE hs2
  clear b1 b2 g1 g2 hs2 hs0 hB0 hB2 hzc
  go_upto_region 7 with (go_at_call 89; refine HWK.out.mono ?_; rintro e w2 ⟨rfl, ⟨w1, v, u, hge, hst, hsm⟩, hkd⟩)
  clear hz2 HWK
  have hk1 := hkd.toBelow (base' := w.heap.size) (by have := HS2.out; omega) (by omega) (by omega)
  have HB3 := hidE (HB2.out.trans hk1)
  clear hkd hk1 HB2
  have HD : Hid (diffL a b = (diffT a b).map tkEd ++ ((diffP a b).map ptEd).reverse) := hidE rfl
  have hlT : (diffT a b).length ≤ 1000 := Nat.le_trans hsm.tl (by omega)
  have hlP : (diffP a b).length ≤ 1000 := Nat.le_trans hsm.pl (by omega)
  change DiffSt w2 _ _ _ v u (diffT a b) (diffP a b) at hst
  obtain ⟨d1, d2, e1, e2, o1, o2, hne, l1, l2, l12, lw⟩ := hst
  clear hsm
  generalize diffT a b = RT at *
  generalize diffP a b = RP at *
  have hT : (RT.map tkEd).reverse.reverse = RT.map tkEd := List.reverse_reverse _
  have hlT' : (RT.map tkEd).reverse.length ≤ 1000 := by simpa using hlT
  have hlP' : (RP.map ptEd).reverse.length ≤ 1000 := by simpa using hlP
  rw [← hT] at HD
  clear hT hlT hlP
  generalize (RT.map tkEd).reverse = lT at *
  generalize (RP.map ptEd).reverse = lP at *
  obtain ⟨pv, cv, rfl⟩ := owns_sliceE o1
  obtain ⟨pu, cu, rfl⟩ := owns_sliceE o2
  have HRV := hidE (revE_any w1.heap.size pv cv lT w2 o1 hlT')
  have hp1 : ∀ k, k < w1.heap.size → pv.map Addr.block ≠ some k := fun k hk e => by
    cases pv with
    | none => cases e
    | some q =>
      have := (owns_ge o1 (g := q.block) rfl).1
      simp at e; omega
  have hEu : EdsAt w2 pu cu lP := o2.eds
  have hgu : pu.map Addr.block ≠ pv.map Addr.block ∨ pu = none := by
    cases pu with
    | none => exact Or.inr rfl
    | some q =>
      left; intro e
      cases pv with
      | none => cases e
      | some r => simp at e; exact hne r.block rfl (by simp [Value.ownBlock, e])
  clear hne o1 o2 e1 e2
  go_upto_region 8 with (go_at_call 94; refine HRV.out.mono ?_; rintro e w3 ⟨rfl, hE, q1, q2, q3, q4, q5, q6⟩)
  have d1' : w3.cell? ⟨w.heap.size + 1, 0, none⟩ = some (.slice pv lT.length cv) := (World.cell?_of_block (w := w2) (q5 _ (hp1 _ l1))).trans d1
  have d2' : w3.cell? ⟨w.heap.size + 1 + 1, 0, none⟩ = some (.slice pu lP.length cu) := (World.cell?_of_block (w := w2) (q5 _ (hp1 _ l2))).trans d2
  have hEu3 : EdsAt w3 pu cu lP := by
    rcases hEu with h | ⟨g, e, hg, hc⟩
    · exact Or.inl h
    · refine Or.inr ⟨g, e, by rw [q4]; exact hg, fun j u hj => (World.cell?_of_block (w := w2) (q5 g ?_)).trans (hc j u hj)⟩
      rcases hgu with h | h
      · rw [e] at h; exact fun e2 => h e2.symm
      · rw [h] at e; cases e
  have HB4 : Hid (Below w.heap.size w w3) := hidE (HB3.out.trans ⟨q1, q2, q3, Nat.le_of_eq q4.symm, fun k hk => q5 k (hp1 k (by omega))⟩)
  have hl3 : w.heap.size ≤ w3.heap.size := HB4.out.size
  have hlR : lT.reverse.length ≤ 1000 := by rw [List.length_reverse]; exact hlT'
  clear d1 d2 hEu hgu q1 q2 q3 q4 q5 q6 hp1 HB3 HRV
  rw [show lT.length = lT.reverse.length from (List.length_reverse).symm] at d1'
  generalize lT.reverse = lR at *
  go_wp2_with (go_at_call 95; refine (concatE_any _ cv cu pv pu lR lP _ hlR hlP' ?cc1 ?cc2 ?cc3 (hE.below ((Below.refl _ _).alloc (Nat.le_refl _) _)) (hEu3.below ((Below.refl _ _).alloc (Nat.le_refl _) _))).mono ?_)
  case cc1 => simp
  case cc2 => simp
  case cc3 => simp
  rintro e w5 ⟨v, rfl, hO, hB5⟩
  have HO := hidE (hO.weak (base' := w.heap.size) (by simp; omega))
  have HB6 : Hid (Below w.heap.size w w5) := hidE (HB4.out.trans (((Below.refl _ _).alloc hl3 _).trans (hB5.mono (by simp; omega))))
  clear hO hB5
  go_wp2_with fail
  go_ret2
  exact ⟨v, rfl, by rw [HD.out]; exact HO.out, HB6.out⟩
end Go.Proofs.YtnhjebdlcbhkcaeGreat

namespace Go.Proofs.YtnhjebdlcbhkcaeGreat
open Go.RowKit

set_option maxRecDepth 100000 in
set_option maxHeartbeats 400000 in
theorem diff_err (a b : ByteArray) (w : World) (h : diffE a b ≠ 0) :
    Calls Tryz.prog 28 #[.string a, .string b] w fun e w' => e = .returned (.tuple #[.slice none 0 0, .int .i64 (diffE a b)]) ∧ Below w.heap.size w w' := by
  have hzc : (w.alloc (Obj.cells #[.string b] 9)).cell? ⟨w.heap.size, 0, none⟩ = some (.string b) := by simp
  have hB0 : Below w.heap.size w (w.alloc (Obj.cells #[.string b] 9)) := (Below.refl _ _).alloc (Nat.le_refl _) _
  by_cases ha : (a.size : Int) > 300
  · have HE : Hid (diffE a b = 2) := by show _ = _; unfold diffE; rw [if_pos (Or.inl (by omega))]
    clear h
    go_enter Tryz.func28, Tryz.ntmps28
    go_upto_region 1 with fail
    generalize w.alloc (Obj.cells #[.string b] 9) = W at *
    go_wp2_with fail
    go_ret2
    exact ⟨by rw [HE.out]; rfl, hB0⟩
  by_cases hb : (b.size : Int) > 300
  · have HE : Hid (diffE a b = 2) := by show _ = _; unfold diffE; rw [if_pos (Or.inr (by omega))]
    clear h
    go_enter Tryz.func28, Tryz.ntmps28
    go_upto_region 1 with fail
    generalize w.alloc (Obj.cells #[.string b] 9) = W at *
    go_wp2_with fail
    go_ret2
    exact ⟨by rw [HE.out]; rfl, hB0⟩
  have hna : ¬ (300 < a.size ∨ 300 < b.size) := by omega
  have hsa : a.size ≤ 300 := by omega
  have hsb : b.size ≤ 300 := by omega
  cases h1 : allS a.data.toList
  · have HE : Hid (diffE a b = 3) := by show _ = _; unfold diffE; rw [if_neg hna, if_neg (by rw [h1]; simp)]
    have H1 := hidE h1
    clear h h1 hna
    go_enter Tryz.func28, Tryz.ntmps28
    go_upto_region 1 with fail
    generalize w.alloc (Obj.cells #[.string b] 9) = W at *
    go_wp2_with (go_at_call 88; refine (signAll_any _ _ (by unfold maxLen; omega)).mono ?_; rintro e w' ⟨rfl, hw⟩; replace hw := hw.symm; subst hw; rw [H1.out])
    go_ret2
    exact ⟨by rw [HE.out]; rfl, hB0⟩
  cases h2 : allS b.data.toList
  · have HE : Hid (diffE a b = 3) := by show _ = _; unfold diffE; rw [if_neg hna, if_neg (by rw [h2]; simp)]
    have H1 := hidE h1
    have H2 := hidE h2
    clear h h1 h2 hna
    go_enter Tryz.func28, Tryz.ntmps28
    go_upto_region 1 with fail
    generalize w.alloc (Obj.cells #[.string b] 9) = W at *
    go_wp2_with (go_at_call 88; refine (signAll_any _ _ (by unfold maxLen; omega)).mono ?_; rintro e w' ⟨rfl, hw⟩; replace hw := hw.symm; subst hw; first | rw [H1.out] | rw [H2.out])
    go_ret2
    exact ⟨by rw [HE.out]; rfl, hB0⟩
  exact absurd (show diffE a b = 0 by unfold diffE; rw [if_neg hna, if_pos ⟨h1, h2⟩]) h

theorem diffE_zero {a b : ByteArray} (h : diffE a b = 0) : a.size ≤ 300 ∧ b.size ≤ 300 ∧ allS a.data.toList = true ∧ allS b.data.toList = true := by
  unfold diffE at h
  split at h
  · cases h
  · rename_i h1
    split at h
    · rename_i h2; exact ⟨by omega, by omega, h2.1, h2.2⟩
    · cases h
end Go.Proofs.YtnhjebdlcbhkcaeGreat
