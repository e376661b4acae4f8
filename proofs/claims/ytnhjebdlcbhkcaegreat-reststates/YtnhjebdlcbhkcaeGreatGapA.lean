/- copy of rows whose elements are several cells. -/
import Derived.Test.YtnhjebdlcbhkcaeGreatPutA
import Derived.Deep.RegionHeldLaw
import Derived.Test.YtnhjebdlcbhkcaeGreatNextC
import Derived.Test.YtnhjebdlcbhkcaeGreatAtomCk
namespace Go.Proofs.YtnhjebdlcbhkcaeGreat
open Go.RowKit

theorem step_append_own {P : Program} {ops : Array Oper} {o : Oper} {a : Act} {w : World} {K : Act → World → Prop} {Q : Exit → Act → World → Prop} {E : Prop}
    (hg : o.guard = none) (s x : Operand) (t : TypeId) (hop : o.op = Op.call { callee := Callee.builtin Builtin.append, args := #[s, x], argTypes := #[t, t] }) (base : Nat)
    (e : TypeId) (i : TypeInfo) (z : Value) (size bytes : Nat) (h1 : P.underlying t = some (.slice e)) (h2 : P.info? e = some i) (h3 : i.zero = some z) (h4 : i.size = size) (h5 : i.bytes = bytes) (h6 : z.cells.size = size) (h7 : 0 < size)
    (v : Value) (n : Nat) (olds : List Value) (hs : a.eval s = v) (hown : w.ownsRow base e size v n olds)
    (ad : Addr) (m c : Nat) (news : List Value) (hx : a.eval x = .slice (some ad) m c) (hn : news.length = m * size) (hc : ∀ j u, news[j]? = some u → w.cell? (ad.add j) = some u) (h1c : ∀ u ∈ news, u.oneCell' = true)
    (b1 : n + m ≤ maxLen) (b2 : (n + m) * bytes ≤ 140737488355328) (hb : base ≤ w.heap.size)
    (hK : ∀ v' w', w'.ownsRow base e size v' (n + m) (olds ++ news) → w.grownBy w' v.ownBlock → K (a.put o.dst v') w') :
    if Region.wanted o (yielded ops a.tmps) = true then Oper.wp P o a w K Q else E := by
  have hw : Region.wanted o (yielded ops a.tmps) = true := by simp [Region.wanted, hg]
  rw [if_pos hw]
  obtain ⟨v', w', hrun, r1, r2, _⟩ := run_append_own (P := P) w base t o.type e i z size bytes h1 h2 h3 h4 h5 h6 h7 v n olds hown ad m c news hn hc h1c b1 b2 hb
  unfold Oper.wp
  simp [execOp, hop, resolve, invoke, builtin, hs, hx, hrun, Result.andThen]
  exact hK v' w' r1 r2

def PickRaw (w : World) (base : Nat) (r : Raw) (x : At) : Prop :=
  ∃ g cap, r = ⟨some ⟨g, 0, none⟩, x.path.length, cap, x.clock, x.sign⟩ ∧ w.ownsRow base 124 2 (.slice (some ⟨g, 0, none⟩) x.path.length cap) x.path.length (flatS x.path) ∧ x.path.length ≤ maxLen ∧ 0 ≤ x.sign ∧ x.sign ≤ 255

theorem types_ne {w : World} {base base' g n cap m : Nat} {v : Value} {xs ys : List Value} (h : w.ownsRow base 124 2 (.slice (some ⟨g, 0, none⟩) n cap) n xs) (h' : w.ownsRow base' 108 3 v m ys) : some g ≠ v.ownBlock := by
  intro e
  rcases h.2 with ⟨hc, _⟩ | ⟨g1, c1, cur, h1, _, h2, _⟩
  · simp at hc
  have hg : g1 = g := by simp at h1; exact h1.1.symm
  subst hg
  rcases h'.2 with ⟨rfl, _⟩ | ⟨g2, c2, cur2, rfl, _, h3, _⟩
  · simp [Value.ownBlock] at e
  · simp [Value.ownBlock] at e
    subst e
    rw [h2] at h3
    simp at h3

theorem PickRaw.kept {w w' : World} {base : Nat} {row : Option Nat} {r : Raw} {x : At} (h : PickRaw w base r x) (hg : w.grownBy w' row) (hne : ∀ g cap, r.p = some ⟨g, 0, none⟩ → w.ownsRow base 124 2 (.slice (some ⟨g, 0, none⟩) x.path.length cap) x.path.length (flatS x.path) → some g ≠ row) : PickRaw w' base r x := by
  obtain ⟨g, cap, rfl, hown, h1⟩ := h
  exact ⟨g, cap, rfl, hown.kept hg (Or.inr (by have := hne g cap rfl hown; simpa [Value.ownBlock] using this)), h1⟩

theorem PickRaw.below {w w' : World} {base : Nat} {r : Raw} {x : At} (h : PickRaw w base r x) (hb : Below w.heap.size w w') : PickRaw w' base r x := by
  obtain ⟨g, cap, rfl, hown, h1⟩ := h
  exact ⟨g, cap, rfl, owns_below hown hb, h1⟩

theorem PickRaw.raw {w : World} {base : Nat} {r : Raw} {x : At} (h : PickRaw w base r x) : RawOf w r x := by
  obtain ⟨g, cap, rfl, hown, h1, h2, h3⟩ := h
  refine ⟨rfl, rfl, rfl, stepsAt_owns hown rfl, h1, ?_, h2, h3⟩
  rcases hown.2 with ⟨hc, _⟩ | ⟨g1, c1, cur, e1, _, _, hc, _⟩
  · simp at hc
  · simp at e1; rw [e1.2]; exact hc

def PickRow (w : World) (base : Nat) (v : Value) (xs : List At) : Prop :=
  ∃ rs : List Raw, rs.length = xs.length ∧ w.ownsRow base 108 3 v xs.length (flatR rs) ∧ ∀ i (h : i < xs.length) (h' : i < rs.length), PickRaw w base rs[i] xs[i]

theorem PickRow.owns {w : World} {base : Nat} {v : Value} {xs : List At} (h : PickRow w base v xs) : OwnsA w w base v xs := by
  obtain ⟨rs, h1, h2, h3⟩ := h
  exact ⟨rs, h1, h2, fun i h h' => (h3 i h h').raw⟩

theorem PickRow.below {w w' : World} {base : Nat} {v : Value} {xs : List At} (h : PickRow w base v xs) (hb : Below w.heap.size w w') : PickRow w' base v xs := by
  obtain ⟨rs, h1, h2, h3⟩ := h
  exact ⟨rs, h1, owns_below h2 hb, fun i h h' => (h3 i h h').below hb⟩

theorem PickRow.mono {w : World} {base base' : Nat} {v : Value} {xs : List At} (h : PickRow w base v xs) (hb : base' ≤ base) : PickRow w base' v xs := by
  obtain ⟨rs, h1, h2, h3⟩ := h
  refine ⟨rs, h1, owns_base h2 hb, fun i h h' => ?_⟩
  obtain ⟨g, cap, e, hown, h4⟩ := h3 i h h'
  exact ⟨g, cap, e, owns_base hown hb, h4⟩

theorem PickRow.snoc {w w' : World} {base : Nat} {v v' : Value} {xs : List At} {r : Raw} {x : At} {rs : List Raw} (hl : rs.length = xs.length) (hown : w.ownsRow base 108 3 v xs.length (flatR rs)) (hr : ∀ i (h : i < xs.length) (h' : i < rs.length), PickRaw w base rs[i] xs[i]) (hx : PickRaw w base r x) (hg : w.grownBy w' v.ownBlock) (h : w'.ownsRow base 108 3 v' (xs.length + 1) (flatR rs ++ r.cells)) :
    PickRow w' base v' (xs ++ [x]) := by
  refine ⟨rs ++ [r], by simp [hl], ?_, fun i hi hi' => ?_⟩
  · rw [flatR_append, List.length_append]
    show w'.ownsRow base 108 3 v' (xs.length + 1) (flatR rs ++ (r.cells ++ []))
    rw [List.append_nil]; exact h
  · by_cases e : i < xs.length
    · rw [List.getElem_append_left (by omega), List.getElem_append_left e]
      exact (hr i e (by omega)).kept hg (fun g cap _ ho => types_ne ho hown)
    · have : i = xs.length := by simp at hi; omega
      subst this
      have e1 : (rs ++ [r])[xs.length] = r := by rw [List.getElem_append_right (by omega)]; simp [hl]
      have e2 : (xs ++ [x])[xs.length] = x := by simp
      rw [e1, e2]
      exact hx.kept hg (fun g cap _ ho => types_ne ho hown)

def pickTo (f : Nat → Bool) (l : List At) : Nat → List At
  | 0 => []
  | k + 1 => pickTo f l k ++ if f k then l[k]?.toList else []
theorem pickTo_len (f : Nat → Bool) (l : List At) : ∀ k, (pickTo f l k).length ≤ k
  | 0 => Nat.le_refl _
  | k + 1 => by
    have := pickTo_len f l k
    unfold pickTo
    rw [List.length_append]
    split
    · have : (l[k]?.toList).length ≤ 1 := by cases l[k]? <;> simp
      omega
    · simp; omega
end Go.Proofs.YtnhjebdlcbhkcaeGreat

namespace Go.Proofs.YtnhjebdlcbhkcaeGreat
open Go.RowKit

theorem run_copy_rowK {P : Program} (w : World) (dT sT ty elem : TypeId) (g o dLen dCap : Nat) (a : Addr) (sLen sCap size n : Nat) (cur : Array Value) (t : TypeId) (cs : List Value)
    (hu : P.underlying dT = some (.slice elem)) (hs : (P.info? elem).map (·.size) = some size)
    (hg : w.heap[g]? = some (.cells cur t (0, 0))) (hn : n = Nat.min sLen dLen) (hcn : cs.length = n * size)
    (hsrc : ∀ j v, cs[j]? = some v → w.cell? (a.add j) = some v) (hfit : o + cs.length ≤ cur.size) (h1 : ∀ v ∈ cs, v.oneCell' = true) :
    (Builtin.copy_ #[dT, sT] ty #[.slice (some ⟨g, o, none⟩) dLen dCap, .slice (some a) sLen sCap]).run P w =
      .ok (goInt n) (w.setRow g (cur.toList.take o ++ cs ++ cur.toList.drop (o + cs.length)).toArray) := by
  have hl := run_loadCells_list (P := P) w a cs hsrc
  have hst := run_storeCells_at P g o t cs 0 cur w hg (by simpa using hfit) h1
  cases hq : P.info? elem with
  | none => simp [hq] at hs
  | some i =>
    have hi : i.size = size := by simpa [hq] using hs
    rw [hcn] at hl
    simp [Builtin.copy_, run_underlying hu, Builtin.lenOf, Builtin.firstCells, sizeOf, typeInfo, hq, hi, ← hn, hl, hst]

theorem run_copy_zeroK {P : Program} (w : World) (dT sT ty elem : TypeId) (d a : Option Addr) (dLen dCap sLen sCap : Nat)
    (hu : P.underlying dT = some (.slice elem)) (hs : ((P.info? elem).map (·.size)).isSome = true) (hn : Nat.min sLen dLen = 0) :
    (Builtin.copy_ #[dT, sT] ty #[.slice d dLen dCap, .slice a sLen sCap]).run P w = .ok (goInt 0) w := by
  cases hq : P.info? elem with
  | none => simp [hq] at hs
  | some i =>
    cases a with
    | none => cases d <;> simp [Builtin.copy_, run_underlying hu, Builtin.lenOf, Builtin.firstCells, sizeOf, typeInfo, hq, hn, storeCells]
    | some a =>
      have hl := run_loadCells_list (P := P) w a [] (by simp)
      cases d <;> simp [Builtin.copy_, run_underlying hu, Builtin.lenOf, Builtin.firstCells, sizeOf, typeInfo, hq, hn] <;> simp_all [storeCells]

theorem heap_new (w : World) (o : Obj) : (w.alloc o).heap[w.heap.size]? = some o := by
  show (w.heap.push o)[w.heap.size]? = _; simp

theorem setRow_alloc (w : World) (c c' : Array Value) (t : TypeId) : (w.alloc (.cells c t)).setRow w.heap.size c' = w.alloc (.cells c' t) := by
  unfold World.setRow World.alloc
  simp only
  congr 1
  apply Array.ext_getElem?
  intro i
  simp only [Array.getElem?_modify, Array.getElem?_push]
  by_cases h : i = w.heap.size
  · simp [h]
  · have h' : w.heap.size ≠ i := fun e => h e.symm
    simp [h, h']

end Go.Proofs.YtnhjebdlcbhkcaeGreat

namespace Go.Proofs.YtnhjebdlcbhkcaeGreat
open Go.RowKit

def lowB (s : Int × Int) (site : Int) : Int := if s.2 < site then s.1 else s.1 + 1
def highA (s : Int × Int) (site : Int) : Int := if site < s.2 then s.1 else s.1 - 1

set_option maxHeartbeats 400000 in
theorem lowestBehind_any (d s site : Int) (w : World) (h0 : 0 ≤ d) (h1 : d ≤ 200) :
    Calls Tryz.prog 241 #[.agg #[.int .i64 d, .int .i64 s], .int .i64 site] w fun e w' => e = .returned (.int .i64 (lowB (d, s) site)) ∧ Below w.heap.size w w' := by
  by_cases hs : s < site
  all_goals
    go_enter Tryz.func241, Tryz.ntmps241
    go_wp2
    go_ret
    exact ⟨ret_int (by unfold lowB; first | rw [if_pos hs] | rw [if_neg (by omega)]), (Below.refl _ _).alloc (Nat.le_refl _) _⟩

set_option maxHeartbeats 400000 in
theorem highestAhead_any (d s site : Int) (w : World) (h0 : 0 ≤ d) (h1 : d ≤ 200) :
    Calls Tryz.prog 242 #[.agg #[.int .i64 d, .int .i64 s], .int .i64 site] w fun e w' => e = .returned (.int .i64 (highA (d, s) site)) ∧ Below w.heap.size w w' := by
  by_cases hs : site < s
  all_goals
    go_enter Tryz.func242, Tryz.ntmps242
    go_wp2
    go_ret
    exact ⟨ret_int (by unfold highA; first | rw [if_pos hs] | rw [if_neg (by omega)]), (Below.refl _ _).alloc (Nat.le_refl _) _⟩

set_option maxHeartbeats 400000 in
theorem room_any (v : Value) (hv : ∃ a n cap, v = .slice a n cap) (lo hi : Int) (w : World) (h0 : 0 ≤ lo) (h1 : lo ≤ 201) (h2 : -1 ≤ hi) (h3 : hi ≤ 200) :
    Calls Tryz.prog 148 #[.agg #[v, .int .i64 lo, .int .i64 hi]] w fun e w' => e = .returned (.int .i64 (hi - lo + 1)) ∧ Below w.heap.size w w' := by
  obtain ⟨a, n, cap, rfl⟩ := hv
  go_enter Tryz.func148, Tryz.ntmps148
  go_wp2
  go_ret
  exact ⟨rfl, (Below.refl _ _).alloc (Nat.le_refl _) _⟩

set_option maxHeartbeats 1000000 in
theorem start_any (a : Option Addr) (n cap : Nat) (lo hi many x y : Int) (w : World) (h0 : 0 ≤ lo) (h1 : lo ≤ 201) (h2 : -1 ≤ hi) (h3 : hi ≤ 200) (hm : 1 ≤ many) (hm' : many ≤ hi - lo + 1) :
    Calls Tryz.prog 149 #[.agg #[.slice a n cap, .int .i64 lo, .int .i64 hi], .int .i64 many, .int .i64 x, .int .i64 y] w fun e w' => (∃ r : Int, e = .returned (.int .i64 r) ∧ lo ≤ r ∧ r + many ≤ hi + 1) ∧ Below w.heap.size w w' := by
  have hq : ∀ k : Int, 0 < k → 0 ≤ (hi - lo + 1 - many) / k ∧ (hi - lo + 1 - many) / k ≤ hi - lo + 1 - many := by
    intro k hk
    exact ⟨Int.ediv_nonneg (by omega) (by omega), Int.ediv_le_self _ (by omega)⟩
  have q16 := hq 16 (by omega)
  have q2 := hq 2 (by omega)
  clear hq
  go_enter Tryz.func149, Tryz.ntmps149
  go_wp2_with (go_at_call 148; refine (room_any _ ⟨_, _, _, rfl⟩ _ _ _ h0 h1 h2 h3).mono ?_; rintro e w' ⟨rfl, hb⟩; obtain ⟨hcc, hff⟩ := bcell hb)
  all_goals
    go_ret
    exact ⟨⟨_, rfl, by omega, by omega⟩, ((Below.refl _ _).alloc (Nat.le_refl _) _).thru hb (by simp)⟩

set_option maxHeartbeats 1000000 in
theorem wanted_any (a : Option Addr) (n cap B : Nat) (lo hi many : Int) (w : World) (h0 : 0 ≤ lo) (h1 : lo ≤ 201) (h2 : -1 ≤ hi) (h3 : hi ≤ 200) (hB : B < w.heap.size) (hm : w.cell? ⟨B, 0, none⟩ = some (.int .i64 many)) :
    Calls Tryz.prog 147 #[.agg #[.slice a n cap, .int .i64 lo, .int .i64 hi], .pointer (some ⟨B, 0, none⟩)] w fun e w' => e = .returned (.bool (decide (many ≤ hi - lo + 1))) ∧ Below w.heap.size w w' := by
  have hBn : B ≠ w.heap.size := by omega
  have hb0 : Below w.heap.size w (w.alloc (Obj.cells #[.slice a n cap, .int .i64 lo, .int .i64 hi] 186)).drew := ((Below.refl _ _).alloc (Nat.le_refl _) _).drew
  go_enter Tryz.func147, Tryz.ntmps147
  go_wp2
  go_region_held3 (fun w' => w'.cell? ⟨w.heap.size, 0, none⟩ = some (.slice a n cap) ∧ w'.cell? ⟨w.heap.size, 1, none⟩ = some (.int .i64 lo) ∧ w'.cell? ⟨w.heap.size, 2, none⟩ = some (.int .i64 hi) ∧ w'.cell? ⟨B, 0, none⟩ = some (.int .i64 many)) (go_keep)
    (first | (go_at_call 148; refine (room_any _ ⟨_, _, _, rfl⟩ _ _ _ h0 h1 h2 h3).mono ?_; rintro e w' ⟨rfl, hb⟩; obtain ⟨hcc, hff⟩ := bcellN hb (w.heap.size + 1) (by simp); have hB1 : B < w.heap.size + 1 := (by omega)))
  go_wp2
  go_ret
  refine ⟨ret_bool ?_, hb0.thru hb hb0.size⟩
  simp

theorem Tryz.neq61 (x1 x2 y1 y2 : Int) (w : World) : Sem.run Tryz.prog (binOp .neq 124 (.agg #[.int .i64 x1, .int .i64 x2]) (.agg #[.int .i64 y1, .int .i64 y2])) w = .ok (.bool (!(x1 == y1 && x2 == y2))) w := by
  have u3 := Tryz.underlying3
  have hS : Tryz.prog.underlying 124 = some (.struct (Tryz.prog.fieldsOf 124)) := by kernel_rfl
  have hp : Tryz.prog.stoodInHeld 124 = false := by kernel_rfl
  rw [run_neq_struct, show (10000 : Nat) = 9999 + 1 from rfl, run_equalIn_agg w 9999 124 _ _ hS hp]
  simp only [Program.fieldsOf, Tryz.underlying124]
  go_simp
  by_cases h1 : x1 = y1 <;> by_cases h2 : x2 = y2 <;> simp [h1, h2]

theorem Tryz.guard61 : Tryz.prog.eqGuardType Tryz.prog.depth 124 = false := by kernel_rfl

set_option maxRecDepth 100000 in
set_option maxHeartbeats 1000000 in
theorem equal_any (a a' : Option Addr) (cap cap' : Nat) (l m : List (Int × Int)) (w : World) (hl : l.length ≤ maxLen) (h : StepsAt w a l) (h' : StepsAt w a' m) :
    Calls Tryz.prog 240 #[.slice a l.length cap, .slice a' m.length cap'] w fun e w' => e = .returned (.bool (decide (l = m))) ∧ Below w.heap.size w w' := by
  unfold maxLen at hl
  by_cases hlm : l.length = m.length
  · go_enter Tryz.func240, Tryz.ntmps240
    have HLM : Hid (l.length = m.length) := hlm
    have hx : ((l.length : Int) != (m.length : Int)) = false := by rw [hlm]; simp
    clear hlm
    go_wp2
    go_loopw [13] (fun i wr => ∃ k : Nat, k ≤ l.length ∧ i = .int .i64 k ∧ l.take k = m.take k ∧ Below w.heap.size w wr) (fun i _ => l.length - (intOf i).toNat)
    case atStart => exact ⟨0, Nat.zero_le _, rfl, by simp, Below.refl _ _⟩
    case round =>
      obtain ⟨k, hk, rfl, htk, hb⟩ := hrel
      have HT : Hid (l.take k = m.take k) := htk
      clear htk
      by_cases hlt : k < l.length
      · have hlt' : k < m.length := by rw [← HLM.out]; exact hlt
        rcases h.below hb (Nat.le_refl _) with hs | ⟨b, off, rfl, hbl, hc⟩
        · simp [hs] at hlt
        rcases h'.below hb (Nat.le_refl _) with hs' | ⟨b', off', rfl, hbl', hc'⟩
        · simp [hs'] at hlt'
        have hc0 := (hc k hlt).1
        have hc1 := (hc k hlt).2
        have hc0' := (hc' k hlt').1
        have hc1' := (hc' k hlt').2
        have HK : Hid ((l[k].1 == m[k].1 && l[k].2 == m[k].2) = decide (l[k] = m[k])) := by
          show _ = _
          rw [Bool.eq_iff_iff]; simp [Prod.ext_iff]
        clear hc hc' h h'
        generalize l[k].1 = x1 at hc0 HK
        generalize l[k].2 = s1 at hc1 HK
        generalize m[k].1 = x2 at hc0' HK
        generalize m[k].2 = s2 at hc1' HK
        have i1 : (k : Int) < (l.length : Int) := by omega
        have i2 : (k : Int) < (m.length : Int) := by omega
        have hneq := Tryz.neq61 x1 s1 x2 s2
        have hgd := Tryz.guard61
        go_wp2
        go_quiet (fail)
        go_wp2
        · have hne : l[k] ≠ m[k] := by
            have h2 := HK.out
            intro e
            rw [decide_eq_true e] at h2
            simp at h2
            simp_all
          go_ret
          refine ⟨ret_bool ?_, belowDrewN hb _⟩
          have : l ≠ m := by intro e; subst e; exact hne rfl
          simp [this]
        · have hee : l[k] = m[k] := by
            have h2 := HK.out
            have h3 : (x1 == x2 && s1 == s2) = true := by simp_all
            rw [h3] at h2
            exact of_decide_eq_true h2.symm
          go_roundw
          case rel => exact ⟨k + 1, by omega, by go_num, by rw [List.take_succ_eq_append_getElem hlt, List.take_succ_eq_append_getElem hlt', HT.out, hee], belowDrewN hb _⟩
          case measure => simp [intOf]; omega
      · have hee : l = m := by
          have h1 := HT.out
          have h2 := HLM.out
          rwa [List.take_of_length_le (by omega), List.take_of_length_le (by omega)] at h1
        have HE : Hid (l = m) := hee
        clear hee
        go_wp2
        go_ret
        exact ⟨ret_bool (decide_eq_true HE.out).symm, hb⟩
  · have hx : ((l.length : Int) != (m.length : Int)) = true := by simp; omega
    go_enter Tryz.func240, Tryz.ntmps240
    go_wp2
    go_ret
    refine ⟨ret_bool ?_, Below.refl _ _⟩
    have : l ≠ m := by intro e; subst e; exact hlm rfl
    simp [this]



def beg (l : List (Int × Int)) (n : Nat) : List (Int × Int) := l.take n ++ List.replicate (n - l.length) (0, 0)
theorem beg_length (l : List (Int × Int)) (n : Nat) : (beg l n).length = n := by unfold beg; simp; omega

theorem flatS_append (l m : List (Int × Int)) : flatS (l ++ m) = flatS l ++ flatS m := by unfold flatS; simp
theorem madeS (n : Nat) : madeCells #[.int .i64 0, .int .i64 0] (n * 2) = (flatS (List.replicate n (0, 0))).toArray := by
  have hz : ∀ j, (#[Value.int .i64 0, Value.int .i64 0] : Array Value)[j % 2]! = .int .i64 0 := by
    intro j; rcases Nat.mod_two_eq_zero_or_one j with h | h <;> rw [h] <;> rfl
  unfold madeCells
  apply Array.toList_inj.1
  apply List.ext_getElem?
  intro j
  by_cases hj : j < n * 2
  · rw [Array.toList_map, List.getElem?_map, Array.toList_range, List.getElem?_range hj]
    have e : j = j / 2 * 2 ∨ j = j / 2 * 2 + 1 := by omega
    have g := flatS_get (List.replicate n (0, 0)) (j / 2) (by simp; omega)
    simp only [List.getElem_replicate] at g
    rcases e with e | e
    · rw [e, g.1, ← e]; exact congrArg some (hz j)
    · rw [e, g.2, ← e]; exact congrArg some (hz j)
  · have h1 : n * 2 ≤ j := by omega
    rw [List.getElem?_eq_none (by simpa using h1), List.getElem?_eq_none (by simp [flatS_length]; omega)]



theorem flatS_drop : ∀ (k : Nat) (l : List (Int × Int)), (flatS l).drop (k * 2) = flatS (l.drop k)
  | 0, l => by simp
  | k + 1, [] => by simp [flatS]
  | k + 1, s :: l => by
    have := flatS_drop k l
    have e : (k + 1) * 2 = k * 2 + 2 := by omega
    rw [e]
    show ((Value.int .i64 s.1 :: .int .i64 s.2 :: flatS l)).drop (k * 2 + 2) = _
    simp only [List.drop_succ_cons, this]



set_option maxHeartbeats 1000000 in
theorem beginning_any (a : Option Addr) (cap n : Nat) (l : List (Int × Int)) (w : World) (hn : n ≤ 10) (h : StepsAt w a l) :
    Calls Tryz.prog 204 #[.slice a l.length cap, .int .i64 n] w fun e w' => e = .returned (.slice (some ⟨w.heap.size, 0, none⟩) n n) ∧ w' = w.alloc (.cells (flatS (beg l n)).toArray 124) := by
  obtain ⟨i0, hi, hz0, hz1, hz2⟩ := Tryz.info124
  have hmk : ∀ w : World, (Instr.makeSlice 40 (.int .i64 n) (.int .i64 n)).run Tryz.prog w = .ok (.slice (some ⟨w.heap.size, 0, none⟩) n n) (w.alloc (.cells (flatS (List.replicate n (0, 0))).toArray 124)) := by
    intro w
    have := run_make (P := Tryz.prog) w 40 124 i0 _ Tryz.underlying40 hi hz0 .i64 .i64 n n (by omega) (Int.le_refl _) (by rw [hz2]; omega) (by omega)
    rw [hz1] at this
    simp only [Int.toNat_natCast] at this
    rw [this]
    show Result.ok _ (w.alloc (.cells (madeCells #[.int .i64 0, .int .i64 0] (n * 2)) 124)) = _
    rw [madeS]
  have hsz : (Tryz.prog.info? 124).map (·.size) = some 2 := by rw [hi]; simp [hz1]
  have hcp : ∀ ty, (Builtin.copy_ #[40, 40] ty #[.slice (some ⟨w.heap.size, 0, none⟩) n n, .slice a l.length cap]).run Tryz.prog (w.alloc (.cells (flatS (List.replicate n (0, 0))).toArray 124)) = .ok (goInt (Nat.min l.length n)) (w.alloc (.cells (flatS (beg l n)).toArray 124)) := by
    intro ty
    by_cases h0 : Nat.min l.length n = 0
    · rw [run_copy_zeroK _ 40 40 ty 124 _ _ _ _ _ _ Tryz.underlying40 (by rw [hsz]; rfl) h0, h0]
      have : beg l n = List.replicate n (0, 0) := by
        unfold beg
        rcases (show l.length = 0 ∨ n = 0 by simp [Nat.min_def] at h0; split at h0 <;> omega) with h1 | h1
        · rw [List.eq_nil_of_length_eq_zero h1]; simp
        · subst h1; simp
      rw [this]; rfl
    · have hmin : Nat.min l.length n = min l.length n := rfl
      rcases id h with hs | ⟨b, off, rfl, hbl, hc⟩
      · simp [hs] at h0
      have hcl : (flatS (l.take n)).length = Nat.min l.length n * 2 := by rw [flatS_length, List.length_take, hmin, Nat.min_comm]
      have hs2 : StepsAt w (some ⟨b, off, none⟩) (l.take n) := Or.inr ⟨b, off, rfl, hbl, fun i hi => by
        simp only [List.getElem_take]
        exact hc i (by simp at hi; omega)⟩
      rw [run_copy_rowK (P := Tryz.prog) _ 40 40 ty 124 w.heap.size 0 n n ⟨b, off, none⟩ l.length cap 2 (Nat.min l.length n) (flatS (List.replicate n (0, 0))).toArray 124 (flatS (l.take n)) Tryz.underlying40 hsz (heap_new _ _) rfl hcl
        (fun j v hj => by rw [Addr.add_lit]; exact Lib.cell?_alloc_some _ (hs2.cells j v hj)) (by rw [hcl]; simp [flatS_length]; omega) (flatS_one _)]
      have e : (flatS (List.replicate n (0, 0))).toArray.toList.take 0 ++ flatS (l.take n) ++ (flatS (List.replicate n (0, 0))).toArray.toList.drop (0 + (flatS (l.take n)).length) = flatS (beg l n) := by
        rw [Nat.zero_add, hcl, flatS_drop]
        unfold beg
        rw [flatS_append, List.take_zero, List.nil_append]
        have e2 : n - Nat.min l.length n = n - l.length := by rw [hmin]; omega
        show flatS (l.take n) ++ flatS ((List.replicate n (0, 0)).drop (Nat.min l.length n)) = _
        rw [List.drop_replicate, e2]
      rw [e, setRow_alloc]
  go_enter Tryz.func204, Tryz.ntmps204
  go_wp2
  go_ret
  exact ⟨rfl, rfl⟩
end Go.Proofs.YtnhjebdlcbhkcaeGreat
