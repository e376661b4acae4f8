/- What the program's Put does with one atom is what the reference's PutAtom does. No Go text is walked here. -/
import Derived.Test.YtnhjebdlcbhkcafPutPu
import Derived.Test.YtnhjebdlcbhkcafLeast
import Derived.Test.YtnhjebdlcbhkcafNextC
import Derived.Test.YtnhjebdlcbhkcafPickR
import Derived.Shelf.Spec.SlicesInsert
import Derived.Lib.AppendZerosOnto
namespace Go.Proofs.Ytnhjebdlcbhkcaf

theorem putA_none {a : At} : ∀ (l : List At) (i : Nat), i ≤ l.length → (∀ t (h : t < l.length), t < i → ordA l[t] a < 0) → (∀ t (h : t < l.length), i ≤ t → 0 < ordA l[t] a) → putA a l false = l.take i ++ a :: l.drop i
  | [], i, hi, _, _ => by simp [putA]
  | x :: l, 0, _, _, h2 => by
    have h0 : 0 < ordA x a := h2 0 (by simp) (Nat.le_refl _)
    have hs : stepPut a x false = ([a, x], true) := by unfold stepPut; rw [if_pos h0]; rfl
    show (stepPut a x false).1 ++ putA a l (stepPut a x false).2 = _
    rw [hs]
    show [a, x] ++ putA a l true = _
    rw [putA_true a l (fun y hy => by
      obtain ⟨t, ht, rfl⟩ := List.getElem_of_mem hy
      have := h2 (t + 1) (by simpa using ht) (Nat.zero_le _)
      have h3 := cmpA.anti a l[t]
      simp only [List.getElem_cons_succ] at this
      omega)]
    rfl
  | x :: l, i + 1, hi, h1, h2 => by
    have h0 : ordA x a < 0 := h1 0 (by simp) (by omega)
    have hs : stepPut a x false = ([x], false) := by unfold stepPut; rw [if_neg (by omega), if_neg (by omega)]
    show (stepPut a x false).1 ++ putA a l (stepPut a x false).2 = _
    rw [hs]
    show [x] ++ putA a l false = _
    rw [putA_none l i (by simpa using hi) (fun t ht hti => h1 (t + 1) (by simpa using ht) (by omega)) (fun t ht hti => h2 (t + 1) (by simpa using ht) (by omega))]
    rfl

theorem putA_found {a : At} : ∀ (l : List At) (i : Nat) (hi : i < l.length), l.Pairwise (fun x y => ordA x y < 0) → ordA l[i] a = 0 → putA a l false = l.set i (lessSign a l[i])
  | [], i, hi, _, _ => by simp at hi
  | x :: l, 0, _, hr, h0 => by
    have h0' : ordA x a = 0 := h0
    have p := List.pairwise_cons.1 hr
    have hs : stepPut a x false = ([lessSign a x], true) := by unfold stepPut; rw [if_neg (by omega), if_pos h0']
    show (stepPut a x false).1 ++ putA a l (stepPut a x false).2 = _
    rw [hs]
    show [lessSign a x] ++ putA a l true = _
    rw [putA_true a l (fun y hy => by
      have h1 := p.1 y hy
      have h2 := cmpA.eqv x a y h0'
      omega)]
    rfl
  | x :: l, i + 1, hi, hr, h0 => by
    have p := List.pairwise_cons.1 hr
    have hil : i < l.length := by simpa using hi
    have h0' : ordA l[i] a = 0 := by simpa using h0
    have hx : ordA x a < 0 := by
      have h1 := p.1 l[i] (List.getElem_mem hil)
      have h2 := cmpA.eqv' x l[i] a h0'
      omega
    have hs : stepPut a x false = ([x], false) := by unfold stepPut; rw [if_neg (by omega), if_neg (by omega)]
    show (stepPut a x false).1 ++ putA a l (stepPut a x false).2 = _
    rw [hs]
    show [x] ++ putA a l false = _
    rw [putA_found l i hil p.2 h0']
    simp

theorem parts_rise {l : List At} (h : l.Pairwise (fun x y => ordA x y < 0)) (m : List (Int × Int)) (d : Int) : Parts l m d := by
  intro s t ht hs hn
  exact ordA_trans (c := ⟨m, d, 0⟩) (List.pairwise_iff_getElem.1 h s t (by omega) ht hs) hn

theorem putA_cut {a : At} {l : List At} {i : Nat} (hr : l.Pairwise (fun x y => ordA x y < 0)) (hi : i ≤ l.length) (hc : Cut l a.path a.clock i i) (hn : ¬ ∃ h : i < l.length, ordM l[i].path l[i].clock a.path a.clock = 0) : putA a l false = l.take i ++ a :: l.drop i := by
  refine putA_none l i hi (fun t ht hti => hc.1 t ht hti) (fun t ht hti => ?_)
  have h1 : 0 ≤ ordA l[t] a := hc.2 t ht hti
  rcases Int.lt_or_eq_of_le h1 with h | h
  · exact h
  · exfalso
    by_cases e : t = i
    · subst e; exact hn ⟨ht, h.symm⟩
    · have h2 : ordA (l[i]'(by omega)) l[t] < 0 := List.pairwise_iff_getElem.1 hr i t (by omega) ht (by omega)
      have h3 := cmpA.eqv' (l[i]'(by omega)) l[t] a h.symm
      have h4 := hc.2 i (by omega) (Nat.le_refl _)
      have h5 : ordA (l[i]'(by omega)) a = ordM (l[i]'(by omega)).path (l[i]'(by omega)).clock a.path a.clock := rfl
      omega

/-- atoms that rise, each right, however many -/
structure OkE (l : List At) : Prop where
  each : ∀ x ∈ l, chk x.path x.clock = 0 ∧ isSignB x.sign = true
  rise : l.Pairwise (fun x y => ordA x y < 0)

theorem OkL.okE {l : List At} (h : OkL l) : OkE l := ⟨h.each, h.rise⟩
theorem OkE.okL {l : List At} (h : OkE l) (hl : l.length ≤ 300) : OkL l := ⟨hl, h.each, h.rise⟩

theorem putA_okE {l : List At} {a : At} (h : OkE l) (ha : chk a.path a.clock = 0 ∧ isSignB a.sign = true) : OkE (putA a l false) := by
  obtain ⟨h1, h2⟩ := putA_least a l h.rise
  refine ⟨fun x hx => ?_, h1⟩
  rcases List.mem_cons.1 ((h2 x).1 hx).1 with rfl | hx'
  · exact ha
  · exact h.each x hx'

theorem putL_take_succ (l m : List At) (k : Nat) (h : k < m.length) : putL l (m.take (k + 1)) = putA m[k] (putL l (m.take k)) false := by
  unfold putL
  rw [List.take_succ_eq_append_getElem h, List.foldl_append]; rfl

theorem putL_okE {l m : List At} (h : OkE l) (h' : OkE m) : ∀ k, k ≤ m.length → OkE (putL l (m.take k))
  | 0, _ => by simpa [putL] using h
  | k + 1, hk => by
    rw [putL_take_succ l m k (by omega)]
    exact putA_okE (putL_okE h h' k (by omega)) (h'.each _ (List.getElem_mem _))

theorem putL_len (l m : List At) : ∀ k, k ≤ m.length → (putL l (m.take k)).length ≤ l.length + k
  | 0, _ => by simp [putL]
  | k + 1, hk => by
    rw [putL_take_succ l m k (by omega)]
    have h1 := putL_len l m k (by omega)
    have h2 := putA_len m[k] (putL l (m.take k)) false
    simp at h2
    omega

theorem pickTo_all (l : List At) : ∀ k, k ≤ l.length → pickTo (fun _ => true) l k = l.take k
  | 0, _ => by simp [pickTo]
  | k + 1, hk => by
    show (pickTo (fun _ => true) l k ++ if true = true then l[k]?.toList else []) = _
    rw [pickTo_all l k (by omega), if_pos rfl, List.getElem?_eq_getElem (by omega), List.take_succ_eq_append_getElem (by omega)]; rfl
end Go.Proofs.Ytnhjebdlcbhkcaf

namespace Go.Proofs.Ytnhjebdlcbhkcaf
open Go.RowKit

theorem run_copy_rowK {P : Program} (w : World) (dT sT ty elem : TypeId) (g o dLen dCap : Nat) (a : Addr) (sLen sCap size n : Nat) (cur : Array Value) (t : TypeId) (cs : List Value)
    (hu : P.underlying dT = some (.slice elem)) (hs : (P.info? elem).map (·.size) = some size)
    (hg : w.heap[g]? = some (.cells cur t (0, 0))) (hn : n = Nat.min sLen dLen) (hcn : cs.length = n * size)
    (hsrc : ∀ j v, cs[j]? = some v → w.cell? (a.add j) = some v) (hfit : o + cs.length ≤ cur.size) (h1 : ∀ v ∈ cs, v.oneCell' = true) :
    (Builtin.copy_ #[dT, sT] ty #[.slice (some ⟨g, o, none⟩) dLen dCap, .slice (some a) sLen sCap]).run P w =
      .ok (goInt n) (w.setRow g (cur.toList.take o ++ cs ++ cur.toList.drop (o + cs.length)).toArray) := by
  have hl := run_loadCells_list (P := P) w a cs hsrc
  have hst := run_storeCells_at P g o t cs 0 cur w hg (by simpa using hfit) h1
  cases hq : P.info? elem with
  | none => simp [hq] at hs
  | some i =>
    have hi : i.size = size := by simpa [hq] using hs
    rw [hcn] at hl
    simp [Builtin.copy_, run_underlying hu, Builtin.lenOf, Builtin.firstCells, sizeOf, typeInfo, hq, hi, ← hn, hl, hst]

theorem run_copy_zeroK {P : Program} (w : World) (dT sT ty elem : TypeId) (d a : Option Addr) (dLen dCap sLen sCap : Nat)
    (hu : P.underlying dT = some (.slice elem)) (hs : ((P.info? elem).map (·.size)).isSome = true) (hn : Nat.min sLen dLen = 0) :
    (Builtin.copy_ #[dT, sT] ty #[.slice d dLen dCap, .slice a sLen sCap]).run P w = .ok (goInt 0) w := by
  cases hq : P.info? elem with
  | none => simp [hq] at hs
  | some i =>
    cases a with
    | none => cases d <;> simp [Builtin.copy_, run_underlying hu, Builtin.lenOf, Builtin.firstCells, sizeOf, typeInfo, hq, hn, storeCells]
    | some a =>
      have hl := run_loadCells_list (P := P) w a [] (by simp)
      cases d <;> simp [Builtin.copy_, run_underlying hu, Builtin.lenOf, Builtin.firstCells, sizeOf, typeInfo, hq, hn] <;> simp_all [storeCells]

theorem heap_new (w : World) (o : Obj) : (w.alloc o).heap[w.heap.size]? = some o := by
  show (w.heap.push o)[w.heap.size]? = _; simp

theorem setRow_alloc (w : World) (c c' : Array Value) (t : TypeId) : (w.alloc (.cells c t)).setRow w.heap.size c' = w.alloc (.cells c' t) := by
  unfold World.setRow World.alloc
  simp only
  congr 1
  apply Array.ext_getElem?
  intro i
  simp only [Array.getElem?_modify, Array.getElem?_push]
  by_cases h : i = w.heap.size
  · simp [h]
  · have h' : w.heap.size ≠ i := fun e => h e.symm
    simp [h, h']

end Go.Proofs.Ytnhjebdlcbhkcaf

namespace Go.Proofs.Ytnhjebdlcbhkcaf
open Go.RowKit Go.Lib

theorem grown_toA {w w' : World} {r : Option Nat} (h : w.grownBy w' r) : w.grownBy w'.drew r := ⟨h.os, h.tape, h.output, h.size, h.block⟩
theorem grown_ofA {w w' : World} {r : Option Nat} (h : w.drew.grownBy w' r) : w.grownBy w' r := ⟨h.os, h.tape, h.output, h.size, h.block⟩
theorem heap_oldA (w : World) (o : Obj) {b : Nat} (hb : b < w.heap.size) : (w.alloc o).heap[b]? = w.heap[b]? := by
  show (w.heap.push o)[b]? = _
  rw [Array.getElem?_push, if_neg (by omega)]

theorem setRow_atA {w : World} {g : Nat} {cur R : Array Value} {t : TypeId} (hg : w.heap[g]? = some (.cells cur t (0, 0))) : (w.setRow g R).heap[g]? = some (.cells R t (0, 0)) := by
  unfold World.setRow; simp [Array.getElem?_modify, hg]
theorem setRow_offA {w : World} {g b : Nat} {R : Array Value} (hb : b ≠ g) : (w.setRow g R).heap[b]? = w.heap[b]? := by
  unfold World.setRow; simp only [Array.getElem?_modify]; rw [if_neg (fun e => hb e.symm)]
theorem setRow_grownA (w : World) (g : Nat) (R : Array Value) : w.grownBy (w.setRow g R) (some g) :=
  ⟨rfl, rfl, rfl, by unfold World.setRow; simp, fun k _ hne => setRow_offA (fun e => hne (by rw [e]))⟩

end Go.Proofs.Ytnhjebdlcbhkcaf
