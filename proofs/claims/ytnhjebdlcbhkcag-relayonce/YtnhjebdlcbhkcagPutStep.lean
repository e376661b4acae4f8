/- What the program's Put does with one atom is what the reference's PutAtom does. No Go text is walked here. -/
import Derived.Test.YtnhjebdlcbhkcagPutPu
import Derived.Test.YtnhjebdlcbhkcagLeast
namespace Go.Proofs.Ytnhjebdlcbhkcag

theorem putA_none {a : At} : ∀ (l : List At) (i : Nat), i ≤ l.length → (∀ t (h : t < l.length), t < i → ordA l[t] a < 0) → (∀ t (h : t < l.length), i ≤ t → 0 < ordA l[t] a) → putA a l false = l.take i ++ a :: l.drop i
  | [], i, hi, _, _ => by simp [putA]
  | x :: l, 0, _, _, h2 => by
    have h0 : 0 < ordA x a := h2 0 (by simp) (Nat.le_refl _)
    have hs : stepPut a x false = ([a, x], true) := by unfold stepPut; rw [if_pos h0]; rfl
    show (stepPut a x false).1 ++ putA a l (stepPut a x false).2 = _
    rw [hs]
    show [a, x] ++ putA a l true = _
    rw [putA_true a l (fun y hy => by
      obtain ⟨t, ht, rfl⟩ := List.getElem_of_mem hy
      have := h2 (t + 1) (by simpa using ht) (Nat.zero_le _)
      have h3 := cmpA.anti a l[t]
      simp only [List.getElem_cons_succ] at this
      omega)]
    rfl
  | x :: l, i + 1, hi, h1, h2 => by
    have h0 : ordA x a < 0 := h1 0 (by simp) (by omega)
    have hs : stepPut a x false = ([x], false) := by unfold stepPut; rw [if_neg (by omega), if_neg (by omega)]
    show (stepPut a x false).1 ++ putA a l (stepPut a x false).2 = _
    rw [hs]
    show [x] ++ putA a l false = _
    rw [putA_none l i (by simpa using hi) (fun t ht hti => h1 (t + 1) (by simpa using ht) (by omega)) (fun t ht hti => h2 (t + 1) (by simpa using ht) (by omega))]
    rfl

theorem putA_found {a : At} : ∀ (l : List At) (i : Nat) (hi : i < l.length), l.Pairwise (fun x y => ordA x y < 0) → ordA l[i] a = 0 → putA a l false = l.set i (lessSign a l[i])
  | [], i, hi, _, _ => by simp at hi
  | x :: l, 0, _, hr, h0 => by
    have h0' : ordA x a = 0 := h0
    have p := List.pairwise_cons.1 hr
    have hs : stepPut a x false = ([lessSign a x], true) := by unfold stepPut; rw [if_neg (by omega), if_pos h0']
    show (stepPut a x false).1 ++ putA a l (stepPut a x false).2 = _
    rw [hs]
    show [lessSign a x] ++ putA a l true = _
    rw [putA_true a l (fun y hy => by
      have h1 := p.1 y hy
      have h2 := cmpA.eqv x a y h0'
      omega)]
    rfl
  | x :: l, i + 1, hi, hr, h0 => by
    have p := List.pairwise_cons.1 hr
    have hil : i < l.length := by simpa using hi
    have h0' : ordA l[i] a = 0 := by simpa using h0
    have hx : ordA x a < 0 := by
      have h1 := p.1 l[i] (List.getElem_mem hil)
      have h2 := cmpA.eqv' x l[i] a h0'
      omega
    have hs : stepPut a x false = ([x], false) := by unfold stepPut; rw [if_neg (by omega), if_neg (by omega)]
    show (stepPut a x false).1 ++ putA a l (stepPut a x false).2 = _
    rw [hs]
    show [x] ++ putA a l false = _
    rw [putA_found l i hil p.2 h0']
    simp

theorem parts_rise {l : List At} (h : l.Pairwise (fun x y => ordA x y < 0)) (m : List (Int × Int)) (d : Int) : Parts l m d := by
  intro s t ht hs hn
  exact ordA_trans (c := ⟨m, d, 0⟩) (List.pairwise_iff_getElem.1 h s t (by omega) ht hs) hn

theorem putA_cut {a : At} {l : List At} {i : Nat} (hr : l.Pairwise (fun x y => ordA x y < 0)) (hi : i ≤ l.length) (hc : Cut l a.path a.clock i i) (hn : ¬ ∃ h : i < l.length, ordM l[i].path l[i].clock a.path a.clock = 0) : putA a l false = l.take i ++ a :: l.drop i := by
  refine putA_none l i hi (fun t ht hti => hc.1 t ht hti) (fun t ht hti => ?_)
  have h1 : 0 ≤ ordA l[t] a := hc.2 t ht hti
  rcases Int.lt_or_eq_of_le h1 with h | h
  · exact h
  · exfalso
    by_cases e : t = i
    · subst e; exact hn ⟨ht, h.symm⟩
    · have h2 : ordA (l[i]'(by omega)) l[t] < 0 := List.pairwise_iff_getElem.1 hr i t (by omega) ht (by omega)
      have h3 := cmpA.eqv' (l[i]'(by omega)) l[t] a h.symm
      have h4 := hc.2 i (by omega) (Nat.le_refl _)
      have h5 : ordA (l[i]'(by omega)) a = ordM (l[i]'(by omega)).path (l[i]'(by omega)).clock a.path a.clock := rfl
      omega

/-- atoms that rise, each right, however many -/
structure OkE (l : List At) : Prop where
  each : ∀ x ∈ l, chk x.path x.clock = 0 ∧ isSignB x.sign = true
  rise : l.Pairwise (fun x y => ordA x y < 0)

theorem OkL.okE {l : List At} (h : OkL l) : OkE l := ⟨h.each, h.rise⟩
theorem OkE.okL {l : List At} (h : OkE l) (hl : l.length ≤ 300) : OkL l := ⟨hl, h.each, h.rise⟩

theorem putA_okE {l : List At} {a : At} (h : OkE l) (ha : chk a.path a.clock = 0 ∧ isSignB a.sign = true) : OkE (putA a l false) := by
  obtain ⟨h1, h2⟩ := putA_least a l h.rise
  refine ⟨fun x hx => ?_, h1⟩
  rcases List.mem_cons.1 ((h2 x).1 hx).1 with rfl | hx'
  · exact ha
  · exact h.each x hx'

theorem putL_take_succ (l m : List At) (k : Nat) (h : k < m.length) : putL l (m.take (k + 1)) = putA m[k] (putL l (m.take k)) false := by
  unfold putL
  rw [List.take_succ_eq_append_getElem h, List.foldl_append]; rfl

theorem putL_okE {l m : List At} (h : OkE l) (h' : OkE m) : ∀ k, k ≤ m.length → OkE (putL l (m.take k))
  | 0, _ => by simpa [putL] using h
  | k + 1, hk => by
    rw [putL_take_succ l m k (by omega)]
    exact putA_okE (putL_okE h h' k (by omega)) (h'.each _ (List.getElem_mem _))

theorem putL_len (l m : List At) : ∀ k, k ≤ m.length → (putL l (m.take k)).length ≤ l.length + k
  | 0, _ => by simp [putL]
  | k + 1, hk => by
    rw [putL_take_succ l m k (by omega)]
    have h1 := putL_len l m k (by omega)
    have h2 := putA_len m[k] (putL l (m.take k)) false
    simp at h2
    omega

theorem pickTo_all (l : List At) : ∀ k, k ≤ l.length → pickTo (fun _ => true) l k = l.take k
  | 0, _ => by simp [pickTo]
  | k + 1, hk => by
    show (pickTo (fun _ => true) l k ++ if true = true then l[k]?.toList else []) = _
    rw [pickTo_all l k (by omega), if_pos rfl, List.getElem?_eq_getElem (by omega), List.take_succ_eq_append_getElem (by omega)]; rfl
end Go.Proofs.Ytnhjebdlcbhkcag
