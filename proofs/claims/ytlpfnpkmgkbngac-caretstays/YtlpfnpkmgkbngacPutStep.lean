/- What the program's Put does with one atom is what the reference's PutAtom does. No Go text is walked here. -/
import Derived.Test.YtlpfnpkmgkbngacPutLe
import Derived.Test.YtlpfnpkmgkbngacRawA
namespace Go.Proofs.Ytlpfnpkmgkbngac
open Go.RowKit

theorem ordA_symm0 {x y : At} (h : ordA x y = 0) : ordA y x = 0 := by have := cmpA.anti y x; omega
theorem ordA_trans0 {x y z : At} (h : ordA x y = 0) (h' : ordA y z = 0) : ordA x z = 0 := by have := cmpA.eqv x y z h; omega

/-- each atom has a least one of its mark -/
theorem least_some : ∀ (S : List At) (y : At), y ∈ S → ∃ z, Least S z ∧ ordA z y = 0 ∧ z.sign ≤ y.sign
  | [], _, h => by simp at h
  | s :: T, y, h => by
    by_cases ht : ∃ t ∈ T, ordA t y = 0
    · obtain ⟨t, ht1, ht2⟩ := ht
      -- the least of the tail at a mark like y's
      obtain ⟨z, hz, hzt, _⟩ := least_some T t ht1
      have hzy := ordA_trans0 hzt ht2
      by_cases hs : ordA s y = 0 ∧ s.sign < z.sign
      · refine ⟨s, ⟨List.mem_cons_self .., fun u hu e => ?_⟩, hs.1, ?_⟩
        · rcases List.mem_cons.1 hu with rfl | hu
          · exact Int.le_refl _
          · have := hz.2 u hu (ordA_trans0 (ordA_trans0 hzy (ordA_symm0 hs.1)) e)
            omega
        · rcases List.mem_cons.1 h with rfl | hy
          · exact Int.le_refl _
          · have := hz.2 y hy hzy; omega
      · have hzs : ordA z s = 0 → z.sign ≤ s.sign := fun e => by
          have h1 : ordA s y = 0 := ordA_trans0 (ordA_symm0 e) hzy
          have : ¬ s.sign < z.sign := fun h2 => hs ⟨h1, h2⟩
          omega
        refine ⟨z, ⟨List.mem_cons_of_mem _ hz.1, fun u hu e => ?_⟩, hzy, ?_⟩
        · rcases List.mem_cons.1 hu with rfl | hu
          · exact hzs e
          · exact hz.2 u hu e
        · rcases List.mem_cons.1 h with rfl | hy
          · exact hzs hzy
          · exact hz.2 y hy hzy
    · have hy : y = s := by
        rcases List.mem_cons.1 h with e | e
        · exact e
        · exact absurd ⟨y, e, cmpA.refl y⟩ ht
      subst hy
      refine ⟨y, ⟨List.mem_cons_self .., fun u hu e => ?_⟩, cmpA.refl y, Int.le_refl _⟩
      rcases List.mem_cons.1 hu with rfl | hu
      · exact Int.le_refl _
      · exact absurd ⟨u, hu, ordA_symm0 e⟩ ht

/-- the least of the least and more -/
theorem least_least {P S T : List At} (h : ∀ x, x ∈ P ↔ Least S x) (z : At) : Least (P ++ T) z ↔ Least (S ++ T) z := by
  constructor
  · rintro ⟨h1, h2⟩
    refine ⟨?_, fun y hy e => ?_⟩
    · rcases List.mem_append.1 h1 with g | g
      · exact List.mem_append_left _ ((h z).1 g).1
      · exact List.mem_append_right _ g
    · rcases List.mem_append.1 hy with g | g
      · obtain ⟨y', hy', e1, e2⟩ := least_some S y g
        have := h2 y' (List.mem_append_left _ ((h y').2 hy')) (ordA_trans0 e (ordA_symm0 e1))
        omega
      · exact h2 y (List.mem_append_right _ g) e
  · rintro ⟨h1, h2⟩
    refine ⟨?_, fun y hy e => ?_⟩
    · rcases List.mem_append.1 h1 with g | g
      · exact List.mem_append_left _ ((h z).2 ⟨g, fun y hy => h2 y (List.mem_append_left _ hy)⟩)
      · exact List.mem_append_right _ g
    · rcases List.mem_append.1 hy with g | g
      · exact h2 y (List.mem_append_left _ ((h y).1 g).1) e
      · exact h2 y (List.mem_append_right _ g) e

theorem putL_least {l : List At} (hl : l.Pairwise (fun x y => ordA x y < 0)) : ∀ m : List At, (putL l m).Pairwise (fun x y => ordA x y < 0) ∧ ∀ z, z ∈ putL l m ↔ Least (l ++ m) z := by
  intro m
  suffices h : ∀ (m L S : List At), L.Pairwise (fun x y => ordA x y < 0) → (∀ z, z ∈ L ↔ Least S z) → (putL L m).Pairwise (fun x y => ordA x y < 0) ∧ ∀ z, z ∈ putL L m ↔ Least (S ++ m) z by
    exact h m l l hl (fun z => (rises_least hl z).symm)
  intro m
  induction m with
  | nil => intro L S h1 h2; exact ⟨h1, fun z => by rw [List.append_nil]; exact h2 z⟩
  | cons a m ih =>
    intro L S h1 h2
    obtain ⟨q1, q2⟩ := putA_least a L h1
    have := ih (putA a L false) (S ++ [a]) q1 (fun z => by
      rw [q2 z, ← least_least h2 z]
      exact least_congr (fun y => by simp [List.mem_append]; constructor <;> (rintro (h | h) <;> simp [h])) z)
    rw [List.append_assoc] at this
    exact this

/-- in whatever order .. -/
theorem putL_comm {l m : List At} (hl : l.Pairwise (fun x y => ordA x y < 0)) (hm : m.Pairwise (fun x y => ordA x y < 0)) : putL l m = putL m l := by
  obtain ⟨a1, a2⟩ := putL_least hl m
  obtain ⟨b1, b2⟩ := putL_least hm l
  refine rises_eq a1 b1 (fun z => ?_)
  rw [a2 z, b2 z]
  exact least_congr (fun y => by rw [List.mem_append, List.mem_append]; exact Or.comm) z

/-- .. and however grouped -/
theorem putL_assoc {l m n : List At} (hl : l.Pairwise (fun x y => ordA x y < 0)) (hm : m.Pairwise (fun x y => ordA x y < 0)) : putL (putL l m) n = putL l (putL m n) := by
  obtain ⟨a1, a2⟩ := putL_least hl m
  obtain ⟨b1, b2⟩ := putL_least hm n
  obtain ⟨c1, c2⟩ := putL_least a1 n
  obtain ⟨d1, d2⟩ := putL_least hl (putL m n)
  refine rises_eq c1 d1 (fun z => ?_)
  rw [c2 z, d2 z, least_least a2 z, List.append_assoc]
  rw [least_congr (S := l ++ putL m n) (T := putL m n ++ l) (fun y => by rw [List.mem_append, List.mem_append]; exact Or.comm) z, least_least b2 z]
  exact least_congr (fun y => ⟨fun h => List.mem_append.2 ((List.mem_append.1 h).symm), fun h => List.mem_append.2 ((List.mem_append.1 h).symm)⟩) z
end Go.Proofs.Ytlpfnpkmgkbngac

namespace Go.Proofs.Ytlpfnpkmgkbngac

theorem putA_none {a : At} : ∀ (l : List At) (i : Nat), i ≤ l.length → (∀ t (h : t < l.length), t < i → ordA l[t] a < 0) → (∀ t (h : t < l.length), i ≤ t → 0 < ordA l[t] a) → putA a l false = l.take i ++ a :: l.drop i
  | [], i, hi, _, _ => by simp [putA]
  | x :: l, 0, _, _, h2 => by
    have h0 : 0 < ordA x a := h2 0 (by simp) (Nat.le_refl _)
    have hs : stepPut a x false = ([a, x], true) := by unfold stepPut; rw [if_pos h0]; rfl
    show (stepPut a x false).1 ++ putA a l (stepPut a x false).2 = _
    rw [hs]
    show [a, x] ++ putA a l true = _
    rw [putA_true a l (fun y hy => by
      obtain ⟨t, ht, rfl⟩ := List.getElem_of_mem hy
      have := h2 (t + 1) (by simpa using ht) (Nat.zero_le _)
      have h3 := cmpA.anti a l[t]
      simp only [List.getElem_cons_succ] at this
      omega)]
    rfl
  | x :: l, i + 1, hi, h1, h2 => by
    have h0 : ordA x a < 0 := h1 0 (by simp) (by omega)
    have hs : stepPut a x false = ([x], false) := by unfold stepPut; rw [if_neg (by omega), if_neg (by omega)]
    show (stepPut a x false).1 ++ putA a l (stepPut a x false).2 = _
    rw [hs]
    show [x] ++ putA a l false = _
    rw [putA_none l i (by simpa using hi) (fun t ht hti => h1 (t + 1) (by simpa using ht) (by omega)) (fun t ht hti => h2 (t + 1) (by simpa using ht) (by omega))]
    rfl

theorem putA_found {a : At} : ∀ (l : List At) (i : Nat) (hi : i < l.length), l.Pairwise (fun x y => ordA x y < 0) → ordA l[i] a = 0 → putA a l false = l.set i (lessSign a l[i])
  | [], i, hi, _, _ => by simp at hi
  | x :: l, 0, _, hr, h0 => by
    have h0' : ordA x a = 0 := h0
    have p := List.pairwise_cons.1 hr
    have hs : stepPut a x false = ([lessSign a x], true) := by unfold stepPut; rw [if_neg (by omega), if_pos h0']
    show (stepPut a x false).1 ++ putA a l (stepPut a x false).2 = _
    rw [hs]
    show [lessSign a x] ++ putA a l true = _
    rw [putA_true a l (fun y hy => by
      have h1 := p.1 y hy
      have h2 := cmpA.eqv x a y h0'
      omega)]
    rfl
  | x :: l, i + 1, hi, hr, h0 => by
    have p := List.pairwise_cons.1 hr
    have hil : i < l.length := by simpa using hi
    have h0' : ordA l[i] a = 0 := by simpa using h0
    have hx : ordA x a < 0 := by
      have h1 := p.1 l[i] (List.getElem_mem hil)
      have h2 := cmpA.eqv' x l[i] a h0'
      omega
    have hs : stepPut a x false = ([x], false) := by unfold stepPut; rw [if_neg (by omega), if_neg (by omega)]
    show (stepPut a x false).1 ++ putA a l (stepPut a x false).2 = _
    rw [hs]
    show [x] ++ putA a l false = _
    rw [putA_found l i hil p.2 h0']
    simp

theorem parts_rise {l : List At} (h : l.Pairwise (fun x y => ordA x y < 0)) (m : List (Int × Int)) (d : Int) : Parts l m d := by
  intro s t ht hs hn
  exact ordA_trans (c := ⟨m, d, 0⟩) (List.pairwise_iff_getElem.1 h s t (by omega) ht hs) hn

theorem putA_cut {a : At} {l : List At} {i : Nat} (hr : l.Pairwise (fun x y => ordA x y < 0)) (hi : i ≤ l.length) (hc : Cut l a.path a.clock i i) (hn : ¬ ∃ h : i < l.length, ordM l[i].path l[i].clock a.path a.clock = 0) : putA a l false = l.take i ++ a :: l.drop i := by
  refine putA_none l i hi (fun t ht hti => hc.1 t ht hti) (fun t ht hti => ?_)
  have h1 : 0 ≤ ordA l[t] a := hc.2 t ht hti
  rcases Int.lt_or_eq_of_le h1 with h | h
  · exact h
  · exfalso
    by_cases e : t = i
    · subst e; exact hn ⟨ht, h.symm⟩
    · have h2 : ordA (l[i]'(by omega)) l[t] < 0 := List.pairwise_iff_getElem.1 hr i t (by omega) ht (by omega)
      have h3 := cmpA.eqv' (l[i]'(by omega)) l[t] a h.symm
      have h4 := hc.2 i (by omega) (Nat.le_refl _)
      have h5 : ordA (l[i]'(by omega)) a = ordM (l[i]'(by omega)).path (l[i]'(by omega)).clock a.path a.clock := rfl
      omega

/-- atoms that rise, each right, however many -/
structure OkE (l : List At) : Prop where
  each : ∀ x ∈ l, chk x.path x.clock = 0 ∧ isSignB x.sign = true
  rise : l.Pairwise (fun x y => ordA x y < 0)

theorem OkL.okE {l : List At} (h : OkL l) : OkE l := ⟨h.each, h.rise⟩
theorem OkE.okL {l : List At} (h : OkE l) (hl : l.length ≤ 300) : OkL l := ⟨hl, h.each, h.rise⟩

theorem putA_okE {l : List At} {a : At} (h : OkE l) (ha : chk a.path a.clock = 0 ∧ isSignB a.sign = true) : OkE (putA a l false) := by
  obtain ⟨h1, h2⟩ := putA_least a l h.rise
  refine ⟨fun x hx => ?_, h1⟩
  rcases List.mem_cons.1 ((h2 x).1 hx).1 with rfl | hx'
  · exact ha
  · exact h.each x hx'

theorem putL_take_succ (l m : List At) (k : Nat) (h : k < m.length) : putL l (m.take (k + 1)) = putA m[k] (putL l (m.take k)) false := by
  unfold putL
  rw [List.take_succ_eq_append_getElem h, List.foldl_append]; rfl

theorem putL_okE {l m : List At} (h : OkE l) (h' : OkE m) : ∀ k, k ≤ m.length → OkE (putL l (m.take k))
  | 0, _ => by simpa [putL] using h
  | k + 1, hk => by
    rw [putL_take_succ l m k (by omega)]
    exact putA_okE (putL_okE h h' k (by omega)) (h'.each _ (List.getElem_mem _))

theorem putL_len (l m : List At) : ∀ k, k ≤ m.length → (putL l (m.take k)).length ≤ l.length + k
  | 0, _ => by simp [putL]
  | k + 1, hk => by
    rw [putL_take_succ l m k (by omega)]
    have h1 := putL_len l m k (by omega)
    have h2 := putA_len m[k] (putL l (m.take k)) false
    simp at h2
    omega

theorem pickTo_all (l : List At) : ∀ k, k ≤ l.length → pickTo (fun _ => true) l k = l.take k
  | 0, _ => by simp [pickTo]
  | k + 1, hk => by
    show (pickTo (fun _ => true) l k ++ if true = true then l[k]?.toList else []) = _
    rw [pickTo_all l k (by omega), if_pos rfl, List.getElem?_eq_getElem (by omega), List.take_succ_eq_append_getElem (by omega)]; rfl
end Go.Proofs.Ytlpfnpkmgkbngac
