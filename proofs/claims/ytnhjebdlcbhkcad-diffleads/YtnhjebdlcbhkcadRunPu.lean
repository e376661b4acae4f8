/- What the pieces of a list are. No Go text is walked here. -/
import Derived.Test.YtnhjebdlcbhkcadRunsC
import Derived.Test.YtnhjebdlcbhkcadEach
import Derived.Test.YtnhjebdlcbhkcadLeast
namespace Go.Proofs.Ytnhjebdlcbhkcad

/-- does the atom behind place j follow it? -/
def flwAt (l : List At) (j : Nat) : Bool := match l[j]?, l[j + 1]? with
  | some x, some y => flw x.path x.clock y.path y.clock
  | _, _ => false

theorem goesB_iff (l : List At) (f k : Nat) : goesB l f k = true ↔ k + 1 < l.length ∧ k + 1 - f < 60 ∧ flwAt l k = true := by
  unfold goesB flwAt
  simp only [Bool.and_eq_true, decide_eq_true_eq]
  exact Iff.rfl

/-- what a piece is -/
structure PcOk (l : List At) (p : Nat × Nat) : Prop where
  lt : p.1 < p.2
  le : p.2 ≤ l.length
  len : p.2 - p.1 ≤ 60
  inner : ∀ j, p.1 ≤ j → j + 1 < p.2 → flwAt l j = true
  shut : p.2 - p.1 = 60 ∨ p.2 = l.length ∨ flwAt l (p.2 - 1) = false

structure PstInv (l : List At) (k : Nat) : Prop where
  cat : ((pst l k).1.flatMap fun p => part l p.1 (p.2 - p.1)) = l.take (pst l k).2
  each : ∀ p ∈ (pst l k).1, PcOk l p
  link : ∀ i (h : i + 1 < (pst l k).1.length), ((pst l k).1[i]'(by omega)).2 = (pst l k).1[i + 1].1
  last : ∀ i (h : i < (pst l k).1.length), i + 1 = (pst l k).1.length → (pst l k).1[i].2 = (pst l k).2
  le : (pst l k).2 ≤ k
  few : (pst l k).2 < k → k - (pst l k).2 < 60
  op : ∀ j, (pst l k).2 ≤ j → j < k → flwAt l j = true
  shut : k = l.length → 0 < k → (pst l k).2 = k

theorem part_take (l : List At) (f t : Nat) (hf : f ≤ t) : l.take f ++ part l f (t - f) = l.take t := by
  unfold part
  have := List.take_add (l := l) (i := f) (j := t - f)
  rw [← this]
  congr 1; omega

theorem pstInv (l : List At) : ∀ k, k ≤ l.length → PstInv l k
  | 0, _ => ⟨rfl, fun p hp => by simp [pst] at hp, fun i h => by simp [pst] at h, fun i h => by simp [pst] at h, Nat.le_refl _, fun h => by simp [pst] at h, fun j _ h => by omega, fun _ h => by omega⟩
  | k + 1, hk => by
    have ih := pstInv l k (by omega)
    by_cases hg : goesB l (pst l k).2 k = true
    · have e : pst l (k + 1) = pst l k := by rw [pst, if_pos hg]
      obtain ⟨g1, g2, g3⟩ := (goesB_iff _ _ _).1 hg
      refine ⟨by rw [e]; exact ih.cat, by rw [e]; exact ih.each, by simp only [e]; exact ih.link, by simp only [e]; exact ih.last, by rw [e]; have := ih.le; omega, by rw [e]; intro _; exact g2, ?_, fun h => by omega⟩
      rw [e]
      intro j h1 h2
      by_cases ej : j = k
      · subst ej; exact g3
      · exact ih.op j h1 (by omega)
    · have e : pst l (k + 1) = ((pst l k).1 ++ [((pst l k).2, k + 1)], k + 1) := by rw [pst, if_neg hg]
      have hle := ih.le
      have hpc : PcOk l ((pst l k).2, k + 1) := by
        refine ⟨by show _ < k + 1; omega, hk, ?_, fun j h1 h2 => ih.op j h1 (by simp only at h2; omega), ?_⟩
        · by_cases h : (pst l k).2 < k
          · have := ih.few h; show k + 1 - _ ≤ 60; omega
          · show k + 1 - _ ≤ 60; omega
        · by_cases c1 : k + 1 < l.length
          · by_cases c2 : k + 1 - (pst l k).2 < 60
            · right; right
              show flwAt l (k + 1 - 1) = false
              rw [Nat.add_sub_cancel]
              cases c3 : flwAt l k
              · rfl
              · exact absurd ((goesB_iff _ _ _).2 ⟨c1, c2, c3⟩) hg
            · left
              by_cases h : (pst l k).2 < k
              · have := ih.few h; show k + 1 - _ = 60; omega
              · show k + 1 - _ = 60; omega
          · right; left; show k + 1 = l.length; omega
      rw [show PstInv l (k + 1) = PstInv l (k + 1) from rfl]
      refine ⟨?_, ?_, ?_, ?_, by rw [e]; exact Nat.le_refl _, by rw [e]; intro h; exact absurd h (Nat.lt_irrefl _), by rw [e]; intro j h1 h2; simp only at h1; omega, fun _ _ => by rw [e]⟩
      · rw [e]
        simp only [List.flatMap_append, List.flatMap_cons, List.flatMap_nil, List.append_nil]
        rw [ih.cat]
        exact part_take l _ _ (by omega)
      · rw [e]
        intro p hp
        rcases List.mem_append.1 hp with hp | hp
        · exact ih.each p hp
        · have : p = ((pst l k).2, k + 1) := by simpa using hp
          rw [this]; exact hpc
      · simp only [e]
        intro i hi
        simp only [List.length_append, List.length_singleton] at hi
        by_cases h : i + 1 < (pst l k).1.length
        · rw [List.getElem_append_left (by omega), List.getElem_append_left h]
          exact ih.link i h
        · have hi' : i + 1 = (pst l k).1.length := by omega
          rw [List.getElem_append_left (by omega), List.getElem_append_right (by omega)]
          simp only [hi', Nat.sub_self, List.getElem_cons_zero]
          exact ih.last i (by omega) hi'
      · simp only [e]
        intro i hi hil
        simp only [List.length_append, List.length_singleton] at hi hil
        rw [List.getElem_append_right (by omega)]
        simp [show i - (pst l k).1.length = 0 by omega]

theorem bump_bump {p : List (Int × Int)} (hp : 0 < p.length) (a b : Int) : bump (bump p a) b = bump p (a + b) := by
  have h1 : lastS (bump p a) = ((lastS p).1 + a, (lastS p).2) := lastS_bump hp a
  have h2 : bump (bump p a) b = setL (bump p a) ((lastS (bump p a)).1 + b, (lastS (bump p a)).2) := rfl
  rw [h2, h1]
  unfold bump setL
  simp only [List.length_set, List.set_set]
  congr 2; omega
theorem bump_zero {p : List (Int × Int)} (hp : 0 < p.length) : bump p 0 = p := by
  unfold bump setL
  rw [Int.add_zero]
  show p.set (p.length - 1) (lastS p) = p
  rw [lastS_eq hp, List.set_getElem_self]

/-- within a piece the marks go on -/
theorem pc_marks {l : List At} (ok : OkL l) {p : Nat × Nat} (h : PcOk l p) : ∀ j (hj : p.1 + j < p.2), (l[p.1 + j]'(by have := h.le; omega)).path = bump (l[p.1]'(by have := h.le; have := h.lt; omega)).path j ∧ (l[p.1 + j]'(by have := h.le; omega)).clock = (l[p.1]'(by have := h.le; have := h.lt; omega)).clock + j := by
  intro j
  have hle := h.le
  have hlt := h.lt
  have hp0 : 0 < (l[p.1]'(by omega)).path.length := (okPath ok p.1 (by omega)).1
  induction j with
  | zero => intro hj; exact ⟨(bump_zero hp0).symm, by simp⟩
  | succ j ih =>
    intro hj
    obtain ⟨i1, i2⟩ := ih (by omega)
    have hf := h.inner (p.1 + j) (by omega) (by omega)
    unfold flwAt at hf
    rw [List.getElem?_eq_getElem (by omega), List.getElem?_eq_getElem (by omega)] at hf
    simp only [flw, beq_iff_eq] at hf
    obtain ⟨e1, e2⟩ := ordM_zero hf
    have e3 : l[p.1 + (j + 1)]'(by omega) = l[p.1 + j + 1]'(by omega) := rfl
    rw [e3, ← e1, ← e2, i1, i2, bump_bump hp0]
    exact ⟨by congr 1, by push_cast; omega⟩

theorem sign_back {s : Int} (h : isSignB s = true) : ((UInt8.ofNat s.toNat).toNat : Int) = s := by
  unfold isSignB inB at h
  simp only [Bool.and_eq_true, decide_eq_true_eq] at h
  rw [UInt8.toNat_ofNat']
  omega

theorem runOf_eq {l : List At} {p : Nat × Nat} (h : p.1 < l.length) : runOf l p = ⟨l[p.1].path, l[p.1].clock, txtS (part l p.1 (p.2 - p.1))⟩ := by
  unfold runOf; rw [List.getElem?_eq_getElem h]; rfl

theorem txt_size (l : List At) : (txtS l).size = l.length := by unfold txtS; rw [strOfNums_size, List.length_map]

theorem txt_signs {l : List At} (h : ∀ x ∈ l, isSignB x.sign = true) : allS (txtS l).data.toList = true := by
  unfold txtS allS
  rw [strOfNums_data, List.map_map, List.all_map, List.all_eq_true]
  intro x hx
  simp only [Function.comp]
  rw [sign_back (h x hx)]
  exact h x hx

/-- the run of a piece is right, and has its atoms -/
theorem pc_run {l : List At} (ok : OkL l) {p : Nat × Nat} (h : PcOk l p) : chkRun (runOf l p).path (runOf l p).clock (runOf l p).text = 0 ∧ atomsR (runOf l p).path (runOf l p).clock (runOf l p).text = part l p.1 (p.2 - p.1) := by
  have hle := h.le
  have hlt := h.lt
  have h60 := h.len
  rw [runOf_eq (by omega)]
  have hpl := part_len (l := l) (f := p.1) (n := p.2 - p.1) (by omega)
  have hsz : (txtS (part l p.1 (p.2 - p.1))).size = p.2 - p.1 := by rw [txt_size, hpl]
  have hk0 := (ok.each _ (List.getElem_mem (show p.1 < l.length by omega))).1
  have hp0 : 0 < (l[p.1]'(by omega)).path.length := (okPath ok p.1 (by omega)).1
  constructor
  · show chkRun (l[p.1]'(by omega)).path (l[p.1]'(by omega)).clock (txtS (part l p.1 (p.2 - p.1))) = 0
    unfold chkRun
    rw [if_neg (by omega), hsz, if_neg (by omega), if_neg (by omega), if_neg (by rw [txt_signs (fun x hx => ((ok.part p.1 (p.2 - p.1)).each x hx).2)]; decide)]
    unfold nxt
    rw [if_neg (by omega), if_neg (by omega)]
    obtain ⟨m1, m2⟩ := pc_marks ok h (p.2 - p.1 - 1) (by omega)
    have hkl := (ok.each _ (List.getElem_mem (show p.1 + (p.2 - p.1 - 1) < l.length by omega))).1
    rw [m1, m2] at hkl
    rw [if_neg]
    rw [show ((p.2 - p.1 : Nat) : Int) - 1 = ((p.2 - p.1 - 1 : Nat) : Int) by omega]
    omega
  · refine List.ext_getElem (by simp [atomsR, hsz, hpl]) (fun i h1 h2 => ?_)
    have hi : i < p.2 - p.1 := by rw [hpl] at h2; exact h2
    rw [part_get (by omega) hi]
    have e : (atomsR (l[p.1]'(by omega)).path (l[p.1]'(by omega)).clock (txtS (part l p.1 (p.2 - p.1))))[i] = runAt (l[p.1]'(by omega)).path (l[p.1]'(by omega)).clock (txtS (part l p.1 (p.2 - p.1))) i := by simp [atomsR]
    show (atomsR (l[p.1]'(by omega)).path (l[p.1]'(by omega)).clock (txtS (part l p.1 (p.2 - p.1))))[i] = _
    rw [e]
    obtain ⟨m1, m2⟩ := pc_marks ok h i (by omega)
    have hs := (ok.each _ (List.getElem_mem (show p.1 + i < l.length by omega))).2
    unfold runAt
    have e3 : ((txtS (part l p.1 (p.2 - p.1))).data.toList.getD i 0).toNat = (UInt8.ofNat (l[p.1 + i]'(by omega)).sign.toNat).toNat := by
      unfold txtS
      rw [strOfNums_data, List.getD_eq_getElem?_getD, List.getElem?_map, List.getElem?_map, List.getElem?_eq_getElem (by rw [hpl]; exact hi), part_get (by omega) hi]; rfl
    rw [e3, ← m1, ← m2, sign_back hs]

/-- behind a piece that is not full nothing follows -/
theorem pc_next {l : List At} (ok : OkL l) {p q : Nat × Nat} (hp : PcOk l p) (hq : PcOk l q) (hpq : p.2 = q.1) (h60 : (runOf l p).text.size < 60) (hn : (nxt (runOf l p).path (runOf l p).clock (runOf l p).text.size).2.2 = 0) :
    ordM (nxt (runOf l p).path (runOf l p).clock (runOf l p).text.size).1 (nxt (runOf l p).path (runOf l p).clock (runOf l p).text.size).2.1 (runOf l q).path (runOf l q).clock ≠ 0 := by
  have hle := hp.le
  have hlt := hp.lt
  have hqle := hq.le
  have hqlt := hq.lt
  have hpl := part_len (l := l) (f := p.1) (n := p.2 - p.1) (by omega)
  rw [runOf_eq (p := p) (by omega)] at *
  rw [runOf_eq (p := q) (by omega)]
  simp only [txt_size, hpl] at *
  have hk0 := (ok.each _ (List.getElem_mem (show p.1 < l.length by omega))).1
  have hp0 : 0 < (l[p.1]'(by omega)).path.length := (okPath ok p.1 (by omega)).1
  have hne : flwAt l (p.2 - 1) = false := by
    rcases hp.shut with e | e | e
    · omega
    · omega
    · exact e
  unfold nxt at hn ⊢
  rw [if_neg (by omega), if_neg (by omega)] at hn ⊢
  split at hn
  · exact absurd hn (by decide)
  · rename_i hc
    rw [if_neg hc]
    simp only
    obtain ⟨m1, m2⟩ := pc_marks ok hp (p.2 - p.1 - 1) (by omega)
    intro e
    unfold flwAt at hne
    rw [List.getElem?_eq_getElem (by omega), List.getElem?_eq_getElem (by omega)] at hne
    simp only [flw, beq_eq_false_iff_ne] at hne
    apply hne
    have e1 : l[p.2 - 1]'(by omega) = l[p.1 + (p.2 - p.1 - 1)]'(by omega) := by congr 1; omega
    have e2 : l[p.2 - 1 + 1]'(by omega) = l[q.1]'(by omega) := by congr 1; omega
    have e4 : ((p.2 - p.1 - 1 : Nat) : Int) + 1 = ((p.2 - p.1 : Nat) : Int) := by omega
    rw [e1, e2, m1, m2, bump_bump hp0, e4, Int.add_assoc, e4]
    exact e
end Go.Proofs.Ytnhjebdlcbhkcad
