/- What is gone stays so; what is there was there, or was put. No Go text is walked here. -/
import Derived.Test.YtlpfnpkmgkbngacAllC
import Derived.Test.YtlpfnpkmgkbngacMarksOf
namespace Go.Proofs.Ytlpfnpkmgkbngac
open Go.RowKit

theorem ordM_refl (m : Mk) : ordM m.1 m.2 m.1 m.2 = 0 := cmpM.refl m
theorem hasGone_mem {g : List Mk} {m : Mk} (h : m ∈ g) : hasGone g m.1 m.2 = true := by
  unfold hasGone
  rw [List.any_eq_true]
  exact ⟨m, h, by rw [ordM_refl]; rfl⟩
theorem insG_mem {g : List Mk} {m x : Mk} (h : x ∈ g) : x ∈ insG g m := by
  unfold insG
  split
  · exact h
  · rw [← List.take_append_drop (lowM g m.1 m.2) g] at h
    rcases List.mem_append.1 h with h | h
    · exact List.mem_append.2 (Or.inl h)
    · exact List.mem_append.2 (Or.inr (List.mem_cons_of_mem _ h))
theorem insAll_mem {x : Mk} : ∀ {ms g : List Mk}, x ∈ g → x ∈ ms.foldl insG g
  | [], _, h => h
  | m :: ms, g, h => insAll_mem (ms := ms) (g := insG g m) (insG_mem h)

/-- the marks that a deed puts -/
def putsM (d : Dd) : List Mk := if d.kind = 1 then marksD d else []
def putsTo (ds : List Dd) : List Mk := ds.flatMap putsM
theorem putsTo_take {ds : List Dd} {k : Nat} (h : k < ds.length) : putsTo (ds.take (k + 1)) = putsTo (ds.take k) ++ putsM ds[k] := by
  unfold putsTo
  rw [List.take_succ_eq_append_getElem h, List.flatMap_append]
  simp

theorem doD_gone {l l' : List At} {g g' : List Mk} {d : Dd} (h : doD l g d = some (l', g')) : ∀ m ∈ g, m ∈ g' := by
  intro m hm
  unfold doD at h
  split at h
  · split at h
    · simp at h
    · cases h; exact hm
  · split at h
    · simp at h
    · cases h; exact insAll_mem hm

theorem doD_there {l l' : List At} {g g' : List Mk} {d : Dd} (hok : OkS l g) (h : doD l g d = some (l', g')) : ∀ z ∈ l', z ∈ l ∨ (z.path, z.clock) ∈ putsM d := by
  intro z hz
  unfold doD at h
  split at h
  · rename_i hk
    split at h
    · simp at h
    · cases h
      have hz' := (((putL_least hok.atoms.rise (putsD g d)).2 z).1 hz).1
      rcases List.mem_append.1 hz' with hz1 | hz1
      · exact Or.inl hz1
      · right
        have hz2 := (List.mem_filter.1 hz1).1
        unfold putsM marksD
        rw [if_pos hk, if_pos hk]
        obtain ⟨i, hi, rfl⟩ := List.getElem_of_mem hz2
        rw [atomsR_len] at hi
        rw [atomsR_get hi]
        unfold nextsL
        exact List.mem_map.2 ⟨i, List.mem_range.2 hi, rfl⟩
  · split at h
    · simp at h
    · cases h
      exact Or.inl (List.mem_filter.1 hz).1

theorem doAll_facts : ∀ {ds : List Dd} {l l' : List At} {g g' : List Mk}, OkS l g → (∀ d ∈ ds, chkD d = 0) → doAll l g ds = some (l', g') → (∀ m ∈ g, m ∈ g') ∧ (∀ z ∈ l', z ∈ l ∨ (z.path, z.clock) ∈ putsTo ds) ∧ OkS l' g'
  | [], l, l', g, g', hok, _, h => by
    cases h
    exact ⟨fun m hm => hm, fun z hz => Or.inl hz, hok⟩
  | d :: ds, l, l', g, g', hok, hc, h => by
    simp only [doAll] at h
    cases hd : doD l g d with
    | none => rw [hd] at h; simp at h
    | some s =>
      obtain ⟨l1, g1⟩ := s
      rw [hd] at h
      have hok1 := doD_ok hok (hc d (List.mem_cons_self ..)) hd
      obtain ⟨h1, h2, h3⟩ := doAll_facts hok1 (fun x hx => hc x (List.mem_cons_of_mem _ hx)) h
      refine ⟨fun m hm => h1 m (doD_gone hd m hm), fun z hz => ?_, h3⟩
      have e : putsTo (d :: ds) = putsM d ++ putsTo ds := rfl
      rw [e]
      rcases h2 z hz with hz | hz
      · rcases doD_there hok hd z hz with hz | hz
        · exact Or.inl hz
        · exact Or.inr (List.mem_append.2 (Or.inl hz))
      · exact Or.inr (List.mem_append.2 (Or.inr hz))

theorem hasMk_mem {l : List At} {z : At} (h : z ∈ l) : hasMk l z.path z.clock = true := by
  unfold hasMk
  rw [List.any_eq_true]
  exact ⟨z, h, by rw [ordM_refl (z.path, z.clock)]; rfl⟩

theorem putsM_len {d : Dd} (h : chkD d = 0) : (putsM d).length ≤ 60 := by
  unfold putsM marksD
  split
  · rename_i hk
    rw [nextsL_len]
    exact (okRun_of (okPut_of hk h)).len
  · simp
theorem putsTo_len : ∀ {ds : List Dd}, (∀ d ∈ ds, chkD d = 0) → (putsTo ds).length ≤ 60 * ds.length
  | [], _ => by simp [putsTo]
  | d :: ds, h => by
    have e : putsTo (d :: ds) = putsM d ++ putsTo ds := rfl
    have h1 := putsM_len (h d (List.mem_cons_self ..))
    have h2 := putsTo_len (fun x hx => h x (List.mem_cons_of_mem _ hx))
    rw [e, List.length_append, List.length_cons]
    omega

/-- two rows, one behind the other -/
theorem MkRow.join {w w' : World} {base : Nat} {v v' : Value} {xs ys : List Mk} {rs rs2 : List RawK} (hl : rs.length = xs.length) (hown : w.ownsRow base 41 2 v xs.length (flatK rs)) (hr : ∀ i (h : i < xs.length) (h' : i < rs.length), PickK w base rs[i] xs[i]) (hl2 : rs2.length = ys.length) (hr2 : ∀ i (h : i < ys.length) (h' : i < rs2.length), PickK w base rs2[i] ys[i]) (hg : w.grownBy w' v.ownBlock) (h : w'.ownsRow base 41 2 v' (xs.length + ys.length) (flatK rs ++ flatK rs2)) :
    MkRow w' base v' (xs ++ ys) := by
  refine ⟨rs ++ rs2, by simp [hl, hl2], ?_, fun i hi hi' => ?_⟩
  · rw [flatK_append, List.length_append]
    exact h
  · by_cases e : i < xs.length
    · rw [List.getElem_append_left (by omega), List.getElem_append_left e]
      exact (hr i e (by omega)).kept hg (fun g cap _ ho => types_neK ho hown)
    · have h1 : i - xs.length < ys.length := by simp at hi; omega
      have e1 : (rs ++ rs2)[i] = rs2[i - xs.length]'(by omega) := by rw [List.getElem_append_right (by omega)]; simp only [hl]
      have e2 : (xs ++ ys)[i] = ys[i - xs.length] := by rw [List.getElem_append_right (by omega)]
      rw [e1, e2]
      exact (hr2 _ h1 (by omega)).kept hg (fun g cap _ ho => types_neK ho hown)
end Go.Proofs.Ytlpfnpkmgkbngac

namespace Go.Proofs.Ytlpfnpkmgkbngac
open Go.RowKit

theorem hasGone_iff {g : List Mk} {p : List (Int × Int)} {c : Int} : hasGone g p c = true ↔ (p, c) ∈ g := by
  constructor
  · intro h
    unfold hasGone at h
    obtain ⟨x, hx, h0⟩ := List.any_eq_true.1 h
    obtain ⟨e1, e2⟩ := ordM_zero (by simpa using h0)
    have e : x = (p, c) := by rw [← e1, ← e2]
    rw [← e]; exact hx
  · intro h
    exact hasGone_mem h

theorem insG_mem_self (g : List Mk) (m : Mk) : m ∈ insG g m := by
  unfold insG
  by_cases h : hasGone g m.1 m.2 = true
  · rw [if_pos h]; exact hasGone_iff.1 h
  · rw [if_neg h]; simp
theorem insAll_iff {x : Mk} : ∀ {ms g : List Mk}, x ∈ ms.foldl insG g ↔ x ∈ g ∨ x ∈ ms := by
  intro ms
  induction ms with
  | nil => intro g; simp
  | cons m ms ih =>
    intro g
    rw [List.foldl_cons, ih]
    constructor
    · rintro (h | h)
      · rcases mem_insG h with h | h
        · exact Or.inl h
        · exact Or.inr (by rw [h]; exact List.mem_cons_self ..)
      · exact Or.inr (List.mem_cons_of_mem _ h)
    · rintro (h | h)
      · exact Or.inl (insG_mem h)
      · rcases List.mem_cons.1 h with h | h
        · exact Or.inl (by rw [h]; exact insG_mem_self g m)
        · exact Or.inr h

/-- marks that rise, and are the same ones, are the same list -/
theorem up_eq : ∀ {g h : List Mk}, Up g → Up h → (∀ x, x ∈ g ↔ x ∈ h) → g = h := by
  intro g h hg hh hm
  have key : ∀ {g : List Mk}, Up g → (g.map fun m => (⟨m.1, m.2, 0⟩ : At)).Pairwise (fun x y => ordA x y < 0) := fun hg => List.pairwise_map.2 hg
  have e := rises_eq (key hg) (key hh) (fun x => by
    constructor
    · intro hx
      obtain ⟨m, hm1, rfl⟩ := List.mem_map.1 hx
      exact List.mem_map.2 ⟨m, (hm m).1 hm1, rfl⟩
    · intro hx
      obtain ⟨m, hm1, rfl⟩ := List.mem_map.1 hx
      exact List.mem_map.2 ⟨m, (hm m).2 hm1, rfl⟩)
  have e2 := congrArg (List.map fun (a : At) => ((a.path, a.clock) : Mk)) e
  simpa [List.map_map, Function.comp_def] using e2

/-- the atoms that a deed puts, gone or not; the marks that it takes -/
def comeD (d : Dd) : List At := if d.kind = 1 then atomsR d.rp d.rc d.rt else []
def goD (d : Dd) : List Mk := if d.kind = 1 then [] else takesD d

/-- a state, by all that was put and all that was taken -/
structure Sum (l : List At) (g : List Mk) (S : List At) (G : List Mk) : Prop where
  rise : l.Pairwise (fun x y => ordA x y < 0)
  up : Up g
  there : ∀ z, z ∈ l ↔ Least S z ∧ (z.path, z.clock) ∉ g
  gone : ∀ m, m ∈ g ↔ m ∈ G

theorem ordA_mk {x y : At} (h : ordA x y = 0) : (x.path, x.clock) = (y.path, y.clock) := by
  obtain ⟨e1, e2⟩ := ordA_zero h
  rw [e1, e2]

theorem mem_keepG {g : List Mk} {l : List At} {z : At} : z ∈ keepG g l ↔ z ∈ l ∧ (z.path, z.clock) ∉ g := by
  unfold keepG
  rw [List.mem_filter, ← hasGone_iff]
  simp [goneA]
theorem mem_takeL {ms : List Mk} {l : List At} {z : At} : z ∈ takeL l ms ↔ z ∈ l ∧ (z.path, z.clock) ∉ ms := by
  unfold takeL
  rw [List.mem_filter, ← hasGone_iff]
  simp

theorem sum_new {l : List At} {g : List Mk} (h : OkS l g) : Sum l g l g := by
  refine ⟨h.atoms.rise, h.up, fun z => ?_, fun m => Iff.rfl⟩
  rw [rises_least h.atoms.rise]
  constructor
  · intro hz
    refine ⟨hz, fun hg => ?_⟩
    have h1 := h.apart _ hg
    have h2 := hasMk_mem hz
    rw [h1] at h2
    simp at h2
  · exact fun hz => hz.1

theorem sum_do {l l' : List At} {g g' : List Mk} {S : List At} {G : List Mk} {d : Dd} (h : Sum l g S G) (hd : doD l g d = some (l', g')) : Sum l' g' (S ++ comeD d) (G ++ goD d) := by
  unfold doD at hd
  by_cases hk : d.kind = 1
  · rw [if_pos hk] at hd
    have hC : comeD d = atomsR d.rp d.rc d.rt := by unfold comeD; rw [if_pos hk]
    have hG : goD d = [] := by unfold goD; rw [if_pos hk]
    rw [hC, hG, List.append_nil]
    split at hd
    · simp at hd
    · simp only [Option.some.injEq, Prod.mk.injEq] at hd
      obtain ⟨rfl, rfl⟩ := hd
      obtain ⟨hr, hm⟩ := putL_least h.rise (putsD g d)
      refine ⟨hr, h.up, fun z => ?_, h.gone⟩
      rw [hm z]
      unfold putsD
      generalize atomsR d.rp d.rc d.rt = m
      constructor
      · rintro ⟨hz, hl⟩
        have hng : (z.path, z.clock) ∉ g := by
          rcases List.mem_append.1 hz with hz | hz
          · exact ((h.there z).1 hz).2
          · exact (mem_keepG.1 hz).2
        refine ⟨⟨?_, fun y hy h0 => ?_⟩, hng⟩
        · rcases List.mem_append.1 hz with hz | hz
          · exact List.mem_append_left _ ((h.there z).1 hz).1.1
          · exact List.mem_append_right _ (mem_keepG.1 hz).1
        · rcases List.mem_append.1 hy with hy | hy
          · obtain ⟨z', hz', h0', hle⟩ := least_some S y hy
            have e0 : ordA z z' = 0 := ordA_trans0 h0 (ordA_symm0 h0')
            have hz'l : z' ∈ l := (h.there z').2 ⟨hz', by rw [← ordA_mk e0]; exact hng⟩
            have := hl z' (List.mem_append_left _ hz'l) e0
            omega
          · exact hl y (List.mem_append_right _ (mem_keepG.2 ⟨hy, by rw [← ordA_mk h0]; exact hng⟩)) h0
      · rintro ⟨⟨hz, hl⟩, hng⟩
        refine ⟨?_, fun y hy h0 => ?_⟩
        · rcases List.mem_append.1 hz with hz | hz
          · exact List.mem_append_left _ ((h.there z).2 ⟨⟨hz, fun y hy => hl y (List.mem_append_left _ hy)⟩, hng⟩)
          · exact List.mem_append_right _ (mem_keepG.2 ⟨hz, hng⟩)
        · rcases List.mem_append.1 hy with hy | hy
          · exact hl y (List.mem_append_left _ ((h.there y).1 hy).1.1) h0
          · exact hl y (List.mem_append_right _ (mem_keepG.1 hy).1) h0
  · rw [if_neg hk] at hd
    have hC : comeD d = [] := by unfold comeD; rw [if_neg hk]
    have hG : goD d = takesD d := by unfold goD; rw [if_neg hk]
    rw [hC, hG, List.append_nil]
    split at hd
    · simp at hd
    · simp only [Option.some.injEq, Prod.mk.injEq] at hd
      obtain ⟨rfl, rfl⟩ := hd
      refine ⟨?_, insAll_up h.up _, fun z => ?_, fun m => ?_⟩
      · unfold takeL
        exact h.rise.filter _
      · rw [mem_takeL, h.there z, insAll_iff]
        constructor
        · rintro ⟨⟨h1, h2⟩, h3⟩
          exact ⟨h1, fun e => e.elim h2 h3⟩
        · rintro ⟨h1, h2⟩
          exact ⟨⟨h1, fun e => h2 (Or.inl e)⟩, fun e => h2 (Or.inr e)⟩
      · rw [insAll_iff, List.mem_append, h.gone m]

theorem sum_all : ∀ {ds : List Dd} {l l' : List At} {g g' : List Mk} {S : List At} {G : List Mk}, Sum l g S G → doAll l g ds = some (l', g') → Sum l' g' (S ++ ds.flatMap comeD) (G ++ ds.flatMap goD)
  | [], l, l', g, g', S, G, h, hd => by
    simp only [doAll, Option.some.injEq, Prod.mk.injEq] at hd
    obtain ⟨rfl, rfl⟩ := hd
    simpa using h
  | d :: ds, l, l', g, g', S, G, h, hd => by
    simp only [doAll] at hd
    obtain ⟨s, h1, h2⟩ := Option.bind_eq_some_iff.1 hd
    have := sum_all (sum_do h h1) h2
    simpa [List.append_assoc] using this

/-- those that were done already, done ahead of all once more: the same state, if none has an error -/
theorem doAll_any {l l1 l2 : List At} {g g1 g2 : List Mk} {ds es : List Dd} (hok : OkS l g) (h1 : doAll l g ds = some (l1, g1)) (hs : ∀ d ∈ es, d ∈ ds) (h2 : doAll l g (es ++ ds) = some (l2, g2)) : l1 = l2 ∧ g1 = g2 := by
  have s1 := sum_all (sum_new hok) h1
  have s2 := sum_all (sum_new hok) h2
  have hG : ∀ m, m ∈ g1 ↔ m ∈ g2 := fun m => by
    rw [s1.gone, s2.gone]
    simp only [List.mem_append, List.mem_flatMap]
    constructor
    · rintro (h | ⟨d, hd, h⟩)
      · exact Or.inl h
      · exact Or.inr ⟨d, Or.inr hd, h⟩
    · rintro (h | ⟨d, hd | hd, h⟩)
      · exact Or.inl h
      · exact Or.inr ⟨d, hs d hd, h⟩
      · exact Or.inr ⟨d, hd, h⟩
  refine ⟨rises_eq s1.rise s2.rise fun z => ?_, up_eq s1.up s2.up hG⟩
  rw [s1.there, s2.there, hG]
  refine and_congr_left fun _ => least_congr (fun x => ?_) z
  simp only [List.mem_append, List.mem_flatMap]
  constructor
  · rintro (h | ⟨d, hd, h⟩)
    · exact Or.inl h
    · exact Or.inr ⟨d, Or.inr hd, h⟩
  · rintro (h | ⟨d, hd | hd, h⟩)
    · exact Or.inl h
    · exact Or.inr ⟨d, hs d hd, h⟩
    · exact Or.inr ⟨d, hd, h⟩
end Go.Proofs.Ytlpfnpkmgkbngac
