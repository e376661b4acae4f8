/- What is gone stays so; what is there was there, or was put. No Go text is walked here. -/
import Derived.Test.YtnhjebdlcbhkcaeGreatAllC
import Derived.Test.YtnhjebdlcbhkcaeGreatMarksOf
import Derived.Test.YtnhjebdlcbhkcaeGreatDPut
namespace Go.Proofs.YtnhjebdlcbhkcaeGreat
open Go.RowKit

theorem ordM_refl (m : Mk) : ordM m.1 m.2 m.1 m.2 = 0 := cmpM.refl m
theorem hasGone_mem {g : List Mk} {m : Mk} (h : m ∈ g) : hasGone g m.1 m.2 = true := by
  unfold hasGone
  rw [List.any_eq_true]
  exact ⟨m, h, by rw [ordM_refl]; rfl⟩
theorem insG_mem {g : List Mk} {m x : Mk} (h : x ∈ g) : x ∈ insG g m := by
  unfold insG
  split
  · exact h
  · rw [← List.take_append_drop (lowM g m.1 m.2) g] at h
    rcases List.mem_append.1 h with h | h
    · exact List.mem_append.2 (Or.inl h)
    · exact List.mem_append.2 (Or.inr (List.mem_cons_of_mem _ h))
theorem insAll_mem {x : Mk} : ∀ {ms g : List Mk}, x ∈ g → x ∈ ms.foldl insG g
  | [], _, h => h
  | m :: ms, g, h => insAll_mem (ms := ms) (g := insG g m) (insG_mem h)

def putsM (d : Dd) : List Mk := if d.kind = 1 then marksD d else []
def putsTo (ds : List Dd) : List Mk := ds.flatMap putsM
theorem doD_gone {l l' : List At} {g g' : List Mk} {d : Dd} (h : doD l g d = some (l', g')) : ∀ m ∈ g, m ∈ g' := by
  intro m hm
  unfold doD at h
  split at h
  · split at h
    · simp at h
    · cases h; exact hm
  · split at h
    · simp at h
    · cases h; exact insAll_mem hm

theorem doD_there {l l' : List At} {g g' : List Mk} {d : Dd} (hok : OkS l g) (h : doD l g d = some (l', g')) : ∀ z ∈ l', z ∈ l ∨ (z.path, z.clock) ∈ putsM d := by
  intro z hz
  unfold doD at h
  split at h
  · rename_i hk
    split at h
    · simp at h
    · cases h
      have hz' := (((putL_least hok.atoms.rise (putsD g d)).2 z).1 hz).1
      rcases List.mem_append.1 hz' with hz1 | hz1
      · exact Or.inl hz1
      · right
        have hz2 := (List.mem_filter.1 hz1).1
        unfold putsM marksD
        rw [if_pos hk, if_pos hk]
        obtain ⟨i, hi, rfl⟩ := List.getElem_of_mem hz2
        rw [atomsR_len] at hi
        rw [atomsR_get hi]
        unfold nextsL
        exact List.mem_map.2 ⟨i, List.mem_range.2 hi, rfl⟩
  · split at h
    · simp at h
    · cases h
      exact Or.inl (List.mem_filter.1 hz).1

theorem doAll_facts : ∀ {ds : List Dd} {l l' : List At} {g g' : List Mk}, OkS l g → (∀ d ∈ ds, chkD d = 0) → doAll l g ds = some (l', g') → (∀ m ∈ g, m ∈ g') ∧ (∀ z ∈ l', z ∈ l ∨ (z.path, z.clock) ∈ putsTo ds) ∧ OkS l' g'
  | [], l, l', g, g', hok, _, h => by
    cases h
    exact ⟨fun m hm => hm, fun z hz => Or.inl hz, hok⟩
  | d :: ds, l, l', g, g', hok, hc, h => by
    simp only [doAll] at h
    cases hd : doD l g d with
    | none => rw [hd] at h; simp at h
    | some s =>
      obtain ⟨l1, g1⟩ := s
      rw [hd] at h
      have hok1 := doD_ok hok (hc d (List.mem_cons_self ..)) hd
      obtain ⟨h1, h2, h3⟩ := doAll_facts hok1 (fun x hx => hc x (List.mem_cons_of_mem _ hx)) h
      refine ⟨fun m hm => h1 m (doD_gone hd m hm), fun z hz => ?_, h3⟩
      have e : putsTo (d :: ds) = putsM d ++ putsTo ds := rfl
      rw [e]
      rcases h2 z hz with hz | hz
      · rcases doD_there hok hd z hz with hz | hz
        · exact Or.inl hz
        · exact Or.inr (List.mem_append.2 (Or.inl hz))
      · exact Or.inr (List.mem_append.2 (Or.inr hz))

theorem hasMk_mem {l : List At} {z : At} (h : z ∈ l) : hasMk l z.path z.clock = true := by
  unfold hasMk
  rw [List.any_eq_true]
  exact ⟨z, h, by rw [ordM_refl (z.path, z.clock)]; rfl⟩

end Go.Proofs.YtnhjebdlcbhkcaeGreat

namespace Go.Proofs.YtnhjebdlcbhkcaeGreat
open Go.RowKit

theorem hasGone_iff {g : List Mk} {p : List (Int × Int)} {c : Int} : hasGone g p c = true ↔ (p, c) ∈ g := by
  constructor
  · intro h
    unfold hasGone at h
    obtain ⟨x, hx, h0⟩ := List.any_eq_true.1 h
    obtain ⟨e1, e2⟩ := ordM_zero (by simpa using h0)
    have e : x = (p, c) := by rw [← e1, ← e2]
    rw [← e]; exact hx
  · intro h
    exact hasGone_mem h

theorem insG_mem_self (g : List Mk) (m : Mk) : m ∈ insG g m := by
  unfold insG
  by_cases h : hasGone g m.1 m.2 = true
  · rw [if_pos h]; exact hasGone_iff.1 h
  · rw [if_neg h]; simp
theorem insAll_iff {x : Mk} : ∀ {ms g : List Mk}, x ∈ ms.foldl insG g ↔ x ∈ g ∨ x ∈ ms := by
  intro ms
  induction ms with
  | nil => intro g; simp
  | cons m ms ih =>
    intro g
    rw [List.foldl_cons, ih]
    constructor
    · rintro (h | h)
      · rcases mem_insG h with h | h
        · exact Or.inl h
        · exact Or.inr (by rw [h]; exact List.mem_cons_self ..)
      · exact Or.inr (List.mem_cons_of_mem _ h)
    · rintro (h | h)
      · exact Or.inl (insG_mem h)
      · rcases List.mem_cons.1 h with h | h
        · exact Or.inl (by rw [h]; exact insG_mem_self g m)
        · exact Or.inr h

def comeD (d : Dd) : List At := if d.kind = 1 then atomsR d.rp d.rc d.rt else []
def goD (d : Dd) : List Mk := if d.kind = 1 then [] else takesD d

structure Sum (l : List At) (g : List Mk) (S : List At) (G : List Mk) : Prop where
  rise : l.Pairwise (fun x y => ordA x y < 0)
  up : Up g
  there : ∀ z, z ∈ l ↔ Least S z ∧ (z.path, z.clock) ∉ g
  gone : ∀ m, m ∈ g ↔ m ∈ G

theorem ordA_mk {x y : At} (h : ordA x y = 0) : (x.path, x.clock) = (y.path, y.clock) := by
  obtain ⟨e1, e2⟩ := ordA_zero h
  rw [e1, e2]

theorem mem_keepG {g : List Mk} {l : List At} {z : At} : z ∈ keepG g l ↔ z ∈ l ∧ (z.path, z.clock) ∉ g := by
  unfold keepG
  rw [List.mem_filter, ← hasGone_iff]
  simp [goneA]
theorem mem_takeL {ms : List Mk} {l : List At} {z : At} : z ∈ takeL l ms ↔ z ∈ l ∧ (z.path, z.clock) ∉ ms := by
  unfold takeL
  rw [List.mem_filter, ← hasGone_iff]
  simp

theorem sum_new {l : List At} {g : List Mk} (h : OkS l g) : Sum l g l g := by
  refine ⟨h.atoms.rise, h.up, fun z => ?_, fun m => Iff.rfl⟩
  rw [rises_least h.atoms.rise]
  constructor
  · intro hz
    refine ⟨hz, fun hg => ?_⟩
    have h1 := h.apart _ hg
    have h2 := hasMk_mem hz
    rw [h1] at h2
    simp at h2
  · exact fun hz => hz.1

theorem sum_do {l l' : List At} {g g' : List Mk} {S : List At} {G : List Mk} {d : Dd} (h : Sum l g S G) (hd : doD l g d = some (l', g')) : Sum l' g' (S ++ comeD d) (G ++ goD d) := by
  unfold doD at hd
  by_cases hk : d.kind = 1
  · rw [if_pos hk] at hd
    have hC : comeD d = atomsR d.rp d.rc d.rt := by unfold comeD; rw [if_pos hk]
    have hG : goD d = [] := by unfold goD; rw [if_pos hk]
    rw [hC, hG, List.append_nil]
    split at hd
    · simp at hd
    · simp only [Option.some.injEq, Prod.mk.injEq] at hd
      obtain ⟨rfl, rfl⟩ := hd
      obtain ⟨hr, hm⟩ := putL_least h.rise (putsD g d)
      refine ⟨hr, h.up, fun z => ?_, h.gone⟩
      rw [hm z]
      unfold putsD
      generalize atomsR d.rp d.rc d.rt = m
      constructor
      · rintro ⟨hz, hl⟩
        have hng : (z.path, z.clock) ∉ g := by
          rcases List.mem_append.1 hz with hz | hz
          · exact ((h.there z).1 hz).2
          · exact (mem_keepG.1 hz).2
        refine ⟨⟨?_, fun y hy h0 => ?_⟩, hng⟩
        · rcases List.mem_append.1 hz with hz | hz
          · exact List.mem_append_left _ ((h.there z).1 hz).1.1
          · exact List.mem_append_right _ (mem_keepG.1 hz).1
        · rcases List.mem_append.1 hy with hy | hy
          · obtain ⟨z', hz', h0', hle⟩ := least_some S y hy
            have e0 : ordA z z' = 0 := ordA_trans0 h0 (ordA_symm0 h0')
            have hz'l : z' ∈ l := (h.there z').2 ⟨hz', by rw [← ordA_mk e0]; exact hng⟩
            have := hl z' (List.mem_append_left _ hz'l) e0
            omega
          · exact hl y (List.mem_append_right _ (mem_keepG.2 ⟨hy, by rw [← ordA_mk h0]; exact hng⟩)) h0
      · rintro ⟨⟨hz, hl⟩, hng⟩
        refine ⟨?_, fun y hy h0 => ?_⟩
        · rcases List.mem_append.1 hz with hz | hz
          · exact List.mem_append_left _ ((h.there z).2 ⟨⟨hz, fun y hy => hl y (List.mem_append_left _ hy)⟩, hng⟩)
          · exact List.mem_append_right _ (mem_keepG.2 ⟨hz, hng⟩)
        · rcases List.mem_append.1 hy with hy | hy
          · exact hl y (List.mem_append_left _ ((h.there y).1 hy).1.1) h0
          · exact hl y (List.mem_append_right _ (mem_keepG.1 hy).1) h0
  · rw [if_neg hk] at hd
    have hC : comeD d = [] := by unfold comeD; rw [if_neg hk]
    have hG : goD d = takesD d := by unfold goD; rw [if_neg hk]
    rw [hC, hG, List.append_nil]
    split at hd
    · simp at hd
    · simp only [Option.some.injEq, Prod.mk.injEq] at hd
      obtain ⟨rfl, rfl⟩ := hd
      refine ⟨?_, insAll_up h.up _, fun z => ?_, fun m => ?_⟩
      · unfold takeL
        exact h.rise.filter _
      · rw [mem_takeL, h.there z, insAll_iff]
        constructor
        · rintro ⟨⟨h1, h2⟩, h3⟩
          exact ⟨h1, fun e => e.elim h2 h3⟩
        · rintro ⟨h1, h2⟩
          exact ⟨⟨h1, fun e => h2 (Or.inl e)⟩, fun e => h2 (Or.inr e)⟩
      · rw [insAll_iff, List.mem_append, h.gone m]

theorem sum_all : ∀ {ds : List Dd} {l l' : List At} {g g' : List Mk} {S : List At} {G : List Mk}, Sum l g S G → doAll l g ds = some (l', g') → Sum l' g' (S ++ ds.flatMap comeD) (G ++ ds.flatMap goD)
  | [], l, l', g, g', S, G, h, hd => by
    simp only [doAll, Option.some.injEq, Prod.mk.injEq] at hd
    obtain ⟨rfl, rfl⟩ := hd
    simpa using h
  | d :: ds, l, l', g, g', S, G, h, hd => by
    simp only [doAll] at hd
    obtain ⟨s, h1, h2⟩ := Option.bind_eq_some_iff.1 hd
    have := sum_all (sum_do h h1) h2
    simpa [List.append_assoc] using this

end Go.Proofs.YtnhjebdlcbhkcaeGreat

namespace Go.Proofs.YtnhjebdlcbhkcaeGreat
open Go.RowKit

def takeDd (r : Rn) : Dd := ⟨2, [], 0, ⟨#[]⟩, r.path, r.clock, (r.text.size : Int)⟩
def putDd (r : Rn) : Dd := ⟨1, r.path, r.clock, r.text, [], 0, 0⟩

theorem runsL_each {l : List At} (ok : OkL l) : ∀ r ∈ runsL l, chkRun r.path r.clock r.text = 0 := by
  intro r hr
  obtain ⟨p, hp, rfl⟩ := List.mem_map.1 hr
  exact (pc_run ok ((pstInv l l.length (Nat.le_refl _)).each p hp)).1

theorem flatMap_on {α β : Type} {f g : α → List β} : ∀ {l : List α}, (∀ x ∈ l, f x = g x) → l.flatMap f = l.flatMap g
  | [], _ => rfl
  | x :: l, h => by
    rw [List.flatMap_cons, List.flatMap_cons, h x (List.mem_cons_self ..), flatMap_on fun y hy => h y (List.mem_cons_of_mem _ hy)]

theorem runsL_cat {l : List At} (ok : OkL l) : (runsL l).flatMap (fun r => atomsR r.path r.clock r.text) = l := by
  have inv := pstInv l l.length (Nat.le_refl _)
  unfold runsL
  rw [List.flatMap_map, flatMap_on (g := fun p => part l p.1 (p.2 - p.1)) (fun p hp => (pc_run ok (inv.each p hp)).2), inv.cat]
  rcases Nat.eq_zero_or_pos l.length with h0 | h0
  · rw [List.eq_nil_of_length_eq_zero h0, List.take_nil]
  · rw [inv.shut rfl h0, List.take_length]

theorem putDd_chk {r : Rn} (h : chkRun r.path r.clock r.text = 0) : chkD (putDd r) = 0 := by
  have e : chkD (putDd r) = chkPutD (putDd r) := rfl
  rw [e]
  unfold chkPutD
  rw [if_neg (by simpa using show chkRun (putDd r).rp (putDd r).rc (putDd r).rt = 0 from h), if_neg (by simp [putDd, anyM])]

def mkA (x : At) : Mk := (x.path, x.clock)

theorem comeD_puts {l : List At} (ok : OkL l) : ((runsL l).map putDd).flatMap comeD = l := by
  rw [List.flatMap_map]
  exact runsL_cat ok

theorem goD_puts (rs : List Rn) : (rs.map putDd).flatMap goD = [] := by
  induction rs with
  | nil => rfl
  | cons r rs ih => rw [List.map_cons, List.flatMap_cons, ih]; rfl

theorem putL_lenE : ∀ (m l : List At), (putL l m).length ≤ l.length + m.length
  | [], l => by simp [putL]
  | x :: m, l => by
    have h1 := putL_lenE m (putA x l false)
    have h2 : (putA x l false).length ≤ l.length + 1 := by simpa using putA_len x l false
    show (putL (putA x l false) m).length ≤ _
    rw [List.length_cons]
    omega

theorem puts_some : ∀ {rs : List Rn} {l : List At} {g : List Mk}, l.length + (rs.flatMap fun r => atomsR r.path r.clock r.text).length ≤ 300 → ∃ l', doAll l g (rs.map putDd) = some (l', g)
  | [], l, _, _ => ⟨l, rfl⟩
  | r :: rs, l, g, h => by
    rw [List.flatMap_cons, List.length_append] at h
    have hl : (putL l (putsD g (putDd r))).length ≤ l.length + (atomsR r.path r.clock r.text).length := by
      have h1 := putL_lenE (putsD g (putDd r)) l
      have h2 : (putsD g (putDd r)).length ≤ (atomsR r.path r.clock r.text).length := List.length_filter_le ..
      omega
    have e : doD l g (putDd r) = some (putL l (putsD g (putDd r)), g) := by
      unfold doD
      rw [if_pos (show (putDd r).kind = 1 from rfl), if_neg (by omega)]
    rw [List.map_cons]
    unfold doAll
    rw [e]
    exact puts_some (by show (putL l (putsD g (putDd r))).length + _ ≤ 300; omega)

theorem put_does {l a : List At} {g : List Mk} (hok : OkS l g) (oka : OkL a) (i : Nat) (h300 : l.length + a.length ≤ 300)
   (lo : ∀ x ∈ l.take i, ∀ y ∈ a, ordA x y < 0) (hi : ∀ x ∈ a, ∀ y ∈ l.drop i, ordA x y < 0) (hg : ∀ x ∈ a, mkA x ∉ g) :
    doAll l g ((runsL a).map putDd) = some (l.take i ++ (a ++ l.drop i), g) := by
  obtain ⟨l', h⟩ := puts_some (rs := runsL a) (l := l) (g := g) (by rw [runsL_cat oka]; exact h300)
  have S := sum_all (sum_new hok) h
  rw [goD_puts, List.append_nil, comeD_puts oka] at S
  have hr := hok.atoms.rise
  rw [← List.take_append_drop i l] at hr
  obtain ⟨r1, r2, r3⟩ := List.pairwise_append.1 hr
  have hT : (l.take i ++ (a ++ l.drop i)).Pairwise (fun x y => ordA x y < 0) := by
    refine List.pairwise_append.2 ⟨r1, List.pairwise_append.2 ⟨oka.rise, r2, hi⟩, fun x hx y hy => ?_⟩
    rcases List.mem_append.1 hy with hy | hy
    · exact lo x hx y hy
    · exact r3 x hx y hy
  have hmem : ∀ x, x ∈ l ++ a ↔ x ∈ l.take i ++ (a ++ l.drop i) := by
    intro x
    have e : x ∈ l ↔ x ∈ l.take i ∨ x ∈ l.drop i := by
      conv => lhs; rw [← List.take_append_drop i l]
      exact List.mem_append
    simp only [List.mem_append, e]
    constructor
    · rintro ((h | h) | h)
      · exact Or.inl h
      · exact Or.inr (Or.inr h)
      · exact Or.inr (Or.inl h)
    · rintro (h | h | h)
      · exact Or.inl (Or.inl h)
      · exact Or.inr h
      · exact Or.inl (Or.inr h)
  have e : l' = l.take i ++ (a ++ l.drop i) := by
    refine rises_eq S.rise hT fun z => ?_
    rw [S.there z, least_congr hmem z, rises_least hT z]
    refine ⟨fun h => h.1, fun hz => ⟨hz, fun hm => ?_⟩⟩
    rcases List.mem_append.1 ((hmem z).2 hz) with h1 | h1
    · have h2 := hok.apart _ hm
      rw [hasMk_mem h1] at h2
      cases h2
    · exact hg z h1 hm
  rw [h, e]
end Go.Proofs.YtnhjebdlcbhkcaeGreat
