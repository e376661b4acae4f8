/- Contract of the law StateDoes. -/
import Derived.Test.YtlpfnpkmgkbngabStIs
import Derived.Test.YtlpfnpkmgkbngabLawPut
import Derived.Test.YtlpfnpkmgkbngabSBeg
import Derived.Test.YtlpfnpkmgkbngabStateCk
namespace Go.Proofs.Ytlpfnpkmgkbngab
open Go.RowKit

/-- the state that came, and its error -/
def StP (l : List At) (g : List Mk) (ds : List Dd) (p : Option Addr) (n c : Nat) (q : Option Addr) (m d : Nat) (w : World) : Prop :=
  (errAll l g ds ≠ 0 ∧ p = none ∧ n = 0 ∧ c = 0 ∧ q = none ∧ m = 0 ∧ d = 0) ∨
  (errAll l g ds = 0 ∧ ∃ l' g', doAll l g ds = some (l', g') ∧ n = List.length l' ∧ m = List.length g' ∧ AtomsAt w p l' ∧ MarksAt w q g' ∧ l'.length ≤ maxLen ∧ g'.length ≤ maxLen)

theorem StP.below {l : List At} {g : List Mk} {ds : List Dd} {p q : Option Addr} {n c m d : Nat} {w w' : World} (h : StP l g ds p n c q m d w) (hb : Below w.heap.size w w') : StP l g ds p n c q m d w' := by
  rcases h with h | ⟨h0, l', g', h1, h2, h3, h4, h5, h6, h7⟩
  · exact Or.inl h
  · exact Or.inr ⟨h0, l', g', h1, h2, h3, h4.below hb (Nat.le_refl _), h5.below hb (Nat.le_refl _), h6, h7⟩

theorem AllPost.stP {l : List At} {g : List Mk} {ds : List Dd} {base : Nat} {e : Ending} {w : World} (h : AllPost l g ds base e w) : ∃ p n c q m d, e = .returned (.tuple #[.agg #[.slice p n c, .slice q m d], .int .i64 (errAll l g ds)]) ∧ StP l g ds p n c q m d w := by
  rcases h with ⟨hne, rfl⟩ | ⟨h0, l', g', p, c, q, d, hok, hda, hok', rfl, hP, hM⟩
  · exact ⟨none, 0, 0, none, 0, 0, rfl, Or.inl ⟨hne, rfl, rfl, rfl, rfl, rfl, rfl⟩⟩
  · obtain ⟨p1, c1, e1, hat, _⟩ := hP.owns.atoms (Below.refl _ _)
    cases e1
    obtain ⟨p2, c2, e2, hmk, _⟩ := hM.marks
    cases e2
    have hl3 := hok'.atoms.len
    have hg6 := hok'.len
    exact ⟨p, l'.length, c, q, g'.length, d, by rw [h0], Or.inr ⟨h0, l', g', hda, rfl, rfl, hat, hmk, by unfold maxLen; omega, by unfold maxLen; omega⟩⟩

theorem AllR.stP {l : List At} {g : List Mk} {ds : List Dd} {e : Ending} {w : World} (h : AllR l g ds e w) : ∃ p n c q m d, e = .returned (.tuple #[.agg #[.slice p n c, .slice q m d], .int .i64 (errAll l g ds)]) ∧ StP l g ds p n c q m d w := by
  rcases h with ⟨hne, rfl⟩ | ⟨h0, l', g', p, c, q, d, hda, hok', rfl, hat, hmk⟩
  · exact ⟨none, 0, 0, none, 0, 0, rfl, Or.inl ⟨hne, rfl, rfl, rfl, rfl, rfl, rfl⟩⟩
  · have hl3 := hok'.atoms.len
    have hg6 := hok'.len
    exact ⟨p, l'.length, c, q, g'.length, d, by rw [h0], Or.inr ⟨h0, l', g', hda, rfl, rfl, hat, hmk, by unfold maxLen; omega, by unfold maxLen; omega⟩⟩

theorem stateIs_two {l : List At} {g : List Mk} {ds : List Dd} {p q p' q' : Option Addr} {n c m d n' c' m' d' : Nat} {w : World} (h : StP l g ds p n c q m d w) (h' : StP l g ds p' n' c' q' m' d' w) :
    Calls Try.prog 32 #[.agg #[.slice p n c, .slice q m d], .int .i64 (errAll l g ds), .int .i64 (errAll l g ds), .agg #[.slice p' n' c', .slice q' m' d']] w fun e w' => e = .returned (.bool true) ∧ Below w.heap.size w w' := by
  rcases h with ⟨hne, rfl, rfl, rfl, rfl, rfl, rfl⟩ | ⟨h0, l1, g1, h1, rfl, rfl, h4, h5, h6, h7⟩
  · exact stateIs_err _ _ _ _ _ _ _ w hne
  · rcases h' with ⟨hne, _⟩ | ⟨_, l2, g2, k1, rfl, rfl, k4, k5, _, _⟩
    · exact absurd h0 hne
    · obtain ⟨rfl, rfl⟩ : l1 = l2 ∧ g1 = g2 := by rw [h1] at k1; cases k1; exact ⟨rfl, rfl⟩
      rw [h0]
      exact stateIs_ok p p' q q' c c' d d' l1 g1 w h6 h7 h4 k4 h5 k5

/-- what the law was handed, in its variables -/
structure LawAt (w : World) (Z : Nat) (a b r : Option Addr) (cap cap' : Nat) (l : List At) (g : List Mk) (ds : List Dd) (d : Dd) (p q : Option Addr) (cp cq : Nat) : Prop where
  s0 : w.cell? ⟨Z, 0, none⟩ = some (.slice a l.length cap)
  s1 : w.cell? ⟨Z, 1, none⟩ = some (.slice b g.length cap')
  c0 : w.cell? ⟨Z + 1, 0, none⟩ = some (.int .i64 d.kind)
  c1 : w.cell? ⟨Z + 1, 1, none⟩ = some (.slice p d.rp.length cp)
  c2 : w.cell? ⟨Z + 1, 2, none⟩ = some (.int .i64 d.rc)
  c3 : w.cell? ⟨Z + 1, 3, none⟩ = some (.string d.rt)
  c4 : w.cell? ⟨Z + 1, 4, none⟩ = some (.slice q d.mp.length cq)
  c5 : w.cell? ⟨Z + 1, 5, none⟩ = some (.int .i64 d.mc)
  c6 : w.cell? ⟨Z + 1, 6, none⟩ = some (.int .i64 d.many)
  lt : Z + 1 < w.heap.size
  atoms : AtomsAt w a l
  gone : MarksAt w b g
  deeds : DeedsAt w r ds
  deed : DdAt w d p q

theorem LawAt.below {w w' : World} {Z : Nat} {a b r : Option Addr} {cap cap' : Nat} {l : List At} {g : List Mk} {ds : List Dd} {d : Dd} {p q : Option Addr} {cp cq : Nat} (h : LawAt w Z a b r cap cap' l g ds d p q cp cq) (hb : Below w.heap.size w w') : LawAt w' Z a b r cap cap' l g ds d p q cp cq := by
  have lt := h.lt
  have lt0 : Z < w.heap.size := by omega
  exact ⟨(hb.cell (p := ⟨Z, 0, none⟩) lt0).trans h.s0, (hb.cell (p := ⟨Z, 1, none⟩) lt0).trans h.s1, (hb.cell (p := ⟨Z + 1, 0, none⟩) lt).trans h.c0, (hb.cell (p := ⟨Z + 1, 1, none⟩) lt).trans h.c1, (hb.cell (p := ⟨Z + 1, 2, none⟩) lt).trans h.c2, (hb.cell (p := ⟨Z + 1, 3, none⟩) lt).trans h.c3, (hb.cell (p := ⟨Z + 1, 4, none⟩) lt).trans h.c4, (hb.cell (p := ⟨Z + 1, 5, none⟩) lt).trans h.c5, (hb.cell (p := ⟨Z + 1, 6, none⟩) lt).trans h.c6, Nat.lt_of_lt_of_le lt hb.size, h.atoms.below hb (Nat.le_refl _), h.gone.below hb (Nat.le_refl _), h.deeds.below hb, h.deed.below hb⟩

/-- a state that came, in its variable -/
structure AnsAt (w : World) (T : Nat) (l : List At) (g : List Mk) (ds : List Dd) (p : Option Addr) (n c : Nat) (q : Option Addr) (m d : Nat) : Prop where
  c0 : w.cell? ⟨T, 0, none⟩ = some (.slice p n c)
  c1 : w.cell? ⟨T, 1, none⟩ = some (.slice q m d)
  lt : T < w.heap.size
  st : StP l g ds p n c q m d w

theorem AnsAt.below {w w' : World} {T : Nat} {l : List At} {g : List Mk} {ds : List Dd} {p q : Option Addr} {n c m d : Nat} (h : AnsAt w T l g ds p n c q m d) (hb : Below w.heap.size w w') : AnsAt w' T l g ds p n c q m d :=
  ⟨(hb.cell (p := ⟨T, 0, none⟩) h.lt).trans h.c0, (hb.cell (p := ⟨T, 1, none⟩) h.lt).trans h.c1, Nat.lt_of_lt_of_le h.lt hb.size, h.st.below hb⟩

theorem AnsAt.new {w : World} {l : List At} {g : List Mk} {ds : List Dd} {p q : Option Addr} {n c m d : Nat} (h : StP l g ds p n c q m d w) : AnsAt (w.alloc (Obj.cells #[.slice p n c, .slice q m d] 51)) w.heap.size l g ds p n c q m d :=
  ⟨by simp, by simp, by simp, h.below ((Below.refl w.heap.size w).alloc (Nat.le_refl _) _)⟩

set_option maxRecDepth 100000 in
set_option maxHeartbeats 8000000 in
theorem stateDoes_ok (a b r : Option Addr) (cap cap' cr : Nat) (l : List At) (g : List Mk) (ds : List Dd) (d : Dd) (p q : Option Addr) (cp cq : Nat) (w : World) (hl : l.length ≤ maxLen) (hn : ds.length ≤ maxLen) (h : AtomsAt w a l) (h' : MarksAt w b g) (hr : DeedsAt w r ds) (hd : DdAt w d p q) (h1 : -9223372036854775808 ≤ d.many) (h2 : d.many ≤ 9223372036854775807) :
    Calls Try.prog 6 #[.agg #[.slice a l.length cap, .slice b g.length cap'], .slice r ds.length cr, ddV d p q cp cq] w fun e w' => e = .returned (.bool true) ∧ Below w.heap.size w w' := by
  unfold ddV
  have hB := ((Below.refl w.heap.size w).alloc (Nat.le_refl _) (Obj.cells #[.slice a l.length cap, .slice b g.length cap'] 51)).alloc (by simp) (Obj.cells #[.int .i64 d.kind, .slice p d.rp.length cp, .int .i64 d.rc, .string d.rt, .slice q d.mp.length cq, .int .i64 d.mc, .int .i64 d.many] 54)
  have hc : ∀ i, i < 7 → ((w.alloc (Obj.cells #[.slice a l.length cap, .slice b g.length cap'] 51)).alloc (Obj.cells #[.int .i64 d.kind, .slice p d.rp.length cp, .int .i64 d.rc, .string d.rt, .slice q d.mp.length cq, .int .i64 d.mc, .int .i64 d.many] 54)).cell? ⟨w.heap.size + 1, i, none⟩ = #[.int .i64 d.kind, .slice p d.rp.length cp, .int .i64 d.rc, .string d.rt, .slice q d.mp.length cq, .int .i64 d.mc, .int .i64 d.many][i]? := fun i hi => by simp
  have hs : ∀ i, i < 2 → ((w.alloc (Obj.cells #[.slice a l.length cap, .slice b g.length cap'] 51)).alloc (Obj.cells #[.int .i64 d.kind, .slice p d.rp.length cp, .int .i64 d.rc, .string d.rt, .slice q d.mp.length cq, .int .i64 d.mc, .int .i64 d.many] 54)).cell? ⟨w.heap.size, i, none⟩ = #[.slice a l.length cap, .slice b g.length cap'][i]? := fun i hi => by
    have hb2 := (Below.refl (w.alloc (Obj.cells #[.slice a l.length cap, .slice b g.length cap'] 51)).heap.size (w.alloc (Obj.cells #[.slice a l.length cap, .slice b g.length cap'] 51))).alloc (Nat.le_refl _) (Obj.cells #[.int .i64 d.kind, .slice p d.rp.length cp, .int .i64 d.rc, .string d.rt, .slice q d.mp.length cq, .int .i64 d.mc, .int .i64 d.many] 54)
    exact (hb2.cell (p := ⟨w.heap.size, i, none⟩) (by simp)).trans (by simp)
  have hz : w.heap.size + 1 < ((w.alloc (Obj.cells #[.slice a l.length cap, .slice b g.length cap'] 51)).alloc (Obj.cells #[.int .i64 d.kind, .slice p d.rp.length cp, .int .i64 d.rc, .string d.rt, .slice q d.mp.length cq, .int .i64 d.mc, .int .i64 d.many] 54)).heap.size := by simp
  replace h := h.below hB (Nat.le_refl _)
  replace h' := h'.below hB (Nat.le_refl _)
  replace hr := hr.below hB
  replace hd := hd.below hB
  have c0 := hc 0 (by decide)
  have c1 := hc 1 (by decide)
  have c2 := hc 2 (by decide)
  have c3 := hc 3 (by decide)
  have c4 := hc 4 (by decide)
  have c5 := hc 5 (by decide)
  have c6 := hc 6 (by decide)
  have s0 := hs 0 (by decide)
  have s1 := hs 1 (by decide)
  simp only [List.getElem?_toArray, List.getElem?_cons_succ, List.getElem?_cons_zero] at c0 c1 c2 c3 c4 c5 c6 s0 s1
  clear hc hs
  go_enter Try.func6, Try.ntmps6
  go_upto_region 1 with fail
  generalize (w.alloc (Obj.cells #[.slice a l.length cap, .slice b g.length cap'] 51)).alloc (Obj.cells #[.int .i64 d.kind, .slice p d.rp.length cp, .int .i64 d.rc, .string d.rt, .slice q d.mp.length cq, .int .i64 d.mc, .int .i64 d.many] 54) = W at hB hz c0 c1 c2 c3 c4 c5 c6 s0 s1 h h' hr hd ⊢
  generalize hzz : w.heap.size = Z at *
  have HZ := hidE hzz
  clear hzz
  have hsz : Z ≤ W.heap.size := by omega
  have HL : Hid (LawAt W Z a b r cap cap' l g ds d p q cp cq) := ⟨s0, s1, c0, c1, c2, c3, c4, c5, c6, hz, h, h', hr, hd⟩
  have HC := hidE (stateDo_ok a b cap cap' l g d p q cp cq W hl h h' hd h1 h2)
  unfold ddV at HC
  clear h h' hr hd hz
  go_wp2_with fail
  refine HC.out.mono ?_
  rintro e w1 ⟨hb, hp⟩
  clear HC
  obtain ⟨p1, n1, k1, q1, m1, j1, rfl, hP⟩ := hp.stP
  clear hp s0 s1 c0 c1 c2 c3 c4 c5 c6
  replace HL := hidE (HL.out.below hb)
  replace hB := hB.thru hb hsz
  replace hsz := Nat.le_trans hsz hb.size
  have hA := AnsAt.new hP
  have hbn := (Below.refl w1.heap.size w1).alloc (Nat.le_refl _) (Obj.cells #[.slice p1 n1 k1, .slice q1 m1 j1] 51)
  clear hb hP
  replace HL := hidE (HL.out.below hbn)
  replace hB := hB.thru hbn hsz
  replace hsz := Nat.le_trans hsz hbn.size
  go_upto_region 2 with fail
  generalize w1.alloc (Obj.cells #[.slice p1 n1 k1, .slice q1 m1 j1] 51) = W1 at hA hbn HL hB hsz ⊢
  generalize w1.heap.size = T1 at hA ⊢
  clear hbn
  have HA1 := hidE hA
  clear hA
  have HC := hidE (stateAll_ok a b r cap cap' cr l g ds W1 hl hn HL.out.atoms HL.out.gone HL.out.deeds)
  have s0 := HL.out.s0
  have s1 := HL.out.s1
  go_wp2_with fail
  refine HC.out.mono ?_
  rintro e w1 ⟨hb, hp⟩
  clear HC
  obtain ⟨p2, n2, k2, q2, m2, j2, rfl, hP⟩ := hp.stP
  clear hp s0 s1 
  replace HL := hidE (HL.out.below hb)
  replace HA1 := hidE (HA1.out.below hb)
  replace hB := hB.thru hb hsz
  replace hsz := Nat.le_trans hsz hb.size
  have hA := AnsAt.new hP
  have hbn := (Below.refl w1.heap.size w1).alloc (Nat.le_refl _) (Obj.cells #[.slice p2 n2 k2, .slice q2 m2 j2] 51)
  clear hb hP
  replace HL := hidE (HL.out.below hbn)
  replace HA1 := hidE (HA1.out.below hbn)
  replace hB := hB.thru hbn hsz
  replace hsz := Nat.le_trans hsz hbn.size
  go_upto_region 3 with fail
  generalize w1.alloc (Obj.cells #[.slice p2 n2 k2, .slice q2 m2 j2] 51) = W2 at hA hbn HL hB HA1 hsz ⊢
  generalize w1.heap.size = T2 at hA ⊢
  clear hbn
  have HA2 := hidE hA
  clear hA
  have s0 := HL.out.s0
  have s1 := HL.out.s1
  have c0 := HL.out.c0
  have c1 := HL.out.c1
  have c2 := HL.out.c2
  have c3 := HL.out.c3
  have c4 := HL.out.c4
  have c5 := HL.out.c5
  have c6 := HL.out.c6
  have hDs := deedsAt_one (cp := cp) (cq := cq) HL.out.deed h1 h2
  have hbn := (Below.refl W2.heap.size W2).alloc (Nat.le_refl _) (Obj.cells #[.int .i64 d.kind, .slice p d.rp.length cp, .int .i64 d.rc, .string d.rt, .slice q d.mp.length cq, .int .i64 d.mc, .int .i64 d.many] 54)
  have HC := hidE (allOf_ok a b _ cap cap' 1 l g [d] _ hl (by simp [maxLen]) (HL.out.atoms.below hbn (Nat.le_refl _)) (HL.out.gone.below hbn (Nat.le_refl _)) hDs)
  replace HL := hidE (HL.out.below hbn)
  replace HA1 := hidE (HA1.out.below hbn)
  replace HA2 := hidE (HA2.out.below hbn)
  replace hB := hB.thru hbn hsz
  replace hsz := Nat.le_trans hsz hbn.size
  clear hDs hbn
  go_wp2_with fail
  generalize W2.alloc (Obj.cells #[.int .i64 d.kind, .slice p d.rp.length cp, .int .i64 d.rc, .string d.rt, .slice q d.mp.length cq, .int .i64 d.mc, .int .i64 d.many] 54) = W2' at HC HL HA1 HA2 hB hsz ⊢
  refine HC.out.mono ?_
  rintro e w1 ⟨hb, hp⟩
  clear HC
  obtain ⟨p3, n3, k3, q3, m3, j3, rfl, hP⟩ := hp.stP
  clear hp s0 s1 c0 c1 c2 c3 c4 c5 c6
  replace HL := hidE (HL.out.below hb)
  replace HA1 := hidE (HA1.out.below hb)
  replace HA2 := hidE (HA2.out.below hb)
  replace hB := hB.thru hb hsz
  replace hsz := Nat.le_trans hsz hb.size
  have hA := AnsAt.new hP
  have hbn := (Below.refl w1.heap.size w1).alloc (Nat.le_refl _) (Obj.cells #[.slice p3 n3 k3, .slice q3 m3 j3] 51)
  clear hb hP
  replace HL := hidE (HL.out.below hbn)
  replace HA1 := hidE (HA1.out.below hbn)
  replace HA2 := hidE (HA2.out.below hbn)
  replace hB := hB.thru hbn hsz
  replace hsz := Nat.le_trans hsz hbn.size
  go_upto_region 4 with fail
  generalize w1.alloc (Obj.cells #[.slice p3 n3 k3, .slice q3 m3 j3] 51) = W3 at hA hbn HL hB HA1 HA2 hsz ⊢
  generalize w1.heap.size = T3 at hA ⊢
  clear hbn
  have HA3 := hidE hA
  clear hA
  have HC := hidE (allOf_ok a b r cap cap' cr l g ds W3 hl hn HL.out.atoms HL.out.gone HL.out.deeds)
  have s0 := HL.out.s0
  have s1 := HL.out.s1
  go_wp2_with fail
  refine HC.out.mono ?_
  rintro e w1 ⟨hb, hp⟩
  clear HC
  obtain ⟨p4, n4, k4, q4, m4, j4, rfl, hP⟩ := hp.stP
  clear hp s0 s1 
  replace HL := hidE (HL.out.below hb)
  replace HA1 := hidE (HA1.out.below hb)
  replace HA2 := hidE (HA2.out.below hb)
  replace HA3 := hidE (HA3.out.below hb)
  replace hB := hB.thru hb hsz
  replace hsz := Nat.le_trans hsz hb.size
  have hA := AnsAt.new hP
  have hbn := (Below.refl w1.heap.size w1).alloc (Nat.le_refl _) (Obj.cells #[.slice p4 n4 k4, .slice q4 m4 j4] 51)
  clear hb hP
  replace HL := hidE (HL.out.below hbn)
  replace HA1 := hidE (HA1.out.below hbn)
  replace HA2 := hidE (HA2.out.below hbn)
  replace HA3 := hidE (HA3.out.below hbn)
  replace hB := hB.thru hbn hsz
  replace hsz := Nat.le_trans hsz hbn.size
  go_upto_region 5 with fail
  generalize w1.alloc (Obj.cells #[.slice p4 n4 k4, .slice q4 m4 j4] 51) = W4 at hA hbn HL hB HA1 HA2 HA3 hsz ⊢
  generalize w1.heap.size = T4 at hA ⊢
  clear hbn
  have HA4 := hidE hA
  clear hA
  have z := fun d os => below_regrown W4 d os
  have s0 := cell_regrown HL.out.s0
  have s1 := cell_regrown HL.out.s1
  have c0 := cell_regrown HL.out.c0
  have c1 := cell_regrown HL.out.c1
  have c2 := cell_regrown HL.out.c2
  have c3 := cell_regrown HL.out.c3
  have c4 := cell_regrown HL.out.c4
  have c5 := cell_regrown HL.out.c5
  have c6 := cell_regrown HL.out.c6
  have x1 := cell_regrown HA1.out.c0
  have y1 := cell_regrown HA1.out.c1
  have x2 := cell_regrown HA2.out.c0
  have y2 := cell_regrown HA2.out.c1
  have x3 := cell_regrown HA3.out.c0
  have y3 := cell_regrown HA3.out.c1
  have x4 := cell_regrown HA4.out.c0
  have y4 := cell_regrown HA4.out.c1
  have HZZ := hidE z
  clear z
  have HB1 := hidE (fun W => stateBegun_true W)
  have HD1 := hidE (fun d' os => deed_any d p q cp cq _ (HL.out.deed.below (HZZ.out d' os)) h1 h2)
  have HD2 := hidE (fun d' os => checkDeed_any d p q cp cq _ (HL.out.deed.below (HZZ.out d' os)) h1 h2)
  have HS1 := hidE (fun d' os => stateCheck_any a b cap cap' l g _ hl (HL.out.atoms.below (HZZ.out d' os) (Nat.le_refl _)) (HL.out.gone.below (HZZ.out d' os) (Nat.le_refl _)))
  have HS2 := hidE (fun d' os => checkState_any a b cap cap' l g _ hl (HL.out.atoms.below (HZZ.out d' os) (Nat.le_refl _)) (HL.out.gone.below (HZZ.out d' os) (Nat.le_refl _)))
  have HI1 := hidE (fun d' os => stateIs_two (HA1.out.st.below (HZZ.out d' os)) (HA3.out.st.below (HZZ.out d' os)))
  have HI2 := hidE (fun d' os => stateIs_two (HA2.out.st.below (HZZ.out d' os)) (HA4.out.st.below (HZZ.out d' os)))
  unfold ddV at HD1 HD2
  generalize errAll l g ds = e2 at *
  generalize errAll l g [d] = e1 at *
  generalize chkD d = ed at *
  generalize chkS l g = es at *
  refine wp_region_quiet_below (by kernel_rfl) (by kernel_rfl) ?_
  repeat (first | go_big_quiet_step (first | (go_at_call 27; exact Calls.regrown_of (HB1.out _)) | (go_at_call 28; exact Calls.regrown_of (HD1.out _ _)) | (go_at_call 29; exact Calls.regrown_of (HD2.out _ _)) | (go_at_call 30; exact Calls.regrown_of (HS1.out _ _)) | (go_at_call 31; exact Calls.regrown_of (HS2.out _ _)) | (go_at_call 32; first | with_reducible exact Calls.regrown_of (HI1.out _ _) | with_reducible exact Calls.regrown_of (HI2.out _ _))) | quiet_step (first | (go_at_call 27; exact Calls.regrown_of (HB1.out _)) | (go_at_call 28; exact Calls.regrown_of (HD1.out _ _)) | (go_at_call 29; exact Calls.regrown_of (HD2.out _ _)) | (go_at_call 30; exact Calls.regrown_of (HS1.out _ _)) | (go_at_call 31; exact Calls.regrown_of (HS2.out _ _)) | (go_at_call 32; first | with_reducible exact Calls.regrown_of (HI1.out _ _) | with_reducible exact Calls.regrown_of (HI2.out _ _))))
  refine wpQuiet_nil ?_
  intro _ hw'
  obtain ⟨⟨dq, osq⟩, hw''⟩ := hw'
  subst hw''
  go_wp2
  go_ret
  rw [HZ.out]
  exact ⟨rfl, hB.thru (HZZ.out _ _) hsz⟩
end Go.Proofs.Ytlpfnpkmgkbngab
