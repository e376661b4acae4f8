/- What is gone stays so; what is there was there, or was put. No Go text is walked here. -/
import Derived.Test.YtcggeeejkgndmabAllC
import Derived.Test.YtcggeeejkgndmabMarksOf
namespace Go.Proofs.Ytcggeeejkgndmab
open Go.RowKit

theorem ordM_refl (m : Mk) : ordM m.1 m.2 m.1 m.2 = 0 := cmpM.refl m
theorem hasGone_mem {g : List Mk} {m : Mk} (h : m ∈ g) : hasGone g m.1 m.2 = true := by
  unfold hasGone
  rw [List.any_eq_true]
  exact ⟨m, h, by rw [ordM_refl]; rfl⟩
theorem insG_mem {g : List Mk} {m x : Mk} (h : x ∈ g) : x ∈ insG g m := by
  unfold insG
  split
  · exact h
  · rw [← List.take_append_drop (lowM g m.1 m.2) g] at h
    rcases List.mem_append.1 h with h | h
    · exact List.mem_append.2 (Or.inl h)
    · exact List.mem_append.2 (Or.inr (List.mem_cons_of_mem _ h))
theorem insAll_mem {x : Mk} : ∀ {ms g : List Mk}, x ∈ g → x ∈ ms.foldl insG g
  | [], _, h => h
  | m :: ms, g, h => insAll_mem (ms := ms) (g := insG g m) (insG_mem h)

/-- the marks that a deed puts -/
def putsM (d : Dd) : List Mk := if d.kind = 1 then marksD d else []
def putsTo (ds : List Dd) : List Mk := ds.flatMap putsM
theorem putsTo_take {ds : List Dd} {k : Nat} (h : k < ds.length) : putsTo (ds.take (k + 1)) = putsTo (ds.take k) ++ putsM ds[k] := by
  unfold putsTo
  rw [List.take_succ_eq_append_getElem h, List.flatMap_append]
  simp

theorem doD_gone {l l' : List At} {g g' : List Mk} {d : Dd} (h : doD l g d = some (l', g')) : ∀ m ∈ g, m ∈ g' := by
  intro m hm
  unfold doD at h
  split at h
  · split at h
    · simp at h
    · cases h; exact hm
  · split at h
    · simp at h
    · cases h; exact insAll_mem hm

theorem doD_there {l l' : List At} {g g' : List Mk} {d : Dd} (hok : OkS l g) (h : doD l g d = some (l', g')) : ∀ z ∈ l', z ∈ l ∨ (z.path, z.clock) ∈ putsM d := by
  intro z hz
  unfold doD at h
  split at h
  · rename_i hk
    split at h
    · simp at h
    · cases h
      have hz' := (((putL_least hok.atoms.rise (putsD g d)).2 z).1 hz).1
      rcases List.mem_append.1 hz' with hz1 | hz1
      · exact Or.inl hz1
      · right
        have hz2 := (List.mem_filter.1 hz1).1
        unfold putsM marksD
        rw [if_pos hk, if_pos hk]
        obtain ⟨i, hi, rfl⟩ := List.getElem_of_mem hz2
        rw [atomsR_len] at hi
        rw [atomsR_get hi]
        unfold nextsL
        exact List.mem_map.2 ⟨i, List.mem_range.2 hi, rfl⟩
  · split at h
    · simp at h
    · cases h
      exact Or.inl (List.mem_filter.1 hz).1

theorem doAll_facts : ∀ {ds : List Dd} {l l' : List At} {g g' : List Mk}, OkS l g → (∀ d ∈ ds, chkD d = 0) → doAll l g ds = some (l', g') → (∀ m ∈ g, m ∈ g') ∧ (∀ z ∈ l', z ∈ l ∨ (z.path, z.clock) ∈ putsTo ds) ∧ OkS l' g'
  | [], l, l', g, g', hok, _, h => by
    cases h
    exact ⟨fun m hm => hm, fun z hz => Or.inl hz, hok⟩
  | d :: ds, l, l', g, g', hok, hc, h => by
    simp only [doAll] at h
    cases hd : doD l g d with
    | none => rw [hd] at h; simp at h
    | some s =>
      obtain ⟨l1, g1⟩ := s
      rw [hd] at h
      have hok1 := doD_ok hok (hc d (List.mem_cons_self ..)) hd
      obtain ⟨h1, h2, h3⟩ := doAll_facts hok1 (fun x hx => hc x (List.mem_cons_of_mem _ hx)) h
      refine ⟨fun m hm => h1 m (doD_gone hd m hm), fun z hz => ?_, h3⟩
      have e : putsTo (d :: ds) = putsM d ++ putsTo ds := rfl
      rw [e]
      rcases h2 z hz with hz | hz
      · rcases doD_there hok hd z hz with hz | hz
        · exact Or.inl hz
        · exact Or.inr (List.mem_append.2 (Or.inl hz))
      · exact Or.inr (List.mem_append.2 (Or.inr hz))

theorem hasMk_mem {l : List At} {z : At} (h : z ∈ l) : hasMk l z.path z.clock = true := by
  unfold hasMk
  rw [List.any_eq_true]
  exact ⟨z, h, by rw [ordM_refl (z.path, z.clock)]; rfl⟩

theorem putsM_len {d : Dd} (h : chkD d = 0) : (putsM d).length ≤ 60 := by
  unfold putsM marksD
  split
  · rename_i hk
    rw [nextsL_len]
    exact (okRun_of (okPut_of hk h)).len
  · simp
theorem putsTo_len : ∀ {ds : List Dd}, (∀ d ∈ ds, chkD d = 0) → (putsTo ds).length ≤ 60 * ds.length
  | [], _ => by simp [putsTo]
  | d :: ds, h => by
    have e : putsTo (d :: ds) = putsM d ++ putsTo ds := rfl
    have h1 := putsM_len (h d (List.mem_cons_self ..))
    have h2 := putsTo_len (fun x hx => h x (List.mem_cons_of_mem _ hx))
    rw [e, List.length_append, List.length_cons]
    omega

/-- two rows, one behind the other -/
theorem MkRow.join {w w' : World} {base : Nat} {v v' : Value} {xs ys : List Mk} {rs rs2 : List RawK} (hl : rs.length = xs.length) (hown : w.ownsRow base 24 2 v xs.length (flatK rs)) (hr : ∀ i (h : i < xs.length) (h' : i < rs.length), PickK w base rs[i] xs[i]) (hl2 : rs2.length = ys.length) (hr2 : ∀ i (h : i < ys.length) (h' : i < rs2.length), PickK w base rs2[i] ys[i]) (hg : w.grownBy w' v.ownBlock) (h : w'.ownsRow base 24 2 v' (xs.length + ys.length) (flatK rs ++ flatK rs2)) :
    MkRow w' base v' (xs ++ ys) := by
  refine ⟨rs ++ rs2, by simp [hl, hl2], ?_, fun i hi hi' => ?_⟩
  · rw [flatK_append, List.length_append]
    exact h
  · by_cases e : i < xs.length
    · rw [List.getElem_append_left (by omega), List.getElem_append_left e]
      exact (hr i e (by omega)).kept hg (fun g cap _ ho => types_neK ho hown)
    · have h1 : i - xs.length < ys.length := by simp at hi; omega
      have e1 : (rs ++ rs2)[i] = rs2[i - xs.length]'(by omega) := by rw [List.getElem_append_right (by omega)]; simp only [hl]
      have e2 : (xs ++ ys)[i] = ys[i - xs.length] := by rw [List.getElem_append_right (by omega)]
      rw [e1, e2]
      exact (hr2 _ h1 (by omega)).kept hg (fun g cap _ ho => types_neK ho hown)
end Go.Proofs.Ytcggeeejkgndmab

namespace Go.Proofs.Ytcggeeejkgndmab
open Go.RowKit


theorem deedsAt_one {w : World} {d : Dd} {p q : Option Addr} {cp cq : Nat} (h : DdAt w d p q) (h1 : -9223372036854775808 ≤ d.many) (h2 : d.many ≤ 9223372036854775807) : DeedsAt (w.alloc (Obj.cells #[.int .i64 d.kind, .slice p d.rp.length cp, .int .i64 d.rc, .string d.rt, .slice q d.mp.length cq, .int .i64 d.mc, .int .i64 d.many] 54)) (some ⟨w.heap.size, 0, none⟩) [d] := by
  refine Or.inr ⟨w.heap.size, 0, rfl, by simp, fun i hi => ?_⟩
  have h0 : i = 0 := by simp at hi; omega
  subst h0
  exact ⟨p, cp, q, cq, by simp, by simp, by simp, by simp, by simp, by simp, by simp, h.below ((Below.refl _ _).alloc (Nat.le_refl _) _), h1, h2⟩

theorem cells_boxes3 (w : World) (a0 a1 u0 u1 : Value) (cs : Array Value) (T T' : TypeId) : (((w.alloc (Obj.cells #[a0, a1] T)).alloc (Obj.cells cs T')).alloc (Obj.cells #[u0, u1] T)).cell? ⟨w.heap.size + 1 + 1, 0, none⟩ = some u0 ∧ (((w.alloc (Obj.cells #[a0, a1] T)).alloc (Obj.cells cs T')).alloc (Obj.cells #[u0, u1] T)).cell? ⟨w.heap.size + 1 + 1, 1, none⟩ = some u1 := by
  constructor <;> go_simp

set_option maxRecDepth 100000 in
set_option maxHeartbeats 4000000 in
theorem stateDo_ok (a b : Option Addr) (cap cap' : Nat) (l : List At) (g : List Mk) (d : Dd) (p q : Option Addr) (cp cq : Nat) (w : World) (hl : l.length ≤ maxLen) (h : AtomsAt w a l) (h' : MarksAt w b g) (hd : DdAt w d p q) (h1 : -9223372036854775808 ≤ d.many) (h2 : d.many ≤ 9223372036854775807) :
    Calls Try.prog 24 #[.agg #[.slice a l.length cap, .slice b g.length cap'], ddV d p q cp cq] w fun e w' => Below w.heap.size w w' ∧ AllPost l g [d] w.heap.size e w' := by
  unfold ddV
  have hB := (((Below.refl w.heap.size w).alloc (Nat.le_refl _) (Obj.cells #[.slice a l.length cap, .slice b g.length cap'] 51)).alloc (by simp) (Obj.cells #[.int .i64 d.kind, .slice p d.rp.length cp, .int .i64 d.rc, .string d.rt, .slice q d.mp.length cq, .int .i64 d.mc, .int .i64 d.many] 54)).alloc (by simp; omega) (Obj.cells #[.slice none 0 0, .slice none 0 0] 51)
  have hz : (((w.alloc (Obj.cells #[.slice a l.length cap, .slice b g.length cap'] 51)).alloc (Obj.cells #[.int .i64 d.kind, .slice p d.rp.length cp, .int .i64 d.rc, .string d.rt, .slice q d.mp.length cq, .int .i64 d.mc, .int .i64 d.many] 54)).alloc (Obj.cells #[.slice none 0 0, .slice none 0 0] 51)).heap.size = w.heap.size + 3 := by simp
  obtain ⟨r0, r1⟩ := cells_boxes3 w (.slice a l.length cap) (.slice b g.length cap') (.slice none 0 0) (.slice none 0 0) #[.int .i64 d.kind, .slice p d.rp.length cp, .int .i64 d.rc, .string d.rt, .slice q d.mp.length cq, .int .i64 d.mc, .int .i64 d.many] 51 54
  have rf : ∀ o, (((w.alloc (Obj.cells #[.slice a l.length cap, .slice b g.length cap'] 51)).alloc (Obj.cells #[.int .i64 d.kind, .slice p d.rp.length cp, .int .i64 d.rc, .string d.rt, .slice q d.mp.length cq, .int .i64 d.mc, .int .i64 d.many] 54)).alloc (Obj.cells #[.slice none 0 0, .slice none 0 0] 51)).frozen? ⟨w.heap.size + 1 + 1, o, none⟩ = false := fun o => by go_simp
  replace h := h.below hB (Nat.le_refl _)
  replace h' := h'.below hB (Nat.le_refl _)
  replace hd := hd.below hB
  go_enter Try.func24, Try.ntmps24
  go_wp2_with fail
  generalize ((w.alloc (Obj.cells #[.slice a l.length cap, .slice b g.length cap'] 51)).alloc (Obj.cells #[.int .i64 d.kind, .slice p d.rp.length cp, .int .i64 d.rc, .string d.rt, .slice q d.mp.length cq, .int .i64 d.mc, .int .i64 d.many] 54)).alloc (Obj.cells #[.slice none 0 0, .slice none 0 0] 51) = W at hB hz r0 r1 rf h h' hd ⊢
  rw [← hz]
  have hbn := (Below.refl W.heap.size W).alloc (Nat.le_refl _) (Obj.cells #[.int .i64 d.kind, .slice p d.rp.length cp, .int .i64 d.rc, .string d.rt, .slice q d.mp.length cq, .int .i64 d.mc, .int .i64 d.many] 54)
  have hDs := deedsAt_one (cp := cp) (cq := cq) hd h1 h2
  have HAL := hidE (stateAll_ok a b _ cap cap' 1 l g [d] _ hl (by simp [maxLen]) (h.below hbn (Nat.le_refl _)) (h'.below hbn (Nat.le_refl _)) hDs)
  have zR : w.heap.size + 1 + 1 < (W.alloc (Obj.cells #[.int .i64 d.kind, .slice p d.rp.length cp, .int .i64 d.rc, .string d.rt, .slice q d.mp.length cq, .int .i64 d.mc, .int .i64 d.many] 54)).heap.size := by have := hbn.size; omega
  have hBn := hB.thru hbn (by omega)
  replace r0 := (hbn.cell (p := ⟨w.heap.size + 1 + 1, 0, none⟩) (by show w.heap.size + 1 + 1 < _; omega)).trans r0
  replace r1 := (hbn.cell (p := ⟨w.heap.size + 1 + 1, 1, none⟩) (by show w.heap.size + 1 + 1 < _; omega)).trans r1
  replace rf := fun o => (hbn.frozen (p := ⟨w.heap.size + 1 + 1, o, none⟩) (by show w.heap.size + 1 + 1 < _; omega)).trans (rf o)
  have hwW : w.heap.size ≤ (W.alloc (Obj.cells #[.int .i64 d.kind, .slice p d.rp.length cp, .int .i64 d.rc, .string d.rt, .slice q d.mp.length cq, .int .i64 d.mc, .int .i64 d.many] 54)).heap.size := by omega
  clear hDs hbn hB hd h h' hz h1 h2 hl
  generalize W.alloc (Obj.cells #[.int .i64 d.kind, .slice p d.rp.length cp, .int .i64 d.rc, .string d.rt, .slice q d.mp.length cq, .int .i64 d.mc, .int .i64 d.many] 54) = W2 at HAL zR hBn r0 r1 rf hwW ⊢
  refine HAL.out.mono ?_
  rintro e w2 ⟨hb2, hp⟩
  clear HAL
  replace r0 := (hb2.cell (p := ⟨w.heap.size + 1 + 1, 0, none⟩) zR).trans r0
  replace r1 := (hb2.cell (p := ⟨w.heap.size + 1 + 1, 1, none⟩) zR).trans r1
  replace rf := fun o => (hb2.frozen (p := ⟨w.heap.size + 1 + 1, o, none⟩) zR).trans (rf o)
  have hB2 := hBn.thru hb2 hwW
  clear hBn hb2
  rcases hp with ⟨hne, rfl⟩ | ⟨h0, l', g', p2, c2, q2, d2, hok, hda, hok', rfl, hP, hM⟩
  · have HNE := hidE hne
    clear hne
    go_wp2_with fail
    refine bodyPost_ret (v := .tuple #[.agg #[.slice none 0 0, .slice none 0 0], .int .i64 (errAll l g [d])]) (by simp [results, Try.results24, go_sem, r0, r1]) rfl ?_
    exact ⟨(hB2.setCell (by simp; omega) _).setCell (by simp; omega) _, Or.inl ⟨HNE.out, rfl⟩⟩
  · have H0 := hidE h0
    have HDA := hidE hda
    have HOK := hidE hok
    have HOK' := hidE hok'
    clear h0 hda hok hok'
    have s3 : (w2.setCell ⟨w.heap.size + 1 + 1, 0, none⟩ (.slice p2 l'.length c2)).cell? ⟨w.heap.size + 1 + 1, 1, none⟩ = some (.slice none 0 0) := (World.cell?_setCell_other _ _ _ _ (by simp)).trans r1
    go_wp2_with fail
    refine bodyPost_ret (v := .tuple #[.agg #[.slice p2 l'.length c2, .slice q2 g'.length d2], .int .i64 0]) (by simp [results, Try.results24, go_sem, r0, s3]) rfl ?_
    exact ⟨(hB2.setCell (by simp; omega) _).setCell (by simp; omega) _, Or.inr ⟨H0.out, l', g', p2, c2, q2, d2, HOK.out, HDA.out, HOK'.out, rfl, ((hP.setLow zR _ _).setLow zR _ _).mono hwW, ((hM.setLow zR _ _).setLow zR _ _).mono hwW⟩⟩
end Go.Proofs.Ytcggeeejkgndmab
