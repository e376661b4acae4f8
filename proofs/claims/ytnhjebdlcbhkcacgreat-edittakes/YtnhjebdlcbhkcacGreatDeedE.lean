/- Rows of deeds that are the call's own: seven cells a deed, paths elsewhere. -/
import Derived.Test.YtnhjebdlcbhkcacGreatAllC
import Derived.Test.YtnhjebdlcbhkcacGreatDoerC
import Derived.Test.YtnhjebdlcbhkcacGreatEditPu
import Derived.Test.YtnhjebdlcbhkcacGreatRunsW
namespace Go.Proofs.YtnhjebdlcbhkcacGreat
open Go.RowKit

/-- a deed with where its paths lie -/
structure RawD where
  d : Dd
  p : Option Addr
  q : Option Addr
  cp : Nat
  cq : Nat
def RawD.cells (r : RawD) : List Value := [.int .i64 r.d.kind, .slice r.p r.d.rp.length r.cp, .int .i64 r.d.rc, .string r.d.rt, .slice r.q r.d.mp.length r.cq, .int .i64 r.d.mc, .int .i64 r.d.many]
def flatD (l : List RawD) : List Value := l.flatMap RawD.cells

theorem flatD_length (l : List RawD) : (flatD l).length = l.length * 7 := by
  unfold flatD; induction l with
  | nil => rfl
  | cons s l ih => simp only [List.flatMap_cons, List.length_append, ih, List.length_cons, RawD.cells, List.length_nil]; omega
theorem flatD_append (l m : List RawD) : flatD (l ++ m) = flatD l ++ flatD m := by unfold flatD; simp
theorem flatD_get (l : List RawD) : ∀ i (h : i < l.length) j, j < 7 → (flatD l)[i * 7 + j]? = l[i].cells[j]? := by
  induction l with
  | nil => intro i h; simp at h
  | cons s l ih =>
    intro i h j hj
    have e : flatD (s :: l) = s.cells ++ flatD l := rfl
    have hc : s.cells.length = 7 := rfl
    cases i with
    | zero => rw [e, List.getElem?_append_left (by omega)]; simp
    | succ i =>
      rw [e, List.getElem?_append_right (by omega), hc]
      have := ih i (by simpa using h) j hj
      rw [show (i + 1) * 7 + j - 7 = i * 7 + j by omega]
      simpa using this
theorem flatD_one (l : List RawD) : ∀ u ∈ flatD l, u.oneCell' = true := by
  intro u hu
  unfold flatD at hu
  rw [List.mem_flatMap] at hu
  obtain ⟨s, _, hs⟩ := hu
  simp only [RawD.cells, List.mem_cons, List.not_mem_nil, or_false] at hs
  rcases hs with rfl | rfl | rfl | rfl | rfl | rfl | rfl <;> rfl

/-- a deed's paths lie there, and its number is one -/
def RawD.At (w : World) (r : RawD) : Prop := DdAt w r.d r.p r.q ∧ -9223372036854775808 ≤ r.d.many ∧ r.d.many ≤ 9223372036854775807
theorem RawD.At.below {w w' : World} {r : RawD} (h : r.At w) (hb : Below w.heap.size w w') : r.At w' := ⟨h.1.below hb, h.2⟩

/-- a row that is the call's own -/
def OwnsDd (w0 w : World) (base : Nat) (v : Value) (rs : List RawD) : Prop :=
  w.ownsRow base 50 7 v rs.length (flatD rs) ∧ ∀ r ∈ rs, r.At w0

theorem OwnsDd.nil (w0 w : World) (base : Nat) : OwnsDd w0 w base (.slice none 0 0) [] := ⟨World.ownsRow_nil w base 50 7, fun r h => by simp at h⟩

theorem OwnsDd.deeds {w0 w : World} {base : Nat} {v : Value} {rs : List RawD} (h : OwnsDd w0 w base v rs) (hb : Below w0.heap.size w0 w) : ∃ p cap, v = .slice p rs.length cap ∧ DeedsAt w p (rs.map RawD.d) := by
  obtain ⟨hown, hr⟩ := h
  have hown' := hown
  rcases hown.2 with ⟨rfl, h0⟩ | ⟨g, cap, cur, rfl, _, _, hc, hm, _⟩
  · have e : rs = [] := List.length_eq_zero_iff.1 h0
    subst e
    exact ⟨none, 0, rfl, Or.inl rfl⟩
  refine ⟨some ⟨g, 0, none⟩, cap, rfl, ?_⟩
  by_cases e : rs = []
  · exact Or.inl (by rw [e]; rfl)
  refine Or.inr ⟨g, 0, rfl, (hown'.lt g rfl).2, fun i hi => ?_⟩
  have hi' : i < rs.length := by simpa using hi
  have c := flatD_get rs i hi'
  have ha := (hr _ (List.getElem_mem hi')).below hb
  have k : ∀ j (hj : j < 7), w.cell? ⟨g, 0 + i * 7 + j, none⟩ = rs[i].cells[j]? := fun j hj => by
    rw [Nat.zero_add]
    exact (hown'.cellAt (i * 7 + j) (by omega)).trans (c j hj)
  have em : (rs.map RawD.d)[i] = rs[i].d := by simp
  rw [em]
  exact ⟨rs[i].p, rs[i].cp, rs[i].q, rs[i].cq, k 0 (by decide), k 1 (by decide), k 2 (by decide), k 3 (by decide), k 4 (by decide), k 5 (by decide), k 6 (by decide), ha.1, ha.2.1, ha.2.2⟩

/-- deeds that lie somewhere, as raw ones -/
theorem deedsAt_raw {w : World} {b off : Nat} : ∀ {ds : List Dd} {k : Nat}, (∀ i (h : i < ds.length), ∃ p cp q cq, w.cell? ⟨b, off + (k + i) * 7, none⟩ = some (.int .i64 ds[i].kind) ∧ w.cell? ⟨b, off + (k + i) * 7 + 1, none⟩ = some (.slice p ds[i].rp.length cp) ∧ w.cell? ⟨b, off + (k + i) * 7 + 2, none⟩ = some (.int .i64 ds[i].rc) ∧ w.cell? ⟨b, off + (k + i) * 7 + 3, none⟩ = some (.string ds[i].rt) ∧ w.cell? ⟨b, off + (k + i) * 7 + 4, none⟩ = some (.slice q ds[i].mp.length cq) ∧ w.cell? ⟨b, off + (k + i) * 7 + 5, none⟩ = some (.int .i64 ds[i].mc) ∧ w.cell? ⟨b, off + (k + i) * 7 + 6, none⟩ = some (.int .i64 ds[i].many) ∧ DdAt w ds[i] p q ∧ -9223372036854775808 ≤ ds[i].many ∧ ds[i].many ≤ 9223372036854775807) →
    ∃ rs : List RawD, rs.map RawD.d = ds ∧ (∀ r ∈ rs, r.At w) ∧ ∀ j u, (flatD rs)[j]? = some u → w.cell? ⟨b, off + k * 7 + j, none⟩ = some u
  | [], k, _ => ⟨[], rfl, fun r h => by simp at h, fun j u h => by simp [flatD] at h⟩
  | d :: ds, k, h => by
    obtain ⟨p, cp, q, cq, c0, c1, c2, c3, c4, c5, c6, hD, h1, h2⟩ := h 0 (by simp)
    obtain ⟨rs, e, ha, hc⟩ := deedsAt_raw (w := w) (b := b) (off := off) (ds := ds) (k := k + 1) (fun i hi => by
      have := h (i + 1) (by simpa using hi)
      rw [show k + (i + 1) = k + 1 + i by omega] at this
      simpa using this)
    refine ⟨⟨d, p, q, cp, cq⟩ :: rs, by simp [e], fun r hr => ?_, fun j u hj => ?_⟩
    · rcases List.mem_cons.1 hr with rfl | hr
      · exact ⟨hD, h1, h2⟩
      · exact ha r hr
    · have ef : flatD (⟨d, p, q, cp, cq⟩ :: rs) = (⟨d, p, q, cp, cq⟩ : RawD).cells ++ flatD rs := rfl
      rw [ef] at hj
      by_cases hlt : j < 7
      · rw [List.getElem?_append_left (by simp [RawD.cells]; omega)] at hj
        rw [Nat.add_zero] at c0 c1 c2 c3 c4 c5 c6
        match j, hlt with
        | 0, _ => exact c0.trans hj
        | 1, _ => exact c1.trans hj
        | 2, _ => exact c2.trans hj
        | 3, _ => exact c3.trans hj
        | 4, _ => exact c4.trans hj
        | 5, _ => exact c5.trans hj
        | 6, _ => exact c6.trans hj
      · rw [List.getElem?_append_right (by simp [RawD.cells]; omega)] at hj
        have := hc _ _ hj
        simp only [RawD.cells, List.length_cons, List.length_nil] at this
        rw [← this]
        congr 2
        omega
theorem Tryz.info50 : ∃ i, Tryz.prog.info? 50 = some i ∧ i.zero = some (.agg #[.int .i64 0, .slice none 0 0, .int .i64 0, .string ⟨#[]⟩, .slice none 0 0, .int .i64 0, .int .i64 0]) ∧ i.size = 7 ∧ i.bytes = 96 := by
  have h : (Tryz.prog.info? 50).map (fun i => (i.zero, i.size, i.bytes)) = some (some (.agg #[.int .i64 0, .slice none 0 0, .int .i64 0, .string ⟨#[]⟩, .slice none 0 0, .int .i64 0, .int .i64 0]), 7, 96) := by kernel_rfl
  rw [Option.map_eq_some_iff] at h
  obtain ⟨i, hi, he⟩ := h
  simp only [Prod.mk.injEq] at he
  exact ⟨i, hi, he⟩

theorem rawD_new (w : World) (r : RawD) : ∀ j u, r.cells[j]? = some u → (w.alloc (.cells #[.int .i64 r.d.kind, .slice r.p r.d.rp.length r.cp, .int .i64 r.d.rc, .string r.d.rt, .slice r.q r.d.mp.length r.cq, .int .i64 r.d.mc, .int .i64 r.d.many] 50)).cell? ⟨w.heap.size, j, none⟩ = some u := by
  intro j u hj
  rw [World.cell?_alloc_new]
  simpa [RawD.cells] using hj

end Go.Proofs.YtnhjebdlcbhkcacGreat

namespace Go.Proofs.YtnhjebdlcbhkcacGreat
open Go.RowKit

theorem runsL_lenE (l : List At) : (runsL l).length ≤ l.length := by
  have key : ∀ k, (pst l k).1.length ≤ k := by
    intro k
    induction k with
    | zero => simp [pst]
    | succ k ih =>
      unfold pst
      split
      · omega
      · simp; omega
  have := key l.length
  simpa [runsL] using this

set_option maxHeartbeats 400000 in
theorem putR_one (p : Option Addr) (n cap : Nat) (c : Int) (t : ByteArray) (w : World) :
    Calls Tryz.prog 40 #[.agg #[.slice p n cap, .int .i64 c, .string t]] w fun e w' => e = .returned (.agg #[.int .i64 1, .slice p n cap, .int .i64 c, .string t, .slice none 0 0, .int .i64 0, .int .i64 0]) ∧ Below w.heap.size w w' := by
  go_enter Tryz.func40, Tryz.ntmps40
  go_wp2
  refine bodyPost_ret (v := .agg #[.int .i64 1, .slice p n cap, .int .i64 c, .string t, .slice none 0 0, .int .i64 0, .int .i64 0]) (by simp [results, Tryz.results40, go_sem]) rfl ⟨rfl, ?_⟩
  exact ((Below.refl _ _).alloc (Nat.le_refl _) _).alloc (by simp) _

set_option maxRecDepth 100000 in
set_option maxHeartbeats 2000000 in
theorem putR_each (a : Option Addr) (cap : Nat) (l : List At) (w : World) (hcap : l.length ≤ cap) (hcm : cap ≤ maxLen) (h : AtomsAt w a l) (h0 : chkL l = 0) :
    Calls Tryz.prog 17 #[.slice a l.length cap, .func (.func 40) #[] #[]] w fun e w' => ∃ p k, e = .returned (.slice p (runsL l).length k) ∧ DeedsAt w' p ((runsL l).map putDd) ∧ Below w.heap.size w w' := by
  have hlen : (runsL l).length ≤ 300 := by
    have h1 := runsL_lenE l
    have h2 := (okL_of h0).len
    omega
  have HR := hidE (runs_ok a cap l w hcap hcm h h0)
  clear h h0 hcap hcm
  generalize l.length = ln at HR ⊢
  generalize runsL l = rl at HR hlen ⊢
  clear l
  go_enter Tryz.func17, Tryz.ntmps17
  go_wp2_with fail
  refine HR.out.mono ?_
  rintro e w2 ⟨p, k, rfl, hat, _, hb2⟩
  clear HR
  obtain ⟨i0, hi0, hz0, hz1, hz2⟩ := Tryz.info50
  go_wp2_with fail
  go_loopw [7, 17] (fun v i wr => ∃ j : Nat, j ≤ rl.length ∧ i = .int .i64 j ∧ ∃ rs, OwnsDd w2 wr w2.heap.size v rs ∧ rs.map RawD.d = (rl.take j).map putDd ∧ Below w2.heap.size w2 wr) (fun _ i _ => rl.length - (intOf i).toNat)
  case atStart => exact ⟨0, Nat.zero_le _, rfl, [], OwnsDd.nil _ _ _, by simp, Below.refl _ _⟩
  case round =>
    obtain ⟨j, hj, rfl, rs, hrow, hmap, hb⟩ := hrel
    have hrl : rs.length = j := by
      have := congrArg List.length hmap
      simp at this; omega
    by_cases hlt : j < rl.length
    · have hat2 := hat
      rcases hat2 with hs | ⟨bb, oo, rfl, hbb, hc⟩
      · simp [hs] at hlt
      obtain ⟨pp, cp, c0, c1, c2, hst, hpl, htl⟩ := hc j hlt
      clear hc
      have HTK : Hid ((rl.take (j + 1)).map putDd = (rl.take j).map putDd ++ [putDd rl[j]]) := by
        show (rl.take (j + 1)).map putDd = (rl.take j).map putDd ++ [putDd rl[j]]
        rw [List.take_succ_eq_append_getElem hlt, List.map_append]; rfl
      have HMAP := hidE hmap
      clear hmap
      generalize rl[j] = x at *
      have hi1 : (j : Int) < (rl.length : Int) := by omega
      replace c0 := (hb.cell (p := ⟨bb, oo + j * 3, none⟩) hbb).trans c0
      replace c1 := (hb.cell (p := ⟨bb, oo + j * 3 + 1, none⟩) hbb).trans c1
      replace c2 := (hb.cell (p := ⟨bb, oo + j * 3 + 2, none⟩) hbb).trans c2
      have HAT : Hid (RawD.At w2 ⟨putDd x, pp, none, cp, 0⟩) := ⟨⟨hst, Or.inl rfl, hpl, Nat.zero_le _, htl⟩, by show (-9223372036854775808 : Int) ≤ 0; decide, by show (0 : Int) ≤ 9223372036854775807; decide⟩
      have HLN : Hid (rl.length ≤ 300) := hidE hlen
      clear hst hpl hat
      go_wp2_with fail
      refine (putR_one _ _ _ _ _ _).mono ?_
      rintro e w3 ⟨rfl, hb3⟩
      have hbx := hb.alloc hb.size (Obj.cells #[.slice pp x.path.length cp, .int .i64 x.clock, .string x.text] 48)
      have hB3 := hbx.thru hb3 hbx.size
      have hRN := rawD_new w3 ⟨putDd x, pp, none, cp, 0⟩
      have hown := (owns_below (hrow.1.alloc (Obj.cells #[.slice pp x.path.length cp, .int .i64 x.clock, .string x.text] 48)) hb3).alloc (Obj.cells #[.int .i64 1, .slice pp x.path.length cp, .int .i64 x.clock, .string x.text, .slice none 0 0, .int .i64 0, .int .i64 0] 50)
      have HEA := hidE hrow.2
      have hB4 := hB3.alloc hB3.size (Obj.cells #[.int .i64 1, .slice pp x.path.length cp, .int .i64 x.clock, .string x.text, .slice none 0 0, .int .i64 0, .int .i64 0] 50)
      have hbase : w2.heap.size ≤ (w3.alloc (Obj.cells #[.int .i64 1, .slice pp x.path.length cp, .int .i64 x.clock, .string x.text, .slice none 0 0, .int .i64 0, .int .i64 0] 50)).heap.size := hB4.size
      clear hrow c0 c1 c2
      go_wp2_with (at_builtin; refine wpList_append_own _ rfl _ _ 26 rfl w2.heap.size 50 i0 (.agg #[.int .i64 0, .slice none 0 0, .int .i64 0, .string ⟨#[]⟩, .slice none 0 0, .int .i64 0, .int .i64 0]) 7 96 Tryz.underlying26 hi0 hz0 hz1 hz2 rfl (by decide) _ _ _ rfl hown ⟨w3.heap.size, 0, none⟩ 1 1 (⟨putDd x, pp, none, cp, 0⟩ : RawD).cells rfl rfl ?qa3 ?qa2 ?qa4 ?qa5 hbase ?_)
      case qa3 => intro j u hj; rw [Addr.add_lit, Nat.zero_add]; exact hRN j u hj
      case qa2 => exact fun u hu => flatD_one [(⟨putDd x, pp, none, cp, 0⟩ : RawD)] u (by simpa [flatD] using hu)
      case qa4 => have := HLN.out; unfold maxLen; omega
      case qa5 => have := HLN.out; omega
      intro v' w5 hown5 hgrow _
      have hb5 := hB4.grown hgrow hbase (fun j hj => (hown.lt j hj).1)
      have hrow5 : OwnsDd w2 w5 w2.heap.size v' (rs ++ [⟨putDd x, pp, none, cp, 0⟩]) := by
        refine ⟨?_, fun y hy => ?_⟩
        · rw [flatD_append, List.length_append, hrl]
          exact hown5
        · rcases List.mem_append.1 hy with hy | hy
          · exact HEA.out y hy
          · rw [List.mem_singleton.1 hy]; exact HAT.out
      have hmap5 : (rs ++ [(⟨putDd x, pp, none, cp, 0⟩ : RawD)]).map RawD.d = (rl.take (j + 1)).map putDd := by
        rw [HTK.out, List.map_append, HMAP.out]; rfl
      have HR5 := hidE hrow5
      have HM5 := hidE hmap5
      clear hown5 hgrow hrow5 hmap5 hown hRN HTK HMAP
      go_wp2_with fail
      go_roundw
      case rel => exact ⟨j + 1, by omega, by go_num, _, HR5.out, HM5.out, hb5⟩
      case measure => simp [intOf]; omega
    · have hje : j = rl.length := by omega
      subst hje
      rw [List.take_length] at hmap
      obtain ⟨p', k', rfl, hd⟩ := hrow.deeds hb
      rw [hmap] at hd
      have hB := hb2.trans (hb.mono hb2.size)
      have HD := hidE hd
      clear hrow hmap hd
      go_wp2_with fail
      go_ret
      exact ⟨p', k', by rw [hrl]; rfl, HD.out, hB⟩

set_option maxHeartbeats 400000 in
theorem takeR_one (p : Option Addr) (n cap : Nat) (c : Int) (t : ByteArray) (w : World) :
    Calls Tryz.prog 18 #[.agg #[.slice p n cap, .int .i64 c, .string t]] w fun e w' => e = .returned (.agg #[.int .i64 2, .slice none 0 0, .int .i64 0, .string ⟨#[]⟩, .slice p n cap, .int .i64 c, .int .i64 (t.size : Int)]) ∧ Below w.heap.size w w' := by
  go_enter Tryz.func18, Tryz.ntmps18
  go_wp2
  refine bodyPost_ret (v := .agg #[.int .i64 2, .slice none 0 0, .int .i64 0, .string ⟨#[]⟩, .slice p n cap, .int .i64 c, .int .i64 (t.size : Int)]) (by simp [results, Tryz.results18, go_sem]) rfl ⟨rfl, ?_⟩
  exact ((Below.refl _ _).alloc (Nat.le_refl _) _).alloc (by simp) _

set_option maxRecDepth 100000 in
set_option maxHeartbeats 2000000 in
theorem takeR_each (a : Option Addr) (cap : Nat) (l : List At) (w : World) (hcap : l.length ≤ cap) (hcm : cap ≤ maxLen) (h : AtomsAt w a l) (h0 : chkL l = 0) :
    Calls Tryz.prog 17 #[.slice a l.length cap, .func (.func 18) #[] #[]] w fun e w' => ∃ p k, e = .returned (.slice p (runsL l).length k) ∧ DeedsAt w' p ((runsL l).map takeDd) ∧ Below w.heap.size w w' := by
  have hlen : (runsL l).length ≤ 300 := by
    have h1 := runsL_lenE l
    have h2 := (okL_of h0).len
    omega
  have HR := hidE (runs_ok a cap l w hcap hcm h h0)
  clear h h0 hcap hcm
  generalize l.length = ln at HR ⊢
  generalize runsL l = rl at HR hlen ⊢
  clear l
  go_enter Tryz.func17, Tryz.ntmps17
  go_wp2_with fail
  refine HR.out.mono ?_
  rintro e w2 ⟨p, k, rfl, hat, _, hb2⟩
  clear HR
  obtain ⟨i0, hi0, hz0, hz1, hz2⟩ := Tryz.info50
  go_wp2_with fail
  go_loopw [7, 17] (fun v i wr => ∃ j : Nat, j ≤ rl.length ∧ i = .int .i64 j ∧ ∃ rs, OwnsDd w2 wr w2.heap.size v rs ∧ rs.map RawD.d = (rl.take j).map takeDd ∧ Below w2.heap.size w2 wr) (fun _ i _ => rl.length - (intOf i).toNat)
  case atStart => exact ⟨0, Nat.zero_le _, rfl, [], OwnsDd.nil _ _ _, by simp, Below.refl _ _⟩
  case round =>
    obtain ⟨j, hj, rfl, rs, hrow, hmap, hb⟩ := hrel
    have hrl : rs.length = j := by
      have := congrArg List.length hmap
      simp at this; omega
    by_cases hlt : j < rl.length
    · have hat2 := hat
      rcases hat2 with hs | ⟨bb, oo, rfl, hbb, hc⟩
      · simp [hs] at hlt
      obtain ⟨pp, cp, c0, c1, c2, hst, hpl, htl⟩ := hc j hlt
      clear hc
      have HTK : Hid ((rl.take (j + 1)).map takeDd = (rl.take j).map takeDd ++ [takeDd rl[j]]) := by
        show (rl.take (j + 1)).map takeDd = (rl.take j).map takeDd ++ [takeDd rl[j]]
        rw [List.take_succ_eq_append_getElem hlt, List.map_append]; rfl
      have HMAP := hidE hmap
      clear hmap
      generalize rl[j] = x at *
      have hi1 : (j : Int) < (rl.length : Int) := by omega
      replace c0 := (hb.cell (p := ⟨bb, oo + j * 3, none⟩) hbb).trans c0
      replace c1 := (hb.cell (p := ⟨bb, oo + j * 3 + 1, none⟩) hbb).trans c1
      replace c2 := (hb.cell (p := ⟨bb, oo + j * 3 + 2, none⟩) hbb).trans c2
      have HAT : Hid (RawD.At w2 ⟨takeDd x, none, pp, 0, cp⟩) := ⟨⟨Or.inl rfl, hst, Nat.zero_le _, hpl, Nat.zero_le _⟩, by show (-9223372036854775808 : Int) ≤ (x.text.size : Int); omega, by show (x.text.size : Int) ≤ 9223372036854775807; unfold maxLen at htl; omega⟩
      have HLN : Hid (rl.length ≤ 300) := hidE hlen
      clear hst hpl hat
      go_wp2_with fail
      refine (takeR_one _ _ _ _ _ _).mono ?_
      rintro e w3 ⟨rfl, hb3⟩
      have hbx := hb.alloc hb.size (Obj.cells #[.slice pp x.path.length cp, .int .i64 x.clock, .string x.text] 48)
      have hB3 := hbx.thru hb3 hbx.size
      have hRN := rawD_new w3 ⟨takeDd x, none, pp, 0, cp⟩
      have hown := (owns_below (hrow.1.alloc (Obj.cells #[.slice pp x.path.length cp, .int .i64 x.clock, .string x.text] 48)) hb3).alloc (Obj.cells #[.int .i64 2, .slice none 0 0, .int .i64 0, .string ⟨#[]⟩, .slice pp x.path.length cp, .int .i64 x.clock, .int .i64 (x.text.size : Int)] 50)
      have HEA := hidE hrow.2
      have hB4 := hB3.alloc hB3.size (Obj.cells #[.int .i64 2, .slice none 0 0, .int .i64 0, .string ⟨#[]⟩, .slice pp x.path.length cp, .int .i64 x.clock, .int .i64 (x.text.size : Int)] 50)
      have hbase : w2.heap.size ≤ (w3.alloc (Obj.cells #[.int .i64 2, .slice none 0 0, .int .i64 0, .string ⟨#[]⟩, .slice pp x.path.length cp, .int .i64 x.clock, .int .i64 (x.text.size : Int)] 50)).heap.size := hB4.size
      clear hrow c0 c1 c2
      go_wp2_with (at_builtin; refine wpList_append_own _ rfl _ _ 26 rfl w2.heap.size 50 i0 (.agg #[.int .i64 0, .slice none 0 0, .int .i64 0, .string ⟨#[]⟩, .slice none 0 0, .int .i64 0, .int .i64 0]) 7 96 Tryz.underlying26 hi0 hz0 hz1 hz2 rfl (by decide) _ _ _ rfl hown ⟨w3.heap.size, 0, none⟩ 1 1 (⟨takeDd x, none, pp, 0, cp⟩ : RawD).cells rfl rfl ?qa3 ?qa2 ?qa4 ?qa5 hbase ?_)
      case qa3 => intro j u hj; rw [Addr.add_lit, Nat.zero_add]; exact hRN j u hj
      case qa2 => exact fun u hu => flatD_one [(⟨takeDd x, none, pp, 0, cp⟩ : RawD)] u (by simpa [flatD] using hu)
      case qa4 => have := HLN.out; unfold maxLen; omega
      case qa5 => have := HLN.out; omega
      intro v' w5 hown5 hgrow _
      have hb5 := hB4.grown hgrow hbase (fun j hj => (hown.lt j hj).1)
      have hrow5 : OwnsDd w2 w5 w2.heap.size v' (rs ++ [⟨takeDd x, none, pp, 0, cp⟩]) := by
        refine ⟨?_, fun y hy => ?_⟩
        · rw [flatD_append, List.length_append, hrl]
          exact hown5
        · rcases List.mem_append.1 hy with hy | hy
          · exact HEA.out y hy
          · rw [List.mem_singleton.1 hy]; exact HAT.out
      have hmap5 : (rs ++ [(⟨takeDd x, none, pp, 0, cp⟩ : RawD)]).map RawD.d = (rl.take (j + 1)).map takeDd := by
        rw [HTK.out, List.map_append, HMAP.out]; rfl
      have HR5 := hidE hrow5
      have HM5 := hidE hmap5
      clear hown5 hgrow hrow5 hmap5 hown hRN HTK HMAP
      go_wp2_with fail
      go_roundw
      case rel => exact ⟨j + 1, by omega, by go_num, _, HR5.out, HM5.out, hb5⟩
      case measure => simp [intOf]; omega
    · have hje : j = rl.length := by omega
      subst hje
      rw [List.take_length] at hmap
      obtain ⟨p', k', rfl, hd⟩ := hrow.deeds hb
      rw [hmap] at hd
      have hB := hb2.trans (hb.mono hb2.size)
      have HD := hidE hd
      clear hrow hmap hd
      go_wp2_with fail
      go_ret
      exact ⟨p', k', by rw [hrl]; rfl, HD.out, hB⟩
end Go.Proofs.YtnhjebdlcbhkcacGreat
