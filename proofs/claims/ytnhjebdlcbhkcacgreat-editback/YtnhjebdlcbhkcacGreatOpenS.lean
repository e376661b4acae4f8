/- The contract of EditBack. -/
import Derived.Test.YtnhjebdlcbhkcacGreatEditB
import Derived.Test.YtnhjebdlcbhkcacGreatSBeg
import Derived.Test.YtnhjebdlcbhkcacGreatAllC
import Derived.Test.YtnhjebdlcbhkcacGreatPutLe
import Derived.Test.YtnhjebdlcbhkcacGreatAtomCk
import Derived.ProofKit
import Derived.SizedLaws
import Derived.Lib.SmallJoins
import Derived.Deep.SlicePairs
import Derived.Lib.RowBridge
namespace Go.Proofs.YtnhjebdlcbhkcacGreat
open Go.RowKit

theorem sameL_selfE : ∀ l : List At, sameL l l = true
  | [] => rfl
  | x :: l => by
    show (sameAt x x && sameL l l) = true
    rw [sameL_selfE l]
    have : ordM x.path x.clock x.path x.clock = 0 := cmpM.refl (x.path, x.clock)
    unfold sameAt
    rw [this]
    simp

theorem chkDs_allE : ∀ {ds : List Dd}, (∀ d ∈ ds, chkD d = 0) → chkDs ds = 0
  | [], _ => rfl
  | x :: ds, h => by
    unfold chkDs
    rw [if_neg (by simpa using h x (by simp))]
    exact chkDs_allE fun d hd => h d (by simp [hd])

theorem errAll_some {l : List At} {g : List Mk} {ds : List Dd} {s : List At × List Mk} (hok : OkS l g) (hc : ∀ d ∈ ds, chkD d = 0) (h : doAll l g ds = some s) : errAll l g ds = 0 := by
  unfold errAll
  rw [if_neg (by simpa using okS_chk hok), if_neg (by simpa using chkDs_allE hc), h]; rfl
theorem errAll_none {l : List At} {g : List Mk} {ds : List Dd} (hok : OkS l g) (hc : ∀ d ∈ ds, chkD d = 0) (h : doAll l g ds = none) : errAll l g ds = 2 := by
  unfold errAll
  rw [if_neg (by simpa using okS_chk hok), if_neg (by simpa using chkDs_allE hc), h]; rfl

/-- what was put is the piece at its place -/
theorem part_put (l ax : List At) (n : Nat) (hn : n ≤ l.length) : part (l.take n ++ (ax ++ l.drop n)) n ax.length = ax := by
  unfold part
  rw [List.drop_append_of_le_length (by simp; omega), List.drop_eq_nil_of_le (by simp; omega), List.nil_append]
  simp

theorem back_put (l ax : List At) (n : Nat) (hn : n ≤ l.length) : (l.take n ++ (ax ++ l.drop n)).take n ++ (l.take n ++ (ax ++ l.drop n)).drop (n + ax.length) = l := by
  have h1 : (l.take n).length = n := by simp; omega
  rw [List.take_left' h1, ← List.drop_drop, List.drop_left' h1, List.drop_left, List.take_append_drop]

set_option maxRecDepth 100000 in
set_option maxHeartbeats 8000000 in
theorem editBack_ok (a b : Option Addr) (cap cap' : Nat) (l : List At) (g : List (List (Int × Int) × Int)) (n : Int) (t : ByteArray) (site clock : Int) (w : World) (hl : l.length ≤ maxLen) (ht : t.size ≤ maxLen) (h : AtomsAt w a l) (h' : MarksAt w b g) :
    Calls Tryz.prog 4 #[.agg #[.slice a l.length cap, .slice b g.length cap'], .int .i64 n, .string t, .int .i64 site, .int .i64 clock] w fun e w' => e = .returned (.bool true) ∧ Below w.heap.size w w' := by
  have hB := (Below.refl w.heap.size w).alloc (Nat.le_refl _) (Obj.cells #[.slice a l.length cap, .slice b g.length cap'] 25)
  have q0 : (w.alloc (Obj.cells #[.slice a l.length cap, .slice b g.length cap'] 25)).cell? ⟨w.heap.size, 0, none⟩ = some (.slice a l.length cap) := by simp
  have q1 : (w.alloc (Obj.cells #[.slice a l.length cap, .slice b g.length cap'] 25)).cell? ⟨w.heap.size, 1, none⟩ = some (.slice b g.length cap') := by simp
  have z : w.heap.size < (w.alloc (Obj.cells #[.slice a l.length cap, .slice b g.length cap'] 25)).heap.size := by simp
  replace h := h.below hB (Nat.le_refl _)
  replace h' := h'.below hB (Nat.le_refl _)
  go_enter Tryz.func4, Tryz.ntmps4
  go_upto_region 1 with fail
  generalize w.alloc (Obj.cells #[.slice a l.length cap, .slice b g.length cap'] 25) = W at hB q0 q1 z h h' ⊢
  generalize hzz : w.heap.size = Z at hB q0 q1 z ⊢
  have HZ := hidE hzz
  clear hzz
  go_wp2_with fail
  refine (editBegun_true W).mono ?_
  rintro e w1 ⟨rfl, hb⟩
  go_wp2_with fail
  refine (stateBegun_true w1).mono ?_
  rintro e w2 ⟨rfl, hb2⟩
  replace hb := hb.thru hb2 hb.size
  replace q0 := (hb.cell (p := ⟨Z, 0, none⟩) z).trans q0
  replace q1 := (hb.cell (p := ⟨Z, 1, none⟩) z).trans q1
  replace h := h.below hb (Nat.le_refl _)
  replace h' := h'.below hb (Nat.le_refl _)
  replace hB := hB.thru hb (Nat.le_of_lt z)
  replace z := Nat.lt_of_lt_of_le z hb.size
  clear hb hb2
  have HP := hidE (editPut_any a b cap cap' l g n t site clock w2 hl ht h h')
  go_wp2_with fail
  refine HP.out.mono ?_
  rintro e w3 ⟨hb, hp⟩
  replace q0 := (hb.cell (p := ⟨Z, 0, none⟩) z).trans q0
  replace q1 := (hb.cell (p := ⟨Z, 1, none⟩) z).trans q1
  replace h := h.below hb (Nat.le_refl _)
  replace h' := h'.below hb (Nat.le_refl _)
  replace hB := hB.thru hb (Nat.le_of_lt z)
  replace z := Nat.lt_of_lt_of_le z hb.size
  clear hb HP
  rcases hp with ⟨hne, rfl⟩ | ⟨h0, ax, p, k, hP, rfl, hd⟩
  · have hcb : (putEr l g n t site clock != 0) = true := by rw [bne_iff_ne]; exact hne
    clear h h' hl ht hne
    generalize putEr l g n t site clock = er at *
    go_wp2_with fail
    go_ret
    exact ⟨rfl, by rw [HZ.out]; exact hB⟩
  have hck : putCk l g n t site clock = 0 := by
    by_cases e : putCk l g n t site clock = 0
    · exact e
    · unfold putEr at h0; rw [if_pos e] at h0; exact absurd h0 e
  obtain ⟨hok, hn0, hnl, _, h60, h300, _, _⟩ := putCk_zero hck
  obtain ⟨i, rfl⟩ : ∃ i : Nat, n = i := ⟨n.toNat, by omega⟩
  rw [Int.toNat_natCast] at hP
  have hil : i ≤ l.length := by omega
  have HAL := hidE hP.len
  have hCP : ∀ d ∈ (runsL ax).map putDd, chkD d = 0 := fun d hd => by
    obtain ⟨x, hx, rfl⟩ := List.mem_map.1 hd
    exact putDd_chk (runsL_each hP.ok x hx)
  have hCT : ∀ d ∈ (runsL ax).map takeDd, chkD d = 0 := fun d hd => by
    obtain ⟨x, hx, rfl⟩ := List.mem_map.1 hd
    exact takeDd_chk (runsL_each hP.ok x hx)
  have hPD := put_does hok hP.ok i (by have := HAL.out; omega) hP.lo hP.hi hP.newG
  have hE0 := errAll_some hok hCP hPD
  have hrl := runsL_lenE ax
  have HLP : Hid (((runsL ax).map putDd).length = (runsL ax).length) := by show _ = _; simp
  have HLT : Hid (((runsL ax).map takeDd).length = (runsL ax).length) := by show _ = _; simp
  have HSA := hidE (stateAll_ok a b p cap cap' k l g ((runsL ax).map putDd) w3 hl (by have := HAL.out; simp; unfold maxLen; omega) h h' hd)
  rw [HLP.out] at HSA
  have HPD := hidE hPD
  have HPO := hidE hP.ok
  have HCT := hidE hCT
  clear hck h0 hn0 hnl hP hCP hCT hPD
  go_wp2_with fail
  refine HSA.out.mono ?_
  rintro e w4 ⟨hb, hp⟩
  rcases hp with ⟨hne, _⟩ | ⟨_, l', g', pa, ca, qa, da, _, hda, hok', rfl, hP4, hM4⟩
  · exact absurd hE0 hne
  rw [HPD.out] at hda
  simp only [Option.some.injEq, Prod.mk.injEq] at hda
  obtain ⟨hl', rfl⟩ := hda
  replace q0 := (hb.cell (p := ⟨Z, 0, none⟩) z).trans q0
  replace q1 := (hb.cell (p := ⟨Z, 1, none⟩) z).trans q1
  replace h := h.below hb (Nat.le_refl _)
  replace hB := hB.thru hb (Nat.le_of_lt z)
  replace z := Nat.lt_of_lt_of_le z hb.size
  clear hb HSA h' hd
  obtain ⟨p1, c1, e1, hat, hlc⟩ := hP4.owns.atoms (Below.refl _ _)
  obtain ⟨rfl, rfl⟩ : pa = p1 ∧ ca = c1 := by simpa using e1
  obtain ⟨_, _, hown4, _⟩ := hP4
  have hcm := owns_max hown4
  obtain ⟨p2, c2, e2, hmk, _⟩ := hM4.marks
  obtain ⟨rfl, rfl⟩ : qa = p2 ∧ da = c2 := by simpa using e2
  have hl4 := hok'.atoms.len
  clear e1 e2 hown4 hM4
  have HL' := hidE hl'
  have hlen' : l'.length = l.length + t.size := by
    rw [← hl']
    simp only [List.length_append, List.length_take, List.length_drop]
    have := HAL.out
    omega
  have HPART : Hid (part l' i t.size = ax) := by
    show _ = _
    rw [← hl', ← HAL.out]; exact part_put l ax i hil
  have hcut : cutErr l' g i t.size = 0 := by
    unfold cutErr
    rw [if_neg (by simpa using okS_chk hok'), if_neg]
    simp [pieceB]
    omega
  have HLEN := hidE hlen'
  clear hlen'
  have hbT := (Below.refl w4.heap.size w4).alloc (Nat.le_refl _) (Obj.cells #[.slice pa l'.length ca, .slice qa g.length da] 25)
  have t0 : (w4.alloc (Obj.cells #[.slice pa l'.length ca, .slice qa g.length da] 25)).cell? ⟨w4.heap.size, 0, none⟩ = some (.slice pa l'.length ca) := by simp
  have t1 : (w4.alloc (Obj.cells #[.slice pa l'.length ca, .slice qa g.length da] 25)).cell? ⟨w4.heap.size, 1, none⟩ = some (.slice qa g.length da) := by simp
  have zt : w4.heap.size < (w4.alloc (Obj.cells #[.slice pa l'.length ca, .slice qa g.length da] 25)).heap.size := by simp
  have HOK' := hidE hok'
  have HOK := hidE hok
  have HCUT := hidE hcut
  clear hl' hcut hE0 hok hok'
  go_upto_region 7 with fail
  replace q0 := (hbT.cell (p := ⟨Z, 0, none⟩) z).trans q0
  replace q1 := (hbT.cell (p := ⟨Z, 1, none⟩) z).trans q1
  replace h := h.below hbT (Nat.le_refl _)
  replace hat := hat.below hbT (Nat.le_refl _)
  replace hmk := hmk.below hbT (Nat.le_refl _)
  replace hB := hB.thru hbT (Nat.le_of_lt z)
  replace z := Nat.lt_of_lt_of_le z hbT.size
  generalize w4.alloc (Obj.cells #[.slice pa l'.length ca, .slice qa g.length da] 25) = w5 at *
  generalize w4.heap.size = T at *
  clear hbT
  have HTK := hidE (editTake_any pa qa ca da l' g i t.size w5 (by unfold maxLen; omega) hlc hcm (by unfold maxLen at ht; omega) hat hmk)
  go_wp2_with fail
  refine HTK.out.mono ?_
  rintro e w6 ⟨hb, hp⟩
  rcases hp with ⟨hne, _⟩ | ⟨_, pd, kd, rfl, hd⟩
  · exact absurd HCUT.out hne
  rw [Int.toNat_natCast, Int.toNat_natCast, HPART.out] at hd
  simp only [Int.toNat_natCast]
  rw [HPART.out]
  replace q0 := (hb.cell (p := ⟨Z, 0, none⟩) z).trans q0
  replace q1 := (hb.cell (p := ⟨Z, 1, none⟩) z).trans q1
  replace t0 := (hb.cell (p := ⟨T, 0, none⟩) zt).trans t0
  replace t1 := (hb.cell (p := ⟨T, 1, none⟩) zt).trans t1
  replace h := h.below hb (Nat.le_refl _)
  replace hat := hat.below hb (Nat.le_refl _)
  replace hmk := hmk.below hb (Nat.le_refl _)
  replace hB := hB.thru hb (Nat.le_of_lt z)
  replace z := Nat.lt_of_lt_of_le z hb.size
  replace zt := Nat.lt_of_lt_of_le zt hb.size
  clear hb HTK hlc hcm
  have HSA := hidE (stateAll_ok pa qa pd ca da kd l' g ((runsL ax).map takeDd) w6 (by unfold maxLen; omega) (by have := HAL.out; simp; unfold maxLen; omega) hat hmk hd)
  rw [HLT.out] at HSA
  have hdoes : (doAll l' g ((runsL ax).map takeDd) = none ∧ 600 < g.length + t.size) ∨ ∃ g2, doAll l' g ((runsL ax).map takeDd) = some (l, g2) := by
    cases e : doAll l' g ((runsL ax).map takeDd) with
    | none =>
      refine Or.inl ⟨rfl, ?_⟩
      apply Nat.lt_of_not_le
      intro hle
      have := takes_some (rs := runsL ax) (l := l') (g := g) (by rw [runsL_cat HPO.out, HAL.out]; exact hle)
      rw [e] at this
      cases this
    | some s =>
      obtain ⟨l2, g2⟩ := s
      have hokp : OkL (part l' i t.size) := by rw [HPART.out]; exact HPO.out
      have := (take_does HOK'.out i t.size hokp (l' := l2) (g' := g2) (by rw [HPART.out]; exact e)).1
      rw [← HL'.out, ← HAL.out, back_put l ax i hil] at this
      exact Or.inr ⟨g2, by rw [this]⟩
  have hg600 := HOK.out.len
  clear hat hmk hd HPART HLP HLT
  go_wp2_with fail
  refine HSA.out.mono ?_
  rintro e w7 ⟨hb, hp⟩
  replace q0 := (hb.cell (p := ⟨Z, 0, none⟩) z).trans q0
  replace q1 := (hb.cell (p := ⟨Z, 1, none⟩) z).trans q1
  replace h := h.below hb (Nat.le_refl _)
  replace hB := hB.thru hb (Nat.le_of_lt z)
  replace z := Nat.lt_of_lt_of_le z hb.size
  clear hb HSA t0 t1 zt
  have hw1 : IntKind.i64.wrap ((g.length : Int) + t.size) = g.length + t.size := by rw [IntKind.wrap_i64] <;> omega
  rcases hdoes with ⟨hnone, h6⟩ | ⟨g2, hsome⟩
  · have hE := errAll_none HOK'.out HCT.out hnone
    rcases hp with ⟨_, rfl⟩ | ⟨hz, _⟩
    rotate_left
    · rw [hE] at hz; exact absurd hz (by decide)
    rw [hE]
    have h6' : (g.length : Int) + t.size > 600 := by omega
    have hB2 := hB.alloc (by omega) (Obj.cells #[.slice none 0 0, .slice none 0 0] 25)
    have r1 : (w7.alloc (Obj.cells #[.slice none 0 0, .slice none 0 0] 25)).cell? ⟨Z, 1, none⟩ = some (.slice b g.length cap') := (((Below.refl w7.heap.size w7).alloc (Nat.le_refl _) _).cell (p := ⟨Z, 1, none⟩) z).trans q1
    clear hE hnone h6 h HPD HOK HOK'
    go_wp2_with fail
    go_ret
    exact ⟨rfl, by rw [HZ.out]; exact hB2⟩
  · have hE := errAll_some HOK'.out HCT.out hsome
    rcases hp with ⟨hz, _⟩ | ⟨_, l2, g3, pu, cu, qu, du, _, hda, hoku, rfl, hP7, hM7⟩
    · exact absurd hE hz
    rw [hsome] at hda
    simp only [Option.some.injEq, Prod.mk.injEq] at hda
    obtain ⟨rfl, rfl⟩ := hda
    obtain ⟨p3, c3, e3, hatU, _⟩ := hP7.owns.atoms (Below.refl _ _)
    obtain ⟨rfl, rfl⟩ : pu = p3 ∧ cu = c3 := by simpa using e3
    have hbU := (Below.refl w7.heap.size w7).alloc (Nat.le_refl _) (Obj.cells #[.slice pu l.length cu, .slice qu g2.length du] 25)
    have r0 := (hbU.cell (p := ⟨Z, 0, none⟩) z).trans q0
    have u0 : (w7.alloc (Obj.cells #[.slice pu l.length cu, .slice qu g2.length du] 25)).cell? ⟨w7.heap.size, 0, none⟩ = some (.slice pu l.length cu) := by simp
    have hB2 := hB.trans (hbU.mono (Nat.le_of_lt z))
    have HSM := hidE (sameAtoms_any pu a cu cap l l _ hl hl (hatU.below hbU (Nat.le_refl _)) (h.below hbU (Nat.le_refl _)))
    rw [sameL_selfE] at HSM
    have z2 := Nat.lt_of_lt_of_le z hbU.size
    clear hP7 hM7 e3 hatU h hbU hE hsome hoku q0 q1 HPD HOK HOK' hB z
    go_upto_region 13 with fail
    generalize w7.alloc (Obj.cells #[.slice pu l.length cu, .slice qu g2.length du] 25) = w8 at *
    generalize w7.heap.size = U at *
    go_wp2_with fail
    refine HSM.out.mono ?_
    rintro e w9 ⟨rfl, hb9⟩
    have hB9 := hB2.trans (hb9.mono (Nat.le_of_lt z2))
    go_wp2_with fail
    go_ret
    exact ⟨rfl, by rw [HZ.out]; exact hB9⟩
end Go.Proofs.YtnhjebdlcbhkcacGreat

namespace Go.Proofs.YtnhjebdlcbhkcacGreat
open Go.ChangeShapes Go.WideShapes Go.ChangeAt Go.RowKit Go.Deep Go.Joins

theorem Tryz.own : ownKnob Tryz.prog.godebug = none := by kernel_rfl
theorem Tryz.laidOut : laidOutB Tryz.prog = true := by kernel_rfl

theorem trodAll_stays {H : Type} {enc : TypeId × Value → H} {W W' : World} (hb : Below W.heap.size W W') : ∀ {ts : List TypeId} {vs : List Value} {ds : List (DataW H)} {ps : List MemPlace}, (∀ t ∈ ts, Tryz.prog.readableRec t = true ∧ t < Tryz.prog.types.size) →
    DataW.TrodAll enc Tryz.prog W 0 (fun _ => true) true ts vs ds ps → (∀ x ∈ ps, x.block < W.heap.size) → DataW.TrodAll enc Tryz.prog W' 0 (fun b => decide (b < W.heap.size)) true ts vs ds ps := by
  intro ts
  induction ts with
  | nil => intro vs ds ps _ h _; cases vs <;> cases ds <;> simp_all [DataW.TrodAll]
  | cons t ts ih =>
    intro vs ds ps hr h hlt
    obtain ⟨v, vs', d, ds', p, q, rfl, rfl, rfl, h0, hrest⟩ := trodAll_cons h
    have ht := hr t (by simp)
    exact trodAll_cons_mk (Below.trod Tryz.laidOut ht.1 ht.2 h0 hb (fun x hx => hlt x (by simp [hx]))) (ih (fun u hu => hr u (by simp [hu])) hrest (fun x hx => hlt x (by simp [hx])))

set_option maxRecDepth 100000 in
theorem open_mark {H : Type} {enc : TypeId × Value → H} {W : World} {b0 : Nat} {v : Value} {d : DataW H} {p : List MemPlace} (hv : Value.okWide Tryz.prog W .any b0 46 v) (h : DataW.Trod enc Tryz.prog W 0 (fun _ => true) true 46 v d p) :
    ∃ a cap l c, v = .agg #[.slice a (List.length l) cap, .int .i64 c] ∧ StepsAt W a l ∧ l.length ≤ cap ∧ l.length ≤ maxLen := by
  obtain ⟨v0, v1, y0, y1, n, rfl, rfl, rfl, t0, t1⟩ := open_agg2 Tryz.underlying46 (by kernel_rfl) (by kernel_rfl) hv h
  obtain ⟨c, hc, _⟩ := DataW.trod_int Tryz.underlying3 t1
  simp only [List.cons.injEq, and_true] at hc
  subst hc
  rcases open_slice_pairs Tryz.underlying44 Tryz.underlying99 (by kernel_rfl) rfl rfl (by kernel_rfl) (by kernel_rfl) t0 with ⟨hcs, _⟩ | ⟨ad, len, cap, m, n', V0, V1, D0, D1, P0, P1, hcs, hb, hl, hm, hmm, hx, hcell⟩
  · simp only [List.cons.injEq, and_true] at hcs
    subst hcs
    exact ⟨none, 0, [], c, rfl, Or.inl rfl, Nat.le_refl _, Nat.zero_le _⟩
  · simp only [List.cons.injEq, and_true] at hcs
    subst hcs
    simp only [if_true] at hmm
    subst hmm
    have each : ∀ i, i < len → ∃ q : Int × Int, V0 i = .int .i64 q.1 ∧ V1 i = .int .i64 q.2 := by
      intro i hi
      obtain ⟨_, _, e0, e1⟩ := hcell i (by omega)
      obtain ⟨x, hx, _⟩ := DataW.trod_int Tryz.underlying3 e0
      obtain ⟨y, hy, _⟩ := DataW.trod_int Tryz.underlying3 e1
      simp only [List.cons.injEq, and_true] at hx hy
      exact ⟨(x, y), hx, hy⟩
    obtain ⟨q, hq⟩ := choose_lt each
    refine ⟨some ad, m, (List.range len).map q, c, by simp, ?_, by simpa using hl, by simp; omega⟩
    by_cases hlen : len = 0
    · subst hlen; exact Or.inl rfl
    · obtain ⟨b, off, spot⟩ := ad
      have h0 := (hcell 0 (by omega)).1
      have hspot : spot = none := by simpa [Addr.add] using World.cell?_spot h0
      subst hspot
      refine Or.inr ⟨b, off, rfl, block_lt_of_cell h0, fun i hi => ?_⟩
      have hi' : i < len := by simpa using hi
      obtain ⟨e0, e1, _, _⟩ := hcell i (by omega)
      rw [(hq i hi').1, add_plain] at e0
      rw [(hq i hi').2, add_plain] at e1
      simp only [List.getElem_map, List.getElem_range]
      exact ⟨e0, e1⟩

end Go.Proofs.YtnhjebdlcbhkcacGreat

namespace Go.Proofs.YtnhjebdlcbhkcacGreat
open Go.ChangeShapes Go.WideShapes Go.ChangeAt Go.RowKit Go.Deep Go.Joins

/-- a list whose elements lie K cells each behind an address -/
def RowsAt {α : Type} (Q : α → List Value → Prop) (K : Nat) (w : World) (a : Option Addr) (zs : List α) : Prop :=
  zs = [] ∨ ∃ b off, a = some ⟨b, off, none⟩ ∧ b < w.heap.size ∧ ∀ i (h : i < zs.length), ∃ cs, Q zs[i] cs ∧ cs.length = K ∧ ∀ j, j < K → w.cell? ⟨b, off + i * K + j, none⟩ = cs[j]?

theorem open_rows {H : Type} {enc : TypeId × Value → H} {W : World} {α : Type} {Q : α → List Value → Prop} {K : Nat} {t e : TypeId} {fuel : Nat} {cs : List Value} {x : DataW H × List MemPlace} (ht : Tryz.prog.underlying t = some (.slice e)) (hK : Tryz.prog.cellsOf e = K) (hK0 : 0 < K)
    (hQ : ∀ n cs' y, DataW.trod enc Tryz.prog W 0 (fun _ => true) true n e cs' = some y → ∃ z : α, Q z cs')
    (h : DataW.trod enc Tryz.prog W 0 (fun _ => true) true fuel t cs = some x) :
    ∃ a cap zs, cs = [.slice a (List.length zs) cap] ∧ RowsAt Q K W a zs ∧ zs.length ≤ cap ∧ cap ≤ maxLen := by
  rcases open_slice ht h with ⟨rfl, _⟩ | ⟨ad, len, cap, m, n, D, Pl, rfl, hb, hl, hm, hmm, hxx, hx⟩
  · exact ⟨none, 0, [], rfl, Or.inl rfl, Nat.le_refl _, Nat.zero_le _⟩
  · have hlm : len ≤ m := by rw [hmm]; split <;> omega
    rw [hK] at hx
    have each : ∀ i, i < len → ∃ z : α, ∃ cs', Q z cs' ∧ cs'.length = K ∧ ∀ j, j < K → W.cell? ((ad.add (i * K)).add j) = cs'[j]? := by
      intro i hi
      obtain ⟨cs', h1, h2⟩ := hx i (by omega)
      obtain ⟨z, hz⟩ := hQ _ _ _ h2
      obtain ⟨_, h3, h4⟩ := World.cells?_some h1
      exact ⟨z, cs', hz, h3, h4⟩
    obtain ⟨q, hq⟩ : ∃ q : List α, q.length = len ∧ ∀ i (h : i < q.length), ∃ cs', Q q[i] cs' ∧ cs'.length = K ∧ ∀ j, j < K → W.cell? ((ad.add (i * K)).add j) = cs'[j]? := by
      clear hx hl hm hmm hlm h hxx
      induction len with
      | zero => exact ⟨[], rfl, fun i h => by simp at h⟩
      | succ len ih =>
        obtain ⟨q, hq1, hq2⟩ := ih (fun i hi => each i (by omega))
        obtain ⟨z, hz⟩ := each len (by omega)
        refine ⟨q ++ [z], by simp [hq1], fun i hi => ?_⟩
        by_cases e : i < q.length
        · rw [List.getElem_append_left e]; exact hq2 i e
        · have : i = len := by simp at hi; omega
          subst this
          rw [List.getElem_append_right (by omega)]
          simpa [hq1] using hz
    obtain ⟨hq1, hq2⟩ := hq
    subst hq1
    refine ⟨some ad, cap, q, rfl, ?_, hl, hm⟩
    by_cases hlen : q.length = 0
    · exact Or.inl (List.length_eq_zero_iff.1 hlen)
    · obtain ⟨b, off, spot⟩ := ad
      obtain ⟨cs', _, h3, h4⟩ := hq2 0 (by omega)
      have h0 := (h4 0 hK0).trans (List.getElem?_eq_getElem (by omega))
      have hspot : spot = none := by simpa [Addr.add] using World.cell?_spot h0
      subst hspot
      refine Or.inr ⟨b, off, rfl, by have := block_lt_of_cell h0; simpa [Addr.add] using this, fun i hi => ?_⟩
      obtain ⟨cs'', g1, g2, g3⟩ := hq2 i hi
      exact ⟨cs'', g1, g2, fun j hj => by have := g3 j hj; rw [add_plain, add_plain] at this; exact this⟩

/-- two cells: a step -/
def StepQ (z : Int × Int) (cs : List Value) : Prop := cs = [.int .i64 z.1, .int .i64 z.2]
/-- two cells: a mark -/
def MarkQ (W : World) (z : List (Int × Int) × Int) (cs : List Value) : Prop := ∃ p cap, cs = [.slice p z.1.length cap, .int .i64 z.2] ∧ StepsAt W p z.1 ∧ z.1.length ≤ cap ∧ cap ≤ maxLen
/-- three cells: an atom -/
def AtomQ (W : World) (z : At) (cs : List Value) : Prop := ∃ p cap, cs = [.slice p z.path.length cap, .int .i64 z.clock, .int .u8 z.sign] ∧ StepsAt W p z.path ∧ z.path.length ≤ cap ∧ cap ≤ maxLen ∧ 0 ≤ z.sign ∧ z.sign ≤ 255

theorem u8_wf {n : Int} (h : (Lit.int .u8 n).wf = true) : 0 ≤ n ∧ n ≤ 255 := by
  have h1 : IntKind.u8.min = 0 := by decide
  have h2 : IntKind.u8.max = 255 := by decide
  simp only [Lit.wf, h1, h2, Bool.and_eq_true, decide_eq_true_eq] at h
  exact h

set_option maxRecDepth 100000 in
theorem open_stepC {H : Type} {enc : TypeId × Value → H} {W : World} {n : Nat} {cs : List Value} {y : DataW H × List MemPlace} (h : DataW.trod enc Tryz.prog W 0 (fun _ => true) true n 99 cs = some y) : ∃ z, StepQ z cs := by
  obtain ⟨y0, y1, m, _, hl, h0, h1⟩ := trod_struct2 Tryz.underlying99 h
  have hl2 : cs.length = 2 := hl.trans (by kernel_rfl)
  match cs, hl2 with
  | [v0, v1], _ =>
    have e0 : DataW.trod enc Tryz.prog W 0 (fun _ => true) true m 3 [v0] = some y0 := h0
    have e1 : DataW.trod enc Tryz.prog W 0 (fun _ => true) true m 3 [v1] = some y1 := h1
    obtain ⟨a, ha, _⟩ := DataW.trod_int Tryz.underlying3 e0
    obtain ⟨b, hb, _⟩ := DataW.trod_int Tryz.underlying3 e1
    simp only [List.cons.injEq, and_true] at ha hb
    exact ⟨(a, b), by rw [ha, hb]; rfl⟩

set_option maxRecDepth 100000 in
theorem open_stepsC {H : Type} {enc : TypeId × Value → H} {W : World} {n : Nat} {cs : List Value} {y : DataW H × List MemPlace} (h : DataW.trod enc Tryz.prog W 0 (fun _ => true) true n 44 cs = some y) :
    ∃ a cap l, cs = [.slice a (List.length l) cap] ∧ StepsAt W a l ∧ l.length ≤ cap ∧ cap ≤ maxLen := by
  obtain ⟨a, cap, l, rfl, hr, h1, h2⟩ := open_rows (Q := StepQ) (K := 2) Tryz.underlying44 (by kernel_rfl) (by decide) (fun n cs' y h => open_stepC h) h
  refine ⟨a, cap, l, rfl, ?_, h1, h2⟩
  rcases hr with e | ⟨b, off, rfl, hb, hc⟩
  · exact Or.inl e
  · refine Or.inr ⟨b, off, rfl, hb, fun i hi => ?_⟩
    obtain ⟨cs', rfl, _, hj⟩ := hc i hi
    exact ⟨hj 0 (by decide), hj 1 (by decide)⟩

set_option maxRecDepth 100000 in
theorem open_markC {H : Type} {enc : TypeId × Value → H} {W : World} {n : Nat} {cs : List Value} {y : DataW H × List MemPlace} (h : DataW.trod enc Tryz.prog W 0 (fun _ => true) true n 46 cs = some y) : ∃ z, MarkQ W z cs := by
  obtain ⟨y0, y1, m, _, hl, h0, h1⟩ := trod_struct2 Tryz.underlying46 h
  have hl2 : cs.length = 2 := hl.trans (by kernel_rfl)
  match cs, hl2 with
  | [v0, v1], _ =>
    have e0 : DataW.trod enc Tryz.prog W 0 (fun _ => true) true m 44 [v0] = some y0 := h0
    have e1 : DataW.trod enc Tryz.prog W 0 (fun _ => true) true m 3 [v1] = some y1 := h1
    obtain ⟨a, cap, l, ha, hs, hl, hc⟩ := open_stepsC e0
    obtain ⟨b, hb, _⟩ := DataW.trod_int Tryz.underlying3 e1
    simp only [List.cons.injEq, and_true] at ha hb
    exact ⟨(l, b), a, cap, by rw [ha, hb], hs, hl, hc⟩

set_option maxRecDepth 100000 in
theorem open_atomC {H : Type} {enc : TypeId × Value → H} {W : World} {n : Nat} {cs : List Value} {y : DataW H × List MemPlace} (h : DataW.trod enc Tryz.prog W 0 (fun _ => true) true n 66 cs = some y) : ∃ z, AtomQ W z cs := by
  obtain ⟨y0, y1, m, _, hl, h0, h1⟩ := trod_struct2 Tryz.underlying66 h
  have hl2 : cs.length = 3 := hl.trans (by kernel_rfl)
  match cs, hl2 with
  | [v0, v1, v2], _ =>
    have e0 : DataW.trod enc Tryz.prog W 0 (fun _ => true) true m 46 [v0, v1] = some y0 := h0
    have e1 : DataW.trod enc Tryz.prog W 0 (fun _ => true) true m 5 [v2] = some y1 := h1
    obtain ⟨z, p, cap, ha, hs, hl, hc⟩ := open_markC e0
    obtain ⟨b, hb, _, hwf⟩ := DataW.trod_int Tryz.underlying5 e1
    simp only [List.cons.injEq, and_true] at ha hb
    exact ⟨⟨z.1, z.2, b⟩, p, cap, by rw [ha.1, ha.2, hb], hs, hl, hc, u8_wf hwf⟩

theorem marksAt_rows {W : World} {a : Option Addr} {l : List (List (Int × Int) × Int)} (hr : RowsAt (MarkQ W) 2 W a l) : MarksAt W a l := by
  rcases hr with e | ⟨b, off, rfl, hb, hc⟩
  · exact Or.inl e
  · refine Or.inr ⟨b, off, rfl, hb, fun i hi => ?_⟩
    obtain ⟨cs', ⟨p, cap, rfl, hs, h1, h2⟩, _, hj⟩ := hc i hi
    exact ⟨p, cap, hj 0 (by decide), hj 1 (by decide), hs, by omega⟩

theorem atomsAt_rows {W : World} {a : Option Addr} {l : List At} (hr : RowsAt (AtomQ W) 3 W a l) : AtomsAt W a l := by
  rcases hr with e | ⟨b, off, rfl, hb, hc⟩
  · exact Or.inl e
  · refine Or.inr ⟨b, off, rfl, hb, fun i hi => ?_⟩
    obtain ⟨cs', ⟨p, cap, rfl, hs, h1, h2, h3, h4⟩, _, hj⟩ := hc i hi
    exact ⟨p, cap, hj 0 (by decide), hj 1 (by decide), hj 2 (by decide), hs, by omega, h1, h3, h4⟩

set_option maxRecDepth 100000 in
theorem open_marks {H : Type} {enc : TypeId × Value → H} {W : World} {b0 : Nat} {v : Value} {d : DataW H} {p : List MemPlace} (hv : Value.okWide Tryz.prog W .any b0 23 v) (h : DataW.Trod enc Tryz.prog W 0 (fun _ => true) true 23 v d p) :
    ∃ a cap l, v = .slice a (List.length l) cap ∧ MarksAt W a l ∧ l.length ≤ cap ∧ l.length ≤ maxLen ∧ cap ≤ maxLen := by
  obtain ⟨a, len, cap, rfl⟩ := okWide_slice Tryz.underlying23 hv
  obtain ⟨fuel, hf⟩ := h
  obtain ⟨a', cap', l, hcs, hr, h1, h2⟩ := open_rows (Q := MarkQ W) (K := 2) Tryz.underlying23 (by kernel_rfl) (by decide) (fun n cs' y h => open_markC h) hf
  simp [Value.cells] at hcs
  obtain ⟨rfl, rfl, rfl⟩ := hcs
  exact ⟨a, cap, l, rfl, marksAt_rows hr, h1, by omega, h2⟩

set_option maxRecDepth 100000 in
theorem open_atoms {H : Type} {enc : TypeId × Value → H} {W : World} {b0 : Nat} {v : Value} {d : DataW H} {p : List MemPlace} (hv : Value.okWide Tryz.prog W .any b0 22 v) (h : DataW.Trod enc Tryz.prog W 0 (fun _ => true) true 22 v d p) :
    ∃ a cap l, v = .slice a (List.length l) cap ∧ AtomsAt W a l ∧ l.length ≤ cap ∧ l.length ≤ maxLen ∧ cap ≤ maxLen := by
  obtain ⟨a, len, cap, rfl⟩ := okWide_slice Tryz.underlying22 hv
  obtain ⟨fuel, hf⟩ := h
  obtain ⟨a', cap', l, hcs, hr, h1, h2⟩ := open_rows (Q := AtomQ W) (K := 3) Tryz.underlying22 (by kernel_rfl) (by decide) (fun n cs' y h => open_atomC h) hf
  simp [Value.cells] at hcs
  obtain ⟨rfl, rfl, rfl⟩ := hcs
  exact ⟨a, cap, l, rfl, atomsAt_rows hr, h1, by omega, h2⟩
end Go.Proofs.YtnhjebdlcbhkcacGreat

namespace Go.Proofs.YtnhjebdlcbhkcacGreat
open Go.ChangeShapes Go.WideShapes Go.ChangeAt Go.RowKit Go.Deep Go.Joins

set_option maxRecDepth 100000 in
theorem open_state {H : Type} {enc : TypeId × Value → H} {W : World} {b0 : Nat} {v : Value} {d : DataW H} {p : List MemPlace} (hv : Value.okWide Tryz.prog W .any b0 25 v) (h : DataW.Trod enc Tryz.prog W 0 (fun _ => true) true 25 v d p) :
    ∃ a cap l a' cap' g, v = .agg #[.slice a (List.length l) cap, .slice a' (List.length g) cap'] ∧ AtomsAt W a l ∧ MarksAt W a' g ∧ l.length ≤ cap ∧ l.length ≤ maxLen ∧ cap ≤ maxLen ∧ g.length ≤ cap' ∧ g.length ≤ maxLen ∧ cap' ≤ maxLen := by
  obtain ⟨v0, v1, y0, y1, n, rfl, rfl, rfl, t0, t1⟩ := open_agg2 Tryz.underlying25 (by kernel_rfl) (by kernel_rfl) hv h
  obtain ⟨a, cap, l, h0, r0, b0, b1⟩ := open_rows (Q := AtomQ W) (K := 3) Tryz.underlying22 (by kernel_rfl) (by decide) (fun n cs' y h => open_atomC h) t0
  obtain ⟨a', cap', g, h1, r1, b2, b3⟩ := open_rows (Q := MarkQ W) (K := 2) Tryz.underlying23 (by kernel_rfl) (by decide) (fun n cs' y h => open_markC h) t1
  simp only [List.cons.injEq, and_true] at h0 h1
  subst h0 h1
  exact ⟨a, cap, l, a', cap', g, rfl, atomsAt_rows r0, marksAt_rows r1, b0, by omega, b1, b2, by omega, b3⟩
end Go.Proofs.YtnhjebdlcbhkcacGreat
