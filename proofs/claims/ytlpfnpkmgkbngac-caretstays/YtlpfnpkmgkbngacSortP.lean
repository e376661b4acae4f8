/- Deeds that lie somewhere. -/
import Derived.Test.YtlpfnpkmgkbngacDeedC
import Derived.Test.YtlpfnpkmgkbngacOpenC
import Derived.Test.YtlpfnpkmgkbngacRows
import Derived.Test.YtlpfnpkmgkbngacOrderC
import Derived.Test.YtlpfnpkmgkbngacAtomCk
namespace Go.Proofs.Ytlpfnpkmgkbngac
open Go.RowKit

/-- deeds lie there, seven cells each -/
def DeedsAt (w : World) (r : Option Addr) (ds : List Dd) : Prop :=
  ds = [] ∨ ∃ b o, r = some ⟨b, o, none⟩ ∧ b < w.heap.size ∧ ∀ i (h : i < ds.length), ∃ p cp q cq, w.cell? ⟨b, o + i * 7, none⟩ = some (.int .i64 ds[i].kind) ∧ w.cell? ⟨b, o + i * 7 + 1, none⟩ = some (.slice p ds[i].rp.length cp) ∧ w.cell? ⟨b, o + i * 7 + 2, none⟩ = some (.int .i64 ds[i].rc) ∧ w.cell? ⟨b, o + i * 7 + 3, none⟩ = some (.string ds[i].rt) ∧ w.cell? ⟨b, o + i * 7 + 4, none⟩ = some (.slice q ds[i].mp.length cq) ∧ w.cell? ⟨b, o + i * 7 + 5, none⟩ = some (.int .i64 ds[i].mc) ∧ w.cell? ⟨b, o + i * 7 + 6, none⟩ = some (.int .i64 ds[i].many) ∧ DdAt w ds[i] p q ∧ -9223372036854775808 ≤ ds[i].many ∧ ds[i].many ≤ 9223372036854775807

theorem DeedsAt.below {w w' : World} {r : Option Addr} {ds : List Dd} (h : DeedsAt w r ds) (hb : Below w.heap.size w w') : DeedsAt w' r ds := by
  rcases h with h | ⟨b, o, rfl, hlt, hc⟩
  · exact Or.inl h
  · refine Or.inr ⟨b, o, rfl, Nat.lt_of_lt_of_le hlt hb.size, fun i hi => ?_⟩
    obtain ⟨p, cp, q, cq, h0, h1, h2, h3, h4, h5, h6, h7, h8⟩ := hc i hi
    exact ⟨p, cp, q, cq, (hb.cell (p := ⟨b, o + i * 7, none⟩) hlt).trans h0, (hb.cell (p := ⟨b, o + i * 7 + 1, none⟩) hlt).trans h1, (hb.cell (p := ⟨b, o + i * 7 + 2, none⟩) hlt).trans h2, (hb.cell (p := ⟨b, o + i * 7 + 3, none⟩) hlt).trans h3, (hb.cell (p := ⟨b, o + i * 7 + 4, none⟩) hlt).trans h4, (hb.cell (p := ⟨b, o + i * 7 + 5, none⟩) hlt).trans h5, (hb.cell (p := ⟨b, o + i * 7 + 6, none⟩) hlt).trans h6, h7.below hb, h8⟩
end Go.Proofs.Ytlpfnpkmgkbngac

namespace Go.Proofs.Ytlpfnpkmgkbngac
open Go.ChangeShapes Go.WideShapes Go.ChangeAt Go.RowKit Go.Deep Go.Joins

/-- seven cells: a deed -/
def DeedQ (W : World) (z : Dd) (cs : List Value) : Prop := ∃ p cp q cq, cs = [.int .i64 z.kind, .slice p z.rp.length cp, .int .i64 z.rc, .string z.rt, .slice q z.mp.length cq, .int .i64 z.mc, .int .i64 z.many] ∧ DdAt W z p q ∧ -9223372036854775808 ≤ z.many ∧ z.many ≤ 9223372036854775807

theorem i64_wf {n : Int} (h : (Lit.int .i64 n).wf = true) : -9223372036854775808 ≤ n ∧ n ≤ 9223372036854775807 := by
  have h1 : IntKind.i64.min = -9223372036854775808 := by decide
  have h2 : IntKind.i64.max = 9223372036854775807 := by decide
  simp only [Lit.wf, h1, h2, Bool.and_eq_true, decide_eq_true_eq] at h
  exact h

set_option maxRecDepth 100000 in
theorem open_deedC {H : Type} {enc : TypeId × Value → H} {W : World} {n : Nat} {cs : List Value} {y : DataW H × List MemPlace} (h : DataW.trod enc Try.prog W 0 (fun _ => true) true n 65 cs = some y) : ∃ z, DeedQ W z cs := by
  obtain ⟨y0, y1, y2, y3, m, _, hl, h0, h1, h2, h3⟩ := trod_struct4 Try.underlying65 h
  have hl2 : cs.length = 7 := hl.trans (by kernel_rfl)
  match cs, hl2 with
  | [v0, v1, v2, v3, v4, v5, v6], _ =>
    have e0 : DataW.trod enc Try.prog W 0 (fun _ => true) true m 3 [v0] = some y0 := h0
    have e1 : DataW.trod enc Try.prog W 0 (fun _ => true) true m 63 [v1, v2, v3] = some y1 := h1
    have e2 : DataW.trod enc Try.prog W 0 (fun _ => true) true m 41 [v4, v5] = some y2 := h2
    have e3 : DataW.trod enc Try.prog W 0 (fun _ => true) true m 3 [v6] = some y3 := h3
    obtain ⟨kd, hkd, _⟩ := DataW.trod_int Try.underlying3 e0
    obtain ⟨many, hmn, _, hwf⟩ := DataW.trod_int Try.underlying3 e3
    obtain ⟨x0, x1, m', _, _, g0, g1⟩ := trod_struct2 Try.underlying63 e1
    have e4 : DataW.trod enc Try.prog W 0 (fun _ => true) true m' 41 [v1, v2] = some x0 := g0
    have e5 : DataW.trod enc Try.prog W 0 (fun _ => true) true m' 9 [v3] = some x1 := g1
    obtain ⟨z, p, cp, ha, hs, hle, hc⟩ := open_markC e4
    obtain ⟨t, ht, _, hts⟩ := DataW.trod_string Try.underlying9 e5
    obtain ⟨z', q, cq, ha', hs', hle', hc'⟩ := open_markC e2
    simp only [List.cons.injEq, and_true] at hkd hmn ha ht ha'
    have hw := i64_wf hwf
    exact ⟨⟨kd, z.1, z.2, t, z'.1, z'.2, many⟩, p, cp, q, cq, by rw [hkd, hmn, ha.1, ha.2, ht, ha'.1, ha'.2], ⟨hs, hs', by show z.1.length ≤ maxLen; omega, by show z'.1.length ≤ maxLen; omega, hts⟩, hw.1, hw.2⟩

theorem deedsAt_rows {W : World} {a : Option Addr} {l : List Dd} (hr : RowsAt (DeedQ W) 7 W a l) : DeedsAt W a l := by
  rcases hr with e | ⟨b, off, rfl, hb, hc⟩
  · exact Or.inl e
  · refine Or.inr ⟨b, off, rfl, hb, fun i hi => ?_⟩
    obtain ⟨cs', ⟨p, cp, q, cq, rfl, hD, h1, h2⟩, _, hj⟩ := hc i hi
    exact ⟨p, cp, q, cq, hj 0 (by decide), hj 1 (by decide), hj 2 (by decide), hj 3 (by decide), hj 4 (by decide), hj 5 (by decide), hj 6 (by decide), hD, h1, h2⟩

end Go.Proofs.Ytlpfnpkmgkbngac

namespace Go.Proofs.Ytlpfnpkmgkbngac
open Go.ChangeShapes Go.WideShapes Go.ChangeAt Go.RowKit Go.Deep Go.Joins

theorem bulk_pos {H : Type} (d : DataW H) : 1 ≤ Rows.uptoBulk d := by
  cases d with
  | lit l => cases l <;> simp [Rows.uptoBulk]
  | _ => simp [Rows.uptoBulk]
theorem bulk_len {H : Type} (l : List (DataW H)) : l.length ≤ Rows.uptoBulkAll l := by
  induction l with
  | nil => simp [Rows.uptoBulkAll]
  | cons x r ih => have := bulk_pos x; simp only [Rows.uptoBulkAll, List.length_cons]; omega

set_option maxRecDepth 100000 in
theorem open_deeds {H : Type} {enc : TypeId × Value → H} {W : World} {b0 : Nat} {v : Value} {d : DataW H} {p : List MemPlace} (hv : Value.okWide Try.prog W .any b0 33 v) (h : DataW.Trod enc Try.prog W 0 (fun _ => true) true 33 v d p) :
    ∃ a cap l, v = .slice a (List.length l) cap ∧ DeedsAt W a l ∧ l.length ≤ maxLen ∧ l.length ≤ Rows.uptoBulk d := by
  obtain ⟨a, len, cap, rfl⟩ := okWide_slice Try.underlying33 hv
  obtain ⟨fuel, hf⟩ := h
  have hf2 := hf
  obtain ⟨a', cap', l, hcs, hr, h1, h2⟩ := open_rows (Q := DeedQ W) (K := 7) Try.underlying33 (by kernel_rfl) (by decide) (fun n cs' y h => open_deedC h) hf
  simp [Value.cells] at hcs
  obtain ⟨rfl, rfl, rfl⟩ := hcs
  refine ⟨a, cap, l, rfl, deedsAt_rows hr, by omega, ?_⟩
  rcases open_slice Try.underlying33 hf2 with ⟨e, _⟩ | ⟨ad, len, cap2, m, n, D, Pl, e, _, _, _, _, hx, _⟩
  · simp [Value.cells] at e
    rw [e.2.1]
    simp
  · simp [Value.cells] at e
    have hd : d = .slice ((List.range len).map D) ((List.range (m - len)).map fun j => D (len + j)) := (Prod.mk.inj hx).1
    have hb := bulk_len ((List.range len).map D)
    rw [hd]
    simp only [Rows.uptoBulk]
    simp at hb
    have := e.2.1
    omega
end Go.Proofs.Ytlpfnpkmgkbngac

namespace Go.Proofs.Ytlpfnpkmgkbngac

/-- an order that answers -1, 0 or 1 -/
structure Cmp {α : Type} (f : α → α → Int) : Prop where
  anti : ∀ a b, f a b = - f b a
  vals : ∀ a b, f a b = -1 ∨ f a b = 0 ∨ f a b = 1
  eqv : ∀ a b c, f a b = 0 → f b c = f a c
  trans : ∀ a b c, f a b = -1 → f b c = -1 → f a c = -1

theorem Cmp.refl {α : Type} {f : α → α → Int} (h : Cmp f) (a : α) : f a a = 0 := by have := h.anti a a; omega
theorem Cmp.eqv' {α : Type} {f : α → α → Int} (h : Cmp f) (a b c : α) (e : f b c = 0) : f a b = f a c := by
  have h1 := h.anti a b; have h2 := h.anti a c; have h3 := h.eqv c b a (by have := h.anti c b; omega); omega
theorem Cmp.le_le {α : Type} {f : α → α → Int} (h : Cmp f) {a b c : α} (x : f a b ≤ 0) (y : f b c ≤ 0) : f a c ≤ 0 := by
  rcases h.vals a b with e | e | e
  · rcases h.vals b c with e2 | e2 | e2
    · have := h.trans a b c e e2; omega
    · have := h.eqv' a b c e2; omega
    · omega
  · have := h.eqv a b c e; omega
  · omega
theorem Cmp.le_lt {α : Type} {f : α → α → Int} (h : Cmp f) {a b c : α} (x : f a b ≤ 0) (y : f b c < 0) : f a c < 0 := by
  rcases h.vals a b with e | e | e
  · rcases h.vals b c with e2 | e2 | e2
    · have := h.trans a b c e e2; omega
    · omega
    · omega
  · have := h.eqv a b c e; omega
  · omega
theorem Cmp.lt_le {α : Type} {f : α → α → Int} (h : Cmp f) {a b c : α} (x : f a b < 0) (y : f b c ≤ 0) : f a c < 0 := by
  rcases h.vals a b with e | e | e
  · rcases h.vals b c with e2 | e2 | e2
    · have := h.trans a b c e e2; omega
    · have := h.eqv' a b c e2; omega
    · omega
  · omega
  · omega

theorem ordI_vals (a b : Int) : ordI a b = -1 ∧ a < b ∨ ordI a b = 0 ∧ a = b ∨ ordI a b = 1 ∧ b < a := by
  unfold ordI; split
  · left; exact ⟨rfl, by omega⟩
  · split
    · right; right; exact ⟨rfl, by omega⟩
    · right; left; exact ⟨rfl, by omega⟩
theorem cmpI : Cmp ordI := by
  refine ⟨fun a b => ?_, fun a b => ?_, fun a b c h => ?_, fun a b c h h' => ?_⟩
  · have := ordI_vals a b; have := ordI_vals b a; omega
  · have := ordI_vals a b; omega
  · have h1 := ordI_vals a b; have : a = b := by omega
    rw [this]
  · have := ordI_vals a b; have := ordI_vals b c; have := ordI_vals a c; omega
theorem cmpLex {α β : Type} {f : α → α → Int} {g : β → β → Int} (hf : Cmp f) (hg : Cmp g) : Cmp (fun (x y : α × β) => orI (f x.1 y.1) (g x.2 y.2)) := by
  refine ⟨fun a b => ?_, fun a b => ?_, fun a b c h => ?_, fun a b c h h' => ?_⟩
  · have h1 := hf.anti a.1 b.1; have h2 := hg.anti a.2 b.2
    simp only [orI]; split <;> split <;> omega
  · have h1 := hf.vals a.1 b.1; have h2 := hg.vals a.2 b.2
    simp only [orI]; split <;> omega
  · simp only [orI] at h ⊢
    split at h
    · rename_i e
      have h1 := hf.eqv _ _ c.1 e; have h2 := hg.eqv _ _ c.2 h
      rw [h1, h2]
    · rename_i e; exact absurd h e
  · simp only [orI] at h h' ⊢
    split at h
    · rename_i e
      have h1 := hf.eqv _ _ c.1 e
      rw [← h1]
      split at h'
      · rename_i e2; rw [if_pos e2]; exact hg.trans _ _ _ h h'
      · rename_i e2; rw [if_neg e2]; exact h'
    · split at h'
      · rename_i e e2
        have h1 := hf.eqv' a.1 _ _ e2
        rw [← h1, if_neg e]; exact h
      · have h1 := hf.trans _ _ _ h h'
        rw [if_neg (by omega)]; exact h1
theorem cmpS : Cmp ordS := cmpLex cmpI cmpI
theorem cmpP : Cmp ordP := by
  refine ⟨fun a => ?_, fun a => ?_, fun a => ?_, fun a => ?_⟩
  · induction a with
    | nil => intro b; cases b <;> rfl
    | cons s a ih =>
      intro b
      cases b with
      | nil => rfl
      | cons t b =>
        have h1 := cmpS.anti s t
        have h2 := ih b
        simp only [ordP]
        split <;> split <;> omega
  · induction a with
    | nil => intro b; cases b <;> simp [ordP]
    | cons s a ih =>
      intro b
      cases b with
      | nil => simp [ordP]
      | cons t b =>
        have h1 := cmpS.vals s t
        have h2 := ih b
        simp only [ordP]
        split <;> omega
  · induction a with
    | nil =>
      intro b c h
      cases b with
      | nil => rfl
      | cons t b => simp [ordP] at h
    | cons s a ih =>
      intro b c h
      cases b with
      | nil => simp [ordP] at h
      | cons t b =>
        simp only [ordP] at h
        split at h
        · rename_i e
          cases c with
          | nil => rfl
          | cons u c =>
            have h1 := cmpS.eqv _ _ u e
            have h2 := ih b c h
            simp only [ordP]
            rw [h1, h2]
        · rename_i e; exact absurd h e
  · induction a with
    | nil =>
      intro b c h h'
      cases b with
      | nil => exact h'
      | cons t b =>
        cases c with
        | nil => simp [ordP] at h'
        | cons u c => rfl
    | cons s a ih =>
      intro b c h h'
      cases b with
      | nil => simp [ordP] at h
      | cons t b =>
        cases c with
        | nil => simp [ordP] at h'
        | cons u c =>
          simp only [ordP] at h h' ⊢
          split at h
          · rename_i e
            have h1 := cmpS.eqv _ _ u e
            rw [← h1]
            split at h'
            · rename_i e2; rw [if_pos e2]; exact ih b c h h'
            · rename_i e2; rw [if_neg e2]; exact h'
          · split at h'
            · rename_i e e2
              have h1 := cmpS.eqv' s _ _ e2
              rw [← h1, if_neg e]; exact h
            · have h1 := cmpS.trans _ _ _ h h'
              rw [if_neg (by omega)]; exact h1
theorem cmpM : Cmp (fun (x y : List (Int × Int) × Int) => ordM x.1 x.2 y.1 y.2) := cmpLex cmpP cmpI

theorem ordS_zero_iff (s t : Int × Int) : ordS s t = 0 ↔ s = t := by
  have h1 := ordI_vals s.1 t.1; have h2 := ordI_vals s.2 t.2
  constructor
  · intro h
    unfold ordS orI at h
    split at h
    · exact Prod.ext (by omega) (by omega)
    · omega
  · rintro rfl; exact cmpS.refl s
theorem ordP_zero {a : List (Int × Int)} : ∀ {b}, ordP a b = 0 → a = b := by
  induction a with
  | nil => intro b h; cases b with
    | nil => rfl
    | cons t b => simp [ordP] at h
  | cons s a ih => intro b h; cases b with
    | nil => simp [ordP] at h
    | cons t b =>
      simp only [ordP] at h
      split at h
      · rename_i e; rw [(ordS_zero_iff s t).1 e, ih h]
      · rename_i e; exact absurd h e
theorem ordP_same (p : List (Int × Int)) (l m : List (Int × Int)) : ordP (p ++ l) (p ++ m) = ordP l m := by
  induction p with
  | nil => rfl
  | cons s p ih => simp only [List.cons_append, ordP]; rw [if_pos (cmpS.refl s), ih]
theorem ordP_one {s t : Int × Int} (l m : List (Int × Int)) (h : ordS s t = -1) : ordP (s :: l) (t :: m) = -1 := by
  simp only [ordP]; rw [if_neg (by omega)]; exact h
theorem ordS_of {s t : Int × Int} (h : s.1 < t.1 ∨ s.1 = t.1 ∧ s.2 < t.2) : ordS s t = -1 := by
  have h1 := ordI_vals s.1 t.1; have h2 := ordI_vals s.2 t.2
  unfold ordS orI; split <;> omega
theorem ordM_of {l m : List (Int × Int)} {c d : Int} (h : ordP l m = -1) : ordM l c m d = -1 := by
  unfold ordM orI; rw [if_neg (by omega)]; exact h

end Go.Proofs.Ytlpfnpkmgkbngac

namespace Go.Proofs.Ytlpfnpkmgkbngac
open Go.RowKit

/-- the place where a mark is looked for -/
def Cut (l : List At) (m : List (Int × Int)) (d : Int) (i j : Nat) : Prop := (∀ t (h : t < l.length), t < i → ordM l[t].path l[t].clock m d < 0) ∧ (∀ t (h : t < l.length), j ≤ t → 0 ≤ ordM l[t].path l[t].clock m d)
/-- the atoms stand so that a mark parts them -/
def Parts (l : List At) (m : List (Int × Int)) (d : Int) : Prop := ∀ s t (h : t < l.length) (hs : s < t), ordM l[t].path l[t].clock m d < 0 → ordM (l[s]'(by omega)).path (l[s]'(by omega)).clock m d < 0

/-- has one of the atoms this mark? -/
def hasMk (l : List At) (p : List (Int × Int)) (c : Int) : Bool := l.any fun x => ordM x.path x.clock p c == 0

theorem cmpA : Cmp ordA := ⟨fun a b => cmpM.anti (a.path, a.clock) (b.path, b.clock), fun a b => cmpM.vals (a.path, a.clock) (b.path, b.clock), fun a b c => cmpM.eqv (a.path, a.clock) (b.path, b.clock) (c.path, c.clock), fun a b c => cmpM.trans (a.path, a.clock) (b.path, b.clock) (c.path, c.clock)⟩

theorem ordA_trans {a b c : At} (h : ordA a b < 0) (h' : ordA b c < 0) : ordA a c < 0 := by
  have h1 := cmpA.vals a b; have h2 := cmpA.vals b c
  have := cmpA.trans a b c (by omega) (by omega)
  omega

theorem chkFrom_ok : ∀ (l : List At) (prev : Option At), chkFrom prev l = 0 → (∀ x ∈ l, chk x.path x.clock = 0 ∧ isSignB x.sign = true) ∧ l.Pairwise (fun x y => ordA x y < 0) ∧ ∀ y, prev = some y → ∀ x ∈ l, ordA y x < 0
  | [], _, _ => ⟨fun x h => by simp at h, List.Pairwise.nil, fun _ _ x h => by simp at h⟩
  | x :: l, prev, h => by
    rw [chkFrom_cons] at h
    by_cases h1 : chkAt prev x ≠ 0
    · rw [if_pos h1] at h; exact absurd h h1
    rw [if_neg h1] at h
    have h2 : chkAt prev x = 0 := by omega
    obtain ⟨a1, a2, a3⟩ := chkFrom_ok l (some x) h
    unfold chkAt at h2
    by_cases c1 : chk x.path x.clock ≠ 0
    · rw [if_pos c1] at h2; exact absurd h2 c1
    rw [if_neg c1] at h2
    by_cases c2 : isSignB x.sign = false
    · rw [if_pos c2] at h2; exact absurd h2 (by decide)
    rw [if_neg c2] at h2
    refine ⟨?_, List.Pairwise.cons (a3 x rfl) a2, ?_⟩
    · intro y hy
      rcases List.mem_cons.1 hy with rfl | hy
      · exact ⟨by omega, by simpa using c2⟩
      · exact a1 y hy
    · intro y hy z hz
      subst hy
      have hyx : ordA y x < 0 := by
        simp only at h2
        split at h2
        · exact absurd h2 (by decide)
        · omega
      rcases List.mem_cons.1 hz with rfl | hz
      · exact hyx
      · exact ordA_trans hyx (a3 x rfl z hz)

/-- what Check lets through -/
structure OkL (l : List At) : Prop where
  len : l.length ≤ 300
  each : ∀ x ∈ l, chk x.path x.clock = 0 ∧ isSignB x.sign = true
  rise : l.Pairwise (fun x y => ordA x y < 0)

theorem okL_of {l : List At} (h : chkL l = 0) : OkL l := by
  unfold chkL at h
  by_cases e : 300 < l.length
  · rw [if_pos e] at h; exact absurd h (by decide)
  rw [if_neg e] at h
  have := chkFrom_ok l none h
  exact ⟨by omega, this.1, this.2.1⟩

theorem OkL.get {l : List At} (h : OkL l) {i j : Nat} (hj : j < l.length) (hij : i < j) : ordA (l[i]'(by omega)) l[j] < 0 := List.pairwise_iff_getElem.1 h.rise i j (by omega) hj hij

theorem parts_of {l : List At} (h : OkL l) (m : List (Int × Int)) (d : Int) : Parts l m d := by
  intro s t ht hs hn
  exact ordA_trans (c := ⟨m, d, 0⟩) (h.get ht hs) hn

theorem okPath {l : List At} (h : OkL l) : ∀ i (h : i < l.length), 0 < l[i].path.length ∧ l[i].path.length ≤ 10 := by
  intro i hi
  obtain ⟨h1, h2, _⟩ := chk_ok (h.each l[i] (List.getElem_mem hi)).1
  exact ⟨by omega, h2⟩

theorem gone_found {l : List At} (hok : OkL l) {m : List (Int × Int)} {d : Int} {i : Nat} (hi : i < l.length) (hc : Cut l m d i i) (h0 : ordM l[i].path l[i].clock m d = 0) {j : Nat} (hj : j < l.length) : (ordM l[j].path l[j].clock m d == 0) = decide (j = i) := by
  by_cases e : j = i
  · subst e; rw [h0]; simp
  · rw [show decide (j = i) = false from by simpa using e, beq_eq_false_iff_ne]
    rcases Nat.lt_or_gt_of_ne e with hlt | hgt
    · have := hc.1 j hj hlt; omega
    · have h1 := hok.get hj hgt
      have h2 := cmpA.eqv' l[j] l[i] ⟨m, d, 0⟩ h0
      have h3 := cmpA.anti l[j] l[i]
      have h4 : ordA l[j] ⟨m, d, 0⟩ = ordM l[j].path l[j].clock m d := rfl
      omega

theorem gone_none {l : List At} (hok : OkL l) {m : List (Int × Int)} {d : Int} {i : Nat} (hc : Cut l m d i i) (hn : ¬ ∃ h : i < l.length, ordM l[i].path l[i].clock m d = 0) {j : Nat} (hj : j < l.length) : (ordM l[j].path l[j].clock m d == 0) = false := by
  rw [beq_eq_false_iff_ne]
  intro h0
  rcases Nat.lt_or_ge j i with hlt | hge
  · have := hc.1 j hj hlt; omega
  · have hi : i < l.length := by omega
    by_cases e : i = j
    · subst e; exact hn ⟨hi, h0⟩
    · have h1 := hok.get hj (show i < j by omega)
      have h2 := cmpA.eqv' l[i] l[j] ⟨m, d, 0⟩ h0
      have h4 : ordA l[i] ⟨m, d, 0⟩ = ordM l[i].path l[i].clock m d := rfl
      have h5 := hc.2 i hi (Nat.le_refl _)
      omega

end Go.Proofs.Ytlpfnpkmgkbngac
