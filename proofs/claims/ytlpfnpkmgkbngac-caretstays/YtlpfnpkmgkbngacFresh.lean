/- Contract of fresh.Mark. -/
import Derived.Test.YtlpfnpkmgkbngacPutA
import Derived.Deep.RegionHeldLaw
import Derived.Test.YtlpfnpkmgkbngacRawA
import Derived.Test.YtlpfnpkmgkbngacSortP
import Derived.Test.YtlpfnpkmgkbngacTakeOf
import Derived.Test.YtlpfnpkmgkbngacAfter
import Derived.Deep.RegionLawGrows
namespace Go.Proofs.Ytlpfnpkmgkbngac
open Go.RowKit

theorem step_append_own {P : Program} {ops : Array Oper} {o : Oper} {a : Act} {w : World} {K : Act → World → Prop} {Q : Exit → Act → World → Prop} {E : Prop}
    (hg : o.guard = none) (s x : Operand) (t : TypeId) (hop : o.op = Op.call { callee := Callee.builtin Builtin.append, args := #[s, x], argTypes := #[t, t] }) (base : Nat)
    (e : TypeId) (i : TypeInfo) (z : Value) (size bytes : Nat) (h1 : P.underlying t = some (.slice e)) (h2 : P.info? e = some i) (h3 : i.zero = some z) (h4 : i.size = size) (h5 : i.bytes = bytes) (h6 : z.cells.size = size) (h7 : 0 < size)
    (v : Value) (n : Nat) (olds : List Value) (hs : a.eval s = v) (hown : w.ownsRow base e size v n olds)
    (ad : Addr) (m c : Nat) (news : List Value) (hx : a.eval x = .slice (some ad) m c) (hn : news.length = m * size) (hc : ∀ j u, news[j]? = some u → w.cell? (ad.add j) = some u) (h1c : ∀ u ∈ news, u.oneCell' = true)
    (b1 : n + m ≤ maxLen) (b2 : (n + m) * bytes ≤ 140737488355328) (hb : base ≤ w.heap.size)
    (hK : ∀ v' w', w'.ownsRow base e size v' (n + m) (olds ++ news) → w.grownBy w' v.ownBlock → K (a.put o.dst v') w') :
    if Region.wanted o (yielded ops a.tmps) = true then Oper.wp P o a w K Q else E := by
  have hw : Region.wanted o (yielded ops a.tmps) = true := by simp [Region.wanted, hg]
  rw [if_pos hw]
  obtain ⟨v', w', hrun, r1, r2, _⟩ := run_append_own (P := P) w base t o.type e i z size bytes h1 h2 h3 h4 h5 h6 h7 v n olds hown ad m c news hn hc h1c b1 b2 hb
  unfold Oper.wp
  simp [execOp, hop, resolve, invoke, builtin, hs, hx, hrun, Result.andThen]
  exact hK v' w' r1 r2

/-- an atom's cells whose path is the call's own -/
def PickRaw (w : World) (base : Nat) (r : Raw) (x : At) : Prop :=
  ∃ g cap, r = ⟨some ⟨g, 0, none⟩, x.path.length, cap, x.clock, x.sign⟩ ∧ w.ownsRow base 92 2 (.slice (some ⟨g, 0, none⟩) x.path.length cap) x.path.length (flatS x.path) ∧ x.path.length ≤ maxLen ∧ 0 ≤ x.sign ∧ x.sign ≤ 255

theorem types_ne {w : World} {base base' g n cap m : Nat} {v : Value} {xs ys : List Value} (h : w.ownsRow base 92 2 (.slice (some ⟨g, 0, none⟩) n cap) n xs) (h' : w.ownsRow base' 50 3 v m ys) : some g ≠ v.ownBlock := by
  intro e
  rcases h.2 with ⟨hc, _⟩ | ⟨g1, c1, cur, h1, _, h2, _⟩
  · simp at hc
  have hg : g1 = g := by simp at h1; exact h1.1.symm
  subst hg
  rcases h'.2 with ⟨rfl, _⟩ | ⟨g2, c2, cur2, rfl, _, h3, _⟩
  · simp [Value.ownBlock] at e
  · simp [Value.ownBlock] at e
    subst e
    rw [h2] at h3
    simp at h3

theorem PickRaw.kept {w w' : World} {base : Nat} {row : Option Nat} {r : Raw} {x : At} (h : PickRaw w base r x) (hg : w.grownBy w' row) (hne : ∀ g cap, r.p = some ⟨g, 0, none⟩ → w.ownsRow base 92 2 (.slice (some ⟨g, 0, none⟩) x.path.length cap) x.path.length (flatS x.path) → some g ≠ row) : PickRaw w' base r x := by
  obtain ⟨g, cap, rfl, hown, h1⟩ := h
  exact ⟨g, cap, rfl, hown.kept hg (Or.inr (by have := hne g cap rfl hown; simpa [Value.ownBlock] using this)), h1⟩

theorem PickRaw.below {w w' : World} {base : Nat} {r : Raw} {x : At} (h : PickRaw w base r x) (hb : Below w.heap.size w w') : PickRaw w' base r x := by
  obtain ⟨g, cap, rfl, hown, h1⟩ := h
  exact ⟨g, cap, rfl, owns_below hown hb, h1⟩

theorem PickRaw.raw {w : World} {base : Nat} {r : Raw} {x : At} (h : PickRaw w base r x) : RawOf w r x := by
  obtain ⟨g, cap, rfl, hown, h1, h2, h3⟩ := h
  refine ⟨rfl, rfl, rfl, stepsAt_owns hown rfl, h1, ?_, h2, h3⟩
  rcases hown.2 with ⟨hc, _⟩ | ⟨g1, c1, cur, e1, _, _, hc, _⟩
  · simp at hc
  · simp at e1; rw [e1.2]; exact hc

/-- a row of atoms, all of it the call's own -/
def PickRow (w : World) (base : Nat) (v : Value) (xs : List At) : Prop :=
  ∃ rs : List Raw, rs.length = xs.length ∧ w.ownsRow base 50 3 v xs.length (flatR rs) ∧ ∀ i (h : i < xs.length) (h' : i < rs.length), PickRaw w base rs[i] xs[i]

theorem PickRow.owns {w : World} {base : Nat} {v : Value} {xs : List At} (h : PickRow w base v xs) : OwnsA w w base v xs := by
  obtain ⟨rs, h1, h2, h3⟩ := h
  exact ⟨rs, h1, h2, fun i h h' => (h3 i h h').raw⟩

theorem PickRow.below {w w' : World} {base : Nat} {v : Value} {xs : List At} (h : PickRow w base v xs) (hb : Below w.heap.size w w') : PickRow w' base v xs := by
  obtain ⟨rs, h1, h2, h3⟩ := h
  exact ⟨rs, h1, owns_below h2 hb, fun i h h' => (h3 i h h').below hb⟩

theorem PickRow.mono {w : World} {base base' : Nat} {v : Value} {xs : List At} (h : PickRow w base v xs) (hb : base' ≤ base) : PickRow w base' v xs := by
  obtain ⟨rs, h1, h2, h3⟩ := h
  refine ⟨rs, h1, owns_base h2 hb, fun i h h' => ?_⟩
  obtain ⟨g, cap, e, hown, h4⟩ := h3 i h h'
  exact ⟨g, cap, e, owns_base hown hb, h4⟩

theorem PickRow.snoc {w w' : World} {base : Nat} {v v' : Value} {xs : List At} {r : Raw} {x : At} {rs : List Raw} (hl : rs.length = xs.length) (hown : w.ownsRow base 50 3 v xs.length (flatR rs)) (hr : ∀ i (h : i < xs.length) (h' : i < rs.length), PickRaw w base rs[i] xs[i]) (hx : PickRaw w base r x) (hg : w.grownBy w' v.ownBlock) (h : w'.ownsRow base 50 3 v' (xs.length + 1) (flatR rs ++ r.cells)) :
    PickRow w' base v' (xs ++ [x]) := by
  refine ⟨rs ++ [r], by simp [hl], ?_, fun i hi hi' => ?_⟩
  · rw [flatR_append, List.length_append]
    show w'.ownsRow base 50 3 v' (xs.length + 1) (flatR rs ++ (r.cells ++ []))
    rw [List.append_nil]; exact h
  · by_cases e : i < xs.length
    · rw [List.getElem_append_left (by omega), List.getElem_append_left e]
      exact (hr i e (by omega)).kept hg (fun g cap _ ho => types_ne ho hown)
    · have : i = xs.length := by simp at hi; omega
      subst this
      have e1 : (rs ++ [r])[xs.length] = r := by rw [List.getElem_append_right (by omega)]; simp [hl]
      have e2 : (xs ++ [x])[xs.length] = x := by simp
      rw [e1, e2]
      exact hx.kept hg (fun g cap _ ho => types_ne ho hown)

/-- the atoms at wanted places -/
def pickTo (f : Nat → Bool) (l : List At) : Nat → List At
  | 0 => []
  | k + 1 => pickTo f l k ++ if f k then l[k]?.toList else []
theorem pickTo_len (f : Nat → Bool) (l : List At) : ∀ k, (pickTo f l k).length ≤ k
  | 0 => Nat.le_refl _
  | k + 1 => by
    have := pickTo_len f l k
    unfold pickTo
    rw [List.length_append]
    split
    · have : (l[k]?.toList).length ≤ 1 := by cases l[k]? <;> simp
      omega
    · simp; omega
end Go.Proofs.Ytlpfnpkmgkbngac

namespace Go.Proofs.Ytlpfnpkmgkbngac
open Go.RowKit

/-- is the atom at a place gone? -/
def goneAt (l : List At) (ms : List (List (Int × Int) × Int)) (j : Nat) : Bool := match l[j]? with
  | some x => hasGone ms x.path x.clock
  | none => false

theorem goneAt_nil (l : List At) (j : Nat) : goneAt l [] j = false := by unfold goneAt; split <;> rfl

theorem goneAt_snoc (l : List At) (ms : List (List (Int × Int) × Int)) (x : List (Int × Int) × Int) (j : Nat) (h : j < l.length) : goneAt l (ms ++ [x]) j = (goneAt l ms j || (ordM l[j].path l[j].clock x.1 x.2 == 0)) := by
  unfold goneAt
  rw [List.getElem?_eq_getElem h]
  show hasGone _ _ _ = (hasGone _ _ _ || _)
  unfold hasGone
  rw [List.any_append]
  congr 1
  simp only [List.any_cons, List.any_nil, Bool.or_false]
  have := cmpM.anti (l[j].path, l[j].clock) x
  simp only at this
  rw [this]
  by_cases e : ordM x.1 x.2 l[j].path l[j].clock = 0
  · rw [e]; rfl
  · rw [beq_eq_false_iff_ne.2 e, beq_eq_false_iff_ne.2 (by omega)]

theorem pickTo_take (l : List At) (ms : List (List (Int × Int) × Int)) : ∀ k, k ≤ l.length → pickTo (fun j => !goneAt l ms j) l k = takeL (l.take k) ms
  | 0, _ => rfl
  | k + 1, hk => by
    have hlt : k < l.length := by omega
    have ih := pickTo_take l ms k (by omega)
    show (pickTo (fun j => !goneAt l ms j) l k ++ if (!goneAt l ms k) = true then l[k]?.toList else []) = _
    rw [ih, List.take_succ_eq_append_getElem hlt]
    unfold takeL
    rw [List.filter_append]
    congr 1
    unfold goneAt
    rw [List.getElem?_eq_getElem hlt]
    simp only [List.filter_cons, List.filter_nil]
    split <;> simp_all
end Go.Proofs.Ytlpfnpkmgkbngac

namespace Go.Proofs.Ytlpfnpkmgkbngac
open Go.RowKit

set_option maxRecDepth 100000 in
set_option maxHeartbeats 2000000 in
theorem freshMark_ok (b off n c : Nat) (l : List (Int × Int)) (ck : Int) (w : World) (hn : n = l.length) (hl : l.length ≤ maxLen) (hbig : l.length * 16 ≤ 140737488355328) (h : StepsAt w (some ⟨b, off, none⟩) l) :
    Calls Try.prog 50 #[.agg #[.slice (some ⟨b, off, none⟩) n c, .int .i64 ck]] w fun e w' => ∃ g cap, e = .returned (.agg #[.slice (some ⟨g, 0, none⟩) n cap, .int .i64 ck]) ∧ w'.ownsRow w.heap.size 92 2 (.slice (some ⟨g, 0, none⟩) n cap) n (flatS l) ∧ Below w.heap.size w w' := by
  subst hn
  obtain ⟨q0, q1, q3, q4, hz, hb1⟩ := boxes2 w (.slice (some ⟨b, off, none⟩) l.length c) (.int .i64 ck) (.slice none 0 0) (.int .i64 0) 41 41
  have q2 : ∀ o, ((w.alloc (Obj.cells #[.slice (some ⟨b, off, none⟩) l.length c, .int .i64 ck] 41)).alloc (Obj.cells #[.slice none 0 0, .int .i64 0] 41)).frozen? ⟨w.heap.size + 1, o, none⟩ = false := fun o => by go_simp
  go_enter Try.func50, Try.ntmps50
  go_upto_region 1 with fail
  generalize (w.alloc (Obj.cells #[.slice (some ⟨b, off, none⟩) l.length c, .int .i64 ck] 41)).alloc (Obj.cells #[.slice none 0 0, .int .i64 0] 41) = w1 at q0 q1 q2 q3 q4 hz hb1 ⊢
  have z1 : w.heap.size < w1.heap.size := by omega
  have z2 : w.heap.size + 1 < w1.heap.size := by omega
  clear hz
  have hBd : Below w1.heap.size w1 w1.drew := (Below.refl _ _).drew
  have hs1 := h.below hb1 (Nat.le_refl _)
  go_region_held_law (fun w' => w'.cell? ⟨w.heap.size, 0, none⟩ = some (.slice (some ⟨b, off, none⟩) l.length c) ∧ w'.cell? ⟨w.heap.size, 1, none⟩ = some (.int .i64 ck))
      (first | exact ⟨q0, q1⟩ | exact ⟨t0, t1⟩ | exact ⟨cell_other (by omega) (cell_other (by omega) t0), cell_other (by omega) (cell_other (by omega) t1)⟩)
      ((go_at_call 91; refine (clone_any b off _ _ l _ rfl hl hbig (hs1.below hBd (Nat.le_refl _))).mono ?_; rintro e w3 ⟨g, cap2, rfl, hown, hb3⟩; have hb3' : Below w1.heap.size w1 w3 := hBd.thru hb3 (Nat.le_refl _); have t0 := (hb3'.cell (p := ⟨w.heap.size, 0, none⟩) z1).trans q0; have t1 := (hb3'.cell (p := ⟨w.heap.size, 1, none⟩) z1).trans q1; have t3 := (hb3'.cell (p := ⟨w.heap.size + 1, 0, none⟩) z2).trans q3; have t4 := (hb3'.cell (p := ⟨w.heap.size + 1, 1, none⟩) z2).trans q4; have t2 := fun o => (hb3'.frozen (p := ⟨w.heap.size + 1, o, none⟩) z2).trans (q2 o)))
  go_wp2_with fail
  have hg := hown.lt g rfl
  have hgz : w1.heap.size ≤ g := hg.1
  have s3 : (w3.setCell ⟨w.heap.size + 1, 0, none⟩ (.slice (some ⟨g, 0, none⟩) l.length cap2)).cell? ⟨w.heap.size + 1, 1, none⟩ = some (.int .i64 0) := (World.cell?_setCell_other _ _ _ _ (by simp)).trans t4
  refine bodyPost_ret (v := .agg #[.slice (some ⟨g, 0, none⟩) l.length cap2, .int .i64 ck]) (by simp [results, Try.results50, go_sem, t3, s3]) rfl ⟨g, cap2, rfl, ?_, ?_⟩
  · exact ownsRow_setCell_other (ownsRow_setCell_other (owns_base hown (by simp; omega)) (by simp [Value.ownBlock]; omega) _) (by simp [Value.ownBlock]; omega) _
  · exact ((hb1.thru hb3' hb1.size).setCell (by simp) _).setCell (by simp) _

end Go.Proofs.Ytlpfnpkmgkbngac

namespace Go.Proofs.Ytlpfnpkmgkbngac
open Go.RowKit

set_option maxRecDepth 100000 in
set_option maxHeartbeats 2000000 in
theorem find_any (a a' : Option Addr) (cap cap' : Nat) (l : List At) (m : List (Int × Int)) (d : Int) (w : World) (hl : l.length ≤ 1000) (hm : m.length ≤ maxLen) (h : AtomsAt w a l) (h' : StepsAt w a' m) (hp : Parts l m d) :
    Calls Try.prog 124 #[.slice a l.length cap, .agg #[.slice a' m.length cap', .int .i64 d]] w fun e w' => ∃ i : Nat, i ≤ l.length ∧ Cut l m d i i ∧ ∃ f : Bool, e = .returned (.tuple #[.int .i64 i, .bool f]) ∧ (f = true ↔ ∃ h : i < l.length, ordM l[i].path l[i].clock m d = 0) ∧ Below w.heap.size w w' := by
  have hb1 : Below w.heap.size w (w.alloc (Obj.cells #[.slice a' m.length cap', .int .i64 d] 41)) := (Below.refl _ _).alloc (Nat.le_refl _) _
  have HP := hidE hp
  clear hp
  go_enter Try.func124, Try.ntmps124
  go_wp2_with fail
  refine (search_any _ _ _ _ l m _ _ hl hm (h.below hb1 (Nat.le_refl _)) (h'.below hb1 (Nat.le_refl _)) HP.out).mono ?_
  rintro e w2 ⟨i, hi, hc, f, rfl, hf, hb⟩
  go_wp2_with fail
  go_ret2
  exact ⟨i, hi, hc, f, rfl, hf, hb1.thru hb hb1.size⟩
end Go.Proofs.Ytlpfnpkmgkbngac
