import Derived.Test.YtlpfnpkmgkbngacSortP
import Derived.Test.YtlpfnpkmgkbngacAtomCk
import Derived.Test.YtlpfnpkmgkbngacAfter
namespace Go.Proofs.Ytlpfnpkmgkbngac
open Go.RowKit

set_option maxHeartbeats 1000000 in
theorem take1_any (a a' : Option Addr) (cap cap' : Nat) (l m : List (Int × Int)) (c d s : Int) (w : World) (hl : l.length ≤ maxLen) (hm : m.length ≤ maxLen) (h : StepsAt w a l) (h' : StepsAt w a' m) :
    Calls Try.prog 141 #[.agg #[.slice a l.length cap, .int .i64 c, .int .u8 s], .agg #[.slice a' m.length cap', .int .i64 d]] w fun e w' => e = .returned (.int .i64 (ordM l c m d)) ∧ Below w.heap.size w w' := by
  have hb0 : Below w.heap.size w ((w.alloc (Obj.cells #[.slice a l.length cap, .int .i64 c, .int .u8 s] 50)).alloc (Obj.cells #[.slice a' m.length cap', .int .i64 d] 41)) := ((Below.refl _ _).alloc (Nat.le_refl _) _).alloc (by simp) _
  go_enter Try.func141, Try.ntmps141
  go_wp2_with (go_at_call 54; refine (order_any _ _ _ _ l m _ _ _ hl hm (by exact h.below hb0 (Nat.le_refl _)) (by exact h'.below hb0 (Nat.le_refl _))).mono ?_; rintro e w' ⟨rfl, hb⟩)
  go_ret
  exact ⟨rfl, hb0.thru hb hb0.size⟩

set_option maxRecDepth 100000 in
set_option maxHeartbeats 2000000 in
theorem search_any (a a' : Option Addr) (cap cap' : Nat) (l : List At) (m : List (Int × Int)) (d : Int) (w : World) (hl : l.length ≤ 1000) (hm : m.length ≤ maxLen) (h : AtomsAt w a l) (h' : StepsAt w a' m) (hp : Parts l m d) :
    Calls Try.prog 114 #[.slice a l.length cap, .agg #[.slice a' m.length cap', .int .i64 d], .func (.func 141) #[] #[]] w fun e w' => ∃ i : Nat, i ≤ l.length ∧ Cut l m d i i ∧ ∃ f : Bool, e = .returned (.tuple #[.int .i64 i, .bool f]) ∧ (f = true ↔ ∃ h : i < l.length, ordM l[i].path l[i].clock m d = 0) ∧ Below w.heap.size w w' := by
  have HP := hidE hp
  clear hp
  go_enter Try.func114, Try.ntmps114
  go_upto_region 1 with fail
  have hbA : Below w.heap.size w (w.alloc (Obj.cells #[.slice a' m.length cap', .int .i64 d] 41)) := (Below.refl _ _).alloc (Nat.le_refl _) _
  have q0 : (w.alloc (Obj.cells #[.slice a' m.length cap', .int .i64 d] 41)).cell? ⟨w.heap.size, 0, none⟩ = some (.slice a' m.length cap') := by simp
  have q1 : (w.alloc (Obj.cells #[.slice a' m.length cap', .int .i64 d] 41)).cell? ⟨w.heap.size, 1, none⟩ = some (.int .i64 d) := by simp
  have z1 : w.heap.size < (w.alloc (Obj.cells #[.slice a' m.length cap', .int .i64 d] 41)).heap.size := by simp
  generalize w.alloc (Obj.cells #[.slice a' m.length cap', .int .i64 d] 41) = w1 at hbA q0 q1 z1 ⊢
  go_wp2_with fail
  go_loopw [9, 10] (fun i j wr => ∃ x y : Nat, x ≤ y ∧ y ≤ l.length ∧ i = .int .i64 x ∧ j = .int .i64 y ∧ Cut l m d x y ∧ Below w1.heap.size w1 wr) (fun i j _ => (intOf j).toNat - (intOf i).toNat)
  case atStart => exact ⟨0, l.length, Nat.zero_le _, Nat.le_refl _, rfl, rfl, ⟨fun t _ h => by omega, fun t h h' => by omega⟩, Below.refl _ _⟩
  case round =>
    obtain ⟨x, y, hxy, hy, rfl, rfl, hcut, hb⟩ := hrel
    have HCut := hidE hcut
    clear hcut
    have hbW := hbA.thru hb hbA.size
    by_cases hlt : x < y
    · have hi1 : (x : Int) < y := by omega
      have hh : (x + y) / 2 < l.length := by omega
      go_upto_region 5 with fail
      rw [show ((x : Int) + y) / 2 = (((x + y) / 2 : Nat) : Int) by omega]
      have hz1 : x ≤ (x + y) / 2 := by omega
      have hz2 : (x + y) / 2 < y := by omega
      generalize (x + y) / 2 = z at hz1 hz2 hh ⊢
      rcases h.below hbW (Nat.le_refl _) with hs | ⟨ab, ao, rfl, hab, hc⟩
      · simp [hs] at hh
      obtain ⟨p, cp, c0, c1, c2, hst, hle, _⟩ := hc z hh
      have hi2 : (z : Int) < l.length := by omega
      have HZ : Hid (∀ o, o = ordM l[z].path l[z].clock m d → (o < 0 → Cut l m d (z + 1) y) ∧ (0 ≤ o → Cut l m d x z)) := by
        intro o ho
        subst ho
        refine ⟨fun h0 => ⟨fun t ht htz => ?_, HCut.out.2⟩, fun h0 => ⟨HCut.out.1, fun t ht htz => ?_⟩⟩
        · by_cases e : t = z
          · subst e; exact h0
          · exact HP.out t z hh (by omega) h0
        · by_cases e : t = z
          · subst e; exact h0
          · rcases Int.lt_or_le (ordM l[t].path l[t].clock m d) 0 with hn | hn
            · have := HP.out z t ht (by omega) hn
              omega
            · exact hn
      generalize l[z].path = pk at *
      generalize l[z].clock = ck at *
      generalize l[z].sign = sk at *
      have k0 := cell_regrown c0
      have k1 := cell_regrown c1
      have k2 := cell_regrown c2
      have k3 := cell_regrown ((hb.cell (p := ⟨w.heap.size, 0, none⟩) z1).trans q0)
      have k4 := cell_regrown ((hb.cell (p := ⟨w.heap.size, 1, none⟩) z1).trans q1)
      have S1 := hidE (fun d os => hst.below (below_regrown wr d os) (Nat.le_refl _))
      have S2 := hidE (fun d os => (h'.below hbW (Nat.le_refl _)).below (below_regrown wr d os) (Nat.le_refl _))
      clear hc h hst h'
      refine wp_region_quiet_below (by kernel_rfl) (by kernel_rfl) ?_
      repeat (first | go_big_quiet_step ((go_at_call 141; exact Calls.regrown_of (take1_any _ _ _ _ pk m _ _ _ _ hle hm (S1.out _ _) (S2.out _ _)))) | quiet_step ((go_at_call 141; exact Calls.regrown_of (take1_any _ _ _ _ pk m _ _ _ _ hle hm (S1.out _ _) (S2.out _ _)))))
      refine wpQuiet_nil ?_
      intro _ hw'
      obtain ⟨⟨dq, osq⟩, hw''⟩ := hw'
      subst hw''
      obtain ⟨HZ1, HZ2⟩ := HZ.out _ rfl
      by_cases ho : ordM pk ck m d < 0
      · have HC2 := hidE (HZ1 ho)
        clear HZ1 HZ2
        go_wp2
        go_roundw
        case rel => exact ⟨z + 1, y, by omega, hy, by go_num, rfl, HC2.out, hb.thru (below_regrown _ _ _) hb.size⟩
        case measure => simp [intOf]; omega
      · have HC2 := hidE (HZ2 (by omega))
        clear HZ1 HZ2
        go_wp2
        go_roundw
        case rel => exact ⟨x, z, by omega, by omega, rfl, rfl, HC2.out, hb.thru (below_regrown _ _ _) hb.size⟩
        case measure => simp [intOf]; omega
    · have hxe : x = y := by omega
      subst hxe
      by_cases hlen : x < l.length
      · rcases h.below hbW (Nat.le_refl _) with hs | ⟨ab, ao, rfl, hab, hc⟩
        · simp [hs] at hlen
        obtain ⟨p, cp, c0, c1, c2, hst, hle, _⟩ := hc x hlen
        have HO : Hid (∃ o, o = ordM l[x].path l[x].clock m d) := ⟨_, rfl⟩
        have HE : Hid ((∃ h : x < l.length, ordM l[x].path l[x].clock m d = 0) ↔ ordM l[x].path l[x].clock m d = 0) := by
          constructor
          · rintro ⟨_, h⟩; exact h
          · intro h; exact ⟨hlen, h⟩
        have hi1 : decide ((x : Int) < l.length) = true := by simpa using hlen
        have hi2 : (x : Int) < l.length := by omega
        generalize hpk : l[x].path = pk at *
        generalize hck : l[x].clock = ck at *
        generalize l[x].sign = sk at *
        have HPK := hidE hpk
        have HCK := hidE hck
        have k0 := cell_regrown c0
        have k1 := cell_regrown c1
        have k2 := cell_regrown c2
        have k3 := cell_regrown ((hb.cell (p := ⟨w.heap.size, 0, none⟩) z1).trans q0)
        have k4 := cell_regrown ((hb.cell (p := ⟨w.heap.size, 1, none⟩) z1).trans q1)
        have S1 := hidE (fun d os => hst.below (below_regrown wr d os) (Nat.le_refl _))
        have S2 := hidE (fun d os => (h'.below hbW (Nat.le_refl _)).below (below_regrown wr d os) (Nat.le_refl _))
        clear hc h hst h' hpk hck
        go_wp2_with fail
        refine wp_region_quiet_below (by kernel_rfl) (by kernel_rfl) ?_
        repeat (first | go_big_quiet_step ((go_at_call 141; exact Calls.regrown_of (take1_any _ _ _ _ pk m _ _ _ _ hle hm (S1.out _ _) (S2.out _ _)))) | quiet_step ((go_at_call 141; exact Calls.regrown_of (take1_any _ _ _ _ pk m _ _ _ _ hle hm (S1.out _ _) (S2.out _ _)))))
        refine wpQuiet_nil ?_
        intro _ hw'
        obtain ⟨⟨dq, osq⟩, hw''⟩ := hw'
        subst hw''
        go_wp2
        refine bodyPost_ret (v := .tuple #[.int .i64 x, .bool (ordM pk ck m d == 0)]) (by simp [results, Try.results114, go_sem]) rfl ?_
        refine ⟨x, by omega, HCut.out, _, rfl, ?_, hbW.thru (below_regrown _ _ _) hbW.size⟩
        rw [beq_iff_eq]
        constructor
        · intro e; exact ⟨hlen, by rw [HPK.out, HCK.out]; exact e⟩
        · rintro ⟨_, e⟩; rw [HPK.out, HCK.out] at e; exact e
      · have hi1 : decide ((x : Int) < l.length) = false := by simpa using hlen
        have HN : Hid ((false = true) ↔ ∃ h : x < l.length, ordM l[x].path l[x].clock m d = 0) := by
          constructor
          · intro h; cases h
          · rintro ⟨h, _⟩; exact absurd h hlen
        go_wp2_with fail
        refine wp_region_quiet_below (by kernel_rfl) (by kernel_rfl) ?_
        repeat (first | go_big_quiet_step (fail) | quiet_step (fail))
        refine wpQuiet_nil ?_
        intro _ hw'
        obtain ⟨⟨dq, osq⟩, hw''⟩ := hw'
        subst hw''
        go_wp2
        refine bodyPost_ret (v := .tuple #[.int .i64 x, .bool false]) (by simp [results, Try.results114, go_sem]) rfl ?_
        exact ⟨x, by omega, HCut.out, _, rfl, HN.out, hbW.thru (below_regrown _ _ _) hbW.size⟩
end Go.Proofs.Ytlpfnpkmgkbngac

namespace Go.Proofs.Ytlpfnpkmgkbngac
open Go.RowKit

/-- an atom's three cells -/
structure Raw where
  p : Option Addr
  n : Nat
  cap : Nat
  clock : Int
  sign : Int

def Raw.cells (r : Raw) : List Value := [.slice r.p r.n r.cap, .int .i64 r.clock, .int .u8 r.sign]
def flatR (l : List Raw) : List Value := l.flatMap Raw.cells

theorem flatR_length (l : List Raw) : (flatR l).length = l.length * 3 := by
  unfold flatR; induction l with
  | nil => rfl
  | cons s l ih => simp only [List.flatMap_cons, List.length_append, ih, List.length_cons, Raw.cells, List.length_nil]; omega
theorem flatR_append (l m : List Raw) : flatR (l ++ m) = flatR l ++ flatR m := by unfold flatR; simp
theorem flatR_get (l : List Raw) : ∀ i (h : i < l.length), (flatR l)[i * 3]? = some (.slice l[i].p l[i].n l[i].cap) ∧ (flatR l)[i * 3 + 1]? = some (.int .i64 l[i].clock) ∧ (flatR l)[i * 3 + 2]? = some (.int .u8 l[i].sign) := by
  induction l with
  | nil => intro i h; simp at h
  | cons s l ih =>
    intro i h
    match i with
    | 0 => exact ⟨rfl, rfl, rfl⟩
    | i + 1 =>
      have := ih i (by simpa using h)
      rw [show (i + 1) * 3 = i * 3 + 3 by omega, show i * 3 + 3 + 1 = i * 3 + 1 + 3 by omega, show i * 3 + 3 + 2 = i * 3 + 2 + 3 by omega]
      exact this
theorem flatR_one (l : List Raw) : ∀ u ∈ flatR l, u.oneCell' = true := by
  intro u hu
  unfold flatR at hu
  rw [List.mem_flatMap] at hu
  obtain ⟨s, _, hs⟩ := hu
  simp [Raw.cells] at hs
  rcases hs with rfl | rfl | rfl <;> rfl

/-- the cells tell this atom -/
structure RawOf (w : World) (r : Raw) (x : At) : Prop where
  n : r.n = x.path.length
  clock : r.clock = x.clock
  sign : r.sign = x.sign
  steps : StepsAt w r.p x.path
  len : x.path.length ≤ maxLen
  cap : x.path.length ≤ r.cap
  s0 : 0 ≤ x.sign
  s1 : x.sign ≤ 255

theorem RawOf.below {w w' : World} {r : Raw} {x : At} {B : Nat} (h : RawOf w r x) (hb : Below B w w') (hB : w.heap.size ≤ B) : RawOf w' r x :=
  ⟨h.n, h.clock, h.sign, h.steps.below hb hB, h.len, h.cap, h.s0, h.s1⟩

/-- a row of atoms that the call has made; their paths lie in the world w0 -/
def OwnsA (w0 w : World) (base : Nat) (v : Value) (xs : List At) : Prop :=
  ∃ rs : List Raw, rs.length = xs.length ∧ w.ownsRow base 50 3 v xs.length (flatR rs) ∧ ∀ i (h : i < xs.length) (h' : i < rs.length), RawOf w0 rs[i] xs[i]

theorem OwnsA.nil (w0 w : World) (base : Nat) : OwnsA w0 w base (.slice none 0 0) [] := ⟨[], rfl, World.ownsRow_nil w base 50 3, fun i h => by simp at h⟩

theorem OwnsA.atoms {w0 w : World} {base : Nat} {v : Value} {xs : List At} (h : OwnsA w0 w base v xs) (hb : Below w0.heap.size w0 w) : ∃ p cap, v = .slice p xs.length cap ∧ AtomsAt w p xs ∧ xs.length ≤ cap := by
  obtain ⟨rs, hl, hown, hr⟩ := h
  by_cases e : xs = []
  · subst e
    rcases hown.2 with ⟨rfl, _⟩ | ⟨g, cap, cur, rfl, _⟩
    · exact ⟨none, 0, rfl, Or.inl rfl, Nat.le_refl _⟩
    · exact ⟨some ⟨g, 0, none⟩, cap, rfl, Or.inl rfl, Nat.zero_le _⟩
  have hpos : 0 < xs.length := by
    rcases Nat.eq_zero_or_pos xs.length with h0 | h0
    · exact absurd (List.length_eq_zero_iff.1 h0) e
    · exact h0
  have hown' := hown
  rcases hown.2 with ⟨_, h0⟩ | ⟨g, cap, cur, rfl, _, _, hc, _⟩
  · omega
  refine ⟨some ⟨g, 0, none⟩, cap, rfl, Or.inr ⟨g, 0, rfl, (hown'.lt g rfl).2, fun i hi => ?_⟩, hc⟩
  have c := flatR_get rs i (by omega)
  have r := hr i hi (by omega)
  rw [Nat.zero_add]
  refine ⟨rs[i].p, rs[i].cap, ?_, ?_, ?_, (r.below hb (Nat.le_refl _)).steps, r.len, r.cap, r.s0, r.s1⟩
  · rw [← r.n]; exact (hown'.cellAt _ (by omega)).trans c.1
  · rw [← r.clock]; exact (hown'.cellAt _ (by omega)).trans c.2.1
  · rw [← r.sign]; exact (hown'.cellAt _ (by omega)).trans c.2.2

theorem ownsA_snoc {w0 w : World} {base : Nat} {v : Value} {xs : List At} {rs : List Raw} {r : Raw} {x : At} (hl : rs.length = xs.length) (hr : ∀ i (h : i < xs.length) (h' : i < rs.length), RawOf w0 rs[i] xs[i]) (hx : RawOf w0 r x) (h : w.ownsRow base 50 3 v (xs.length + 1) (flatR rs ++ r.cells)) :
    OwnsA w0 w base v (xs ++ [x]) := by
  refine ⟨rs ++ [r], by simp [hl], ?_, fun i hi hi' => ?_⟩
  · rw [flatR_append, List.length_append]
    show w.ownsRow base 50 3 v (xs.length + 1) (flatR rs ++ (r.cells ++ []))
    rw [List.append_nil]; exact h
  · by_cases e : i < xs.length
    · rw [List.getElem_append_left (by omega), List.getElem_append_left e]; exact hr i e (by omega)
    · have : i = xs.length := by simp at hi; omega
      subst this
      have e1 : (rs ++ [r])[xs.length] = r := by rw [List.getElem_append_right (by omega)]; simp [hl]
      have e2 : (xs ++ [x])[xs.length] = x := by simp
      rw [e1, e2]; exact hx

theorem AtomsAt.raw {w : World} {a : Option Addr} {l : List At} (h : AtomsAt w a l) (hne : 0 < l.length) : ∃ b off, a = some ⟨b, off, none⟩ ∧ b < w.heap.size ∧ ∀ i (h : i < l.length), ∃ r, RawOf w r l[i] ∧ w.cell? ⟨b, off + i * 3, none⟩ = some (.slice r.p r.n r.cap) ∧ w.cell? ⟨b, off + i * 3 + 1, none⟩ = some (.int .i64 r.clock) ∧ w.cell? ⟨b, off + i * 3 + 2, none⟩ = some (.int .u8 r.sign) := by
  rcases h with h | ⟨b, off, rfl, hlt, hc⟩
  · simp [h] at hne
  · refine ⟨b, off, rfl, hlt, fun i hi => ?_⟩
    obtain ⟨p, cap, h1, h2, h3, h4, h5, h6, h7, h8⟩ := hc i hi
    exact ⟨⟨p, _, cap, _, _⟩, ⟨rfl, rfl, rfl, h4, h5, h6, h7, h8⟩, h1, h2, h3⟩

theorem raw_new (w : World) (r : Raw) : ∀ j u, r.cells[j]? = some u → (w.alloc (.cells #[.slice r.p r.n r.cap, .int .i64 r.clock, .int .u8 r.sign] 50)).cell? ⟨w.heap.size, j, none⟩ = some u := by
  intro j u hj
  rw [World.cell?_alloc_new]
  simpa [Raw.cells] using hj

theorem Try.info50 : ∃ i, Try.prog.info? 50 = some i ∧ i.zero = some (.agg #[.slice none 0 0, .int .i64 0, .int .u8 0]) ∧ i.size = 3 ∧ i.bytes = 40 := by
  have h : (Try.prog.info? 50).map (fun i => (i.zero, i.size, i.bytes)) = some (some (.agg #[.slice none 0 0, .int .i64 0, .int .u8 0]), 3, 40) := by kernel_rfl
  rw [Option.map_eq_some_iff] at h
  obtain ⟨i, hi, he⟩ := h
  simp only [Prod.mk.injEq] at he
  exact ⟨i, hi, he⟩
end Go.Proofs.Ytlpfnpkmgkbngac
