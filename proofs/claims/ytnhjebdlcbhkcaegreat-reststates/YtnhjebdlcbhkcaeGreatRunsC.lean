/- Lists of atoms that Check lets through. -/
import Derived.Test.YtnhjebdlcbhkcaeGreatPutLe
import Derived.Test.YtnhjebdlcbhkcaeGreatRunCk
import Derived.Test.YtnhjebdlcbhkcaeGreatNextOf
import Derived.Test.YtnhjebdlcbhkcaeGreatGapA
namespace Go.Proofs.YtnhjebdlcbhkcaeGreat
open Go.RowKit

theorem ordA_symm0 {x y : At} (h : ordA x y = 0) : ordA y x = 0 := by have := cmpA.anti y x; omega
theorem ordA_trans0 {x y z : At} (h : ordA x y = 0) (h' : ordA y z = 0) : ordA x z = 0 := by have := cmpA.eqv x y z h; omega

theorem least_some : ∀ (S : List At) (y : At), y ∈ S → ∃ z, Least S z ∧ ordA z y = 0 ∧ z.sign ≤ y.sign
  | [], _, h => by simp at h
  | s :: T, y, h => by
    by_cases ht : ∃ t ∈ T, ordA t y = 0
    · obtain ⟨t, ht1, ht2⟩ := ht
      -- the least of the tail at a mark like y's
      obtain ⟨z, hz, hzt, _⟩ := least_some T t ht1
      have hzy := ordA_trans0 hzt ht2
      by_cases hs : ordA s y = 0 ∧ s.sign < z.sign
      · refine ⟨s, ⟨List.mem_cons_self .., fun u hu e => ?_⟩, hs.1, ?_⟩
        · rcases List.mem_cons.1 hu with rfl | hu
          · exact Int.le_refl _
          · have := hz.2 u hu (ordA_trans0 (ordA_trans0 hzy (ordA_symm0 hs.1)) e)
            omega
        · rcases List.mem_cons.1 h with rfl | hy
          · exact Int.le_refl _
          · have := hz.2 y hy hzy; omega
      · have hzs : ordA z s = 0 → z.sign ≤ s.sign := fun e => by
          have h1 : ordA s y = 0 := ordA_trans0 (ordA_symm0 e) hzy
          have : ¬ s.sign < z.sign := fun h2 => hs ⟨h1, h2⟩
          omega
        refine ⟨z, ⟨List.mem_cons_of_mem _ hz.1, fun u hu e => ?_⟩, hzy, ?_⟩
        · rcases List.mem_cons.1 hu with rfl | hu
          · exact hzs e
          · exact hz.2 u hu e
        · rcases List.mem_cons.1 h with rfl | hy
          · exact hzs hzy
          · exact hz.2 y hy hzy
    · have hy : y = s := by
        rcases List.mem_cons.1 h with e | e
        · exact e
        · exact absurd ⟨y, e, cmpA.refl y⟩ ht
      subst hy
      refine ⟨y, ⟨List.mem_cons_self .., fun u hu e => ?_⟩, cmpA.refl y, Int.le_refl _⟩
      rcases List.mem_cons.1 hu with rfl | hu
      · exact Int.le_refl _
      · exact absurd ⟨u, hu, ordA_symm0 e⟩ ht

theorem least_least {P S T : List At} (h : ∀ x, x ∈ P ↔ Least S x) (z : At) : Least (P ++ T) z ↔ Least (S ++ T) z := by
  constructor
  · rintro ⟨h1, h2⟩
    refine ⟨?_, fun y hy e => ?_⟩
    · rcases List.mem_append.1 h1 with g | g
      · exact List.mem_append_left _ ((h z).1 g).1
      · exact List.mem_append_right _ g
    · rcases List.mem_append.1 hy with g | g
      · obtain ⟨y', hy', e1, e2⟩ := least_some S y g
        have := h2 y' (List.mem_append_left _ ((h y').2 hy')) (ordA_trans0 e (ordA_symm0 e1))
        omega
      · exact h2 y (List.mem_append_right _ g) e
  · rintro ⟨h1, h2⟩
    refine ⟨?_, fun y hy e => ?_⟩
    · rcases List.mem_append.1 h1 with g | g
      · exact List.mem_append_left _ ((h z).2 ⟨g, fun y hy => h2 y (List.mem_append_left _ hy)⟩)
      · exact List.mem_append_right _ g
    · rcases List.mem_append.1 hy with g | g
      · exact h2 y (List.mem_append_left _ ((h y).1 g).1) e
      · exact h2 y (List.mem_append_right _ g) e

theorem putL_least {l : List At} (hl : l.Pairwise (fun x y => ordA x y < 0)) : ∀ m : List At, (putL l m).Pairwise (fun x y => ordA x y < 0) ∧ ∀ z, z ∈ putL l m ↔ Least (l ++ m) z := by
  intro m
  suffices h : ∀ (m L S : List At), L.Pairwise (fun x y => ordA x y < 0) → (∀ z, z ∈ L ↔ Least S z) → (putL L m).Pairwise (fun x y => ordA x y < 0) ∧ ∀ z, z ∈ putL L m ↔ Least (S ++ m) z by
    exact h m l l hl (fun z => (rises_least hl z).symm)
  intro m
  induction m with
  | nil => intro L S h1 h2; exact ⟨h1, fun z => by rw [List.append_nil]; exact h2 z⟩
  | cons a m ih =>
    intro L S h1 h2
    obtain ⟨q1, q2⟩ := putA_least a L h1
    have := ih (putA a L false) (S ++ [a]) q1 (fun z => by
      rw [q2 z, ← least_least h2 z]
      exact least_congr (fun y => by simp [List.mem_append]; constructor <;> (rintro (h | h) <;> simp [h])) z)
    rw [List.append_assoc] at this
    exact this

end Go.Proofs.YtnhjebdlcbhkcaeGreat

namespace Go.Proofs.YtnhjebdlcbhkcaeGreat

theorem okL_chk {l : List At} (h : OkL l) : chkL l = 0 := by
  have key : ∀ (l : List At) (prev : Option At), (∀ x ∈ l, chk x.path x.clock = 0 ∧ isSignB x.sign = true) → l.Pairwise (fun x y => ordA x y < 0) → (∀ y, prev = some y → ∀ x ∈ l, ordA y x < 0) → chkFrom prev l = 0 := by
    intro l
    induction l with
    | nil => intro _ _ _ _; rfl
    | cons x l ih =>
      intro prev h1 h2 h3
      have p := List.pairwise_cons.1 h2
      have hx := h1 x (List.mem_cons_self ..)
      have hc : chkAt prev x = 0 := by
        unfold chkAt
        rw [if_neg (by rw [hx.1]; decide), if_neg (by rw [hx.2]; decide)]
        cases prev with
        | none => rfl
        | some y =>
          have := h3 y rfl x (List.mem_cons_self ..)
          simp only
          rw [if_neg (by omega)]
      rw [chkFrom_cons, if_neg (by rw [hc]; decide)]
      exact ih (some x) (fun y hy => h1 y (List.mem_cons_of_mem _ hy)) p.2 (fun y hy z hz => by cases hy; exact p.1 z hz)
  unfold chkL
  have := h.len
  rw [if_neg (by omega)]
  exact key l none h.each h.rise (fun y hy => by cases hy)

theorem putL_ok {l m : List At} (h : OkL l) (h' : OkL m) (hn : (putL l m).length ≤ 300) : OkL (putL l m) := by
  obtain ⟨a1, a2⟩ := putL_least h.rise m
  refine ⟨hn, fun x hx => ?_, a1⟩
  rcases List.mem_append.1 ((a2 x).1 hx).1 with g | g
  · exact h.each x g
  · exact h'.each x g
end Go.Proofs.YtnhjebdlcbhkcaeGreat

namespace Go.Proofs.YtnhjebdlcbhkcaeGreat
open Go.RowKit

def flw (pa : List (Int × Int)) (ca : Int) (pb : List (Int × Int)) (cb : Int) : Bool := ordM (bump pa 1) (ca + 1) pb cb == 0

set_option maxRecDepth 100000 in
set_option maxHeartbeats 2000000 in
theorem follows_any (a a' : Option Addr) (cap cap' : Nat) (l m : List (Int × Int)) (c d : Int) (w : World) (hl : chk l c = 0) (hm : chk m d = 0) (h : StepsAt w a l) (h' : StepsAt w a' m) :
    Calls Tryz.prog 168 #[.agg #[.slice a l.length cap, .int .i64 c], .agg #[.slice a' m.length cap', .int .i64 d]] w fun e w' => e = .returned (.bool (flw l c m d)) ∧ Below w.heap.size w w' := by
  have hl10 : l.length ≤ maxLen := by have := (chk_ok hl).2.1; unfold maxLen; omega
  have hm10 : m.length ≤ maxLen := by have := (chk_ok hm).2.1; unfold maxLen; omega
  obtain ⟨q0, q1, q2, q3, hz, hb0⟩ := boxes2 w (.slice a l.length cap) (.int .i64 c) (.slice a' m.length cap') (.int .i64 d) 42 42
  have hcase : (nxt l c 1 = ([], 0, 3) ∧ flw l c m d = false) ∨ (nxt l c 1 = (bump l 1, c + 1, 0)) := by
    unfold nxt
    rw [if_neg (by omega), if_neg (by omega)]
    by_cases hk : chk (bump l 1) (c + 1) = 0
    · rw [if_neg (by omega)]; exact Or.inr rfl
    · rw [if_pos hk]
      refine Or.inl ⟨rfl, ?_⟩
      unfold flw
      rw [beq_eq_false_iff_ne]
      intro e
      obtain ⟨e1, e2⟩ := ordM_zero e
      rw [e1, e2] at hk
      exact hk hm
  have HL := hidE hl
  have HM := hidE hm
  clear hl hm
  go_enter Tryz.func168, Tryz.ntmps168
  go_upto_region 1 with fail
  generalize (w.alloc (Obj.cells #[.slice a l.length cap, .int .i64 c] 42)).alloc (Obj.cells #[.slice a' m.length cap', .int .i64 d] 42) = W at q0 q1 q2 q3 hz hb0 ⊢
  go_wp2_with fail
  refine (next_any _ _ l _ _ _ hl10 (h.below hb0 (Nat.le_refl _))).mono ?_
  rintro e w2 ⟨na, nc, rfl, hsN, hb1⟩
  have z2 : w.heap.size + 1 < W.heap.size := by omega
  have p2 := (hb1.cell (p := ⟨w.heap.size + 1, 0, none⟩) z2).trans q2
  have p3 := (hb1.cell (p := ⟨w.heap.size + 1, 1, none⟩) z2).trans q3
  have hb := hb0.thru hb1 hb0.size
  have z3 := Nat.lt_of_lt_of_le z2 hb1.size
  clear hb0 hb1 q0 q1 q2 q3 hz z2
  rcases hcase with ⟨hn, hf⟩ | hn
  · rw [hn] at hsN ⊢
    have HF := hidE hf
    clear hf hn
    go_wp2_with fail
    go_ret
    exact ⟨ret_bool HF.out.symm, hb.alloc hb.size _⟩
  · rw [hn] at hsN ⊢
    have HLB := hidE (bump_len' l 1)
    clear hn
    have hbn := (Below.refl w2.heap.size w2).alloc (Nat.le_refl _) (Obj.cells #[.slice na (bump l 1).length nc, .int .i64 (c + 1)] 42)
    have hbm : (bump l 1).length ≤ maxLen := by rw [HLB.out]; exact hl10
    have x2 := (hbn.cell (p := ⟨w.heap.size + 1, 0, none⟩) z3).trans p2
    have x3 := (hbn.cell (p := ⟨w.heap.size + 1, 1, none⟩) z3).trans p3
    go_wp2_with (go_at_call 61; refine (order_any _ _ _ _ (bump l 1) m _ _ _ hbm hm10 (by exact hsN.below hbn (Nat.le_refl _)) (by exact h'.below (hb.thru hbn hb.size) (Nat.le_refl _))).mono ?_; rintro e w3 ⟨rfl, hb3⟩)
    go_ret
    exact ⟨ret_bool rfl, (hb.thru hbn hb.size).thru hb3 (by have := hb.size; simp; omega)⟩
end Go.Proofs.YtnhjebdlcbhkcaeGreat

namespace Go.Proofs.YtnhjebdlcbhkcaeGreat
open Go.RowKit

def part (l : List At) (f n : Nat) : List At := (l.drop f).take n

theorem part_len {l : List At} {f n : Nat} (h : f + n ≤ l.length) : (part l f n).length = n := by unfold part; simp; omega
theorem part_get {l : List At} {f n i : Nat} (h : f + n ≤ l.length) (hi : i < n) : (part l f n)[i]'(by rw [part_len h]; exact hi) = l[f + i] := by unfold part; simp

theorem AtomsAt.part {w : World} {b off : Nat} {l : List At} {f n : Nat} (h : AtomsAt w (some ⟨b, off, none⟩) l) (hfn : f + n ≤ l.length) : AtomsAt w (some ⟨b, off + f * 3, none⟩) (part l f n) := by
  rcases h with e | ⟨b', off', e, hb, hc⟩
  · left; unfold Go.Proofs.YtnhjebdlcbhkcaeGreat.part; rw [e]; simp
  · cases e
    refine Or.inr ⟨b, off + f * 3, rfl, hb, fun i hi => ?_⟩
    rw [part_len hfn] at hi
    rw [part_get hfn hi]
    have := hc (f + i) (by omega)
    rwa [show off + (f + i) * 3 = off + f * 3 + i * 3 by omega] at this

theorem OkL.part {l : List At} (h : OkL l) (f n : Nat) : OkL (part l f n) := by
  refine ⟨?_, fun x hx => h.each x (List.mem_of_mem_drop (List.mem_of_mem_take hx)), List.Pairwise.sublist ((List.take_sublist _ _).trans (List.drop_sublist _ _)) h.rise⟩
  have := h.len
  unfold Go.Proofs.YtnhjebdlcbhkcaeGreat.part
  simp; omega

set_option maxRecDepth 100000 in
set_option maxHeartbeats 2000000 in
theorem join_ok (b off cap : Nat) (pc : List At) (w : World) (x : At) (hx : pc[0]? = some x) (ok : OkL pc) (h : AtomsAt w (some ⟨b, off, none⟩) pc) :
    Calls Tryz.prog 79 #[.slice (some ⟨b, off, none⟩) pc.length cap] w fun e w' => ∃ g cap', e = .returned (.agg #[.slice (some ⟨g, 0, none⟩) x.path.length cap', .int .i64 x.clock, .string (txtS pc)]) ∧ w'.ownsRow w.heap.size 124 2 (.slice (some ⟨g, 0, none⟩) x.path.length cap') x.path.length (flatS x.path) ∧ Below w.heap.size w w' := by
  have hl : 0 < pc.length := (List.getElem?_eq_some_iff.1 hx).1
  have hx0 : pc[0] = x := (List.getElem?_eq_some_iff.1 hx).2
  have h0 := okL_chk ok
  have h300 := ok.len
  have hp := okPath ok 0 hl
  have H0 := hidE h0
  clear h0 ok
  have hbA := (Below.refl w.heap.size w).alloc (Nat.le_refl _) (Obj.cells #[.slice none 0 0, .int .i64 0, .string ⟨#[]⟩] 59)
  have q0 : (w.alloc (Obj.cells #[.slice none 0 0, .int .i64 0, .string ⟨#[]⟩] 59)).cell? ⟨w.heap.size, 0, none⟩ = some (.slice none 0 0) := by simp
  have q1 : (w.alloc (Obj.cells #[.slice none 0 0, .int .i64 0, .string ⟨#[]⟩] 59)).cell? ⟨w.heap.size, 1, none⟩ = some (.int .i64 0) := by simp
  have q2 : (w.alloc (Obj.cells #[.slice none 0 0, .int .i64 0, .string ⟨#[]⟩] 59)).cell? ⟨w.heap.size, 2, none⟩ = some (.string ⟨#[]⟩) := by simp
  have q3 : ∀ o, (w.alloc (Obj.cells #[.slice none 0 0, .int .i64 0, .string ⟨#[]⟩] 59)).frozen? ⟨w.heap.size, o, none⟩ = false := fun o => by go_simp
  have z1 : w.heap.size < (w.alloc (Obj.cells #[.slice none 0 0, .int .i64 0, .string ⟨#[]⟩] 59)).heap.size := by simp
  go_enter Tryz.func79, Tryz.ntmps79
  go_upto_region 1 with fail
  generalize w.alloc (Obj.cells #[.slice none 0 0, .int .i64 0, .string ⟨#[]⟩] 59) = W at hbA q0 q1 q2 q3 z1 ⊢
  go_wp2_with fail
  refine (text_ok _ _ pc _ (h.below hbA (Nat.le_refl _)) H0.out).mono ?_
  rintro e w2 ⟨rfl, hb2⟩
  have hb := hbA.thru hb2 hbA.size
  obtain ⟨ab, ao, hab, hb', hc⟩ := (h.below hb (Nat.le_refl _)).raw hl
  cases hab
  obtain ⟨⟨p, n, cp, ck, sk⟩, hr, c0, c1, c2⟩ := hc 0 hl
  have hn : n = pc[0].path.length := hr.n
  have hck : ck = pc[0].clock := hr.clock
  have hsk : sk = pc[0].sign := hr.sign
  subst hn hck hsk
  have hst := hr.steps
  clear hr
  simp only [Nat.zero_mul, Nat.add_zero] at c0 c1
  rw [hx0] at c0 c1 c2 hst hp
  clear hx0 hx
  obtain ⟨pb, po, rfl⟩ : ∃ pb po, p = some ⟨pb, po, none⟩ := by
    rcases hst with e | ⟨pb, po, rfl, _⟩
    · have e' : x.path = [] := e
      have : x.path.length = 0 := by rw [e']; rfl
      omega
    · exact ⟨pb, po, rfl⟩
  have hml : x.path.length ≤ maxLen := by unfold maxLen; omega
  have hl1 : (0 : Int) < pc.length := by omega
  clear hc
  go_wp2_with fail
  refine (freshMark_ok pb po _ _ x.path _ _ rfl hml (by omega) hst).mono ?_
  rintro e w3 ⟨g, cap2, rfl, hown, hb3⟩
  have z2 := Nat.lt_of_lt_of_le z1 hb2.size
  have t0 := (hb3.cell (p := ⟨w.heap.size, 0, none⟩) z2).trans ((hb2.cell (p := ⟨w.heap.size, 0, none⟩) z1).trans q0)
  have t1 := (hb3.cell (p := ⟨w.heap.size, 1, none⟩) z2).trans ((hb2.cell (p := ⟨w.heap.size, 1, none⟩) z1).trans q1)
  have t2 := (hb3.cell (p := ⟨w.heap.size, 2, none⟩) z2).trans ((hb2.cell (p := ⟨w.heap.size, 2, none⟩) z1).trans q2)
  have t3 := fun o => (hb3.frozen (p := ⟨w.heap.size, o, none⟩) z2).trans ((hb2.frozen (p := ⟨w.heap.size, o, none⟩) z1).trans (q3 o))
  have hg := (hown.lt g rfl).1
  have hgw : w.heap.size < g := by omega
  clear q0 q1 q2 q3 c0 c1 c2
  go_wp2_with fail
  refine bodyPost_ret (v := .agg #[.slice (some ⟨g, 0, none⟩) x.path.length cap2, .int .i64 x.clock, .string (txtS pc)]) (by simp [results, Tryz.results79, go_sem, t0, t1, t2]) rfl ⟨g, cap2, rfl, ?_, ?_⟩
  · exact ownsRow_setCell_other (ownsRow_setCell_other (ownsRow_setCell_other (owns_base hown hb.size) (by simp [Value.ownBlock]; omega) _) (by simp [Value.ownBlock]; omega) _) (by simp [Value.ownBlock]; omega) _
  · exact (((hb.thru hb3 hb.size).setCell (by simp) _).setCell (by simp) _).setCell (by simp) _
end Go.Proofs.YtnhjebdlcbhkcaeGreat

namespace Go.Proofs.YtnhjebdlcbhkcaeGreat
open Go.RowKit Go.Shelf
attribute [local go_sem] Oper.semAt_some

def goesB (l : List At) (f k : Nat) : Bool := decide (k + 1 < l.length) && (decide (k + 1 - f < 60) && (match l[k]?, l[k + 1]? with
  | some x, some y => flw x.path x.clock y.path y.clock
  | _, _ => false))
def pst (l : List At) : Nat → List (Nat × Nat) × Nat
  | 0 => ([], 0)
  | k + 1 => if goesB l (pst l k).2 k = true then pst l k else ((pst l k).1 ++ [((pst l k).2, k + 1)], k + 1)

theorem pst_le (l : List At) : ∀ k, (pst l k).2 ≤ k
  | 0 => Nat.le_refl _
  | k + 1 => by
    have := pst_le l k
    unfold pst
    split
    · omega
    · exact Nat.le_refl _

abbrev Pc (l : List At) := { p : Nat × Nat // p.1 < p.2 ∧ p.2 ≤ l.length }
def encP (b off cap : Nat) {l : List At} (x : Pc l) : Array Value := #[.slice (some ⟨b, off + x.1.1 * 3, none⟩) (x.1.2 - x.1.1) (cap - x.1.1)]

def KpX (t1 t2 : TypeId) (n₀ : Nat) (W W' : World) : Prop := Below n₀ W W' ∧ ∀ (k : Nat) (cur : Array Value) (t : TypeId), t ≠ t1 → t ≠ t2 → W.heap[k]? = some (Obj.cells cur t (0, 0)) → W'.heap[k]? = some (Obj.cells cur t (0, 0))

theorem KpX.trans {t1 t2 : TypeId} {n₀ : Nat} {A B C : World} (h : KpX t1 t2 n₀ A B) (k : KpX t1 t2 n₀ B C) : KpX t1 t2 n₀ A C := ⟨h.1.trans k.1, fun i cur t h1 h2 h3 => k.2 i cur t h1 h2 (h.2 i cur t h1 h2 h3)⟩
theorem KpX.put {t1 t2 : TypeId} {n₀ B : Nat} (hn : n₀ ≤ B) (W : World) (l : Nat) (o o' : Obj) (hl : B ≤ l) (h : W.heap[l]? = some o) (hc : o.isCells = false) (_ : o.isWalk = false) : KpX t1 t2 n₀ W (W.putObj l o') := by
  refine ⟨⟨rfl, rfl, rfl, by simp [World.putObj], fun k hk => World.putObj_heap_other (by omega)⟩, fun k cur t _ _ hk => ?_⟩
  by_cases e : k = l
  · subst e; rw [h] at hk; cases hk; cases hc
  · rw [World.putObj_heap_other e]; exact hk
theorem KpX.below {t1 t2 : TypeId} {n₀ : Nat} {W W' : World} (hb : Below W.heap.size W W') (hn : n₀ ≤ W.heap.size) : KpX t1 t2 n₀ W W' := by
  refine ⟨hb.mono hn, fun k cur t _ _ hk => ?_⟩
  have hlt : k < W.heap.size := (Array.getElem?_eq_some_iff.1 hk).1
  rw [hb.block k hlt]; exact hk
theorem cell_ofX {W : World} {B j : Nat} {cs : Array Value} {t : TypeId} {v : Value} (h : W.heap[B]? = some (.cells cs t (0, 0))) (hj : cs[j]? = some v) : W.cell? ⟨B, j, none⟩ = some v := by
  simp [World.cell?, h, hj]
theorem below_grownX {W W' : World} (hb : Below W.heap.size W W') : W.grownBy W' none := ⟨hb.os, hb.tape, hb.output, hb.size, fun k hk _ => hb.block k hk⟩

set_option maxRecDepth 100000 in
set_option maxHeartbeats 4000000 in
theorem pieces1_in (n : Nat) (hn : 1 ≤ n) (B b off cap n₀ : Nat) (l : List At) (w : World) (ok : OkL l) (hcap : l.length ≤ cap) (_hcm : cap ≤ maxLen) (hn₀ : n₀ ≤ w.heap.size) (hB : w.heap[B]? = some (.cells #[.slice (some ⟨b, off, none⟩) l.length cap] 22 (0, 0)))
    (hat : ∀ W, Below n₀ w W → AtomsAt W (some ⟨b, off, none⟩) l) :
    SeqW Fence.wide n Tryz.prog 167 #[.pointer (some ⟨B, 0, none⟩)] (encP b off cap (l := l)) (KpX 59 44 n₀) (fun xs _ => xs.map (·.1) = (pst l l.length).1) (l.length + 1) w := by
  intro lp J W hbW hJ hY h0
  show CallsIn Fence.wide n Tryz.prog 167 #[.func (.yield lp) #[] #[], .pointer (some ⟨B, 0, none⟩)] W _
  refine callsIn_of_wp Tryz.func167 rfl trivial ?_ rfl
  simp only [Tryz.ntmps167, List.size_toArray, List.length_cons, List.length_nil, Nat.reduceAdd, Nat.reduceSub, Array.replicate_succ, Array.replicate_zero, List.push_toArray, List.append_toArray, List.nil_append, List.cons_append]
  have hBlt : B < w.heap.size := (Array.getElem?_eq_some_iff.1 hB).1
  have hBW : W.heap[B]? = some (.cells #[.slice (some ⟨b, off, none⟩) l.length cap] 22 (0, 0)) := (hbW.block B hBlt).trans hB
  have r0 : W.cell? ⟨B, 0, none⟩ = some (.slice (some ⟨b, off, none⟩) l.length cap) := cell_ofX hBW rfl
  have h300 := ok.len
  have hWn : n₀ ≤ W.heap.size := Nat.le_trans hn₀ hbW.size
  have HOK := hidE ok
  have HAT := hidE hat
  have hbW0 := hbW.mono hn₀
  unfold maxLen at _hcm
  clear ok hat
  gi_wp2
  gi_loopw [8, 3] (fun i fr wr => ∃ (k f : Nat) (pre : List (Pc l)), k ≤ l.length ∧ i = .int .i64 k ∧ fr = .int .i64 f ∧ f ≤ k ∧ pst l k = (pre.map (·.1), f) ∧ pre.length ≤ k ∧ J pre wr ∧ wr.heap[B]? = some (.cells #[.slice (some ⟨b, off, none⟩) l.length cap] 22 (0, 0)) ∧ Below n₀ W wr) (fun i _ _ => l.length - (intOf i).toNat)
  case atStart => exact ⟨0, 0, [], Nat.zero_le _, rfl, rfl, Nat.le_refl _, rfl, Nat.le_refl _, h0, hBW, Below.refl _ _⟩
  case round =>
    obtain ⟨k, f, pre, hk, rfl, rfl, hfk, hps, hpl, hJk, hBk, hbk⟩ := hrel
    have HP := hidE hps
    clear hps r0 hBW h0
    have q0 : wr.cell? ⟨B, 0, none⟩ = some (.slice (some ⟨b, off, none⟩) l.length cap) := cell_ofX hBk rfl
    have hBl : B < wr.heap.size := (Array.getElem?_eq_some_iff.1 hBk).1
    have hnr : n₀ ≤ wr.heap.size := Nat.le_trans hWn hbk.size
    by_cases hlt : k < l.length
    · have hi1 : (k : Int) < l.length := by omega
      have HPS : Hid (pst l (k + 1) = if goesB l f k = true then (pre.map (·.1), f) else (pre.map (·.1) ++ [(f, k + 1)], k + 1)) := by
        show _ = _
        rw [pst, HP.out]
      have hatr := HAT.out wr (hbW0.trans hbk)
      have hw1 : IntKind.i64.wrap ((k : Int) + 1) = (k : Int) + 1 := by rw [IntKind.wrap_i64] <;> omega
      by_cases c1 : k + 1 < l.length
      · have hd1 : decide (((k : Int) + 1) < l.length) = true := by simp; omega
        by_cases c2 : k + 1 - f < 60
        · have hd2 : decide (((k : Int) + 1 - f) < 60) = true := by simp; omega
          obtain ⟨ab, ao, hab, hbl, hc⟩ := hatr.raw (by omega)
          cases hab
          obtain ⟨⟨p, n1, cp, ck, sk⟩, hr, c0, c1', _⟩ := hc k hlt
          obtain ⟨⟨p', n2, cp', ck', sk'⟩, hr', d0, d1, _⟩ := hc (k + 1) c1
          have e1 : n1 = l[k].path.length := hr.n
          have e2 : ck = l[k].clock := hr.clock
          have e3 : n2 = l[k + 1].path.length := hr'.n
          have e4 : ck' = l[k + 1].clock := hr'.clock
          subst e1 e2 e3 e4
          have hs1 := hr.steps
          have hs2 := hr'.steps
          have k1 := (HOK.out.each l[k] (List.getElem_mem hlt)).1
          have k2 := (HOK.out.each l[k + 1] (List.getElem_mem c1)).1
          have HGB : Hid (goesB l f k = flw l[k].path l[k].clock l[k + 1].path l[k + 1].clock) := by
            show _ = _
            unfold goesB
            rw [decide_eq_true c1, decide_eq_true c2, List.getElem?_eq_getElem hlt, List.getElem?_eq_getElem c1]; rfl
          have hj2 : ((k : Int) + 1) < l.length := by omega
          have hw3 : ((k : Int) + 1).toNat = k + 1 := by omega
          clear hc hr hr'
          generalize l[k].path = pa at *
          generalize l[k].clock = ca at *
          generalize l[k + 1].path = pb at *
          generalize l[k + 1].clock = cb at *
          have hK1 := hidE k1
          have hK2 := hidE k2
          clear k1 k2
          have k0 := cell_regrown q0
          have k1 := cell_regrown c0
          have k2 := cell_regrown c1'
          have k3 := cell_regrown d0
          have k4 := cell_regrown d1
          have S1 := hidE (fun d os => hs1.below (below_regrown wr d os) (Nat.le_refl _))
          have S2 := hidE (fun d os => hs2.below (below_regrown wr d os) (Nat.le_refl _))
          clear hs1 hs2 c0 c1' d0 d1
          gi_upto_region 5 with fail
          refine wpIn_wide.2 ?_
          refine wp_region_quiet_below (by kernel_rfl) (by kernel_rfl) ?_
          repeat (first | go_big_quiet_step ((go_at_call 168; exact Calls.regrown_of (follows_any _ _ _ _ pa pb _ _ _ hK1.out hK2.out (S1.out _ _) (S2.out _ _)))) | quiet_step ((go_at_call 168; exact Calls.regrown_of (follows_any _ _ _ _ pa pb _ _ _ hK1.out hK2.out (S1.out _ _) (S2.out _ _)))))
          refine wpQuiet_nil ?_
          intro W2 hw'
          obtain ⟨⟨dq, osq⟩, hw''⟩ := hw'
          have hb2 : Below wr.heap.size wr W2 := by rw [hw'']; exact below_regrown wr dq osq
          clear hw''
          clear k0 k1 k2 k3 k4 S1 S2
          have hJ2 := hJ pre wr W2 none hJk (below_grownX hb2) (fun r e => by cases e)
          have hB2 := (hb2.block B hBl).trans hBk
          have q2 : W2.cell? ⟨B, 0, none⟩ = some (.slice (some ⟨b, off, none⟩) l.length cap) := cell_ofX hB2 rfl
          cases hfl : flw pa ca pb cb
          · have HPS2 : Hid (pst l (k + 1) = (pre.map (·.1) ++ [(f, k + 1)], k + 1)) := by
              show _ = _
              rw [HPS.out, HGB.out, if_neg (by rw [hfl]; decide)]
            clear hfl HGB
            obtain ⟨fn, tmps, assign, body, hy, hR⟩ := hY pre ⟨(f, k + 1), by show f < k + 1; omega, by show k + 1 ≤ l.length; omega⟩ W2 hJ2 (by omega)
            dsimp only [encP] at hy
            have hcf : ¬ (cap = f) := by omega
            have hb5 : (f : Int) ≤ (k : Int) + 1 := by omega
            have hb6 : (k : Int) + 1 ≤ (cap : Int) := by omega
            gi_wp2_with fail
            refine hR.mono ?_
            rintro e W4 ⟨rfl, hJ4, hk4⟩
            gi_wp2_with fail
            go_roundw
            case rel => exact ⟨k + 1, k + 1, pre ++ [⟨(f, k + 1), by show f < k + 1; omega, by show k + 1 ≤ l.length; omega⟩], by omega, by go_num, by go_num, Nat.le_refl _, by rw [HPS2.out]; simp, by simp; omega, hJ4, hk4.2 _ _ _ (by decide) (by decide) hB2, (hbk.trans (hb2.mono hnr)).trans hk4.1⟩
            case measure => simp [intOf]; omega
          · have HPS2 : Hid (pst l (k + 1) = (pre.map (·.1), f)) := by
              show _ = _
              rw [HPS.out, HGB.out, if_pos hfl]
            clear hfl HGB
            gi_wp2_with fail
            go_roundw
            case rel => exact ⟨k + 1, f, pre, by omega, by go_num, rfl, by omega, HPS2.out, by omega, hJ2, hB2, hbk.trans (hb2.mono hnr)⟩
            case measure => simp [intOf]; omega
        · have hd2 : decide (((k : Int) + 1 - f) < 60) = false := by simp; omega
          have HPS2 : Hid (pst l (k + 1) = (pre.map (·.1) ++ [(f, k + 1)], k + 1)) := by
            show _ = _
            rw [HPS.out, if_neg]
            unfold goesB
            rw [decide_eq_true c1, decide_eq_false c2]; simp
          have k0 := cell_regrown q0
          gi_upto_region 5 with fail
          refine wpIn_wide.2 ?_
          refine wp_region_quiet_below (by kernel_rfl) (by kernel_rfl) ?_
          repeat (first | go_big_quiet_step (fail) | quiet_step (fail))
          refine wpQuiet_nil ?_
          intro W2 hw'
          obtain ⟨⟨dq, osq⟩, hw''⟩ := hw'
          have hb2 : Below wr.heap.size wr W2 := by rw [hw'']; exact below_regrown wr dq osq
          clear hw'' k0
          have hJ2 := hJ pre wr W2 none hJk (below_grownX hb2) (fun r e => by cases e)
          have hB2 := (hb2.block B hBl).trans hBk
          have q2 : W2.cell? ⟨B, 0, none⟩ = some (.slice (some ⟨b, off, none⟩) l.length cap) := cell_ofX hB2 rfl
          obtain ⟨fn, tmps, assign, body, hy, hR⟩ := hY pre ⟨(f, k + 1), by show f < k + 1; omega, by show k + 1 ≤ l.length; omega⟩ W2 hJ2 (by omega)
          dsimp only [encP] at hy
          have hcf : ¬ (cap = f) := by omega
          have hb5 : (f : Int) ≤ (k : Int) + 1 := by omega
          have hb6 : (k : Int) + 1 ≤ (cap : Int) := by omega
          gi_wp2_with fail
          refine hR.mono ?_
          rintro e W4 ⟨rfl, hJ4, hk4⟩
          gi_wp2_with fail
          go_roundw
          case rel => exact ⟨k + 1, k + 1, pre ++ [⟨(f, k + 1), by show f < k + 1; omega, by show k + 1 ≤ l.length; omega⟩], by omega, by go_num, by go_num, Nat.le_refl _, by rw [HPS2.out]; simp, by simp; omega, hJ4, hk4.2 _ _ _ (by decide) (by decide) hB2, (hbk.trans (hb2.mono hnr)).trans hk4.1⟩
          case measure => simp [intOf]; omega
      · have hd1 : decide (((k : Int) + 1) < l.length) = false := by simp; omega
        have HPS2 : Hid (pst l (k + 1) = (pre.map (·.1) ++ [(f, k + 1)], k + 1)) := by
          show _ = _
          rw [HPS.out, if_neg]
          unfold goesB
          rw [decide_eq_false c1]; simp
        have k0 := cell_regrown q0
        gi_upto_region 5 with fail
        refine wpIn_wide.2 ?_
        refine wp_region_quiet_below (by kernel_rfl) (by kernel_rfl) ?_
        repeat (first | go_big_quiet_step (fail) | quiet_step (fail))
        refine wpQuiet_nil ?_
        intro W2 hw'
        obtain ⟨⟨dq, osq⟩, hw''⟩ := hw'
        have hb2 : Below wr.heap.size wr W2 := by rw [hw'']; exact below_regrown wr dq osq
        clear hw'' k0
        have hJ2 := hJ pre wr W2 none hJk (below_grownX hb2) (fun r e => by cases e)
        have hB2 := (hb2.block B hBl).trans hBk
        have q2 : W2.cell? ⟨B, 0, none⟩ = some (.slice (some ⟨b, off, none⟩) l.length cap) := cell_ofX hB2 rfl
        obtain ⟨fn, tmps, assign, body, hy, hR⟩ := hY pre ⟨(f, k + 1), by show f < k + 1; omega, by show k + 1 ≤ l.length; omega⟩ W2 hJ2 (by omega)
        dsimp only [encP] at hy
        have hcf : ¬ (cap = f) := by omega
        have hb5 : (f : Int) ≤ (k : Int) + 1 := by omega
        have hb6 : (k : Int) + 1 ≤ (cap : Int) := by omega
        gi_wp2_with fail
        refine hR.mono ?_
        rintro e W4 ⟨rfl, hJ4, hk4⟩
        gi_wp2_with fail
        go_roundw
        case rel => exact ⟨k + 1, k + 1, pre ++ [⟨(f, k + 1), by show f < k + 1; omega, by show k + 1 ≤ l.length; omega⟩], by omega, by go_num, by go_num, Nat.le_refl _, by rw [HPS2.out]; simp, by simp; omega, hJ4, hk4.2 _ _ _ (by decide) (by decide) hB2, (hbk.trans (hb2.mono hnr)).trans hk4.1⟩
        case measure => simp [intOf]; omega
    · have hkl : k = l.length := by omega
      subst hkl
      gi_wp2
      go_end0
      exact ⟨⟨_, rfl⟩, pre, by rw [HP.out], hJk⟩

set_option maxRecDepth 100000 in
set_option maxHeartbeats 1000000 in
theorem pieces0_in (n : Nat) (_hn : 1 ≤ n) (B : Nat) (a : Option Addr) (cap n₀ : Nat) (w : World) (hB : w.heap[B]? = some (.cells #[.slice a 0 cap] 22 (0, 0))) (encs : Pc [] → Array Value) :
    SeqW Fence.wide n Tryz.prog 167 #[.pointer (some ⟨B, 0, none⟩)] encs (KpX 59 44 n₀) (fun xs _ => xs.map (·.1) = (pst [] 0).1) 1 w := by
  intro lp J W hbW hJ hY h0
  show CallsIn Fence.wide n Tryz.prog 167 #[.func (.yield lp) #[] #[], .pointer (some ⟨B, 0, none⟩)] W _
  refine callsIn_of_wp Tryz.func167 rfl trivial ?_ rfl
  simp only [Tryz.ntmps167, List.size_toArray, List.length_cons, List.length_nil, Nat.reduceAdd, Nat.reduceSub, Array.replicate_succ, Array.replicate_zero, List.push_toArray, List.append_toArray, List.nil_append, List.cons_append]
  have hBlt : B < w.heap.size := (Array.getElem?_eq_some_iff.1 hB).1
  have hBW : W.heap[B]? = some (.cells #[.slice a 0 cap] 22 (0, 0)) := (hbW.block B hBlt).trans hB
  have r0 : W.cell? ⟨B, 0, none⟩ = some (.slice a 0 cap) := cell_ofX hBW rfl
  gi_wp2
  gi_loopw [8, 3] (fun i _ wr => i = .int .i64 0 ∧ wr = W) (fun _ _ _ => 0)
  case atStart => exact ⟨rfl, rfl⟩
  case round =>
    obtain ⟨rfl, rfl⟩ := hrel
    gi_wp2
    go_end0
    exact ⟨⟨_, rfl⟩, [], rfl, h0⟩

theorem pieces_seq (n : Nat) (hn : 1 ≤ n) (B : Nat) (a : Option Addr) (cap n₀ : Nat) (l : List At) (w : World) (ok : OkL l) (hcap : l.length ≤ cap) (hcm : cap ≤ maxLen) (hn₀ : n₀ ≤ w.heap.size) (hB : w.heap[B]? = some (.cells #[.slice a l.length cap] 22 (0, 0)))
    (hat : ∀ W, Below n₀ w W → AtomsAt W a l) :
    ∃ enc : Pc l → Nat × Nat × Nat, SeqW Fence.wide n Tryz.prog 167 #[.pointer (some ⟨B, 0, none⟩)] (fun x => #[.slice (some ⟨(enc x).1, (enc x).2.1, none⟩) (x.1.2 - x.1.1) (enc x).2.2]) (KpX 59 44 n₀) (fun xs _ => xs.map (·.1) = (pst l l.length).1) (l.length + 1) w ∧
      ∀ x W, AtomsAt W a l → AtomsAt W (some ⟨(enc x).1, (enc x).2.1, none⟩) (part l x.1.1 (x.1.2 - x.1.1)) := by
  by_cases hl : l = []
  · subst hl
    exact ⟨fun _ => (0, 0, 0), pieces0_in n hn B a cap n₀ w hB _, fun x => absurd x.2.2 (by have := x.2.1; simp; omega)⟩
  · obtain ⟨b, off, rfl⟩ : ∃ b off, a = some ⟨b, off, none⟩ := by
      rcases hat w (Below.refl _ _) with e | ⟨b, off, rfl, _⟩
      · exact absurd e hl
      · exact ⟨b, off, rfl⟩
    refine ⟨fun x => (b, off + x.1.1 * 3, cap - x.1.1), pieces1_in n hn B b off cap n₀ l w ok hcap hcm hn₀ hB hat, fun x W hW => ?_⟩
    exact hW.part (by have := x.2.1; have := x.2.2; omega)

set_option maxHeartbeats 1000000 in
theorem pieces_any (v : Value) (a : Option Addr) (len cap : Nat) (hv : v = .slice a len cap) (w : World) :
    Calls Tryz.prog 78 #[v] w fun e w' => e = .returned (.func (.func 167) #[] #[.pointer (some ⟨w.heap.size, 0, none⟩)]) ∧ w' = w.alloc (.cells #[v] 22) := by
  subst hv
  go_enter Tryz.func78, Tryz.ntmps78
  go_wp2
  go_ret
  exact ⟨rfl, rfl⟩
end Go.Proofs.YtnhjebdlcbhkcaeGreat

namespace Go.Proofs.YtnhjebdlcbhkcaeGreat
open Go.RowKit Go.Shelf
attribute [local go_sem] Oper.semAt_some

structure Rn where
  path : List (Int × Int)
  clock : Int
  text : ByteArray

structure RawN where
  p : Option Addr
  n : Nat
  cap : Nat
  clock : Int
  text : ByteArray
def RawN.cells (r : RawN) : List Value := [.slice r.p r.n r.cap, .int .i64 r.clock, .string r.text]
def flatN (l : List RawN) : List Value := l.flatMap RawN.cells
theorem flatN_append (l m : List RawN) : flatN (l ++ m) = flatN l ++ flatN m := by unfold flatN; simp
theorem flatN_get (l : List RawN) : ∀ i (h : i < l.length), (flatN l)[i * 3]? = some (.slice l[i].p l[i].n l[i].cap) ∧ (flatN l)[i * 3 + 1]? = some (.int .i64 l[i].clock) ∧ (flatN l)[i * 3 + 2]? = some (.string l[i].text) := by
  induction l with
  | nil => intro i h; simp at h
  | cons r l ih =>
    intro i h
    have e : flatN (r :: l) = r.cells ++ flatN l := rfl
    cases i with
    | zero => exact ⟨rfl, rfl, rfl⟩
    | succ i =>
      have h' : i < l.length := by simpa using h
      rw [e, List.getElem?_append_right (by show 3 ≤ _; omega), List.getElem?_append_right (by show 3 ≤ _; omega), List.getElem?_append_right (by show 3 ≤ _; omega)]
      have e1 : (i + 1) * 3 - r.cells.length = i * 3 := by show (i + 1) * 3 - 3 = _; omega
      have e2 : (i + 1) * 3 + 1 - r.cells.length = i * 3 + 1 := by show (i + 1) * 3 + 1 - 3 = _; omega
      have e3 : (i + 1) * 3 + 2 - r.cells.length = i * 3 + 2 := by show (i + 1) * 3 + 2 - 3 = _; omega
      rw [e1, e2, e3]
      exact ih i h'
theorem flatN_one (l : List RawN) : ∀ u ∈ flatN l, u.oneCell' = true := by
  intro u hu
  obtain ⟨r, _, hr⟩ := List.mem_flatMap.1 hu
  simp [RawN.cells] at hr
  rcases hr with rfl | rfl | rfl <;> rfl

def RunsAt (w : World) (a : Option Addr) (l : List Rn) : Prop :=
  l = [] ∨ ∃ b off, a = some ⟨b, off, none⟩ ∧ b < w.heap.size ∧ ∀ i (h : i < l.length), ∃ p cap, w.cell? ⟨b, off + i * 3, none⟩ = some (.slice p l[i].path.length cap) ∧ w.cell? ⟨b, off + i * 3 + 1, none⟩ = some (.int .i64 l[i].clock) ∧ w.cell? ⟨b, off + i * 3 + 2, none⟩ = some (.string l[i].text) ∧ StepsAt w p l[i].path ∧ l[i].path.length ≤ maxLen ∧ l[i].text.size ≤ maxLen

theorem RunsAt.below {w w' : World} {a : Option Addr} {l : List Rn} {B : Nat} (h : RunsAt w a l) (hb : Below B w w') (hB : w.heap.size ≤ B) : RunsAt w' a l := by
  rcases h with h | ⟨b, off, rfl, hlt, hc⟩
  · exact Or.inl h
  · refine Or.inr ⟨b, off, rfl, Nat.lt_of_lt_of_le hlt hb.size, fun i hi => ?_⟩
    obtain ⟨p, cap, h1, h2, h3, h4, h5⟩ := hc i hi
    exact ⟨p, cap, (hb.cell (p := ⟨b, off + i * 3, none⟩) (by show b < B; omega)).trans h1, (hb.cell (p := ⟨b, off + i * 3 + 1, none⟩) (by show b < B; omega)).trans h2, (hb.cell (p := ⟨b, off + i * 3 + 2, none⟩) (by show b < B; omega)).trans h3, h4.below hb hB, h5⟩

def PickRn (w : World) (base : Nat) (r : RawN) (x : Rn) : Prop :=
  ∃ g cap, r = ⟨some ⟨g, 0, none⟩, x.path.length, cap, x.clock, x.text⟩ ∧ w.ownsRow base 124 2 (.slice (some ⟨g, 0, none⟩) x.path.length cap) x.path.length (flatS x.path) ∧ x.path.length ≤ maxLen ∧ x.text.size ≤ maxLen

def RunRow (w : World) (base : Nat) (v : Value) (xs : List Rn) : Prop :=
  ∃ rs : List RawN, rs.length = xs.length ∧ w.ownsRow base 59 3 v xs.length (flatN rs) ∧ ∀ i (h : i < xs.length) (h' : i < rs.length), PickRn w base rs[i] xs[i]

theorem PickRn.kept {w w' : World} {base : Nat} {row : Option Nat} {r : RawN} {x : Rn} (h : PickRn w base r x) (hg : w.grownBy w' row) (hne : ∀ g cur, w.heap[g]? = some (.cells cur 124 (0, 0)) → some g ≠ row) : PickRn w' base r x := by
  obtain ⟨g, cap, rfl, hown, h1⟩ := h
  refine ⟨g, cap, rfl, hown.kept hg (Or.inr ?_), h1⟩
  rcases hown.2 with ⟨hc, _⟩ | ⟨g1, c1, cur, e1, _, e2, _⟩
  · simp at hc
  · simp at e1
    obtain ⟨rfl, _⟩ := e1
    simpa [Value.ownBlock] using hne g cur e2

theorem row_typed {w : World} {base : Nat} {t : TypeId} {k : Nat} {v : Value} {n : Nat} {xs : List Value} (h : w.ownsRow base t k v n xs) {g : Nat} {cur : Array Value} {t' : TypeId} (hg : w.heap[g]? = some (.cells cur t' (0, 0))) (ht : t' ≠ t) : some g ≠ v.ownBlock := by
  intro e
  rcases h.2 with ⟨rfl, _⟩ | ⟨g2, c2, cur2, rfl, _, h3, _⟩
  · simp [Value.ownBlock] at e
  · simp [Value.ownBlock] at e
    subst e
    rw [hg] at h3
    cases h3
    exact ht rfl

theorem RunRow.snoc {w w' : World} {base : Nat} {v v' : Value} {xs : List Rn} {r : RawN} {x : Rn} {rs : List RawN} (hl : rs.length = xs.length) (hown : w.ownsRow base 59 3 v xs.length (flatN rs)) (hr : ∀ i (h : i < xs.length) (h' : i < rs.length), PickRn w base rs[i] xs[i]) (hx : PickRn w base r x) (hg : w.grownBy w' v.ownBlock) (h : w'.ownsRow base 59 3 v' (xs.length + 1) (flatN rs ++ r.cells)) :
    RunRow w' base v' (xs ++ [x]) := by
  have hne : ∀ g cur, w.heap[g]? = some (.cells cur 124 (0, 0)) → some g ≠ v.ownBlock := fun g cur e => row_typed hown e (by decide)
  refine ⟨rs ++ [r], by simp [hl], ?_, fun i hi hi' => ?_⟩
  · rw [flatN_append, List.length_append]
    show w'.ownsRow base _ 3 v' (xs.length + 1) (flatN rs ++ (r.cells ++ []))
    rw [List.append_nil]; exact h
  · by_cases e : i < xs.length
    · rw [List.getElem_append_left (by omega), List.getElem_append_left e]
      exact (hr i e (by omega)).kept hg hne
    · have : i = xs.length := by simp at hi; omega
      subst this
      have e1 : (rs ++ [r])[xs.length] = r := by rw [List.getElem_append_right (by omega)]; simp [hl]
      have e2 : (xs ++ [x])[xs.length] = x := by simp
      rw [e1, e2]
      exact hx.kept hg hne

theorem RunRow.kept {w w' : World} {base : Nat} {row : Option Nat} {v : Value} {xs : List Rn} (h : RunRow w base v xs) (hg : w.grownBy w' row) (hne : ∀ (g : Nat) cur t, w.heap[g]? = some (.cells cur t (0, 0)) → t = 124 ∨ t = 59 → some g ≠ row) : RunRow w' base v xs := by
  obtain ⟨rs, h1, h2, h3⟩ := h
  refine ⟨rs, h1, h2.kept hg ?_, fun i hi hi' => (h3 i hi hi').kept hg (fun g cur e => hne g cur _ e (Or.inl rfl))⟩
  rcases h2.2 with ⟨rfl, _⟩ | ⟨g, c, cur, rfl, _, hh, _⟩
  · exact Or.inl rfl
  · exact Or.inr (by simpa [Value.ownBlock] using hne g cur _ hh (Or.inr rfl))

theorem RunRow.below {w w' : World} {base : Nat} {v : Value} {xs : List Rn} (h : RunRow w base v xs) (hb : Below w.heap.size w w') : RunRow w' base v xs := h.kept (below_grownX hb) (fun g cur t _ _ => by simp)

theorem RunRow.runs {w : World} {base : Nat} {v : Value} {xs : List Rn} (h : RunRow w base v xs) : ∃ p cap, v = .slice p xs.length cap ∧ RunsAt w p xs ∧ xs.length ≤ cap := by
  obtain ⟨rs, h1, h2, h3⟩ := h
  rcases h2.2 with ⟨rfl, h0⟩ | ⟨g, c, cur, rfl, hb, hh, hc, _⟩
  · have : xs = [] := List.length_eq_zero_iff.1 h0
    subst this
    exact ⟨none, 0, rfl, Or.inl rfl, Nat.le_refl _⟩
  · refine ⟨_, c, rfl, Or.inr ⟨g, 0, rfl, (Array.getElem?_eq_some_iff.1 hh).1, fun i hi => ?_⟩, hc⟩
    obtain ⟨g2, cap2, e, hown, h4, h5⟩ := h3 i hi (by omega)
    obtain ⟨f0, f1, f2⟩ := flatN_get rs i (by omega)
    rw [e] at f0 f1 f2
    rw [Nat.zero_add]
    exact ⟨_, _, (h2.cellAt (i * 3) (by omega)).trans f0, (h2.cellAt (i * 3 + 1) (by omega)).trans f1, (h2.cellAt (i * 3 + 2) (by omega)).trans f2, stepsAt_owns hown rfl, h4, h5⟩

def runOf (l : List At) (p : Nat × Nat) : Rn := ⟨(l[p.1]?.getD ⟨[], 0, 0⟩).path, (l[p.1]?.getD ⟨[], 0, 0⟩).clock, txtS (part l p.1 (p.2 - p.1))⟩
def runsL (l : List At) : List Rn := (pst l l.length).1.map (runOf l)

theorem Tryz.info59 : ∃ i, Tryz.prog.info? 59 = some i ∧ i.zero = some (.agg #[.slice none 0 0, .int .i64 0, .string ⟨#[]⟩]) ∧ i.size = 3 ∧ i.bytes = 48 := by
  have h : (Tryz.prog.info? 59).map (fun i => (i.zero, i.size, i.bytes)) = some (some (.agg #[.slice none 0 0, .int .i64 0, .string ⟨#[]⟩]), 3, 48) := by kernel_rfl
  rw [Option.map_eq_some_iff] at h
  obtain ⟨i, hi, he⟩ := h
  simp only [Prod.mk.injEq] at he
  exact ⟨i, hi, he⟩

set_option maxRecDepth 100000 in
set_option maxHeartbeats 2000000 in
theorem runs_bad (a : Option Addr) (cap : Nat) (l : List At) (w : World) (hl : l.length ≤ maxLen) (h : AtomsAt w a l) (h0 : chkL l ≠ 0) :
    Calls Tryz.prog 24 #[.slice a l.length cap] w fun e w' => e = .returned (.tuple #[.slice none 0 0, .int .i64 (chkL l)]) ∧ Below w.heap.size w w' := by
  have hx : (chkL l != 0) = true := bne_iff_ne.2 h0
  clear h0
  go_enter Tryz.func24, Tryz.ntmps24
  go_wp2_with fail
  refine (atomCheck_any _ _ l _ hl h).mono ?_
  rintro e w2 ⟨rfl, hb2⟩
  go_wp2_with fail
  refine bodyPost_ret (v := .tuple #[.slice none 0 0, .int .i64 (chkL l)]) (by simp [results, Tryz.results24, go_sem]) rfl ?_
  exact ⟨rfl, hb2⟩
end Go.Proofs.YtnhjebdlcbhkcaeGreat
