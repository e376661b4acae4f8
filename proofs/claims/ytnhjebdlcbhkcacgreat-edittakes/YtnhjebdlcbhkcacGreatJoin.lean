/- Lists of atoms that Check lets through. -/
import Derived.Test.YtnhjebdlcbhkcacGreatPutLe
import Derived.Test.YtnhjebdlcbhkcacGreatRunCk
import Derived.Test.YtnhjebdlcbhkcacGreatHasC
namespace Go.Proofs.YtnhjebdlcbhkcacGreat
open Go.RowKit

theorem ordA_symm0 {x y : At} (h : ordA x y = 0) : ordA y x = 0 := by have := cmpA.anti y x; omega
theorem ordA_trans0 {x y z : At} (h : ordA x y = 0) (h' : ordA y z = 0) : ordA x z = 0 := by have := cmpA.eqv x y z h; omega

/-- each atom has a least one of its mark -/
theorem least_some : ∀ (S : List At) (y : At), y ∈ S → ∃ z, Least S z ∧ ordA z y = 0 ∧ z.sign ≤ y.sign
  | [], _, h => by simp at h
  | s :: T, y, h => by
    by_cases ht : ∃ t ∈ T, ordA t y = 0
    · obtain ⟨t, ht1, ht2⟩ := ht
      -- the least of the tail at a mark like y's
      obtain ⟨z, hz, hzt, _⟩ := least_some T t ht1
      have hzy := ordA_trans0 hzt ht2
      by_cases hs : ordA s y = 0 ∧ s.sign < z.sign
      · refine ⟨s, ⟨List.mem_cons_self .., fun u hu e => ?_⟩, hs.1, ?_⟩
        · rcases List.mem_cons.1 hu with rfl | hu
          · exact Int.le_refl _
          · have := hz.2 u hu (ordA_trans0 (ordA_trans0 hzy (ordA_symm0 hs.1)) e)
            omega
        · rcases List.mem_cons.1 h with rfl | hy
          · exact Int.le_refl _
          · have := hz.2 y hy hzy; omega
      · have hzs : ordA z s = 0 → z.sign ≤ s.sign := fun e => by
          have h1 : ordA s y = 0 := ordA_trans0 (ordA_symm0 e) hzy
          have : ¬ s.sign < z.sign := fun h2 => hs ⟨h1, h2⟩
          omega
        refine ⟨z, ⟨List.mem_cons_of_mem _ hz.1, fun u hu e => ?_⟩, hzy, ?_⟩
        · rcases List.mem_cons.1 hu with rfl | hu
          · exact hzs e
          · exact hz.2 u hu e
        · rcases List.mem_cons.1 h with rfl | hy
          · exact hzs hzy
          · exact hz.2 y hy hzy
    · have hy : y = s := by
        rcases List.mem_cons.1 h with e | e
        · exact e
        · exact absurd ⟨y, e, cmpA.refl y⟩ ht
      subst hy
      refine ⟨y, ⟨List.mem_cons_self .., fun u hu e => ?_⟩, cmpA.refl y, Int.le_refl _⟩
      rcases List.mem_cons.1 hu with rfl | hu
      · exact Int.le_refl _
      · exact absurd ⟨u, hu, ordA_symm0 e⟩ ht

/-- the least of the least and more -/
theorem least_least {P S T : List At} (h : ∀ x, x ∈ P ↔ Least S x) (z : At) : Least (P ++ T) z ↔ Least (S ++ T) z := by
  constructor
  · rintro ⟨h1, h2⟩
    refine ⟨?_, fun y hy e => ?_⟩
    · rcases List.mem_append.1 h1 with g | g
      · exact List.mem_append_left _ ((h z).1 g).1
      · exact List.mem_append_right _ g
    · rcases List.mem_append.1 hy with g | g
      · obtain ⟨y', hy', e1, e2⟩ := least_some S y g
        have := h2 y' (List.mem_append_left _ ((h y').2 hy')) (ordA_trans0 e (ordA_symm0 e1))
        omega
      · exact h2 y (List.mem_append_right _ g) e
  · rintro ⟨h1, h2⟩
    refine ⟨?_, fun y hy e => ?_⟩
    · rcases List.mem_append.1 h1 with g | g
      · exact List.mem_append_left _ ((h z).2 ⟨g, fun y hy => h2 y (List.mem_append_left _ hy)⟩)
      · exact List.mem_append_right _ g
    · rcases List.mem_append.1 hy with g | g
      · exact h2 y (List.mem_append_left _ ((h y).1 g).1) e
      · exact h2 y (List.mem_append_right _ g) e

theorem putL_least {l : List At} (hl : l.Pairwise (fun x y => ordA x y < 0)) : ∀ m : List At, (putL l m).Pairwise (fun x y => ordA x y < 0) ∧ ∀ z, z ∈ putL l m ↔ Least (l ++ m) z := by
  intro m
  suffices h : ∀ (m L S : List At), L.Pairwise (fun x y => ordA x y < 0) → (∀ z, z ∈ L ↔ Least S z) → (putL L m).Pairwise (fun x y => ordA x y < 0) ∧ ∀ z, z ∈ putL L m ↔ Least (S ++ m) z by
    exact h m l l hl (fun z => (rises_least hl z).symm)
  intro m
  induction m with
  | nil => intro L S h1 h2; exact ⟨h1, fun z => by rw [List.append_nil]; exact h2 z⟩
  | cons a m ih =>
    intro L S h1 h2
    obtain ⟨q1, q2⟩ := putA_least a L h1
    have := ih (putA a L false) (S ++ [a]) q1 (fun z => by
      rw [q2 z, ← least_least h2 z]
      exact least_congr (fun y => by simp [List.mem_append]; constructor <;> (rintro (h | h) <;> simp [h])) z)
    rw [List.append_assoc] at this
    exact this

/-- in whatever order .. -/
theorem putL_comm {l m : List At} (hl : l.Pairwise (fun x y => ordA x y < 0)) (hm : m.Pairwise (fun x y => ordA x y < 0)) : putL l m = putL m l := by
  obtain ⟨a1, a2⟩ := putL_least hl m
  obtain ⟨b1, b2⟩ := putL_least hm l
  refine rises_eq a1 b1 (fun z => ?_)
  rw [a2 z, b2 z]
  exact least_congr (fun y => by rw [List.mem_append, List.mem_append]; exact Or.comm) z

/-- .. and however grouped -/
theorem putL_assoc {l m n : List At} (hl : l.Pairwise (fun x y => ordA x y < 0)) (hm : m.Pairwise (fun x y => ordA x y < 0)) : putL (putL l m) n = putL l (putL m n) := by
  obtain ⟨a1, a2⟩ := putL_least hl m
  obtain ⟨b1, b2⟩ := putL_least hm n
  obtain ⟨c1, c2⟩ := putL_least a1 n
  obtain ⟨d1, d2⟩ := putL_least hl (putL m n)
  refine rises_eq c1 d1 (fun z => ?_)
  rw [c2 z, d2 z, least_least a2 z, List.append_assoc]
  rw [least_congr (S := l ++ putL m n) (T := putL m n ++ l) (fun y => by rw [List.mem_append, List.mem_append]; exact Or.comm) z, least_least b2 z]
  exact least_congr (fun y => ⟨fun h => List.mem_append.2 ((List.mem_append.1 h).symm), fun h => List.mem_append.2 ((List.mem_append.1 h).symm)⟩) z
end Go.Proofs.YtnhjebdlcbhkcacGreat

namespace Go.Proofs.YtnhjebdlcbhkcacGreat

theorem okL_chk {l : List At} (h : OkL l) : chkL l = 0 := by
  have key : ∀ (l : List At) (prev : Option At), (∀ x ∈ l, chk x.path x.clock = 0 ∧ isSignB x.sign = true) → l.Pairwise (fun x y => ordA x y < 0) → (∀ y, prev = some y → ∀ x ∈ l, ordA y x < 0) → chkFrom prev l = 0 := by
    intro l
    induction l with
    | nil => intro _ _ _ _; rfl
    | cons x l ih =>
      intro prev h1 h2 h3
      have p := List.pairwise_cons.1 h2
      have hx := h1 x (List.mem_cons_self ..)
      have hc : chkAt prev x = 0 := by
        unfold chkAt
        rw [if_neg (by rw [hx.1]; decide), if_neg (by rw [hx.2]; decide)]
        cases prev with
        | none => rfl
        | some y =>
          have := h3 y rfl x (List.mem_cons_self ..)
          simp only
          rw [if_neg (by omega)]
      rw [chkFrom_cons, if_neg (by rw [hc]; decide)]
      exact ih (some x) (fun y hy => h1 y (List.mem_cons_of_mem _ hy)) p.2 (fun y hy z hz => by cases hy; exact p.1 z hz)
  unfold chkL
  have := h.len
  rw [if_neg (by omega)]
  exact key l none h.each h.rise (fun y hy => by cases hy)

theorem putL_ok {l m : List At} (h : OkL l) (h' : OkL m) (hn : (putL l m).length ≤ 300) : OkL (putL l m) := by
  obtain ⟨a1, a2⟩ := putL_least h.rise m
  refine ⟨hn, fun x hx => ?_, a1⟩
  rcases List.mem_append.1 ((a2 x).1 hx).1 with g | g
  · exact h.each x g
  · exact h'.each x g
end Go.Proofs.YtnhjebdlcbhkcacGreat

namespace Go.Proofs.YtnhjebdlcbhkcacGreat
open Go.RowKit

/-- is the second mark what comes next behind the first? -/
def flw (pa : List (Int × Int)) (ca : Int) (pb : List (Int × Int)) (cb : Int) : Bool := ordM (bump pa 1) (ca + 1) pb cb == 0

set_option maxRecDepth 100000 in
set_option maxHeartbeats 2000000 in
theorem follows_any (a a' : Option Addr) (cap cap' : Nat) (l m : List (Int × Int)) (c d : Int) (w : World) (hl : chk l c = 0) (hm : chk m d = 0) (h : StepsAt w a l) (h' : StepsAt w a' m) :
    Calls Tryz.prog 123 #[.agg #[.slice a l.length cap, .int .i64 c], .agg #[.slice a' m.length cap', .int .i64 d]] w fun e w' => e = .returned (.bool (flw l c m d)) ∧ Below w.heap.size w w' := by
  have hl10 : l.length ≤ maxLen := by have := (chk_ok hl).2.1; unfold maxLen; omega
  have hm10 : m.length ≤ maxLen := by have := (chk_ok hm).2.1; unfold maxLen; omega
  obtain ⟨q0, q1, q2, q3, hz, hb0⟩ := boxes2 w (.slice a l.length cap) (.int .i64 c) (.slice a' m.length cap') (.int .i64 d) 46 46
  have hcase : (nxt l c 1 = ([], 0, 3) ∧ flw l c m d = false) ∨ (nxt l c 1 = (bump l 1, c + 1, 0)) := by
    unfold nxt
    rw [if_neg (by omega), if_neg (by omega)]
    by_cases hk : chk (bump l 1) (c + 1) = 0
    · rw [if_neg (by omega)]; exact Or.inr rfl
    · rw [if_pos hk]
      refine Or.inl ⟨rfl, ?_⟩
      unfold flw
      rw [beq_eq_false_iff_ne]
      intro e
      obtain ⟨e1, e2⟩ := ordM_zero e
      rw [e1, e2] at hk
      exact hk hm
  have HL := hidE hl
  have HM := hidE hm
  clear hl hm
  go_enter Tryz.func123, Tryz.ntmps123
  go_upto_region 1 with fail
  generalize (w.alloc (Obj.cells #[.slice a l.length cap, .int .i64 c] 46)).alloc (Obj.cells #[.slice a' m.length cap', .int .i64 d] 46) = W at q0 q1 q2 q3 hz hb0 ⊢
  go_wp2_with fail
  refine (next_any _ _ l _ _ _ hl10 (h.below hb0 (Nat.le_refl _))).mono ?_
  rintro e w2 ⟨na, nc, rfl, hsN, hb1⟩
  have z2 : w.heap.size + 1 < W.heap.size := by omega
  have p2 := (hb1.cell (p := ⟨w.heap.size + 1, 0, none⟩) z2).trans q2
  have p3 := (hb1.cell (p := ⟨w.heap.size + 1, 1, none⟩) z2).trans q3
  have hb := hb0.thru hb1 hb0.size
  have z3 := Nat.lt_of_lt_of_le z2 hb1.size
  clear hb0 hb1 q0 q1 q2 q3 hz z2
  rcases hcase with ⟨hn, hf⟩ | hn
  · rw [hn] at hsN ⊢
    have HF := hidE hf
    clear hf hn
    go_wp2_with fail
    go_ret
    exact ⟨ret_bool HF.out.symm, hb.alloc hb.size _⟩
  · rw [hn] at hsN ⊢
    have HLB := hidE (bump_len' l 1)
    clear hn
    have hbn := (Below.refl w2.heap.size w2).alloc (Nat.le_refl _) (Obj.cells #[.slice na (bump l 1).length nc, .int .i64 (c + 1)] 46)
    have hbm : (bump l 1).length ≤ maxLen := by rw [HLB.out]; exact hl10
    have x2 := (hbn.cell (p := ⟨w.heap.size + 1, 0, none⟩) z3).trans p2
    have x3 := (hbn.cell (p := ⟨w.heap.size + 1, 1, none⟩) z3).trans p3
    go_wp2_with (go_at_call 46; refine (order_any _ _ _ _ (bump l 1) m _ _ _ hbm hm10 (by exact hsN.below hbn (Nat.le_refl _)) (by exact h'.below (hb.thru hbn hb.size) (Nat.le_refl _))).mono ?_; rintro e w3 ⟨rfl, hb3⟩)
    go_ret
    exact ⟨ret_bool rfl, (hb.thru hbn hb.size).thru hb3 (by have := hb.size; simp; omega)⟩
end Go.Proofs.YtnhjebdlcbhkcacGreat

namespace Go.Proofs.YtnhjebdlcbhkcacGreat
open Go.RowKit

/-- the part of a list from f, so many -/
def part (l : List At) (f n : Nat) : List At := (l.drop f).take n

theorem part_len {l : List At} {f n : Nat} (h : f + n ≤ l.length) : (part l f n).length = n := by unfold part; simp; omega
theorem part_get {l : List At} {f n i : Nat} (h : f + n ≤ l.length) (hi : i < n) : (part l f n)[i]'(by rw [part_len h]; exact hi) = l[f + i] := by unfold part; simp

theorem AtomsAt.part {w : World} {b off : Nat} {l : List At} {f n : Nat} (h : AtomsAt w (some ⟨b, off, none⟩) l) (hfn : f + n ≤ l.length) : AtomsAt w (some ⟨b, off + f * 3, none⟩) (part l f n) := by
  rcases h with e | ⟨b', off', e, hb, hc⟩
  · left; unfold Go.Proofs.YtnhjebdlcbhkcacGreat.part; rw [e]; simp
  · cases e
    refine Or.inr ⟨b, off + f * 3, rfl, hb, fun i hi => ?_⟩
    rw [part_len hfn] at hi
    rw [part_get hfn hi]
    have := hc (f + i) (by omega)
    rwa [show off + (f + i) * 3 = off + f * 3 + i * 3 by omega] at this

theorem OkL.part {l : List At} (h : OkL l) (f n : Nat) : OkL (part l f n) := by
  refine ⟨?_, fun x hx => h.each x (List.mem_of_mem_drop (List.mem_of_mem_take hx)), List.Pairwise.sublist ((List.take_sublist _ _).trans (List.drop_sublist _ _)) h.rise⟩
  have := h.len
  unfold Go.Proofs.YtnhjebdlcbhkcacGreat.part
  simp; omega

set_option maxRecDepth 100000 in
set_option maxHeartbeats 2000000 in
theorem join_ok (b off cap : Nat) (pc : List At) (w : World) (x : At) (hx : pc[0]? = some x) (ok : OkL pc) (h : AtomsAt w (some ⟨b, off, none⟩) pc) :
    Calls Tryz.prog 90 #[.slice (some ⟨b, off, none⟩) pc.length cap] w fun e w' => ∃ g cap', e = .returned (.agg #[.slice (some ⟨g, 0, none⟩) x.path.length cap', .int .i64 x.clock, .string (txtS pc)]) ∧ w'.ownsRow w.heap.size 99 2 (.slice (some ⟨g, 0, none⟩) x.path.length cap') x.path.length (flatS x.path) ∧ Below w.heap.size w w' := by
  have hl : 0 < pc.length := (List.getElem?_eq_some_iff.1 hx).1
  have hx0 : pc[0] = x := (List.getElem?_eq_some_iff.1 hx).2
  have h0 := okL_chk ok
  have h300 := ok.len
  have hp := okPath ok 0 hl
  have H0 := hidE h0
  clear h0 ok
  have hbA := (Below.refl w.heap.size w).alloc (Nat.le_refl _) (Obj.cells #[.slice none 0 0, .int .i64 0, .string ⟨#[]⟩] 48)
  have q0 : (w.alloc (Obj.cells #[.slice none 0 0, .int .i64 0, .string ⟨#[]⟩] 48)).cell? ⟨w.heap.size, 0, none⟩ = some (.slice none 0 0) := by simp
  have q1 : (w.alloc (Obj.cells #[.slice none 0 0, .int .i64 0, .string ⟨#[]⟩] 48)).cell? ⟨w.heap.size, 1, none⟩ = some (.int .i64 0) := by simp
  have q2 : (w.alloc (Obj.cells #[.slice none 0 0, .int .i64 0, .string ⟨#[]⟩] 48)).cell? ⟨w.heap.size, 2, none⟩ = some (.string ⟨#[]⟩) := by simp
  have q3 : ∀ o, (w.alloc (Obj.cells #[.slice none 0 0, .int .i64 0, .string ⟨#[]⟩] 48)).frozen? ⟨w.heap.size, o, none⟩ = false := fun o => by go_simp
  have z1 : w.heap.size < (w.alloc (Obj.cells #[.slice none 0 0, .int .i64 0, .string ⟨#[]⟩] 48)).heap.size := by simp
  go_enter Tryz.func90, Tryz.ntmps90
  go_upto_region 1 with fail
  generalize w.alloc (Obj.cells #[.slice none 0 0, .int .i64 0, .string ⟨#[]⟩] 48) = W at hbA q0 q1 q2 q3 z1 ⊢
  go_wp2_with fail
  refine (text_ok _ _ pc _ (h.below hbA (Nat.le_refl _)) H0.out).mono ?_
  rintro e w2 ⟨rfl, hb2⟩
  have hb := hbA.thru hb2 hbA.size
  obtain ⟨ab, ao, hab, hb', hc⟩ := (h.below hb (Nat.le_refl _)).raw hl
  cases hab
  obtain ⟨⟨p, n, cp, ck, sk⟩, hr, c0, c1, c2⟩ := hc 0 hl
  have hn : n = pc[0].path.length := hr.n
  have hck : ck = pc[0].clock := hr.clock
  have hsk : sk = pc[0].sign := hr.sign
  subst hn hck hsk
  have hst := hr.steps
  clear hr
  simp only [Nat.zero_mul, Nat.add_zero] at c0 c1
  rw [hx0] at c0 c1 c2 hst hp
  clear hx0 hx
  obtain ⟨pb, po, rfl⟩ : ∃ pb po, p = some ⟨pb, po, none⟩ := by
    rcases hst with e | ⟨pb, po, rfl, _⟩
    · have e' : x.path = [] := e
      have : x.path.length = 0 := by rw [e']; rfl
      omega
    · exact ⟨pb, po, rfl⟩
  have hml : x.path.length ≤ maxLen := by unfold maxLen; omega
  have hl1 : (0 : Int) < pc.length := by omega
  clear hc
  go_wp2_with fail
  refine (freshMark_ok pb po _ _ x.path _ _ rfl hml (by omega) hst).mono ?_
  rintro e w3 ⟨g, cap2, rfl, hown, hb3⟩
  have z2 := Nat.lt_of_lt_of_le z1 hb2.size
  have t0 := (hb3.cell (p := ⟨w.heap.size, 0, none⟩) z2).trans ((hb2.cell (p := ⟨w.heap.size, 0, none⟩) z1).trans q0)
  have t1 := (hb3.cell (p := ⟨w.heap.size, 1, none⟩) z2).trans ((hb2.cell (p := ⟨w.heap.size, 1, none⟩) z1).trans q1)
  have t2 := (hb3.cell (p := ⟨w.heap.size, 2, none⟩) z2).trans ((hb2.cell (p := ⟨w.heap.size, 2, none⟩) z1).trans q2)
  have t3 := fun o => (hb3.frozen (p := ⟨w.heap.size, o, none⟩) z2).trans ((hb2.frozen (p := ⟨w.heap.size, o, none⟩) z1).trans (q3 o))
  have hg := (hown.lt g rfl).1
  have hgw : w.heap.size < g := by omega
  clear q0 q1 q2 q3 c0 c1 c2
  go_wp2_with fail
  refine bodyPost_ret (v := .agg #[.slice (some ⟨g, 0, none⟩) x.path.length cap2, .int .i64 x.clock, .string (txtS pc)]) (by simp [results, Tryz.results90, go_sem, t0, t1, t2]) rfl ⟨g, cap2, rfl, ?_, ?_⟩
  · exact ownsRow_setCell_other (ownsRow_setCell_other (ownsRow_setCell_other (owns_base hown hb.size) (by simp [Value.ownBlock]; omega) _) (by simp [Value.ownBlock]; omega) _) (by simp [Value.ownBlock]; omega) _
  · exact (((hb.thru hb3 hb.size).setCell (by simp) _).setCell (by simp) _).setCell (by simp) _
end Go.Proofs.YtnhjebdlcbhkcacGreat
