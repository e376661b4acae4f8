/- Lists of atoms that Check lets through. -/
import Derived.Test.YtlpfnpkmgkbngacHolds
import Derived.Test.YtlpfnpkmgkbngacAtomCk
import Derived.Test.YtlpfnpkmgkbngacPutW
import Derived.Test.YtlpfnpkmgkbngacCopyK
import Derived.Deep.DeepCutAuto
import Derived.Test.YtlpfnpkmgkbngacPutStep
import Derived.Test.YtlpfnpkmgkbngacRunCk
import Derived.Test.YtlpfnpkmgkbngacFresh
import Derived.Test.YtlpfnpkmgkbngacText
namespace Go.Proofs.Ytlpfnpkmgkbngac
open Go.RowKit

def hiL : List At := [⟨[(3, 0)], 1, 104⟩, ⟨[(4, 0)], 2, 105⟩]

set_option maxRecDepth 100000 in
set_option maxHeartbeats 1000000 in
theorem hi_any (w : World) : Calls Try.prog 30 #[] w fun e w' => ∃ g, e = .returned (.slice (some ⟨g, 0, none⟩) 2 2) ∧ AtomsAt w' (some ⟨g, 0, none⟩) hiL ∧ Below w.heap.size w w' := by
  go_enter Try.func30, Try.ntmps30
  go_wp2_with fail
  refine (at_any 3 0 1 w).mono ?_
  rintro e w1 ⟨rfl, hs1, hb1⟩
  go_wp2_with fail
  refine (at_any 4 0 2 w1).mono ?_
  rintro e w2 ⟨rfl, hs2, hb2⟩
  have hs1' := hs1.below hb2 (Nat.le_refl _)
  have hb3 := hb1.thru hb2 hb1.size
  go_wp2_with fail
  go_ret
  refine ⟨w2.heap.size, rfl, ?_, hb3.alloc hb3.size _⟩
  have hbn : Below w2.heap.size w2 (w2.alloc (Obj.cells #[.slice (some ⟨w.heap.size + 1, 0, none⟩) 1 1, .int .i64 1, .int .u8 104, .slice (some ⟨w1.heap.size + 1, 0, none⟩) 1 1, .int .i64 2, .int .u8 105] 50)) := (Below.refl _ _).alloc (Nat.le_refl _) _
  refine Or.inr ⟨w2.heap.size, 0, rfl, by simp, fun i hi => ?_⟩
  have h2 : i < 2 := hi
  rcases (show i = 0 ∨ i = 1 by omega) with rfl | rfl
  · exact ⟨_, 1, by simp [hiL], by simp [hiL], by simp [hiL], hs1'.below hbn (Nat.le_refl _), by simp [hiL, maxLen], by simp [hiL], by simp [hiL], by simp [hiL]⟩
  · exact ⟨_, 1, by simp [hiL], by simp [hiL], by simp [hiL], hs2.below hbn (Nat.le_refl _), by simp [hiL, maxLen], by simp [hiL], by simp [hiL], by simp [hiL]⟩
end Go.Proofs.Ytlpfnpkmgkbngac

namespace Go.Proofs.Ytlpfnpkmgkbngac
open Go.RowKit

theorem hiL_chk : chkL hiL = 0 := by decide
theorem hi1_chk : chkL (hiL.drop 1) = 0 := by decide
theorem hi0_chk : chkL (hiL.take 1) = 0 := by decide
theorem hi_put : putL (hiL.drop 1) (hiL.take 1) = hiL := by rfl
theorem hi_take : takeL hiL [([(3, 0)], 1)] = hiL.drop 1 := by rfl
theorem hi_txt : txtS hiL = ⟨#[104, 105]⟩ := by rfl

/-- Put of two lists that Check lets through, if not too many come out -/
theorem put_is (a a' : Option Addr) (cap cap' : Nat) (l m : List At) (w : World) (h : AtomsAt w a l) (h' : AtomsAt w a' m) (h0 : chkL l = 0) (h0' : chkL m = 0) (hn : (putL l m).length ≤ 300) :
    Calls Try.prog 100 #[.slice a l.length cap, .slice a' m.length cap'] w fun e w' => ∃ p c, e = .returned (.tuple #[.slice p (putL l m).length c, .int .i64 0]) ∧ AtomsAt w' p (putL l m) ∧ Below w.heap.size w w' := by
  refine (put_ok a a' cap cap' l m w h h' h0 h0').mono ?_
  rintro e w' ⟨hc, hb⟩
  rcases hc with ⟨h1, _⟩ | ⟨_, p, c, he, hat, _⟩
  · omega
  · exact ⟨p, c, he, hat, hb⟩
theorem put_many (a a' : Option Addr) (cap cap' : Nat) (l m : List At) (w : World) (h : AtomsAt w a l) (h' : AtomsAt w a' m) (h0 : chkL l = 0) (h0' : chkL m = 0) (hn : 300 < (putL l m).length) :
    Calls Try.prog 100 #[.slice a l.length cap, .slice a' m.length cap'] w fun e w' => e = .returned (.tuple #[.slice none 0 0, .int .i64 2]) ∧ Below w.heap.size w w' := by
  refine (put_ok a a' cap cap' l m w h h' h0 h0').mono ?_
  rintro e w' ⟨hc, hb⟩
  rcases hc with ⟨_, he⟩ | ⟨h1, _⟩
  · exact ⟨he, hb⟩
  · omega
theorem take_is (a a' : Option Addr) (cap cap' : Nat) (l : List At) (ms : List (List (Int × Int) × Int)) (w : World) (h : AtomsAt w a l) (h0 : chkL l = 0) (hm : ms.length ≤ maxLen) (h' : MarksAt w a' ms) :
    Calls Try.prog 130 #[.slice a l.length cap, .slice a' ms.length cap'] w fun e w' => ∃ p c, e = .returned (.tuple #[.slice p (takeL l ms).length c, .int .i64 0]) ∧ AtomsAt w' p (takeL l ms) ∧ Below w.heap.size w w' := by
  refine (take_ok a a' cap cap' l ms w h h0 hm h').mono ?_
  rintro e w' ⟨p, c, he, hat, _, hb⟩
  exact ⟨p, c, he, hat, hb⟩
end Go.Proofs.Ytlpfnpkmgkbngac

namespace Go.Proofs.Ytlpfnpkmgkbngac

theorem okL_chk {l : List At} (h : OkL l) : chkL l = 0 := by
  have key : ∀ (l : List At) (prev : Option At), (∀ x ∈ l, chk x.path x.clock = 0 ∧ isSignB x.sign = true) → l.Pairwise (fun x y => ordA x y < 0) → (∀ y, prev = some y → ∀ x ∈ l, ordA y x < 0) → chkFrom prev l = 0 := by
    intro l
    induction l with
    | nil => intro _ _ _ _; rfl
    | cons x l ih =>
      intro prev h1 h2 h3
      have p := List.pairwise_cons.1 h2
      have hx := h1 x (List.mem_cons_self ..)
      have hc : chkAt prev x = 0 := by
        unfold chkAt
        rw [if_neg (by rw [hx.1]; decide), if_neg (by rw [hx.2]; decide)]
        cases prev with
        | none => rfl
        | some y =>
          have := h3 y rfl x (List.mem_cons_self ..)
          simp only
          rw [if_neg (by omega)]
      rw [chkFrom_cons, if_neg (by rw [hc]; decide)]
      exact ih (some x) (fun y hy => h1 y (List.mem_cons_of_mem _ hy)) p.2 (fun y hy z hz => by cases hy; exact p.1 z hz)
  unfold chkL
  have := h.len
  rw [if_neg (by omega)]
  exact key l none h.each h.rise (fun y hy => by cases hy)

theorem putL_ok {l m : List At} (h : OkL l) (h' : OkL m) (hn : (putL l m).length ≤ 300) : OkL (putL l m) := by
  obtain ⟨a1, a2⟩ := putL_least h.rise m
  refine ⟨hn, fun x hx => ?_, a1⟩
  rcases List.mem_append.1 ((a2 x).1 hx).1 with g | g
  · exact h.each x g
  · exact h'.each x g
end Go.Proofs.Ytlpfnpkmgkbngac

namespace Go.Proofs.Ytlpfnpkmgkbngac
open Go.RowKit

/-- is the second mark what comes next behind the first? -/
def flw (pa : List (Int × Int)) (ca : Int) (pb : List (Int × Int)) (cb : Int) : Bool := ordM (bump pa 1) (ca + 1) pb cb == 0

set_option maxRecDepth 100000 in
set_option maxHeartbeats 2000000 in
theorem follows_any (a a' : Option Addr) (cap cap' : Nat) (l m : List (Int × Int)) (c d : Int) (w : World) (hl : chk l c = 0) (hm : chk m d = 0) (h : StepsAt w a l) (h' : StepsAt w a' m) :
    Calls Try.prog 139 #[.agg #[.slice a l.length cap, .int .i64 c], .agg #[.slice a' m.length cap', .int .i64 d]] w fun e w' => e = .returned (.bool (flw l c m d)) ∧ Below w.heap.size w w' := by
  have hl10 : l.length ≤ maxLen := by have := (chk_ok hl).2.1; unfold maxLen; omega
  have hm10 : m.length ≤ maxLen := by have := (chk_ok hm).2.1; unfold maxLen; omega
  obtain ⟨q0, q1, q2, q3, hz, hb0⟩ := boxes2 w (.slice a l.length cap) (.int .i64 c) (.slice a' m.length cap') (.int .i64 d) 41 41
  have hcase : (nxt l c 1 = ([], 0, 3) ∧ flw l c m d = false) ∨ (nxt l c 1 = (bump l 1, c + 1, 0)) := by
    unfold nxt
    rw [if_neg (by omega), if_neg (by omega)]
    by_cases hk : chk (bump l 1) (c + 1) = 0
    · rw [if_neg (by omega)]; exact Or.inr rfl
    · rw [if_pos hk]
      refine Or.inl ⟨rfl, ?_⟩
      unfold flw
      rw [beq_eq_false_iff_ne]
      intro e
      obtain ⟨e1, e2⟩ := ordM_zero e
      rw [e1, e2] at hk
      exact hk hm
  have HL := hidE hl
  have HM := hidE hm
  clear hl hm
  go_enter Try.func139, Try.ntmps139
  go_upto_region 1 with fail
  generalize (w.alloc (Obj.cells #[.slice a l.length cap, .int .i64 c] 41)).alloc (Obj.cells #[.slice a' m.length cap', .int .i64 d] 41) = W at q0 q1 q2 q3 hz hb0 ⊢
  go_wp2_with fail
  refine (next_any _ _ l _ _ _ hl10 (h.below hb0 (Nat.le_refl _))).mono ?_
  rintro e w2 ⟨na, nc, rfl, hsN, hb1⟩
  have z2 : w.heap.size + 1 < W.heap.size := by omega
  have p2 := (hb1.cell (p := ⟨w.heap.size + 1, 0, none⟩) z2).trans q2
  have p3 := (hb1.cell (p := ⟨w.heap.size + 1, 1, none⟩) z2).trans q3
  have hb := hb0.thru hb1 hb0.size
  have z3 := Nat.lt_of_lt_of_le z2 hb1.size
  clear hb0 hb1 q0 q1 q2 q3 hz z2
  rcases hcase with ⟨hn, hf⟩ | hn
  · rw [hn] at hsN ⊢
    have HF := hidE hf
    clear hf hn
    go_wp2_with fail
    go_ret
    exact ⟨ret_bool HF.out.symm, hb.alloc hb.size _⟩
  · rw [hn] at hsN ⊢
    have HLB := hidE (bump_len' l 1)
    clear hn
    have hbn := (Below.refl w2.heap.size w2).alloc (Nat.le_refl _) (Obj.cells #[.slice na (bump l 1).length nc, .int .i64 (c + 1)] 41)
    have hbm : (bump l 1).length ≤ maxLen := by rw [HLB.out]; exact hl10
    have x2 := (hbn.cell (p := ⟨w.heap.size + 1, 0, none⟩) z3).trans p2
    have x3 := (hbn.cell (p := ⟨w.heap.size + 1, 1, none⟩) z3).trans p3
    go_wp2_with (go_at_call 54; refine (order_any _ _ _ _ (bump l 1) m _ _ _ hbm hm10 (by exact hsN.below hbn (Nat.le_refl _)) (by exact h'.below (hb.thru hbn hb.size) (Nat.le_refl _))).mono ?_; rintro e w3 ⟨rfl, hb3⟩)
    go_ret
    exact ⟨ret_bool rfl, (hb.thru hbn hb.size).thru hb3 (by have := hb.size; simp; omega)⟩
end Go.Proofs.Ytlpfnpkmgkbngac

namespace Go.Proofs.Ytlpfnpkmgkbngac
open Go.RowKit

/-- the part of a list from f, so many -/
def part (l : List At) (f n : Nat) : List At := (l.drop f).take n

theorem part_len {l : List At} {f n : Nat} (h : f + n ≤ l.length) : (part l f n).length = n := by unfold part; simp; omega
theorem part_get {l : List At} {f n i : Nat} (h : f + n ≤ l.length) (hi : i < n) : (part l f n)[i]'(by rw [part_len h]; exact hi) = l[f + i] := by unfold part; simp

theorem AtomsAt.part {w : World} {b off : Nat} {l : List At} {f n : Nat} (h : AtomsAt w (some ⟨b, off, none⟩) l) (hfn : f + n ≤ l.length) : AtomsAt w (some ⟨b, off + f * 3, none⟩) (part l f n) := by
  rcases h with e | ⟨b', off', e, hb, hc⟩
  · left; unfold Go.Proofs.Ytlpfnpkmgkbngac.part; rw [e]; simp
  · cases e
    refine Or.inr ⟨b, off + f * 3, rfl, hb, fun i hi => ?_⟩
    rw [part_len hfn] at hi
    rw [part_get hfn hi]
    have := hc (f + i) (by omega)
    rwa [show off + (f + i) * 3 = off + f * 3 + i * 3 by omega] at this

theorem OkL.part {l : List At} (h : OkL l) (f n : Nat) : OkL (part l f n) := by
  refine ⟨?_, fun x hx => h.each x (List.mem_of_mem_drop (List.mem_of_mem_take hx)), List.Pairwise.sublist ((List.take_sublist _ _).trans (List.drop_sublist _ _)) h.rise⟩
  have := h.len
  unfold Go.Proofs.Ytlpfnpkmgkbngac.part
  simp; omega

set_option maxRecDepth 100000 in
set_option maxHeartbeats 2000000 in
theorem join_ok (b off cap : Nat) (pc : List At) (w : World) (x : At) (hx : pc[0]? = some x) (ok : OkL pc) (h : AtomsAt w (some ⟨b, off, none⟩) pc) :
    Calls Try.prog 113 #[.slice (some ⟨b, off, none⟩) pc.length cap] w fun e w' => ∃ g cap', e = .returned (.agg #[.slice (some ⟨g, 0, none⟩) x.path.length cap', .int .i64 x.clock, .string (txtS pc)]) ∧ w'.ownsRow w.heap.size 92 2 (.slice (some ⟨g, 0, none⟩) x.path.length cap') x.path.length (flatS x.path) ∧ Below w.heap.size w w' := by
  have hl : 0 < pc.length := (List.getElem?_eq_some_iff.1 hx).1
  have hx0 : pc[0] = x := (List.getElem?_eq_some_iff.1 hx).2
  have h0 := okL_chk ok
  have h300 := ok.len
  have hp := okPath ok 0 hl
  have H0 := hidE h0
  clear h0 ok
  have hbA := (Below.refl w.heap.size w).alloc (Nat.le_refl _) (Obj.cells #[.slice none 0 0, .int .i64 0, .string ⟨#[]⟩] 63)
  have q0 : (w.alloc (Obj.cells #[.slice none 0 0, .int .i64 0, .string ⟨#[]⟩] 63)).cell? ⟨w.heap.size, 0, none⟩ = some (.slice none 0 0) := by simp
  have q1 : (w.alloc (Obj.cells #[.slice none 0 0, .int .i64 0, .string ⟨#[]⟩] 63)).cell? ⟨w.heap.size, 1, none⟩ = some (.int .i64 0) := by simp
  have q2 : (w.alloc (Obj.cells #[.slice none 0 0, .int .i64 0, .string ⟨#[]⟩] 63)).cell? ⟨w.heap.size, 2, none⟩ = some (.string ⟨#[]⟩) := by simp
  have q3 : ∀ o, (w.alloc (Obj.cells #[.slice none 0 0, .int .i64 0, .string ⟨#[]⟩] 63)).frozen? ⟨w.heap.size, o, none⟩ = false := fun o => by go_simp
  have z1 : w.heap.size < (w.alloc (Obj.cells #[.slice none 0 0, .int .i64 0, .string ⟨#[]⟩] 63)).heap.size := by simp
  go_enter Try.func113, Try.ntmps113
  go_upto_region 1 with fail
  generalize w.alloc (Obj.cells #[.slice none 0 0, .int .i64 0, .string ⟨#[]⟩] 63) = W at hbA q0 q1 q2 q3 z1 ⊢
  go_wp2_with fail
  refine (text_ok _ _ pc _ (h.below hbA (Nat.le_refl _)) H0.out).mono ?_
  rintro e w2 ⟨rfl, hb2⟩
  have hb := hbA.thru hb2 hbA.size
  obtain ⟨ab, ao, hab, hb', hc⟩ := (h.below hb (Nat.le_refl _)).raw hl
  cases hab
  obtain ⟨⟨p, n, cp, ck, sk⟩, hr, c0, c1, c2⟩ := hc 0 hl
  have hn : n = pc[0].path.length := hr.n
  have hck : ck = pc[0].clock := hr.clock
  have hsk : sk = pc[0].sign := hr.sign
  subst hn hck hsk
  have hst := hr.steps
  clear hr
  simp only [Nat.zero_mul, Nat.add_zero] at c0 c1
  rw [hx0] at c0 c1 c2 hst hp
  clear hx0 hx
  obtain ⟨pb, po, rfl⟩ : ∃ pb po, p = some ⟨pb, po, none⟩ := by
    rcases hst with e | ⟨pb, po, rfl, _⟩
    · have e' : x.path = [] := e
      have : x.path.length = 0 := by rw [e']; rfl
      omega
    · exact ⟨pb, po, rfl⟩
  have hml : x.path.length ≤ maxLen := by unfold maxLen; omega
  have hl1 : (0 : Int) < pc.length := by omega
  clear hc
  go_wp2_with fail
  refine (freshMark_ok pb po _ _ x.path _ _ rfl hml (by omega) hst).mono ?_
  rintro e w3 ⟨g, cap2, rfl, hown, hb3⟩
  have z2 := Nat.lt_of_lt_of_le z1 hb2.size
  have t0 := (hb3.cell (p := ⟨w.heap.size, 0, none⟩) z2).trans ((hb2.cell (p := ⟨w.heap.size, 0, none⟩) z1).trans q0)
  have t1 := (hb3.cell (p := ⟨w.heap.size, 1, none⟩) z2).trans ((hb2.cell (p := ⟨w.heap.size, 1, none⟩) z1).trans q1)
  have t2 := (hb3.cell (p := ⟨w.heap.size, 2, none⟩) z2).trans ((hb2.cell (p := ⟨w.heap.size, 2, none⟩) z1).trans q2)
  have t3 := fun o => (hb3.frozen (p := ⟨w.heap.size, o, none⟩) z2).trans ((hb2.frozen (p := ⟨w.heap.size, o, none⟩) z1).trans (q3 o))
  have hg := (hown.lt g rfl).1
  have hgw : w.heap.size < g := by omega
  clear q0 q1 q2 q3 c0 c1 c2
  go_wp2_with fail
  refine bodyPost_ret (v := .agg #[.slice (some ⟨g, 0, none⟩) x.path.length cap2, .int .i64 x.clock, .string (txtS pc)]) (by simp [results, Try.results113, go_sem, t0, t1, t2]) rfl ⟨g, cap2, rfl, ?_, ?_⟩
  · exact ownsRow_setCell_other (ownsRow_setCell_other (ownsRow_setCell_other (owns_base hown hb.size) (by simp [Value.ownBlock]; omega) _) (by simp [Value.ownBlock]; omega) _) (by simp [Value.ownBlock]; omega) _
  · exact (((hb.thru hb3 hb.size).setCell (by simp) _).setCell (by simp) _).setCell (by simp) _
end Go.Proofs.Ytlpfnpkmgkbngac
