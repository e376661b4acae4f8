/- Contract of fresh.Mark. -/
import Derived.Test.YtnhjebdlcbhkcaeGreatPutA
import Derived.Deep.RegionLawGrows
import Derived.Deep.RegionHeldLaw
import Derived.Test.YtnhjebdlcbhkcaeGreatNextC
import Derived.Test.YtnhjebdlcbhkcaeGreatAtomCk
namespace Go.Proofs.YtnhjebdlcbhkcaeGreat
open Go.RowKit

set_option maxRecDepth 100000 in
set_option maxHeartbeats 2000000 in
theorem freshMark_ok (b off n c : Nat) (l : List (Int × Int)) (ck : Int) (w : World) (hn : n = l.length) (hl : l.length ≤ maxLen) (hbig : l.length * 16 ≤ 140737488355328) (h : StepsAt w (some ⟨b, off, none⟩) l) :
    Calls Tryz.prog 76 #[.agg #[.slice (some ⟨b, off, none⟩) n c, .int .i64 ck]] w fun e w' => ∃ g cap, e = .returned (.agg #[.slice (some ⟨g, 0, none⟩) n cap, .int .i64 ck]) ∧ w'.ownsRow w.heap.size 124 2 (.slice (some ⟨g, 0, none⟩) n cap) n (flatS l) ∧ Below w.heap.size w w' := by
  subst hn
  obtain ⟨q0, q1, q3, q4, hz, hb1⟩ := boxes2 w (.slice (some ⟨b, off, none⟩) l.length c) (.int .i64 ck) (.slice none 0 0) (.int .i64 0) 42 42
  have q2 : ∀ o, ((w.alloc (Obj.cells #[.slice (some ⟨b, off, none⟩) l.length c, .int .i64 ck] 42)).alloc (Obj.cells #[.slice none 0 0, .int .i64 0] 42)).frozen? ⟨w.heap.size + 1, o, none⟩ = false := fun o => by go_simp
  go_enter Tryz.func76, Tryz.ntmps76
  go_upto_region 1 with fail
  generalize (w.alloc (Obj.cells #[.slice (some ⟨b, off, none⟩) l.length c, .int .i64 ck] 42)).alloc (Obj.cells #[.slice none 0 0, .int .i64 0] 42) = w1 at q0 q1 q2 q3 q4 hz hb1 ⊢
  have z1 : w.heap.size < w1.heap.size := by omega
  have z2 : w.heap.size + 1 < w1.heap.size := by omega
  clear hz
  have hBd : Below w1.heap.size w1 w1.drew := (Below.refl _ _).drew
  have hs1 := h.below hb1 (Nat.le_refl _)
  go_region_held_law (fun w' => w'.cell? ⟨w.heap.size, 0, none⟩ = some (.slice (some ⟨b, off, none⟩) l.length c) ∧ w'.cell? ⟨w.heap.size, 1, none⟩ = some (.int .i64 ck))
      (first | exact ⟨q0, q1⟩ | exact ⟨t0, t1⟩ | exact ⟨cell_other (by omega) (cell_other (by omega) t0), cell_other (by omega) (cell_other (by omega) t1)⟩)
      ((go_at_call 97; refine (clone_any b off _ _ l _ rfl hl hbig (hs1.below hBd (Nat.le_refl _))).mono ?_; rintro e w3 ⟨g, cap2, rfl, hown, hb3⟩; have hb3' : Below w1.heap.size w1 w3 := hBd.thru hb3 (Nat.le_refl _); have t0 := (hb3'.cell (p := ⟨w.heap.size, 0, none⟩) z1).trans q0; have t1 := (hb3'.cell (p := ⟨w.heap.size, 1, none⟩) z1).trans q1; have t3 := (hb3'.cell (p := ⟨w.heap.size + 1, 0, none⟩) z2).trans q3; have t4 := (hb3'.cell (p := ⟨w.heap.size + 1, 1, none⟩) z2).trans q4; have t2 := fun o => (hb3'.frozen (p := ⟨w.heap.size + 1, o, none⟩) z2).trans (q2 o)))
  go_wp2_with fail
  have hg := hown.lt g rfl
  have hgz : w1.heap.size ≤ g := hg.1
  have s3 : (w3.setCell ⟨w.heap.size + 1, 0, none⟩ (.slice (some ⟨g, 0, none⟩) l.length cap2)).cell? ⟨w.heap.size + 1, 1, none⟩ = some (.int .i64 0) := (World.cell?_setCell_other _ _ _ _ (by simp)).trans t4
  refine bodyPost_ret (v := .agg #[.slice (some ⟨g, 0, none⟩) l.length cap2, .int .i64 ck]) (by simp [results, Tryz.results76, go_sem, t3, s3]) rfl ⟨g, cap2, rfl, ?_, ?_⟩
  · exact ownsRow_setCell_other (ownsRow_setCell_other (owns_base hown (by simp; omega)) (by simp [Value.ownBlock]; omega) _) (by simp [Value.ownBlock]; omega) _
  · exact ((hb1.thru hb3' hb1.size).setCell (by simp) _).setCell (by simp) _

end Go.Proofs.YtnhjebdlcbhkcaeGreat

namespace Go.Proofs.YtnhjebdlcbhkcaeGreat

structure Cmp {α : Type} (f : α → α → Int) : Prop where
  anti : ∀ a b, f a b = - f b a
  vals : ∀ a b, f a b = -1 ∨ f a b = 0 ∨ f a b = 1
  eqv : ∀ a b c, f a b = 0 → f b c = f a c
  trans : ∀ a b c, f a b = -1 → f b c = -1 → f a c = -1

theorem Cmp.refl {α : Type} {f : α → α → Int} (h : Cmp f) (a : α) : f a a = 0 := by have := h.anti a a; omega
theorem Cmp.eqv' {α : Type} {f : α → α → Int} (h : Cmp f) (a b c : α) (e : f b c = 0) : f a b = f a c := by
  have h1 := h.anti a b; have h2 := h.anti a c; have h3 := h.eqv c b a (by have := h.anti c b; omega); omega
theorem Cmp.le_le {α : Type} {f : α → α → Int} (h : Cmp f) {a b c : α} (x : f a b ≤ 0) (y : f b c ≤ 0) : f a c ≤ 0 := by
  rcases h.vals a b with e | e | e
  · rcases h.vals b c with e2 | e2 | e2
    · have := h.trans a b c e e2; omega
    · have := h.eqv' a b c e2; omega
    · omega
  · have := h.eqv a b c e; omega
  · omega
theorem Cmp.le_lt {α : Type} {f : α → α → Int} (h : Cmp f) {a b c : α} (x : f a b ≤ 0) (y : f b c < 0) : f a c < 0 := by
  rcases h.vals a b with e | e | e
  · rcases h.vals b c with e2 | e2 | e2
    · have := h.trans a b c e e2; omega
    · omega
    · omega
  · have := h.eqv a b c e; omega
  · omega
theorem Cmp.lt_le {α : Type} {f : α → α → Int} (h : Cmp f) {a b c : α} (x : f a b < 0) (y : f b c ≤ 0) : f a c < 0 := by
  rcases h.vals a b with e | e | e
  · rcases h.vals b c with e2 | e2 | e2
    · have := h.trans a b c e e2; omega
    · have := h.eqv' a b c e2; omega
    · omega
  · omega
  · omega

theorem ordI_vals (a b : Int) : ordI a b = -1 ∧ a < b ∨ ordI a b = 0 ∧ a = b ∨ ordI a b = 1 ∧ b < a := by
  unfold ordI; split
  · left; exact ⟨rfl, by omega⟩
  · split
    · right; right; exact ⟨rfl, by omega⟩
    · right; left; exact ⟨rfl, by omega⟩
theorem cmpI : Cmp ordI := by
  refine ⟨fun a b => ?_, fun a b => ?_, fun a b c h => ?_, fun a b c h h' => ?_⟩
  · have := ordI_vals a b; have := ordI_vals b a; omega
  · have := ordI_vals a b; omega
  · have h1 := ordI_vals a b; have : a = b := by omega
    rw [this]
  · have := ordI_vals a b; have := ordI_vals b c; have := ordI_vals a c; omega
theorem cmpLex {α β : Type} {f : α → α → Int} {g : β → β → Int} (hf : Cmp f) (hg : Cmp g) : Cmp (fun (x y : α × β) => orI (f x.1 y.1) (g x.2 y.2)) := by
  refine ⟨fun a b => ?_, fun a b => ?_, fun a b c h => ?_, fun a b c h h' => ?_⟩
  · have h1 := hf.anti a.1 b.1; have h2 := hg.anti a.2 b.2
    simp only [orI]; split <;> split <;> omega
  · have h1 := hf.vals a.1 b.1; have h2 := hg.vals a.2 b.2
    simp only [orI]; split <;> omega
  · simp only [orI] at h ⊢
    split at h
    · rename_i e
      have h1 := hf.eqv _ _ c.1 e; have h2 := hg.eqv _ _ c.2 h
      rw [h1, h2]
    · rename_i e; exact absurd h e
  · simp only [orI] at h h' ⊢
    split at h
    · rename_i e
      have h1 := hf.eqv _ _ c.1 e
      rw [← h1]
      split at h'
      · rename_i e2; rw [if_pos e2]; exact hg.trans _ _ _ h h'
      · rename_i e2; rw [if_neg e2]; exact h'
    · split at h'
      · rename_i e e2
        have h1 := hf.eqv' a.1 _ _ e2
        rw [← h1, if_neg e]; exact h
      · have h1 := hf.trans _ _ _ h h'
        rw [if_neg (by omega)]; exact h1
theorem cmpS : Cmp ordS := cmpLex cmpI cmpI
theorem cmpP : Cmp ordP := by
  refine ⟨fun a => ?_, fun a => ?_, fun a => ?_, fun a => ?_⟩
  · induction a with
    | nil => intro b; cases b <;> rfl
    | cons s a ih =>
      intro b
      cases b with
      | nil => rfl
      | cons t b =>
        have h1 := cmpS.anti s t
        have h2 := ih b
        simp only [ordP]
        split <;> split <;> omega
  · induction a with
    | nil => intro b; cases b <;> simp [ordP]
    | cons s a ih =>
      intro b
      cases b with
      | nil => simp [ordP]
      | cons t b =>
        have h1 := cmpS.vals s t
        have h2 := ih b
        simp only [ordP]
        split <;> omega
  · induction a with
    | nil =>
      intro b c h
      cases b with
      | nil => rfl
      | cons t b => simp [ordP] at h
    | cons s a ih =>
      intro b c h
      cases b with
      | nil => simp [ordP] at h
      | cons t b =>
        simp only [ordP] at h
        split at h
        · rename_i e
          cases c with
          | nil => rfl
          | cons u c =>
            have h1 := cmpS.eqv _ _ u e
            have h2 := ih b c h
            simp only [ordP]
            rw [h1, h2]
        · rename_i e; exact absurd h e
  · induction a with
    | nil =>
      intro b c h h'
      cases b with
      | nil => exact h'
      | cons t b =>
        cases c with
        | nil => simp [ordP] at h'
        | cons u c => rfl
    | cons s a ih =>
      intro b c h h'
      cases b with
      | nil => simp [ordP] at h
      | cons t b =>
        cases c with
        | nil => simp [ordP] at h'
        | cons u c =>
          simp only [ordP] at h h' ⊢
          split at h
          · rename_i e
            have h1 := cmpS.eqv _ _ u e
            rw [← h1]
            split at h'
            · rename_i e2; rw [if_pos e2]; exact ih b c h h'
            · rename_i e2; rw [if_neg e2]; exact h'
          · split at h'
            · rename_i e e2
              have h1 := cmpS.eqv' s _ _ e2
              rw [← h1, if_neg e]; exact h
            · have h1 := cmpS.trans _ _ _ h h'
              rw [if_neg (by omega)]; exact h1
theorem cmpM : Cmp (fun (x y : List (Int × Int) × Int) => ordM x.1 x.2 y.1 y.2) := cmpLex cmpP cmpI

theorem ordS_zero_iff (s t : Int × Int) : ordS s t = 0 ↔ s = t := by
  have h1 := ordI_vals s.1 t.1; have h2 := ordI_vals s.2 t.2
  constructor
  · intro h
    unfold ordS orI at h
    split at h
    · exact Prod.ext (by omega) (by omega)
    · omega
  · rintro rfl; exact cmpS.refl s
theorem ordP_zero {a : List (Int × Int)} : ∀ {b}, ordP a b = 0 → a = b := by
  induction a with
  | nil => intro b h; cases b with
    | nil => rfl
    | cons t b => simp [ordP] at h
  | cons s a ih => intro b h; cases b with
    | nil => simp [ordP] at h
    | cons t b =>
      simp only [ordP] at h
      split at h
      · rename_i e; rw [(ordS_zero_iff s t).1 e, ih h]
      · rename_i e; exact absurd h e
theorem ordP_same (p : List (Int × Int)) (l m : List (Int × Int)) : ordP (p ++ l) (p ++ m) = ordP l m := by
  induction p with
  | nil => rfl
  | cons s p ih => simp only [List.cons_append, ordP]; rw [if_pos (cmpS.refl s), ih]
theorem ordP_one {s t : Int × Int} (l m : List (Int × Int)) (h : ordS s t = -1) : ordP (s :: l) (t :: m) = -1 := by
  simp only [ordP]; rw [if_neg (by omega)]; exact h
theorem ordS_of {s t : Int × Int} (h : s.1 < t.1 ∨ s.1 = t.1 ∧ s.2 < t.2) : ordS s t = -1 := by
  have h1 := ordI_vals s.1 t.1; have h2 := ordI_vals s.2 t.2
  unfold ordS orI; split <;> omega
theorem ordM_of {l m : List (Int × Int)} {c d : Int} (h : ordP l m = -1) : ordM l c m d = -1 := by
  unfold ordM orI; rw [if_neg (by omega)]; exact h

end Go.Proofs.YtnhjebdlcbhkcaeGreat

namespace Go.Proofs.YtnhjebdlcbhkcaeGreat
open Go.RowKit

def Cut (l : List At) (m : List (Int × Int)) (d : Int) (i j : Nat) : Prop := (∀ t (h : t < l.length), t < i → ordM l[t].path l[t].clock m d < 0) ∧ (∀ t (h : t < l.length), j ≤ t → 0 ≤ ordM l[t].path l[t].clock m d)
def Parts (l : List At) (m : List (Int × Int)) (d : Int) : Prop := ∀ s t (h : t < l.length) (hs : s < t), ordM l[t].path l[t].clock m d < 0 → ordM (l[s]'(by omega)).path (l[s]'(by omega)).clock m d < 0

def hasMk (l : List At) (p : List (Int × Int)) (c : Int) : Bool := l.any fun x => ordM x.path x.clock p c == 0

theorem cmpA : Cmp ordA := ⟨fun a b => cmpM.anti (a.path, a.clock) (b.path, b.clock), fun a b => cmpM.vals (a.path, a.clock) (b.path, b.clock), fun a b c => cmpM.eqv (a.path, a.clock) (b.path, b.clock) (c.path, c.clock), fun a b c => cmpM.trans (a.path, a.clock) (b.path, b.clock) (c.path, c.clock)⟩

theorem ordA_trans {a b c : At} (h : ordA a b < 0) (h' : ordA b c < 0) : ordA a c < 0 := by
  have h1 := cmpA.vals a b; have h2 := cmpA.vals b c
  have := cmpA.trans a b c (by omega) (by omega)
  omega

theorem chkFrom_ok : ∀ (l : List At) (prev : Option At), chkFrom prev l = 0 → (∀ x ∈ l, chk x.path x.clock = 0 ∧ isSignB x.sign = true) ∧ l.Pairwise (fun x y => ordA x y < 0) ∧ ∀ y, prev = some y → ∀ x ∈ l, ordA y x < 0
  | [], _, _ => ⟨fun x h => by simp at h, List.Pairwise.nil, fun _ _ x h => by simp at h⟩
  | x :: l, prev, h => by
    rw [chkFrom_cons] at h
    by_cases h1 : chkAt prev x ≠ 0
    · rw [if_pos h1] at h; exact absurd h h1
    rw [if_neg h1] at h
    have h2 : chkAt prev x = 0 := by omega
    obtain ⟨a1, a2, a3⟩ := chkFrom_ok l (some x) h
    unfold chkAt at h2
    by_cases c1 : chk x.path x.clock ≠ 0
    · rw [if_pos c1] at h2; exact absurd h2 c1
    rw [if_neg c1] at h2
    by_cases c2 : isSignB x.sign = false
    · rw [if_pos c2] at h2; exact absurd h2 (by decide)
    rw [if_neg c2] at h2
    refine ⟨?_, List.Pairwise.cons (a3 x rfl) a2, ?_⟩
    · intro y hy
      rcases List.mem_cons.1 hy with rfl | hy
      · exact ⟨by omega, by simpa using c2⟩
      · exact a1 y hy
    · intro y hy z hz
      subst hy
      have hyx : ordA y x < 0 := by
        simp only at h2
        split at h2
        · exact absurd h2 (by decide)
        · omega
      rcases List.mem_cons.1 hz with rfl | hz
      · exact hyx
      · exact ordA_trans hyx (a3 x rfl z hz)

structure OkL (l : List At) : Prop where
  len : l.length ≤ 300
  each : ∀ x ∈ l, chk x.path x.clock = 0 ∧ isSignB x.sign = true
  rise : l.Pairwise (fun x y => ordA x y < 0)

theorem okL_of {l : List At} (h : chkL l = 0) : OkL l := by
  unfold chkL at h
  by_cases e : 300 < l.length
  · rw [if_pos e] at h; exact absurd h (by decide)
  rw [if_neg e] at h
  have := chkFrom_ok l none h
  exact ⟨by omega, this.1, this.2.1⟩

theorem OkL.get {l : List At} (h : OkL l) {i j : Nat} (hj : j < l.length) (hij : i < j) : ordA (l[i]'(by omega)) l[j] < 0 := List.pairwise_iff_getElem.1 h.rise i j (by omega) hj hij

theorem parts_of {l : List At} (h : OkL l) (m : List (Int × Int)) (d : Int) : Parts l m d := by
  intro s t ht hs hn
  exact ordA_trans (c := ⟨m, d, 0⟩) (h.get ht hs) hn

theorem okPath {l : List At} (h : OkL l) : ∀ i (h : i < l.length), 0 < l[i].path.length ∧ l[i].path.length ≤ 10 := by
  intro i hi
  obtain ⟨h1, h2, _⟩ := chk_ok (h.each l[i] (List.getElem_mem hi)).1
  exact ⟨by omega, h2⟩

theorem gone_found {l : List At} (hok : OkL l) {m : List (Int × Int)} {d : Int} {i : Nat} (hi : i < l.length) (hc : Cut l m d i i) (h0 : ordM l[i].path l[i].clock m d = 0) {j : Nat} (hj : j < l.length) : (ordM l[j].path l[j].clock m d == 0) = decide (j = i) := by
  by_cases e : j = i
  · subst e; rw [h0]; simp
  · rw [show decide (j = i) = false from by simpa using e, beq_eq_false_iff_ne]
    rcases Nat.lt_or_gt_of_ne e with hlt | hgt
    · have := hc.1 j hj hlt; omega
    · have h1 := hok.get hj hgt
      have h2 := cmpA.eqv' l[j] l[i] ⟨m, d, 0⟩ h0
      have h3 := cmpA.anti l[j] l[i]
      have h4 : ordA l[j] ⟨m, d, 0⟩ = ordM l[j].path l[j].clock m d := rfl
      omega

theorem gone_none {l : List At} (hok : OkL l) {m : List (Int × Int)} {d : Int} {i : Nat} (hc : Cut l m d i i) (hn : ¬ ∃ h : i < l.length, ordM l[i].path l[i].clock m d = 0) {j : Nat} (hj : j < l.length) : (ordM l[j].path l[j].clock m d == 0) = false := by
  rw [beq_eq_false_iff_ne]
  intro h0
  rcases Nat.lt_or_ge j i with hlt | hge
  · have := hc.1 j hj hlt; omega
  · have hi : i < l.length := by omega
    by_cases e : i = j
    · subst e; exact hn ⟨hi, h0⟩
    · have h1 := hok.get hj (show i < j by omega)
      have h2 := cmpA.eqv' l[i] l[j] ⟨m, d, 0⟩ h0
      have h4 : ordA l[i] ⟨m, d, 0⟩ = ordM l[i].path l[i].clock m d := rfl
      have h5 := hc.2 i hi (Nat.le_refl _)
      omega

end Go.Proofs.YtnhjebdlcbhkcaeGreat

namespace Go.Proofs.YtnhjebdlcbhkcaeGreat
open Go.RowKit

set_option maxHeartbeats 1000000 in
theorem take1_any (a a' : Option Addr) (cap cap' : Nat) (l m : List (Int × Int)) (c d s : Int) (w : World) (hl : l.length ≤ maxLen) (hm : m.length ≤ maxLen) (h : StepsAt w a l) (h' : StepsAt w a' m) :
    Calls Tryz.prog 164 #[.agg #[.slice a l.length cap, .int .i64 c, .int .u8 s], .agg #[.slice a' m.length cap', .int .i64 d]] w fun e w' => e = .returned (.int .i64 (ordM l c m d)) ∧ Below w.heap.size w w' := by
  have hb0 : Below w.heap.size w ((w.alloc (Obj.cells #[.slice a l.length cap, .int .i64 c, .int .u8 s] 108)).alloc (Obj.cells #[.slice a' m.length cap', .int .i64 d] 42)) := ((Below.refl _ _).alloc (Nat.le_refl _) _).alloc (by simp) _
  go_enter Tryz.func164, Tryz.ntmps164
  go_wp2_with (go_at_call 61; refine (order_any _ _ _ _ l m _ _ _ hl hm (by exact h.below hb0 (Nat.le_refl _)) (by exact h'.below hb0 (Nat.le_refl _))).mono ?_; rintro e w' ⟨rfl, hb⟩)
  go_ret
  exact ⟨rfl, hb0.thru hb hb0.size⟩

set_option maxRecDepth 100000 in
set_option maxHeartbeats 2000000 in
theorem search_any (a a' : Option Addr) (cap cap' : Nat) (l : List At) (m : List (Int × Int)) (d : Int) (w : World) (hl : l.length ≤ 1000) (hm : m.length ≤ maxLen) (h : AtomsAt w a l) (h' : StepsAt w a' m) (hp : Parts l m d) :
    Calls Tryz.prog 163 #[.slice a l.length cap, .agg #[.slice a' m.length cap', .int .i64 d], .func (.func 164) #[] #[]] w fun e w' => ∃ i : Nat, i ≤ l.length ∧ Cut l m d i i ∧ ∃ f : Bool, e = .returned (.tuple #[.int .i64 i, .bool f]) ∧ (f = true ↔ ∃ h : i < l.length, ordM l[i].path l[i].clock m d = 0) ∧ Below w.heap.size w w' := by
  have HP := hidE hp
  clear hp
  go_enter Tryz.func163, Tryz.ntmps163
  go_upto_region 1 with fail
  have hbA : Below w.heap.size w (w.alloc (Obj.cells #[.slice a' m.length cap', .int .i64 d] 42)) := (Below.refl _ _).alloc (Nat.le_refl _) _
  have q0 : (w.alloc (Obj.cells #[.slice a' m.length cap', .int .i64 d] 42)).cell? ⟨w.heap.size, 0, none⟩ = some (.slice a' m.length cap') := by simp
  have q1 : (w.alloc (Obj.cells #[.slice a' m.length cap', .int .i64 d] 42)).cell? ⟨w.heap.size, 1, none⟩ = some (.int .i64 d) := by simp
  have z1 : w.heap.size < (w.alloc (Obj.cells #[.slice a' m.length cap', .int .i64 d] 42)).heap.size := by simp
  generalize w.alloc (Obj.cells #[.slice a' m.length cap', .int .i64 d] 42) = w1 at hbA q0 q1 z1 ⊢
  go_wp2_with fail
  go_loopw [9, 10] (fun i j wr => ∃ x y : Nat, x ≤ y ∧ y ≤ l.length ∧ i = .int .i64 x ∧ j = .int .i64 y ∧ Cut l m d x y ∧ Below w1.heap.size w1 wr) (fun i j _ => (intOf j).toNat - (intOf i).toNat)
  case atStart => exact ⟨0, l.length, Nat.zero_le _, Nat.le_refl _, rfl, rfl, ⟨fun t _ h => by omega, fun t h h' => by omega⟩, Below.refl _ _⟩
  case round =>
    obtain ⟨x, y, hxy, hy, rfl, rfl, hcut, hb⟩ := hrel
    have HCut := hidE hcut
    clear hcut
    have hbW := hbA.thru hb hbA.size
    by_cases hlt : x < y
    · have hi1 : (x : Int) < y := by omega
      have hh : (x + y) / 2 < l.length := by omega
      go_upto_region 5 with fail
      rw [show ((x : Int) + y) / 2 = (((x + y) / 2 : Nat) : Int) by omega]
      have hz1 : x ≤ (x + y) / 2 := by omega
      have hz2 : (x + y) / 2 < y := by omega
      generalize (x + y) / 2 = z at hz1 hz2 hh ⊢
      rcases h.below hbW (Nat.le_refl _) with hs | ⟨ab, ao, rfl, hab, hc⟩
      · simp [hs] at hh
      obtain ⟨p, cp, c0, c1, c2, hst, hle, _⟩ := hc z hh
      have hi2 : (z : Int) < l.length := by omega
      have HZ : Hid (∀ o, o = ordM l[z].path l[z].clock m d → (o < 0 → Cut l m d (z + 1) y) ∧ (0 ≤ o → Cut l m d x z)) := by
        intro o ho
        subst ho
        refine ⟨fun h0 => ⟨fun t ht htz => ?_, HCut.out.2⟩, fun h0 => ⟨HCut.out.1, fun t ht htz => ?_⟩⟩
        · by_cases e : t = z
          · subst e; exact h0
          · exact HP.out t z hh (by omega) h0
        · by_cases e : t = z
          · subst e; exact h0
          · rcases Int.lt_or_le (ordM l[t].path l[t].clock m d) 0 with hn | hn
            · have := HP.out z t ht (by omega) hn
              omega
            · exact hn
      generalize l[z].path = pk at *
      generalize l[z].clock = ck at *
      generalize l[z].sign = sk at *
      have k0 := cell_regrown c0
      have k1 := cell_regrown c1
      have k2 := cell_regrown c2
      have k3 := cell_regrown ((hb.cell (p := ⟨w.heap.size, 0, none⟩) z1).trans q0)
      have k4 := cell_regrown ((hb.cell (p := ⟨w.heap.size, 1, none⟩) z1).trans q1)
      have S1 := hidE (fun d os => hst.below (below_regrown wr d os) (Nat.le_refl _))
      have S2 := hidE (fun d os => (h'.below hbW (Nat.le_refl _)).below (below_regrown wr d os) (Nat.le_refl _))
      clear hc h hst h'
      refine wp_region_quiet_below (by kernel_rfl) (by kernel_rfl) ?_
      repeat (first | go_big_quiet_step ((go_at_call 164; exact Calls.regrown_of (take1_any _ _ _ _ pk m _ _ _ _ hle hm (S1.out _ _) (S2.out _ _)))) | quiet_step ((go_at_call 164; exact Calls.regrown_of (take1_any _ _ _ _ pk m _ _ _ _ hle hm (S1.out _ _) (S2.out _ _)))))
      refine wpQuiet_nil ?_
      intro _ hw'
      obtain ⟨⟨dq, osq⟩, hw''⟩ := hw'
      subst hw''
      obtain ⟨HZ1, HZ2⟩ := HZ.out _ rfl
      by_cases ho : ordM pk ck m d < 0
      · have HC2 := hidE (HZ1 ho)
        clear HZ1 HZ2
        go_wp2
        go_roundw
        case rel => exact ⟨z + 1, y, by omega, hy, by go_num, rfl, HC2.out, hb.thru (below_regrown _ _ _) hb.size⟩
        case measure => simp [intOf]; omega
      · have HC2 := hidE (HZ2 (by omega))
        clear HZ1 HZ2
        go_wp2
        go_roundw
        case rel => exact ⟨x, z, by omega, by omega, rfl, rfl, HC2.out, hb.thru (below_regrown _ _ _) hb.size⟩
        case measure => simp [intOf]; omega
    · have hxe : x = y := by omega
      subst hxe
      by_cases hlen : x < l.length
      · rcases h.below hbW (Nat.le_refl _) with hs | ⟨ab, ao, rfl, hab, hc⟩
        · simp [hs] at hlen
        obtain ⟨p, cp, c0, c1, c2, hst, hle, _⟩ := hc x hlen
        have HO : Hid (∃ o, o = ordM l[x].path l[x].clock m d) := ⟨_, rfl⟩
        have HE : Hid ((∃ h : x < l.length, ordM l[x].path l[x].clock m d = 0) ↔ ordM l[x].path l[x].clock m d = 0) := by
          constructor
          · rintro ⟨_, h⟩; exact h
          · intro h; exact ⟨hlen, h⟩
        have hi1 : decide ((x : Int) < l.length) = true := by simpa using hlen
        have hi2 : (x : Int) < l.length := by omega
        generalize hpk : l[x].path = pk at *
        generalize hck : l[x].clock = ck at *
        generalize l[x].sign = sk at *
        have HPK := hidE hpk
        have HCK := hidE hck
        have k0 := cell_regrown c0
        have k1 := cell_regrown c1
        have k2 := cell_regrown c2
        have k3 := cell_regrown ((hb.cell (p := ⟨w.heap.size, 0, none⟩) z1).trans q0)
        have k4 := cell_regrown ((hb.cell (p := ⟨w.heap.size, 1, none⟩) z1).trans q1)
        have S1 := hidE (fun d os => hst.below (below_regrown wr d os) (Nat.le_refl _))
        have S2 := hidE (fun d os => (h'.below hbW (Nat.le_refl _)).below (below_regrown wr d os) (Nat.le_refl _))
        clear hc h hst h' hpk hck
        go_wp2_with fail
        refine wp_region_quiet_below (by kernel_rfl) (by kernel_rfl) ?_
        repeat (first | go_big_quiet_step ((go_at_call 164; exact Calls.regrown_of (take1_any _ _ _ _ pk m _ _ _ _ hle hm (S1.out _ _) (S2.out _ _)))) | quiet_step ((go_at_call 164; exact Calls.regrown_of (take1_any _ _ _ _ pk m _ _ _ _ hle hm (S1.out _ _) (S2.out _ _)))))
        refine wpQuiet_nil ?_
        intro _ hw'
        obtain ⟨⟨dq, osq⟩, hw''⟩ := hw'
        subst hw''
        go_wp2
        refine bodyPost_ret (v := .tuple #[.int .i64 x, .bool (ordM pk ck m d == 0)]) (by simp [results, Tryz.results163, go_sem]) rfl ?_
        refine ⟨x, by omega, HCut.out, _, rfl, ?_, hbW.thru (below_regrown _ _ _) hbW.size⟩
        rw [beq_iff_eq]
        constructor
        · intro e; exact ⟨hlen, by rw [HPK.out, HCK.out]; exact e⟩
        · rintro ⟨_, e⟩; rw [HPK.out, HCK.out] at e; exact e
      · have hi1 : decide ((x : Int) < l.length) = false := by simpa using hlen
        have HN : Hid ((false = true) ↔ ∃ h : x < l.length, ordM l[x].path l[x].clock m d = 0) := by
          constructor
          · intro h; cases h
          · rintro ⟨h, _⟩; exact absurd h hlen
        go_wp2_with fail
        refine wp_region_quiet_below (by kernel_rfl) (by kernel_rfl) ?_
        repeat (first | go_big_quiet_step (fail) | quiet_step (fail))
        refine wpQuiet_nil ?_
        intro _ hw'
        obtain ⟨⟨dq, osq⟩, hw''⟩ := hw'
        subst hw''
        go_wp2
        refine bodyPost_ret (v := .tuple #[.int .i64 x, .bool false]) (by simp [results, Tryz.results163, go_sem]) rfl ?_
        exact ⟨x, by omega, HCut.out, _, rfl, HN.out, hbW.thru (below_regrown _ _ _) hbW.size⟩
end Go.Proofs.YtnhjebdlcbhkcaeGreat
