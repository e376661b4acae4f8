/- Contract of sign.Each with edit.Put's literal: an atom a sign. -/
import Derived.Test.YtnhjebdlcbhkcacGreatNextOf
import Derived.Deep.AppendLies
import Derived.Test.YtnhjebdlcbhkcacGreatRunCk
import Derived.Test.YtnhjebdlcbhkcacGreatGapA
import Derived.Test.YtnhjebdlcbhkcacGreatBetween
import Derived.Lib.QuietBelow
import Derived.Test.YtnhjebdlcbhkcacGreatOrderC
namespace Go.Proofs.YtnhjebdlcbhkcacGreat
open Go.RowKit

/-- a box that holds a row of atoms, which is the call's own; their paths lie in the world w0 -/
structure BoxA (w0 w : World) (B : Nat) (xs : List At) : Prop where
  at0 : ∃ p c, w.cell? ⟨B, 0, none⟩ = some (.slice p xs.length c) ∧ OwnsA w0 w (B + 1) (.slice p xs.length c) xs
  froz : w.frozen? ⟨B, 0, none⟩ = false
  lt : B < w.heap.size

/-- the atoms of some marks and the signs of a text -/
def comeL (ms : List (List (Int × Int) × Int)) (t : ByteArray) (k : Nat) : List At := (List.range k).map fun i => ⟨(ms.getD i ([], 0)).1, (ms.getD i ([], 0)).2, (t.data.toList.getD i 0).toNat⟩

theorem comeL_succ (ms : List (List (Int × Int) × Int)) (t : ByteArray) (k : Nat) : comeL ms t (k + 1) = comeL ms t k ++ [⟨(ms.getD k ([], 0)).1, (ms.getD k ([], 0)).2, (t.data.toList.getD k 0).toNat⟩] := by
  unfold comeL; rw [List.range_succ, List.map_append]; rfl
theorem comeL_len (ms : List (List (Int × Int) × Int)) (t : ByteArray) (k : Nat) : (comeL ms t k).length = k := by simp [comeL]

theorem owns_sliceA {w : World} {base : Nat} {e : TypeId} {size : Nat} {v : Value} {n : Nat} {xs : List Value} (h : w.ownsRow base e size v n xs) : ∃ p cap, v = .slice p n cap := by
  rcases h.2 with ⟨rfl, rfl⟩ | ⟨g, cap, cur, rfl, _⟩
  · exact ⟨none, 0, rfl⟩
  · exact ⟨_, cap, rfl⟩

theorem BoxA.end {w0 w w' : World} {B n : Nat} {v : Value} {xs : List At} {rs : List Raw} {r : Raw} {x : At} {p : Option Addr} {c : Nat} {o : Obj} (hlt : B < w.heap.size) (hf : w.frozen? ⟨B, 0, none⟩ = false) (hrl : rs.length = xs.length) (hrr : ∀ i (h : i < xs.length) (h' : i < rs.length), RawOf w0 rs[i] xs[i]) (hr : RawOf w0 r x) (hown : w.ownsRow (B + 1) 66 3 (.slice p n c) n (flatR rs))
    (hg : (w.alloc o).grownBy w' (Value.slice p n c).ownBlock) (hn : n = xs.length) (h5 : w'.ownsRow (B + 1) 66 3 v (n + 1) (flatR rs ++ r.cells)) (hc : w.cell? ⟨B, 0, none⟩ = some (.slice p n c)) :
    BoxA w0 (w'.setCell ⟨B, 0, none⟩ v) B (xs ++ [x]) ∧ Below B w (w'.setCell ⟨B, 0, none⟩ v) ∧ w'.cell? ⟨B, 0, none⟩ = some (.slice p n c) ∧ w'.frozen? ⟨B, 0, none⟩ = false := by
  subst hn
  have hne : some B ≠ (Value.slice p xs.length c).ownBlock := fun e => by have := (hown.lt _ e.symm).1; omega
  have hl1 : B < (w.alloc o).heap.size := by simp; omega
  have hb1 : Below B w (w.alloc o) := (Below.refl _ _).alloc (Nat.le_of_lt hlt) _
  have hb2 : Below B w w' := hb1.grown hg (Nat.le_of_lt hl1) (fun j hj => by have := (hown.lt j hj).1; omega)
  have hba : Below w.heap.size w (w.alloc o) := (Below.refl _ _).alloc (Nat.le_refl _) _
  have c' : w'.cell? ⟨B, 0, none⟩ = some (.slice p xs.length c) := (hg.cell_far ⟨B, 0, none⟩ hl1 hne).trans ((hba.cell (p := ⟨B, 0, none⟩) hlt).trans hc)
  have f' : w'.frozen? ⟨B, 0, none⟩ = false := (hg.frozen_far ⟨B, 0, none⟩ hl1 hne).trans ((hba.frozen (p := ⟨B, 0, none⟩) hlt).trans hf)
  have hlt' : B < w'.heap.size := Nat.lt_of_lt_of_le hl1 hg.size
  obtain ⟨p', c1, rfl⟩ := owns_sliceA h5
  have hlen : (xs ++ [x]).length = xs.length + 1 := by simp
  refine ⟨⟨⟨p', c1, ?_, ?_⟩, ?_, ?_⟩, hb2.setCell (p := ⟨B, 0, none⟩) (Nat.le_refl _) _, c', f'⟩
  · rw [hlen]; exact World.cell?_setCell_same _ _ _ c'
  · rw [hlen]
    exact ownsA_snoc hrl hrr hr (ownsRow_setCell_other h5 (fun e => absurd (h5.lt B e).1 (by omega)) _)
  · rw [World.frozen?_setCell]; exact f'
  · simpa [World.setCell] using hlt'

theorem rawA_new (w : World) (r : Raw) : ∀ j u, r.cells[j]? = some u → (w.alloc (.cells #[.slice r.p r.n r.cap, .int .i64 r.clock, .int .u8 r.sign] 66)).drew.cell? ⟨w.heap.size, j, none⟩ = some u := by
  intro j u hj
  show (w.alloc (.cells #[.slice r.p r.n r.cap, .int .i64 r.clock, .int .u8 r.sign] 66)).cell? ⟨w.heap.size, j, none⟩ = some u
  exact raw_new w r j u hj

set_option maxRecDepth 100000 in
set_option maxHeartbeats 2000000 in
theorem editPut1_any (w0 : World) (B C : Nat) (O : Nat) (km cm : Nat) (ms : List (List (Int × Int) × Int)) (t : ByteArray) (k : Nat) (w : World) (hk : k < ms.length) (hl : ms.length ≤ 100) (hm : MarksAt w0 (some ⟨O, 0, none⟩) ms) (hcap : CapsM w0 O ms) (hb0 : Below w0.heap.size w0 w) (hkm : km = ms.length) (hbox : w.cell? ⟨C, 0, none⟩ = some (.slice (some ⟨O, 0, none⟩) km cm)) (h : BoxA w0 w B (comeL ms t k)) :
    Calls Tryz.prog 39 #[.int .i64 k, .int .u8 (t.data.toList.getD k 0).toNat, .pointer (some ⟨B, 0, none⟩), .pointer (some ⟨C, 0, none⟩)] w fun e w' => e = .returned (.tuple #[]) ∧ BoxA w0 w' B (comeL ms t (k + 1)) ∧ Below B w w' := by
  obtain ⟨⟨p, c, hc, rs, hrl, hown, hrr⟩, hf, hlt⟩ := h
  obtain ⟨i0, hi0, hz0, hz1, hz2⟩ := Tryz.info66
  rcases hm with hs | ⟨b, off, e, hbb, hcc⟩
  · rw [hs] at hk; simp at hk
  obtain ⟨rfl, rfl⟩ : O = b ∧ 0 = off := by cases e; exact ⟨rfl, rfl⟩
  obtain ⟨pp, cp, c0, c1, hst, hpl⟩ := hcc k hk
  obtain ⟨pp', cp', c0', hcp⟩ := hcap k hk
  have ecp : cp = cp' := by
    have := c0.symm.trans c0'
    simp at this
    exact this.2
  subst ecp
  have hsg := u8_range (t.data.toList.getD k 0)
  have HS : Hid (comeL ms t (k + 1) = comeL ms t k ++ [⟨ms[k].1, ms[k].2, (t.data.toList.getD k 0).toNat⟩]) := by
    show _ = _
    rw [comeL_succ, List.getD_eq_getElem?_getD, List.getElem?_eq_getElem hk]; rfl
  have HR : Hid (RawOf w0 ⟨pp, ms[k].1.length, cp, ms[k].2, (t.data.toList.getD k 0).toNat⟩ ⟨ms[k].1, ms[k].2, (t.data.toList.getD k 0).toNat⟩) := ⟨rfl, rfl, rfl, hst, hpl, hcp, hsg.1, hsg.2⟩
  have d0 := (hb0.cell (p := ⟨O, 0 + k * 2, none⟩) hbb).trans c0
  have d1 := (hb0.cell (p := ⟨O, 0 + k * 2 + 1, none⟩) hbb).trans c1
  rw [Nat.zero_add] at d0 d1
  generalize (((t.data.toList.getD k 0).toNat : Nat) : Int) = sg at *
  have hlen := comeL_len ms t k
  have HRR := hidE hrr
  have hi1 : (k : Int) < (km : Int) := by omega
  have hk100 : k ≤ 100 := by omega
  clear hcc hcap c0 c1 c0' hst hpl hcp hrr hsg
  generalize hxs : comeL ms t k = xs at *
  generalize ms[k].1 = mp at *
  generalize ms[k].2 = mc at *
  have HLN := hidE hlen
  rw [hlen] at hc hown hrl
  clear hxs hlen
  have hkm0 : Hid (km = ms.length) := hkm
  clear hkm hk hl
  have hownA := hown.alloc (Obj.cells #[.slice pp mp.length cp, .int .i64 mc, .int .u8 sg] 66)
  have hownD : (w.alloc (Obj.cells #[.slice pp mp.length cp, .int .i64 mc, .int .u8 sg] 66)).drew.ownsRow (B + 1) 66 3 (.slice p k c) k (flatR rs) := hownA
  have HRL := hidE hrl
  clear hrl hownA e hbb
  go_enter Tryz.func39, Tryz.ntmps39
  go_wp2_with fail
  have HEND := hidE (fun (v' : Value) (w' : World) (h5 : w'.ownsRow (B + 1) 66 3 v' (k + 1) (flatR rs ++ (⟨pp, mp.length, cp, mc, sg⟩ : Raw).cells)) (hg : ((w.alloc (Obj.cells #[.slice pp mp.length cp, .int .i64 mc, .int .u8 sg] 66)).drew).grownBy w' (Value.slice p k c).ownBlock) => BoxA.end (w0 := w0) (w := w.drew) (o := (Obj.cells #[.slice pp mp.length cp, .int .i64 mc, .int .u8 sg] 66)) (xs := xs) (x := ⟨mp, mc, sg⟩) (rs := rs) (r := ⟨pp, mp.length, cp, mc, sg⟩) hlt hf (HRL.out.trans HLN.out.symm) HRR.out HR.out hown hg HLN.out.symm h5 hc)
  go_region_law (first
    | (refine step_append_own rfl (.tmp 6) (.tmp 13) 22 rfl (B + 1) 66 i0 (.agg #[.slice none 0 0, .int .i64 0, .int .u8 0]) 3 40 Tryz.underlying22 hi0 hz0 hz1 hz2 rfl (by decide) (.slice p k c) k (flatR rs) (by simp [Act.eval]) hownD ⟨w.heap.size, 0, none⟩ 1 1 (⟨pp, mp.length, cp, mc, sg⟩ : Raw).cells (by simp [Act.eval]) rfl (by intro j u hj; rw [Addr.add_lit, Nat.zero_add]; exact rawA_new w (⟨pp, mp.length, cp, mc, sg⟩ : Raw) j u hj) (fun u hu => flatR_one [(⟨pp, mp.length, cp, mc, sg⟩ : Raw)] u (by simpa [flatR] using hu)) (by unfold maxLen; omega) (by omega) (by simp [World.drew]; omega) ?_; intro v' w5 hown5 hgrow; obtain ⟨hBX, hbB, hc5, hf5⟩ := HEND.out v' w5 hown5 hgrow; obtain ⟨p', c', rfl⟩ := owns_sliceA hown5; have HBX := hidE hBX; clear hBX hown5 hgrow))
  all_goals
    go_wp2_with fail
    go_end0
    exact ⟨rfl, by rw [HS.out]; exact HBX.out, ((Below.refl _ _).drew).trans hbB⟩

set_option maxRecDepth 100000 in
set_option maxHeartbeats 2000000 in
theorem eachPut_any (w0 : World) (B C : Nat) (O : Nat) (km cm : Nat) (ms : List (List (Int × Int) × Int)) (t : ByteArray) (w : World) (ht : t.size = ms.length) (hl : ms.length ≤ 100) (hCB : C < B) (hm : MarksAt w0 (some ⟨O, 0, none⟩) ms) (hcap : CapsM w0 O ms) (hb0 : Below w0.heap.size w0 w) (hw0 : w0.heap.size ≤ B) (hkm : km = ms.length) (hbox : w.cell? ⟨C, 0, none⟩ = some (.slice (some ⟨O, 0, none⟩) km cm)) (h : BoxA w0 w B []) :
    Calls Tryz.prog 38 #[.string t, .func (.func 39) #[] #[.pointer (some ⟨B, 0, none⟩), .pointer (some ⟨C, 0, none⟩)]] w fun e w' => e = .returned (.tuple #[]) ∧ BoxA w0 w' B (comeL ms t t.size) ∧ Below B w w' := by
  have HP := hidE (fun (k : Nat) (hk : k < t.size) (W : World) (h1 : Below B w W) (h2 : BoxA w0 W B (comeL ms t k)) => editPut1_any w0 B C O km cm ms t k W (by omega) hl hm hcap (hb0.trans (h1.mono hw0)) hkm ((h1.cell (p := ⟨C, 0, none⟩) hCB).trans hbox) h2)
  have ht100 : t.size ≤ 100 := by omega
  clear hm hcap hbox hkm ht hl
  go_enter Tryz.func38, Tryz.ntmps38
  go_wp2_with fail
  go_loopw [7] (fun i wr => ∃ k : Nat, k ≤ t.size ∧ i = .int .i64 k ∧ BoxA w0 wr B (comeL ms t k) ∧ Below B w wr) (fun i _ => t.size - (intOf i).toNat)
  case atStart => exact ⟨0, Nat.zero_le _, rfl, h, Below.refl _ _⟩
  case round =>
    obtain ⟨k, hk, rfl, hBx, hb⟩ := hrel
    by_cases hlt : k < t.size
    · have hi1 : (k : Int) < t.size := by omega
      have HC := hidE (HP.out k hlt wr hb hBx)
      rw [List.getD_eq_getElem?_getD, List.getElem?_eq_getElem (by simpa using hlt)] at HC
      go_wp2_with fail
      refine HC.out.mono ?_
      rintro e w2 ⟨rfl, hB2, hb2⟩
      go_wp2_with fail
      go_roundw
      case rel => exact ⟨k + 1, by omega, by go_num, hB2, hb.trans hb2⟩
      case measure => simp [intOf]; omega
    · have hkt : k = t.size := by omega
      subst hkt
      go_wp2_with fail
      go_end0
      exact ⟨rfl, hBx, hb⟩
end Go.Proofs.YtnhjebdlcbhkcacGreat

namespace Go.Proofs.YtnhjebdlcbhkcacGreat
open Go.RowKit

def deepOf (la lb : List (Int × Int)) (many : Int) : Int := max la.length lb.length + (if 1 < many then 2 else 1)

/-- what IsBetween asks of each mark -/
structure BtwAt (la : List (Int × Int)) (ca : Int) (lb : List (Int × Int)) (cb site clock many : Int) (ms : List (List (Int × Int) × Int)) (i : Nat) (h : i < ms.length) : Prop where
  ok : chk ms[i].1 ms[i].2 = 0
  clk : ms[i].2 = clock + i
  site : (lastS ms[i].1).2 = site
  deep : (ms[i].1.length : Int) ≤ deepOf la lb many
  rise : ∀ hi : 0 < i, ordM (ms[i - 1]'(by omega)).1 (ms[i - 1]'(by omega)).2 ms[i].1 ms[i].2 = -1
  above : ¬ (la.length = 0 ∧ ca = 0) → ordM la ca ms[i].1 ms[i].2 = -1
  below : ¬ (lb.length = 0 ∧ cb = 0) → ordM ms[i].1 ms[i].2 lb cb = -1

theorem orderNeg (a a' : Option Addr) (cap cap' : Nat) (l m : List (Int × Int)) (c d : Int) (w : World) (hl : l.length ≤ maxLen) (hm : m.length ≤ maxLen) (h : StepsAt w a l) (h' : StepsAt w a' m) (hn : ordM l c m d = -1) :
    Calls Tryz.prog 51 #[.agg #[.slice a l.length cap, .int .i64 c], .agg #[.slice a' m.length cap', .int .i64 d]] w fun e w' => e = .returned (.int .i64 (-1)) ∧ Below w.heap.size w w' := by
  rw [← hn]; exact orderOf_any a a' cap cap' l m c d w hl hm h h'
theorem isNone_is (a : Option Addr) (cap : Nat) (n : Nat) (c : Int) (w : World) (B : Bool) (h : (n == 0 && c == 0) = B) :
    Calls Tryz.prog 94 #[.agg #[.slice a n cap, .int .i64 c]] w fun e w' => e = .returned (.bool B) ∧ Below w.heap.size w w' := by
  rw [← h]; exact isNone_any a cap n c w

end Go.Proofs.YtnhjebdlcbhkcacGreat

namespace Go.Proofs.YtnhjebdlcbhkcacGreat

/-- an order that answers -1, 0 or 1 -/
structure Cmp {α : Type} (f : α → α → Int) : Prop where
  anti : ∀ a b, f a b = - f b a
  vals : ∀ a b, f a b = -1 ∨ f a b = 0 ∨ f a b = 1
  eqv : ∀ a b c, f a b = 0 → f b c = f a c
  trans : ∀ a b c, f a b = -1 → f b c = -1 → f a c = -1

theorem Cmp.refl {α : Type} {f : α → α → Int} (h : Cmp f) (a : α) : f a a = 0 := by have := h.anti a a; omega
theorem Cmp.eqv' {α : Type} {f : α → α → Int} (h : Cmp f) (a b c : α) (e : f b c = 0) : f a b = f a c := by
  have h1 := h.anti a b; have h2 := h.anti a c; have h3 := h.eqv c b a (by have := h.anti c b; omega); omega
theorem Cmp.le_le {α : Type} {f : α → α → Int} (h : Cmp f) {a b c : α} (x : f a b ≤ 0) (y : f b c ≤ 0) : f a c ≤ 0 := by
  rcases h.vals a b with e | e | e
  · rcases h.vals b c with e2 | e2 | e2
    · have := h.trans a b c e e2; omega
    · have := h.eqv' a b c e2; omega
    · omega
  · have := h.eqv a b c e; omega
  · omega
theorem Cmp.le_lt {α : Type} {f : α → α → Int} (h : Cmp f) {a b c : α} (x : f a b ≤ 0) (y : f b c < 0) : f a c < 0 := by
  rcases h.vals a b with e | e | e
  · rcases h.vals b c with e2 | e2 | e2
    · have := h.trans a b c e e2; omega
    · omega
    · omega
  · have := h.eqv a b c e; omega
  · omega
theorem Cmp.lt_le {α : Type} {f : α → α → Int} (h : Cmp f) {a b c : α} (x : f a b < 0) (y : f b c ≤ 0) : f a c < 0 := by
  rcases h.vals a b with e | e | e
  · rcases h.vals b c with e2 | e2 | e2
    · have := h.trans a b c e e2; omega
    · have := h.eqv' a b c e2; omega
    · omega
  · omega
  · omega

theorem ordI_vals (a b : Int) : ordI a b = -1 ∧ a < b ∨ ordI a b = 0 ∧ a = b ∨ ordI a b = 1 ∧ b < a := by
  unfold ordI; split
  · left; exact ⟨rfl, by omega⟩
  · split
    · right; right; exact ⟨rfl, by omega⟩
    · right; left; exact ⟨rfl, by omega⟩
theorem cmpI : Cmp ordI := by
  refine ⟨fun a b => ?_, fun a b => ?_, fun a b c h => ?_, fun a b c h h' => ?_⟩
  · have := ordI_vals a b; have := ordI_vals b a; omega
  · have := ordI_vals a b; omega
  · have h1 := ordI_vals a b; have : a = b := by omega
    rw [this]
  · have := ordI_vals a b; have := ordI_vals b c; have := ordI_vals a c; omega
theorem cmpLex {α β : Type} {f : α → α → Int} {g : β → β → Int} (hf : Cmp f) (hg : Cmp g) : Cmp (fun (x y : α × β) => orI (f x.1 y.1) (g x.2 y.2)) := by
  refine ⟨fun a b => ?_, fun a b => ?_, fun a b c h => ?_, fun a b c h h' => ?_⟩
  · have h1 := hf.anti a.1 b.1; have h2 := hg.anti a.2 b.2
    simp only [orI]; split <;> split <;> omega
  · have h1 := hf.vals a.1 b.1; have h2 := hg.vals a.2 b.2
    simp only [orI]; split <;> omega
  · simp only [orI] at h ⊢
    split at h
    · rename_i e
      have h1 := hf.eqv _ _ c.1 e; have h2 := hg.eqv _ _ c.2 h
      rw [h1, h2]
    · rename_i e; exact absurd h e
  · simp only [orI] at h h' ⊢
    split at h
    · rename_i e
      have h1 := hf.eqv _ _ c.1 e
      rw [← h1]
      split at h'
      · rename_i e2; rw [if_pos e2]; exact hg.trans _ _ _ h h'
      · rename_i e2; rw [if_neg e2]; exact h'
    · split at h'
      · rename_i e e2
        have h1 := hf.eqv' a.1 _ _ e2
        rw [← h1, if_neg e]; exact h
      · have h1 := hf.trans _ _ _ h h'
        rw [if_neg (by omega)]; exact h1
theorem cmpS : Cmp ordS := cmpLex cmpI cmpI
theorem cmpP : Cmp ordP := by
  refine ⟨fun a => ?_, fun a => ?_, fun a => ?_, fun a => ?_⟩
  · induction a with
    | nil => intro b; cases b <;> rfl
    | cons s a ih =>
      intro b
      cases b with
      | nil => rfl
      | cons t b =>
        have h1 := cmpS.anti s t
        have h2 := ih b
        simp only [ordP]
        split <;> split <;> omega
  · induction a with
    | nil => intro b; cases b <;> simp [ordP]
    | cons s a ih =>
      intro b
      cases b with
      | nil => simp [ordP]
      | cons t b =>
        have h1 := cmpS.vals s t
        have h2 := ih b
        simp only [ordP]
        split <;> omega
  · induction a with
    | nil =>
      intro b c h
      cases b with
      | nil => rfl
      | cons t b => simp [ordP] at h
    | cons s a ih =>
      intro b c h
      cases b with
      | nil => simp [ordP] at h
      | cons t b =>
        simp only [ordP] at h
        split at h
        · rename_i e
          cases c with
          | nil => rfl
          | cons u c =>
            have h1 := cmpS.eqv _ _ u e
            have h2 := ih b c h
            simp only [ordP]
            rw [h1, h2]
        · rename_i e; exact absurd h e
  · induction a with
    | nil =>
      intro b c h h'
      cases b with
      | nil => exact h'
      | cons t b =>
        cases c with
        | nil => simp [ordP] at h'
        | cons u c => rfl
    | cons s a ih =>
      intro b c h h'
      cases b with
      | nil => simp [ordP] at h
      | cons t b =>
        cases c with
        | nil => simp [ordP] at h'
        | cons u c =>
          simp only [ordP] at h h' ⊢
          split at h
          · rename_i e
            have h1 := cmpS.eqv _ _ u e
            rw [← h1]
            split at h'
            · rename_i e2; rw [if_pos e2]; exact ih b c h h'
            · rename_i e2; rw [if_neg e2]; exact h'
          · split at h'
            · rename_i e e2
              have h1 := cmpS.eqv' s _ _ e2
              rw [← h1, if_neg e]; exact h
            · have h1 := cmpS.trans _ _ _ h h'
              rw [if_neg (by omega)]; exact h1
theorem cmpM : Cmp (fun (x y : List (Int × Int) × Int) => ordM x.1 x.2 y.1 y.2) := cmpLex cmpP cmpI

theorem ordS_zero_iff (s t : Int × Int) : ordS s t = 0 ↔ s = t := by
  have h1 := ordI_vals s.1 t.1; have h2 := ordI_vals s.2 t.2
  constructor
  · intro h
    unfold ordS orI at h
    split at h
    · exact Prod.ext (by omega) (by omega)
    · omega
  · rintro rfl; exact cmpS.refl s
theorem ordP_zero {a : List (Int × Int)} : ∀ {b}, ordP a b = 0 → a = b := by
  induction a with
  | nil => intro b h; cases b with
    | nil => rfl
    | cons t b => simp [ordP] at h
  | cons s a ih => intro b h; cases b with
    | nil => simp [ordP] at h
    | cons t b =>
      simp only [ordP] at h
      split at h
      · rename_i e; rw [(ordS_zero_iff s t).1 e, ih h]
      · rename_i e; exact absurd h e
theorem ordP_same (p : List (Int × Int)) (l m : List (Int × Int)) : ordP (p ++ l) (p ++ m) = ordP l m := by
  induction p with
  | nil => rfl
  | cons s p ih => simp only [List.cons_append, ordP]; rw [if_pos (cmpS.refl s), ih]
theorem ordP_one {s t : Int × Int} (l m : List (Int × Int)) (h : ordS s t = -1) : ordP (s :: l) (t :: m) = -1 := by
  simp only [ordP]; rw [if_neg (by omega)]; exact h
theorem ordS_of {s t : Int × Int} (h : s.1 < t.1 ∨ s.1 = t.1 ∧ s.2 < t.2) : ordS s t = -1 := by
  have h1 := ordI_vals s.1 t.1; have h2 := ordI_vals s.2 t.2
  unfold ordS orI; split <;> omega
theorem ordM_of {l m : List (Int × Int)} {c d : Int} (h : ordP l m = -1) : ordM l c m d = -1 := by
  unfold ordM orI; rw [if_neg (by omega)]; exact h

end Go.Proofs.YtnhjebdlcbhkcacGreat

namespace Go.Proofs.YtnhjebdlcbhkcacGreat

theorem beg_in {l : List (Int × Int)} {n : Nat} (h : n ≤ l.length) : beg l n = l.take n := by
  unfold beg; rw [show n - l.length = 0 by omega]; simp
theorem beg_cons (s : Int × Int) (l : List (Int × Int)) (n : Nat) : beg (s :: l) (n + 1) = s :: beg l n := by
  unfold beg; simp

/-- behind a: with a digit that is behind a's own, or with all of a at the beginning -/
theorem above_cut {la : List (Int × Int)} {n : Nat} {d site : Int} (hn : n < la.length) (h : lowB la[n] site ≤ d) : ordP la (la.take n ++ [(d, site)]) = -1 := by
  have e : la = la.take n ++ la[n] :: la.drop (n + 1) := by rw [← List.drop_eq_getElem_cons hn, List.take_append_drop]
  have : ordP (la.take n ++ la[n] :: la.drop (n + 1)) (la.take n ++ [(d, site)]) = -1 := by
    rw [ordP_same]
    refine ordP_one _ _ (ordS_of ?_)
    unfold lowB at h
    simp only
    split at h <;> omega
  rwa [← e] at this
theorem below_cut {lb : List (Int × Int)} {n : Nat} {d site : Int} (hn : n < lb.length) (h : d ≤ highA lb[n] site) : ordP (lb.take n ++ [(d, site)]) lb = -1 := by
  have e : lb = lb.take n ++ lb[n] :: lb.drop (n + 1) := by rw [← List.drop_eq_getElem_cons hn, List.take_append_drop]
  have : ordP (lb.take n ++ [(d, site)]) (lb.take n ++ lb[n] :: lb.drop (n + 1)) = -1 := by
    rw [ordP_same]
    refine ordP_one _ _ (ordS_of ?_)
    unfold highA at h
    simp only
    split at h <;> omega
  rwa [← e] at this
theorem above_long {la : List (Int × Int)} {n : Nat} {x : Int × Int} (hn : la.length ≤ n) : ordP la (beg la n ++ [x]) = -1 := by
  unfold beg
  rw [List.take_of_length_le hn, List.append_assoc]
  have := ordP_same la [] (List.replicate (n - la.length) (0, 0) ++ [x])
  rw [List.append_nil] at this
  rw [this]
  cases h : List.replicate (n - la.length) ((0 : Int), (0 : Int)) ++ [x] with
  | nil => simp at h
  | cons s l => rfl
theorem above_other {la : List (Int × Int)} : ∀ {lb : List (Int × Int)} {n : Nat} {x : Int × Int}, ordP la lb = -1 → ¬ (n < la.length ∧ la.take n = lb.take n) → ordP la (lb.take n ++ [x]) = -1 := by
  induction la with
  | nil =>
    intro lb n x _ _
    cases h : lb.take n ++ [x] with
    | nil => simp at h
    | cons s l => rfl
  | cons s la ih =>
    intro lb n x h hno
    cases n with
    | zero => exact absurd ⟨by simp, by simp⟩ hno
    | succ n =>
      cases lb with
      | nil => simp [ordP] at h
      | cons t lb =>
        simp only [ordP] at h
        simp only [List.take_succ_cons, List.cons_append, ordP]
        split at h
        · rename_i e
          rw [if_pos e]
          have e2 := (ordS_zero_iff s t).1 e
          refine ih h (fun ⟨h1, h2⟩ => hno ⟨by simpa using h1, by simp [e2, h2]⟩)
        · rename_i e; rw [if_neg e]; exact h
theorem below_zeros : ∀ {m : Nat} {lb : List (Int × Int)} {x : Int × Int}, 0 < lb.length → m ≤ lb.length → okSteps lb = true → (lastS lb).1 ≠ 0 → ¬ (m < lb.length ∧ lb.take m = List.replicate m (0, 0)) → ordP (List.replicate m (0, 0) ++ [x]) lb = -1 := by
  intro m
  induction m with
  | zero => intro lb x h0 _ _ _ hno; exact absurd ⟨h0, by simp⟩ hno
  | succ m ih =>
    intro lb x h0 hm hok hlast hno
    cases lb with
    | nil => simp at h0
    | cons t lb =>
      simp only [List.replicate_succ, List.cons_append, ordP]
      have ht := okStep_iff.1 (okSteps_get hok (i := 0) (by simp))
      simp only [List.getElem_cons_zero] at ht
      by_cases e : t = (0, 0)
      · rw [if_pos ((ordS_zero_iff _ _).2 e.symm)]
        have hlb : 0 < lb.length := by
          rcases Nat.eq_zero_or_pos lb.length with h | h
          · rw [List.eq_nil_of_length_eq_zero h, e] at hlast; simp [lastS] at hlast
          · exact h
        refine ih hlb (by simpa using hm) (okSteps_true fun j hj => by have := okSteps_get hok (i := j + 1) (by simpa using hj); simpa using this) ?_ (fun ⟨h1, h2⟩ => hno ⟨by simpa using h1, by simp [h2, e, List.replicate_succ]⟩)
        rw [lastS_eq hlb]
        rw [lastS_eq h0] at hlast
        simp only [List.length_cons] at hlast
        have e3 : lb.length + 1 - 1 = (lb.length - 1) + 1 := by omega
        simp only [e3, List.getElem_cons_succ] at hlast
        exact hlast
      · rw [if_neg (fun h => e ((ordS_zero_iff _ _).1 h).symm)]
        refine ordS_of ?_
        have : ¬ (t.1 = 0 ∧ t.2 = 0) := fun h => e (Prod.ext h.1 h.2)
        simp only
        omega
theorem below_beg {la : List (Int × Int)} : ∀ {lb : List (Int × Int)} {n : Nat} {x : Int × Int}, ordP la lb = -1 → n ≤ max la.length lb.length → okSteps lb = true → (lastS lb).1 ≠ 0 → ¬ (n < lb.length ∧ lb.take n = beg la n) → ordP (beg la n ++ [x]) lb = -1 := by
  induction la with
  | nil =>
    intro lb n x h hn hok hlast hno
    have h0 : 0 < lb.length := by
      cases lb with
      | nil => simp [ordP] at h
      | cons t lb => simp
    have e : beg [] n = List.replicate n (0, 0) := by unfold beg; simp
    rw [e] at hno ⊢
    exact below_zeros h0 (by simpa using hn) hok hlast hno
  | cons s la ih =>
    intro lb n x h hn hok hlast hno
    cases lb with
    | nil => simp [ordP] at h
    | cons t lb =>
      cases n with
      | zero => exact absurd ⟨by simp, by simp [beg]⟩ hno
      | succ n =>
        simp only [ordP] at h
        rw [beg_cons] at hno ⊢
        simp only [List.cons_append, ordP]
        split at h
        · rename_i e
          rw [if_pos e]
          have e2 := (ordS_zero_iff s t).1 e
          have h0 : 0 < lb.length := by
            cases lb with
            | nil => cases la <;> simp [ordP] at h
            | cons _ _ => simp
          refine ih h (by simp at hn; omega) (okSteps_true fun j hj => by have := okSteps_get hok (i := j + 1) (by simpa using hj); simpa using this) ?_ (fun ⟨h1, h2⟩ => hno ⟨by simpa using h1, by simp [e2, h2]⟩)
          rw [lastS_eq h0]
          rw [lastS_eq (by simp)] at hlast
          simp only [List.length_cons] at hlast
          have e3 : lb.length + 1 - 1 = (lb.length - 1) + 1 := by omega
          simp only [e3, List.getElem_cons_succ] at hlast
          exact hlast
        · rename_i e; rw [if_neg e]; exact h
end Go.Proofs.YtnhjebdlcbhkcacGreat
