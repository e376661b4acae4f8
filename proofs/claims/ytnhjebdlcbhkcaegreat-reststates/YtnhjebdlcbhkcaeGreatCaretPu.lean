/- Contract of edit.Put. -/
import Derived.Test.YtnhjebdlcbhkcaeGreatMarksOf
import Derived.Test.YtnhjebdlcbhkcaeGreatDeedE
import Derived.Test.YtnhjebdlcbhkcaeGreatEditP
import Derived.Test.YtnhjebdlcbhkcaeGreatRunsC
import Derived.Test.YtnhjebdlcbhkcaeGreatStateCk
namespace Go.Proofs.YtnhjebdlcbhkcaeGreat
open Go.RowKit

def putEr (l : List At) (g : List (List (Int × Int) × Int)) (n : Int) (t : ByteArray) (site clock : Int) : Int :=
  if putCk l g n t site clock ≠ 0 then putCk l g n t site clock else btwErr (aheadM l n.toNat).1 (aheadM l n.toNat).2 (behindM l n.toNat).1 (behindM l n.toNat).2 site clock t.size

def EPutGives (w : World) (l : List At) (g : List (List (Int × Int) × Int)) (n : Int) (t : ByteArray) (site clock : Int) (e : Ending) (w' : World) : Prop :=
  Below w.heap.size w w' ∧
  ((putEr l g n t site clock ≠ 0 ∧ e = .returned (.tuple #[.slice none 0 0, .int .i64 (putEr l g n t site clock)])) ∨
   (putEr l g n t site clock = 0 ∧ ∃ ax p k, PutAs l g n.toNat t site clock ax ∧ e = .returned (.tuple #[.slice p (runsL ax).length k, .int .i64 0]) ∧ DeedsAt w' p ((runsL ax).map putDd)))

def EPutGivesS (w : World) (l : List At) (g : List (List (Int × Int) × Int)) (n : Int) (t : ByteArray) (site clock : Int) (e : Ending) (w' : World) : Prop :=
  Below w.heap.size w w' ∧
  ((putEr l g n t site clock ≠ 0 ∧ e = .returned (.tuple #[.slice none 0 0, .int .i64 (putEr l g n t site clock)])) ∨
   (putEr l g n t site clock = 0 ∧ ∃ ax p k, PutAs l g n.toNat t site clock ax ∧ e = .returned (.tuple #[.slice p (runsL ax).length k, .int .i64 0]) ∧ DeedsAt w' p ((runsL ax).map putDd) ∧ ShD w' w.heap.size p (runsL ax).length))

theorem putCk_zero {l : List At} {g : List (List (Int × Int) × Int)} {n : Int} {t : ByteArray} {site clock : Int} (h : putCk l g n t site clock = 0) : OkS l g ∧ 0 ≤ n ∧ n ≤ l.length ∧ usedS site clock l g = false ∧ t.size ≤ 60 ∧ l.length + t.size ≤ 300 ∧ 0 < t.size ∧ allS t.data.toList = true := by
  unfold putCk at h
  by_cases h1 : chkS l g = 0
  rotate_left
  · rw [if_pos h1] at h; exact absurd h h1
  rw [if_neg (by simpa using h1)] at h
  cases h2 : inB n 0 l.length
  · rw [if_pos h2] at h; exact absurd h (by decide)
  rw [if_neg (by rw [h2]; decide)] at h
  cases h3 : usedS site clock l g
  case true => rw [if_pos h3] at h; exact absurd h (by decide)
  rw [if_neg (by rw [h3]; decide)] at h
  by_cases h4 : 60 < t.size ∨ 300 < l.length + t.size
  · rw [if_pos h4] at h; exact absurd h (by decide)
  rw [if_neg h4] at h
  by_cases h5 : t.size = 0
  · rw [if_pos h5] at h; exact absurd h (by decide)
  rw [if_neg h5] at h
  cases h6 : allS t.data.toList
  · rw [if_pos h6] at h; exact absurd h (by decide)
  have h7 : 0 ≤ n ∧ n ≤ l.length := by simpa [inB] using h2
  exact ⟨okS_of h1, h7.1, h7.2, rfl, by omega, by omega, by omega, rfl⟩

theorem owns_max {w : World} {base : Nat} {e : TypeId} {size : Nat} {p : Option Addr} {n c m : Nat} {xs : List Value} (h : w.ownsRow base e size (.slice p n c) m xs) : c ≤ maxLen := by
  rcases h.2 with ⟨h1, h0⟩ | ⟨g, cap, cur, h1, _, _, _, hc, _⟩
  · simp at h1; rw [h1.2.2]; exact Nat.zero_le _
  · simp at h1; omega

set_option maxRecDepth 100000 in
set_option maxHeartbeats 4000000 in
theorem editPut_anyS (a b : Option Addr) (cap cap' : Nat) (l : List At) (g : List (List (Int × Int) × Int)) (n : Int) (t : ByteArray) (site clock : Int) (w : World) (hl : l.length ≤ maxLen) (ht : t.size ≤ maxLen) (h : AtomsAt w a l) (h' : MarksAt w b g) :
    Calls Tryz.prog 25 #[.agg #[.slice a l.length cap, .slice b g.length cap'], .int .i64 n, .string t, .int .i64 site, .int .i64 clock] w (EPutGivesS w l g n t site clock) := by
  have hB := (Below.refl w.heap.size w).alloc (Nat.le_refl _) (Obj.cells #[.slice a l.length cap, .slice b g.length cap'] 25)
  have q0 : (w.alloc (Obj.cells #[.slice a l.length cap, .slice b g.length cap'] 25)).cell? ⟨w.heap.size, 0, none⟩ = some (.slice a l.length cap) := by simp
  have q1 : (w.alloc (Obj.cells #[.slice a l.length cap, .slice b g.length cap'] 25)).cell? ⟨w.heap.size, 1, none⟩ = some (.slice b g.length cap') := by simp
  have z : w.heap.size < (w.alloc (Obj.cells #[.slice a l.length cap, .slice b g.length cap'] 25)).heap.size := by simp
  replace h := h.below hB (Nat.le_refl _)
  replace h' := h'.below hB (Nat.le_refl _)
  go_enter Tryz.func25, Tryz.ntmps25
  go_upto_region 1 with fail
  generalize w.alloc (Obj.cells #[.slice a l.length cap, .slice b g.length cap'] 25) = W at hB q0 q1 z h h' ⊢
  generalize hzz : w.heap.size = Z at hB q0 q1 z ⊢
  have HZ := hidE hzz
  clear hzz
  have HC := hidE (editCheckPut_any a b cap cap' l g n t site clock W hl ht h h')
  go_wp2_with fail
  refine HC.out.mono ?_
  rintro e w1 ⟨rfl, hb⟩
  replace q0 := (hb.cell (p := ⟨Z, 0, none⟩) z).trans q0
  replace h := h.below hb (Nat.le_refl _)
  replace hB := hB.thru hb (Nat.le_of_lt z)
  replace z := Nat.lt_of_lt_of_le z hb.size
  clear HC h' q1 hb
  by_cases hS : putCk l g n t site clock = 0
  case neg =>
    have HE : Hid (putEr l g n t site clock = putCk l g n t site clock) := by show _ = _; unfold putEr; rw [if_pos hS]
    have HN := hidE hS
    have hcb : (putCk l g n t site clock != 0) = true := by rw [bne_iff_ne]; exact hS
    generalize putCk l g n t site clock = er at *
    clear hS
    go_wp2_with fail
    go_ret2
    rw [← HZ.out] at hB
    exact ⟨hB, Or.inl ⟨by rw [HE.out]; exact HN.out, by rw [HE.out]; rfl⟩⟩
  obtain ⟨hok, hn0, hnl, hus, h60, h300, ht0, hsg⟩ := putCk_zero hS
  obtain ⟨k, rfl⟩ : ∃ k : Nat, n = k := ⟨n.toNat, by omega⟩
  have HE : Hid (putEr l g k t site clock = btwErr (aheadM l k).1 (aheadM l k).2 (behindM l k).1 (behindM l k).2 site clock t.size) := by show _ = _; unfold putEr; rw [if_neg (by simpa using hS), Int.toNat_natCast]
  rw [hS]
  clear hS
  have hkl : k ≤ l.length := by omega
  have HAR := hidE (around_any a cap l k w1 hkl hok.atoms.len h)
  have HPA := hidE (fun (pl : List (Int × Int)) (r : Int) => putAs_of (pl := pl) (r := r) hok hkl hus hsg h60)
  clear h hok hus hsg hl ht hn0 hnl hkl
  go_wp2_with fail
  refine HAR.out.mono ?_
  rintro e w2 ⟨p, c, q, d, rfl, hsa, hsb, hac, hbd, ham, hbm, hb2⟩
  have hB2 := hB.trans (hb2.mono (Nat.le_of_lt z))
  clear hB HAR q0
  have z2 := Nat.lt_of_lt_of_le z hb2.size
  clear z hb2
  generalize (aheadM l k).1 = la at *
  generalize (aheadM l k).2 = ca at *
  generalize (behindM l k).1 = lb at *
  generalize (behindM l k).2 = cb at *
  have hbA := ((Below.refl w2.heap.size w2).alloc (Nat.le_refl _) (Obj.cells #[.slice p la.length c, .int .i64 ca] 42)).alloc (by simp) (Obj.cells #[.slice q lb.length d, .int .i64 cb] 42)
  have HBT := hidE (between_fnC p q c d la lb ca cb site clock t.size _ ham hbm hac hbd (hsa.below hbA (Nat.le_refl _)) (hsb.below hbA (Nat.le_refl _)))
  have hB3 := hB2.trans (hbA.mono (by have := hB2.size; omega))
  clear hsa hsb ham hbm hac hbd
  go_wp2_with fail
  refine HBT.out.mono ?_
  rintro e w3 ⟨hb3, ⟨hne, rfl⟩ | ⟨h0, O, pl, r, rfl, hmk, hcp, hcand, hr1, hr2⟩⟩
  · have HN := hidE hne
    have hcb : (btwErr la ca lb cb site clock t.size != 0) = true := by rw [bne_iff_ne]; exact hne
    generalize ((w2.alloc (Obj.cells #[.slice p la.length c, .int .i64 ca] 42)).alloc (Obj.cells #[.slice q lb.length d, .int .i64 cb] 42)) = wb at hb3 hB3 hbA
    clear HBT HPA hne
    generalize btwErr la ca lb cb site clock t.size = er at *
    have hB4 := hB3.trans (hb3.mono (by have := hbA.size; omega))
    have hB5 := (hB4.alloc (by have := hbA.size; have := hb3.size; omega) (Obj.cells #[.slice none 0 0] 23))
    go_wp2_with fail
    go_ret2
    rw [← HZ.out] at hB5
    exact ⟨hB5, Or.inl ⟨by rw [HE.out]; exact HN.out, by rw [HE.out]; rfl⟩⟩
  · generalize ((w2.alloc (Obj.cells #[.slice p la.length c, .int .i64 ca] 42)).alloc (Obj.cells #[.slice q lb.length d, .int .i64 cb] 42)) = wb at hb3 hB3 hbA
    have HA := hidE (HPA.out pl r h0 hcand hr1 hr2)
    have HE2 : Hid (putEr l g k t site clock = 0) := by show _ = _; rw [HE.out, h0]
    rw [Int.toNat_natCast] at hmk hcp
    have hml := rowOf_length pl r site clock t.size
    have hB4 := hB3.trans (hb3.mono (by have := hbA.size; omega))
    have z3 : Z < w3.heap.size := by have := hbA.size; have := hb3.size; omega
    clear HBT HPA HE h0 hcand hr1 hr2 hb3 hB3 hbA hB2 z2
    generalize hmm : (t.size : Int).toNat = m at *
    have hmt : m = t.size := by rw [← hmm, Int.toNat_natCast]
    clear hmm
    subst hmt
    have HAC : Hid ((comeL (rowOf pl r site clock t.size) t t.size).length = t.size) := hidE (comeL_len _ _ _)
    generalize rowOf pl r site clock t.size = ms at *
    go_upto_region 9 with fail
    have hb5 := ((Below.refl w3.heap.size w3).alloc (Nat.le_refl _) (Obj.cells #[.slice (some ⟨O, 0, none⟩) t.size t.size] 23)).alloc (by simp) (Obj.cells #[.slice none 0 0] 22)
    have q1 : ((w3.alloc (Obj.cells #[.slice (some ⟨O, 0, none⟩) t.size t.size] 23)).alloc (Obj.cells #[.slice none 0 0] 22)).cell? ⟨w3.heap.size, 0, none⟩ = some (.slice (some ⟨O, 0, none⟩) t.size t.size) := by go_simp
    have hBX : BoxA w3 ((w3.alloc (Obj.cells #[.slice (some ⟨O, 0, none⟩) t.size t.size] 23)).alloc (Obj.cells #[.slice none 0 0] 22)) (w3.heap.size + 1) [] :=
      ⟨⟨none, 0, by go_simp, OwnsA.nil _ _ _⟩, by go_simp, by simp⟩
    have hB6 : Below Z w ((w3.alloc (Obj.cells #[.slice (some ⟨O, 0, none⟩) t.size t.size] 23)).alloc (Obj.cells #[.slice none 0 0] 22)) := hB4.trans (hb5.mono (Nat.le_of_lt z3))
    generalize (w3.alloc (Obj.cells #[.slice (some ⟨O, 0, none⟩) t.size t.size] 23)).alloc (Obj.cells #[.slice none 0 0] 22) = w5 at hb5 q1 hBX hB6 ⊢
    have HEP := hidE (eachPut_any w3 (w3.heap.size + 1) w3.heap.size O t.size t.size ms t w5 hml.symm (by omega) (by omega) hmk hcp hb5 (by omega) (by omega) q1 hBX)
    clear hmk hcp hBX q1 hml hB4
    go_wp2_with fail
    refine HEP.out.mono ?_
    rintro e w6 ⟨rfl, hBX, hb6⟩
    clear HEP
    have hB7 : Below Z w w6 := hB6.trans (hb6.mono (by omega))
    have hb36 : Below w3.heap.size w3 w6 := hb5.trans (hb6.mono (by omega))
    obtain ⟨⟨pa, cc, hcc, hown⟩, hf, hlt⟩ := hBX
    obtain ⟨pa', cc', e, hat, hle⟩ := hown.atoms hb36
    obtain ⟨rfl, rfl⟩ : pa = pa' ∧ cc = cc' := by simpa using e
    obtain ⟨rs, hrl, hown', hrr⟩ := hown
    have hmx := owns_max hown'
    have HD := hidE (putR_eachS pa cc (comeL ms t t.size) w6 hle hmx hat (okL_chk HA.out.ok))
    rw [HAC.out] at HD hcc
    clear hown' hrr hrl hat hle hmx e HAC hb5 hb6 hB6
    generalize comeL ms t t.size = ax at *
    go_wp2_with fail
    refine HD.out.mono ?_
    rintro e w7 ⟨p2, k2, rfl, hda, hb7, hsd⟩
    have HSD := hidE (hsd.mono hB7.size)
    clear hsd
    have hB8 : Below Z w w7 := hB7.trans (hb7.mono (by have := hb36.size; omega))
    go_wp2_with fail
    go_ret2
    rw [← HZ.out] at hB8
    refine ⟨hB8, Or.inr ⟨HE2.out, ax, p2, k2, ?_, rfl, hda, HSD.out⟩⟩
    rw [Int.toNat_natCast]
    exact HA.out

theorem editPut_any (a b : Option Addr) (cap cap' : Nat) (l : List At) (g : List (List (Int × Int) × Int)) (n : Int) (t : ByteArray) (site clock : Int) (w : World) (hl : l.length ≤ maxLen) (ht : t.size ≤ maxLen) (h : AtomsAt w a l) (h' : MarksAt w b g) :
    Calls Tryz.prog 25 #[.agg #[.slice a l.length cap, .slice b g.length cap'], .int .i64 n, .string t, .int .i64 site, .int .i64 clock] w (EPutGives w l g n t site clock) :=
  (editPut_anyS a b cap cap' l g n t site clock w hl ht h h').mono fun _ _ ⟨hb, hr⟩ => ⟨hb, hr.imp id fun ⟨h0, ax, p, k, e1, e, hd, _⟩ => ⟨h0, ax, p, k, e1, e, hd⟩⟩
end Go.Proofs.YtnhjebdlcbhkcaeGreat

namespace Go.Proofs.YtnhjebdlcbhkcaeGreat
open Go.RowKit

def cutErr (l : List At) (g : List (List (Int × Int) × Int)) (n m : Int) : Int := if chkS l g ≠ 0 then chkS l g else if pieceB n m l.length = false then 3 else 0

def CutGives (w : World) (l : List At) (g : List (List (Int × Int) × Int)) (n m : Int) (e : Ending) (w' : World) : Prop :=
  Below w.heap.size w w' ∧
  ((cutErr l g n m ≠ 0 ∧ e = .returned (.tuple #[.slice none 0 0, .int .i64 (cutErr l g n m)])) ∨
   (cutErr l g n m = 0 ∧ ∃ p k, e = .returned (.tuple #[.slice p (runsL (part l n.toNat m.toNat)).length k, .int .i64 0]) ∧ DeedsAt w' p ((runsL (part l n.toNat m.toNat)).map takeDd)))

def CutGivesS (w : World) (l : List At) (g : List (List (Int × Int) × Int)) (n m : Int) (e : Ending) (w' : World) : Prop :=
  Below w.heap.size w w' ∧
  ((cutErr l g n m ≠ 0 ∧ e = .returned (.tuple #[.slice none 0 0, .int .i64 (cutErr l g n m)])) ∨
   (cutErr l g n m = 0 ∧ ∃ p k, e = .returned (.tuple #[.slice p (runsL (part l n.toNat m.toNat)).length k, .int .i64 0]) ∧ DeedsAt w' p ((runsL (part l n.toNat m.toNat)).map takeDd) ∧ ShD w' w.heap.size p (runsL (part l n.toNat m.toNat)).length))

set_option maxRecDepth 100000 in
set_option maxHeartbeats 2000000 in
theorem editTake_anyS (a b : Option Addr) (cap cap' : Nat) (l : List At) (g : List (List (Int × Int) × Int)) (n m : Int) (w : World) (hl : l.length ≤ maxLen) (hcap : l.length ≤ cap) (hcm : cap ≤ maxLen) (hmn : m ≤ 9223372036854775807) (h : AtomsAt w a l) (h' : MarksAt w b g) :
    Calls Tryz.prog 26 #[.agg #[.slice a l.length cap, .slice b g.length cap'], .int .i64 n, .int .i64 m] w (CutGivesS w l g n m) := by
  have hB := (Below.refl w.heap.size w).alloc (Nat.le_refl _) (Obj.cells #[.slice a l.length cap, .slice b g.length cap'] 25)
  have q0 : (w.alloc (Obj.cells #[.slice a l.length cap, .slice b g.length cap'] 25)).cell? ⟨w.heap.size, 0, none⟩ = some (.slice a l.length cap) := by simp
  have q1 : (w.alloc (Obj.cells #[.slice a l.length cap, .slice b g.length cap'] 25)).cell? ⟨w.heap.size, 1, none⟩ = some (.slice b g.length cap') := by simp
  have z : w.heap.size < (w.alloc (Obj.cells #[.slice a l.length cap, .slice b g.length cap'] 25)).heap.size := by simp
  replace h := h.below hB (Nat.le_refl _)
  replace h' := h'.below hB (Nat.le_refl _)
  go_enter Tryz.func26, Tryz.ntmps26
  go_upto_region 1 with fail
  generalize w.alloc (Obj.cells #[.slice a l.length cap, .slice b g.length cap'] 25) = W at hB q0 q1 z h h' ⊢
  generalize hzz : w.heap.size = Z at hB q0 q1 z ⊢
  have HZ := hidE hzz
  clear hzz
  have HC := hidE (stateCheck_any a b cap cap' l g W hl h h')
  go_wp2_with fail
  refine HC.out.mono ?_
  rintro e w1 ⟨rfl, hb⟩
  replace q0 := (hb.cell (p := ⟨Z, 0, none⟩) z).trans q0
  replace h := h.below hb (Nat.le_refl _)
  replace hB := hB.thru hb (Nat.le_of_lt z)
  clear HC h' q1 hb z
  by_cases hS : chkS l g = 0
  case neg =>
    have HE : Hid (cutErr l g n m = chkS l g) := by show _ = _; unfold cutErr; rw [if_pos hS]
    have HN := hidE hS
    have hcb : (chkS l g != 0) = true := by rw [bne_iff_ne]; exact hS
    generalize chkS l g = er at *
    clear hS
    go_wp2_with fail
    go_ret2
    rw [← HZ.out] at hB
    exact ⟨hB, Or.inl ⟨by rw [HE.out]; exact HN.out, by rw [HE.out]; rfl⟩⟩
  have h0 : chkL l = 0 := by
    by_cases e : chkL l = 0
    · exact e
    · unfold chkS at hS; rw [if_pos e] at hS; exact absurd hS e
  have ok := okL_of h0
  have hl300 := ok.len
  rw [hS]
  cases hp : pieceB n m l.length
  · have HE : Hid (cutErr l g n m = 3) := by show _ = _; unfold cutErr; rw [if_neg (by simpa using hS), if_pos hp]
    have HP := hidE hp
    clear hp hS h0 ok
    go_wp2_with (go_at_call 86; refine (isPiece_any _ _ _ _ (by omega) hmn).mono ?_; rintro e w' ⟨rfl, hw⟩; replace hw := hw.symm; subst hw; rw [HP.out])
    go_ret2
    rw [← HZ.out] at hB
    exact ⟨hB, Or.inl ⟨by rw [HE.out]; decide, by rw [HE.out]; rfl⟩⟩
  have HS1 : Hid (w.heap.size ≤ w1.heap.size) := hB.size
  have HE : Hid (cutErr l g n m = 0) := by show _ = _; unfold cutErr; rw [if_neg (by simpa using hS), if_neg (by rw [hp]; decide)]
  have HP := hidE hp
  have hn : 0 ≤ n ∧ 0 ≤ m ∧ n + m ≤ l.length := by simp [pieceB] at hp; omega
  clear hp hS
  obtain ⟨k, rfl⟩ : ∃ k : Nat, n = k := ⟨n.toNat, by omega⟩
  obtain ⟨j, rfl⟩ : ∃ j : Nat, m = j := ⟨m.toNat, by omega⟩
  have hkj : k + j ≤ l.length := by omega
  have hw1 : IntKind.i64.wrap ((k : Int) + j) = ((k + j : Nat) : Int) := by rw [IntKind.wrap_i64] <;> omega
  have hpl := part_len hkj
  have hkp : chkL (part l k j) = 0 := okL_chk (ok.part k j)
  by_cases hj0 : j = 0
  · subst hj0
    have hpl0 : part l k 0 = [] := List.eq_nil_of_length_eq_zero hpl
    have HPL := hidE hpl0
    have HD : Hid (∀ a' c', c' ≤ maxLen → Calls Tryz.prog 84 #[.slice a' 0 c', .func (.func 87) #[] #[]] w1 fun e w' => ∃ p k, e = .returned (.slice p (runsL []).length k) ∧ DeedsAt w' p ((runsL []).map takeDd) ∧ Below w1.heap.size w1 w' ∧ ShD w' w1.heap.size p (runsL []).length) := fun a' c' hc' => takeR_eachS a' c' [] w1 (Nat.zero_le _) hc' (Or.inl rfl) rfl
    have h1 : ((k + 0 : Nat) : Int) = (k : Int) := by omega
    rw [h1] at hw1
    have hcl : k ≤ cap := by omega
    clear ok h0 hpl hpl0 hkp h
    cases a with
    | none =>
      go_wp2_with (first | (go_at_call 86; refine (isPiece_any _ _ _ _ (by omega) hmn).mono ?_; rintro e w' ⟨rfl, hw⟩; replace hw := hw.symm; subst hw; rw [HP.out]))
      refine (HD.out _ _ (by omega)).mono ?_
      rintro e w2 ⟨p, c, rfl, hat, hb2, hsd⟩
      have hB2 := hB.trans (hb2.mono (by rw [← HZ.out]; exact hB.size))
      go_wp2_with fail
      go_ret2
      rw [← HZ.out] at hB2
      refine ⟨hB2, Or.inr ⟨HE.out, ?_⟩⟩
      rw [Int.toNat_natCast, Int.toNat_natCast, HPL.out]
      exact ⟨p, c, rfl, hat, hsd.mono HS1.out⟩
    | some ad =>
      obtain ⟨bb, oo, rg⟩ := ad
      go_wp2_with (first | (go_at_call 86; refine (isPiece_any _ _ _ _ (by omega) hmn).mono ?_; rintro e w' ⟨rfl, hw⟩; replace hw := hw.symm; subst hw; rw [HP.out]))
      all_goals
        refine (HD.out _ _ (by omega)).mono ?_
        rintro e w2 ⟨p, c, rfl, hat, hb2, hsd⟩
        have hB2 := hB.trans (hb2.mono (by rw [← HZ.out]; exact hB.size))
        go_wp2_with fail
        go_ret2
        rw [← HZ.out] at hB2
        refine ⟨hB2, Or.inr ⟨HE.out, ?_⟩⟩
        rw [Int.toNat_natCast, Int.toNat_natCast, HPL.out]
        exact ⟨p, c, rfl, hat, hsd.mono HS1.out⟩
  rcases h with hs | ⟨bb, oo, rfl, hbb, hc⟩
  · exfalso
    rw [hs] at hkj
    simp at hkj
    omega
  have hA : AtomsAt w1 (some ⟨bb, oo + k * 3, none⟩) (part l k j) := AtomsAt.part (Or.inr ⟨bb, oo, rfl, hbb, hc⟩) hkj
  have HD := hidE (takeR_eachS (some ⟨bb, oo + k * 3, none⟩) (cap - k) (part l k j) w1 (by omega) (by omega) hA hkp)
  rw [hpl] at HD
  have hck : ¬ cap = k := by omega
  clear hc hA hkp ok h0 hbb
  obtain ⟨pl, hpq⟩ : ∃ pl, pl = part l k j := ⟨_, rfl⟩
  rw [← hpq] at HD hpl
  have HPQ := hidE hpq
  clear hpq hpl
  go_wp2_with (first | (go_at_call 86; refine (isPiece_any _ _ _ _ (by omega) hmn).mono ?_; rintro e w' ⟨rfl, hw⟩; replace hw := hw.symm; subst hw; rw [HP.out]))
  refine HD.out.mono ?_
  rintro e w2 ⟨p, c, rfl, hat, hb2, hsd⟩
  have hB2 := hB.trans (hb2.mono (by rw [← HZ.out]; exact hB.size))
  go_wp2_with fail
  go_ret2
  rw [← HZ.out] at hB2
  refine ⟨hB2, Or.inr ⟨HE.out, ?_⟩⟩
  rw [Int.toNat_natCast, Int.toNat_natCast, ← HPQ.out]
  exact ⟨p, c, rfl, hat, hsd.mono HS1.out⟩

theorem editTake_any (a b : Option Addr) (cap cap' : Nat) (l : List At) (g : List (List (Int × Int) × Int)) (n m : Int) (w : World) (hl : l.length ≤ maxLen) (hcap : l.length ≤ cap) (hcm : cap ≤ maxLen) (hmn : m ≤ 9223372036854775807) (h : AtomsAt w a l) (h' : MarksAt w b g) :
    Calls Tryz.prog 26 #[.agg #[.slice a l.length cap, .slice b g.length cap'], .int .i64 n, .int .i64 m] w (CutGives w l g n m) :=
  (editTake_anyS a b cap cap' l g n m w hl hcap hcm hmn h h').mono fun _ _ ⟨hb, hr⟩ => ⟨hb, hr.imp id fun ⟨h0, p, k, e, hd, _⟩ => ⟨h0, p, k, e, hd⟩⟩
end Go.Proofs.YtnhjebdlcbhkcaeGreat

namespace Go.Proofs.YtnhjebdlcbhkcaeGreat
open Go.RowKit

def caretN (l : List At) (m : List (Int × Int)) (d : Int) : Nat := l.countP fun x => decide (ordM x.path x.clock m d ≤ 0)

theorem caretN_cut {l : List At} {m : List (Int × Int)} {d : Int} {i : Nat} (hi : i ≤ l.length) (h1 : ∀ t (h : t < l.length), t < i → ordM l[t].path l[t].clock m d ≤ 0) (h2 : ∀ t (h : t < l.length), i ≤ t → 0 < ordM l[t].path l[t].clock m d) : caretN l m d = i := by
  have e1 : (l.take i).countP (fun x => decide (ordM x.path x.clock m d ≤ 0)) = (l.take i).length := by
    rw [List.countP_eq_length]
    intro x hx
    obtain ⟨j, hj, rfl⟩ := List.getElem_of_mem hx
    have hj' : j < i ∧ j < l.length := by simp at hj; omega
    simpa using h1 j hj'.2 hj'.1
  have e2 : (l.drop i).countP (fun x => decide (ordM x.path x.clock m d ≤ 0)) = 0 := by
    rw [List.countP_eq_zero]
    intro x hx
    obtain ⟨j, hj, rfl⟩ := List.getElem_of_mem hx
    have hj' : i + j < l.length := by simp at hj; omega
    have := h2 (i + j) hj' (by omega)
    simp; omega
  unfold caretN
  rw [← List.take_append_drop i l, List.countP_append, e1, e2]
  simp; omega

def ofL (l : List At) (g : List (List (Int × Int) × Int)) (n : Int) : List (Int × Int) × Int × Int :=
  if chkS l g ≠ 0 then ([], 0, chkS l g) else if n < 0 ∨ (l.length : Int) < n then ([], 0, 3) else if n = 0 then ([], 0, 0) else match l[n.toNat - 1]? with
    | none => ([], 0, 0)
    | some x => (x.path, x.clock, 0)
def atL (l : List At) (g : List (List (Int × Int) × Int)) (m : List (Int × Int)) (d : Int) : Nat × Int :=
  if chkS l g ≠ 0 then (0, chkS l g) else if m = [] ∧ d = 0 then (0, 0) else if chk m d ≠ 0 then (0, chk m d) else (caretN l m d, 0)

theorem chkS_okL {l : List At} {g : List (List (Int × Int) × Int)} (h : chkS l g = 0) : OkL l := by
  unfold chkS at h
  by_cases e : chkL l = 0
  · exact okL_of e
  · rw [if_pos e] at h; exact absurd h e

end Go.Proofs.YtnhjebdlcbhkcaeGreat
