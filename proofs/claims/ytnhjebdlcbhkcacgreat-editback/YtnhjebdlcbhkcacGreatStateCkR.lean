/- Contract of edit.Put. -/
import Derived.Test.YtnhjebdlcbhkcacGreatEditQ
import Derived.Test.YtnhjebdlcbhkcacGreatDeedE
import Derived.Test.YtnhjebdlcbhkcacGreatThere
import Derived.Test.YtnhjebdlcbhkcacGreatAtomCk
import Derived.Test.YtnhjebdlcbhkcacGreatStateCk
import Derived.Test.YtnhjebdlcbhkcacGreatRunCk
import Derived.Test.YtnhjebdlcbhkcacGreatHasC
namespace Go.Proofs.YtnhjebdlcbhkcacGreat
open Go.RowKit

/-- the errno of Put -/
def putEr (l : List At) (g : List (List (Int × Int) × Int)) (n : Int) (t : ByteArray) (site clock : Int) : Int :=
  if putCk l g n t site clock ≠ 0 then putCk l g n t site clock else btwErr (aheadM l n.toNat).1 (aheadM l n.toNat).2 (behindM l n.toNat).1 (behindM l n.toNat).2 site clock t.size

def EPutGives (w : World) (l : List At) (g : List (List (Int × Int) × Int)) (n : Int) (t : ByteArray) (site clock : Int) (e : Ending) (w' : World) : Prop :=
  Below w.heap.size w w' ∧
  ((putEr l g n t site clock ≠ 0 ∧ e = .returned (.tuple #[.slice none 0 0, .int .i64 (putEr l g n t site clock)])) ∨
   (putEr l g n t site clock = 0 ∧ ∃ ax p k, PutAs l g n.toNat t site clock ax ∧ e = .returned (.tuple #[.slice p (runsL ax).length k, .int .i64 0]) ∧ DeedsAt w' p ((runsL ax).map putDd)))

theorem putCk_zero {l : List At} {g : List (List (Int × Int) × Int)} {n : Int} {t : ByteArray} {site clock : Int} (h : putCk l g n t site clock = 0) : OkS l g ∧ 0 ≤ n ∧ n ≤ l.length ∧ usedS site clock l g = false ∧ t.size ≤ 60 ∧ l.length + t.size ≤ 300 ∧ 0 < t.size ∧ allS t.data.toList = true := by
  unfold putCk at h
  by_cases h1 : chkS l g = 0
  rotate_left
  · rw [if_pos h1] at h; exact absurd h h1
  rw [if_neg (by simpa using h1)] at h
  cases h2 : inB n 0 l.length
  · rw [if_pos h2] at h; exact absurd h (by decide)
  rw [if_neg (by rw [h2]; decide)] at h
  cases h3 : usedS site clock l g
  case true => rw [if_pos h3] at h; exact absurd h (by decide)
  rw [if_neg (by rw [h3]; decide)] at h
  by_cases h4 : 60 < t.size ∨ 300 < l.length + t.size
  · rw [if_pos h4] at h; exact absurd h (by decide)
  rw [if_neg h4] at h
  by_cases h5 : t.size = 0
  · rw [if_pos h5] at h; exact absurd h (by decide)
  rw [if_neg h5] at h
  cases h6 : allS t.data.toList
  · rw [if_pos h6] at h; exact absurd h (by decide)
  have h7 : 0 ≤ n ∧ n ≤ l.length := by simpa [inB] using h2
  exact ⟨okS_of h1, h7.1, h7.2, rfl, by omega, by omega, by omega, rfl⟩

theorem owns_max {w : World} {base : Nat} {e : TypeId} {size : Nat} {p : Option Addr} {n c m : Nat} {xs : List Value} (h : w.ownsRow base e size (.slice p n c) m xs) : c ≤ maxLen := by
  rcases h.2 with ⟨h1, h0⟩ | ⟨g, cap, cur, h1, _, _, _, hc, _⟩
  · simp at h1; rw [h1.2.2]; exact Nat.zero_le _
  · simp at h1; omega

set_option maxRecDepth 100000 in
set_option maxHeartbeats 4000000 in
theorem editPut_any (a b : Option Addr) (cap cap' : Nat) (l : List At) (g : List (List (Int × Int) × Int)) (n : Int) (t : ByteArray) (site clock : Int) (w : World) (hl : l.length ≤ maxLen) (ht : t.size ≤ maxLen) (h : AtomsAt w a l) (h' : MarksAt w b g) :
    Calls Tryz.prog 12 #[.agg #[.slice a l.length cap, .slice b g.length cap'], .int .i64 n, .string t, .int .i64 site, .int .i64 clock] w (EPutGives w l g n t site clock) := by
  have hB := (Below.refl w.heap.size w).alloc (Nat.le_refl _) (Obj.cells #[.slice a l.length cap, .slice b g.length cap'] 25)
  have q0 : (w.alloc (Obj.cells #[.slice a l.length cap, .slice b g.length cap'] 25)).cell? ⟨w.heap.size, 0, none⟩ = some (.slice a l.length cap) := by simp
  have q1 : (w.alloc (Obj.cells #[.slice a l.length cap, .slice b g.length cap'] 25)).cell? ⟨w.heap.size, 1, none⟩ = some (.slice b g.length cap') := by simp
  have z : w.heap.size < (w.alloc (Obj.cells #[.slice a l.length cap, .slice b g.length cap'] 25)).heap.size := by simp
  replace h := h.below hB (Nat.le_refl _)
  replace h' := h'.below hB (Nat.le_refl _)
  go_enter Tryz.func12, Tryz.ntmps12
  go_upto_region 1 with fail
  generalize w.alloc (Obj.cells #[.slice a l.length cap, .slice b g.length cap'] 25) = W at hB q0 q1 z h h' ⊢
  generalize hzz : w.heap.size = Z at hB q0 q1 z ⊢
  have HZ := hidE hzz
  clear hzz
  have HC := hidE (editCheckPut_any a b cap cap' l g n t site clock W hl ht h h')
  go_wp2_with fail
  refine HC.out.mono ?_
  rintro e w1 ⟨rfl, hb⟩
  replace q0 := (hb.cell (p := ⟨Z, 0, none⟩) z).trans q0
  replace h := h.below hb (Nat.le_refl _)
  replace hB := hB.thru hb (Nat.le_of_lt z)
  replace z := Nat.lt_of_lt_of_le z hb.size
  clear HC h' q1 hb
  by_cases hS : putCk l g n t site clock = 0
  case neg =>
    have HE : Hid (putEr l g n t site clock = putCk l g n t site clock) := by show _ = _; unfold putEr; rw [if_pos hS]
    have HN := hidE hS
    have hcb : (putCk l g n t site clock != 0) = true := by rw [bne_iff_ne]; exact hS
    generalize putCk l g n t site clock = er at *
    clear hS
    go_wp2_with fail
    go_ret2
    rw [← HZ.out] at hB
    exact ⟨hB, Or.inl ⟨by rw [HE.out]; exact HN.out, by rw [HE.out]; rfl⟩⟩
  obtain ⟨hok, hn0, hnl, hus, h60, h300, ht0, hsg⟩ := putCk_zero hS
  obtain ⟨k, rfl⟩ : ∃ k : Nat, n = k := ⟨n.toNat, by omega⟩
  have HE : Hid (putEr l g k t site clock = btwErr (aheadM l k).1 (aheadM l k).2 (behindM l k).1 (behindM l k).2 site clock t.size) := by show _ = _; unfold putEr; rw [if_neg (by simpa using hS), Int.toNat_natCast]
  rw [hS]
  clear hS
  have hkl : k ≤ l.length := by omega
  have HAR := hidE (around_any a cap l k w1 hkl hok.atoms.len h)
  have HPA := hidE (fun (pl : List (Int × Int)) (r : Int) => putAs_of (pl := pl) (r := r) hok hkl hus hsg h60)
  clear h hok hus hsg hl ht hn0 hnl hkl
  go_wp2_with fail
  refine HAR.out.mono ?_
  rintro e w2 ⟨p, c, q, d, rfl, hsa, hsb, hac, hbd, ham, hbm, hb2⟩
  have hB2 := hB.trans (hb2.mono (Nat.le_of_lt z))
  clear hB HAR q0
  have z2 := Nat.lt_of_lt_of_le z hb2.size
  clear z hb2
  generalize (aheadM l k).1 = la at *
  generalize (aheadM l k).2 = ca at *
  generalize (behindM l k).1 = lb at *
  generalize (behindM l k).2 = cb at *
  have hbA := ((Below.refl w2.heap.size w2).alloc (Nat.le_refl _) (Obj.cells #[.slice p la.length c, .int .i64 ca] 46)).alloc (by simp) (Obj.cells #[.slice q lb.length d, .int .i64 cb] 46)
  have HBT := hidE (between_fnC p q c d la lb ca cb site clock t.size _ ham hbm hac hbd (hsa.below hbA (Nat.le_refl _)) (hsb.below hbA (Nat.le_refl _)))
  have hB3 := hB2.trans (hbA.mono (by have := hB2.size; omega))
  clear hsa hsb ham hbm hac hbd
  go_wp2_with fail
  refine HBT.out.mono ?_
  rintro e w3 ⟨hb3, ⟨hne, rfl⟩ | ⟨h0, O, pl, r, rfl, hmk, hcp, hcand, hr1, hr2⟩⟩
  · have HN := hidE hne
    have hcb : (btwErr la ca lb cb site clock t.size != 0) = true := by rw [bne_iff_ne]; exact hne
    generalize ((w2.alloc (Obj.cells #[.slice p la.length c, .int .i64 ca] 46)).alloc (Obj.cells #[.slice q lb.length d, .int .i64 cb] 46)) = wb at hb3 hB3 hbA
    clear HBT HPA hne
    generalize btwErr la ca lb cb site clock t.size = er at *
    have hB4 := hB3.trans (hb3.mono (by have := hbA.size; omega))
    have hB5 := (hB4.alloc (by have := hbA.size; have := hb3.size; omega) (Obj.cells #[.slice none 0 0] 23))
    go_wp2_with fail
    go_ret2
    rw [← HZ.out] at hB5
    exact ⟨hB5, Or.inl ⟨by rw [HE.out]; exact HN.out, by rw [HE.out]; rfl⟩⟩
  · generalize ((w2.alloc (Obj.cells #[.slice p la.length c, .int .i64 ca] 46)).alloc (Obj.cells #[.slice q lb.length d, .int .i64 cb] 46)) = wb at hb3 hB3 hbA
    have HA := hidE (HPA.out pl r h0 hcand hr1 hr2)
    have HE2 : Hid (putEr l g k t site clock = 0) := by show _ = _; rw [HE.out, h0]
    rw [Int.toNat_natCast] at hmk hcp
    have hml := rowOf_length pl r site clock t.size
    have hB4 := hB3.trans (hb3.mono (by have := hbA.size; omega))
    have z3 : Z < w3.heap.size := by have := hbA.size; have := hb3.size; omega
    clear HBT HPA HE h0 hcand hr1 hr2 hb3 hB3 hbA hB2 z2
    generalize hmm : (t.size : Int).toNat = m at *
    have hmt : m = t.size := by rw [← hmm, Int.toNat_natCast]
    clear hmm
    subst hmt
    have HAC : Hid ((comeL (rowOf pl r site clock t.size) t t.size).length = t.size) := hidE (comeL_len _ _ _)
    generalize rowOf pl r site clock t.size = ms at *
    go_upto_region 9 with fail
    have hb5 := ((Below.refl w3.heap.size w3).alloc (Nat.le_refl _) (Obj.cells #[.slice (some ⟨O, 0, none⟩) t.size t.size] 23)).alloc (by simp) (Obj.cells #[.slice none 0 0] 22)
    have q1 : ((w3.alloc (Obj.cells #[.slice (some ⟨O, 0, none⟩) t.size t.size] 23)).alloc (Obj.cells #[.slice none 0 0] 22)).cell? ⟨w3.heap.size, 0, none⟩ = some (.slice (some ⟨O, 0, none⟩) t.size t.size) := by go_simp
    have hBX : BoxA w3 ((w3.alloc (Obj.cells #[.slice (some ⟨O, 0, none⟩) t.size t.size] 23)).alloc (Obj.cells #[.slice none 0 0] 22)) (w3.heap.size + 1) [] :=
      ⟨⟨none, 0, by go_simp, OwnsA.nil _ _ _⟩, by go_simp, by simp⟩
    have hB6 : Below Z w ((w3.alloc (Obj.cells #[.slice (some ⟨O, 0, none⟩) t.size t.size] 23)).alloc (Obj.cells #[.slice none 0 0] 22)) := hB4.trans (hb5.mono (Nat.le_of_lt z3))
    generalize (w3.alloc (Obj.cells #[.slice (some ⟨O, 0, none⟩) t.size t.size] 23)).alloc (Obj.cells #[.slice none 0 0] 22) = w5 at hb5 q1 hBX hB6 ⊢
    have HEP := hidE (eachPut_any w3 (w3.heap.size + 1) w3.heap.size O t.size t.size ms t w5 hml.symm (by omega) (by omega) hmk hcp hb5 (by omega) (by omega) q1 hBX)
    clear hmk hcp hBX q1 hml hB4
    go_wp2_with fail
    refine HEP.out.mono ?_
    rintro e w6 ⟨rfl, hBX, hb6⟩
    clear HEP
    have hB7 : Below Z w w6 := hB6.trans (hb6.mono (by omega))
    have hb36 : Below w3.heap.size w3 w6 := hb5.trans (hb6.mono (by omega))
    obtain ⟨⟨pa, cc, hcc, hown⟩, hf, hlt⟩ := hBX
    obtain ⟨pa', cc', e, hat, hle⟩ := hown.atoms hb36
    obtain ⟨rfl, rfl⟩ : pa = pa' ∧ cc = cc' := by simpa using e
    obtain ⟨rs, hrl, hown', hrr⟩ := hown
    have hmx := owns_max hown'
    have HD := hidE (putR_each pa cc (comeL ms t t.size) w6 hle hmx hat (okL_chk HA.out.ok))
    rw [HAC.out] at HD hcc
    clear hown' hrr hrl hat hle hmx e HAC hb5 hb6 hB6
    generalize comeL ms t t.size = ax at *
    go_wp2_with fail
    refine HD.out.mono ?_
    rintro e w7 ⟨p2, k2, rfl, hda, hb7⟩
    have hB8 : Below Z w w7 := hB7.trans (hb7.mono (by have := hb36.size; omega))
    go_wp2_with fail
    go_ret2
    rw [← HZ.out] at hB8
    refine ⟨hB8, Or.inr ⟨HE2.out, ax, p2, k2, ?_, rfl, hda⟩⟩
    rw [Int.toNat_natCast]
    exact HA.out
end Go.Proofs.YtnhjebdlcbhkcacGreat

namespace Go.Proofs.YtnhjebdlcbhkcacGreat
open Go.RowKit

theorem between_n (a b : Option Addr) (cap cap' n n' : Nat) (la lb : List (Int × Int)) (ca cb site clock many : Int) (w : World) (hn : n = la.length) (hn' : n' = lb.length) (hla : la.length ≤ maxLen) (hlb : lb.length ≤ maxLen) (hca : la.length ≤ cap) (hcb : lb.length ≤ cap')
   (ha : StepsAt w a la) (hb : StepsAt w b lb) :
    Calls Tryz.prog 37 #[.agg #[.slice a n cap, .int .i64 ca], .agg #[.slice b n' cap', .int .i64 cb], .int .i64 site, .int .i64 clock, .int .i64 many] w (BtwGives w la ca lb cb site clock many) := by
  subst hn hn'; exact between_fn a b cap cap' la lb ca cb site clock many w hla hlb hca hcb ha hb
theorem begun_nxt : nxt [(3, 0)] 1 1 = ([(4, 0)], 2, 0) := by decide
theorem begun_btw : btwErr [(3, 0)] 1 [(4, 0)] 2 2 7 2 = 0 := by decide

end Go.Proofs.YtnhjebdlcbhkcacGreat

namespace Go.Proofs.YtnhjebdlcbhkcacGreat
open Go.RowKit

theorem noneB (l : List (Int × Int)) (c : Int) : (l.length == 0 && c == 0) = decide (l.length = 0 ∧ c = 0) := by
  rw [Bool.eq_iff_iff]; simp

theorem chkEnd_none {l : List (Int × Int)} {c : Int} (h : (l.length == 0 && c == 0) = true) : chkEnd l c = 0 := by
  rw [noneB] at h; unfold chkEnd; rw [if_pos (of_decide_eq_true h)]
theorem chkEnd_some {l : List (Int × Int)} {c : Int} (h : (l.length == 0 && c == 0) = false) : chkEnd l c = chk l c := by
  rw [noneB] at h; unfold chkEnd; rw [if_neg (of_decide_eq_false h)]
theorem none_len {l : List (Int × Int)} {c : Int} (h : chkEnd l c = 0) : (l.length == 0 && c == 0) = decide (l.length = 0) := by
  rw [noneB, Bool.eq_iff_iff]
  simp only [decide_eq_true_eq]
  constructor
  · exact fun h => h.1
  · intro e
    refine ⟨e, ?_⟩
    unfold chkEnd at h
    split at h
    · rename_i h1; exact h1.2
    · have := (chk_ok h).1; omega

theorem isNone_b (a : Option Addr) (cap : Nat) (n : Nat) (c : Int) (w : World) (B : Bool) (h : (n == 0 && c == 0) = B) :
    Calls Tryz.prog 94 #[.agg #[.slice a n cap, .int .i64 c]] w fun e w' => e = .returned (.bool B) ∧ Below w.heap.size w w' := by
  rw [← h]; exact isNone_any a cap n c w

end Go.Proofs.YtnhjebdlcbhkcacGreat

namespace Go.Proofs.YtnhjebdlcbhkcacGreat
open Go.RowKit

set_option maxRecDepth 100000 in
set_option maxHeartbeats 4000000 in
theorem checkState_any (a b : Option Addr) (cap cap' : Nat) (l : List At) (g : List (List (Int × Int) × Int)) (w : World) (hl : l.length ≤ maxLen) (h : AtomsAt w a l) (h' : MarksAt w b g) :
    Calls Tryz.prog 19 #[.agg #[.slice a l.length cap, .slice b g.length cap']] w fun e w' => e = .returned (.int .i64 (chkS l g)) ∧ Below w.heap.size w w' := by
  have hB := (Below.refl w.heap.size w).alloc (Nat.le_refl _) (Obj.cells #[.slice a l.length cap, .slice b g.length cap'] 25)
  have q0 : (w.alloc (Obj.cells #[.slice a l.length cap, .slice b g.length cap'] 25)).cell? ⟨w.heap.size, 0, none⟩ = some (.slice a l.length cap) := by simp
  have q1 : (w.alloc (Obj.cells #[.slice a l.length cap, .slice b g.length cap'] 25)).cell? ⟨w.heap.size, 1, none⟩ = some (.slice b g.length cap') := by simp
  have z : w.heap.size < (w.alloc (Obj.cells #[.slice a l.length cap, .slice b g.length cap'] 25)).heap.size := by simp
  replace h := h.below hB (Nat.le_refl _)
  replace h' := h'.below hB (Nat.le_refl _)
  go_enter Tryz.func19, Tryz.ntmps19
  go_upto_region 1 with fail
  generalize w.alloc (Obj.cells #[.slice a l.length cap, .slice b g.length cap'] 25) = W at hB q0 q1 z h h' ⊢
  generalize w.heap.size = Z at q0 q1 z
  go_wp2_with fail
  refine (checkAtoms_any _ _ l _ hl h).mono ?_
  rintro e w1 ⟨rfl, hb⟩
  replace q0 := (hb.cell (p := ⟨Z, 0, none⟩) z).trans q0
  replace q1 := (hb.cell (p := ⟨Z, 1, none⟩) z).trans q1
  replace z := Nat.lt_of_lt_of_le z hb.size
  replace h := h.below hb (Nat.le_refl _)
  replace h' := h'.below hb (Nat.le_refl _)
  replace hB := hB.thru hb hB.size
  clear hb
  by_cases hc : chkL l = 0
  case neg =>
    have hcb : (chkL l != 0) = true := by rw [bne_iff_ne]; exact hc
    have HA : Hid (chkS l g = chkL l) := by show _ = _; unfold chkS; rw [if_pos hc]
    clear hc
    go_wp2_with fail
    go_ret
    exact ⟨ret_int HA.out.symm, hB⟩
  have HC0 := hidE hc
  rw [hc]
  clear hc
  by_cases h600 : 600 < g.length
  · have hd : ((g.length : Int) > 600) := by omega
    have HA : Hid (chkS l g = 2) := by show _ = _; unfold chkS; rw [if_neg (by rw [HC0.out]; decide), if_pos h600]
    go_wp2_with fail
    go_ret
    exact ⟨ret_int HA.out.symm, hB⟩
  have hd : ¬ ((g.length : Int) > 600) := by omega
  have HC : Hid (chkS l g = chkGF l none g) := by show _ = _; unfold chkS; rw [if_neg (by rw [HC0.out]; decide), if_neg h600]
  go_wp2_with fail
  go_loopw [4] (fun i wr => ∃ k : Nat, k ≤ g.length ∧ i = .int .i64 k ∧ chkGF l (prevM g k) (g.drop k) = chkGF l none g ∧ Below w1.heap.size w1 wr) (fun i _ => g.length - (intOf i).toNat)
  case atStart => exact ⟨0, Nat.zero_le _, rfl, rfl, Below.refl _ _⟩
  case round =>
    obtain ⟨k, hk, rfl, hck, hb⟩ := hrel
    have HK := hidE hck
    clear hck
    replace hB := hB.thru hb hB.size
    replace q0 := (hb.cell (p := ⟨Z, 0, none⟩) z).trans q0
    replace q1 := (hb.cell (p := ⟨Z, 1, none⟩) z).trans q1
    replace z := Nat.lt_of_lt_of_le z hb.size
    replace h := h.below hb (Nat.le_refl _)
    by_cases hlt : k < g.length
    · rcases h'.below hb (Nat.le_refl _) with hs | ⟨ab, ao, rfl, hab, hc⟩
      · simp [hs] at hlt
      have hcons : Hid (chkGF l (prevM g k) (g.drop k) = if chkGn l (prevM g k) g[k] ≠ 0 then chkGn l (prevM g k) g[k] else chkGF l (some g[k]) (g.drop (k + 1))) := by
        show _ = _
        rw [List.drop_eq_getElem_cons hlt, chkGF_cons]
      have hnext : Hid (prevM g (k + 1) = some g[k]) := by
        show _ = _
        unfold prevM; rw [if_neg (by omega), Nat.add_sub_cancel, List.getElem?_eq_getElem hlt]
      obtain ⟨p, cp, c0, c1, hst, hle⟩ := hc k hlt
      have HP : Hid (chkGn l (prevM g k) g[k] = chkGn l (prevM g k) (g[k].1, g[k].2)) := rfl
      have hi1 : (k : Int) < g.length := by omega
      have HAll := hidE hc
      generalize g[k].1 = pk at *
      generalize g[k].2 = ck at *
      clear hc h'
      go_wp2_with fail
      refine (checkMark_any _ _ pk _ _ hle hst).mono ?_
      rintro e w2 ⟨rfl, hbW⟩
      have m0 := (hbW.cell (p := ⟨ab, ao + k * 2, none⟩) hab).trans c0
      have m1 := (hbW.cell (p := ⟨ab, ao + k * 2 + 1, none⟩) hab).trans c1
      replace q0 := (hbW.cell (p := ⟨Z, 0, none⟩) z).trans q0
      replace q1 := (hbW.cell (p := ⟨Z, 1, none⟩) z).trans q1
      replace h := h.below hbW (Nat.le_refl _)
      have hB2 := hB.thru hbW hB.size
      have hb2w := hb.thru hbW hb.size
      replace hst := hst.below hbW (Nat.le_refl _)
      clear hb c0 c1
      have HR : Hid (chkS l g = if chkGn l (prevM g k) (pk, ck) ≠ 0 then chkGn l (prevM g k) (pk, ck) else chkGF l (some g[k]) (g.drop (k + 1))) := by
        show _ = _
        rw [HC.out, ← HK.out, hcons.out, HP.out]
      have HCC := hidE HC.out
      clear HC HP hcons
      by_cases hc0 : chk pk ck = 0
      case neg =>
        have hcb : (chk pk ck != 0) = true := by rw [bne_iff_ne]; exact hc0
        have HA : Hid (chkS l g = chk pk ck) := by
          show _ = _
          have : chkGn l (prevM g k) (pk, ck) = chk pk ck := by unfold chkGn; rw [if_pos hc0]
          rw [HR.out, this, if_pos hc0]
        clear hc0
        go_wp2_with fail
        go_ret
        exact ⟨ret_int HA.out.symm, hB2⟩
      rw [hc0]
      have HA : Hid (chkGn l (prevM g k) (pk, ck) = if (match prevM g k with | none => false | some y => decide (0 ≤ ordM y.1 y.2 pk ck)) || hasMk l pk ck then 4 else 0) := by
        show _ = _
        unfold chkGn
        rw [if_neg (by simpa using hc0)]
        rfl
      clear hc0
      have k2 := cell_regrown m0
      have k3 := cell_regrown m1
      have k4 := cell_regrown q0
      have k5 := cell_regrown q1
      have S2 := hidE (fun d os => hst.below (below_regrown w2 d os) (Nat.le_refl _))
      have S3 := hidE (fun d os => h.below (below_regrown w2 d os) (Nat.le_refl _))
      rcases Nat.eq_zero_or_pos k with rfl | hk0
      · have hgz : decide ((0 : Int) > 0) = false := by decide
        simp only [Nat.zero_mul, Nat.add_zero] at k2 k3
        go_wp2_with fail
        refine wp_region_quiet_below (by kernel_rfl) (by kernel_rfl) ?_
        repeat (first | go_big_quiet_step ((go_at_call 52; exact Calls.regrown_of (hasMark_any _ _ _ _ l pk _ _ hl hle (S3.out _ _) (S2.out _ _)))) | quiet_step ((go_at_call 52; exact Calls.regrown_of (hasMark_any _ _ _ _ l pk _ _ hl hle (S3.out _ _) (S2.out _ _)))))
        refine wpQuiet_nil ?_
        intro _ hw'
        obtain ⟨⟨dq, osq⟩, hw''⟩ := hw'
        subst hw''
        clear k2 k3 k4 k5
        cases hhas : hasMk l pk ck
        · have HF : Hid (chkGF l (some g[0]) (g.drop 1) = chkGF l none g) := by
            show _ = _
            rw [← HCC.out, HR.out, HA.out, hhas]
            rfl
          clear hhas
          go_wp2
          go_roundw
          case rel => exact ⟨1, by omega, by go_num, by rw [hnext.out, HF.out], hb2w.thru (below_regrown _ _ _) hb2w.size⟩
          case measure => simp [intOf]; omega
        · have HF : Hid (chkS l g = 4) := by show _ = _; rw [HR.out, HA.out, hhas]; rfl
          clear hhas
          go_wp2
          go_ret
          exact ⟨ret_int HF.out.symm, hB2.thru (below_regrown _ _ _) hB2.size⟩
      · obtain ⟨j, rfl⟩ : ∃ j, k = j + 1 := ⟨k - 1, by omega⟩
        obtain ⟨py, cy, c0, c1, hsy, hly⟩ := HAll.out j (by omega)
        have d0 := (hbW.cell (p := ⟨ab, ao + j * 2, none⟩) hab).trans c0
        have d1 := (hbW.cell (p := ⟨ab, ao + j * 2 + 1, none⟩) hab).trans c1
        have hpv : Hid (prevM g (j + 1) = some g[j]) := by
          show _ = _
          unfold prevM; rw [if_neg (by omega), Nat.add_sub_cancel, List.getElem?_eq_getElem (by omega)]
        have HA3 : Hid (chkGn l (prevM g (j + 1)) (pk, ck) = if decide (0 ≤ ordM g[j].1 g[j].2 pk ck) || hasMk l pk ck then 4 else 0) := by
          show _ = _
          rw [HA.out, hpv.out]
        have k0 := cell_regrown d0
        have k1 := cell_regrown d1
        have S1 := hidE (fun d os => (hsy.below hbW (Nat.le_refl _)).below (below_regrown w2 d os) (Nat.le_refl _))
        clear c0 c1 HA hsy hst
        generalize g[j].1 = lp at d0 d1 hly HA3 k0 S1
        generalize g[j].2 = lc at d0 d1 HA3 k1
        have hw1 : IntKind.i64.wrap (((j + 1 : Nat) : Int) - 1) = (j : Int) := by rw [IntKind.wrap_i64] <;> omega
        have hgz : decide (((j + 1 : Nat) : Int) > 0) = true := by simp
        have hj1 : (j : Int) < g.length := by omega
        go_wp2_with fail
        by_cases ho : 0 ≤ ordM lp lc pk ck
        · have ho' : decide (ordM lp lc pk ck ≥ 0) = true := decide_eq_true ho
          have HF : Hid (chkS l g = 4) := by show _ = _; rw [HR.out, HA3.out, decide_eq_true ho, Bool.true_or, if_pos rfl, if_pos (by decide)]
          clear ho
          refine wp_region_quiet_below (by kernel_rfl) (by kernel_rfl) ?_
          repeat (first | go_big_quiet_step ((go_at_call 51; exact Calls.regrown_of (orderOf_any _ _ _ _ lp pk _ _ _ hly hle (S1.out _ _) (S2.out _ _)))) | quiet_step ((go_at_call 51; exact Calls.regrown_of (orderOf_any _ _ _ _ lp pk _ _ _ hly hle (S1.out _ _) (S2.out _ _)))))
          refine wpQuiet_nil ?_
          intro _ hw'
          obtain ⟨⟨dq, osq⟩, hw''⟩ := hw'
          subst hw''
          go_wp2
          go_ret
          exact ⟨ret_int HF.out.symm, hB2.thru (below_regrown _ _ _) hB2.size⟩
        · have ho' : decide (ordM lp lc pk ck ≥ 0) = false := decide_eq_false ho
          have HNO := hidE (decide_eq_false ho)
          clear ho
          refine wp_region_quiet_below (by kernel_rfl) (by kernel_rfl) ?_
          repeat (first | go_big_quiet_step (first | (go_at_call 51; exact Calls.regrown_of (orderOf_any _ _ _ _ lp pk _ _ _ hly hle (S1.out _ _) (S2.out _ _))) | (go_at_call 52; exact Calls.regrown_of (hasMark_any _ _ _ _ l pk _ _ hl hle (S3.out _ _) (S2.out _ _)))) | quiet_step (first | (go_at_call 51; exact Calls.regrown_of (orderOf_any _ _ _ _ lp pk _ _ _ hly hle (S1.out _ _) (S2.out _ _))) | (go_at_call 52; exact Calls.regrown_of (hasMark_any _ _ _ _ l pk _ _ hl hle (S3.out _ _) (S2.out _ _)))))
          refine wpQuiet_nil ?_
          intro _ hw'
          obtain ⟨⟨dq, osq⟩, hw''⟩ := hw'
          subst hw''
          clear k0 k1 k2 k3 k4 k5
          cases hhas : hasMk l pk ck
          · have HF : Hid (chkGF l (some g[j + 1]) (g.drop (j + 1 + 1)) = chkGF l none g) := by
              show _ = _
              rw [← HCC.out, HR.out, HA3.out, hhas, HNO.out]
              rfl
            clear hhas
            go_wp2
            go_roundw
            case rel => exact ⟨j + 1 + 1, by omega, by go_num, by rw [hnext.out, HF.out], hb2w.thru (below_regrown _ _ _) hb2w.size⟩
            case measure => simp [intOf]; omega
          · have HF : Hid (chkS l g = 4) := by show _ = _; rw [HR.out, HA3.out, hhas, HNO.out]; rfl
            clear hhas
            go_wp2
            go_ret
            exact ⟨ret_int HF.out.symm, hB2.thru (below_regrown _ _ _) hB2.size⟩
    · have HF : Hid (chkS l g = 0) := by show _ = _; rw [HC.out, ← HK.out, List.drop_eq_nil_of_le (by omega)]; rfl
      go_wp2
      go_ret
      exact ⟨ret_int HF.out.symm, hB⟩
end Go.Proofs.YtnhjebdlcbhkcacGreat
