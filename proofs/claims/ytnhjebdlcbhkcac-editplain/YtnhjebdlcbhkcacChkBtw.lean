/- Contract of edit.Put. -/
import Derived.Test.YtnhjebdlcbhkcacEditQ
import Derived.Test.YtnhjebdlcbhkcacDeedE
import Derived.Test.YtnhjebdlcbhkcacThere
import Derived.Test.YtnhjebdlcbhkcacAtomCk
namespace Go.Proofs.Ytnhjebdlcbhkcac
open Go.RowKit

/-- the errno of Put -/
def putEr (l : List At) (g : List (List (Int × Int) × Int)) (n : Int) (t : ByteArray) (site clock : Int) : Int :=
  if putCk l g n t site clock ≠ 0 then putCk l g n t site clock else btwErr (aheadM l n.toNat).1 (aheadM l n.toNat).2 (behindM l n.toNat).1 (behindM l n.toNat).2 site clock t.size

def EPutGives (w : World) (l : List At) (g : List (List (Int × Int) × Int)) (n : Int) (t : ByteArray) (site clock : Int) (e : Ending) (w' : World) : Prop :=
  Below w.heap.size w w' ∧
  ((putEr l g n t site clock ≠ 0 ∧ e = .returned (.tuple #[.slice none 0 0, .int .i64 (putEr l g n t site clock)])) ∨
   (putEr l g n t site clock = 0 ∧ ∃ ax p k, PutAs l g n.toNat t site clock ax ∧ e = .returned (.tuple #[.slice p (runsL ax).length k, .int .i64 0]) ∧ DeedsAt w' p ((runsL ax).map putDd)))

theorem putCk_zero {l : List At} {g : List (List (Int × Int) × Int)} {n : Int} {t : ByteArray} {site clock : Int} (h : putCk l g n t site clock = 0) : OkS l g ∧ 0 ≤ n ∧ n ≤ l.length ∧ usedS site clock l g = false ∧ t.size ≤ 60 ∧ l.length + t.size ≤ 300 ∧ 0 < t.size ∧ allS t.data.toList = true := by
  unfold putCk at h
  by_cases h1 : chkS l g = 0
  rotate_left
  · rw [if_pos h1] at h; exact absurd h h1
  rw [if_neg (by simpa using h1)] at h
  cases h2 : inB n 0 l.length
  · rw [if_pos h2] at h; exact absurd h (by decide)
  rw [if_neg (by rw [h2]; decide)] at h
  cases h3 : usedS site clock l g
  case true => rw [if_pos h3] at h; exact absurd h (by decide)
  rw [if_neg (by rw [h3]; decide)] at h
  by_cases h4 : 60 < t.size ∨ 300 < l.length + t.size
  · rw [if_pos h4] at h; exact absurd h (by decide)
  rw [if_neg h4] at h
  by_cases h5 : t.size = 0
  · rw [if_pos h5] at h; exact absurd h (by decide)
  rw [if_neg h5] at h
  cases h6 : allS t.data.toList
  · rw [if_pos h6] at h; exact absurd h (by decide)
  have h7 : 0 ≤ n ∧ n ≤ l.length := by simpa [inB] using h2
  exact ⟨okS_of h1, h7.1, h7.2, rfl, by omega, by omega, by omega, rfl⟩

theorem owns_max {w : World} {base : Nat} {e : TypeId} {size : Nat} {p : Option Addr} {n c m : Nat} {xs : List Value} (h : w.ownsRow base e size (.slice p n c) m xs) : c ≤ maxLen := by
  rcases h.2 with ⟨h1, h0⟩ | ⟨g, cap, cur, h1, _, _, _, hc, _⟩
  · simp at h1; rw [h1.2.2]; exact Nat.zero_le _
  · simp at h1; omega

set_option maxRecDepth 100000 in
set_option maxHeartbeats 4000000 in
theorem editPut_any (a b : Option Addr) (cap cap' : Nat) (l : List At) (g : List (List (Int × Int) × Int)) (n : Int) (t : ByteArray) (site clock : Int) (w : World) (hl : l.length ≤ maxLen) (ht : t.size ≤ maxLen) (h : AtomsAt w a l) (h' : MarksAt w b g) :
    Calls Try.prog 10 #[.agg #[.slice a l.length cap, .slice b g.length cap'], .int .i64 n, .string t, .int .i64 site, .int .i64 clock] w (EPutGives w l g n t site clock) := by
  have hB := (Below.refl w.heap.size w).alloc (Nat.le_refl _) (Obj.cells #[.slice a l.length cap, .slice b g.length cap'] 32)
  have q0 : (w.alloc (Obj.cells #[.slice a l.length cap, .slice b g.length cap'] 32)).cell? ⟨w.heap.size, 0, none⟩ = some (.slice a l.length cap) := by simp
  have q1 : (w.alloc (Obj.cells #[.slice a l.length cap, .slice b g.length cap'] 32)).cell? ⟨w.heap.size, 1, none⟩ = some (.slice b g.length cap') := by simp
  have z : w.heap.size < (w.alloc (Obj.cells #[.slice a l.length cap, .slice b g.length cap'] 32)).heap.size := by simp
  replace h := h.below hB (Nat.le_refl _)
  replace h' := h'.below hB (Nat.le_refl _)
  go_enter Try.func10, Try.ntmps10
  go_upto_region 1 with fail
  generalize w.alloc (Obj.cells #[.slice a l.length cap, .slice b g.length cap'] 32) = W at hB q0 q1 z h h' ⊢
  generalize hzz : w.heap.size = Z at hB q0 q1 z ⊢
  have HZ := hidE hzz
  clear hzz
  have HC := hidE (editCheckPut_any a b cap cap' l g n t site clock W hl ht h h')
  go_wp2_with fail
  refine HC.out.mono ?_
  rintro e w1 ⟨rfl, hb⟩
  replace q0 := (hb.cell (p := ⟨Z, 0, none⟩) z).trans q0
  replace h := h.below hb (Nat.le_refl _)
  replace hB := hB.thru hb (Nat.le_of_lt z)
  replace z := Nat.lt_of_lt_of_le z hb.size
  clear HC h' q1 hb
  by_cases hS : putCk l g n t site clock = 0
  case neg =>
    have HE : Hid (putEr l g n t site clock = putCk l g n t site clock) := by show _ = _; unfold putEr; rw [if_pos hS]
    have HN := hidE hS
    have hcb : (putCk l g n t site clock != 0) = true := by rw [bne_iff_ne]; exact hS
    generalize putCk l g n t site clock = er at *
    clear hS
    go_wp2_with fail
    go_ret2
    rw [← HZ.out] at hB
    exact ⟨hB, Or.inl ⟨by rw [HE.out]; exact HN.out, by rw [HE.out]; rfl⟩⟩
  obtain ⟨hok, hn0, hnl, hus, h60, h300, ht0, hsg⟩ := putCk_zero hS
  obtain ⟨k, rfl⟩ : ∃ k : Nat, n = k := ⟨n.toNat, by omega⟩
  have HE : Hid (putEr l g k t site clock = btwErr (aheadM l k).1 (aheadM l k).2 (behindM l k).1 (behindM l k).2 site clock t.size) := by show _ = _; unfold putEr; rw [if_neg (by simpa using hS), Int.toNat_natCast]
  rw [hS]
  clear hS
  have hkl : k ≤ l.length := by omega
  have HAR := hidE (around_any a cap l k w1 hkl hok.atoms.len h)
  have HPA := hidE (fun (pl : List (Int × Int)) (r : Int) => putAs_of (pl := pl) (r := r) hok hkl hus hsg h60)
  clear h hok hus hsg hl ht hn0 hnl hkl
  go_wp2_with fail
  refine HAR.out.mono ?_
  rintro e w2 ⟨p, c, q, d, rfl, hsa, hsb, hac, hbd, ham, hbm, hb2⟩
  have hB2 := hB.trans (hb2.mono (Nat.le_of_lt z))
  clear hB HAR q0
  have z2 := Nat.lt_of_lt_of_le z hb2.size
  clear z hb2
  generalize (aheadM l k).1 = la at *
  generalize (aheadM l k).2 = ca at *
  generalize (behindM l k).1 = lb at *
  generalize (behindM l k).2 = cb at *
  have hbA := ((Below.refl w2.heap.size w2).alloc (Nat.le_refl _) (Obj.cells #[.slice p la.length c, .int .i64 ca] 41)).alloc (by simp) (Obj.cells #[.slice q lb.length d, .int .i64 cb] 41)
  have HBT := hidE (between_fnC p q c d la lb ca cb site clock t.size _ ham hbm hac hbd (hsa.below hbA (Nat.le_refl _)) (hsb.below hbA (Nat.le_refl _)))
  have hB3 := hB2.trans (hbA.mono (by have := hB2.size; omega))
  clear hsa hsb ham hbm hac hbd
  go_wp2_with fail
  refine HBT.out.mono ?_
  rintro e w3 ⟨hb3, ⟨hne, rfl⟩ | ⟨h0, O, pl, r, rfl, hmk, hcp, hcand, hr1, hr2⟩⟩
  · have HN := hidE hne
    have hcb : (btwErr la ca lb cb site clock t.size != 0) = true := by rw [bne_iff_ne]; exact hne
    generalize ((w2.alloc (Obj.cells #[.slice p la.length c, .int .i64 ca] 41)).alloc (Obj.cells #[.slice q lb.length d, .int .i64 cb] 41)) = wb at hb3 hB3 hbA
    clear HBT HPA hne
    generalize btwErr la ca lb cb site clock t.size = er at *
    have hB4 := hB3.trans (hb3.mono (by have := hbA.size; omega))
    have hB5 := (hB4.alloc (by have := hbA.size; have := hb3.size; omega) (Obj.cells #[.slice none 0 0] 30))
    go_wp2_with fail
    go_ret2
    rw [← HZ.out] at hB5
    exact ⟨hB5, Or.inl ⟨by rw [HE.out]; exact HN.out, by rw [HE.out]; rfl⟩⟩
  · generalize ((w2.alloc (Obj.cells #[.slice p la.length c, .int .i64 ca] 41)).alloc (Obj.cells #[.slice q lb.length d, .int .i64 cb] 41)) = wb at hb3 hB3 hbA
    have HA := hidE (HPA.out pl r h0 hcand hr1 hr2)
    have HE2 : Hid (putEr l g k t site clock = 0) := by show _ = _; rw [HE.out, h0]
    rw [Int.toNat_natCast] at hmk hcp
    have hml := rowOf_length pl r site clock t.size
    have hB4 := hB3.trans (hb3.mono (by have := hbA.size; omega))
    have z3 : Z < w3.heap.size := by have := hbA.size; have := hb3.size; omega
    clear HBT HPA HE h0 hcand hr1 hr2 hb3 hB3 hbA hB2 z2
    generalize hmm : (t.size : Int).toNat = m at *
    have hmt : m = t.size := by rw [← hmm, Int.toNat_natCast]
    clear hmm
    subst hmt
    have HAC : Hid ((comeL (rowOf pl r site clock t.size) t t.size).length = t.size) := hidE (comeL_len _ _ _)
    generalize rowOf pl r site clock t.size = ms at *
    go_upto_region 9 with fail
    have hb5 := ((Below.refl w3.heap.size w3).alloc (Nat.le_refl _) (Obj.cells #[.slice (some ⟨O, 0, none⟩) t.size t.size] 30)).alloc (by simp) (Obj.cells #[.slice none 0 0] 29)
    have q1 : ((w3.alloc (Obj.cells #[.slice (some ⟨O, 0, none⟩) t.size t.size] 30)).alloc (Obj.cells #[.slice none 0 0] 29)).cell? ⟨w3.heap.size, 0, none⟩ = some (.slice (some ⟨O, 0, none⟩) t.size t.size) := by go_simp
    have hBX : BoxA w3 ((w3.alloc (Obj.cells #[.slice (some ⟨O, 0, none⟩) t.size t.size] 30)).alloc (Obj.cells #[.slice none 0 0] 29)) (w3.heap.size + 1) [] :=
      ⟨⟨none, 0, by go_simp, OwnsA.nil _ _ _⟩, by go_simp, by simp⟩
    have hB6 : Below Z w ((w3.alloc (Obj.cells #[.slice (some ⟨O, 0, none⟩) t.size t.size] 30)).alloc (Obj.cells #[.slice none 0 0] 29)) := hB4.trans (hb5.mono (Nat.le_of_lt z3))
    generalize (w3.alloc (Obj.cells #[.slice (some ⟨O, 0, none⟩) t.size t.size] 30)).alloc (Obj.cells #[.slice none 0 0] 29) = w5 at hb5 q1 hBX hB6 ⊢
    have HEP := hidE (eachPut_any w3 (w3.heap.size + 1) w3.heap.size O t.size t.size ms t w5 hml.symm (by omega) (by omega) hmk hcp hb5 (by omega) (by omega) q1 hBX)
    clear hmk hcp hBX q1 hml hB4
    go_wp2_with fail
    refine HEP.out.mono ?_
    rintro e w6 ⟨rfl, hBX, hb6⟩
    clear HEP
    have hB7 : Below Z w w6 := hB6.trans (hb6.mono (by omega))
    have hb36 : Below w3.heap.size w3 w6 := hb5.trans (hb6.mono (by omega))
    obtain ⟨⟨pa, cc, hcc, hown⟩, hf, hlt⟩ := hBX
    obtain ⟨pa', cc', e, hat, hle⟩ := hown.atoms hb36
    obtain ⟨rfl, rfl⟩ : pa = pa' ∧ cc = cc' := by simpa using e
    obtain ⟨rs, hrl, hown', hrr⟩ := hown
    have hmx := owns_max hown'
    have HD := hidE (putR_each pa cc (comeL ms t t.size) w6 hle hmx hat (okL_chk HA.out.ok))
    rw [HAC.out] at HD hcc
    clear hown' hrr hrl hat hle hmx e HAC hb5 hb6 hB6
    generalize comeL ms t t.size = ax at *
    go_wp2_with fail
    refine HD.out.mono ?_
    rintro e w7 ⟨p2, k2, rfl, hda, hb7⟩
    have hB8 : Below Z w w7 := hB7.trans (hb7.mono (by have := hb36.size; omega))
    go_wp2_with fail
    go_ret2
    rw [← HZ.out] at hB8
    refine ⟨hB8, Or.inr ⟨HE2.out, ax, p2, k2, ?_, rfl, hda⟩⟩
    rw [Int.toNat_natCast]
    exact HA.out
end Go.Proofs.Ytnhjebdlcbhkcac

namespace Go.Proofs.Ytnhjebdlcbhkcac
open Go.RowKit

theorem between_n (a b : Option Addr) (cap cap' n n' : Nat) (la lb : List (Int × Int)) (ca cb site clock many : Int) (w : World) (hn : n = la.length) (hn' : n' = lb.length) (hla : la.length ≤ maxLen) (hlb : lb.length ≤ maxLen) (hca : la.length ≤ cap) (hcb : lb.length ≤ cap')
   (ha : StepsAt w a la) (hb : StepsAt w b lb) :
    Calls Try.prog 34 #[.agg #[.slice a n cap, .int .i64 ca], .agg #[.slice b n' cap', .int .i64 cb], .int .i64 site, .int .i64 clock, .int .i64 many] w (BtwGives w la ca lb cb site clock many) := by
  subst hn hn'; exact between_fn a b cap cap' la lb ca cb site clock many w hla hlb hca hcb ha hb
theorem begun_nxt : nxt [(3, 0)] 1 1 = ([(4, 0)], 2, 0) := by decide
theorem begun_btw : btwErr [(3, 0)] 1 [(4, 0)] 2 2 7 2 = 0 := by decide

end Go.Proofs.Ytnhjebdlcbhkcac

namespace Go.Proofs.Ytnhjebdlcbhkcac
open Go.RowKit

theorem noneB (l : List (Int × Int)) (c : Int) : (l.length == 0 && c == 0) = decide (l.length = 0 ∧ c = 0) := by
  rw [Bool.eq_iff_iff]; simp

theorem chkEnd_none {l : List (Int × Int)} {c : Int} (h : (l.length == 0 && c == 0) = true) : chkEnd l c = 0 := by
  rw [noneB] at h; unfold chkEnd; rw [if_pos (of_decide_eq_true h)]
theorem chkEnd_some {l : List (Int × Int)} {c : Int} (h : (l.length == 0 && c == 0) = false) : chkEnd l c = chk l c := by
  rw [noneB] at h; unfold chkEnd; rw [if_neg (of_decide_eq_false h)]
theorem none_len {l : List (Int × Int)} {c : Int} (h : chkEnd l c = 0) : (l.length == 0 && c == 0) = decide (l.length = 0) := by
  rw [noneB, Bool.eq_iff_iff]
  simp only [decide_eq_true_eq]
  constructor
  · exact fun h => h.1
  · intro e
    refine ⟨e, ?_⟩
    unfold chkEnd at h
    split at h
    · rename_i h1; exact h1.2
    · have := (chk_ok h).1; omega

set_option maxHeartbeats 1000000 in
theorem samePath_any (a a' : Option Addr) (cap cap' : Nat) (l m : List (Int × Int)) (c d : Int) (w : World) (hl : l.length ≤ maxLen) (hm : m.length ≤ maxLen) (h : StepsAt w a l) (h' : StepsAt w a' m) :
    Calls Try.prog 80 #[.agg #[.slice a l.length cap, .int .i64 c], .agg #[.slice a' m.length cap', .int .i64 d]] w fun e w' => e = .returned (.bool (ordP l m == 0)) ∧ Below w.heap.size w w' := by
  have hb0 : ∀ u v : Value, Below w.heap.size w ((w.alloc (Obj.cells #[.slice a l.length cap, u] 41)).alloc (Obj.cells #[.slice a' m.length cap', v] 41)) := fun u v => ((Below.refl _ _).alloc (Nat.le_refl _) _).alloc (by simp) _
  have HB := hidE hb0
  clear hb0
  go_enter Try.func80, Try.ntmps80
  go_wp2_with fail
  refine (sameMark_n _ _ _ _ _ _ l m _ _ _ rfl rfl hl hm (h.below (HB.out _ _) (Nat.le_refl _)) (h'.below (HB.out _ _) (Nat.le_refl _))).mono ?_
  rintro e w1 ⟨rfl, hb1⟩
  have e0 : (ordM l 0 m 0 == 0) = (ordP l m == 0) := by
    unfold ordM orI
    split
    · rename_i h1; rw [h1]; rfl
    · rfl
  rw [e0]
  go_wp2
  go_ret
  exact ⟨rfl, (HB.out _ _).thru hb1 (HB.out _ _).size⟩

theorem isNone_b (a : Option Addr) (cap : Nat) (n : Nat) (c : Int) (w : World) (B : Bool) (h : (n == 0 && c == 0) = B) :
    Calls Try.prog 16 #[.agg #[.slice a n cap, .int .i64 c]] w fun e w' => e = .returned (.bool B) ∧ Below w.heap.size w w' := by
  rw [← h]; exact isNone_any a cap n c w

set_option maxRecDepth 100000 in
set_option maxHeartbeats 2000000 in
theorem checkBetween_any (a b : Option Addr) (ka kb : Nat) (la lb : List (Int × Int)) (ca cb site clock many : Int) (w : World) (hla : la.length ≤ maxLen) (hlb : lb.length ≤ maxLen) (ha : StepsAt w a la) (hb : StepsAt w b lb) :
    Calls Try.prog 40 #[.agg #[.slice a la.length ka, .int .i64 ca], .agg #[.slice b lb.length kb, .int .i64 cb], .int .i64 site, .int .i64 clock, .int .i64 many] w fun e w' => e = .returned (.int .i64 (btwErr la ca lb cb site clock many)) ∧ Below w.heap.size w w' := by
  obtain ⟨q0, q1, q2, q3, hz, hb0⟩ := boxes2 w (.slice a la.length ka) (.int .i64 ca) (.slice b lb.length kb) (.int .i64 cb) 41 41
  have HH : Holds ((w.alloc (Obj.cells #[.slice a la.length ka, .int .i64 ca] 41)).alloc (Obj.cells #[.slice b lb.length kb, .int .i64 cb] 41)) [(w.heap.size, 0, .slice a la.length ka), (w.heap.size, 1, .int .i64 ca), (w.heap.size + 1, 0, .slice b lb.length kb), (w.heap.size + 1, 1, .int .i64 cb)] := by
    simp only [holds_cons, holds_nil]
    exact ⟨holds_at q0, holds_at q1, holds_at q2, holds_at q3, trivial⟩
  clear q0 q1 q2 q3 hz
  go_enter Try.func40, Try.ntmps40
  go_upto_region 1 with fail
  generalize (w.alloc (Obj.cells #[.slice a la.length ka, .int .i64 ca] 41)).alloc (Obj.cells #[.slice b lb.length kb, .int .i64 cb] 41) = W at HH hb0 ⊢
  have X := HH
  simp only [holds_cons, holds_nil] at X
  obtain ⟨⟨_, p0⟩, ⟨_, p1⟩, ⟨_, p2⟩, ⟨_, p3⟩, _⟩ := X
  go_cut [15] (fun t we => t = .bool (!(la.length == 0 && ca == 0)) ∧ Below W.heap.size W we)
  case first =>
    go_wp2_with (go_at_call 16; refine (isNone_any _ _ _ _ _).mono ?_; rintro e w1 ⟨rfl, hb1⟩)
    go_meet
    exact ⟨congrArg Value.bool (by simp), hb1⟩
  case rest =>
    obtain ⟨rfl, hb1⟩ := hcut
    replace HH := HH.below hb1 (Nat.le_refl _)
    replace hb0 := hb0.thru hb1 hb0.size
    clear hb1 p0 p1 p2 p3
    have X := HH
    simp only [holds_cons, holds_nil] at X
    obtain ⟨⟨_, p0⟩, ⟨_, p1⟩, ⟨_, p2⟩, ⟨_, p3⟩, _⟩ := X
    go_upto_if 15 with fail
    go_cut [] (fun we => chkEnd la ca = 0 ∧ Below wc.heap.size wc we)
    case first =>
      cases hn : (la.length == 0 && ca == 0) with
      | true =>
        have HN := hidE (chkEnd_none hn)
        clear hn
        go_wp2
        go_meet
        exact ⟨HN.out, Below.refl _ _⟩
      | false =>
        have HN := hidE (chkEnd_some hn)
        clear hn
        by_cases hk : chk la ca = 0
        · have HK := hidE hk
          clear hk
          go_wp2_with fail
          refine (checkMark_any _ _ la _ _ hla (ha.below hb0 (Nat.le_refl _))).mono ?_
          rintro e w1 ⟨rfl, hb1⟩
          rw [HK.out]
          go_wp2
          go_meet
          exact ⟨HN.out.trans HK.out, hb1⟩
        · have hk' : (chk la ca != 0) = true := by rw [bne_iff_ne]; exact hk
          have HK := hidE hk
          clear hk
          go_wp2_with fail
          refine (checkMark_any _ _ la _ _ hla (ha.below hb0 (Nat.le_refl _))).mono ?_
          rintro e w1 ⟨rfl, hb1⟩
          go_wp2
          go_ret
          exact ⟨ret_int (by unfold btwErr; rw [if_pos (by unfold ends orI; rw [HN.out, if_neg HK.out]; exact HK.out)]; unfold ends orI; rw [HN.out, if_neg HK.out]), hb0.thru hb1 hb0.size⟩
    case rest =>
      obtain ⟨hEa, hb1⟩ := hcut
      have HEa := hidE hEa
      clear hEa
      replace HH := HH.below hb1 (Nat.le_refl _)
      replace hb0 := hb0.thru hb1 hb0.size
      clear hb1 p0 p1 p2 p3
      have X := HH
      simp only [holds_cons, holds_nil] at X
      obtain ⟨⟨_, p0⟩, ⟨_, p1⟩, ⟨_, p2⟩, ⟨_, p3⟩, _⟩ := X
      go_upto_region 5 with fail
      go_cut [23] (fun t we => t = .bool (!(lb.length == 0 && cb == 0)) ∧ Below wc.heap.size wc we)
      case first =>
        go_wp2_with (go_at_call 16; refine (isNone_any _ _ _ _ _).mono ?_; rintro e w1 ⟨rfl, hb1⟩)
        go_meet
        exact ⟨congrArg Value.bool (by simp), hb1⟩
      case rest =>
        obtain ⟨rfl, hb1⟩ := hcut
        replace HH := HH.below hb1 (Nat.le_refl _)
        replace hb0 := hb0.thru hb1 hb0.size
        clear hb1 p0 p1 p2 p3
        have X := HH
        simp only [holds_cons, holds_nil] at X
        obtain ⟨⟨_, p0⟩, ⟨_, p1⟩, ⟨_, p2⟩, ⟨_, p3⟩, _⟩ := X
        go_upto_if 23 with fail
        go_cut [] (fun we => chkEnd lb cb = 0 ∧ Below wc.heap.size wc we)
        case first =>
          cases hn : (lb.length == 0 && cb == 0) with
          | true =>
            have HN := hidE (chkEnd_none hn)
            clear hn
            go_wp2
            go_meet
            exact ⟨HN.out, Below.refl _ _⟩
          | false =>
            have HN := hidE (chkEnd_some hn)
            clear hn
            by_cases hk : chk lb cb = 0
            · have HK := hidE hk
              clear hk
              go_wp2_with fail
              refine (checkMark_any _ _ lb _ _ hlb (hb.below hb0 (Nat.le_refl _))).mono ?_
              rintro e w1 ⟨rfl, hb1⟩
              rw [HK.out]
              go_wp2
              go_meet
              exact ⟨HN.out.trans HK.out, hb1⟩
            · have hk' : (chk lb cb != 0) = true := by rw [bne_iff_ne]; exact hk
              have HK := hidE hk
              clear hk
              go_wp2_with fail
              refine (checkMark_any _ _ lb _ _ hlb (hb.below hb0 (Nat.le_refl _))).mono ?_
              rintro e w1 ⟨rfl, hb1⟩
              go_wp2
              go_ret
              exact ⟨ret_int (by unfold btwErr; rw [if_pos (by unfold ends orI; rw [HEa.out, if_pos rfl, HN.out]; exact HK.out)]; unfold ends orI; rw [HEa.out, if_pos rfl, HN.out]), hb0.thru hb1 hb0.size⟩
        case rest =>
          obtain ⟨hEb, hb1⟩ := hcut
          have HEb := hidE hEb
          clear hEb
          replace HH := HH.below hb1 (Nat.le_refl _)
          replace hb0 := hb0.thru hb1 hb0.size
          clear hb1 p0 p1 p2 p3
          have X := HH
          simp only [holds_cons, holds_nil] at X
          obtain ⟨⟨_, p0⟩, ⟨_, p1⟩, ⟨_, p2⟩, ⟨_, p3⟩, _⟩ := X
          have HE : Hid (ends la ca lb cb = 0) := by show _ = _; unfold ends orI; rw [if_pos HEa.out]; exact HEb.out
          go_upto_region 9 with fail
          go_cut [48] (fun t we => t = .bool (!argsOk site clock many) ∧ we = wc)
          case first =>
            by_cases i1 : inB site 0 4 = true
            · by_cases i2 : inB clock 1 10000 = true
              · have j2 : 1 ≤ clock ∧ clock ≤ 10000 := by simpa [inB] using i2
                by_cases i3 : inB many 1 60 = true
                · have j3 : 1 ≤ many ∧ many ≤ 60 := by simpa [inB] using i3
                  go_wp2_with (go_at_call 28; refine (between_any _ _ _ _).mono ?_; rintro e w' ⟨rfl, rfl⟩)
                  go_meet
                  refine ⟨congrArg Value.bool ?_, rfl⟩
                  unfold argsOk
                  rw [i1, i2, decide_eq_true j3.1, decide_eq_true j3.2]
                  rw [Bool.eq_iff_iff]
                  simp
                · have j3 : ¬ (1 ≤ many ∧ many ≤ 60) := by simpa [inB] using i3
                  go_wp2_with (go_at_call 28; refine (between_any _ _ _ _).mono ?_; rintro e w' ⟨rfl, rfl⟩)
                  go_meet
                  refine ⟨congrArg Value.bool ?_, rfl⟩
                  unfold argsOk
                  by_cases k1 : 1 ≤ many
                  · rw [decide_eq_false (show ¬ many ≤ 60 by omega)]; simp
                  · rw [decide_eq_false k1]; simp
              · go_wp2_with (go_at_call 28; refine (between_any _ _ _ _).mono ?_; rintro e w' ⟨rfl, rfl⟩)
                go_meet
                exact ⟨congrArg Value.bool (by unfold argsOk; simp [i2]), rfl⟩
            · go_wp2_with (go_at_call 28; refine (between_any _ _ _ _).mono ?_; rintro e w' ⟨rfl, rfl⟩)
              go_meet
              exact ⟨congrArg Value.bool (by unfold argsOk; simp [i1]), rfl⟩
          case rest =>
            obtain ⟨rfl, rfl⟩ := hcut
            cases hA : argsOk site clock many with
            | false =>
              have HA := hidE hA
              clear hA
              go_wp2
              go_ret
              exact ⟨ret_int (by unfold btwErr; rw [if_neg (by rw [HE.out]; simp), if_pos HA.out]), hb0⟩
            | true =>
              have HA := hidE hA
              clear hA
              go_upto_region 11 with fail
              go_cut [67] (fun t we => t = .bool (stateBad la lb) ∧ Below wc.heap.size wc we)
              case first =>
                have HNa := hidE (none_len HEa.out)
                have HNb := hidE (none_len HEb.out)
                by_cases i1 : la.length = 0
                · have i1' : decide (la.length = 0) = true := decide_eq_true i1
                  rw [i1'] at HNa
                  have I1 := hidE i1
                  clear i1' i1
                  go_wp2_with fail
                  refine (isNone_b _ _ _ _ _ true HNa.out).mono ?_
                  rintro e w1 ⟨rfl, hb1⟩
                  go_wp2_with fail
                  go_meet
                  exact ⟨congrArg Value.bool (by unfold stateBad; rw [decide_eq_false (show ¬ 0 < la.length by rw [I1.out]; simp)]; rfl), hb1⟩
                · have i1' : decide (la.length = 0) = false := decide_eq_false i1
                  rw [i1'] at HNa
                  have I1 := hidE i1
                  clear i1' i1
                  go_wp2_with fail
                  refine (isNone_b _ _ _ _ _ false HNa.out).mono ?_
                  rintro e w1 ⟨rfl, hb1⟩
                  have X := HH.below hb1 (Nat.le_refl _)
                  simp only [holds_cons, holds_nil] at X
                  obtain ⟨⟨_, r0⟩, ⟨_, r1⟩, ⟨_, r2⟩, ⟨_, r3⟩, _⟩ := X
                  by_cases i2 : lb.length = 0
                  · have i2' : decide (lb.length = 0) = true := decide_eq_true i2
                    rw [i2'] at HNb
                    have I2 := hidE i2
                    clear i2' i2
                    go_wp2_with fail
                    refine (isNone_b _ _ _ _ _ true HNb.out).mono ?_
                    rintro e w2 ⟨rfl, hb2⟩
                    go_wp2_with fail
                    go_meet
                    exact ⟨congrArg Value.bool (by unfold stateBad; rw [decide_eq_false (show ¬ 0 < lb.length by rw [I2.out]; simp)]; simp), hb1.thru hb2 hb1.size⟩
                  · have i2' : decide (lb.length = 0) = false := decide_eq_false i2
                    rw [i2'] at HNb
                    have I2 := hidE i2
                    clear i2' i2
                    go_wp2_with fail
                    refine (isNone_b _ _ _ _ _ false HNb.out).mono ?_
                    rintro e w2 ⟨rfl, hb2⟩
                    have hb3 := hb1.thru hb2 hb1.size
                    have X := HH.below hb3 (Nat.le_refl _)
                    simp only [holds_cons, holds_nil] at X
                    obtain ⟨⟨_, s0⟩, ⟨_, s1⟩, ⟨_, s2⟩, ⟨_, s3⟩, _⟩ := X
                    have hb4 := hb0.thru hb3 hb0.size
                    clear hb1 hb2
                    go_wp2_with fail
                    refine (orderOf_any _ _ _ _ la lb _ _ _ hla hlb (ha.below hb4 (Nat.le_refl _)) (hb.below hb4 (Nat.le_refl _))).mono ?_
                    rintro e w3 ⟨rfl, hb5⟩
                    have hb6 := hb3.thru hb5 hb3.size
                    have hb7 := hb0.thru hb6 hb0.size
                    have X := HH.below hb6 (Nat.le_refl _)
                    simp only [holds_cons, holds_nil] at X
                    obtain ⟨⟨_, t0⟩, ⟨_, t1⟩, ⟨_, t2⟩, ⟨_, t3⟩, _⟩ := X
                    have HSB : Hid (stateBad la lb = (decide (0 ≤ ordM la ca lb cb) || ordP la lb == 0)) := by
                      show _ = _
                      have e1 : decide (0 < la.length) = true := decide_eq_true (by have := I1.out; omega)
                      have e2 : decide (0 < lb.length) = true := decide_eq_true (by have := I2.out; omega)
                      unfold stateBad
                      rw [e1, e2]
                      have hv := cmpP.vals la lb
                      unfold ordM orI
                      rw [Bool.eq_iff_iff]
                      simp
                      split <;> omega
                    by_cases i3 : 0 ≤ ordM la ca lb cb
                    · have i3' : ordM la ca lb cb ≥ 0 := i3
                      have i3d : decide (0 ≤ ordM la ca lb cb) = true := decide_eq_true i3
                      have HS2 : Hid (stateBad la lb = true) := by show _ = _; rw [HSB.out, i3d]; rfl
                      go_wp2_with fail
                      go_meet
                      exact ⟨congrArg Value.bool HS2.out.symm, hb6⟩
                    · have i3' : ¬ ordM la ca lb cb ≥ 0 := i3
                      have i3d : decide (0 ≤ ordM la ca lb cb) = false := decide_eq_false i3
                      have HS2 : Hid (stateBad la lb = (ordP la lb == 0)) := by show _ = _; rw [HSB.out, i3d]; rfl
                      go_wp2_with fail
                      refine (samePath_any _ _ _ _ la lb _ _ _ hla hlb (ha.below hb7 (Nat.le_refl _)) (hb.below hb7 (Nat.le_refl _))).mono ?_
                      rintro e w4 ⟨rfl, hb8⟩
                      go_wp2_with fail
                      go_meet
                      exact ⟨congrArg Value.bool HS2.out.symm, hb6.thru hb8 hb6.size⟩
              case rest =>
                obtain ⟨rfl, hb1⟩ := hcut
                replace HH := HH.below hb1 (Nat.le_refl _)
                replace hb0 := hb0.thru hb1 hb0.size
                clear hb1 p0 p1 p2 p3
                have X := HH
                simp only [holds_cons, holds_nil] at X
                obtain ⟨⟨_, p0⟩, ⟨_, p1⟩, ⟨_, p2⟩, ⟨_, p3⟩, _⟩ := X
                cases hS : stateBad la lb with
                | true =>
                  have HS := hidE hS
                  clear hS
                  go_wp2
                  go_ret
                  exact ⟨ret_int (by unfold btwErr; rw [if_neg (by rw [HE.out]; simp), if_neg (by rw [HA.out]; simp), if_pos HS.out]), hb0⟩
                | false =>
                  have HS := hidE hS
                  clear hS
                  by_cases k1 : 8 < la.length
                  · have k1' : (la.length : Int) > 8 := by omega
                    go_wp2
                    go_ret
                    exact ⟨ret_int (by unfold btwErr; rw [if_neg (by rw [HE.out]; simp), if_neg (by rw [HA.out]; simp), if_neg (by rw [HS.out]; simp), if_pos (by omega)]), hb0⟩
                  · have k1' : ¬ (la.length : Int) > 8 := by omega
                    by_cases k2 : 8 < lb.length
                    · have k2' : (lb.length : Int) > 8 := by omega
                      go_wp2
                      go_ret
                      exact ⟨ret_int (by unfold btwErr; rw [if_neg (by rw [HE.out]; simp), if_neg (by rw [HA.out]; simp), if_neg (by rw [HS.out]; simp), if_pos (by omega)]), hb0⟩
                    · have k2' : ¬ (lb.length : Int) > 8 := by omega
                      go_wp2
                      go_ret
                      exact ⟨ret_int (by unfold btwErr; rw [if_neg (by rw [HE.out]; simp), if_neg (by rw [HA.out]; simp), if_neg (by rw [HS.out]; simp), if_neg (by omega)]), hb0⟩
end Go.Proofs.Ytnhjebdlcbhkcac
