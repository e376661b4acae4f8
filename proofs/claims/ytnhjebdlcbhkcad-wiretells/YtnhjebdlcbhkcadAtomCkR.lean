/- Contract of atom.Check. -/
import Derived.Test.YtnhjebdlcbhkcadOwnsF
namespace Go.Proofs.Ytnhjebdlcbhkcad
open Go.RowKit

/-- a sign's atom: its path, its clock, its byte -/
structure At where
  path : List (Int × Int)
  clock : Int
  sign : Int

/-- the cells behind a slice's address hold these atoms -/
def AtomsAt (w : World) (a : Option Addr) (l : List At) : Prop :=
  l = [] ∨ ∃ b off, a = some ⟨b, off, none⟩ ∧ b < w.heap.size ∧ ∀ i (h : i < l.length), ∃ p cap, w.cell? ⟨b, off + i * 3, none⟩ = some (.slice p l[i].path.length cap) ∧ w.cell? ⟨b, off + i * 3 + 1, none⟩ = some (.int .i64 l[i].clock) ∧ w.cell? ⟨b, off + i * 3 + 2, none⟩ = some (.int .u8 l[i].sign) ∧ StepsAt w p l[i].path ∧ l[i].path.length ≤ maxLen ∧ l[i].path.length ≤ cap ∧ 0 ≤ l[i].sign ∧ l[i].sign ≤ 255

theorem AtomsAt.below {w w' : World} {a : Option Addr} {l : List At} {B : Nat} (h : AtomsAt w a l) (hb : Below B w w') (hB : w.heap.size ≤ B) : AtomsAt w' a l := by
  rcases h with h | ⟨b, off, rfl, hlt, hc⟩
  · exact Or.inl h
  · refine Or.inr ⟨b, off, rfl, Nat.lt_of_lt_of_le hlt hb.size, fun i hi => ?_⟩
    obtain ⟨p, cap, h1, h2, h3, h4, h5⟩ := hc i hi
    exact ⟨p, cap, (hb.cell (p := ⟨b, off + i * 3, none⟩) (by show b < B; omega)).trans h1, (hb.cell (p := ⟨b, off + i * 3 + 1, none⟩) (by show b < B; omega)).trans h2, (hb.cell (p := ⟨b, off + i * 3 + 2, none⟩) (by show b < B; omega)).trans h3, h4.below hb hB, h5⟩

def ordA (x y : At) : Int := ordM x.path x.clock y.path y.clock
def isSignB (s : Int) : Bool := inB s 32 126

set_option maxHeartbeats 400000 in
theorem signIs_any (s : Int) (w : World) (_h0 : 0 ≤ s) (_h1 : s ≤ 255) :
    Calls Try.prog 93 #[.int .u8 s] w fun e w' => e = .returned (.bool (isSignB s)) ∧ w' = w := by
  by_cases h1 : 32 ≤ s <;> by_cases h2 : s ≤ 126
  all_goals
    go_enter Try.func93, Try.ntmps93
    go_wp2
    go_ret
    exact ⟨by simp [isSignB, inB, h1, h2], rfl⟩


/-- what Check of one atom behind another answers (none ahead: the first) -/
def chkAt (prev : Option At) (x : At) : Int :=
  if chk x.path x.clock ≠ 0 then chk x.path x.clock else if isSignB x.sign = false then 3 else match prev with
    | none => 0
    | some y => if 0 ≤ ordA y x then 4 else 0
def chkFrom (prev : Option At) : List At → Int
  | [] => 0
  | x :: l => if chkAt prev x ≠ 0 then chkAt prev x else chkFrom (some x) l
def chkL (l : List At) : Int := if 300 < l.length then 2 else chkFrom none l

theorem chkFrom_cons (prev : Option At) (x : At) (l : List At) : chkFrom prev (x :: l) = if chkAt prev x ≠ 0 then chkAt prev x else chkFrom (some x) l := rfl

def prevOf (l : List At) (k : Nat) : Option At := if k = 0 then none else l[k - 1]?

set_option maxRecDepth 100000 in
set_option maxHeartbeats 2000000 in
theorem atomCheck_any (a : Option Addr) (cap : Nat) (l : List At) (w : World) (hl : l.length ≤ maxLen) (h : AtomsAt w a l) :
    Calls Try.prog 85 #[.slice a l.length cap] w fun e w' => e = .returned (.int .i64 (chkL l)) ∧ Below w.heap.size w w' := by
  unfold maxLen at hl
  by_cases h300 : 300 < l.length
  · have hd : ((l.length : Int) > 300) := by omega
    go_enter Try.func85, Try.ntmps85
    go_wp2
    go_ret
    exact ⟨ret_int (by unfold chkL; rw [if_pos h300]), Below.refl _ _⟩
  have hd : ¬ ((l.length : Int) > 300) := by omega
  have HC : Hid (chkL l = chkFrom none l) := by show _ = _; unfold chkL; rw [if_neg h300]
  go_enter Try.func85, Try.ntmps85
  go_wp2
  go_loopw [11] (fun i wr => ∃ k : Nat, k ≤ l.length ∧ i = .int .i64 k ∧ chkFrom (prevOf l k) (l.drop k) = chkFrom none l ∧ Below w.heap.size w wr) (fun i _ => l.length - (intOf i).toNat)
  case atStart => exact ⟨0, Nat.zero_le _, rfl, rfl, Below.refl _ _⟩
  case round =>
    obtain ⟨k, hk, rfl, hck, hb⟩ := hrel
    have HK := hidE hck
    clear hck
    by_cases hlt : k < l.length
    · rcases h.below hb (Nat.le_refl _) with hs | ⟨ab, ao, rfl, hab, hc⟩
      · simp [hs] at hlt
      have hcons : Hid (chkFrom (prevOf l k) (l.drop k) = if chkAt (prevOf l k) l[k] ≠ 0 then chkAt (prevOf l k) l[k] else chkFrom (some l[k]) (l.drop (k + 1))) := by
        show _ = _
        rw [List.drop_eq_getElem_cons hlt, chkFrom_cons]
      have hnext : Hid (prevOf l (k + 1) = some l[k]) := by
        show _ = _
        unfold prevOf; rw [if_neg (by omega), Nat.add_sub_cancel, List.getElem?_eq_getElem hlt]
      obtain ⟨p, cp, c0, c1, c2, hst, hle, _, s0, s1⟩ := hc k hlt
      have HP : Hid (chkAt (prevOf l k) l[k] = chkAt (prevOf l k) ⟨l[k].path, l[k].clock, l[k].sign⟩) := rfl
      have hi1 : (k : Int) < l.length := by omega
      have HAll := hidE hc
      generalize l[k].path = pk at *
      generalize l[k].clock = ck at *
      generalize l[k].sign = sk at *
      clear hc h
      go_wp2_with fail
      have hbA : Below wr.heap.size wr (wr.alloc (Obj.cells #[.slice p pk.length cp, .int .i64 ck, .int .u8 sk] 72)) := (Below.refl _ _).alloc (Nat.le_refl _) _
      have q0 : (wr.alloc (Obj.cells #[.slice p pk.length cp, .int .i64 ck, .int .u8 sk] 72)).cell? ⟨wr.heap.size, 0, none⟩ = some (.slice p pk.length cp) := by simp
      have q1 : (wr.alloc (Obj.cells #[.slice p pk.length cp, .int .i64 ck, .int .u8 sk] 72)).cell? ⟨wr.heap.size, 1, none⟩ = some (.int .i64 ck) := by simp
      have q2 : (wr.alloc (Obj.cells #[.slice p pk.length cp, .int .i64 ck, .int .u8 sk] 72)).cell? ⟨wr.heap.size, 2, none⟩ = some (.int .u8 sk) := by simp
      have z1 : wr.heap.size < (wr.alloc (Obj.cells #[.slice p pk.length cp, .int .i64 ck, .int .u8 sk] 72)).heap.size := by simp
      generalize wr.alloc (Obj.cells #[.slice p pk.length cp, .int .i64 ck, .int .u8 sk] 72) = w1 at hbA q0 q1 q2 z1 ⊢
      refine (check_any _ _ pk _ _ hle (hst.below hbA (Nat.le_refl _))).mono ?_
      rintro e w2 ⟨rfl, hb2⟩
      have p0 := (hb2.cell (p := ⟨wr.heap.size, 0, none⟩) z1).trans q0
      have p1 := (hb2.cell (p := ⟨wr.heap.size, 1, none⟩) z1).trans q1
      have p2 := (hb2.cell (p := ⟨wr.heap.size, 2, none⟩) z1).trans q2
      have hbW : Below wr.heap.size wr w2 := hbA.thru hb2 hbA.size
      have hb2w := hb.thru hbW hb.size
      clear q0 q1 q2 hbA hb2 hb c0 c1 c2
      have HR : Hid (chkL l = if chkAt (prevOf l k) ⟨pk, ck, sk⟩ ≠ 0 then chkAt (prevOf l k) ⟨pk, ck, sk⟩ else chkFrom (some l[k]) (l.drop (k + 1))) := by
        show _ = _
        rw [HC.out, ← HK.out, hcons.out, HP.out]
      clear HC HP hcons
      by_cases hc0 : chk pk ck = 0
      · rw [hc0]
        have HA : Hid (chkAt (prevOf l k) ⟨pk, ck, sk⟩ = if isSignB sk = false then 3 else match prevOf l k with
            | none => 0
            | some y => if 0 ≤ ordA y ⟨pk, ck, sk⟩ then 4 else 0) := by
          show _ = _
          unfold chkAt
          rw [if_neg (by simpa using hc0)]
        clear hc0
        cases hsg : isSignB sk
        · have HA2 : Hid (chkL l = 3) := by
            show _ = _
            rw [HR.out, HA.out, if_pos hsg, if_pos (by decide)]
          have HSG := hidE hsg
          clear hsg
          go_wp2_with (go_at_call 93; refine (signIs_any _ _ s0 s1).mono ?_; rintro e w' ⟨rfl, rfl⟩; rw [HSG.out])
          go_ret
          exact ⟨ret_int HA2.out.symm, hb2w⟩
        have HSG := hidE hsg
        have HA2 : Hid (chkAt (prevOf l k) ⟨pk, ck, sk⟩ = match prevOf l k with
            | none => 0
            | some y => if 0 ≤ ordA y ⟨pk, ck, sk⟩ then 4 else 0) := by
          show _ = _
          rw [HA.out, if_neg (by rw [hsg]; decide)]
        clear HA hsg
        rcases Nat.eq_zero_or_pos k with rfl | hk0
        · have HA3 : Hid (chkFrom (some l[0]) (l.drop 1) = chkL l) := by
            show _ = _
            rw [HR.out, HA2.out]
            rfl
          have hg : decide ((0 : Int) > 0) = false := by decide
          go_wp2_with (go_at_call 93; refine (signIs_any _ _ s0 s1).mono ?_; rintro e w' ⟨rfl, rfl⟩; rw [HSG.out])
          refine wp_region_quiet_below (by kernel_rfl) (by kernel_rfl) ?_
          repeat (first | go_big_quiet_step (fail) | quiet_step (fail))
          refine wpQuiet_nil ?_
          intro _ hw'
          obtain ⟨⟨dq, osq⟩, hw''⟩ := hw'
          subst hw''
          go_wp2
          go_roundw
          case rel => exact ⟨1, by omega, by go_num, by rw [hnext.out, HA3.out]; unfold chkL; rw [if_neg h300], hb2w.thru (below_regrown _ _ _) hb2w.size⟩
          case measure => simp [intOf]; omega
        · obtain ⟨j, rfl⟩ : ∃ j, k = j + 1 := ⟨k - 1, by omega⟩
          obtain ⟨py, cy, c0, c1, _, hsy, hly, _⟩ := HAll.out j (by omega)
          have d0 := (hbW.cell (p := ⟨ab, ao + j * 3, none⟩) hab).trans c0
          have d1 := (hbW.cell (p := ⟨ab, ao + j * 3 + 1, none⟩) hab).trans c1
          have hpv : Hid (prevOf l (j + 1) = some l[j]) := by
            show _ = _
            unfold prevOf; rw [if_neg (by omega), Nat.add_sub_cancel, List.getElem?_eq_getElem (by omega)]
          have HA3 : Hid (chkAt (prevOf l (j + 1)) ⟨pk, ck, sk⟩ = if 0 ≤ ordM l[j].path l[j].clock pk ck then 4 else 0) := by
            show _ = _
            rw [HA2.out, hpv.out]; rfl
          have k0 := cell_regrown d0
          have k1 := cell_regrown d1
          have k2 := cell_regrown p0
          have k3 := cell_regrown p1
          have S1 := hidE (fun d os => (hsy.below hbW (Nat.le_refl _)).below (below_regrown w2 d os) (Nat.le_refl _))
          have S2 := hidE (fun d os => (hst.below hbW (Nat.le_refl _)).below (below_regrown w2 d os) (Nat.le_refl _))
          clear c0 c1 HA2 hsy hst
          generalize l[j].path = lp at d0 d1 hly HA3 k0 S1
          generalize l[j].clock = lc at d0 d1 HA3 k1
          have hw1 : IntKind.i64.wrap (((j + 1 : Nat) : Int) - 1) = (j : Int) := by rw [IntKind.wrap_i64] <;> omega
          have hg : decide (((j + 1 : Nat) : Int) > 0) = true := by simp
          have hj1 : (j : Int) < l.length := by omega
          go_wp2_with (go_at_call 93; refine (signIs_any _ _ s0 s1).mono ?_; rintro e w' ⟨rfl, rfl⟩; rw [HSG.out])
          refine wp_region_quiet_below (by kernel_rfl) (by kernel_rfl) ?_
          repeat (first | go_big_quiet_step ((go_at_call 13; exact Calls.regrown_of (order_any _ _ _ _ lp pk _ _ _ hly hle (S1.out _ _) (S2.out _ _)))) | quiet_step ((go_at_call 13; exact Calls.regrown_of (order_any _ _ _ _ lp pk _ _ _ hly hle (S1.out _ _) (S2.out _ _)))))
          refine wpQuiet_nil ?_
          intro _ hw'
          obtain ⟨⟨dq, osq⟩, hw''⟩ := hw'
          subst hw''
          by_cases ho : 0 ≤ ordM lp lc pk ck
          · have HF : Hid (chkL l = 4) := by show _ = _; rw [HR.out, HA3.out, if_pos ho, if_pos (by decide)]
            go_wp2
            go_ret
            exact ⟨ret_int HF.out.symm, hb2w.thru (below_regrown _ _ _) hb2w.size⟩
          · have HF : Hid (chkL l = chkFrom (some l[j + 1]) (l.drop (j + 1 + 1))) := by show _ = _; rw [HR.out, HA3.out, if_neg ho, if_neg (by decide)]
            have hlt' : ordM lp lc pk ck < 0 := by omega
            go_wp2
            go_roundw
            case rel => exact ⟨j + 1 + 1, by omega, by go_num, by rw [hnext.out, ← HF.out]; unfold chkL; rw [if_neg h300], hb2w.thru (below_regrown _ _ _) hb2w.size⟩
            case measure => simp [intOf]; omega
      · have hcb : (chk pk ck != 0) = true := by rw [bne_iff_ne]; exact hc0
        have HA : Hid (chkL l = chk pk ck) := by
          show _ = _
          have : chkAt (prevOf l k) ⟨pk, ck, sk⟩ = chk pk ck := by unfold chkAt; rw [if_pos hc0]
          rw [HR.out, this, if_pos hc0]
        clear hc0
        go_wp2_with fail
        go_ret
        exact ⟨ret_int HA.out.symm, hb2w⟩
    · go_wp2
      go_ret
      refine ⟨ret_int ?_, hb⟩
      rw [HC.out, ← HK.out, List.drop_eq_nil_of_le (by omega)]; rfl
end Go.Proofs.Ytnhjebdlcbhkcad

namespace Go.Proofs.Ytnhjebdlcbhkcad
open Go.RowKit

set_option maxHeartbeats 400000 in
theorem isSign_any (s : Int) (w : World) (h0 : 0 ≤ s) (h1 : s ≤ 255) :
    Calls Try.prog 53 #[.int .u8 s] w fun e w' => e = .returned (.bool (isSignB s)) ∧ w' = w := by
  have hw : IntKind.i64.wrap s = s := by rw [IntKind.wrap_i64] <;> omega
  go_enter Try.func53, Try.ntmps53
  go_wp2_with (go_at_call 56; refine (between_any _ _ _ _).mono ?_; rintro e w' ⟨rfl, rfl⟩)
  go_ret
  exact ⟨by rfl, rfl⟩

end Go.Proofs.Ytnhjebdlcbhkcad
