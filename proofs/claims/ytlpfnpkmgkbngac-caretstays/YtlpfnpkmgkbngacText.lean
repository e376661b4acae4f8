import Derived.Test.YtlpfnpkmgkbngacFresh
import Derived.Test.YtlpfnpkmgkbngacAtomCk
import Derived.Deep.OwnRows
import Derived.Laws.BytesArg
namespace Go.Proofs.Ytlpfnpkmgkbngac
open Go.RowKit

set_option maxHeartbeats 400000 in
theorem take2_any (T R n : Nat) (k : Nat) (b : Bool) (w : World) (hk : k < n) (_hn : n ≤ 1000) (h0 : w.cell? ⟨T, 0, none⟩ = some (.slice (some ⟨R, 0, none⟩) n n)) (h1 : w.cell? ⟨R, k, none⟩ = some (.bool b)) :
    Calls Try.prog 146 #[.int .i64 k, .pointer (some ⟨T, 0, none⟩)] w fun e w' => e = .returned (.bool (!b)) ∧ w' = w := by
  have hi : (k : Int) < n := by omega
  go_enter Try.func146, Try.ntmps146
  go_wp2
  go_ret
  exact ⟨rfl, rfl⟩

set_option maxRecDepth 100000 in
set_option maxHeartbeats 4000000 in
theorem pickNot_ok (T R : Nat) (tk : Nat → Bool) (a : Option Addr) (cap : Nat) (l : List At) (w : World) (h : AtomsAt w a l) (hl : l.length ≤ 1000) (hok : ∀ i (h : i < l.length), 0 < l[i].path.length ∧ l[i].path.length ≤ 10) (hT : T < w.heap.size) (hR : R < w.heap.size) (hT0 : w.cell? ⟨T, 0, none⟩ = some (.slice (some ⟨R, 0, none⟩) l.length l.length)) (hRk : ∀ k, k < l.length → w.cell? ⟨R, k, none⟩ = some (.bool (tk k))) :
    Calls Try.prog 122 #[.slice a l.length cap, .func (.func 146) #[] #[.pointer (some ⟨T, 0, none⟩)]] w fun e w' => ∃ p c, e = .returned (.slice p (pickTo (fun k => !tk k) l l.length).length c) ∧ AtomsAt w' p (pickTo (fun k => !tk k) l l.length) ∧ PickRow w' w.heap.size (.slice p (pickTo (fun k => !tk k) l l.length).length c) (pickTo (fun k => !tk k) l l.length) ∧ Below w.heap.size w w' := by
  obtain ⟨i0, hi, hz0, hz1, hz2⟩ := Try.info50
  have HOK := hidE hok
  clear hok
  go_enter Try.func122, Try.ntmps122
  go_wp2
  go_loopw [10, 5] (fun i v wr => ∃ k : Nat, k ≤ l.length ∧ i = .int .i64 k ∧ PickRow wr w.heap.size v (pickTo (fun k => !tk k) l k) ∧ Below w.heap.size w wr) (fun i _ _ => l.length - (intOf i).toNat)
  case atStart => exact ⟨0, Nat.zero_le _, rfl, ⟨[], rfl, World.ownsRow_nil _ _ _ _, fun i h => by simp [pickTo] at h⟩, Below.refl _ _⟩
  case round =>
    obtain ⟨k, hk, rfl, hrow, hb⟩ := hrel
    by_cases hlt : k < l.length
    · obtain ⟨ab, ao, rfl, hab, hc⟩ := (h.below hb (Nat.le_refl _)).raw (by omega)
      obtain ⟨⟨p, n, cp, ck, sk⟩, hr, c0, c1, c2⟩ := hc k hlt
      have hi1 : (k : Int) < l.length := by omega
      have HT : Hid (pickTo (fun k => !tk k) l (k + 1) = pickTo (fun k => !tk k) l k ++ if (!tk k) = true then [l[k]] else []) := by
        show (pickTo (fun k => !tk k) l k ++ if (!tk k) = true then l[k]?.toList else []) = _
        rw [List.getElem?_eq_getElem hlt]; rfl
      have r0 := (hb.cell (p := ⟨T, 0, none⟩) hT).trans hT0
      have r1 := (hb.cell (p := ⟨R, k, none⟩) hR).trans (hRk k hlt)
      have hTr : T < wr.heap.size := Nat.lt_of_lt_of_le hT hb.size
      have hRr : R < wr.heap.size := Nat.lt_of_lt_of_le hR hb.size
      generalize tk k = tb at r1 HT
      have HL := hidE (pickTo_len (fun k => !tk k) l k)
      have hokk := HOK.out k hlt
      have hn : n = l[k].path.length := hr.n
      have hck : ck = l[k].clock := hr.clock
      have hsk : sk = l[k].sign := hr.sign
      subst hn hck hsk
      have s0 := hr.s0
      have s1 := hr.s1
      have hst := hr.steps
      generalize pickTo (fun k => !tk k) l k = xs at *
      generalize l[k] = x at *
      clear hc h hr HOK
      obtain ⟨pb, po, rfl⟩ : ∃ pb po, p = some ⟨pb, po, none⟩ := by
        rcases hst with e | ⟨pb, po, rfl, _⟩
        · have e' : x.path = [] := e
          have : x.path.length = 0 := by rw [e']; rfl
          omega
        · exact ⟨pb, po, rfl⟩
      obtain ⟨rs, hrl, hown, hrr⟩ := hrow
      have hb0 := hb.alloc hb.size (.cells #[.slice (some ⟨pb, po, none⟩) x.path.length cp, .int .i64 x.clock, .int .u8 x.sign] 50)
      have hbn : Below wr.heap.size wr (wr.alloc (.cells #[.slice (some ⟨pb, po, none⟩) x.path.length cp, .int .i64 x.clock, .int .u8 x.sign] 50)) := (Below.refl _ _).alloc (Nat.le_refl _) _
      have x0 : (wr.alloc (.cells #[.slice (some ⟨pb, po, none⟩) x.path.length cp, .int .i64 x.clock, .int .u8 x.sign] 50)).cell? ⟨wr.heap.size, 0, none⟩ = some (.slice (some ⟨pb, po, none⟩) x.path.length cp) := by simp
      have x1 : (wr.alloc (.cells #[.slice (some ⟨pb, po, none⟩) x.path.length cp, .int .i64 x.clock, .int .u8 x.sign] 50)).cell? ⟨wr.heap.size, 1, none⟩ = some (.int .i64 x.clock) := by simp
      have x2 : (wr.alloc (.cells #[.slice (some ⟨pb, po, none⟩) x.path.length cp, .int .i64 x.clock, .int .u8 x.sign] 50)).cell? ⟨wr.heap.size, 2, none⟩ = some (.int .u8 x.sign) := by simp
      have hsz : wr.heap.size < (wr.alloc (.cells #[.slice (some ⟨pb, po, none⟩) x.path.length cp, .int .i64 x.clock, .int .u8 x.sign] 50)).heap.size := by simp
      have hON : some wr.heap.size ≠ Value.ownBlock u5 := own_ne hown (by omega)
      have hownN := owns_below hown hbn
      have HRN := hidE (fun i h h' => (hrr i h h').below hbn)
      have hstN := hst.below hbn (Nat.le_refl _)
      have hwn : w.heap.size ≤ wr.heap.size := hb.size
      replace r0 := (hbn.cell (p := ⟨T, 0, none⟩) hTr).trans r0
      replace r1 := (hbn.cell (p := ⟨R, k, none⟩) hRr).trans r1
      go_upto_region 5 with fail
      generalize wr.alloc (.cells #[.slice (some ⟨pb, po, none⟩) x.path.length cp, .int .i64 x.clock, .int .u8 x.sign] 50) = w2 at hb0 hbn x0 x1 x2 hsz hownN HRN hstN r0 r1 ⊢
      clear c0 c1 c2 hown hrr hst hb hbn
      cases tb
      rotate_left
      · have HT2 : Hid (pickTo (fun k => !tk k) l (k + 1) = xs) := by show _ = _; rw [HT.out, if_neg (by decide), List.append_nil]
        clear HT
        go_wp2_with (go_at_call 146; refine (take2_any T R l.length k true _ hlt hl r0 r1).mono ?_; rintro e w' ⟨rfl, hw⟩; rw [hw]; clear hw w')
        go_roundw
        case rel => exact ⟨k + 1, by omega, by go_num, by rw [HT2.out]; exact ⟨rs, hrl, hownN, HRN.out⟩, hb0⟩
        case measure => simp [intOf]; omega
      replace HT : Hid (pickTo (fun k => !tk k) l (k + 1) = xs ++ [x]) := by show _ = _; rw [HT.out, if_pos (by decide)]
      go_upto_region 6 with (go_at_call 146; refine (take2_any T R l.length k false _ hlt hl r0 r1).mono ?_; rintro e w' ⟨rfl, hw⟩; rw [hw]; clear hw w')
      have hBd : Below w2.heap.size w2 w2.drew := (Below.refl _ _).drew
      have hml : x.path.length ≤ maxLen := by unfold maxLen; omega
      go_region_held_law (fun w' => w'.cell? ⟨wr.heap.size, 0, none⟩ = some (.slice (some ⟨pb, po, none⟩) x.path.length cp) ∧ w'.cell? ⟨wr.heap.size, 1, none⟩ = some (.int .i64 x.clock) ∧ w'.cell? ⟨wr.heap.size, 2, none⟩ = some (.int .u8 x.sign))
          (first | exact ⟨x0, x1, x2⟩ | exact ⟨t0, t1, t2⟩ | exact ⟨s0', s1', s2'⟩ | exact ⟨y0, y1, y2⟩)
          (first
            | (refine step_append_own rfl (.tmp 18) (.tmp 25) 29 rfl w.heap.size 50 i0 (.agg #[.slice none 0 0, .int .i64 0, .int .u8 0]) 3 40 Try.underlying29 hi hz0 hz1 hz2 rfl (by decide) u5 xs.length (flatR rs) (by simp [Act.eval]) (hown3.alloc _) ⟨w3.heap.size, 0, none⟩ 1 1 ((⟨some ⟨g, 0, none⟩, x.path.length, cap2, x.clock, x.sign⟩ : Raw).cells) (by simp [Act.eval]) rfl (by intro j u hj; rw [Addr.add_lit, Nat.zero_add]; exact raw_new w3 ⟨some ⟨g, 0, none⟩, x.path.length, cap2, x.clock, x.sign⟩ j u hj) (fun u hu => flatR_one [⟨some ⟨g, 0, none⟩, x.path.length, cap2, x.clock, x.sign⟩] u (by simpa [flatR] using hu)) (by have := HL.out; unfold maxLen; omega) (by have := HL.out; omega) (by simp; omega) ?_; intro v' w4 hown4 hgrow; have y0 := ((grown_cell hgrow hz4 hON 0).trans (hb4.cell (p := ⟨wr.heap.size, 0, none⟩) hz3)).trans t0; have y1 := ((grown_cell hgrow hz4 hON 1).trans (hb4.cell (p := ⟨wr.heap.size, 1, none⟩) hz3)).trans t1; have y2 := ((grown_cell hgrow hz4 hON 2).trans (hb4.cell (p := ⟨wr.heap.size, 2, none⟩) hz3)).trans t2)
            | (go_at_call 50; refine (freshMark_ok pb po _ _ x.path _ _ rfl hml (by omega) (hstN.below hBd (Nat.le_refl _))).mono ?_; rintro e w3 ⟨g, cap2, rfl, hownS, hb3⟩; have hb3' : Below w2.heap.size w2 w3 := hBd.thru hb3 (Nat.le_refl _); have t0 := (hb3'.cell (p := ⟨wr.heap.size, 0, none⟩) hsz).trans x0; have t1 := (hb3'.cell (p := ⟨wr.heap.size, 1, none⟩) hsz).trans x1; have t2 := (hb3'.cell (p := ⟨wr.heap.size, 2, none⟩) hsz).trans x2; have hz3 : wr.heap.size < w3.heap.size := Nat.lt_of_lt_of_le hsz hb3'.size; have hown3 := owns_below hownN hb3'; have hb4 : Below w3.heap.size w3 (w3.alloc (.cells #[.slice (some ⟨g, 0, none⟩) x.path.length cap2, .int .i64 x.clock, .int .u8 x.sign] 50)) := (Below.refl _ _).alloc (Nat.le_refl _) _; have hz4 : wr.heap.size < (w3.alloc (.cells #[.slice (some ⟨g, 0, none⟩) x.path.length cap2, .int .i64 x.clock, .int .u8 x.sign] 50)).heap.size := Nat.lt_of_lt_of_le hz3 hb4.size; have s0' := (hb4.cell (p := ⟨wr.heap.size, 0, none⟩) hz3).trans t0; have s1' := (hb4.cell (p := ⟨wr.heap.size, 1, none⟩) hz3).trans t1; have s2' := (hb4.cell (p := ⟨wr.heap.size, 2, none⟩) hz3).trans t2))
      have hb3w := hb0.thru hb3' hb0.size
      have hb5 := (hb3w.alloc hb3w.size _).grown hgrow (hb3w.alloc hb3w.size _).size (fun k hk => (hown3.lt k hk).1)
      have hrow2 : PickRow w4 w.heap.size v' (xs ++ [x]) := PickRow.snoc hrl (hown3.alloc _) (fun i h h' => ((HRN.out i h h').below hb3').below hb4) ⟨g, cap2, rfl, (owns_base hownS (by show w.heap.size ≤ w2.heap.size; omega)).alloc _, hml, s0, s1⟩ hgrow hown4
      go_wp2_with fail
      go_roundw
      case rel => exact ⟨k + 1, by omega, by go_num, by rw [HT.out]; exact hrow2, hb5⟩
      case measure => simp [intOf]; omega
    · have hkl : k = l.length := by omega
      subst hkl
      obtain ⟨p, c, rfl, hat, _⟩ := hrow.owns.atoms (Below.refl _ _)
      go_wp2
      go_ret
      exact ⟨p, c, rfl, hat, hrow, hb⟩
end Go.Proofs.Ytlpfnpkmgkbngac

namespace Go.Proofs.Ytlpfnpkmgkbngac
open Go.RowKit

theorem Try.info5 : ∃ i, Try.prog.info? 5 = some i ∧ i.zero = some (.int .u8 0) ∧ i.size = 1 ∧ i.bytes = 1 := by
  have h : (Try.prog.info? 5).map (fun i => (i.zero, i.size, i.bytes)) = some (some (.int .u8 0), 1, 1) := by kernel_rfl
  rw [Option.map_eq_some_iff] at h
  obtain ⟨i, hi, he⟩ := h
  simp only [Prod.mk.injEq] at he
  exact ⟨i, hi, he⟩

theorem chkL_len {l : List At} (h : chkL l = 0) : l.length ≤ 300 := by
  unfold chkL at h; split at h <;> omega

def txtS (l : List At) : ByteArray := strOfNums (l.map At.sign)

set_option maxRecDepth 100000 in
set_option maxHeartbeats 2000000 in
theorem text_bad (a : Option Addr) (cap : Nat) (l : List At) (w : World) (hl : l.length ≤ maxLen) (h : AtomsAt w a l) (h0 : chkL l ≠ 0) :
    Calls Try.prog 140 #[.slice a l.length cap] w fun e w' => e = .returned (.tuple #[.string ⟨#[]⟩, .int .i64 (chkL l)]) ∧ Below w.heap.size w w' := by
  have hx : (chkL l != 0) = true := bne_iff_ne.2 h0
  clear h0
  go_enter Try.func140, Try.ntmps140
  go_wp2_with (go_at_call 89; refine (atomCheck_any _ _ l _ hl h).mono ?_; rintro e w' ⟨rfl, hb⟩)
  refine bodyPost_ret (v := .tuple #[.string ⟨#[]⟩, .int .i64 (chkL l)]) (by simp [results, Try.results140, go_sem]) rfl ?_
  exact ⟨rfl, hb⟩

set_option maxRecDepth 100000 in
set_option maxHeartbeats 2000000 in
theorem text_ok (a : Option Addr) (cap : Nat) (l : List At) (w : World) (h : AtomsAt w a l) (h0 : chkL l = 0) :
    Calls Try.prog 140 #[.slice a l.length cap] w fun e w' => e = .returned (.tuple #[.string (txtS l), .int .i64 0]) ∧ Below w.heap.size w w' := by
  have h300 := chkL_len h0
  have hl : l.length ≤ maxLen := by unfold maxLen; omega
  obtain ⟨i0, hi, hz0, hz1, hz2⟩ := Try.info5
  have hmk : ∀ w : World, (Instr.makeSlice 119 (.int .i64 l.length) (.int .i64 l.length)).run Try.prog w = .ok (.slice (some ⟨w.heap.size, 0, none⟩) l.length l.length) (w.alloc (.cells (madeCells #[.int .u8 0] l.length) 5)) := by
    intro w
    have := run_make (P := Try.prog) w 119 5 i0 _ Try.underlying119 hi hz0 .i64 .i64 l.length l.length (by omega) (Int.le_refl _) (by rw [hz2]; omega) (by omega)
    rw [hz1] at this
    simp only [Int.toNat_natCast, Nat.mul_one] at this
    exact this
  have H0 := hidE h0
  clear h0
  go_enter Try.func140, Try.ntmps140
  go_wp2_with fail
  refine (atomCheck_any _ _ l _ hl h).mono ?_
  rintro e w1 ⟨rfl, hb1⟩
  rw [H0.out]
  go_wp2_with fail
  have hR := World.rowIs_made w1 (.int .u8 0) l.length 5
  have hb2 : Below w1.heap.size w1 (w1.alloc (.cells (madeCells #[.int .u8 0] l.length) 5)) := (Below.refl _ _).alloc (Nat.le_refl _) _
  have hO : w.heap.size ≤ w1.heap.size := hb1.size
  have hb3 := hb1.thru hb2 hb1.size
  generalize w1.alloc (.cells (madeCells #[.int .u8 0] l.length) 5) = W at hR hb3 ⊢
  generalize w1.heap.size = O at hR hO ⊢
  clear hb1 hb2 hmk
  go_loopw [18] (fun i wr => ∃ k : Nat, k ≤ l.length ∧ i = .int .i64 k ∧ (∃ f, wr.rowIs O 5 l.length f ∧ ∀ j, (hj : j < l.length) → j < k → f j = .int .u8 l[j].sign) ∧ Below w.heap.size w wr) (fun i _ => l.length - (intOf i).toNat)
  case atStart => exact ⟨0, Nat.zero_le _, rfl, ⟨_, hR, fun j _ h => by omega⟩, hb3⟩
  case round =>
    obtain ⟨k, hk, rfl, ⟨f, hf, hfk⟩, hb⟩ := hrel
    have HF := hidE hfk
    clear hfk
    by_cases hlt : k < l.length
    · rcases h.below hb (Nat.le_refl _) with hs | ⟨ab, ao, rfl, hab, hc⟩
      · simp [hs] at hlt
      obtain ⟨p, cp, c0, c1, c2, hst, hle, _⟩ := hc k hlt
      have hi1 : (k : Int) < l.length := by omega
      have HS : Hid (∃ sk, sk = l[k].sign) := ⟨_, rfl⟩
      have fc := hf.alloc (.cells #[.slice p l[k].path.length cp, .int .i64 l[k].clock, .int .u8 l[k].sign] 50)
      have ff := fc.frozen k
      have fcc := fc.cell hlt
      have hset := fc.set k (.int .u8 l[k].sign)
      have hON : O ≠ wr.heap.size := by have := hf.lt; omega
      clear hc h
      go_wp2_with fail
      go_roundw
      case rel => exact ⟨k + 1, by omega, by go_num, ⟨_, hset, fun j hj hjk => by
        show (if j = k then _ else f j) = _
        by_cases e : j = k
        · subst e; rw [if_pos rfl]
        · rw [if_neg e]; exact HF.out j hj (by omega)⟩, (hb.alloc hb.size _).setCell hO _⟩
      case measure => simp [intOf]; omega
    · have hkl : k = l.length := by omega
      subst hkl
      have hcv := run_convert_bytes_arg (P := Try.prog) wr 119 5 Try.underlying119 Try.underlying5 O 0 l.length l.length (l.map At.sign) (by simp) (fun i hi => by
        rw [Nat.zero_add, hf.cell hi, HF.out i hi hi]; simp [List.getD, hi])
      have hcv2 := hcv 9 Try.underlying9
      clear hcv
      go_wp2
      refine bodyPost_ret (v := .tuple #[.string (txtS l), .int .i64 0]) (by simp [results, Try.results140, go_sem, txtS]) rfl ?_
      exact ⟨rfl, hb⟩
end Go.Proofs.Ytlpfnpkmgkbngac
