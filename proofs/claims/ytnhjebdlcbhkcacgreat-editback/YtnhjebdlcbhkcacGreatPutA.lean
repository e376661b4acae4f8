import Derived.Test.YtnhjebdlcbhkcacGreatNextOf
namespace Go.Proofs.YtnhjebdlcbhkcacGreat
open Go.RowKit

def lessSign (a x : At) : At := { x with sign := if a.sign < x.sign then a.sign else x.sign }
/-- what one atom of the row becomes when a is put, and whether a is there then -/
def stepPut (a x : At) (put : Bool) : List At × Bool :=
  if 0 < ordA x a then (if put then [x] else [a, x], true) else if ordA x a = 0 then ([lessSign a x], true) else ([x], put)
def putA (a : At) : List At → Bool → List At
  | [], put => if put then [] else [a]
  | x :: l, put => (stepPut a x put).1 ++ putA a l (stepPut a x put).2

theorem putA_drop {a : At} {l : List At} {k : Nat} (h : k < l.length) (put : Bool) : putA a (l.drop k) put = (stepPut a l[k] put).1 ++ putA a (l.drop (k + 1)) (stepPut a l[k] put).2 := by
  rw [List.drop_eq_getElem_cons h]; rfl

theorem grown_cell {w w' : World} {row : Option Nat} (h : w.grownBy w' row) {b : Nat} (hb : b < w.heap.size) (hne : some b ≠ row) (o : Nat) : w'.cell? ⟨b, o, none⟩ = w.cell? ⟨b, o, none⟩ :=
  World.cell?_of_block (w := w) (a := ⟨b, o, none⟩) (h.block b hb hne)

theorem own_ne {w : World} {base : Nat} {e : TypeId} {size : Nat} {v : Value} {n : Nat} {xs : List Value} (h : w.ownsRow base e size v n xs) {b : Nat} (hb : b < base ∨ w.heap.size ≤ b) : some b ≠ v.ownBlock := by
  intro e
  have := h.lt b e.symm
  omega

set_option maxRecDepth 100000 in
set_option maxHeartbeats 4000000 in
theorem putAtom_ok (a : Option Addr) (cap : Nat) (l : List At) (w : World) (h : AtomsAt w a l) (h300 : l.length ≤ 1000) (ra : Raw) (xa : At) (hra : RawOf w ra xa) :
    Calls Tryz.prog 29 #[.slice a l.length cap, .agg #[.slice ra.p ra.n ra.cap, .int .i64 ra.clock, .int .u8 ra.sign]] w fun e w' => ∃ p c, e = .returned (.slice p (putA xa l false).length c) ∧ AtomsAt w' p (putA xa l false) ∧ Below w.heap.size w w' := by
  obtain ⟨i0, hi, hz0, hz1, hz2⟩ := Tryz.info66
  have HAx : Hid (RawOf w ra xa) := hra
  obtain ⟨pa, na, ca, cka, ska⟩ := ra
  have hna : na = xa.path.length := hra.n
  have hcka : cka = xa.clock := hra.clock
  have hska : ska = xa.sign := hra.sign
  subst hna hcka hska
  have sa0 := hra.s0
  have sa1 := hra.s1
  have hlna := hra.len
  clear hra
  go_enter Tryz.func29, Tryz.ntmps29
  go_upto_region 1 with fail
  have hbA : Below w.heap.size w (w.alloc (Obj.cells #[.slice pa xa.path.length ca, .int .i64 xa.clock, .int .u8 xa.sign] 66)) := (Below.refl _ _).alloc (Nat.le_refl _) _
  have q0 : (w.alloc (Obj.cells #[.slice pa xa.path.length ca, .int .i64 xa.clock, .int .u8 xa.sign] 66)).cell? ⟨w.heap.size, 0, none⟩ = some (.slice pa xa.path.length ca) := by simp
  have q1 : (w.alloc (Obj.cells #[.slice pa xa.path.length ca, .int .i64 xa.clock, .int .u8 xa.sign] 66)).cell? ⟨w.heap.size, 1, none⟩ = some (.int .i64 xa.clock) := by simp
  have q2 : (w.alloc (Obj.cells #[.slice pa xa.path.length ca, .int .i64 xa.clock, .int .u8 xa.sign] 66)).cell? ⟨w.heap.size, 2, none⟩ = some (.int .u8 xa.sign) := by simp
  have z1 : w.heap.size < (w.alloc (Obj.cells #[.slice pa xa.path.length ca, .int .i64 xa.clock, .int .u8 xa.sign] 66)).heap.size := by simp
  generalize w.alloc (Obj.cells #[.slice pa xa.path.length ca, .int .i64 xa.clock, .int .u8 xa.sign] 66) = w1 at hbA q0 q1 q2 z1 ⊢
  replace h := h.below hbA (Nat.le_refl _)
  replace HAx : Hid (RawOf w1 ⟨pa, xa.path.length, ca, xa.clock, xa.sign⟩ xa) := HAx.out.below hbA (Nat.le_refl _)
  go_wp2_with fail
  go_loopw [7, 5, 6] (fun i v pv wr => ∃ k : Nat, k ≤ l.length ∧ i = .int .i64 k ∧ ∃ pb : Bool, pv = .bool pb ∧ ∃ outL, OwnsA w1 wr w1.heap.size v outL ∧ outL.length ≤ 2 * k ∧ outL ++ putA xa (l.drop k) pb = putA xa l false ∧ Below w1.heap.size w1 wr) (fun i _ _ _ => l.length - (intOf i).toNat)
  case atStart => exact ⟨0, Nat.zero_le _, rfl, false, rfl, [], OwnsA.nil _ _ _, Nat.zero_le _, rfl, Below.refl _ _⟩
  case round =>
    obtain ⟨k, hk, rfl, pb, rfl, outL, ⟨rs, hrl, hown, hrr⟩, hol, heq, hb⟩ := hrel
    have HEQ := hidE heq
    clear heq
    by_cases hlt : k < l.length
    · obtain ⟨ab, ao, rfl, hab, hc⟩ := h.raw (by omega)
      obtain ⟨⟨p, n, cp, ck, sk⟩, hr, c0, c1, c2⟩ := hc k hlt
      have hi1 : (k : Int) < l.length := by omega
      have HD : Hid (putA xa l false = outL ++ ((stepPut xa l[k] pb).1 ++ putA xa (l.drop (k + 1)) (stepPut xa l[k] pb).2)) := by
        show _ = _
        rw [← HEQ.out, putA_drop hlt]
      have HR := hidE hr
      have hn : n = l[k].path.length := hr.n
      have hck : ck = l[k].clock := hr.clock
      have hsk : sk = l[k].sign := hr.sign
      subst hn hck hsk
      have d0 := (hb.cell (p := ⟨ab, ao + k * 3, none⟩) hab).trans c0
      have d1 := (hb.cell (p := ⟨ab, ao + k * 3 + 1, none⟩) hab).trans c1
      have d2 := (hb.cell (p := ⟨ab, ao + k * 3 + 2, none⟩) hab).trans c2
      have hln := hr.len
      have s0 := hr.s0
      have s1 := hr.s1
      have HO : Hid (ordA l[k] xa = ordM l[k].path l[k].clock xa.path xa.clock) := rfl
      have HX : Hid (∃ x : At, x = l[k]) := ⟨_, rfl⟩
      obtain ⟨x, hx⟩ : ∃ x : At, x = l[k] := ⟨_, rfl⟩
      rw [← hx] at HD HR HO d0 d1 d2 hln s0 s1
      clear hc h c0 c1 c2 hr hx HX
      have hb0 := hb.alloc hb.size (.cells #[.slice p x.path.length cp, .int .i64 x.clock, .int .u8 x.sign] 66)
      have hown0 := hown.alloc (.cells #[.slice p x.path.length cp, .int .i64 x.clock, .int .u8 x.sign] 66)
      have hON : ∀ b, b = w.heap.size ∨ b = wr.heap.size → some b ≠ Value.ownBlock u5 := fun b hb' => own_ne hown (by omega)
      have x0 : (wr.alloc (.cells #[.slice p x.path.length cp, .int .i64 x.clock, .int .u8 x.sign] 66)).cell? ⟨wr.heap.size, 0, none⟩ = some (.slice p x.path.length cp) := by simp
      have x1 : (wr.alloc (.cells #[.slice p x.path.length cp, .int .i64 x.clock, .int .u8 x.sign] 66)).cell? ⟨wr.heap.size, 1, none⟩ = some (.int .i64 x.clock) := by simp
      have x2 : (wr.alloc (.cells #[.slice p x.path.length cp, .int .i64 x.clock, .int .u8 x.sign] 66)).cell? ⟨wr.heap.size, 2, none⟩ = some (.int .u8 x.sign) := by simp
      have xf : ∀ o, (wr.alloc (.cells #[.slice p x.path.length cp, .int .i64 x.clock, .int .u8 x.sign] 66)).frozen? ⟨wr.heap.size, o, none⟩ = false := by intro o; go_simp
      have a0 := (hb0.cell (p := ⟨w.heap.size, 0, none⟩) z1).trans q0
      have a1 := (hb0.cell (p := ⟨w.heap.size, 1, none⟩) z1).trans q1
      have a2 := (hb0.cell (p := ⟨w.heap.size, 2, none⟩) z1).trans q2
      have hsz : wr.heap.size < (wr.alloc (.cells #[.slice p x.path.length cp, .int .i64 x.clock, .int .u8 x.sign] 66)).heap.size := by simp
      have hzz : w.heap.size < wr.heap.size := Nat.lt_of_lt_of_le z1 hb.size
      have hnxa : w.heap.size ≠ wr.heap.size := by omega
      have hzw : w1.heap.size ≤ wr.heap.size := hb.size
      go_upto_region 7 with fail
      generalize wr.alloc (.cells #[.slice p x.path.length cp, .int .i64 x.clock, .int .u8 x.sign] 66) = w2 at hb0 hown0 x0 x1 x2 xf a0 a1 a2 hsz ⊢
      clear d0 d1 d2
      go_wp2_with fail
      refine (orderOf_any _ _ _ _ x.path xa.path _ _ _ hln hlna (HR.out.steps.below hb0 (Nat.le_refl _)) (HAx.out.steps.below hb0 (Nat.le_refl _))).mono ?_
      rintro e w3 ⟨rfl, hb3⟩
      have hown3 := owns_below hown0 hb3
      have hB3 := hb0.thru hb3 hb0.size
      replace x0 := (hb3.cell (p := ⟨wr.heap.size, 0, none⟩) hsz).trans x0
      replace x1 := (hb3.cell (p := ⟨wr.heap.size, 1, none⟩) hsz).trans x1
      replace x2 := (hb3.cell (p := ⟨wr.heap.size, 2, none⟩) hsz).trans x2
      replace xf : ∀ o, w3.frozen? ⟨wr.heap.size, o, none⟩ = false := fun o => (hb3.frozen (p := ⟨wr.heap.size, o, none⟩) hsz).trans (xf o)
      have hza : w.heap.size < w2.heap.size := by omega
      replace a0 := (hb3.cell (p := ⟨w.heap.size, 0, none⟩) hza).trans a0
      replace a1 := (hb3.cell (p := ⟨w.heap.size, 1, none⟩) hza).trans a1
      replace a2 := (hb3.cell (p := ⟨w.heap.size, 2, none⟩) hza).trans a2
      have hz3 : wr.heap.size < w3.heap.size := Nat.lt_of_lt_of_le hsz hb3.size
      have hz3a : w.heap.size < w3.heap.size := by omega
      clear hown0 hb0 hown hb hb3
      generalize hord : ordM x.path x.clock xa.path xa.clock = o at HO ⊢
      clear hord
      rcases (show 0 < o ∨ o = 0 ∨ o < 0 by omega) with ho | ho | ho
      · cases pb
        · have HSP : Hid (stepPut xa x false = ([xa, x], true)) := by show _ = _; unfold stepPut; rw [HO.out, if_pos ho]; rfl
          have hog : decide (o > 0) = true := by simpa using ho
          have hoe : ¬ o = 0 := by omega
          go_wp2_with (at_builtin; refine wpList_append_own _ rfl _ _ 22 rfl w1.heap.size 66 i0 (.agg #[.slice none 0 0, .int .i64 0, .int .u8 0]) 3 40 Tryz.underlying22 hi hz0 hz1 hz2 rfl (by decide) _ _ _ rfl (hown3.alloc _) ⟨w3.heap.size, 0, none⟩ 1 1 ((⟨pa, xa.path.length, ca, xa.clock, xa.sign⟩ : Raw).cells) rfl ?qc1 ?qc2 ?qc3 ?qc4 ?qc5 ?qc6 ?_)
          case qc1 => rfl
          case qc2 =>
            intro j u hj
            rw [Addr.add_lit, Nat.zero_add]
            exact raw_new w3 ⟨pa, xa.path.length, ca, xa.clock, xa.sign⟩ j u hj
          case qc3 => intro u hu; exact flatR_one [⟨pa, xa.path.length, ca, xa.clock, xa.sign⟩] u (by simpa [flatR] using hu)
          case qc4 => unfold maxLen; omega
          case qc5 => omega
          case qc6 => exact (hB3.alloc hB3.size _).size
          intro v4 w4n hown4n hgrow4 hnil4
          have hB4 := (hB3.alloc hB3.size (.cells #[.slice pa xa.path.length ca, .int .i64 xa.clock, .int .u8 xa.sign] 66)).grown hgrow4 (hB3.alloc hB3.size _).size (fun k hk => (hown3.lt k hk).1)
          obtain ⟨rs4, hrl4, hown4, hrr4⟩ := ownsA_snoc hrl hrr HAx.out hown4n
          have hbn : Below w3.heap.size w3 (w3.alloc (Obj.cells #[.slice pa xa.path.length ca, .int .i64 xa.clock, .int .u8 xa.sign] 66)) := (Below.refl _ _).alloc (Nat.le_refl _) _
          have hgz : wr.heap.size < (w3.alloc (Obj.cells #[.slice pa xa.path.length ca, .int .i64 xa.clock, .int .u8 xa.sign] 66)).heap.size := Nat.lt_of_lt_of_le hz3 hbn.size
          have y0 := ((grown_cell hgrow4 hgz (hON _ (Or.inr rfl)) 0).trans (hbn.cell (p := ⟨wr.heap.size, 0, none⟩) hz3)).trans x0
          have y1 := ((grown_cell hgrow4 hgz (hON _ (Or.inr rfl)) 1).trans (hbn.cell (p := ⟨wr.heap.size, 1, none⟩) hz3)).trans x1
          have y2 := ((grown_cell hgrow4 hgz (hON _ (Or.inr rfl)) 2).trans (hbn.cell (p := ⟨wr.heap.size, 2, none⟩) hz3)).trans x2
          have hol4 : (outL ++ [xa]).length ≤ 2 * k + 1 := by simp; omega
          have HAp : Hid (outL ++ [xa, x] = (outL ++ [xa]) ++ [x]) := by show _ = _; simp
          clear x0 x1 x2 a0 a1 a2 hbn hgz hgrow4 hown4n hnil4 hrl hrr hown3 hB3
          have hHD : Hid (putA xa l false = outL ++ ([xa, x] ++ putA xa (l.drop (k + 1)) true)) := by show _ = _; rw [HD.out, HSP.out]
          have HE4 : Hid (∃ oL, oL = outL ++ [xa]) := ⟨_, rfl⟩
          generalize hoL : outL ++ [xa] = oL at hrl4 hown4 hrr4 hol4
          have HOL := hidE hoL
          clear hoL
          go_wp2_with (at_builtin; refine wpList_append_own _ rfl _ _ 22 rfl w1.heap.size 66 i0 (.agg #[.slice none 0 0, .int .i64 0, .int .u8 0]) 3 40 Tryz.underlying22 hi hz0 hz1 hz2 rfl (by decide) _ _ _ rfl (hown4.alloc _) ⟨w4n.heap.size, 0, none⟩ 1 1 ((⟨p, x.path.length, cp, x.clock, x.sign⟩ : Raw).cells) rfl ?qc1 ?qc2 ?qc3 ?qc4 ?qc5 ?qc6 ?_)
          case qc1 => rfl
          case qc2 =>
            intro j u hj
            rw [Addr.add_lit, Nat.zero_add]
            exact raw_new w4n ⟨p, x.path.length, cp, x.clock, x.sign⟩ j u hj
          case qc3 => intro u hu; exact flatR_one [⟨p, x.path.length, cp, x.clock, x.sign⟩] u (by simpa [flatR] using hu)
          case qc4 => unfold maxLen; omega
          case qc5 => omega
          case qc6 => exact (hB4.alloc hB4.size _).size
          intro v9 w9n hown9n hgrow9 hnil9

          go_wp2_with fail
          go_roundw
          case rel =>
            refine ⟨k + 1, by omega, by go_num, true, rfl, oL ++ [x], ownsA_snoc hrl4 hrr4 HR.out hown9n, by simp; omega, ?_, (hB4.alloc hB4.size _).grown hgrow9 (hB4.alloc hB4.size _).size (fun k hk => (hown4.lt k hk).1)⟩
            rw [hHD.out, ← HOL.out]
            simp
          case measure => simp [intOf]; omega
        · have HSP : Hid (stepPut xa x true = ([x], true)) := by show _ = _; unfold stepPut; rw [HO.out, if_pos ho]; rfl
          have hog : decide (o > 0) = true := by simpa using ho
          have hoe : ¬ o = 0 := by omega
          go_wp2_with (at_builtin; refine wpList_append_own _ rfl _ _ 22 rfl w1.heap.size 66 i0 (.agg #[.slice none 0 0, .int .i64 0, .int .u8 0]) 3 40 Tryz.underlying22 hi hz0 hz1 hz2 rfl (by decide) _ _ _ rfl (hown3.alloc _) ⟨w3.heap.size, 0, none⟩ 1 1 ((⟨p, x.path.length, cp, x.clock, x.sign⟩ : Raw).cells) rfl ?qc1 ?qc2 ?qc3 ?qc4 ?qc5 ?qc6 ?_)
          case qc1 => rfl
          case qc2 =>
            intro j u hj
            rw [Addr.add_lit, Nat.zero_add]
            exact raw_new w3 ⟨p, x.path.length, cp, x.clock, x.sign⟩ j u hj
          case qc3 => intro u hu; exact flatR_one [⟨p, x.path.length, cp, x.clock, x.sign⟩] u (by simpa [flatR] using hu)
          case qc4 => unfold maxLen; (try simp only [List.length_append, List.length_cons, List.length_nil]); omega
          case qc5 => (try simp only [List.length_append, List.length_cons, List.length_nil]); omega
          case qc6 => exact (hB3.alloc hB3.size _).size
          intro v9 w9n hown9n hgrow9 hnil9

          go_wp2_with fail
          go_roundw
          case rel =>
            refine ⟨k + 1, by omega, by go_num, true, rfl, outL ++ [x], ownsA_snoc hrl hrr HR.out hown9n, by simp; omega, ?_, (hB3.alloc hB3.size _).grown hgrow9 (hB3.alloc hB3.size _).size (fun k hk => (hown3.lt k hk).1)⟩
            rw [HD.out, HSP.out]
            simp
          case measure => simp [intOf]; omega
      · subst ho
        by_cases hs : xa.sign < x.sign
        · have HSP : Hid (stepPut xa x pb = ([lessSign xa x], true)) := by show _ = _; unfold stepPut; rw [HO.out, if_neg (by decide), if_pos rfl]
          have HRs : Hid (RawOf w1 ⟨p, x.path.length, cp, x.clock, xa.sign⟩ (lessSign xa x)) := by
            unfold lessSign; rw [if_pos hs]
            exact ⟨rfl, rfl, rfl, HR.out.steps, HR.out.len, HR.out.cap, sa0, sa1⟩
          have hown4 : (w3.setCell ⟨wr.heap.size, 2, none⟩ (.int .u8 xa.sign)).ownsRow w1.heap.size 66 3 u5 outL.length (flatR rs) := ownsRow_setCell_other hown3 (fun e => hON _ (Or.inr rfl) e.symm) _
          have hB4 := hB3.setCell (p := ⟨wr.heap.size, 2, none⟩) hzw (.int .u8 xa.sign)
          have y0 : (w3.setCell ⟨wr.heap.size, 2, none⟩ (.int .u8 xa.sign)).cell? ⟨wr.heap.size, 0, none⟩ = some (.slice p x.path.length cp) := by rw [World.cell?_setCell_other _ _ _ _ (by simp)]; exact x0
          have y1 : (w3.setCell ⟨wr.heap.size, 2, none⟩ (.int .u8 xa.sign)).cell? ⟨wr.heap.size, 1, none⟩ = some (.int .i64 x.clock) := by rw [World.cell?_setCell_other _ _ _ _ (by simp)]; exact x1
          have y2 : (w3.setCell ⟨wr.heap.size, 2, none⟩ (.int .u8 xa.sign)).cell? ⟨wr.heap.size, 2, none⟩ = some (.int .u8 xa.sign) := World.cell?_setCell_same _ _ _ x2
          go_upto_region 15 with fail
          generalize w3.setCell ⟨wr.heap.size, 2, none⟩ (.int .u8 xa.sign) = w4 at hown4 hB4 y0 y1 y2 ⊢
          clear x0 x1 x2 a0 a1 a2 hown3 hB3
          go_wp2_with (at_builtin; refine wpList_append_own _ rfl _ _ 22 rfl w1.heap.size 66 i0 (.agg #[.slice none 0 0, .int .i64 0, .int .u8 0]) 3 40 Tryz.underlying22 hi hz0 hz1 hz2 rfl (by decide) _ _ _ rfl (hown4.alloc _) ⟨w4.heap.size, 0, none⟩ 1 1 ((⟨p, x.path.length, cp, x.clock, xa.sign⟩ : Raw).cells) rfl ?qc1 ?qc2 ?qc3 ?qc4 ?qc5 ?qc6 ?_)
          case qc1 => rfl
          case qc2 =>
            intro j u hj
            rw [Addr.add_lit, Nat.zero_add]
            exact raw_new w4 ⟨p, x.path.length, cp, x.clock, xa.sign⟩ j u hj
          case qc3 => intro u hu; exact flatR_one [⟨p, x.path.length, cp, x.clock, xa.sign⟩] u (by simpa [flatR] using hu)
          case qc4 => unfold maxLen; (try simp only [List.length_append, List.length_cons, List.length_nil]); omega
          case qc5 => (try simp only [List.length_append, List.length_cons, List.length_nil]); omega
          case qc6 => exact (hB4.alloc hB4.size _).size
          intro v9 w9n hown9n hgrow9 hnil9

          go_wp2_with fail
          go_roundw
          case rel =>
            refine ⟨k + 1, by omega, by go_num, true, rfl, outL ++ [(lessSign xa x)], ownsA_snoc hrl hrr HRs.out hown9n, by simp; omega, ?_, (hB4.alloc hB4.size _).grown hgrow9 (hB4.alloc hB4.size _).size (fun k hk => (hown4.lt k hk).1)⟩
            rw [HD.out, HSP.out]
            simp
          case measure => simp [intOf]; omega
        · have HSP : Hid (stepPut xa x pb = ([lessSign xa x], true)) := by show _ = _; unfold stepPut; rw [HO.out, if_neg (by decide), if_pos rfl]
          have HLS : Hid (lessSign xa x = x) := by show _ = _; unfold lessSign; rw [if_neg hs]
          have hs' : x.sign ≤ xa.sign := by omega
          clear hs
          go_wp2_with (at_builtin; refine wpList_append_own _ rfl _ _ 22 rfl w1.heap.size 66 i0 (.agg #[.slice none 0 0, .int .i64 0, .int .u8 0]) 3 40 Tryz.underlying22 hi hz0 hz1 hz2 rfl (by decide) _ _ _ rfl (hown3.alloc _) ⟨w3.heap.size, 0, none⟩ 1 1 ((⟨p, x.path.length, cp, x.clock, x.sign⟩ : Raw).cells) rfl ?qc1 ?qc2 ?qc3 ?qc4 ?qc5 ?qc6 ?_)
          case qc1 => rfl
          case qc2 =>
            intro j u hj
            rw [Addr.add_lit, Nat.zero_add]
            exact raw_new w3 ⟨p, x.path.length, cp, x.clock, x.sign⟩ j u hj
          case qc3 => intro u hu; exact flatR_one [⟨p, x.path.length, cp, x.clock, x.sign⟩] u (by simpa [flatR] using hu)
          case qc4 => unfold maxLen; (try simp only [List.length_append, List.length_cons, List.length_nil]); omega
          case qc5 => (try simp only [List.length_append, List.length_cons, List.length_nil]); omega
          case qc6 => exact (hB3.alloc hB3.size _).size
          intro v9 w9n hown9n hgrow9 hnil9

          go_wp2_with fail
          go_roundw
          case rel =>
            refine ⟨k + 1, by omega, by go_num, true, rfl, outL ++ [(lessSign xa x)], ownsA_snoc hrl hrr (by rw [HLS.out]; exact HR.out) hown9n, by simp; omega, ?_, (hB3.alloc hB3.size _).grown hgrow9 (hB3.alloc hB3.size _).size (fun k hk => (hown3.lt k hk).1)⟩
            rw [HD.out, HSP.out]
            simp
          case measure => simp [intOf]; omega
      · have HSP : Hid (stepPut xa x pb = ([x], pb)) := by show _ = _; unfold stepPut; rw [HO.out, if_neg (by omega), if_neg (by omega)]
        have hog : decide (o > 0) = false := by simpa using (show o ≤ 0 by omega)
        have hoe : ¬ o = 0 := by omega
        go_wp2_with (at_builtin; refine wpList_append_own _ rfl _ _ 22 rfl w1.heap.size 66 i0 (.agg #[.slice none 0 0, .int .i64 0, .int .u8 0]) 3 40 Tryz.underlying22 hi hz0 hz1 hz2 rfl (by decide) _ _ _ rfl (hown3.alloc _) ⟨w3.heap.size, 0, none⟩ 1 1 ((⟨p, x.path.length, cp, x.clock, x.sign⟩ : Raw).cells) rfl ?qc1 ?qc2 ?qc3 ?qc4 ?qc5 ?qc6 ?_)
        case qc1 => rfl
        case qc2 =>
          intro j u hj
          rw [Addr.add_lit, Nat.zero_add]
          exact raw_new w3 ⟨p, x.path.length, cp, x.clock, x.sign⟩ j u hj
        case qc3 => intro u hu; exact flatR_one [⟨p, x.path.length, cp, x.clock, x.sign⟩] u (by simpa [flatR] using hu)
        case qc4 => unfold maxLen; (try simp only [List.length_append, List.length_cons, List.length_nil]); omega
        case qc5 => (try simp only [List.length_append, List.length_cons, List.length_nil]); omega
        case qc6 => exact (hB3.alloc hB3.size _).size
        intro v9 w9n hown9n hgrow9 hnil9

        go_wp2_with fail
        go_roundw
        case rel =>
          refine ⟨k + 1, by omega, by go_num, pb, rfl, outL ++ [x], ownsA_snoc hrl hrr HR.out hown9n, by simp; omega, ?_, (hB3.alloc hB3.size _).grown hgrow9 (hB3.alloc hB3.size _).size (fun k hk => (hown3.lt k hk).1)⟩
          rw [HD.out, HSP.out]
          simp
        case measure => simp [intOf]; omega
    · have hkl : k = l.length := by omega
      subst hkl
      have a0 := (hb.cell (p := ⟨w.heap.size, 0, none⟩) z1).trans q0
      have a1 := (hb.cell (p := ⟨w.heap.size, 1, none⟩) z1).trans q1
      have a2 := (hb.cell (p := ⟨w.heap.size, 2, none⟩) z1).trans q2
      have HE2 : Hid (putA xa l false = outL ++ if pb then [] else [xa]) := by
        show _ = _
        rw [← HEQ.out, List.drop_eq_nil_of_le (Nat.le_refl _)]; rfl
      clear HEQ
      cases pb
      · have HE3 : Hid (putA xa l false = outL ++ [xa]) := by show _ = _; rw [HE2.out]; rfl
        clear HE2
        go_wp2_with (at_builtin; refine wpList_append_own _ rfl _ _ 22 rfl w1.heap.size 66 i0 (.agg #[.slice none 0 0, .int .i64 0, .int .u8 0]) 3 40 Tryz.underlying22 hi hz0 hz1 hz2 rfl (by decide) _ _ _ rfl (hown.alloc _) ⟨wr.heap.size, 0, none⟩ 1 1 ((⟨pa, xa.path.length, ca, xa.clock, xa.sign⟩ : Raw).cells) rfl ?qc1 ?qc2 ?qc3 ?qc4 ?qc5 ?qc6 ?_)
        case qc1 => rfl
        case qc2 =>
          intro j u hj
          rw [Addr.add_lit, Nat.zero_add]
          exact raw_new wr ⟨pa, xa.path.length, ca, xa.clock, xa.sign⟩ j u hj
        case qc3 => intro u hu; exact flatR_one [⟨pa, xa.path.length, ca, xa.clock, xa.sign⟩] u (by simpa [flatR] using hu)
        case qc4 => unfold maxLen; omega
        case qc5 => omega
        case qc6 => exact (hb.alloc hb.size _).size
        intro v9 w9n hown9n hgrow9 hnil9

        go_wp2_with fail
        have hb9 := (hb.alloc hb.size _).grown hgrow9 (hb.alloc hb.size _).size (fun k hk => (hown.lt k hk).1)
        obtain ⟨p9, c9, hv9, hat, _⟩ := (ownsA_snoc hrl hrr HAx.out hown9n).atoms hb9
        subst hv9
        go_ret
        rw [HE3.out]
        exact ⟨p9, c9, rfl, hat, hbA.thru hb9 hbA.size⟩
      · have HE3 : Hid (putA xa l false = outL) := by show _ = _; rw [HE2.out]; simp
        clear HE2
        obtain ⟨p9, c9, rfl, hat, _⟩ := OwnsA.atoms ⟨rs, hrl, hown, hrr⟩ hb
        go_wp2_with fail
        go_ret
        rw [HE3.out]
        exact ⟨p9, c9, rfl, hat, hbA.thru hb hbA.size⟩
end Go.Proofs.YtnhjebdlcbhkcacGreat
