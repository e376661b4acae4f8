/- The law WireTells. -/
import Derived.Test.YtnhjebdlcbhkcadWBack
import Derived.Test.YtnhjebdlcbhkcadDecR
import Derived.Test.YtnhjebdlcbhkcadEncR
import Derived.Test.YtnhjebdlcbhkcadOwnsF
import Derived.ProofKit
import Derived.SizedLaws
import Derived.Lib.SmallJoins
import Derived.Deep.SlicePairs
import Derived.Lib.RowBridge
namespace Go.Proofs.Ytnhjebdlcbhkcad
open Go.RowKit

/-- DecodeOf, as the law takes it -/
theorem decOf_row (s : ByteArray) (w : World) (hs : s.size ≤ maxLen) :
    Calls Try.prog 25 #[.string s] w fun r w' => ∃ p q cp cq, r = .returned (.tuple #[ntV (decN s.data.toList) p q cp cq, .int .i64 (decE s.data.toList)]) ∧ NtAt w' (decN s.data.toList) p q ∧ Below w.heap.size w w' := decodeOf_any s w hs

set_option maxRecDepth 100000 in
set_option maxHeartbeats 4000000 in
theorem wireTells_ok (n : Nt) (p q : Option Addr) (cp cq : Nat) (s : ByteArray) (w : World) (h : NtAt w n p q) (hs : s.size ≤ maxLen) :
    Calls Try.prog 7 #[ntV n p q cp cq, .string s] w fun e w' => e = .returned (.bool true) ∧ Below w.heap.size w w' := by
  have HBG := hidE wireBegun_true
  have hA := alloc_below w (Obj.cells #[.int .i64 n.site, .int .i64 n.number, .slice p n.needs.length cp, .slice q n.deeds.length cq] 53)
  have hX := Blk.new w #[.int .i64 n.site, .int .i64 n.number, .slice p n.needs.length cp, .slice q n.deeds.length cq] 53
  have HE := hidE (fun w1 (hb : Below w.heap.size w w1) => encode_any n p q cp cq w1 (h.below hb))
  have HC := hidE (fun w1 (hb : Below w.heap.size w w1) => checkNote_any n p q cp cq w1 (h.below hb))
  have HK := hidE (fun w1 (hb : Below w.heap.size w w1) => wireCheck_any n p q cp cq w1 (h.below hb))
  have HO := hidE (fun w1 (hb : Below w.heap.size w w1) (h0 : chkN n = 0) => encodeOf_any n p q cp cq w1 (h.below hb) (roomN_of h0))
  have HD := hidE (fun w1 => dec_row s w1 hs)
  have HR := hidE (fun w1 => decOf_row s w1 hs)
  have HS := hidE (fun p1 q1 cp1 cq1 p2 q2 cp2 cq2 w1 (h1 : NtAt w1 (decN s.data.toList) p1 q1) (h2 : NtAt w1 (decN s.data.toList) p2 q2) => sameNote_true p1 q1 p2 q2 cp1 cq1 cp2 cq2 (decN s.data.toList) w1 h1 h2)
  clear h
  unfold ntV at *
  generalize strOfNums (encN n) = t at *
  generalize decE s.data.toList = er at *
  generalize decN s.data.toList = m at *
  generalize m.needs.length = m1 at *
  generalize m.deeds.length = m2 at *
  generalize m.site = m3 at *
  generalize m.number = m4 at *
  generalize n.needs.length = n1 at *
  generalize n.deeds.length = n2 at *
  generalize n.site = n3 at *
  generalize n.number = n4 at *
  go_enter Try.func7, Try.ntmps7
  go_upto_region 1 with fail
  generalize w.alloc (Obj.cells #[.int .i64 n3, .int .i64 n4, .slice p n1 cp, .slice q n2 cq] 53) = W at *
  have x0 := hX.is 0 rfl
  have x1 := hX.is 1 rfl
  have x2 := hX.is 2 rfl
  have x3 := hX.is 3 rfl
  have HX := hidE hX
  have HA := hidE hA
  clear hX hA
  go_upto_region 2 with (go_at_call 21; refine (HE.out _ HA.out).mono ?_; rintro e w1 ⟨rfl, hb⟩)
  have HX1 := hidE (HX.out.thruB hb)
  have HB1 := hidE (HA.out.trans (hb.mono HA.out.size))
  clear hb HX HA HE x0 x1 x2 x3
  go_upto_region 3 with (go_at_call 22; refine (HD.out _).mono ?_; rintro e w2 ⟨pa, qa, ca, da, rfl, ha, hb⟩)
  have hAl := alloc_below w2 (Obj.cells #[.int .i64 m3, .int .i64 m4, .slice pa m1 ca, .slice qa m2 da] 53)
  have HY2 := hidE (Blk.new w2 #[.int .i64 m3, .int .i64 m4, .slice pa m1 ca, .slice qa m2 da] 53)
  have HX2 := hidE ((HX1.out.thruB hb).thruB hAl)
  have HB2 := hidE ((HB1.out.trans (hb.mono HB1.out.size)).trans (hAl.mono (HB1.out.trans (hb.mono HB1.out.size)).size))
  have HA2 := hidE (ha.below hAl)
  generalize w2.alloc (Obj.cells #[.int .i64 m3, .int .i64 m4, .slice pa m1 ca, .slice qa m2 da] 53) = W2 at *
  clear hb ha hAl HX1 HB1 HD
  have x0 := HX2.out.is 0 rfl
  have x1 := HX2.out.is 1 rfl
  have x2 := HX2.out.is 2 rfl
  have x3 := HX2.out.is 3 rfl
  go_upto_region 4 with (go_at_call 23; refine (HC.out _ HB2.out).mono ?_; rintro e w3 ⟨rfl, hb⟩)
  have HX3 := hidE (HX2.out.thruB hb)
  have HY3 := hidE (HY2.out.thruB hb)
  have HB3 := hidE (HB2.out.trans (hb.mono HB2.out.size))
  have HA3 := hidE (HA2.out.below hb)
  clear hb HX2 HY2 HB2 HA2 HC
  replace x0 := HX3.out.is 0 rfl
  replace x1 := HX3.out.is 1 rfl
  replace x2 := HX3.out.is 2 rfl
  replace x3 := HX3.out.is 3 rfl
  by_cases h0 : chkN n = 0
  · have HO1 := hidE (fun w1 hb => HO.out w1 hb h0)
    rw [if_pos h0, h0]
    rw [h0] at HK
    clear HO h0
    go_upto_region 6 with (go_at_call 24; refine (HO1.out _ HB3.out).mono ?_; rintro e w4 ⟨rfl, hb⟩)
    have HX4 := hidE (HX3.out.thruB hb)
    have HY4 := hidE (HY3.out.thruB hb)
    have HB4 := hidE (HB3.out.trans (hb.mono HB3.out.size))
    have HA4 := hidE (HA3.out.below hb)
    clear hb HX3 HY3 HB3 HA3
    go_upto_region 7 with (go_at_call 25; refine (HR.out _).mono ?_; rintro e w5 ⟨pb, qb, cb, db, rfl, ha, hb⟩)
    have hAl := alloc_below w5 (Obj.cells #[.int .i64 m3, .int .i64 m4, .slice pb m1 cb, .slice qb m2 db] 53)
    have HZ5 := hidE (Blk.new w5 #[.int .i64 m3, .int .i64 m4, .slice pb m1 cb, .slice qb m2 db] 53)
    have HX5 := hidE ((HX4.out.thruB hb).thruB hAl)
    have HY5 := hidE ((HY4.out.thruB hb).thruB hAl)
    have HB5 := hidE ((HB4.out.trans (hb.mono HB4.out.size)).trans (hAl.mono (HB4.out.trans (hb.mono HB4.out.size)).size))
    have HA5 := hidE ((HA4.out.below hb).below hAl)
    have HC5 := hidE (ha.below hAl)
    generalize w5.alloc (Obj.cells #[.int .i64 m3, .int .i64 m4, .slice pb m1 cb, .slice qb m2 db] 53) = W5 at *
    clear hb ha hAl HX4 HY4 HB4 HA4 HR x0 x1 x2 x3
    go_wp2_with (first
      | (go_at_call 26; refine (HBG.out _).mono ?_; rintro e w6 ⟨rfl, hb6⟩; have HB6 := hidE (HB5.out.trans (hb6.mono HB5.out.size)); have x0 := (HX5.out.thruB hb6).is 0 rfl; have x1 := (HX5.out.thruB hb6).is 1 rfl; have x2 := (HX5.out.thruB hb6).is 2 rfl; have x3 := (HX5.out.thruB hb6).is 3 rfl)
      | (go_at_call 27; refine (HK.out _ HB6.out).mono ?_; rintro e w7 ⟨rfl, hb7⟩; have HB7 := hidE (HB6.out.trans (hb7.mono HB6.out.size)); have y0 := ((HY5.out.thruB hb6).thruB hb7).is 0 rfl; have y1 := ((HY5.out.thruB hb6).thruB hb7).is 1 rfl; have y2 := ((HY5.out.thruB hb6).thruB hb7).is 2 rfl; have y3 := ((HY5.out.thruB hb6).thruB hb7).is 3 rfl; have z0 := ((HZ5.out.thruB hb6).thruB hb7).is 0 rfl; have z1 := ((HZ5.out.thruB hb6).thruB hb7).is 1 rfl; have z2 := ((HZ5.out.thruB hb6).thruB hb7).is 2 rfl; have z3 := ((HZ5.out.thruB hb6).thruB hb7).is 3 rfl)
      | (go_at_call 28; refine (HS.out pa qa ca da pb qb cb db _ ((HA5.out.below hb6).below hb7) ((HC5.out.below hb6).below hb7)).mono ?_; rintro e w8 ⟨rfl, hb8⟩))
    go_ret
    exact ⟨by simp, HB7.out.trans (hb8.mono HB7.out.size)⟩
  · have hcb : (chkN n == 0) = false := by rw [beq_eq_false_iff_ne]; exact h0
    have hcb2 : ¬ (chkN n = 0) := h0
    rw [if_neg h0]
    have hb : Below w3.heap.size w3 w3 := Below.refl _ _
    clear HO h0
    generalize chkN n = cn at *
    go_upto_region 6 with fail
    have HX4 := hidE (HX3.out.thruB hb)
    have HY4 := hidE (HY3.out.thruB hb)
    have HB4 := hidE (HB3.out.trans (hb.mono HB3.out.size))
    have HA4 := hidE (HA3.out.below hb)
    clear hb HX3 HY3 HB3 HA3
    go_upto_region 7 with (go_at_call 25; refine (HR.out _).mono ?_; rintro e w5 ⟨pb, qb, cb, db, rfl, ha, hb⟩)
    have hAl := alloc_below w5 (Obj.cells #[.int .i64 m3, .int .i64 m4, .slice pb m1 cb, .slice qb m2 db] 53)
    have HZ5 := hidE (Blk.new w5 #[.int .i64 m3, .int .i64 m4, .slice pb m1 cb, .slice qb m2 db] 53)
    have HX5 := hidE ((HX4.out.thruB hb).thruB hAl)
    have HY5 := hidE ((HY4.out.thruB hb).thruB hAl)
    have HB5 := hidE ((HB4.out.trans (hb.mono HB4.out.size)).trans (hAl.mono (HB4.out.trans (hb.mono HB4.out.size)).size))
    have HA5 := hidE ((HA4.out.below hb).below hAl)
    have HC5 := hidE (ha.below hAl)
    generalize w5.alloc (Obj.cells #[.int .i64 m3, .int .i64 m4, .slice pb m1 cb, .slice qb m2 db] 53) = W5 at *
    clear hb ha hAl HX4 HY4 HB4 HA4 HR x0 x1 x2 x3
    go_wp2_with (first
      | (go_at_call 26; refine (HBG.out _).mono ?_; rintro e w6 ⟨rfl, hb6⟩; have HB6 := hidE (HB5.out.trans (hb6.mono HB5.out.size)); have x0 := (HX5.out.thruB hb6).is 0 rfl; have x1 := (HX5.out.thruB hb6).is 1 rfl; have x2 := (HX5.out.thruB hb6).is 2 rfl; have x3 := (HX5.out.thruB hb6).is 3 rfl)
      | (go_at_call 27; refine (HK.out _ HB6.out).mono ?_; rintro e w7 ⟨rfl, hb7⟩; have HB7 := hidE (HB6.out.trans (hb7.mono HB6.out.size)); have y0 := ((HY5.out.thruB hb6).thruB hb7).is 0 rfl; have y1 := ((HY5.out.thruB hb6).thruB hb7).is 1 rfl; have y2 := ((HY5.out.thruB hb6).thruB hb7).is 2 rfl; have y3 := ((HY5.out.thruB hb6).thruB hb7).is 3 rfl; have z0 := ((HZ5.out.thruB hb6).thruB hb7).is 0 rfl; have z1 := ((HZ5.out.thruB hb6).thruB hb7).is 1 rfl; have z2 := ((HZ5.out.thruB hb6).thruB hb7).is 2 rfl; have z3 := ((HZ5.out.thruB hb6).thruB hb7).is 3 rfl)
      | (go_at_call 28; refine (HS.out pa qa ca da pb qb cb db _ ((HA5.out.below hb6).below hb7) ((HC5.out.below hb6).below hb7)).mono ?_; rintro e w8 ⟨rfl, hb8⟩))
    go_ret
    exact ⟨by simp, HB7.out.trans (hb8.mono HB7.out.size)⟩
end Go.Proofs.Ytnhjebdlcbhkcad

namespace Go.Proofs.Ytnhjebdlcbhkcad
open Go.ChangeShapes Go.WideShapes Go.ChangeAt Go.RowKit Go.Deep Go.Joins

theorem Try.own : ownKnob Try.prog.godebug = none := by kernel_rfl
theorem Try.laidOut : laidOutB Try.prog = true := by kernel_rfl

theorem trodAll_stays {H : Type} {enc : TypeId × Value → H} {W W' : World} (hb : Below W.heap.size W W') : ∀ {ts : List TypeId} {vs : List Value} {ds : List (DataW H)} {ps : List MemPlace}, (∀ t ∈ ts, Try.prog.readableRec t = true ∧ t < Try.prog.types.size) →
    DataW.TrodAll enc Try.prog W 0 (fun _ => true) true ts vs ds ps → (∀ x ∈ ps, x.block < W.heap.size) → DataW.TrodAll enc Try.prog W' 0 (fun b => decide (b < W.heap.size)) true ts vs ds ps := by
  intro ts
  induction ts with
  | nil => intro vs ds ps _ h _; cases vs <;> cases ds <;> simp_all [DataW.TrodAll]
  | cons t ts ih =>
    intro vs ds ps hr h hlt
    obtain ⟨v, vs', d, ds', p, q, rfl, rfl, rfl, h0, hrest⟩ := trodAll_cons h
    have ht := hr t (by simp)
    exact trodAll_cons_mk (Below.trod Try.laidOut ht.1 ht.2 h0 hb (fun x hx => hlt x (by simp [hx]))) (ih (fun u hu => hr u (by simp [hu])) hrest (fun x hx => hlt x (by simp [hx])))

set_option maxRecDepth 100000 in
theorem open_mark {H : Type} {enc : TypeId × Value → H} {W : World} {b0 : Nat} {v : Value} {d : DataW H} {p : List MemPlace} (hv : Value.okWide Try.prog W .any b0 29 v) (h : DataW.Trod enc Try.prog W 0 (fun _ => true) true 29 v d p) :
    ∃ a cap l c, v = .agg #[.slice a (List.length l) cap, .int .i64 c] ∧ StepsAt W a l ∧ l.length ≤ cap ∧ l.length ≤ maxLen := by
  obtain ⟨v0, v1, y0, y1, n, rfl, rfl, rfl, t0, t1⟩ := open_agg2 Try.underlying29 (by kernel_rfl) (by kernel_rfl) hv h
  obtain ⟨c, hc, _⟩ := DataW.trod_int Try.underlying3 t1
  simp only [List.cons.injEq, and_true] at hc
  subst hc
  rcases open_slice_pairs Try.underlying27 Try.underlying110 (by kernel_rfl) rfl rfl (by kernel_rfl) (by kernel_rfl) t0 with ⟨hcs, _⟩ | ⟨ad, len, cap, m, n', V0, V1, D0, D1, P0, P1, hcs, hb, hl, hm, hmm, hx, hcell⟩
  · simp only [List.cons.injEq, and_true] at hcs
    subst hcs
    exact ⟨none, 0, [], c, rfl, Or.inl rfl, Nat.le_refl _, Nat.zero_le _⟩
  · simp only [List.cons.injEq, and_true] at hcs
    subst hcs
    simp only [if_true] at hmm
    subst hmm
    have each : ∀ i, i < len → ∃ q : Int × Int, V0 i = .int .i64 q.1 ∧ V1 i = .int .i64 q.2 := by
      intro i hi
      obtain ⟨_, _, e0, e1⟩ := hcell i (by omega)
      obtain ⟨x, hx, _⟩ := DataW.trod_int Try.underlying3 e0
      obtain ⟨y, hy, _⟩ := DataW.trod_int Try.underlying3 e1
      simp only [List.cons.injEq, and_true] at hx hy
      exact ⟨(x, y), hx, hy⟩
    obtain ⟨q, hq⟩ := choose_lt each
    refine ⟨some ad, m, (List.range len).map q, c, by simp, ?_, by simpa using hl, by simp; omega⟩
    by_cases hlen : len = 0
    · subst hlen; exact Or.inl rfl
    · obtain ⟨b, off, spot⟩ := ad
      have h0 := (hcell 0 (by omega)).1
      have hspot : spot = none := by simpa [Addr.add] using World.cell?_spot h0
      subst hspot
      refine Or.inr ⟨b, off, rfl, block_lt_of_cell h0, fun i hi => ?_⟩
      have hi' : i < len := by simpa using hi
      obtain ⟨e0, e1, _, _⟩ := hcell i (by omega)
      rw [(hq i hi').1, add_plain] at e0
      rw [(hq i hi').2, add_plain] at e1
      simp only [List.getElem_map, List.getElem_range]
      exact ⟨e0, e1⟩

end Go.Proofs.Ytnhjebdlcbhkcad
