/- Contract of doer.do. -/
import Derived.Test.YtnhjebdlcbhkcacGreatDTake
import Derived.Test.YtnhjebdlcbhkcacGreatSearch
import Derived.Deep.RegionLaw
import Derived.Test.YtnhjebdlcbhkcacGreatDoD
namespace Go.Proofs.YtnhjebdlcbhkcacGreat
open Go.RowKit

set_option maxRecDepth 100000 in
set_option maxHeartbeats 4000000 in
theorem doerDo_ok (base D : Nat) (vA vG : Value) (l : List At) (g : List Mk) (d : Dd) (p q : Option Addr) (cp cq : Nat) (w : World) (hd : DoerAt w base D vA vG l g) (hok : OkS l g) (h : DdAt w d p q) (hc : chkD d = 0) :
    Calls Tryz.prog 42 #[.pointer (some ⟨D, 0, none⟩), ddV d p q cp cq] w fun e w' => Below base w w' ∧ ((doD l g d = none ∧ e = .returned (.int .i64 2)) ∨ ∃ l' g', doD l g d = some (l', g') ∧ e = .returned (.int .i64 0) ∧ ∃ vA' vG', DoerAt w' base D vA' vG' l' g') := by
  have hbw : base ≤ w.heap.size := Nat.le_trans hd.le (Nat.le_of_lt hd.lt)
  have hB := (Below.refl w.heap.size w).alloc (Nat.le_refl _) (Obj.cells #[.int .i64 d.kind, .slice p d.rp.length cp, .int .i64 d.rc, .string d.rt, .slice q d.mp.length cq, .int .i64 d.mc, .int .i64 d.many] 50)
  have hBb := hB.mono hbw
  replace hd := hd.below hB
  replace h := h.below hB
  by_cases hk : d.kind = 1
  · have HP := hidE (doerPut_ok base D vA vG l g p cp d.rp d.rc d.rt _ hd (okL_chk hok.atoms) hok.up (by have := hok.len; omega) h.run (okPut_of hk hc))
    have HE : Hid (∀ n, (if 300 < (putL l (putsD g d)).length then none else some (putL l (putsD g d), g)) = n → doD l g d = n) := fun n e => by unfold doD; rw [if_pos hk]; exact e
    clear hd hok h hc
    unfold ddV
    unfold putsD at HE
    obtain ⟨kind, rp, rc, rt, mp, mc, many⟩ := d
    simp only at hk HP HE hB hBb ⊢
    subst hk
    go_enter Tryz.func42, Tryz.ntmps42
    go_wp2_with fail
    refine HP.out.mono ?_
    rintro e w1 ⟨hb, hcs⟩
    clear HP
    have hB1 := hBb.trans hb
    rcases hcs with ⟨hn, rfl⟩ | ⟨hn, rfl, vA', hD⟩
    · have HN := hidE hn
      clear hn
      go_wp2_with fail
      go_ret
      exact ⟨hB1, Or.inl ⟨HE.out _ (if_pos HN.out), rfl⟩⟩
    · have HN := hidE hn
      clear hn
      go_wp2_with fail
      go_ret
      exact ⟨hB1, Or.inr ⟨_, _, HE.out _ (if_neg (Nat.not_lt.2 HN.out)), rfl, vA', vG, hD⟩⟩
  · have hk2 : d.kind = 2 := by rcases kind_of hc with h | h <;> omega
    obtain ⟨h0, h1, h60, hn⟩ := okTake_of hk2 hc
    have hpos := (chk_ok h0).1
    have hms := h.mark
    rcases h.mark with hs | ⟨pb, po, rfl, _⟩
    · rw [hs] at hpos; simp at hpos
    have HP := hidE (doerTake_ok base D d.many.toNat vA vG l g pb po cq d.mp d.mc _ hd (okL_chk hok.atoms) hok.up hok.len hms h0 (by omega) hn)
    have HE : Hid (∀ n, (if 600 < ((nextsL d.mp d.mc d.many.toNat).foldl insG g).length then none else some (takeL l (nextsL d.mp d.mc d.many.toNat), (nextsL d.mp d.mc d.many.toNat).foldl insG g)) = n → doD l g d = n) := fun n e => by unfold doD takesD; rw [if_neg hk]; exact e
    have hmn : ((d.many.toNat : Nat) : Int) = d.many := by omega
    clear hd hok h hc hms h0 hpos hn hk
    rw [hmn] at HP
    unfold ddV
    obtain ⟨kind, rp, rc, rt, mp, mc, many⟩ := d
    simp only at hk2 HP HE hB hBb hmn h1 h60 ⊢
    clear hmn
    subst hk2
    go_enter Tryz.func42, Tryz.ntmps42
    go_wp2_with fail
    refine HP.out.mono ?_
    rintro e w1 ⟨hb, hcs⟩
    clear HP
    have hB1 := hBb.trans hb
    rcases hcs with ⟨hn, rfl⟩ | ⟨hn, rfl, vA', vG', hD⟩
    · have HN := hidE hn
      clear hn
      go_wp2_with fail
      go_ret
      exact ⟨hB1, Or.inl ⟨HE.out _ (if_pos HN.out), rfl⟩⟩
    · have HN := hidE hn
      clear hn
      go_wp2_with fail
      go_ret
      exact ⟨hB1, Or.inr ⟨_, _, HE.out _ (if_neg (Nat.not_lt.2 HN.out)), rfl, vA', vG', hD⟩⟩
end Go.Proofs.YtnhjebdlcbhkcacGreat

namespace Go.Proofs.YtnhjebdlcbhkcacGreat
open Go.RowKit

theorem appDoer {base D cg : Nat} {vA v' : Value} {pg : Option Addr} {l : List At} {g : List Mk} {x : Mk} {r : RawK} {rs : List RawK} {w0 w w' : World}
    (hd : DoerAt w base D vA (.slice pg g.length cg) l g) (hrl : rs.length = g.length) (hown : w.ownsRow base 46 2 (.slice pg g.length cg) g.length (flatK rs)) (hrr : ∀ i (h : i < g.length) (h' : i < rs.length), PickK w base rs[i] g[i]) (hx : PickK w base r x) (hB : Below base w0 w) (hbw : base ≤ w.heap.size)
    (hgrow : w.grownBy w' (Value.slice pg g.length cg).ownBlock) (hown' : w'.ownsRow base 46 2 v' (g.length + 1) (flatK rs ++ r.cells)) :
    ∃ p6 n6 c6, v' = .slice p6 n6 c6 ∧ w'.cell? ⟨D, 1, none⟩ = some (.slice pg g.length cg) ∧ (∀ o, w'.frozen? ⟨D, o, none⟩ = false) ∧ DoerAt (w'.setCell ⟨D, 1, none⟩ v') base D vA v' l (g ++ [x]) ∧ Below base w0 (w'.setCell ⟨D, 1, none⟩ v') := by
  have hrow := MkRow.snoc hrl hown hrr hx hgrow hown'
  have hap := hd.apart hown
  have hblkD := hgrow.block D hd.lt hap
  obtain ⟨p6, c6, rfl, _⟩ := hrow.marks
  refine ⟨p6, _, c6, rfl, (grown_cell hgrow hd.lt hap 1).trans hd.c1, fun o => ?_, hd.grow1 hown hgrow hrow, (hB.grown hgrow hbw (fun j hj => (hown.lt j hj).1)).setCell hd.le _⟩
  have e4 := hd.free o
  unfold World.frozen? at e4 ⊢
  rw [hblkD]; exact e4

set_option maxRecDepth 100000 in
set_option maxHeartbeats 8000000 in
theorem doerOf_ok (a b : Option Addr) (cap cap' : Nat) (l : List At) (g : List Mk) (w : World) (hok : OkS l g) (h : AtomsAt w a l) (h' : MarksAt w b g) :
    Calls Tryz.prog 41 #[.agg #[.slice a l.length cap, .slice b g.length cap']] w fun e w' => ∃ D vA vG, e = .returned (.pointer (some ⟨D, 0, none⟩)) ∧ DoerAt w' w.heap.size D vA vG l g ∧ Below w.heap.size w w' := by
  have hB := ((Below.refl w.heap.size w).alloc (Nat.le_refl _) (Obj.cells #[.slice a l.length cap, .slice b g.length cap'] 25)).alloc (by simp) (Obj.cells #[.slice none 0 0, .slice none 0 0] 83)
  have q1 : ((w.alloc (Obj.cells #[.slice a l.length cap, .slice b g.length cap'] 25)).alloc (Obj.cells #[.slice none 0 0, .slice none 0 0] 83)).cell? ⟨w.heap.size, 1, none⟩ = some (.slice b g.length cap') := by simp
  have q0 : ((w.alloc (Obj.cells #[.slice a l.length cap, .slice b g.length cap'] 25)).alloc (Obj.cells #[.slice none 0 0, .slice none 0 0] 83)).cell? ⟨w.heap.size, 0, none⟩ = some (.slice a l.length cap) := by simp
  have z : w.heap.size < ((w.alloc (Obj.cells #[.slice a l.length cap, .slice b g.length cap'] 25)).alloc (Obj.cells #[.slice none 0 0, .slice none 0 0] 83)).heap.size := by simp; omega
  have hd : DoerAt ((w.alloc (Obj.cells #[.slice a l.length cap, .slice b g.length cap'] 25)).alloc (Obj.cells #[.slice none 0 0, .slice none 0 0] 83)) w.heap.size (w.heap.size + 1) (.slice none 0 0) (.slice none 0 0) [] [] := by
    refine ⟨⟨#[.slice none 0 0, .slice none 0 0], ?_⟩, by go_simp, by go_simp, fun o => by go_simp, by simp, by omega, ⟨[], rfl, World.ownsRow_nil _ _ 66 3, fun i h => by simp at h⟩, MkRow.nil _ _⟩
    have := alloc_top (w.alloc (Obj.cells #[.slice a l.length cap, .slice b g.length cap'] 25)) (Obj.cells #[.slice none 0 0, .slice none 0 0] 83)
    simpa using this
  have HOK := hidE hok
  have hl := hok.atoms.len
  have hg6 := hok.len
  clear hok
  replace h := h.below hB (Nat.le_refl _)
  obtain ⟨i0, hi0, hz0, hz1, hz2⟩ := Tryz.info46
  go_enter Tryz.func41, Tryz.ntmps41
  go_upto_region 2 with fail
  generalize (w.alloc (Obj.cells #[.slice a l.length cap, .slice b g.length cap'] 25)).alloc (Obj.cells #[.slice none 0 0, .slice none 0 0] 83) = W at hB q0 q1 z hd h ⊢
  have hZW : w.heap.size ≤ W.heap.size := Nat.le_of_lt z
  generalize hz : w.heap.size = Z at hB q0 q1 z hd hZW ⊢
  have HWZ := hidE hz
  clear hz
  have HPI := hidE (put_isP a none cap 0 l [] W h (Or.inl rfl) (okL_chk HOK.out.atoms) rfl hl)
  have d0 := hd.c0
  have d1 := hd.c1
  have df := hd.free
  have dl := hd.lt
  have HD := hidE hd
  clear hd h
  go_wp2_with fail
  refine HPI.out.mono ?_
  clear HPI
  rintro e w1 ⟨p1, c1, rfl, hpk, hb⟩
  have hnil : putL l [] = l := rfl
  rw [hnil] at hpk ⊢
  clear hnil
  replace q1 := (hb.cell (p := ⟨Z, 1, none⟩) z).trans q1
  have t0 := (hb.cell (p := ⟨Z + 1, 0, none⟩) dl).trans d0
  have tf := fun o => (hb.frozen (p := ⟨Z + 1, o, none⟩) dl).trans (df o)
  have dl1 := Nat.lt_of_lt_of_le dl hb.size
  clear d0 d1 df q0
  go_upto_region 3 with fail
  have hD1 := (HD.out.below hb).set0 (hpk.mono hZW)
  have q2 : (w1.setCell ⟨Z + 1, 0, none⟩ (.slice p1 l.length c1)).cell? ⟨Z, 1, none⟩ = some (.slice b g.length cap') := (World.cell?_setCell_other _ _ _ _ (by simp)).trans q1
  have hB1 : Below Z w (w1.setCell ⟨Z + 1, 0, none⟩ (.slice p1 l.length c1)) := (hB.thru hb hZW).setCell (by simp) _
  generalize w1.setCell ⟨Z + 1, 0, none⟩ (.slice p1 l.length c1) = w2 at hD1 q2 hB1 ⊢
  clear hpk hb q1 t0 tf dl1 HD hB hl z dl hZW
  go_wp2_with fail
  go_loopw [21] (fun i wr => ∃ k : Nat, k ≤ g.length ∧ i = .int .i64 k ∧ ∃ vG, DoerAt wr Z (Z + 1) (.slice p1 l.length c1) vG l (g.take k) ∧ Below Z w wr) (fun i _ => g.length - (intOf i).toNat)
  case atStart => exact ⟨0, Nat.zero_le _, rfl, _, hD1, hB1⟩
  case round =>
    clear hD1 hB1 q2
    obtain ⟨k, hk, rfl, vG, hD, hb⟩ := hrel
    by_cases hlt : k < g.length
    · have hchk := HOK.out.each g[k] (List.getElem_mem hlt)
      rcases h'.below hb (Nat.le_of_eq HWZ.out) with hs | ⟨ab, ao, rfl, hab, hc⟩
      · simp [hs] at hlt
      obtain ⟨p, cp, c0, c1', hst, hle⟩ := hc k hlt
      have HTK : Hid (g.take (k + 1) = g.take k ++ [(g[k].1, g[k].2)]) := List.take_succ_eq_append_getElem hlt
      have hi1 : (k : Int) < g.length := by omega
      have hpl := (chk_ok hchk).1
      have hpm := (chk_ok hchk).2.1
      clear hc hchk
      generalize g[k].1 = pk at *
      generalize g[k].2 = ck at *
      obtain ⟨pb, po, rfl⟩ : ∃ pb po, p = some ⟨pb, po, none⟩ := by
        rcases hst with e | ⟨pb, po, rfl, _⟩
        · rw [e] at hpl; simp at hpl
        · exact ⟨pb, po, rfl⟩
      go_upto_region 6 with fail
      have hbA : Below wr.heap.size wr (wr.alloc (Obj.cells #[.slice (some ⟨pb, po, none⟩) pk.length cp, .int .i64 ck] 46)) := (Below.refl _ _).alloc (Nat.le_refl _) _
      have y0 : (wr.alloc (Obj.cells #[.slice (some ⟨pb, po, none⟩) pk.length cp, .int .i64 ck] 46)).cell? ⟨wr.heap.size, 0, none⟩ = some (.slice (some ⟨pb, po, none⟩) pk.length cp) := by simp
      have y1 : (wr.alloc (Obj.cells #[.slice (some ⟨pb, po, none⟩) pk.length cp, .int .i64 ck] 46)).cell? ⟨wr.heap.size, 1, none⟩ = some (.int .i64 ck) := by simp
      have zy : wr.heap.size < (wr.alloc (Obj.cells #[.slice (some ⟨pb, po, none⟩) pk.length cp, .int .i64 ck] 46)).heap.size := by simp
      have hZr : Z ≤ wr.heap.size := Nat.le_trans hD.le (Nat.le_of_lt hD.lt)
      have hBA := hb.thru hbA hZr
      replace hD := hD.below hbA
      replace hst := hst.below hbA (Nat.le_refl _)
      generalize wr.alloc (Obj.cells #[.slice (some ⟨pb, po, none⟩) pk.length cp, .int .i64 ck] 46) = wA at hbA y0 y1 zy hBA hD hst ⊢
      have hZA := Nat.le_trans hZr hbA.size
      generalize wr.heap.size = Y at y0 y1 zy ⊢
      clear hbA hab c0 c1' hb hZr
      have HGL : Hid ((g.take k).length ≤ 600) := by show _ ≤ _; simp; omega
      have HKE : Hid (g.take k = g.take k) := rfl
      generalize g.take k = gs at hD HTK HGL
      clear HKE
      obtain ⟨pg, cg, hvG, _, _, _⟩ := hD.gone.marks
      subst hvG
      have d1c := hD.c1
      have dfr := hD.free
      have dlt := hD.lt
      have HD := hidE hD
      obtain ⟨rs, hrl, hown, hrr⟩ := hD.gone
      have hBd : Below wA.heap.size wA wA.drew := (Below.refl _ _).drew
      have HAPP := hidE (fun (w3 : World) (gg cap2 : Nat) (hb3 : Below wA.heap.size wA w3) (hS : w3.ownsRow wA.heap.size 99 2 (.slice (some ⟨gg, 0, none⟩) pk.length cap2) pk.length (flatS pk)) (hbn : Below w3.heap.size w3 (w3.alloc (Obj.cells #[.slice (some ⟨gg, 0, none⟩) pk.length cap2, .int .i64 ck] 46))) (v' : Value) (w4 : World) (hown4 : w4.ownsRow Z 46 2 v' (gs.length + 1) (flatK rs ++ (⟨some ⟨gg, 0, none⟩, pk.length, cap2, ck⟩ : RawK).cells)) (hgrow : (w3.alloc (Obj.cells #[.slice (some ⟨gg, 0, none⟩) pk.length cap2, .int .i64 ck] 46)).grownBy w4 (Value.slice pg gs.length cg).ownBlock) => appDoer (w0 := w) (x := (pk, ck)) ((HD.out.below hb3).below hbn) hrl (owns_below (owns_below hown hb3) hbn) (fun i h h' => ((hrr i h h').below hb3).below hbn) ⟨gg, cap2, rfl, owns_base (owns_below hS hbn) hZA, hle⟩ ((hBA.thru hb3 hZA).thru hbn (Nat.le_trans hZA hb3.size)) (Nat.le_trans (Nat.le_trans hZA hb3.size) hbn.size) hgrow hown4)
      have HOWN := hidE (fun (w3 : World) (o : Obj) (hb3 : Below wA.heap.size wA w3) => (owns_below hown hb3).alloc o)
      clear hD hrr hrl hown
      go_region_law (first
        | (refine step_append_own rfl (.tmp 30) (.tmp 33) 23 rfl Z 46 i0 (.agg #[.slice none 0 0, .int .i64 0]) 2 32 Tryz.underlying23 hi0 hz0 hz1 hz2 rfl (by decide) (.slice pg gs.length cg) gs.length (flatK rs) (by simp [Act.eval]) (HOWN.out w3 _ hb3') ⟨w3.heap.size, 0, none⟩ 1 1 (⟨some ⟨gg, 0, none⟩, pk.length, cap2, ck⟩ : RawK).cells (by simp [Act.eval]) rfl (by intro j u hj; rw [Addr.add_lit, Nat.zero_add]; exact rawK_new w3 (⟨some ⟨gg, 0, none⟩, pk.length, cap2, ck⟩ : RawK) j u hj) (fun u hu => flatK_one [(⟨some ⟨gg, 0, none⟩, pk.length, cap2, ck⟩ : RawK)] u (by simpa [flatK] using hu)) (by have := HGL.out; unfold maxLen; omega) (by have := HGL.out; omega) (by have := hb3'.size; simp; omega) ?_; intro v' w4 hown4 hgrow; obtain ⟨p6, n6, c6, rfl, t1, t2, hrs⟩ := HAPP.out w3 gg cap2 hb3' hownS ((Below.refl _ _).alloc (Nat.le_refl _) _) v' w4 hown4 hgrow; have HRS := hidE hrs; clear hrs)
        | (go_simp; go_at_call 78; refine (freshMark_ok pb po _ _ pk _ _ rfl hle (by omega) (hst.below hBd (Nat.le_refl _))).mono ?_; rintro e w3 ⟨gg, cap2, rfl, hownS, hb3⟩; have hb3' : Below wA.heap.size wA w3 := hBd.thru hb3 (Nat.le_refl _); have e1 := (hb3'.cell (p := ⟨Z + 1, 1, none⟩) dlt).trans d1c; have dl3 := Nat.lt_of_lt_of_le dlt hb3'.size; have e2 := fun o => (hb3'.frozen (p := ⟨Z + 1, o, none⟩) dlt).trans (dfr o)))
      all_goals
        go_wp2_with fail
        go_roundw
        case rel => exact ⟨k + 1, by omega, by go_num, _, by rw [HTK.out]; exact HRS.out.1, HRS.out.2⟩
        case measure => simp [intOf]; omega
    · have hkl : k = g.length := by omega
      subst hkl
      rw [List.take_length] at hD
      go_wp2
      go_ret
      rw [HWZ.out]
      exact ⟨_, _, _, rfl, hD, hb⟩
end Go.Proofs.YtnhjebdlcbhkcacGreat

namespace Go.Proofs.YtnhjebdlcbhkcacGreat
open Go.RowKit

/-- deeds lie there, seven cells each -/
def DeedsAt (w : World) (r : Option Addr) (ds : List Dd) : Prop :=
  ds = [] ∨ ∃ b o, r = some ⟨b, o, none⟩ ∧ b < w.heap.size ∧ ∀ i (h : i < ds.length), ∃ p cp q cq, w.cell? ⟨b, o + i * 7, none⟩ = some (.int .i64 ds[i].kind) ∧ w.cell? ⟨b, o + i * 7 + 1, none⟩ = some (.slice p ds[i].rp.length cp) ∧ w.cell? ⟨b, o + i * 7 + 2, none⟩ = some (.int .i64 ds[i].rc) ∧ w.cell? ⟨b, o + i * 7 + 3, none⟩ = some (.string ds[i].rt) ∧ w.cell? ⟨b, o + i * 7 + 4, none⟩ = some (.slice q ds[i].mp.length cq) ∧ w.cell? ⟨b, o + i * 7 + 5, none⟩ = some (.int .i64 ds[i].mc) ∧ w.cell? ⟨b, o + i * 7 + 6, none⟩ = some (.int .i64 ds[i].many) ∧ DdAt w ds[i] p q ∧ -9223372036854775808 ≤ ds[i].many ∧ ds[i].many ≤ 9223372036854775807

theorem DeedsAt.below {w w' : World} {r : Option Addr} {ds : List Dd} (h : DeedsAt w r ds) (hb : Below w.heap.size w w') : DeedsAt w' r ds := by
  rcases h with h | ⟨b, o, rfl, hlt, hc⟩
  · exact Or.inl h
  · refine Or.inr ⟨b, o, rfl, Nat.lt_of_lt_of_le hlt hb.size, fun i hi => ?_⟩
    obtain ⟨p, cp, q, cq, h0, h1, h2, h3, h4, h5, h6, h7, h8⟩ := hc i hi
    exact ⟨p, cp, q, cq, (hb.cell (p := ⟨b, o + i * 7, none⟩) hlt).trans h0, (hb.cell (p := ⟨b, o + i * 7 + 1, none⟩) hlt).trans h1, (hb.cell (p := ⟨b, o + i * 7 + 2, none⟩) hlt).trans h2, (hb.cell (p := ⟨b, o + i * 7 + 3, none⟩) hlt).trans h3, (hb.cell (p := ⟨b, o + i * 7 + 4, none⟩) hlt).trans h4, (hb.cell (p := ⟨b, o + i * 7 + 5, none⟩) hlt).trans h5, (hb.cell (p := ⟨b, o + i * 7 + 6, none⟩) hlt).trans h6, h7.below hb, h8⟩
end Go.Proofs.YtnhjebdlcbhkcacGreat
