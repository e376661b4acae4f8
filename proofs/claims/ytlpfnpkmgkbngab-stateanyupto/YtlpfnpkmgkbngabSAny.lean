/- Contract of the law StateAny. -/
import Derived.Deep.AppendLies
import Derived.Test.YtlpfnpkmgkbngabAnyPu
import Derived.Test.YtlpfnpkmgkbngabLawPut
import Derived.Test.YtlpfnpkmgkbngabSBeg
import Derived.Test.YtlpfnpkmgkbngabBoxS
import Derived.Test.YtlpfnpkmgkbngabStateCk
import Derived.Test.YtlpfnpkmgkbngabSDoes
import Derived.Test.YtlpfnpkmgkbngabDTake
namespace Go.Proofs.Ytlpfnpkmgkbngab
open Go.RowKit

theorem Try.info54 : ∃ i, Try.prog.info? 54 = some i ∧ i.zero = some (.agg #[.int .i64 0, .slice none 0 0, .int .i64 0, .string ⟨#[]⟩, .slice none 0 0, .int .i64 0, .int .i64 0]) ∧ i.size = 7 ∧ i.bytes = 96 := by
  have h : (Try.prog.info? 54).map (fun i => (i.zero, i.size, i.bytes)) = some (some (.agg #[.int .i64 0, .slice none 0 0, .int .i64 0, .string ⟨#[]⟩, .slice none 0 0, .int .i64 0, .int .i64 0]), 7, 96) := by kernel_rfl
  rw [Option.map_eq_some_iff] at h
  obtain ⟨i, hi, he⟩ := h
  simp only [Prod.mk.injEq] at he
  exact ⟨i, hi, he⟩

theorem rawD_new (w : World) (r : RawD) : ∀ j u, r.cells[j]? = some u → (w.alloc (.cells #[.int .i64 r.d.kind, .slice r.p r.d.rp.length r.cp, .int .i64 r.d.rc, .string r.d.rt, .slice r.q r.d.mp.length r.cq, .int .i64 r.d.mc, .int .i64 r.d.many] 54)).cell? ⟨w.heap.size, j, none⟩ = some u := by
  intro j u hj
  rw [World.cell?_alloc_new]
  simpa [RawD.cells] using hj

/-- where the second state lies at last -/
structure EndAt (w4 X : World) (l : List At) (g : List Mk) (ds : List Dd) (T2 : Nat) (p : Option Addr) (n c : Nat) (q : Option Addr) (m d : Nat) : Prop where
  c0 : X.cell? ⟨T2, 0, none⟩ = some (.slice p n c)
  c1 : X.cell? ⟨T2, 1, none⟩ = some (.slice q m d)
  st : StP l g ds p n c q m d X
  below : Below w4.heap.size w4 X

theorem StP.setBox {l : List At} {g : List Mk} {ds : List Dd} {p q : Option Addr} {n c m d Z o : Nat} {u : Value} {w : World} (h : StP l g ds p n c q m d w) (hZ : BoxOf w Z) : StP l g ds p n c q m d (w.setCell ⟨Z, o, none⟩ u) := by
  rcases h with h | ⟨h0, l', g', h1, h2, h3, h4, h5, h6, h7⟩
  · exact Or.inl h
  · exact Or.inr ⟨h0, l', g', h1, h2, h3, h4.setBox hZ, h5.setBox hZ, h6, h7⟩

theorem endA {w4 w6 : World} {l : List At} {g : List Mk} {ds : List Dd} {T2 : Nat} {p : Option Addr} {n c : Nat} {q : Option Addr} {m d : Nat} (hS : StP l g ds p n c q m d w6) (yb : w6.heap[T2]? = some (Obj.cells #[.slice none 0 0, .slice none 0 0] 51)) (hB : Below w4.heap.size w4 w6) (hT : w4.heap.size ≤ T2) :
    EndAt w4 ((w6.setCell ⟨T2, 0, none⟩ (.slice p n c)).setCell ⟨T2, 1, none⟩ (.slice q m d)) l g ds T2 p n c q m d := by
  have b1 : (w6.setCell ⟨T2, 0, none⟩ (.slice p n c)).heap[T2]? = some (Obj.cells #[.slice p n c, .slice none 0 0] 51) := by
    simp [World.setCell, Array.getElem?_modify, yb]
  have b2 : ((w6.setCell ⟨T2, 0, none⟩ (.slice p n c)).setCell ⟨T2, 1, none⟩ (.slice q m d)).heap[T2]? = some (Obj.cells #[.slice p n c, .slice q m d] 51) := by
    simp [World.setCell, Array.getElem?_modify, yb]
  exact ⟨by simp [World.cell?, b2], by simp [World.cell?, b2], (hS.setBox (BoxOf.of yb)).setBox (BoxOf.of b1), (hB.setCell (p := ⟨T2, 0, none⟩) hT _).setCell (p := ⟨T2, 1, none⟩) hT _⟩

theorem endC {w4 w6 : World} {l : List At} {g : List Mk} {ds : List Dd} {p : Option Addr} {n c : Nat} {q : Option Addr} {m d : Nat} (hS : StP l g ds p n c q m d w6) (hB : Below w4.heap.size w4 w6) :
    EndAt w4 (w6.alloc (Obj.cells #[.slice p n c, .slice q m d] 51)) l g ds w6.heap.size p n c q m d :=
  ⟨by simp, by simp, hS.below ((Below.refl _ _).alloc (Nat.le_refl _) _), hB.alloc hB.size _⟩

theorem errAll_two {l : List At} {g : List Mk} {ts : List Dd} (h : chkS l g = 0) (ht : ∀ d ∈ ts, chkD d = 0) : errAll l g ts = 0 ∨ errAll l g ts = 2 := by
  have hc : chkDs ts = 0 := by
    induction ts with
    | nil => rfl
    | cons x ts ih =>
      have h0 := ht x (by simp)
      unfold chkDs
      rw [if_neg (by simpa using h0)]
      exact ih (fun d hd => ht d (by simp [hd]))
  unfold errAll
  rw [if_neg (by simpa using h), if_neg (by simpa using hc)]
  split
  · exact Or.inl rfl
  · exact Or.inr rfl

set_option maxRecDepth 100000 in
set_option maxHeartbeats 4000000 in
theorem stateAny_ok (a b r o : Option Addr) (cap cap' cr co : Nat) (l : List At) (g : List Mk) (ds : List Dd) (os : List Int) (w : World) (hl : l.length ≤ maxLen) (hn : ds.length ≤ 1048576) (ho : os.length ≤ 1048576) (h : AtomsAt w a l) (h' : MarksAt w b g) (hr : DeedsAt w r ds) (hos : IntsAt w o os) :
    Calls Try.prog 7 #[.agg #[.slice a l.length cap, .slice b g.length cap'], .slice r ds.length cr, .slice o os.length co] w fun e w' => e = .returned (.bool true) ∧ Below w.heap.size w w' := by
  have hB := (Below.refl w.heap.size w).alloc (Nat.le_refl _) (Obj.cells #[.slice a l.length cap, .slice b g.length cap'] 51)
  have q0 : (w.alloc (Obj.cells #[.slice a l.length cap, .slice b g.length cap'] 51)).cell? ⟨w.heap.size, 0, none⟩ = some (.slice a l.length cap) := by simp
  have q1 : (w.alloc (Obj.cells #[.slice a l.length cap, .slice b g.length cap'] 51)).cell? ⟨w.heap.size, 1, none⟩ = some (.slice b g.length cap') := by simp
  have z : w.heap.size < (w.alloc (Obj.cells #[.slice a l.length cap, .slice b g.length cap'] 51)).heap.size := by simp
  replace h := h.below hB (Nat.le_refl _)
  replace h' := h'.below hB (Nat.le_refl _)
  replace hr := hr.below hB
  replace hos := hos.below hB
  go_enter Try.func7, Try.ntmps7
  go_upto_region 1 with fail
  generalize w.alloc (Obj.cells #[.slice a l.length cap, .slice b g.length cap'] 51) = W at hB q0 q1 z h h' hr hos ⊢
  generalize hzz : w.heap.size = Z at hB q0 q1 z ⊢
  have HZ := hidE hzz
  clear hzz
  go_wp2_with fail
  refine (stateBegun_true W).mono ?_
  rintro e w1 ⟨rfl, hb⟩
  replace q0 := (hb.cell (p := ⟨Z, 0, none⟩) z).trans q0
  replace q1 := (hb.cell (p := ⟨Z, 1, none⟩) z).trans q1
  replace h := h.below hb (Nat.le_refl _)
  replace h' := h'.below hb (Nat.le_refl _)
  replace hr := hr.below hb
  replace hos := hos.below hb
  replace hB := hB.thru hb (Nat.le_of_lt z)
  replace z := Nat.lt_of_lt_of_le z hb.size
  clear hb
  have HAL := hidE (stateAll_ok a b r cap cap' cr l g ds w1 hl (by unfold maxLen; omega) h h' hr)
  go_wp2_with fail
  refine HAL.out.mono ?_
  rintro e w2 ⟨hb, hp⟩
  clear HAL
  replace q0 := (hb.cell (p := ⟨Z, 0, none⟩) z).trans q0
  replace q1 := (hb.cell (p := ⟨Z, 1, none⟩) z).trans q1
  replace h := h.below hb (Nat.le_refl _)
  replace h' := h'.below hb (Nat.le_refl _)
  replace hr := hr.below hb
  replace hos := hos.below hb
  replace hB := hB.thru hb (Nat.le_of_lt z)
  replace z := Nat.lt_of_lt_of_le z hb.size
  clear hb
  rcases hp with ⟨hne, rfl⟩ | ⟨h0, l', g', p, c, q, d, hok, hda, hok', rfl, hP, hM⟩
  · generalize errAll l g ds = er at hne ⊢
    have hcb : (er != 0) = true := by rw [bne_iff_ne]; exact hne
    clear hne
    go_wp2_with fail
    go_ret
    rw [HZ.out]
    exact ⟨rfl, hB.alloc (Nat.le_of_lt z) _⟩
  · have hcs : chkDs ds = 0 := by
      unfold errAll at h0
      rw [okS_chk hok] at h0
      by_cases e : chkDs ds = 0
      · exact e
      · rw [if_neg (by decide), if_pos e] at h0; exact absurd h0 e
    have HDC := hidE (chkDs_all hcs)
    have HOK := hidE hok
    have HDA := hidE hda
    have HCK := hidE (okS_chk hok')
    have hl3 := hok'.atoms.len
    have hg6 := hok'.len
    clear hcs h0 hok hda hok'
    obtain ⟨p1, c1, e1, hat, _⟩ := hP.owns.atoms (Below.refl _ _)
    cases e1
    obtain ⟨p2, c2, e2, hmk, _⟩ := hM.marks
    cases e2
    clear hP hM
    go_upto_region 6 with fail
    have hbT := (Below.refl w2.heap.size w2).alloc (Nat.le_refl _) (Obj.cells #[.slice p l'.length c, .slice q g'.length d] 51)
    have t0 : (w2.alloc (Obj.cells #[.slice p l'.length c, .slice q g'.length d] 51)).cell? ⟨w2.heap.size, 0, none⟩ = some (.slice p l'.length c) := by simp
    have t1 : (w2.alloc (Obj.cells #[.slice p l'.length c, .slice q g'.length d] 51)).cell? ⟨w2.heap.size, 1, none⟩ = some (.slice q g'.length d) := by simp
    have zT : w2.heap.size < (w2.alloc (Obj.cells #[.slice p l'.length c, .slice q g'.length d] 51)).heap.size := by simp
    replace q0 := (hbT.cell (p := ⟨Z, 0, none⟩) z).trans q0
    replace q1 := (hbT.cell (p := ⟨Z, 1, none⟩) z).trans q1
    replace h := h.below hbT (Nat.le_refl _)
    replace h' := h'.below hbT (Nat.le_refl _)
    replace hat := hat.below hbT (Nat.le_refl _)
    replace hmk := hmk.below hbT (Nat.le_refl _)
    replace hr := hr.below hbT
    replace hos := hos.below hbT
    replace hB := hB.thru hbT (Nat.le_of_lt z)
    replace z := Nat.lt_of_lt_of_le z hbT.size
    generalize w2.alloc (Obj.cells #[.slice p l'.length c, .slice q g'.length d] 51) = w3 at hbT t0 t1 zT q0 q1 h h' hat hmk hr hos hB z ⊢
    generalize w2.heap.size = T at t0 t1 zT ⊢
    clear hbT
    have HCC := hidE (stateCheck_any p q c d l' g' w3 (by unfold maxLen; omega) hat hmk)
    rw [HCK.out] at HCC
    go_wp2_with fail
    refine HCC.out.mono ?_
    rintro e w4 ⟨rfl, hb⟩
    clear HCC
    replace q0 := (hb.cell (p := ⟨Z, 0, none⟩) z).trans q0
    replace q1 := (hb.cell (p := ⟨Z, 1, none⟩) z).trans q1
    replace t0 := (hb.cell (p := ⟨T, 0, none⟩) zT).trans t0
    replace t1 := (hb.cell (p := ⟨T, 1, none⟩) zT).trans t1
    replace h := h.below hb (Nat.le_refl _)
    replace h' := h'.below hb (Nat.le_refl _)
    replace hat := hat.below hb (Nat.le_refl _)
    replace hmk := hmk.below hb (Nat.le_refl _)
    replace hr := hr.below hb
    replace hos := hos.below hb
    replace hB := hB.thru hb (Nat.le_of_lt z)
    replace z := Nat.lt_of_lt_of_le z hb.size
    replace zT := Nat.lt_of_lt_of_le zT hb.size
    clear hb
    obtain ⟨i0, hi0, hz0, hz1, hz2⟩ := Try.info54
    go_wp2_with fail
    go_loopw [9, 10] (fun v9 i wr => ∃ k : Nat, k ≤ os.length ∧ i = .int .i64 k ∧ ∃ rs, OwnsDd w4 wr w4.heap.size v9 rs ∧ (∀ x ∈ rs, RawD.d x ∈ ds) ∧ rs.length ≤ k ∧ (rs = [] → v9 = .slice none 0 0) ∧ Below w4.heap.size w4 wr) (fun _ i _ => os.length - (intOf i).toNat)
    case atStart => exact ⟨0, Nat.zero_le _, rfl, [], OwnsDd.nil _ _ _, fun x hx => by simp at hx, Nat.le_refl _, fun _ => rfl, Below.refl _ _⟩
    case round =>
      obtain ⟨k, hk, rfl, rs, hrow, hmem, hrk, hnil, hb⟩ := hrel
      by_cases hlt : k < os.length
      · rcases hos.below hb with hs | ⟨ob, oo, rfl, hob, hoc⟩
        · simp [hs] at hlt
        have x0 := hoc k hlt
        have HX : Hid (os[k] = os[k]) := rfl
        generalize os[k] = x at x0
        clear hoc HX
        have hi1 : (k : Int) < os.length := by omega
        by_cases hx0 : x ≥ 0
        · by_cases hxl : x < (ds.length : Int)
          · obtain ⟨n, rfl⟩ : ∃ n : Nat, x = n := ⟨x.toNat, by omega⟩
            have hnl : n < ds.length := by omega
            have HDM := hidE (List.getElem_mem hnl)
            rcases hr.below hb with hs | ⟨ab, ao, rfl, hab, hc⟩
            · simp [hs] at hnl
            obtain ⟨pp, cp, qq, cq, c0, c1', c2', c3, c4, c5, c6, hDd, hm1, hm2⟩ := hc n hnl
            rcases hr with hs | ⟨ab2, ao2, e2, hab2, hc2⟩
            · simp [hs] at hnl
            obtain ⟨pp2, cp2, qq2, cq2, f0, f1, f2, f3, f4, f5, f6, hDd2, _, _⟩ := hc2 n hnl
            have eab : ab = ab2 ∧ ao = ao2 := by simpa using e2
            obtain ⟨rfl, rfl⟩ := eab
            have ep : pp = pp2 ∧ cp = cp2 := by
              have := c1'.symm.trans ((hb.cell (p := ⟨ab, ao + n * 7 + 1, none⟩) hab2).trans f1)
              simpa using this
            have eq : qq = qq2 ∧ cq = cq2 := by
              have := c4.symm.trans ((hb.cell (p := ⟨ab, ao + n * 7 + 4, none⟩) hab2).trans f4)
              simpa using this
            obtain ⟨rfl, rfl⟩ := ep
            obtain ⟨rfl, rfl⟩ := eq
            clear f0 f1 f2 f3 f4 f5 f6 e2 hc2 hc hDd
            generalize ds[n] = dd at *
            have HAT : Hid (RawD.At w4 ⟨dd, pp, qq, cp, cq⟩) := ⟨hDd2, hm1, hm2⟩
            have hRN := rawD_new wr ⟨dd, pp, qq, cp, cq⟩
            have hbn := (Below.refl wr.heap.size wr).alloc (Nat.le_refl _) (Obj.cells #[.int .i64 dd.kind, .slice pp dd.rp.length cp, .int .i64 dd.rc, .string dd.rt, .slice qq dd.mp.length cq, .int .i64 dd.mc, .int .i64 dd.many] 54)
            have hown := hrow.1.alloc (Obj.cells #[.int .i64 dd.kind, .slice pp dd.rp.length cp, .int .i64 dd.rc, .string dd.rt, .slice qq dd.mp.length cq, .int .i64 dd.mc, .int .i64 dd.many] 54)
            have HEA := hidE hrow.2
            have HMEM := hidE hmem
            have hB4 := hb.thru hbn hb.size
            have hbase : w4.heap.size ≤ (wr.alloc (Obj.cells #[.int .i64 dd.kind, .slice pp dd.rp.length cp, .int .i64 dd.rc, .string dd.rt, .slice qq dd.mp.length cq, .int .i64 dd.mc, .int .i64 dd.many] 54)).heap.size := hB4.size
            clear hDd2 hm1 hm2 hmem hrow hnil hbn
            go_wp2_with (at_builtin; refine wpList_append_own _ rfl _ _ 52 rfl w4.heap.size 54 i0 (.agg #[.int .i64 0, .slice none 0 0, .int .i64 0, .string ⟨#[]⟩, .slice none 0 0, .int .i64 0, .int .i64 0]) 7 96 Try.underlying52 hi0 hz0 hz1 hz2 rfl (by decide) _ _ _ rfl hown ⟨wr.heap.size, 0, none⟩ 1 1 (⟨dd, pp, qq, cp, cq⟩ : RawD).cells rfl rfl ?qa3 ?qa2 ?qa4 ?qa5 hbase ?_)
            case qa3 => intro j u hj; exact hj
            case qa2 => exact fun u hu => flatD_one [(⟨dd, pp, qq, cp, cq⟩ : RawD)] u (by simpa [flatD] using hu)
            case qa4 => unfold maxLen; omega
            case qa5 => omega
            intro v' w5 hown5 hgrow _
            have hb5 := hB4.grown hgrow hbase (fun j hj => (hown.lt j hj).1)
            have hrow5 : OwnsDd w4 w5 w4.heap.size v' (rs ++ [⟨dd, pp, qq, cp, cq⟩]) := by
              refine ⟨?_, fun x hx => ?_⟩
              · rw [flatD_append, List.length_append]
                exact hown5
              · rcases List.mem_append.1 hx with hx | hx
                · exact HEA.out x hx
                · rw [List.mem_singleton.1 hx]; exact HAT.out
            have hmem5 : ∀ x ∈ rs ++ [⟨dd, pp, qq, cp, cq⟩], RawD.d x ∈ ds := fun x hx => by
              rcases List.mem_append.1 hx with hx | hx
              · exact HMEM.out x hx
              · rw [List.mem_singleton.1 hx]; exact HDM.out
            have HR5 := hidE hrow5
            have HM5 := hidE hmem5
            clear hown5 hgrow hrow5 hmem5 hown hRN
            go_wp2_with fail
            go_roundw
            case rel => exact ⟨k + 1, by omega, by go_num, _, HR5.out, HM5.out, by simp; omega, fun e => by simp at e, hb5⟩
            case measure => simp [intOf]; omega
          · go_wp2_with fail
            go_roundw
            case rel => exact ⟨k + 1, by omega, by go_num, rs, hrow, hmem, by omega, hnil, hb⟩
            case measure => simp [intOf]; omega
        · go_wp2_with fail
          go_roundw
          case rel => exact ⟨k + 1, by omega, by go_num, rs, hrow, hmem, by omega, hnil, hb⟩
          case measure => simp [intOf]; omega
      · have hke : os.length = k := by omega
        subst hke
        by_cases hde : ds = []
        · subst hde
          have hrs : rs = [] := List.eq_nil_iff_forall_not_mem.2 (fun x hx => by have := hmem x hx; simp at this)
          have hv9 := hnil hrs
          subst hv9
          have r0 := (hb.cell (p := ⟨Z, 0, none⟩) z).trans q0
          have r1 := (hb.cell (p := ⟨Z, 1, none⟩) z).trans q1
          have zr := Nat.lt_of_lt_of_le z hb.size
          have HB0 := hidE hb
          have HBa : Hid (Below w4.heap.size w4 wr.drew) := hb.drew
          have HBb : Hid (Below w4.heap.size w4 (wr.alloc (Obj.cells #[.slice none 0 0, .slice none 0 0] 51)).drew) := (hb.alloc hb.size _).drew
          obtain ⟨es, hes⟩ : ∃ es : List Dd, es = [] := ⟨_, rfl⟩
          obtain ⟨ts, hts⟩ : ∃ ts : List Dd, ts = es ++ [] := ⟨_, rfl⟩
          have hts0 : ts = [] := by rw [hts, hes]; rfl
          have HES : Hid (∀ x ∈ es, x ∈ ([] : List Dd)) := fun x hx => by rw [hes] at hx; exact hx
          have HALL := hidE (fun (W' : World) (hbW : Below w4.heap.size w4 W') => stateAll_ok a b none cap cap' 0 l g [] W' hl (Nat.zero_le _) (h.below hbW (Nat.le_refl _)) (h'.below hbW (Nat.le_refl _)) (Or.inl rfl))
          rw [← hts0] at HALL
          have HTC : Hid (∀ d ∈ ts, chkD d = 0) := fun d hd => by rw [hts0] at hd; simp at hd
          have HTS := hidE hts
          have HBX : Hid (∀ X : World, Below Z w X → w4.heap.size ≤ X.heap.size → Z ≤ X.heap.size) := fun X _ h => Nat.le_trans (Nat.le_of_lt z) h
          have Y0 : Hid ((wr.alloc (Obj.cells #[.slice none 0 0, .slice none 0 0] 51)).drew.cell? ⟨wr.heap.size, 0, none⟩ = some (.slice none 0 0)) := (show (wr.alloc (Obj.cells #[.slice none 0 0, .slice none 0 0] 51)).cell? ⟨wr.heap.size, 0, none⟩ = some (.slice none 0 0) by simp)
          have Y1 : Hid ((wr.alloc (Obj.cells #[.slice none 0 0, .slice none 0 0] 51)).drew.cell? ⟨wr.heap.size, 1, none⟩ = some (.slice none 0 0)) := (show (wr.alloc (Obj.cells #[.slice none 0 0, .slice none 0 0] 51)).cell? ⟨wr.heap.size, 1, none⟩ = some (.slice none 0 0) by simp)
          have YF : Hid (∀ o, (wr.alloc (Obj.cells #[.slice none 0 0, .slice none 0 0] 51)).drew.frozen? ⟨wr.heap.size, o, none⟩ = false) := fun o => (show (wr.alloc (Obj.cells #[.slice none 0 0, .slice none 0 0] 51)).frozen? ⟨wr.heap.size, o, none⟩ = false by go_simp)
          have YB : Hid ((wr.alloc (Obj.cells #[.slice none 0 0, .slice none 0 0] 51)).drew.heap[wr.heap.size]? = some (Obj.cells #[.slice none 0 0, .slice none 0 0] 51)) := alloc_top wr _
          have YL : Hid (wr.heap.size < (wr.alloc (Obj.cells #[.slice none 0 0, .slice none 0 0] 51)).drew.heap.size) := (show wr.heap.size < (wr.alloc (Obj.cells #[.slice none 0 0, .slice none 0 0] 51)).heap.size by simp)
          have hlz : (([] : List Dd).length) = 0 := rfl
          have HLT : Hid (ts.length = 0) := by show _ = _; rw [hts0]; rfl
          rw [HLT.out] at HALL
          clear hos hmem q0 q1 hlt hk hnil hrow h h' hes hb hts hts0 hr hrs
          cases r
          all_goals
            go_upto_region 14 with fail
            go_region_law (first
              | (go_simp; go_at_call 25; refine (HALL.out _ ?_).mono ?_; (first | with_reducible exact HBa.out | with_reducible exact HBb.out); rintro e w6 ⟨hb6, hp6⟩; obtain ⟨p6, n6, k6, q6, m6, j6, rfl, hP6⟩ := hp6.stP; have HP6 := hidE hP6; clear hp6 hP6; (try (have yb := (hb6.block wr.heap.size YL.out).trans YB.out; have y0 := (hb6.cell (p := ⟨wr.heap.size, 0, none⟩) YL.out).trans Y0.out; have y1 := (hb6.cell (p := ⟨wr.heap.size, 1, none⟩) YL.out).trans Y1.out; have yf := fun o => (hb6.frozen (p := ⟨wr.heap.size, o, none⟩) YL.out).trans (YF.out o); have ys := Nat.lt_of_lt_of_le YL.out hb6.size)); have hB64 : Below w4.heap.size w4 w6 := (by first | with_reducible exact HBa.out.thru hb6 HBa.out.size | with_reducible exact HBb.out.thru hb6 HBb.out.size); have HB64 := hidE hB64; clear hB64 hb6))
          all_goals
            first
              | (have hE := endA HP6.out yb HB64.out HB0.out.size; generalize (w6.setCell ⟨wr.heap.size, 0, none⟩ (.slice p6 n6 k6)).setCell ⟨wr.heap.size, 1, none⟩ (.slice q6 m6 j6) = X at hE ⊢; generalize wr.heap.size = T2 at hE ⊢)
              | (have hE := endC HP6.out HB64.out; generalize w6.alloc (Obj.cells #[.slice p6 n6 k6, .slice q6 m6 j6] 51) = X at hE ⊢; generalize w6.heap.size = T2 at hE ⊢)
            obtain ⟨x0', x1', hS, hbX⟩ := hE
            have u0 := (hbX.cell (p := ⟨T, 0, none⟩) zT).trans t0
            have u1 := (hbX.cell (p := ⟨T, 1, none⟩) zT).trans t1
            have HER := hidE (errAll_two (ts := ts) (okS_chk HOK.out) HTC.out)
            have HS := hidE hS
            have hBX := hB.thru hbX (Nat.le_of_lt z)
            have hX4 := hidE hbX.size
            have HAT := hidE (hat.below hbX (Nat.le_refl _))
            have HMK := hidE (hmk.below hbX (Nat.le_refl _))
            clear hS hbX
            rcases HER.out with he | he
            · rcases HS.out with ⟨hne, _⟩ | ⟨_, l1, g1, hd1, e1, e2, ha1, hm1, hl1, hg1⟩
              · exact absurd he hne
              subst e1 e2
              rw [HTS.out] at hd1
              obtain ⟨f1, f2⟩ := doAll_any HOK.out HDA.out HES.out hd1
              subst f1 f2
              have HSS := hidE (sameState_same p p6 q q6 c k6 d j6 l' g' X hl1 hg1 HAT.out ha1 HMK.out hm1)
              rw [he]
              clear he hd1 ha1 hm1 HS HER HAT HMK hl1 hg1
              go_wp2_with fail
              refine HSS.out.mono ?_
              rintro e w7 ⟨rfl, hb7⟩
              replace hBX := hBX.thru hb7 (HBX.out X hBX hX4.out)
              go_wp2_with fail
              go_ret
              rw [HZ.out]
              exact ⟨rfl, hBX⟩
            · rw [he]
              clear he HS HER HAT HMK
              go_wp2_with fail
              go_ret
              rw [HZ.out]
              exact ⟨rfl, hBX⟩
        · rcases hr with hs | ⟨ab, ao, rfl, hab, hc⟩
          · exact absurd hs hde
          obtain ⟨rs2, hmap, hat2, hcl2⟩ := deedsAt_raw (w := w4) (b := ab) (off := ao) (ds := ds) (k := 0) (fun i hi => by rw [Nat.zero_add]; exact hc i hi)
          have hl2 : rs2.length = ds.length := by rw [← hmap, List.length_map]
          obtain ⟨p9, c9, hv9, _⟩ := hrow.deeds hb
          subst hv9
          have r0 := (hb.cell (p := ⟨Z, 0, none⟩) z).trans q0
          have r1 := (hb.cell (p := ⟨Z, 1, none⟩) z).trans q1
          have zr := Nat.lt_of_lt_of_le z hb.size
          have HB0 := hidE hb
          have HOWN := hidE (fun (w3 : World) (hb3 : Below wr.heap.size wr w3) => owns_below hrow.1 hb3)
          have HNE : Hid (some wr.heap.size ≠ (Value.slice p9 rs.length c9).ownBlock) := fun e => by have := (hrow.1.lt _ e.symm).2; omega
          have HNZ : Hid (some Z ≠ (Value.slice p9 rs.length c9).ownBlock) := fun e => by have := (hrow.1.lt _ e.symm).1; omega
          have HCL := hidE (fun (w3 : World) (hb3 : Below wr.heap.size wr w3) (j : Nat) (u : Value) (hj : (flatD rs2)[j]? = some u) => (show w3.cell? ⟨ab, ao + j, none⟩ = some u from ((HB0.out.thru hb3 HB0.out.size).cell (p := ⟨ab, ao + j, none⟩) hab).trans (by have := hcl2 j u hj; simpa using this)))
          have HFL : Hid ((flatD rs2).length = ds.length * 7) := by show _ = _; rw [flatD_length, hl2]
          have hB1 : Below wr.heap.size wr wr.drew := (Below.refl _ _).drew
          have hB2 := ((Below.refl wr.heap.size wr).alloc (Nat.le_refl _) (Obj.cells #[.slice none 0 0, .slice none 0 0] 51)).drew
          have HLE : Hid (rs.length + ds.length ≤ 2097152) := by show _ ≤ _; omega
          obtain ⟨es, hes⟩ : ∃ es, es = rs.map RawD.d := ⟨_, rfl⟩
          obtain ⟨ts, hts⟩ : ∃ ts, ts = es ++ ds := ⟨_, rfl⟩
          have HES : Hid (∀ x ∈ es, x ∈ ds) := fun x hx => by
            rw [hes] at hx
            obtain ⟨y, hy, rfl⟩ := List.mem_map.1 hx
            exact hmem y hy
          have HEL : Hid (es.length = rs.length) := by show _ = _; rw [hes, List.length_map]
          have HAPP := hidE (fun (w3 : World) (hb3 : Below wr.heap.size wr w3) (v5 : Value) (w5 : World) (hown5 : w5.ownsRow w4.heap.size 54 7 v5 (rs.length + ds.length) (flatD rs ++ flatD rs2)) (hgrow : w3.grownBy w5 (Value.slice p9 rs.length c9).ownBlock) => by
            have hb5 : Below w4.heap.size w4 w5 := (HB0.out.thru hb3 HB0.out.size).grown hgrow (Nat.le_trans HB0.out.size hb3.size) (fun j hj => (hrow.1.lt j hj).1)
            have hr5 : OwnsDd w4 w5 w4.heap.size v5 (rs ++ rs2) := by
              refine ⟨?_, fun x hx => ?_⟩
              · rw [flatD_append, List.length_append, hl2]; exact hown5
              · rcases List.mem_append.1 hx with hx | hx
                · exact hrow.2 x hx
                · exact hat2 x hx
            obtain ⟨p5, c5, e5, hD5⟩ := hr5.deeds hb5
            have em : (rs ++ rs2).map RawD.d = ts := by rw [List.map_append, hmap, ← hes, hts]
            have el : (rs ++ rs2).length = ts.length := by rw [← em, List.length_map]
            rw [em] at hD5
            rw [el] at e5
            exact (⟨p5, c5, e5, hD5, hb5⟩ : ∃ p5 c5, v5 = .slice p5 ts.length c5 ∧ DeedsAt w5 p5 ts ∧ Below w4.heap.size w4 w5))
          have HALL := hidE (fun (p5 : Option Addr) (c5 : Nat) (W' : World) (hbW : Below w4.heap.size w4 W') (hDW : DeedsAt W' p5 ts) => stateAll_ok a b p5 cap cap' c5 l g ts W' hl (by have := HEL.out; have := HLE.out; unfold maxLen; rw [hts]; simp; omega) (h.below hbW (Nat.le_refl _)) (h'.below hbW (Nat.le_refl _)) hDW)
          have HTS := hidE hts
          clear hts
          have HTC : Hid (∀ d ∈ ts, chkD d = 0) := fun d hd => by
            rw [HTS.out] at hd
            rcases List.mem_append.1 hd with hd | hd
            · exact HDC.out d (HES.out d hd)
            · exact HDC.out d hd
          have HBX : Hid (∀ X : World, Below Z w X → w4.heap.size ≤ X.heap.size → Z ≤ X.heap.size) := fun X _ h => Nat.le_trans (Nat.le_of_lt z) h
          clear hos hc hcl2 hmem hat2 hmap q0 q1 hlt hk hnil hrow h h' hes hb
          have Y0 : Hid ((wr.alloc (Obj.cells #[.slice none 0 0, .slice none 0 0] 51)).drew.cell? ⟨wr.heap.size, 0, none⟩ = some (.slice none 0 0)) := (show (wr.alloc (Obj.cells #[.slice none 0 0, .slice none 0 0] 51)).cell? ⟨wr.heap.size, 0, none⟩ = some (.slice none 0 0) by simp)
          have Y1 : Hid ((wr.alloc (Obj.cells #[.slice none 0 0, .slice none 0 0] 51)).drew.cell? ⟨wr.heap.size, 1, none⟩ = some (.slice none 0 0)) := (show (wr.alloc (Obj.cells #[.slice none 0 0, .slice none 0 0] 51)).cell? ⟨wr.heap.size, 1, none⟩ = some (.slice none 0 0) by simp)
          have YF : Hid (∀ o, (wr.alloc (Obj.cells #[.slice none 0 0, .slice none 0 0] 51)).drew.frozen? ⟨wr.heap.size, o, none⟩ = false) := fun o => (show (wr.alloc (Obj.cells #[.slice none 0 0, .slice none 0 0] 51)).frozen? ⟨wr.heap.size, o, none⟩ = false by go_simp)
          have YB : Hid ((wr.alloc (Obj.cells #[.slice none 0 0, .slice none 0 0] 51)).drew.heap[wr.heap.size]? = some (Obj.cells #[.slice none 0 0, .slice none 0 0] 51)) := alloc_top wr _
          have YL : Hid (wr.heap.size < (wr.alloc (Obj.cells #[.slice none 0 0, .slice none 0 0] 51)).drew.heap.size) := (show wr.heap.size < (wr.alloc (Obj.cells #[.slice none 0 0, .slice none 0 0] 51)).heap.size by simp)
          go_upto_region 14 with fail
          go_region_law (first
            | (go_simp; go_at_call 25; refine (HALL.out p5 c5 _ ?_ ?_).mono ?_; (have hbx := HB5.out; first | with_reducible exact hbx | with_reducible exact hbx.alloc (Nat.le_trans HB0.out.size hs5) _); (have hdx := HD5.out; first | with_reducible exact hdx | with_reducible exact hdx.below ((Below.refl _ _).alloc (Nat.le_refl _) _)); rintro e w6 ⟨hb6, hp6⟩; obtain ⟨p6, n6, k6, q6, m6, j6, rfl, hP6⟩ := hp6.stP; have HP6 := hidE hP6; clear hp6 hP6; (try (replace yb := (hb6.block wr.heap.size ys).trans yb; replace y0 := (hb6.cell (p := ⟨wr.heap.size, 0, none⟩) ys).trans y0; replace y1 := (hb6.cell (p := ⟨wr.heap.size, 1, none⟩) ys).trans y1; replace yf := fun o => (hb6.frozen (p := ⟨wr.heap.size, o, none⟩) ys).trans (yf o); replace ys := Nat.lt_of_lt_of_le ys hb6.size)); (try (have yb := (hb6.block w5.heap.size (by simp)).trans (alloc_top w5 _); have y0 := (hb6.cell (p := ⟨w5.heap.size, 0, none⟩) (by simp)).trans (show _ = some (Value.slice none 0 0) by simp); have y1 := (hb6.cell (p := ⟨w5.heap.size, 1, none⟩) (by simp)).trans (show _ = some (Value.slice none 0 0) by simp); have yf := fun o => (hb6.frozen (p := ⟨w5.heap.size, o, none⟩) (by simp)).trans (show _ = false by go_simp); have ys : w5.heap.size < w6.heap.size := Nat.lt_of_lt_of_le (by simp) hb6.size)); have hB64 : Below w4.heap.size w4 w6 := (by first | with_reducible exact HB5.out.thru hb6 HB5.out.size | with_reducible exact (HB5.out.alloc HB5.out.size _).thru hb6 (HB5.out.alloc HB5.out.size _).size); have HB64 := hidE hB64; clear hB64 hb6)
            | (refine step_append_own rfl (.tmp 65) (.tmp 66) 52 rfl w4.heap.size 54 i0 (.agg #[.int .i64 0, .slice none 0 0, .int .i64 0, .string ⟨#[]⟩, .slice none 0 0, .int .i64 0, .int .i64 0]) 7 96 Try.underlying52 hi0 hz0 hz1 hz2 rfl (by decide) (.slice p9 rs.length c9) rs.length (flatD rs) (by simp [Act.eval, Act.put]) (by first | with_reducible exact HOWN.out _ hB1 | with_reducible exact HOWN.out _ hB2) ⟨ab, ao, none⟩ ds.length cr (flatD rs2) (by simp [Act.eval, Act.put]) HFL.out (by intro j u hj; rw [Addr.add_lit]; first | with_reducible exact HCL.out _ hB1 j u hj | with_reducible exact HCL.out _ hB2 j u hj) (flatD_one _) (by have := HLE.out; unfold maxLen; omega) (by have := HLE.out; omega) (by have := HB0.out.size; simp; omega) ?_; intro v5 w5 hown5 hgrow; obtain ⟨p5, c5, rfl, hD5, hb5⟩ := HAPP.out _ (by first | with_reducible exact hB1 | with_reducible exact hB2) v5 w5 hown5 hgrow; have hs5 : wr.heap.size ≤ w5.heap.size := (by have := hgrow.size; simp at this; omega); (try have y0 := (hgrow.cell_far ⟨wr.heap.size, 0, none⟩ YL.out HNE.out).trans Y0.out); (try have y1 := (hgrow.cell_far ⟨wr.heap.size, 1, none⟩ YL.out HNE.out).trans Y1.out); (try have yf := fun o => (hgrow.frozen_far ⟨wr.heap.size, o, none⟩ YL.out HNE.out).trans (YF.out o)); (try have yb := (hgrow.block wr.heap.size YL.out HNE.out).trans YB.out); (try have ys : wr.heap.size < w5.heap.size := Nat.lt_of_lt_of_le YL.out hgrow.size); have x0 : w5.cell? ⟨Z, 0, none⟩ = some (.slice a l.length cap) := (by first | with_reducible exact (hgrow.cell_far ⟨Z, 0, none⟩ (Nat.lt_of_lt_of_le zr hB1.size) HNZ.out).trans ((hB1.cell (p := ⟨Z, 0, none⟩) zr).trans r0) | with_reducible exact (hgrow.cell_far ⟨Z, 0, none⟩ (Nat.lt_of_lt_of_le zr hB2.size) HNZ.out).trans ((hB2.cell (p := ⟨Z, 0, none⟩) zr).trans r0)); have x1 : w5.cell? ⟨Z, 1, none⟩ = some (.slice b g.length cap') := (by first | with_reducible exact (hgrow.cell_far ⟨Z, 1, none⟩ (Nat.lt_of_lt_of_le zr hB1.size) HNZ.out).trans ((hB1.cell (p := ⟨Z, 1, none⟩) zr).trans r1) | with_reducible exact (hgrow.cell_far ⟨Z, 1, none⟩ (Nat.lt_of_lt_of_le zr hB2.size) HNZ.out).trans ((hB2.cell (p := ⟨Z, 1, none⟩) zr).trans r1)); have hz5 : Z < w5.heap.size := Nat.lt_of_lt_of_le zr hs5; have HD5 := hidE hD5; have HB5 := hidE hb5; clear hD5 hb5 hown5 hgrow))
          all_goals
            first
              | (have hE := endA HP6.out yb HB64.out HB0.out.size; generalize (w6.setCell ⟨wr.heap.size, 0, none⟩ (.slice p6 n6 k6)).setCell ⟨wr.heap.size, 1, none⟩ (.slice q6 m6 j6) = X at hE ⊢; generalize wr.heap.size = T2 at hE ⊢)
              | (have hE := endA HP6.out yb HB64.out HB5.out.size; generalize (w6.setCell ⟨w5.heap.size, 0, none⟩ (.slice p6 n6 k6)).setCell ⟨w5.heap.size, 1, none⟩ (.slice q6 m6 j6) = X at hE ⊢; generalize w5.heap.size = T2 at hE ⊢)
              | (have hE := endC HP6.out HB64.out; generalize w6.alloc (Obj.cells #[.slice p6 n6 k6, .slice q6 m6 j6] 51) = X at hE ⊢; generalize w6.heap.size = T2 at hE ⊢)
            obtain ⟨x0', x1', hS, hbX⟩ := hE
            have u0 := (hbX.cell (p := ⟨T, 0, none⟩) zT).trans t0
            have u1 := (hbX.cell (p := ⟨T, 1, none⟩) zT).trans t1
            have HER := hidE (errAll_two (ts := ts) (okS_chk HOK.out) HTC.out)
            have HS := hidE hS
            have hBX := hB.thru hbX (Nat.le_of_lt z)
            have hX4 := hidE hbX.size
            have HAT := hidE (hat.below hbX (Nat.le_refl _))
            have HMK := hidE (hmk.below hbX (Nat.le_refl _))
            clear hS hbX
            rcases HER.out with he | he
            · rcases HS.out with ⟨hne, _⟩ | ⟨_, l1, g1, hd1, e1, e2, ha1, hm1, hl1, hg1⟩
              · exact absurd he hne
              subst e1 e2
              rw [HTS.out] at hd1
              obtain ⟨f1, f2⟩ := doAll_any HOK.out HDA.out HES.out hd1
              subst f1 f2
              have HSS := hidE (sameState_same p p6 q q6 c k6 d j6 l' g' X hl1 hg1 HAT.out ha1 HMK.out hm1)
              rw [he]
              clear he hd1 ha1 hm1 HS HER HAT HMK hl1 hg1
              go_wp2_with fail
              refine HSS.out.mono ?_
              rintro e w7 ⟨rfl, hb7⟩
              replace hBX := hBX.thru hb7 (HBX.out X hBX hX4.out)
              go_wp2_with fail
              go_ret
              rw [HZ.out]
              exact ⟨rfl, hBX⟩
            · rw [he]
              clear he HS HER HAT HMK
              go_wp2_with fail
              go_ret
              rw [HZ.out]
              exact ⟨rfl, hBX⟩
end Go.Proofs.Ytlpfnpkmgkbngab
