/- Contracts of wire.list at numbers and bytes. -/
import Derived.Test.YtnhjebdlcbhkcadRdOne
import Derived.Test.YtnhjebdlcbhkcadText
namespace Go.Proofs.Ytnhjebdlcbhkcad
open Go.RowKit

theorem info_i64 : ∃ i, Try.prog.info? 3 = some i ∧ i.zero = some (.int .i64 0) ∧ i.size = 1 ∧ i.bytes = 8 := by
  have h : (Try.prog.info? 3).map (fun i => (i.zero, i.size, i.bytes)) = some (some (.int .i64 0), 1, 8) := by kernel_rfl
  rw [Option.map_eq_some_iff] at h
  obtain ⟨i, hi, he⟩ := h
  simp only [Prod.mk.injEq] at he
  exact ⟨i, hi, he⟩
theorem info_u8b : ∃ i, Try.prog.info? 5 = some i ∧ i.zero = some (.int .u8 0) ∧ i.size = 1 ∧ i.bytes = 1 := by
  have h : (Try.prog.info? 5).map (fun i => (i.zero, i.size, i.bytes)) = some (some (.int .u8 0), 1, 1) := by kernel_rfl
  rw [Option.map_eq_some_iff] at h
  obtain ⟨i, hi, he⟩ := h
  simp only [Prod.mk.injEq] at he
  exact ⟨i, hi, he⟩

set_option maxRecDepth 100000 in
set_option maxHeartbeats 1000000 in
theorem rdCloI_ok (R Z : Nat) (s : ByteArray) (e : Bool) (w : World) (h : RdSt w R s e) (hz : Blk w Z #[.pointer (some ⟨R, 0, none⟩)] 132) (hs : s.size ≤ maxLen) :
    Calls Try.prog 102 #[.pointer (some ⟨Z, 0, none⟩)] w fun r w' => ∃ (x : Int) (s' : ByteArray) (e' : Bool), r = .returned (.int .i64 x) ∧ True ∧ RdSt w' R s' e' ∧ Rd p2 s.data.toList e x s'.data.toList e' ∧ s'.size ≤ s.size ∧ w.grownBy w' (some R) := by
  have c0 := hz.is 0 rfl
  have H1 := hidE (rdTwo_ok R s e w h hs)
  clear h hz
  go_enter Try.func102, Try.ntmps102
  go_wp2_with fail
  refine H1.out.mono ?_
  rintro r w1 ⟨a, s1, e1, rfl, hS, hR, a0, a1, hsz, hg⟩
  have HS := hidE hS
  have HR := hidE hR
  have HG := hidE hg
  clear hS hR hg H1
  go_wp2_with fail
  go_ret
  exact ⟨a, s1, e1, rfl, trivial, HS.out, HR.out, hsz, HG.out⟩

set_option maxRecDepth 100000 in
set_option maxHeartbeats 2000000 in
theorem rdListI_ok (R Z k : Nat) (s : ByteArray) (e : Bool) (w : World) (h : RdSt w R s e) (hz : Blk w Z #[.pointer (some ⟨R, 0, none⟩)] 132) (hZR : Z ≠ R) (hk : k ≤ 255) (hs : s.size ≤ maxLen) :
    Calls Try.prog 101 #[.int .i64 (k : Int), .func (.func 102) #[] #[.pointer (some ⟨Z, 0, none⟩)]] w (ListGives 3 1 (fun y : Int => [.int .i64 y]) (fun _ _ _ => True) p2 id w R k s e) := by
  obtain ⟨i0, hi0, hz0, hz1, hz2⟩ := info_i64
  have hE : Stays 3 R (fun _ _ _ => True : World → Nat → Int → Prop) := Stays.free _ _
  have hRw := h.lt
  have HS := hidE h
  have HZ := hidE hz
  clear h hz
  go_enter Try.func101, Try.ntmps101
  go_wp2_with fail
  go_loopw [5, 7] (fun vo vi wr => ∃ (i : Nat) (xs : List Int) (s' : ByteArray) (e' : Bool), i ≤ k ∧ vi = .int .i64 i ∧ xs.length = i ∧ RowOwn 3 1 (fun y : Int => [.int .i64 y]) (fun _ _ _ => True) wr w.heap.size vo xs ∧ RdSt wr R s' e' ∧ Rd (pMany p2 i) s.data.toList e xs s'.data.toList e' ∧ s'.size ≤ s.size ∧ w.grownBy wr (some R) ∧ Blk wr Z #[.pointer (some ⟨R, 0, none⟩)] 132) (fun _ vi _ => k - (intOf vi).toNat)
  case atStart => exact ⟨0, [], s, e, Nat.zero_le _, rfl, rfl, RowOwn.nil, HS.out, Rd.nil, Nat.le_refl _, World.grownBy.refl _ _, HZ.out⟩
  case round =>
    clear HS HZ
    obtain ⟨i, xs, s1, e1, hik, rfl, hl, hO, hS, hR, hsz, hg, hz⟩ := hrel
    have HR := hidE hR
    have HG := hidE hg
    clear hR
    obtain ⟨p, c, rfl⟩ := owns_sl hO.own
    rcases Nat.lt_or_ge i k with hlt | hge
    · have hi1 : (i : Int) < (k : Int) := by omega
      have H1 := hidE (rdCloI_ok R Z s1 e1 wr hS hz (by omega))
      have HO := hidE hO
      have HZ := hidE hz
      have hsize := hg.size
      generalize hn : xs.length = n at *
      subst hl
      have HN := hidE hn
      clear hS hz hO hn hg
      go_wp2_with fail
      refine H1.out.mono ?_
      rintro r w1 ⟨x, s2, e2, rfl, _, hS2, hR2, hsz2, hg2⟩
      have hO1 := HO.out.far hE hRw hg2
      have hA := alloc_below w1 (Obj.cells #[.int .i64 x] 3)
      have hO2 : RowOwn 3 1 (fun y : Int => [.int .i64 y]) (fun _ _ _ => True) (w1.alloc (Obj.cells #[.int .i64 x] 3)) w.heap.size (.slice p n c) xs := hO1.far hE hRw (grownBy_none hA)
      have hX2 : (fun _ _ _ => True : World → Nat → Int → Prop) (w1.alloc (Obj.cells #[.int .i64 x] 3)) w.heap.size x := hE.far _ _ _ x trivial hRw (grownBy_none hA)
      have hown := hO2.own
      rw [HN.out] at hown
      have hsizeA : w.heap.size ≤ (w1.alloc (Obj.cells #[.int .i64 x] 3)).heap.size := Nat.le_trans hsize (Nat.le_trans hg2.size hA.size)
      have HS2 := hidE (hS2.below hA hS2.lt)
      have HZ2 := hidE ((HZ.out.grown hg2 (fun q => hZR (by simpa using q))).below hA (HZ.out.grown hg2 (fun q => hZR (by simpa using q))).lt)
      have HG2 := hidE ((grownBy_trans' HG.out hg2).trans (grownBy_none hA))
      have HR2 := hidE (HR.out.snoc hR2)
      have HO2 := hidE hO2
      have HX2 := hidE hX2
      clear hO1 hA hO2 hX2 hS2 hR2 hg2 H1 HO HZ HG HR hsize
      go_wp2_with (at_builtin; refine wpList_append_own _ rfl _ _ 50 rfl w.heap.size 3 i0 (.int .i64 0) 1 8 Try.underlying50 hi0 hz0 hz1 hz2 rfl (by decide) _ _ _ rfl hown ⟨w1.heap.size, 0, none⟩ 1 1 ((fun y : Int => [.int .i64 y]) x) rfl rfl (by intro j u hj; rw [Addr.add_lit, World.cell?_alloc_new]; simpa using hj) (by intro u hu; simp only [List.mem_cons, List.not_mem_nil, or_false] at hu; rcases hu with rfl <;> rfl) (by unfold maxLen; omega) (by omega) hsizeA ?_)
      intro v' w5 hown5 hgrow _
      obtain ⟨p', c', rfl⟩ := owns_sl hown5
      have hO5 := HO2.out.snoc hE HX2.out (by rw [HN.out]; exact hown5) hgrow
      have hRg : some R ≠ (Value.slice p n c).ownBlock := fun q => own_apart HO2.out.own hRw q.symm
      have HS5 := hidE (HS2.out.grown hgrow hRg)
      have hZg : some Z ≠ (Value.slice p n c).ownBlock := fun q => by
        rcases types_apart (T := 3) (T' := 132) (K := 1) (K' := 1) (b := w.heap.size) (b' := 0) (n := n) (m := 1) (v := .slice p n c) (v' := .slice (some ⟨Z, 0, none⟩) 1 1) hown (show World.ownsRow _ 0 _ 1 _ 1 [.pointer (some ⟨R, 0, none⟩)] from ⟨rfl, Or.inr ⟨Z, 1, #[.pointer (some ⟨R, 0, none⟩)], rfl, Nat.zero_le _, HZ2.out, Nat.le_refl _, by decide, rfl, rfl⟩⟩) (by decide) with q2 | q2
        · rw [q2] at q; cases q
        · exact q2 q.symm
      have HZ5 := hidE (HZ2.out.grown hgrow hZg)
      have HG5 := hidE (grownBy_own HG2.out hgrow (fun g hg => Or.inl (hown.lt g hg).1))
      have HO5 := hidE hO5
      have hlen : (xs ++ [x]).length = n + 1 := by rw [List.length_append, HN.out]; rfl
      clear hO5 hgrow hown5 hown hRg hZg HO2 HX2 HS2 HZ2 HG2
      go_wp2_with fail
      go_roundw
      case rel => exact ⟨n + 1, xs ++ [x], s2, e2, hlt, by go_num, hlen, HO5.out, HS5.out, HR2.out, by omega, HG5.out, HZ5.out⟩
      case measure => simp [intOf]; omega
    · have hki : i = k := by omega
      subst hki
      subst hl
      have hi1 : ¬ ((xs.length : Int) < (xs.length : Int)) := by omega
      have HO := hidE hO
      have HS := hidE hS
      clear hO hS hz hg
      go_wp2_with fail
      go_ret
      exact ⟨_, xs, s1, e1, rfl, rfl, HO.out, HS.out, by rw [List.map_id]; exact HR.out, hsz, HG.out⟩

set_option maxRecDepth 100000 in
set_option maxHeartbeats 1000000 in
theorem rdCloB_ok (R Z : Nat) (s : ByteArray) (e : Bool) (w : World) (h : RdSt w R s e) (hz : Blk w Z #[.pointer (some ⟨R, 0, none⟩)] 132) (hs : s.size ≤ maxLen) :
    Calls Try.prog 140 #[.pointer (some ⟨Z, 0, none⟩)] w fun r w' => ∃ (x : Int) (s' : ByteArray) (e' : Bool), r = .returned (.int .u8 x) ∧ True ∧ RdSt w' R s' e' ∧ Rd p1 s.data.toList e x s'.data.toList e' ∧ s'.size ≤ s.size ∧ w.grownBy w' (some R) := by
  have c0 := hz.is 0 rfl
  have H1 := hidE (rdOne_ok R s e w h hs)
  clear h hz
  go_enter Try.func140, Try.ntmps140
  go_wp2_with fail
  refine H1.out.mono ?_
  rintro r w1 ⟨a, s1, e1, rfl, hS, hR, a0, a1, hsz, hg⟩
  have HS := hidE hS
  have HR := hidE hR
  have HG := hidE hg
  have hwr : IntKind.u8.wrap a = a := by rw [IntKind.wrap_u8]; omega
  clear hS hR hg H1
  go_wp2_with fail
  go_ret
  exact ⟨a, s1, e1, rfl, trivial, HS.out, HR.out, hsz, HG.out⟩

set_option maxRecDepth 100000 in
set_option maxHeartbeats 2000000 in
theorem rdListB_ok (R Z k : Nat) (s : ByteArray) (e : Bool) (w : World) (h : RdSt w R s e) (hz : Blk w Z #[.pointer (some ⟨R, 0, none⟩)] 132) (hZR : Z ≠ R) (hk : k ≤ 255) (hs : s.size ≤ maxLen) :
    Calls Try.prog 139 #[.int .i64 (k : Int), .func (.func 140) #[] #[.pointer (some ⟨Z, 0, none⟩)]] w (ListGives 5 1 (fun y : Int => [.int .u8 y]) (fun _ _ _ => True) p1 id w R k s e) := by
  obtain ⟨i0, hi0, hz0, hz1, hz2⟩ := info_u8b
  have hE : Stays 5 R (fun _ _ _ => True : World → Nat → Int → Prop) := Stays.free _ _
  have hRw := h.lt
  have HS := hidE h
  have HZ := hidE hz
  clear h hz
  go_enter Try.func139, Try.ntmps139
  go_wp2_with fail
  go_loopw [5, 7] (fun vo vi wr => ∃ (i : Nat) (xs : List Int) (s' : ByteArray) (e' : Bool), i ≤ k ∧ vi = .int .i64 i ∧ xs.length = i ∧ RowOwn 5 1 (fun y : Int => [.int .u8 y]) (fun _ _ _ => True) wr w.heap.size vo xs ∧ RdSt wr R s' e' ∧ Rd (pMany p1 i) s.data.toList e xs s'.data.toList e' ∧ s'.size ≤ s.size ∧ w.grownBy wr (some R) ∧ Blk wr Z #[.pointer (some ⟨R, 0, none⟩)] 132) (fun _ vi _ => k - (intOf vi).toNat)
  case atStart => exact ⟨0, [], s, e, Nat.zero_le _, rfl, rfl, RowOwn.nil, HS.out, Rd.nil, Nat.le_refl _, World.grownBy.refl _ _, HZ.out⟩
  case round =>
    clear HS HZ
    obtain ⟨i, xs, s1, e1, hik, rfl, hl, hO, hS, hR, hsz, hg, hz⟩ := hrel
    have HR := hidE hR
    have HG := hidE hg
    clear hR
    obtain ⟨p, c, rfl⟩ := owns_sl hO.own
    rcases Nat.lt_or_ge i k with hlt | hge
    · have hi1 : (i : Int) < (k : Int) := by omega
      have H1 := hidE (rdCloB_ok R Z s1 e1 wr hS hz (by omega))
      have HO := hidE hO
      have HZ := hidE hz
      have hsize := hg.size
      generalize hn : xs.length = n at *
      subst hl
      have HN := hidE hn
      clear hS hz hO hn hg
      go_wp2_with fail
      refine H1.out.mono ?_
      rintro r w1 ⟨x, s2, e2, rfl, _, hS2, hR2, hsz2, hg2⟩
      have hO1 := HO.out.far hE hRw hg2
      have hA := alloc_below w1 (Obj.cells #[.int .u8 x] 5)
      have hO2 : RowOwn 5 1 (fun y : Int => [.int .u8 y]) (fun _ _ _ => True) (w1.alloc (Obj.cells #[.int .u8 x] 5)) w.heap.size (.slice p n c) xs := hO1.far hE hRw (grownBy_none hA)
      have hX2 : (fun _ _ _ => True : World → Nat → Int → Prop) (w1.alloc (Obj.cells #[.int .u8 x] 5)) w.heap.size x := hE.far _ _ _ x trivial hRw (grownBy_none hA)
      have hown := hO2.own
      rw [HN.out] at hown
      have hsizeA : w.heap.size ≤ (w1.alloc (Obj.cells #[.int .u8 x] 5)).heap.size := Nat.le_trans hsize (Nat.le_trans hg2.size hA.size)
      have HS2 := hidE (hS2.below hA hS2.lt)
      have HZ2 := hidE ((HZ.out.grown hg2 (fun q => hZR (by simpa using q))).below hA (HZ.out.grown hg2 (fun q => hZR (by simpa using q))).lt)
      have HG2 := hidE ((grownBy_trans' HG.out hg2).trans (grownBy_none hA))
      have HR2 := hidE (HR.out.snoc hR2)
      have HO2 := hidE hO2
      have HX2 := hidE hX2
      clear hO1 hA hO2 hX2 hS2 hR2 hg2 H1 HO HZ HG HR hsize
      go_wp2_with (at_builtin; refine wpList_append_own _ rfl _ _ 86 rfl w.heap.size 5 i0 (.int .u8 0) 1 1 Try.underlying86 hi0 hz0 hz1 hz2 rfl (by decide) _ _ _ rfl hown ⟨w1.heap.size, 0, none⟩ 1 1 ((fun y : Int => [.int .u8 y]) x) rfl rfl (by intro j u hj; rw [Addr.add_lit, World.cell?_alloc_new]; simpa using hj) (by intro u hu; simp only [List.mem_cons, List.not_mem_nil, or_false] at hu; rcases hu with rfl <;> rfl) (by unfold maxLen; omega) (by omega) hsizeA ?_)
      intro v' w5 hown5 hgrow _
      obtain ⟨p', c', rfl⟩ := owns_sl hown5
      have hO5 := HO2.out.snoc hE HX2.out (by rw [HN.out]; exact hown5) hgrow
      have hRg : some R ≠ (Value.slice p n c).ownBlock := fun q => own_apart HO2.out.own hRw q.symm
      have HS5 := hidE (HS2.out.grown hgrow hRg)
      have hZg : some Z ≠ (Value.slice p n c).ownBlock := fun q => by
        rcases types_apart (T := 5) (T' := 132) (K := 1) (K' := 1) (b := w.heap.size) (b' := 0) (n := n) (m := 1) (v := .slice p n c) (v' := .slice (some ⟨Z, 0, none⟩) 1 1) hown (show World.ownsRow _ 0 _ 1 _ 1 [.pointer (some ⟨R, 0, none⟩)] from ⟨rfl, Or.inr ⟨Z, 1, #[.pointer (some ⟨R, 0, none⟩)], rfl, Nat.zero_le _, HZ2.out, Nat.le_refl _, by decide, rfl, rfl⟩⟩) (by decide) with q2 | q2
        · rw [q2] at q; cases q
        · exact q2 q.symm
      have HZ5 := hidE (HZ2.out.grown hgrow hZg)
      have HG5 := hidE (grownBy_own HG2.out hgrow (fun g hg => Or.inl (hown.lt g hg).1))
      have HO5 := hidE hO5
      have hlen : (xs ++ [x]).length = n + 1 := by rw [List.length_append, HN.out]; rfl
      clear hO5 hgrow hown5 hown hRg hZg HO2 HX2 HS2 HZ2 HG2
      go_wp2_with fail
      go_roundw
      case rel => exact ⟨n + 1, xs ++ [x], s2, e2, hlt, by go_num, hlen, HO5.out, HS5.out, HR2.out, by omega, HG5.out, HZ5.out⟩
      case measure => simp [intOf]; omega
    · have hki : i = k := by omega
      subst hki
      subst hl
      have hi1 : ¬ ((xs.length : Int) < (xs.length : Int)) := by omega
      have HO := hidE hO
      have HS := hidE hS
      clear hO hS hz hg
      go_wp2_with fail
      go_ret
      exact ⟨_, xs, s1, e1, rfl, rfl, HO.out, HS.out, by rw [List.map_id]; exact HR.out, hsz, HG.out⟩
end Go.Proofs.Ytnhjebdlcbhkcad
