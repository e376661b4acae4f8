/- Contracts of wire's writer: bytes. -/
import Derived.Test.YtnhjebdlcbhkcadWrMem
import Derived.Test.YtnhjebdlcbhkcadText
namespace Go.Proofs.Ytnhjebdlcbhkcad
open Go.RowKit

theorem info_u8 : ∃ i, Try.prog.info? 5 = some i ∧ i.zero = some (.int .u8 0) ∧ i.size = 1 ∧ i.bytes = 1 := by
  have h : (Try.prog.info? 5).map (fun i => (i.zero, i.size, i.bytes)) = some (some (.int .u8 0), 1, 1) := by kernel_rfl
  rw [Option.map_eq_some_iff] at h
  obtain ⟨i, hi, he⟩ := h
  simp only [Prod.mk.injEq] at he
  exact ⟨i, hi, he⟩

set_option maxRecDepth 100000 in
set_option maxHeartbeats 1000000 in
theorem wrOne_ok (R base : Nat) (v : Value) (l : List Int) (x : Int) (w : World) (h : WrSt w R base v l) (h0 : 0 ≤ x) (h1 : x ≤ 255) (hl : l.length ≤ 1000000) :
    Calls Try.prog 96 #[.pointer (some ⟨R, 0, none⟩), .int .i64 x] w fun e w' => e = .returned (.tuple #[]) ∧ (∃ v', WrSt w' R base v' (l ++ [x])) ∧ KeptW R base w w' := by
  obtain ⟨i0, hi0, hz0, hz1, hz2⟩ := info_u8
  have hwr : IntKind.u8.wrap x = x := by rw [IntKind.wrap_u8]; omega
  have hA := h.alloc (Obj.cells #[.int .u8 x] 5)
  have HK := hidE ((KeptW.refl R base w).alloc (Obj.cells #[.int .u8 x] 5))
  obtain ⟨p0, c0, ev⟩ := h.form
  generalize hn : l.length = n at *
  have q0 := h.box.is 0 rfl
  have hsz : w.heap.size < (w.alloc (Obj.cells #[.int .u8 x] 5)).heap.size := by simp
  have hnew := Blk.new w #[.int .u8 x] 5
  subst ev
  clear h
  have HA := hidE hA
  have hown := hA.own
  have hle := hA.le
  rw [hn] at hown
  clear hA
  have HN := hidE hn
  clear hn
  go_enter Try.func96, Try.ntmps96
  go_wp2_with (at_builtin; refine wpList_append_own _ rfl _ _ 86 rfl base 5 i0 (.int .u8 0) 1 1 Try.underlying86 hi0 hz0 hz1 hz2 rfl (by decide) _ _ _ rfl hown ⟨w.heap.size, 0, none⟩ 1 1 [.int .u8 x] rfl rfl (by intro j u hj; rw [Addr.add_lit, World.cell?_alloc_new]; simpa using hj) (by intro u hu; rw [List.mem_singleton.1 hu]; rfl) (by unfold maxLen; omega) (by omega) hle ?_)
  intro v' w5 hown5 hgrow _
  obtain ⟨p', c', rfl⟩ := owns_sl hown5
  obtain ⟨hS, hK, hB⟩ := HA.out.push (x := x) (by rw [HN.out]; exact hown5) hgrow
  have q1 := hB.is 0 rfl
  have f1 := hB.frozen 0
  have HS := hidE hS
  have HK2 := hidE (HK.out.trans hK)
  clear hown5 hgrow hown HA hS hK hB HK
  go_wp2_with fail
  go_end0
  exact ⟨rfl, ⟨_, HS.out⟩, HK2.out⟩

set_option maxRecDepth 100000 in
set_option maxHeartbeats 1000000 in
theorem wrTwo_ok (R base : Nat) (v : Value) (l : List Int) (x : Int) (w : World) (h : WrSt w R base v l) (h0 : 0 ≤ x) (h1 : x ≤ 65535) (hl : l.length ≤ 900000) :
    Calls Try.prog 97 #[.pointer (some ⟨R, 0, none⟩), .int .i64 x] w fun e w' => e = .returned (.tuple #[]) ∧ (∃ v', WrSt w' R base v' (l ++ e2 x)) ∧ KeptW R base w w' := by
  have hm : x.tmod 256 = x % 256 := Int.tmod_eq_emod_of_nonneg h0
  have hd : x.tdiv 256 = x / 256 := Int.tdiv_eq_ediv_of_nonneg h0
  have hw1 : IntKind.i64.wrap (x % 256) = x % 256 := by rw [IntKind.wrap_i64] <;> omega
  have hw2 : IntKind.i64.wrap (x / 256) = x / 256 := by rw [IntKind.wrap_i64] <;> omega
  have HE : Hid (l ++ e2 x = (l ++ [x % 256]) ++ [x / 256]) := by show _ = _; simp [e2]
  have H1 := hidE (wrOne_ok R base v l (x % 256) w h (by omega) (by omega) (by omega))
  have H2 := hidE (fun v' w' (h : WrSt w' R base v' (l ++ [x % 256])) => wrOne_ok R base v' (l ++ [x % 256]) (x / 256) w' h (by omega) (by omega) (by rw [List.length_append]; simp; omega))
  clear h
  generalize x % 256 = a at *
  generalize x / 256 = b at *
  go_enter Try.func97, Try.ntmps97
  go_wp2_with fail
  refine H1.out.mono ?_
  rintro e w1 ⟨rfl, ⟨v1, hS⟩, hK⟩
  have H2' := hidE (H2.out v1 w1 hS)
  have HK := hidE hK
  clear hS hK H1 H2
  go_wp2_with fail
  refine H2'.out.mono ?_
  rintro e w2 ⟨rfl, ⟨v2, hS⟩, hK⟩
  have HS := hidE hS
  have HK2 := hidE (HK.out.trans hK)
  clear hS hK HK H2'
  go_wp2_with fail
  go_end0
  exact ⟨rfl, ⟨_, by rw [HE.out]; exact HS.out⟩, HK2.out⟩
end Go.Proofs.Ytnhjebdlcbhkcad
