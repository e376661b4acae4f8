/- The memory of wire's writer. -/
import Derived.Test.YtnhjebdlcbhkcadText
import Derived.Test.YtnhjebdlcbhkcadWirePu
namespace Go.Proofs.Ytnhjebdlcbhkcad
open Go.RowKit

/-- the writer at R holds these bytes; its row is its own, behind base -/
structure WrSt (w : World) (R base : Nat) (v : Value) (l : List Int) : Prop where
  box : Blk w R #[v] 88
  own : w.ownsRow base 5 1 v l.length (l.map (Value.int .u8))
  lt : R < base
  le : base ≤ w.heap.size

/-- all stays but the writer and rows of bytes behind base -/
structure KeptW (R base : Nat) (w w' : World) : Prop where
  os : w'.os = w.os
  tape : w'.tape = w.tape
  output : w'.output = w.output
  size : w.heap.size ≤ w'.heap.size
  block : ∀ k, k < w.heap.size → k ≠ R → (k < base ∨ ∀ cs z, w.heap[k]? ≠ some (.cells cs 5 z)) → w'.heap[k]? = w.heap[k]?

section
variable {w w' w1 : World} {R base : Nat} {v v' : Value} {l : List Int}
theorem KeptW.refl (R base : Nat) (w : World) : KeptW R base w w := ⟨rfl, rfl, rfl, Nat.le_refl _, fun _ _ _ _ => rfl⟩
theorem KeptW.trans (h : KeptW R base w w1) (k : KeptW R base w1 w') : KeptW R base w w' :=
  ⟨k.os.trans h.os, k.tape.trans h.tape, k.output.trans h.output, Nat.le_trans h.size k.size, fun i h1 h2 h3 => by
    have e := h.block i h1 h2 h3
    refine (k.block i (Nat.lt_of_lt_of_le h1 h.size) h2 (h3.imp id fun h3 cs z => ?_)).trans e
    rw [e]; exact h3 cs z⟩
theorem KeptW.below (h : KeptW R base w w') (hR : R < base) (hs : R ≤ w.heap.size) : Below R w w' :=
  ⟨h.os, h.tape, h.output, h.size, fun k hk => h.block k (by omega) (by omega) (Or.inl (by omega))⟩
theorem KeptW.blk {Z : Nat} {cs : Array Value} {t : TypeId} (h : KeptW R base w w') (hb : Blk w Z cs t) (hZ : Z ≠ R) (ht : t ≠ 5) : Blk w' Z cs t := by
  refine (h.block Z hb.lt hZ (Or.inr fun cs' z e => ?_)).trans hb
  unfold Blk at hb
  rw [hb] at e
  simp only [Option.some.injEq, Obj.cells.injEq] at e
  exact ht e.2.1
theorem KeptW.of_below (h : Below w.heap.size w w') : KeptW R base w w' := ⟨h.os, h.tape, h.output, h.size, fun k hk _ _ => h.block k hk⟩
theorem KeptW.alloc (h : KeptW R base w w') (o : Obj) : KeptW R base w (w'.alloc o) := h.trans (KeptW.of_below ((Below.refl _ _).alloc (Nat.le_refl _) _))
theorem KeptW.drew (h : KeptW R base w w') : KeptW R base w w'.drew := ⟨h.os, h.tape, h.output, h.size, h.block⟩

theorem WrSt.below (h : WrSt w R base v l) (hb : Below w.heap.size w w') : WrSt w' R base v l :=
  ⟨h.box.below hb h.box.lt, owns_below h.own hb, h.lt, Nat.le_trans h.le hb.size⟩
theorem WrSt.alloc (h : WrSt w R base v l) (o : Obj) : WrSt (w.alloc o) R base v l := h.below ((Below.refl _ _).alloc (Nat.le_refl _) _)
theorem WrSt.form (h : WrSt w R base v l) : ∃ p c, v = .slice p l.length c := by
  rcases h.own.2 with ⟨rfl, h0⟩ | ⟨g, cap, cur, rfl, _⟩
  · exact ⟨none, 0, by rw [h0]⟩
  · exact ⟨_, _, rfl⟩
theorem WrSt.push {x : Int} (h : WrSt w R base v l) (ho : w1.ownsRow base 5 1 v' (l.length + 1) (l.map (Value.int .u8) ++ [.int .u8 x])) (hg : w.grownBy w1 v.ownBlock) :
    WrSt (w1.setCell ⟨R, 0, none⟩ v') R base v' (l ++ [x]) ∧ KeptW R base w (w1.setCell ⟨R, 0, none⟩ v') ∧ Blk w1 R #[v] 88 := by
  have hRv : some R ≠ v.ownBlock := fun e => by
    rcases h.own.2 with ⟨rfl, _⟩ | ⟨g, cap, cur, rfl, hb, _⟩
    · cases e
    · have : R = g := by simpa [Value.ownBlock] using e
      have := h.lt; omega
  have hRv' : v'.ownBlock ≠ some R := fun e => by
    rcases ho.2 with ⟨rfl, _⟩ | ⟨g, cap, cur, rfl, hb, _⟩
    · cases e
    · have : g = R := by simpa [Value.ownBlock] using e
      have := h.lt; omega
  have hB := h.box.grown hg hRv
  have hS := hB.set 0 v'
  refine ⟨⟨hS, ?_, h.lt, ?_⟩, ⟨hg.os, hg.tape, hg.output, ?_, ?_⟩, hB⟩
  · have := ownsRow_setCell_other ho (a := ⟨R, 0, none⟩) hRv' v'
    rw [List.map_append, List.length_append]
    exact this
  · have := hg.size; have := h.le; simp [World.setCell]; omega
  · have := hg.size; simpa [World.setCell] using this
  · intro k hk hkR hc
    rw [Below.heap_setCell _ _ _ k (fun e => hkR e)]
    refine hg.block k hk fun e => ?_
    rcases h.own.2 with ⟨rfl, _⟩ | ⟨g, cap, cur, rfl, hb, hh, _⟩
    · cases e
    · have : k = g := by simpa [Value.ownBlock] using e
      subst this
      rcases hc with hc | hc
      · omega
      · exact hc _ _ hh
end
end Go.Proofs.Ytnhjebdlcbhkcad

namespace Go.Proofs.Ytnhjebdlcbhkcad
open Go.RowKit

theorem info_u8 : ∃ i, Try.prog.info? 5 = some i ∧ i.zero = some (.int .u8 0) ∧ i.size = 1 ∧ i.bytes = 1 := by
  have h : (Try.prog.info? 5).map (fun i => (i.zero, i.size, i.bytes)) = some (some (.int .u8 0), 1, 1) := by kernel_rfl
  rw [Option.map_eq_some_iff] at h
  obtain ⟨i, hi, he⟩ := h
  simp only [Prod.mk.injEq] at he
  exact ⟨i, hi, he⟩

set_option maxRecDepth 100000 in
set_option maxHeartbeats 1000000 in
theorem wrOne_ok (R base : Nat) (v : Value) (l : List Int) (x : Int) (w : World) (h : WrSt w R base v l) (h0 : 0 ≤ x) (h1 : x ≤ 255) (hl : l.length ≤ 1000000) :
    Calls Try.prog 96 #[.pointer (some ⟨R, 0, none⟩), .int .i64 x] w fun e w' => e = .returned (.tuple #[]) ∧ (∃ v', WrSt w' R base v' (l ++ [x])) ∧ KeptW R base w w' := by
  obtain ⟨i0, hi0, hz0, hz1, hz2⟩ := info_u8
  have hwr : IntKind.u8.wrap x = x := by rw [IntKind.wrap_u8]; omega
  have hA := h.alloc (Obj.cells #[.int .u8 x] 5)
  have HK := hidE ((KeptW.refl R base w).alloc (Obj.cells #[.int .u8 x] 5))
  obtain ⟨p0, c0, ev⟩ := h.form
  generalize hn : l.length = n at *
  have q0 := h.box.is 0 rfl
  have hsz : w.heap.size < (w.alloc (Obj.cells #[.int .u8 x] 5)).heap.size := by simp
  have hnew := Blk.new w #[.int .u8 x] 5
  subst ev
  clear h
  have HA := hidE hA
  have hown := hA.own
  have hle := hA.le
  rw [hn] at hown
  clear hA
  have HN := hidE hn
  clear hn
  go_enter Try.func96, Try.ntmps96
  go_wp2_with (at_builtin; refine wpList_append_own _ rfl _ _ 86 rfl base 5 i0 (.int .u8 0) 1 1 Try.underlying86 hi0 hz0 hz1 hz2 rfl (by decide) _ _ _ rfl hown ⟨w.heap.size, 0, none⟩ 1 1 [.int .u8 x] rfl rfl (by intro j u hj; rw [Addr.add_lit, World.cell?_alloc_new]; simpa using hj) (by intro u hu; rw [List.mem_singleton.1 hu]; rfl) (by unfold maxLen; omega) (by omega) hle ?_)
  intro v' w5 hown5 hgrow _
  obtain ⟨p', c', rfl⟩ := owns_sl hown5
  obtain ⟨hS, hK, hB⟩ := HA.out.push (x := x) (by rw [HN.out]; exact hown5) hgrow
  have q1 := hB.is 0 rfl
  have f1 := hB.frozen 0
  have HS := hidE hS
  have HK2 := hidE (HK.out.trans hK)
  clear hown5 hgrow hown HA hS hK hB HK
  go_wp2_with fail
  go_end0
  exact ⟨rfl, ⟨_, HS.out⟩, HK2.out⟩

set_option maxRecDepth 100000 in
set_option maxHeartbeats 1000000 in
theorem wrTwo_ok (R base : Nat) (v : Value) (l : List Int) (x : Int) (w : World) (h : WrSt w R base v l) (h0 : 0 ≤ x) (h1 : x ≤ 65535) (hl : l.length ≤ 900000) :
    Calls Try.prog 97 #[.pointer (some ⟨R, 0, none⟩), .int .i64 x] w fun e w' => e = .returned (.tuple #[]) ∧ (∃ v', WrSt w' R base v' (l ++ e2 x)) ∧ KeptW R base w w' := by
  have hm : x.tmod 256 = x % 256 := Int.tmod_eq_emod_of_nonneg h0
  have hd : x.tdiv 256 = x / 256 := Int.tdiv_eq_ediv_of_nonneg h0
  have hw1 : IntKind.i64.wrap (x % 256) = x % 256 := by rw [IntKind.wrap_i64] <;> omega
  have hw2 : IntKind.i64.wrap (x / 256) = x / 256 := by rw [IntKind.wrap_i64] <;> omega
  have HE : Hid (l ++ e2 x = (l ++ [x % 256]) ++ [x / 256]) := by show _ = _; simp [e2]
  have H1 := hidE (wrOne_ok R base v l (x % 256) w h (by omega) (by omega) (by omega))
  have H2 := hidE (fun v' w' (h : WrSt w' R base v' (l ++ [x % 256])) => wrOne_ok R base v' (l ++ [x % 256]) (x / 256) w' h (by omega) (by omega) (by rw [List.length_append]; simp; omega))
  clear h
  generalize x % 256 = a at *
  generalize x / 256 = b at *
  go_enter Try.func97, Try.ntmps97
  go_wp2_with fail
  refine H1.out.mono ?_
  rintro e w1 ⟨rfl, ⟨v1, hS⟩, hK⟩
  have H2' := hidE (H2.out v1 w1 hS)
  have HK := hidE hK
  clear hS hK H1 H2
  go_wp2_with fail
  refine H2'.out.mono ?_
  rintro e w2 ⟨rfl, ⟨v2, hS⟩, hK⟩
  have HS := hidE hS
  have HK2 := hidE (HK.out.trans hK)
  clear hS hK HK H2'
  go_wp2_with fail
  go_end0
  exact ⟨rfl, ⟨_, by rw [HE.out]; exact HS.out⟩, HK2.out⟩
end Go.Proofs.Ytnhjebdlcbhkcad
