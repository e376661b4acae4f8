/- Contracts of diff.Play and of the reference's PlayOf. -/
import Derived.Test.YtnhjebdlcbhkcadDiffFin
import Derived.Test.YtnhjebdlcbhkcadPlainW
import Derived.Test.YtnhjebdlcbhkcadPlainR
namespace Go.Proofs.Ytnhjebdlcbhkcad
open Go.RowKit

/-- edits that lie at a place -/
def RowEd (w : World) (a : Option Addr) (l : List Ed) : Prop :=
  l = [] ∨ ∃ b off, a = some ⟨b, off, none⟩ ∧ b < w.heap.size ∧ ∀ i (_ : i < l.length), w.cell? ⟨b, off + i * 4, none⟩ = some (.int .i64 l[i].kind) ∧ w.cell? ⟨b, off + i * 4 + 1, none⟩ = some (.int .i64 l[i].at') ∧ w.cell? ⟨b, off + i * 4 + 2, none⟩ = some (.int .i64 l[i].many) ∧ w.cell? ⟨b, off + i * 4 + 3, none⟩ = some (.string l[i].text)
theorem RowEd.below {w w' : World} {a : Option Addr} {l : List Ed} {B : Nat} (h : RowEd w a l) (hb : Below B w w') (hB : w.heap.size ≤ B) : RowEd w' a l := by
  rcases h with h | ⟨b, off, e, hl, hc⟩
  · exact Or.inl h
  · have hk : b < B := Nat.lt_of_lt_of_le hl hB
    refine Or.inr ⟨b, off, e, Nat.lt_of_lt_of_le hl hb.size, fun i hi => ?_⟩
    obtain ⟨h0, h1, h2, h3⟩ := hc i hi
    exact ⟨(hb.cell (p := ⟨b, _, none⟩) hk).trans h0, (hb.cell (p := ⟨b, _, none⟩) hk).trans h1, (hb.cell (p := ⟨b, _, none⟩) hk).trans h2, (hb.cell (p := ⟨b, _, none⟩) hk).trans h3⟩

theorem plT_size {s : ByteArray} {e : Ed} (h : plE s e = 0) : (plT s e).size ≤ 300 := by
  unfold plE at h
  unfold plT
  split at h
  · cases h
  rename_i h1
  rw [if_neg h1]
  split at h
  · cases h
  rename_i h2
  rw [if_neg h2]
  split at h
  · rename_i h3
    rw [if_pos h3]
    have hE := h
    unfold putE at h
    unfold putT
    rw [if_pos hE]
    split at h
    · cases h
    split at h
    · cases h
    split at h
    · cases h
    split at h
    · cases h
    rename_i h4
    simp only [ByteArray.size_append, ByteArray.size_extract]
    omega
  · rename_i h3
    rw [if_neg h3]
    split at h
    · rename_i h4
      rw [if_pos h4]
      unfold takeT
      rw [if_pos h]
      simp only [ByteArray.size_append, ByteArray.size_extract]
      omega
    · cases h

theorem play_cons {s : ByteArray} {x : Ed} {l : List Ed} : playE s (x :: l) = (if plE s x = 0 then playE (plT s x) l else plE s x) ∧ playT s (x :: l) = (if plE s x = 0 then playT (plT s x) l else ⟨#[]⟩) := ⟨rfl, rfl⟩

set_option maxRecDepth 100000 in
set_option maxHeartbeats 1000000 in
theorem play_any (s : ByteArray) (a : Option Addr) (cap : Nat) (l : List Ed) (w : World) (h : RowEd w a l) (hl : l.length ≤ maxLen) (hs : s.size ≤ 4611686018427387904) (ht : ∀ x ∈ l, x.text.size ≤ 4611686018427387904 ∧ x.many ≤ 9223372036854775807) :
    Calls Try.prog 14 #[.string s, .slice a l.length cap] w fun e w' => e = .returned (.tuple #[.string (playT s l), .int .i64 (playE s l)]) ∧ Below w.heap.size w w' := by
  unfold maxLen at hl
  go_enter Try.func14, Try.ntmps14
  go_wp2
  go_loopw [11, 0] (fun i v wr => ∃ k : Nat, k ≤ l.length ∧ i = .int .i64 k ∧ ∃ t, v = .string t ∧ t.size ≤ 4611686018427387904 ∧ playE s l = playE t (l.drop k) ∧ playT s l = playT t (l.drop k) ∧ Below w.heap.size w wr) (fun i _ _ => l.length - (intOf i).toNat)
  case atStart => exact ⟨0, Nat.zero_le _, rfl, s, rfl, hs, rfl, rfl, Below.refl _ _⟩
  case round =>
    obtain ⟨k, hk, rfl, t, rfl, hts, hE, hT, hb⟩ := hrel
    by_cases hlt : k < l.length
    · rcases h.below hb (Nat.le_refl _) with hz | ⟨ab, ao, rfl, hab, hc⟩
      · simp [hz] at hlt
      obtain ⟨c0, c1, c2, c3⟩ := hc k hlt
      have hi1 : (k : Int) < l.length := by omega
      obtain ⟨hx1, hx2⟩ := ht l[k] (List.getElem_mem hlt)
      rw [List.drop_eq_getElem_cons hlt, play_cons.1] at hE
      rw [List.drop_eq_getElem_cons hlt, play_cons.2] at hT
      have HC := hidE (fun w0 => plain_any t l[k].text l[k].kind l[k].at' l[k].many w0 hts hx1 hx2)
      have HS := hidE (@plT_size t l[k])
      have HE := hidE hE
      have HT := hidE hT
      clear hc h hE hT hx1 hx2 ht
      generalize l[k] = x at *
      obtain ⟨kind, n, many, tx⟩ := x
      have HB := hidE hb
      clear hb
      cases hz : decide (plE t ⟨kind, n, many, tx⟩ = 0)
      · have hz' := of_decide_eq_false hz
        have HE2 : Hid (playE s l = plE t ⟨kind, n, many, tx⟩) := hidE (HE.out.trans (if_neg hz'))
        have HT2 : Hid (playT s l = ⟨#[]⟩) := hidE (HT.out.trans (if_neg hz'))
        clear HE HT HS hz
        generalize plE t ⟨kind, n, many, tx⟩ = pe at *
        generalize plT t ⟨kind, n, many, tx⟩ = pt at *
        have HB3 : Hid (Below w.heap.size w (wr.alloc (Obj.cells #[.int .i64 kind, .int .i64 n, .int .i64 many, .string tx] 45))) := hidE (HB.out.alloc HB.out.size _)
        go_wp2_with (go_at_call 43; refine (HC.out _).mono ?_; rintro e w2 ⟨rfl, hb2⟩)
        go_ret2
        exact ⟨by rw [HE2.out, HT2.out]; rfl, HB3.out.trans (hb2.mono HB3.out.size)⟩
      · have hz' := of_decide_eq_true hz
        have HE2 : Hid (playE s l = playE (plT t ⟨kind, n, many, tx⟩) (l.drop (k + 1))) := hidE (HE.out.trans (if_pos hz'))
        have HT2 : Hid (playT s l = playT (plT t ⟨kind, n, many, tx⟩) (l.drop (k + 1))) := hidE (HT.out.trans (if_pos hz'))
        have HSz := hidE (Nat.le_trans (HS.out hz') (by decide : 300 ≤ 4611686018427387904))
        rw [hz'] at HC
        clear HE HT HS hz hz'
        generalize plT t ⟨kind, n, many, tx⟩ = pt at *
        have HB3 : Hid (Below w.heap.size w (wr.alloc (Obj.cells #[.int .i64 kind, .int .i64 n, .int .i64 many, .string tx] 45))) := hidE (HB.out.alloc HB.out.size _)
        go_wp2_with (go_at_call 43; refine (HC.out _).mono ?_; rintro e w2 ⟨rfl, hb2⟩)
        go_roundw
        case rel => exact ⟨k + 1, by omega, by go_num, pt, rfl, HSz.out, HE2.out, HT2.out, HB3.out.trans (hb2.mono HB3.out.size)⟩
        case measure => simp [intOf]; omega
    · have hkl : k = l.length := by omega
      subst hkl
      rw [List.drop_length] at hE hT
      have HE := hidE hE
      have HT := hidE hT
      clear hE hT
      go_wp2
      go_ret2
      exact ⟨by rw [HE.out, HT.out]; rfl, hb⟩

set_option maxRecDepth 100000 in
set_option maxHeartbeats 1000000 in
theorem playOf_any (s : ByteArray) (a : Option Addr) (cap : Nat) (l : List Ed) (w : World) (h : RowEd w a l) (hl : l.length ≤ maxLen) (hs : s.size ≤ 4611686018427387904) (ht : ∀ x ∈ l, x.text.size ≤ 4611686018427387904 ∧ x.many ≤ 9223372036854775807) :
    Calls Try.prog 15 #[.string s, .slice a l.length cap] w fun e w' => e = .returned (.tuple #[.string (playT s l), .int .i64 (playE s l)]) ∧ Below w.heap.size w w' := by
  unfold maxLen at hl
  go_enter Try.func15, Try.ntmps15
  go_wp2
  go_loopw [6, 0] (fun i v wr => ∃ k : Nat, k ≤ l.length ∧ i = .int .i64 k ∧ ∃ t, v = .string t ∧ t.size ≤ 4611686018427387904 ∧ playE s l = playE t (l.drop k) ∧ playT s l = playT t (l.drop k) ∧ Below w.heap.size w wr) (fun i _ _ => l.length - (intOf i).toNat)
  case atStart => exact ⟨0, Nat.zero_le _, rfl, s, rfl, hs, rfl, rfl, Below.refl _ _⟩
  case round =>
    obtain ⟨k, hk, rfl, t, rfl, hts, hE, hT, hb⟩ := hrel
    by_cases hlt : k < l.length
    · rcases h.below hb (Nat.le_refl _) with hz | ⟨ab, ao, rfl, hab, hc⟩
      · simp [hz] at hlt
      obtain ⟨c0, c1, c2, c3⟩ := hc k hlt
      have hi1 : (k : Int) < l.length := by omega
      obtain ⟨hx1, hx2⟩ := ht l[k] (List.getElem_mem hlt)
      rw [List.drop_eq_getElem_cons hlt, play_cons.1] at hE
      rw [List.drop_eq_getElem_cons hlt, play_cons.2] at hT
      have HC := hidE (fun w0 => plainOf_any t l[k].text l[k].kind l[k].at' l[k].many w0 hts hx1 hx2)
      have HS := hidE (@plT_size t l[k])
      have HE := hidE hE
      have HT := hidE hT
      clear hc h hE hT hx1 hx2 ht
      generalize l[k] = x at *
      obtain ⟨kind, n, many, tx⟩ := x
      have HB := hidE hb
      clear hb
      cases hz : decide (plE t ⟨kind, n, many, tx⟩ = 0)
      · have hz' := of_decide_eq_false hz
        have HE2 : Hid (playE s l = plE t ⟨kind, n, many, tx⟩) := hidE (HE.out.trans (if_neg hz'))
        have HT2 : Hid (playT s l = ⟨#[]⟩) := hidE (HT.out.trans (if_neg hz'))
        clear HE HT HS hz
        generalize plE t ⟨kind, n, many, tx⟩ = pe at *
        generalize plT t ⟨kind, n, many, tx⟩ = pt at *
        go_wp2_with (go_at_call 44; refine (HC.out _).mono ?_; rintro e w2 ⟨rfl, hb2⟩)
        go_ret2
        exact ⟨by rw [HE2.out, HT2.out]; rfl, HB.out.trans (hb2.mono HB.out.size)⟩
      · have hz' := of_decide_eq_true hz
        have HE2 : Hid (playE s l = playE (plT t ⟨kind, n, many, tx⟩) (l.drop (k + 1))) := hidE (HE.out.trans (if_pos hz'))
        have HT2 : Hid (playT s l = playT (plT t ⟨kind, n, many, tx⟩) (l.drop (k + 1))) := hidE (HT.out.trans (if_pos hz'))
        have HSz := hidE (Nat.le_trans (HS.out hz') (by decide : 300 ≤ 4611686018427387904))
        rw [hz'] at HC
        clear HE HT HS hz hz'
        generalize plT t ⟨kind, n, many, tx⟩ = pt at *
        go_wp2_with (go_at_call 44; refine (HC.out _).mono ?_; rintro e w2 ⟨rfl, hb2⟩)
        go_roundw
        case rel => exact ⟨k + 1, by omega, by go_num, pt, rfl, HSz.out, HE2.out, HT2.out, HB.out.trans (hb2.mono HB.out.size)⟩
        case measure => simp [intOf]; omega
    · have hkl : k = l.length := by omega
      subst hkl
      rw [List.drop_length] at hE hT
      have HE := hidE hE
      have HT := hidE hT
      clear hE hT
      go_wp2
      go_ret2
      exact ⟨by rw [HE.out, HT.out]; rfl, hb⟩
end Go.Proofs.Ytnhjebdlcbhkcad
