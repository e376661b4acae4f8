/- Rows of notes. -/
import Derived.Test.YtnhjebdlcbhkcafNoteC
namespace Go.Proofs.Ytnhjebdlcbhkcaf
open Go.RowKit

/-- a row of notes lies there -/
def NotesAt (w : World) (a : Option Addr) (ns : List Nt) : Prop :=
  ns = [] ∨ ∃ b o, a = some ⟨b, o, none⟩ ∧ b < w.heap.size ∧ ∀ i (h : i < ns.length), ∃ p cp q cq, w.cell? ⟨b, o + i * 4, none⟩ = some (.int .i64 ns[i].site) ∧ w.cell? ⟨b, o + i * 4 + 1, none⟩ = some (.int .i64 ns[i].number) ∧ w.cell? ⟨b, o + i * 4 + 2, none⟩ = some (.slice p ns[i].needs.length cp) ∧ w.cell? ⟨b, o + i * 4 + 3, none⟩ = some (.slice q ns[i].deeds.length cq) ∧ NtAt w ns[i] p q

theorem NotesAt.below {w w' : World} {a : Option Addr} {ns : List Nt} (h : NotesAt w a ns) (hb : Below w.heap.size w w') : NotesAt w' a ns := by
  rcases h with h | ⟨b, o, rfl, hlt, hc⟩
  · exact Or.inl h
  · refine Or.inr ⟨b, o, rfl, Nat.lt_of_lt_of_le hlt hb.size, fun i hi => ?_⟩
    obtain ⟨p, cp, q, cq, h0, h1, h2, h3, h4⟩ := hc i hi
    have k := fun j => hb.cell (p := ⟨b, j, none⟩) hlt
    exact ⟨p, cp, q, cq, (k _).trans h0, (k _).trans h1, (k _).trans h2, (k _).trans h3, h4.below hb⟩

/-- a part of a row of notes -/
theorem NotesAt.slice {w : World} {b o : Nat} {ns : List Nt} (h : NotesAt w (some ⟨b, o, none⟩) ns) (i j : Nat) : NotesAt w (some ⟨b, o + i * 4, none⟩) ((ns.drop i).take j) := by
  rcases h with h | ⟨b', o', e, hlt, hc⟩
  · exact Or.inl (by rw [h]; simp)
  · simp only [Option.some.injEq, Addr.mk.injEq, and_true] at e
    obtain ⟨rfl, rfl⟩ := e
    refine Or.inr ⟨b, o + i * 4, rfl, hlt, fun k hk => ?_⟩
    have hk' : i + k < ns.length := by simp at hk; omega
    obtain ⟨p, cp, q, cq, h0, h1, h2, h3, h4⟩ := hc (i + k) hk'
    have ex : ((ns.drop i).take j)[k] = ns[i + k] := by simp
    rw [ex]
    have ea : o + i * 4 + k * 4 = o + (i + k) * 4 := by omega
    rw [ea]
    exact ⟨p, cp, q, cq, h0, h1, h2, h3, h4⟩

end Go.Proofs.Ytnhjebdlcbhkcaf

namespace Go.Proofs.Ytnhjebdlcbhkcaf
open Go.RowKit

/-- how many notes are of a site -/
def cntS (s : Int) (ns : List Nt) : Nat := (ns.filter fun n => n.site == s).length
theorem cntS_nil (s : Int) : cntS s [] = 0 := rfl
theorem cntS_snoc (s : Int) (ns : List Nt) (n : Nt) : cntS s (ns ++ [n]) = cntS s ns + (if n.site = s then 1 else 0) := by
  unfold cntS
  rw [List.filter_append, List.length_append]
  by_cases h : n.site = s
  · simp [h]
  · simp [h]
theorem cntS_le (s : Int) (ns : List Nt) : cntS s ns ≤ ns.length := List.length_filter_le ..

/-- what is wrong with notes behind others -/
def chkFromR (pre : List Nt) : List Nt → Int
  | [] => 0
  | n :: ns => if chkN n ≠ 0 then chkN n else if n.number ≠ (cntS n.site pre : Int) + 1 then 4 else chkFromR (pre ++ [n]) ns
/-- what Check of a relay answers -/
def chkRel (ns : List Nt) : Int := if 300 < ns.length then 2 else chkFromR [] ns

theorem chkFromR_drop {ns : List Nt} {k : Nat} (h : k < ns.length) : chkFromR (ns.take k) (ns.drop k) = if chkN ns[k] ≠ 0 then chkN ns[k] else if ns[k].number ≠ (cntS ns[k].site (ns.take k) : Int) + 1 then 4 else chkFromR (ns.take (k + 1)) (ns.drop (k + 1)) := by
  rw [List.drop_eq_getElem_cons h, List.take_succ_eq_append_getElem h]; rfl
theorem chkFromR_end (ns : List Nt) : chkFromR (ns.take ns.length) (ns.drop ns.length) = 0 := by
  rw [List.drop_length]; rfl

theorem chkN_site {n : Nt} (h : chkN n = 0) : 0 ≤ n.site ∧ n.site < 5 ∧ 1 ≤ n.number ∧ n.number ≤ 500 := by
  unfold chkN at h
  split at h
  · omega
  · rename_i hs
    unfold siteBad at hs
    simp only [Bool.or_eq_true, decide_eq_true_eq] at hs
    omega
theorem chkFromR_each : ∀ {ns pre : List Nt}, chkFromR pre ns = 0 → ∀ n ∈ ns, chkN n = 0
  | [], _, _, n, h => by simp at h
  | m :: ns, pre, h, n, hn => by
    unfold chkFromR at h
    split at h
    · rename_i h1; exact absurd h h1
    · rename_i h1
      split at h
      · omega
      · rcases List.mem_cons.1 hn with rfl | hn
        · omega
        · exact chkFromR_each h n hn
theorem chkRel_len {ns : List Nt} (h : chkRel ns = 0) : ns.length ≤ 300 ∧ ∀ n ∈ ns, chkN n = 0 := by
  unfold chkRel at h
  split at h
  · omega
  · exact ⟨by omega, chkFromR_each h⟩
end Go.Proofs.Ytnhjebdlcbhkcaf
