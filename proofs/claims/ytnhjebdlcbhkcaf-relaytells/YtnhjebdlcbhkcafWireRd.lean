/- Pure: what readers of bytes answer, whatever they are handed. -/
import Derived.Test.YtnhjebdlcbhkcafWirePu
namespace Go.Proofs.Ytnhjebdlcbhkcaf

/-- what was read, and what is left: as the parser says, if nothing was wrong -/
structure Rd {α : Type} (p : List UInt8 → Option (α × List UInt8)) (s : List UInt8) (e : Bool) (x : α) (s' : List UInt8) (e' : Bool) : Prop where
  good : e' = false → e = false ∧ p s = some (x, s')
  bad : e' = true → e = true ∨ p s = none

theorem Rd.one_nil {e : Bool} {x : Int} {s' : List UInt8} : Rd p1 [] e x s' true := ⟨fun h => (by cases h), fun _ => Or.inr rfl⟩
theorem Rd.one_cons {b : UInt8} {r : List UInt8} {e : Bool} : Rd p1 (b :: r) e b.toNat r e := ⟨fun h => ⟨h, rfl⟩, fun h => Or.inl h⟩
/-- one reads, then another one, as what was read says -/
theorem Rd.bind {α β : Type} {p : List UInt8 → Option (α × List UInt8)} {g : α → List UInt8 → Option (β × List UInt8)} {f : List UInt8 → Option (β × List UInt8)} {s s1 s2 : List UInt8} {e e1 e2 : Bool} {x : α} {y : β} (h : Rd p s e x s1 e1) (k : Rd (g x) s1 e1 y s2 e2)
    (hn : p s = none → f s = none) (hs : ∀ z r, p s = some (z, r) → f s = g z r) : Rd f s e y s2 e2 := by
  refine ⟨fun h2 => ?_, fun h2 => ?_⟩
  · obtain ⟨q1, q2⟩ := k.good h2
    obtain ⟨q3, q4⟩ := h.good q1
    exact ⟨q3, by rw [hs _ _ q4, q2]⟩
  · cases h1 : e1 with
    | true => exact (h.bad h1).imp id hn
    | false =>
      obtain ⟨q3, q4⟩ := h.good h1
      rcases k.bad h2 with q | q
      · rw [q] at h1; cases h1
      · exact Or.inr (by rw [hs _ _ q4, q])
/-- what was read, made into another thing -/
theorem Rd.map {α β : Type} {p : List UInt8 → Option (α × List UInt8)} {f : List UInt8 → Option (β × List UInt8)} {s s1 : List UInt8} {e e1 : Bool} {x : α} (F : α → β) (h : Rd p s e x s1 e1) (hn : p s = none → f s = none) (hs : ∀ z r, p s = some (z, r) → f s = some (F z, r)) : Rd f s e (F x) s1 e1 :=
  ⟨fun h1 => ⟨(h.good h1).1, hs _ _ (h.good h1).2⟩, fun h1 => (h.bad h1).imp id hn⟩

theorem Rd.two {s s1 s2 : List UInt8} {e e1 e2 : Bool} {a b : Int} (h : Rd p1 s e a s1 e1) (k : Rd p1 s1 e1 b s2 e2) : Rd p2 s e (a + 256 * b) s2 e2 :=
  Rd.bind (g := fun a r => match p1 r with | none => none | some (b, r) => some (a + 256 * b, r)) h (Rd.map (fun b => a + 256 * b) k (fun h => by simp only [h] <;> rfl) (fun z r h => by simp only [h] <;> rfl)) (fun h => by unfold p2; simp only [h] <;> rfl) (fun z r h => by unfold p2; simp only [h] <;> rfl)
theorem Rd.step {s s1 s2 : List UInt8} {e e1 e2 : Bool} {a b : Int} (h : Rd p1 s e a s1 e1) (k : Rd p1 s1 e1 b s2 e2) : Rd pStep s e (a, b) s2 e2 :=
  Rd.bind (g := fun a r => match p1 r with | none => none | some (b, r) => some ((a, b), r)) h (Rd.map (fun b => (a, b)) k (fun h => by simp only [h] <;> rfl) (fun z r h => by simp only [h] <;> rfl)) (fun h => by unfold pStep; simp only [h] <;> rfl) (fun z r h => by unfold pStep; simp only [h] <;> rfl)
theorem pMany_snoc {α : Type} (p : List UInt8 → Option (α × List UInt8)) : ∀ (k : Nat) (s : List UInt8), pMany p (k + 1) s = match pMany p k s with
    | none => none
    | some (l, r) => match p r with
      | none => none
      | some (x, r') => some (l ++ [x], r')
  | 0, s => by
    unfold pMany pMany
    simp only
    cases p s <;> rfl
  | k + 1, s => by
    have ih := pMany_snoc p k
    conv => lhs; unfold pMany
    conv => rhs; unfold pMany
    cases h : p s with
    | none => rfl
    | some y =>
      obtain ⟨x, r⟩ := y
      simp only
      rw [ih r]
      cases h2 : pMany p k r with
      | none => rfl
      | some z =>
        obtain ⟨l, r2⟩ := z
        simp only
        cases h3 : p r2 with
        | none => rfl
        | some u => rfl
theorem Rd.nil {α : Type} {p : List UInt8 → Option (α × List UInt8)} {s : List UInt8} {e : Bool} : Rd (pMany p 0) s e [] s e := ⟨fun h => ⟨h, rfl⟩, fun h => Or.inl h⟩
theorem Rd.snoc {α : Type} {p : List UInt8 → Option (α × List UInt8)} {k : Nat} {s s1 s2 : List UInt8} {e e1 e2 : Bool} {l : List α} {x : α} (h : Rd (pMany p k) s e l s1 e1) (q : Rd p s1 e1 x s2 e2) : Rd (pMany p (k + 1)) s e (l ++ [x]) s2 e2 := by
  refine ⟨fun h2 => ?_, fun h2 => ?_⟩
  · obtain ⟨q1, q2⟩ := q.good h2
    obtain ⟨q3, q4⟩ := h.good q1
    exact ⟨q3, by rw [pMany_snoc, q4]; simp only; rw [q2]⟩
  · cases h1 : e1 with
    | true => exact (h.bad h1).imp id fun q => by rw [pMany_snoc, q]
    | false =>
      obtain ⟨q3, q4⟩ := h.good h1
      rcases q.bad h2 with q | q
      · rw [q] at h1; cases h1
      · exact Or.inr (by rw [pMany_snoc, q4]; simp only; rw [q])
/-- what was wrong stays wrong, whatever is read on -/
theorem Rd.lost {α : Type} {p : List UInt8 → Option (α × List UInt8)} {s s1 : List UInt8} {e : Bool} {x : α} (h : e = true ∨ p s = none) : Rd p s e x s1 true := ⟨fun h => (by cases h), fun _ => h⟩
/-- a round that stops: what is wrong already, with less -/
theorem Rd.stop {α : Type} {p : List UInt8 → Option (α × List UInt8)} {k m : Nat} {s s1 : List UInt8} {e : Bool} {l l' : List α} (h : Rd (pMany p k) s e l s1 true) (hm : k ≤ m) : Rd (pMany p m) s e l' s1 true := by
  refine Rd.lost ((h.bad rfl).imp id fun q => ?_)
  induction m with
  | zero => have : k = 0 := by omega
            subst this; exact q
  | succ m ih =>
    by_cases e : k = m + 1
    · subst e; exact q
    · rw [pMany_snoc, ih (by omega)]
theorem pMany_p1 : ∀ (k : Nat) (s : List UInt8), pMany p1 k s = if k ≤ s.length then some ((s.take k).map (fun b => (b.toNat : Int)), s.drop k) else none
  | 0, s => by simp [pMany]
  | k + 1, [] => by simp [pMany, p1]
  | k + 1, b :: r => by
    have ih := pMany_p1 k r
    unfold pMany
    simp only [p1]
    rw [ih]
    by_cases h : k ≤ r.length
    · rw [if_pos h, if_pos (by simpa using h)]; rfl
    · rw [if_neg h, if_neg (by simpa using h)]
theorem strOf_bytes (l : List UInt8) : strOfNums (l.map fun b => (b.toNat : Int)) = ⟨l.toArray⟩ := by
  unfold strOfNums
  congr 2
  rw [List.map_map]
  refine (List.map_congr_left fun b _ => ?_).trans (List.map_id _)
  show UInt8.ofNat ((b.toNat : Int).toNat) = b
  rw [Int.toNat_natCast, UInt8.ofNat_toNat]
theorem Rd.mark {s s1 s2 s3 : List UInt8} {e e1 e2 e3 : Bool} {n c : Int} {l : List (Int × Int)} (h : Rd p1 s e n s1 e1) (q : Rd (pMany pStep n.toNat) s1 e1 l s2 e2) (k : Rd p2 s2 e2 c s3 e3) : Rd pM s e (l, c) s3 e3 :=
  Rd.bind (g := fun n r => match pMany pStep n.toNat r with | none => none | some (l, r) => match p2 r with | none => none | some (c, r) => some ((l, c), r)) h
    (Rd.bind (g := fun l r => match p2 r with | none => none | some (c, r) => some ((l, c), r)) q
      (Rd.map (fun c => (l, c)) k (fun h => by simp only [h] <;> rfl) (fun z r h => by simp only [h] <;> rfl)) (fun h => by simp only [h] <;> rfl) (fun z r h => by simp only [h] <;> rfl))
    (fun h => by unfold pM; simp only [h] <;> rfl) (fun z r h => by unfold pM; simp only [h] <;> rfl)
theorem Rd.text {s s1 s2 : List UInt8} {e e1 e2 : Bool} {n : Int} {l : List Int} (h : Rd p1 s e n s1 e1) (q : Rd (pMany p1 n.toNat) s1 e1 l s2 e2) : Rd pT s e (strOfNums l) s2 e2 := by
  refine ⟨fun h2 => ?_, fun h2 => ?_⟩
  · obtain ⟨q1, q2⟩ := q.good h2
    obtain ⟨a1, a2⟩ := h.good q1
    rw [pMany_p1] at q2
    refine ⟨a1, ?_⟩
    unfold pT; rw [a2]; simp only
    split at q2
    · rename_i hle
      simp only [Option.some.injEq, Prod.mk.injEq] at q2
      rw [if_pos hle, ← q2.1, ← q2.2, strOf_bytes]
    · cases q2
  · cases h1 : e1 with
    | true => exact (h.bad h1).imp id fun q => by unfold pT; rw [q]
    | false =>
      obtain ⟨a1, a2⟩ := h.good h1
      rcases q.bad h2 with z | z
      · rw [z] at h1; cases h1
      · rw [pMany_p1] at z
        refine Or.inr ?_
        unfold pT; rw [a2]; simp only
        split at z
        · cases z
        · rename_i hle; rw [if_neg hle]
/-- a deed that puts -/
theorem Rd.deed1 {s s1 s2 s3 : List UInt8} {e e1 e2 e3 : Bool} {c : Int} {l : List (Int × Int)} {t : ByteArray} (h : Rd p1 s e 1 s1 e1) (q : Rd pM s1 e1 (l, c) s2 e2) (z : Rd pT s2 e2 t s3 e3) : Rd pD s e ⟨1, l, c, t, [], 0, 0⟩ s3 e3 := by
  refine Rd.bind (x := (1 : Int)) (g := fun (k : Int) r => if k = 1 then match pM r with | none => none | some ((p, c), r) => match pT r with | none => none | some (t, r) => some ((⟨1, p, c, t, [], 0, 0⟩ : Dd), r) else if k = 2 then match pM r with | none => none | some ((p, c), r) => match p1 r with | none => none | some (m, r) => some (⟨2, [], 0, ⟨#[]⟩, p, c, m⟩, r) else none) h ?_ (fun h => by unfold pD; simp only [h] <;> rfl) (fun z r h => by unfold pD; simp only [h] <;> rfl)
  simp only [if_true]
  refine Rd.bind (x := (l, c)) (g := fun l r => match pT r with | none => none | some (t, r) => some (⟨1, l.1, l.2, t, [], 0, 0⟩, r)) q ?_ (fun h => by simp only [h] <;> rfl) (fun z r h => by simp only [h] <;> rfl)
  exact Rd.map (fun t => (⟨1, l, c, t, [], 0, 0⟩ : Dd)) z (fun h => by simp only [h] <;> rfl) (fun z r h => by simp only [h] <;> rfl)
/-- a deed that takes -/
theorem Rd.deed2 {s s1 s2 s3 : List UInt8} {e e1 e2 e3 : Bool} {c m : Int} {l : List (Int × Int)} (h : Rd p1 s e 2 s1 e1) (q : Rd pM s1 e1 (l, c) s2 e2) (z : Rd p1 s2 e2 m s3 e3) : Rd pD s e ⟨2, [], 0, ⟨#[]⟩, l, c, m⟩ s3 e3 := by
  have hne : ((2 : Int) = 1) = False := by decide
  refine Rd.bind (x := (2 : Int)) (g := fun (k : Int) r => if k = 1 then match pM r with | none => none | some ((p, c), r) => match pT r with | none => none | some (t, r) => some ((⟨1, p, c, t, [], 0, 0⟩ : Dd), r) else if k = 2 then match pM r with | none => none | some ((p, c), r) => match p1 r with | none => none | some (m, r) => some (⟨2, [], 0, ⟨#[]⟩, p, c, m⟩, r) else none) h ?_ (fun h => by unfold pD; simp only [h] <;> rfl) (fun z r h => by unfold pD; simp only [h] <;> rfl)
  simp only [hne, if_false, if_true]
  refine Rd.bind (x := (l, c)) (g := fun l r => match p1 r with | none => none | some (m, r) => some (⟨2, [], 0, ⟨#[]⟩, l.1, l.2, m⟩, r)) q ?_ (fun h => by simp only [h] <;> rfl) (fun z r h => by simp only [h] <;> rfl)
  exact Rd.map (fun m => (⟨2, [], 0, ⟨#[]⟩, l, c, m⟩ : Dd)) z (fun h => by simp only [h] <;> rfl) (fun z r h => by simp only [h] <;> rfl)
/-- a deed of no kind -/
theorem Rd.deed0 {s s1 s2 : List UInt8} {e e1 : Bool} {k : Int} {d : Dd} (h : Rd p1 s e k s1 e1) (hk : k ≠ 1) (hk2 : k ≠ 2) : Rd pD s e d s2 true := by
  refine Rd.lost ?_
  cases h1 : e1 with
  | true => exact (h.bad h1).imp id fun q => by unfold pD; rw [q]
  | false =>
    obtain ⟨a1, a2⟩ := h.good h1
    exact Or.inr (by unfold pD; rw [a2]; simp only [if_neg hk, if_neg hk2])
theorem Rd.note {s s1 s2 s3 s4 s5 : List UInt8} {e e1 e2 e3 e4 e5 : Bool} {site number many : Int} {needs : List Int} {deeds : List Dd} (h1 : Rd p1 s e site s1 e1) (h2 : Rd p2 s1 e1 number s2 e2) (h3 : Rd (pMany p2 5) s2 e2 needs s3 e3) (h4 : Rd p1 s3 e3 many s4 e4) (h5 : Rd (pMany pD many.toNat) s4 e4 deeds s5 e5) : Rd pN s e ⟨site, number, needs, deeds⟩ s5 e5 :=
  Rd.bind (g := fun site r => match p2 r with | none => none | some (number, r) => match pMany p2 5 r with | none => none | some (needs, r) => match p1 r with | none => none | some (many, r) => match pMany pD many.toNat r with | none => none | some (deeds, r) => some (⟨site, number, needs, deeds⟩, r)) h1
    (Rd.bind (g := fun number r => match pMany p2 5 r with | none => none | some (needs, r) => match p1 r with | none => none | some (many, r) => match pMany pD many.toNat r with | none => none | some (deeds, r) => some (⟨site, number, needs, deeds⟩, r)) h2
      (Rd.bind (g := fun needs r => match p1 r with | none => none | some (many, r) => match pMany pD many.toNat r with | none => none | some (deeds, r) => some (⟨site, number, needs, deeds⟩, r)) h3
        (Rd.bind (g := fun many r => match pMany pD many.toNat r with | none => none | some (deeds, r) => some (⟨site, number, needs, deeds⟩, r)) h4
          (Rd.map (fun deeds => (⟨site, number, needs, deeds⟩ : Nt)) h5 (fun h => by simp only [h] <;> rfl) (fun z r h => by simp only [h] <;> rfl))
          (fun h => by simp only [h] <;> rfl) (fun z r h => by simp only [h] <;> rfl))
        (fun h => by simp only [h] <;> rfl) (fun z r h => by simp only [h] <;> rfl))
      (fun h => by simp only [h] <;> rfl) (fun z r h => by simp only [h] <;> rfl))
    (fun h => by unfold pN; simp only [h] <;> rfl) (fun z r h => by unfold pN; simp only [h] <;> rfl)
/-- what Decode answers of what was read -/
theorem Rd.dec_bad {s s' : List UInt8} {n : Nt} {e' : Bool} (h : Rd pN s false n s' e') (hb : e' = true ∨ s' ≠ []) : decE s = 1 ∧ decN s = noNt := by
  cases h1 : e' with
  | true =>
    rcases h.bad h1 with q | q
    · cases q
    · unfold decE decN; rw [q]; exact ⟨rfl, rfl⟩
  | false =>
    rcases hb with q | q
    · rw [q] at h1; cases h1
    · obtain ⟨_, q2⟩ := h.good h1
      unfold decE decN
      rw [q2]
      cases s' with
      | nil => exact absurd rfl q
      | cons b r => exact ⟨rfl, rfl⟩
theorem Rd.dec_good {s : List UInt8} {n : Nt} (h : Rd pN s false n [] false) : decE s = chkN n ∧ decN s = if chkN n = 0 then n else noNt := by
  obtain ⟨_, q2⟩ := h.good rfl
  unfold decE decN
  rw [q2]
  exact ⟨rfl, rfl⟩
end Go.Proofs.Ytnhjebdlcbhkcaf
