import Derived.Test.YthbojlbgjmecoaaGreatPSumM
/- THE JOURNAL'S PIECES. No program: bytes are lists of numbers. -/
namespace Go.Proofs.YthbojlbgjmecoaaGreat.DJ

def four (n : Nat) : List Nat := [n % 256, n / 256 % 256, n / 65536 % 256, n / 16777216 % 256]
theorem four_len (n : Nat) : (four n).length = 4 := rfl
theorem four_byte {n x : Nat} (h : x ∈ four n) : x < 256 := by
  simp only [four, List.mem_cons, List.not_mem_nil, or_false] at h
  rcases h with rfl | rfl | rfl | rfl <;> exact Nat.mod_lt _ (by decide)

/-- The number of the first four bytes. -/
def told (b : List Nat) : Nat := b.getD 0 0 + 256 * b.getD 1 0 + 65536 * b.getD 2 0 + 16777216 * b.getD 3 0
theorem told_four (n : Nat) (h : n < 4294967296) (rest : List Nat) : told (four n ++ rest) = n := by
  simp only [told, four, List.cons_append, List.getD_cons_zero, List.getD_cons_succ]
  omega
theorem four_inj {m n : Nat} (hm : m < 4294967296) (hn : n < 4294967296) (h : four m = four n) : m = n := by
  have h1 := told_four m hm []
  have h2 := told_four n hn []
  rw [h] at h1
  omega

/-- A piece ahead of its sum, and the piece. -/
def body0 (num sum kind : Nat) (body : List Nat) : List Nat := 82 :: (four num ++ (four sum ++ (four body.length ++ kind :: body)))
def piece (num sum kind : Nat) (body : List Nat) : List Nat := body0 num sum kind body ++ four (fnv (body0 num sum kind body))
theorem body0_len (num sum kind : Nat) (body : List Nat) : (body0 num sum kind body).length = body.length + 14 := by
  simp only [body0, List.length_cons, List.length_append, four_len]; omega
theorem piece_len (num sum kind : Nat) (body : List Nat) : (piece num sum kind body).length = body.length + 18 := by
  unfold piece; rw [List.length_append, body0_len, four_len]
theorem piece_bytes {num sum kind : Nat} {body : List Nat} (hk : kind < 256) (hb : ∀ x ∈ body, x < 256) : ∀ x ∈ piece num sum kind body, x < 256 := by
  intro x hx
  simp only [piece, body0, List.mem_append, List.mem_cons] at hx
  rcases hx with (rfl | h | h | h | rfl | h) | h
  · decide
  · exact four_byte h
  · exact four_byte h
  · exact four_byte h
  · exact hk
  · exact hb _ h
  · exact four_byte h

/-- P19.5: whole at the bytes' beginning, with this number: the pack's sum, the kind, the body. -/
def whole (b : List Nat) (num : Nat) : Option (Nat × Nat × List Nat) :=
  if b.length < 18 then none
  else if 1048576 < told (b.drop 9) ∨ b.length < 18 + told (b.drop 9) then none
  else if piece num (told (b.drop 5)) (b.getD 13 0) ((b.drop 14).take (told (b.drop 9))) = b.take (18 + told (b.drop 9)) ∧ ¬ (num = 0 ∧ b.getD 13 0 ≠ 0)
  then some (told (b.drop 5), b.getD 13 0, (b.drop 14).take (told (b.drop 9))) else none

theorem drop_piece9 (num sum kind : Nat) (body rest : List Nat) : (piece num sum kind body ++ rest).drop 9 = four body.length ++ (kind :: body ++ (four (fnv (body0 num sum kind body)) ++ rest)) := by
  simp [piece, body0, four, List.append_assoc]
theorem drop_piece5 (num sum kind : Nat) (body rest : List Nat) : (piece num sum kind body ++ rest).drop 5 = four sum ++ (four body.length ++ (kind :: body ++ (four (fnv (body0 num sum kind body)) ++ rest))) := by
  simp [piece, body0, four, List.append_assoc]
theorem drop_piece14 (num sum kind : Nat) (body rest : List Nat) : (piece num sum kind body ++ rest).drop 14 = body ++ (four (fnv (body0 num sum kind body)) ++ rest) := by
  simp [piece, body0, four, List.append_assoc]
theorem get_piece13 (num sum kind : Nat) (body rest : List Nat) : (piece num sum kind body ++ rest).getD 13 0 = kind := by
  simp [piece, body0, four, List.append_assoc]

theorem whole_piece (num sum kind : Nat) (body rest : List Nat) (hs : sum < 4294967296) (hb : body.length ≤ 1048576) (h0 : num = 0 → kind = 0) :
    whole (piece num sum kind body ++ rest) num = some (sum, kind, body) := by
  have t9 : told ((piece num sum kind body ++ rest).drop 9) = body.length := by rw [drop_piece9]; exact told_four _ (by omega) _
  have t5 : told ((piece num sum kind body ++ rest).drop 5) = sum := by rw [drop_piece5]; exact told_four _ hs _
  have t14 : ((piece num sum kind body ++ rest).drop 14).take body.length = body := by rw [drop_piece14]; exact List.take_left' rfl
  have hl : (piece num sum kind body ++ rest).length = body.length + 18 + rest.length := by rw [List.length_append, piece_len]
  unfold whole
  rw [t9, t5, t14, get_piece13, if_neg (by omega), if_neg (by omega), if_pos]
  refine ⟨?_, fun h => h.2 (h0 h.1)⟩
  rw [List.take_left']
  rw [piece_len]; omega

/-- What is whole stands there, and is as long as it tells. -/
theorem whole_some {b : List Nat} {num sum kind : Nat} {body : List Nat} (h : whole b num = some (sum, kind, body)) :
    ∃ rest, b = piece num sum kind body ++ rest ∧ body.length ≤ 1048576 ∧ (num = 0 → kind = 0) := by
  unfold whole at h
  split at h
  · cases h
  split at h
  · cases h
  rename_i h1 h2
  split at h
  · rename_i h3
    cases h
    refine ⟨b.drop (18 + told (b.drop 9)), ?_, ?_, ?_⟩
    · rw [h3.1, List.take_append_drop]
    · rw [List.length_take, List.length_drop]; omega
    · intro h0
      apply Classical.byContradiction
      intro hk
      exact h3.2 ⟨h0, hk⟩
  · cases h

/-- A piece that is cut off is whole nowhere. -/
theorem whole_short (num sum kind n k : Nat) (body : List Nat) (hb : body.length ≤ 1048576) (hn : n < body.length + 18) :
    whole ((piece num sum kind body).take n) k = none := by
  cases hw : whole ((piece num sum kind body).take n) k with
  | none => rfl
  | some t =>
    obtain ⟨s, kd, bd⟩ := t
    exfalso
    obtain ⟨rest, hr, hl, -⟩ := whole_some hw
    have e1 : ((piece num sum kind body).take n).length = n := by rw [List.length_take, piece_len]; omega
    have e2 : n = bd.length + 18 + rest.length := by rw [← e1, hr, List.length_append, piece_len]
    have e3 : told (((piece k s kd bd) ++ rest).drop 9) = bd.length := by rw [drop_piece9]; exact told_four _ (by omega) _
    rw [← hr, List.drop_take, ← List.append_nil (piece num sum kind body), drop_piece9] at e3
    have e4 : (four body.length ++ (kind :: body ++ (four (fnv (body0 num sum kind body)) ++ []))).take (n - 9) = four body.length ++ (kind :: body ++ (four (fnv (body0 num sum kind body)) ++ [])).take (n - 9 - 4) := by
      rw [List.take_append, four_len, List.take_of_length_le (by rw [four_len]; omega)]
    rw [e4, told_four _ (by omega)] at e3
    omega
theorem whole_nil (k : Nat) : whole [] k = none := by simp [whole]

/-- The records that stand one behind the other, from the number k on: what they are, how many bytes they take. -/
inductive Rd (sum : Nat) : List Nat → Nat → List (Nat × List Nat) → Nat → Prop
  | stop {b : List Nat} {k : Nat} : (∀ kd bd, whole b k ≠ some (sum, kd, bd)) → Rd sum b k [] 0
  | more {b : List Nat} {k kd : Nat} {bd : List Nat} {l : List (Nat × List Nat)} {n : Nat} : whole b k = some (sum, kd, bd) → Rd sum (b.drop (18 + bd.length)) (k + 1) l n → Rd sum b k ((kd, bd) :: l) (18 + bd.length + n)

theorem Rd.one {sum : Nat} {b : List Nat} {k : Nat} {l l' : List (Nat × List Nat)} {n n' : Nat} (h : Rd sum b k l n) (h' : Rd sum b k l' n') : l = l' ∧ n = n' := by
  induction h generalizing l' n' with
  | stop hno =>
    cases h' with
    | stop _ => exact ⟨rfl, rfl⟩
    | more hw _ => exact absurd hw (hno _ _)
  | more hw hr ih =>
    cases h' with
    | stop hno => exact absurd hw (hno _ _)
    | more hw' hr' =>
      rw [hw] at hw'
      cases hw'
      obtain ⟨rfl, rfl⟩ := ih hr'
      exact ⟨rfl, rfl⟩

/-- The records' bytes, from the number k on; a journal's. -/
def encR (sum : Nat) : Nat → List (Nat × List Nat) → List Nat
  | _, [] => []
  | k, r :: l => piece k sum r.1 r.2 ++ encR sum (k + 1) l
def enc (sum : Nat) (s : List Nat) (l : List (Nat × List Nat)) : List Nat := piece 0 sum 0 s ++ encR sum 1 l
theorem encR_snoc (sum k : Nat) (l : List (Nat × List Nat)) (r : Nat × List Nat) : encR sum k (l ++ [r]) = encR sum k l ++ piece (k + l.length) sum r.1 r.2 := by
  induction l generalizing k with
  | nil => simp [encR]
  | cons a l ih =>
    simp only [List.cons_append, encR, ih, List.length_cons, List.append_assoc]
    rw [show k + 1 + l.length = k + (l.length + 1) by omega]
theorem enc_snoc (sum : Nat) (s : List Nat) (l : List (Nat × List Nat)) (r : Nat × List Nat) : enc sum s (l ++ [r]) = enc sum s l ++ piece (l.length + 1) sum r.1 r.2 := by
  unfold enc
  rw [encR_snoc, List.append_assoc, show 1 + l.length = l.length + 1 by omega]
theorem Rd.encR {sum : Nat} (hs : sum < 4294967296) {l : List (Nat × List Nat)} {k n : Nat} {l' : List (Nat × List Nat)} {rest : List Nat} (hk : 0 < k) (hl : ∀ r ∈ l, r.2.length ≤ 1048576) (h : Rd sum rest (k + l.length) l' n) :
    Rd sum (encR sum k l ++ rest) k (l ++ l') ((encR sum k l).length + n) := by
  induction l generalizing k with
  | nil => simpa [DJ.encR] using h
  | cons a l ih =>
    have hw := whole_piece k sum a.1 a.2 (DJ.encR sum (k + 1) l ++ rest) hs (hl a List.mem_cons_self) (by omega)
    have hr := ih (k := k + 1) (by omega) (fun r hr => hl r (List.mem_cons_of_mem _ hr)) (by rw [show k + 1 + l.length = k + (l.length + 1) by omega]; exact h)
    have hd : (piece k sum a.1 a.2 ++ (DJ.encR sum (k + 1) l ++ rest)).drop (18 + a.2.length) = DJ.encR sum (k + 1) l ++ rest := by
      rw [List.drop_left']; rw [piece_len]; omega
    have := Rd.more hw (by rw [hd]; exact hr)
    rw [show (DJ.encR sum k (a :: l)).length + n = 18 + a.2.length + ((DJ.encR sum (k + 1) l).length + n) by
      simp only [DJ.encR, List.length_append, piece_len]; omega]
    simpa only [DJ.encR, List.append_assoc, List.cons_append] using this
end Go.Proofs.YthbojlbgjmecoaaGreat.DJ
