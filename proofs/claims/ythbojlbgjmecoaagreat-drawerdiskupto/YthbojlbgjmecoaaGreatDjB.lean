import Derived.Test.YthbojlbgjmecoaaGreatDjA
/- THE DISK OF P19.1 TO P19.4. No program: files by name. -/
namespace Go.Proofs.YthbojlbgjmecoaaGreat.DJ

/-- The name of a generation, the generation of a name (0: none). -/
def Nm (g : Nat) : List Nat := [108, 111, 103, 45, 48 + g / 10000000 % 10, 48 + g / 1000000 % 10, 48 + g / 100000 % 10, 48 + g / 10000 % 10, 48 + g / 1000 % 10, 48 + g / 100 % 10, 48 + g / 10 % 10, 48 + g % 10]
def genOf (s : List Nat) : Nat := if s.length = 12 ∧ s.take 4 = [108, 111, 103, 45] ∧ (∀ c ∈ s.drop 4, 48 ≤ c ∧ c ≤ 57) then (s.drop 4).foldl (fun n c => 10 * n + (c - 48)) 0 else 0
theorem gen_Nm (g : Nat) (h : g ≤ 99999999) : genOf (Nm g) = g := by
  unfold genOf
  rw [if_pos]
  · simp only [Nm, List.drop_succ_cons, List.drop_zero, List.foldl_cons, List.foldl_nil]
    omega
  · refine ⟨rfl, rfl, ?_⟩
    intro c hc
    simp only [Nm, List.drop_succ_cons, List.drop_zero, List.mem_cons, List.not_mem_nil, or_false] at hc
    omega
theorem Nm_inj {g h : Nat} (hg : g ≤ 99999999) (hh : h ≤ 99999999) (e : Nm g = Nm h) : g = h := by
  rw [← gen_Nm g hg, e, gen_Nm h hh]

/-- P19.1: may that be a name? -/
def named (s : List Nat) : Prop := (∀ c ∈ s, (97 ≤ c ∧ c ≤ 122) ∨ (48 ≤ c ∧ c ≤ 57) ∨ c = 45) ∧ 1 ≤ s.length ∧ s.length ≤ 12
instance (s : List Nat) : Decidable (named s) := by unfold named; infer_instance
theorem named_Nm (g : Nat) : named (Nm g) := by
  refine ⟨?_, by simp [Nm], by simp [Nm]⟩
  intro c hc
  simp only [Nm, List.mem_cons, List.not_mem_nil, or_false] at hc
  omega

structure Fl where
  nm : List Nat
  dat : List Nat
  sure : Nat

structure Dk where
  fs : List Fl
  down : Bool
  units : Option Nat
  after : Nat
  calls : Nat

/-- Bytes in their order, as texts are. -/
def ltB : List Nat → List Nat → Bool
  | _, [] => false
  | [], _ :: _ => true
  | a :: l, b :: m => if a = b then ltB l m else decide (a < b)

def get (fs : List Fl) (nm : List Nat) : Option Fl := fs.find? fun f => f.nm = nm
def upd (fs : List Fl) (nm : List Nat) (g : Fl → Fl) : List Fl := fs.map fun f => if f.nm = nm then g f else f
def del (fs : List Fl) (nm : List Nat) : List Fl := fs.filter fun f => f.nm ≠ nm
def ins (fs : List Fl) (f : Fl) : List Fl := fs.takeWhile (fun x => ltB x.nm f.nm) ++ f :: fs.dropWhile (fun x => ltB x.nm f.nm)
/-- Bytes at a file's end; it is made where there is none. -/
def lay (fs : List Fl) (nm data : List Nat) : List Fl :=
  match get fs nm with
  | some _ => upd fs nm fun f => ⟨f.nm, f.dat ++ data, f.sure⟩
  | none => ins fs ⟨nm, data, 0⟩
def size (fs : List Fl) (nm : List Nat) : Nat := ((get fs nm).map fun f => f.dat.length).getD 0

def falls (d : Dk) : Dk := ⟨d.fs, true, none, 0, 0⟩
/-- Places 1 to 3 of P19.2. -/
def first (d : Dk) (nm : List Nat) : Nat × Dk :=
  if ¬ named nm then (192, d) else if d.down then (190, d)
  else if 0 < d.calls then (if 0 < d.after then (0, { d with after := d.after - 1 }) else (191, { d with calls := d.calls - 1 })) else (0, d)
/-- Place 6: none: done; some n: the machine has fallen with n units. -/
def pays (d : Dk) (cost : Nat) : Option Nat × Dk :=
  match d.units with
  | none => (none, d)
  | some u => if cost ≤ u then (none, { d with units := some (u - cost) }) else (some u, falls d)
def append (d : Dk) (nm data : List Nat) : Nat × Dk :=
  if (first d nm).1 ≠ 0 then first d nm
  else
    if 2097152 < size d.fs nm + data.length ∨ (get d.fs nm = none ∧ 40 ≤ d.fs.length) then (194, (first d nm).2)
    else match pays (first d nm).2 (data.length + 1) with
      | (none, c) => (0, { c with fs := lay d.fs nm data })
      | (some n, c) => (190, { c with fs := lay d.fs nm (data.take n) })
/-- Sync, Trim and Remove have this in common. -/
def changes (d : Dk) (nm : List Nat) (g : List Fl → List Fl) : Nat × Dk :=
  if (first d nm).1 ≠ 0 then first d nm
  else if get d.fs nm = none then (193, (first d nm).2)
  else match pays (first d nm).2 1 with
    | (none, c) => (0, { c with fs := g d.fs })
    | (some _, c) => (190, c)
def syncF (f : Fl) : Fl := ⟨f.nm, f.dat, f.dat.length⟩
def trimF (n : Nat) (f : Fl) : Fl := ⟨f.nm, f.dat.take n, min f.sure (f.dat.take n).length⟩
def sync (d : Dk) (nm : List Nat) : Nat × Dk := changes d nm fun fs => upd fs nm syncF
def trim (d : Dk) (nm : List Nat) (size : Int) : Nat × Dk := changes d nm fun fs => upd fs nm (trimF size.toNat)
def remove (d : Dk) (nm : List Nat) : Nat × Dk := changes d nm fun fs => del fs nm
def arm (d : Dk) (units : Int) : Dk := if d.down then d else { d with units := if units < 0 then none else some units.toNat }
def fail (d : Dk) (after calls : Int) : Dk := if d.down then d else if 0 ≤ after ∧ 0 < calls then { d with after := after.toNat, calls := calls.toNat } else { d with after := 0, calls := 0 }
def cutF (k : Int) (f : Fl) : Fl := ⟨f.nm, f.dat.take (f.sure + min k.toNat (f.dat.length - f.sure)), f.sure + min k.toNat (f.dat.length - f.sure)⟩
def cuts (keep : List Int) : Nat → List Fl → List Fl
  | _, [] => []
  | i, f :: l => cutF (keep.getD (i % keep.length) 0) f :: cuts keep (i + 1) l
def restart (d : Dk) (keep : List Int) : Dk := ⟨cuts keep 0 d.fs, false, none, 0, 0⟩

/-- Up, and without rigs. -/
def Calm (d : Dk) : Prop := d.down = false ∧ d.units = none ∧ d.calls = 0
theorem calm_restart (d : Dk) (keep : List Int) : Calm (restart d keep) := ⟨rfl, rfl, rfl⟩

theorem first_fs (d : Dk) (nm : List Nat) : (first d nm).2.fs = d.fs := by
  unfold first; split
  · rfl
  split
  · rfl
  split
  · split <;> rfl
  · rfl
theorem first_err (d : Dk) (nm : List Nat) (h : named nm) : (first d nm).1 = 0 ∨ (first d nm).1 = 190 ∨ (first d nm).1 = 191 := by
  unfold first; rw [if_neg (fun h' => h' h)]; split
  · exact .inr (.inl rfl)
  split
  · split
    · exact .inl rfl
    · exact .inr (.inr rfl)
  · exact .inl rfl
theorem first_calm {d : Dk} {nm : List Nat} (h : named nm) (hc : Calm d) : first d nm = (0, d) := by
  obtain ⟨h1, h2, h3⟩ := hc
  unfold first; rw [if_neg (fun h' => h' h), h1, h3]; rfl
theorem pays_fs (d : Dk) (c : Nat) : (pays d c).2.fs = d.fs := by
  unfold pays; split
  · rfl
  · split <;> rfl
theorem pays_calm {d : Dk} (hc : Calm d) (c : Nat) : pays d c = (none, d) := by
  obtain ⟨h1, h2, h3⟩ := hc
  unfold pays; rw [h2]

/-- What an Append can come to. -/
theorem append_out (d : Dk) (nm data : List Nat) (h : named nm) (hf : size d.fs nm + data.length ≤ 2097152) (hn : d.fs.length < 40) :
    ((append d nm data).1 = 0 ∧ (append d nm data).2.fs = lay d.fs nm data) ∨
    (((append d nm data).1 = 190 ∨ (append d nm data).1 = 191) ∧ ((append d nm data).2.fs = d.fs ∨ ∃ n, (append d nm data).2.fs = lay d.fs nm (data.take n))) := by
  unfold append
  split
  · rename_i h1
    right
    refine ⟨?_, .inl (first_fs d nm)⟩
    rcases first_err d nm h with h2 | h2 | h2
    · exact absurd h2 h1
    · exact .inl h2
    · exact .inr h2
  · rw [if_neg (by rintro (h' | h') <;> omega)]
    split
    · exact .inl ⟨rfl, rfl⟩
    · exact .inr ⟨.inl rfl, .inr ⟨_, rfl⟩⟩
/-- An Append that may be full. -/
theorem append_out' (d : Dk) (nm data : List Nat) (h : named nm) :
    ((append d nm data).1 = 0 ∧ (append d nm data).2.fs = lay d.fs nm data) ∨
    (((append d nm data).1 = 190 ∨ (append d nm data).1 = 191 ∨ (append d nm data).1 = 194) ∧ ((append d nm data).2.fs = d.fs ∨ ∃ n, (append d nm data).2.fs = lay d.fs nm (data.take n))) := by
  unfold append
  split
  · rename_i h1
    right
    refine ⟨?_, .inl (first_fs d nm)⟩
    rcases first_err d nm h with h2 | h2 | h2
    · exact absurd h2 h1
    · exact .inl h2
    · exact .inr (.inl h2)
  · split
    · exact .inr ⟨.inr (.inr rfl), .inl (first_fs d nm)⟩
    split
    · exact .inl ⟨rfl, rfl⟩
    · exact .inr ⟨.inl rfl, .inr ⟨_, rfl⟩⟩
theorem append_calm {d : Dk} {nm data : List Nat} (h : named nm) (hf : size d.fs nm + data.length ≤ 2097152) (hn : d.fs.length < 40) (hc : Calm d) :
    append d nm data = (0, { d with fs := lay d.fs nm data }) := by
  unfold append
  rw [first_calm h hc]
  simp only [ne_eq, not_true_eq_false, if_false]
  rw [if_neg (by rintro (h' | h') <;> omega), pays_calm hc]
theorem changes_out (d : Dk) (nm : List Nat) (g : List Fl → List Fl) (h : named nm) (hg : get d.fs nm ≠ none) :
    ((changes d nm g).1 = 0 ∧ (changes d nm g).2.fs = g d.fs) ∨ (((changes d nm g).1 = 190 ∨ (changes d nm g).1 = 191) ∧ (changes d nm g).2.fs = d.fs) := by
  unfold changes
  split
  · rename_i h1
    right
    refine ⟨?_, first_fs d nm⟩
    rcases first_err d nm h with h2 | h2 | h2
    · exact absurd h2 h1
    · exact .inl h2
    · exact .inr h2
  · have hp := pays_fs (first d nm).2 1
    rw [first_fs] at hp
    split
    · exact .inl ⟨rfl, rfl⟩
    · rename_i heq
      rw [heq] at hp
      exact .inr ⟨.inl rfl, hp⟩
theorem changes_calm {d : Dk} {nm : List Nat} {g : List Fl → List Fl} (h : named nm) (hg : get d.fs nm ≠ none) (hc : Calm d) :
    changes d nm g = (0, { d with fs := g d.fs }) := by
  unfold changes
  rw [first_calm h hc]
  simp only [ne_eq, not_true_eq_false, if_false]
  rw [if_neg hg, pays_calm hc]
theorem arm_fs (d : Dk) (u : Int) : (arm d u).fs = d.fs := by unfold arm; split <;> rfl
theorem fail_fs (d : Dk) (a c : Int) : (fail d a c).fs = d.fs := by
  unfold fail; split
  · rfl
  split <;> rfl
end Go.Proofs.YthbojlbgjmecoaaGreat.DJ
