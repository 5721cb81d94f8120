/- The lives of gangs, as a list of records: what is meant, in plain words. No program is spoken of. -/
import Derived.Laws.OwnMore
namespace Go.Proofs.Ytbomdannlcclkaa
/-- A gang's record: its job's numbers, and how it stands. -/
structure Rc where
  id : Int
  q : Int
  p : Int
  r : Int
  g : Int
  c : Int
  mn : Int
  mx : Int
  st : Int
  si : Int
  nu : Int
  me : Int
  bg : Int
  en : Int
  li : Int
  wo : Int
  deriving DecidableEq
/-- A job. -/
structure Jb where
  id : Int
  q : Int
  p : Int
  r : Int
  g : Int
  c : Int
  mn : Int
  mx : Int
  deriving DecidableEq
/-- A call. -/
structure Ga where
  kd : Int
  n : Int
  m : Int
  k : Int
  j : Jb
  deriving DecidableEq
def Rc.job (x : Rc) : Jb := ⟨x.id, x.q, x.p, x.r, x.g, x.c, x.mn, x.mx⟩
namespace GL
def zr : Rc := ⟨0, 0, 0, 0, 0, 0, 0, 0, 0, 0, 0, 0, 0, 0, 0, 0⟩
/-- To what an event leads from a state; 0: nowhere. -/
def toS (s v : Int) : Int :=
  if v = 1 ∧ s = 1 then 2 else if v = 2 ∧ s = 2 then 3 else if v = 3 ∧ s = 2 then 1 else if v = 4 ∧ s = 3 then 4
  else if v = 5 ∧ (s = 2 ∨ s = 3) then 5 else if v = 6 ∧ 1 ≤ s ∧ s ≤ 3 then 6 else 0
/-- A state, an event that there may be. -/
def may (s v : Int) : Bool := decide (1 ≤ s) && decide (s ≤ 6) && decide (1 ≤ v) && decide (v ≤ 6)
def nextS (s v : Int) : Int := if may s v then toS s v else 0
def nextE (s v : Int) : Int := if may s v then (if toS s v = 0 then 8 else 0) else 1
def overB (s : Int) : Bool := decide (s = 4) || decide (s = 5) || decide (s = 6)
/-- So many members may be. -/
def fitB (x : Rc) (m : Int) : Bool := decide (x.mn ≤ m) && decide (m ≤ x.mx)
/-- Led on. -/
def ledR (x : Rc) (v : Int) : Rc := { x with st := nextS x.st v, li := 0, wo := 0, me := if nextS x.st v = 3 then x.me else 0 }
/-- Where an Id is: behind all, if nowhere. -/
def pos (L : List Rc) (id : Int) : Nat := L.findIdx fun x => decide (x.id = id)
def hasI (L : List Rc) (id : Int) : Bool := L.any fun x => decide (x.id = id)
/-- Add. -/
def addE (L : List Rc) (id : Int) : Int := if hasI L id then 4 else if L.length = 4096 then 2 else 0
def newR (L : List Rc) (j : Jb) (s : Int) : Rc := ⟨j.id, j.q, j.p, j.r, j.g, j.c, j.mn, j.mx, 1, s, (L.length : Int) + 1, 0, 0, 0, 0, 0⟩
def addR (L : List Rc) (j : Jb) (s : Int) : Rc := if addE L j.id = 0 then newR L j s else zr
def addL (L : List Rc) (j : Jb) (s : Int) : List Rc := if addE L j.id = 0 then L ++ [newR L j s] else L
/-- What a call tells of a record, and what it leaves of it. -/
def resE (x : Rc) (m : Int) : Int := if nextE x.st 1 ≠ 0 then nextE x.st 1 else if fitB x m then 0 else 1
def resR (x : Rc) (m l k : Int) : Rc := { ledR x 1 with me := m, li := l, wo := k }
def staE (x : Rc) (n : Int) : Int := if nextE x.st 2 ≠ 0 then nextE x.st 2 else if 0 ≤ n ∧ n ≤ 1073741824 then 0 else 1
def endT (x : Rc) (n : Int) : Int := IntKind.i64.wrap (n + x.r)
def staR (x : Rc) (n : Int) : Rc := { ledR x 2 with bg := n, en := endT x n }
def turE (x : Rc) (v : Int) : Int := if v = 3 ∨ v = 4 ∨ v = 5 ∨ v = 6 then nextE x.st v else 1
def turR (x : Rc) (v : Int) : Rc := ledR x v
def sizM (x : Rc) (b : Int) : Int := IntKind.i64.wrap (x.me + b)
def sizE (x : Rc) (b : Int) : Int := if x.st ≠ 3 then 8 else if (b ≠ 1 ∧ b ≠ -1) ∨ fitB x (sizM x b) = false then 1 else 0
def sizR (x : Rc) (b : Int) : Rc := { x with me := sizM x b }
/-- A record is changed, or it isn't. -/
def chE (L : List Rc) (id : Int) (E : Rc → Int) : Int := match L[pos L id]? with | none => 3 | some x => E x
def chL (L : List Rc) (id : Int) (E : Rc → Int) (R : Rc → Rc) : List Rc := match L[pos L id]? with | none => L | some x => if E x = 0 then L.set (pos L id) (R x) else L
/-- When it ends, that starts. -/
def staN (L : List Rc) (id n : Int) : Int := match L[pos L id]? with | none => 0 | some x => if staE x n = 0 then endT x n else 0
def getR (L : List Rc) (id : Int) : Rc := (L[pos L id]?).getD zr
def getE (L : List Rc) (id : Int) : Int := if hasI L id then 0 else 3
def inL (L : List Rc) (s : Int) : List Rc := L.filter fun x => decide (x.st = s)
/-- A call: what it tells, what it leaves. -/
def actN (L : List Rc) (a : Ga) : Int := if a.kd = 2 then staN L a.j.id a.n else 0
def actR (L : List Rc) (a : Ga) : Rc := if a.kd = 0 then addR L a.j a.n else zr
def actE (L : List Rc) (a : Ga) : Int :=
  if a.kd = 0 then addE L a.j.id else if a.kd = 1 then chE L a.j.id (resE · a.n) else if a.kd = 2 then chE L a.j.id (staE · a.n)
  else if a.kd = 3 then chE L a.j.id (turE · a.n) else chE L a.j.id (sizE · a.n)
def actL (L : List Rc) (a : Ga) : List Rc :=
  if a.kd = 0 then addL L a.j a.n else if a.kd = 1 then chL L a.j.id (resE · a.n) (resR · a.n a.m a.k) else if a.kd = 2 then chL L a.j.id (staE · a.n) (staR · a.n)
  else if a.kd = 3 then chL L a.j.id (turE · a.n) (turR · a.n) else chL L a.j.id (sizE · a.n) (sizR · a.n)

/-! ### Facts -/
theorem hasI_true {L : List Rc} {id : Int} : hasI L id = true ↔ ∃ x ∈ L, x.id = id := by
  unfold hasI; simp [List.any_eq_true]
theorem pos_le (L : List Rc) (id : Int) : pos L id ≤ L.length := List.findIdx_le_length
theorem pos_no {L : List Rc} {id : Int} (h : hasI L id = false) : L[pos L id]? = none ∧ pos L id = L.length := by
  have : pos L id = L.length := by
    unfold pos
    rw [List.findIdx_eq_length]
    intro x hx
    unfold hasI at h
    rw [List.any_eq_false] at h
    simpa using h x hx
  exact ⟨by rw [this]; simp, this⟩
theorem pos_yes {L : List Rc} {id : Int} (h : hasI L id = true) : ∃ x, L[pos L id]? = some x ∧ x.id = id ∧ pos L id < L.length := by
  have hl : pos L id < L.length := by
    unfold pos
    rw [List.findIdx_lt_length]
    obtain ⟨x, hx, e⟩ := hasI_true.1 h
    exact ⟨x, hx, by simpa using e⟩
  refine ⟨L[pos L id], List.getElem?_eq_getElem hl, ?_, hl⟩
  have := @List.findIdx_getElem _ (fun x : Rc => decide (x.id = id)) L (by unfold pos at hl; exact hl)
  unfold pos
  simpa using this
theorem pos_first {L : List Rc} {id : Int} {k : Nat} (h : k < pos L id) : ∃ x, L[k]? = some x ∧ x.id ≠ id := by
  have hl : k < L.length := Nat.lt_of_lt_of_le h (pos_le L id)
  refine ⟨L[k], List.getElem?_eq_getElem hl, ?_⟩
  have := List.not_of_lt_findIdx (p := fun x : Rc => decide (x.id = id)) h
  simpa using this
/-- Found at a place: the first of that Id. -/
theorem pos_at {L : List Rc} {id : Int} {k : Nat} {x : Rc} (hx : L[k]? = some x) (he : x.id = id) (h : ∀ j y, j < k → L[j]? = some y → y.id ≠ id) : pos L id = k := by
  rcases Nat.lt_trichotomy (pos L id) k with hp | hp | hp
  · have hh : hasI L id = true := hasI_true.2 ⟨x, List.mem_of_getElem? hx, he⟩
    obtain ⟨y, hy, hyi, _⟩ := pos_yes hh
    exact absurd hyi (h _ _ hp hy)
  · exact hp
  · obtain ⟨y, hy, hyi⟩ := pos_first hp
    rw [hx] at hy; cases hy
    exact absurd he hyi
theorem ch_no {L : List Rc} {id : Int} (h : hasI L id = false) (E : Rc → Int) (R : Rc → Rc) : chE L id E = 3 ∧ chL L id E R = L := by
  unfold chE chL; rw [(pos_no h).1]; exact ⟨rfl, rfl⟩
theorem ch_yes {L : List Rc} {id : Int} {x : Rc} (h : L[pos L id]? = some x) (E : Rc → Int) (R : Rc → Rc) : chE L id E = E x ∧ chL L id E R = if E x = 0 then L.set (pos L id) (R x) else L := by
  unfold chE chL; rw [h]; exact ⟨rfl, rfl⟩
theorem get_no {L : List Rc} {id : Int} (h : hasI L id = false) : getR L id = zr ∧ getE L id = 3 := by
  unfold getR getE; rw [(pos_no h).1, h]; exact ⟨rfl, rfl⟩
theorem get_yes {L : List Rc} {id : Int} {x : Rc} (h : L[pos L id]? = some x) (hh : hasI L id = true) : getR L id = x ∧ getE L id = 0 := by
  unfold getR getE; rw [h, hh]; exact ⟨rfl, rfl⟩

/-! ### What a call does to the records -/
theorem nextE_zero {s v : Int} : nextE s v = 0 ↔ may s v = true ∧ toS s v ≠ 0 := by
  unfold nextE
  cases may s v <;> simp
theorem may_iff {s v : Int} : may s v = true ↔ 1 ≤ s ∧ s ≤ 6 ∧ 1 ≤ v ∧ v ≤ 6 := by unfold may; simp [and_assoc]
theorem toS_or (s v : Int) : toS s v = 0 ∨ (v = 1 ∧ s = 1 ∧ toS s v = 2) ∨ (v = 2 ∧ s = 2 ∧ toS s v = 3) ∨ (v = 3 ∧ s = 2 ∧ toS s v = 1) ∨ (v = 4 ∧ s = 3 ∧ toS s v = 4) ∨ (v = 5 ∧ (s = 2 ∨ s = 3) ∧ toS s v = 5) ∨ (v = 6 ∧ 1 ≤ s ∧ s ≤ 3 ∧ toS s v = 6) := by
  unfold toS
  split
  · omega
  · split
    · omega
    · split
      · omega
      · split
        · omega
        · split
          · omega
          · split <;> omega
theorem lead_or {s v : Int} (h : nextE s v = 0) : nextS s v = toS s v ∧ 1 ≤ s ∧ s ≤ 3 ∧ 1 ≤ v ∧ v ≤ 6 ∧ 1 ≤ toS s v ∧ toS s v ≤ 6 ∧ toS s v ≠ s ∧ (toS s v = 2 → v = 1) ∧ (toS s v = 3 → v = 2) := by
  obtain ⟨h1, h2⟩ := nextE_zero.1 h
  have h3 := may_iff.1 h1
  have h4 := toS_or s v
  refine ⟨by unfold nextS; rw [h1]; rfl, ?_⟩
  omega
/-- A record as it may be. -/
structure ROk (x : Rc) : Prop where
  st : 1 ≤ x.st ∧ x.st ≤ 6
  held : x.st = 2 ∨ x.st = 3 → x.mn ≤ x.me ∧ x.me ≤ x.mx
  rest : x.st ≠ 2 → x.li = 0 ∧ x.wo = 0
  free : x.st ≠ 2 → x.st ≠ 3 → x.me = 0
/-- One record becomes another. -/
structure Turned (x y : Rc) : Prop where
  job : y.job = x.job
  nu : y.nu = x.nu
  ok : ROk x → ROk y
  alive : 1 ≤ x.st ∧ x.st ≤ 3
  way : y.st = x.st ∨ ∃ v, 1 ≤ v ∧ v ≤ 6 ∧ nextE x.st v = 0 ∧ nextS x.st v = y.st
theorem fit_iff {x : Rc} {m : Int} : fitB x m = true ↔ x.mn ≤ m ∧ m ≤ x.mx := by unfold fitB; simp
theorem res_turned {x : Rc} {m l k : Int} (h : resE x m = 0) : Turned x (resR x m l k) := by
  unfold resE at h
  split at h
  · omega
  · rename_i h0
    have h0 : nextE x.st 1 = 0 := by omega
    obtain ⟨a1, a2, a3, a4, a5, a6, a7, a8, a9, a10⟩ := lead_or h0
    have hs := toS_or x.st 1
    split at h
    · rename_i hf
      have hf := fit_iff.1 hf
      refine ⟨rfl, rfl, fun ho => ⟨?_, fun _ => hf, ?_, ?_⟩, ⟨a2, a3⟩, .inr ⟨1, by decide, by decide, h0, rfl⟩⟩
      · show 1 ≤ nextS x.st 1 ∧ nextS x.st 1 ≤ 6
        omega
      · show nextS x.st 1 ≠ 2 → _
        omega
      · show nextS x.st 1 ≠ 2 → _
        omega
    · omega
theorem sta_turned {x : Rc} {n : Int} (h : staE x n = 0) : Turned x (staR x n) := by
  unfold staE at h
  split at h
  · omega
  · rename_i h0
    have h0 : nextE x.st 2 = 0 := by omega
    obtain ⟨a1, a2, a3, a4, a5, a6, a7, a8, a9, a10⟩ := lead_or h0
    have hs := toS_or x.st 2
    have e3 : nextS x.st 2 = 3 := by omega
    refine ⟨rfl, rfl, fun ho => ⟨?_, fun _ => ?_, fun _ => ⟨rfl, rfl⟩, ?_⟩, ⟨a2, a3⟩, .inr ⟨2, by decide, by decide, h0, rfl⟩⟩
    · show 1 ≤ nextS x.st 2 ∧ nextS x.st 2 ≤ 6
      omega
    · show x.mn ≤ (if nextS x.st 2 = 3 then x.me else 0) ∧ (if nextS x.st 2 = 3 then x.me else 0) ≤ x.mx
      rw [if_pos e3]
      exact ho.held (by omega)
    · show nextS x.st 2 ≠ 2 → nextS x.st 2 ≠ 3 → _
      omega
theorem tur_turned {x : Rc} {v : Int} (h : turE x v = 0) : Turned x (turR x v) := by
  unfold turE at h
  split at h
  · rename_i hv
    obtain ⟨a1, a2, a3, a4, a5, a6, a7, a8, a9, a10⟩ := lead_or h
    have hs := toS_or x.st v
    have e3 : nextS x.st v ≠ 3 := by omega
    refine ⟨rfl, rfl, fun ho => ⟨?_, ?_, fun _ => ⟨rfl, rfl⟩, fun _ _ => ?_⟩, ⟨a2, a3⟩, .inr ⟨v, a4, a5, h, rfl⟩⟩
    · show 1 ≤ nextS x.st v ∧ nextS x.st v ≤ 6
      omega
    · show nextS x.st v = 2 ∨ nextS x.st v = 3 → _
      omega
    · show (if nextS x.st v = 3 then x.me else 0) = 0
      rw [if_neg e3]
  · omega
theorem siz_turned {x : Rc} {b : Int} (h : sizE x b = 0) : Turned x (sizR x b) := by
  unfold sizE at h
  split at h
  · omega
  · rename_i h3
    have h3 : x.st = 3 := by omega
    split at h
    · omega
    · rename_i hn
      have hf : fitB x (sizM x b) = true := by
        cases hq : fitB x (sizM x b)
        · exact absurd (.inr hq) hn
        · rfl
      have hf := fit_iff.1 hf
      exact ⟨rfl, rfl, fun ho => ⟨ho.st, fun _ => hf, fun _ => ho.rest (by omega), fun _ h => absurd h3 h⟩, ⟨by omega, by omega⟩, .inl rfl⟩
/-- What a call leaves: all as it was; one more; one is turned. -/
theorem act_or (L : List Rc) (a : Ga) : actL L a = L ∨ (actL L a = L ++ [newR L a.j a.n] ∧ hasI L a.j.id = false) ∨ ∃ x y, L[pos L a.j.id]? = some x ∧ x.id = a.j.id ∧ actL L a = L.set (pos L a.j.id) y ∧ Turned x y := by
  have hch : ∀ (E : Rc → Int) (R : Rc → Rc), (∀ x, E x = 0 → Turned x (R x)) → actL L a = chL L a.j.id E R → (actL L a = L ∨ ∃ x y, L[pos L a.j.id]? = some x ∧ x.id = a.j.id ∧ actL L a = L.set (pos L a.j.id) y ∧ Turned x y) := by
    intro E R hT e
    cases hh : hasI L a.j.id
    · exact .inl (e.trans (ch_no hh E R).2)
    · obtain ⟨x, hx, hi, _⟩ := pos_yes hh
      have e2 := (ch_yes hx E R).2
      by_cases h0 : E x = 0
      · rw [if_pos h0] at e2
        exact .inr ⟨x, R x, hx, hi, e.trans e2, hT x h0⟩
      · rw [if_neg h0] at e2
        exact .inl (e.trans e2)
  have hor : ∀ {A B C : Prop}, A ∨ C → A ∨ B ∨ C := fun h => h.imp id .inr
  by_cases k0 : a.kd = 0
  · have e : actL L a = addL L a.j a.n := by unfold actL; rw [if_pos k0]
    rw [e]
    unfold addL
    by_cases h0 : addE L a.j.id = 0
    · rw [if_pos h0]
      refine .inr (.inl ⟨rfl, ?_⟩)
      cases hh : hasI L a.j.id
      · rfl
      · unfold addE at h0; rw [hh] at h0; simp at h0
    · rw [if_neg h0]; exact .inl rfl
  · by_cases k1 : a.kd = 1
    · exact hor (hch _ _ (fun x h => res_turned h) (by unfold actL; rw [if_neg k0, if_pos k1]))
    · by_cases k2 : a.kd = 2
      · exact hor (hch _ _ (fun x h => sta_turned h) (by unfold actL; rw [if_neg k0, if_neg k1, if_pos k2]))
      · by_cases k3 : a.kd = 3
        · exact hor (hch _ _ (fun x h => tur_turned h) (by unfold actL; rw [if_neg k0, if_neg k1, if_neg k2, if_pos k3]))
        · exact hor (hch _ _ (fun x h => siz_turned h) (by unfold actL; rw [if_neg k0, if_neg k1, if_neg k2, if_neg k3]))
/-- What holds of all records. -/
structure Inv (L : List Rc) : Prop where
  nu : ∀ (k : Nat) x, L[k]? = some x → x.nu = (k : Int) + 1
  ok : ∀ x ∈ L, ROk x
theorem Inv.nil : Inv [] := ⟨fun k x h => by simp at h, fun x h => by cases h⟩
theorem Inv.act {L : List Rc} (h : Inv L) (a : Ga) : Inv (actL L a) := by
  rcases act_or L a with e | ⟨e, _⟩ | ⟨x, y, hx, _, e, hT⟩
  · rw [e]; exact h
  · rw [e]
    refine ⟨fun k z hz => ?_, fun z hz => ?_⟩
    · rcases Nat.lt_or_ge k L.length with hk | hk
      · rw [List.getElem?_append_left hk] at hz; exact h.nu k z hz
      · rw [List.getElem?_append_right hk] at hz
        have hk0 : k - L.length = 0 := by
          have := (List.getElem?_eq_some_iff.1 hz).1
          simpa using this
        rw [hk0] at hz
        simp at hz
        subst hz
        show (L.length : Int) + 1 = _
        omega
    · rcases List.mem_append.1 hz with hz | hz
      · exact h.ok z hz
      · rw [List.mem_singleton] at hz
        subst hz
        exact ⟨⟨by show (1 : Int) ≤ 1; decide, by show (1 : Int) ≤ 6; decide⟩, fun h => by rcases h with h | h <;> (exact absurd h (by show ¬ (1 : Int) = _; decide)), fun _ => ⟨rfl, rfl⟩, fun _ _ => rfl⟩
  · rw [e]
    refine ⟨fun k z hz => ?_, fun z hz => ?_⟩
    · rw [List.getElem?_set] at hz
      split at hz
      · rename_i hk
        split at hz
        · cases hz
          rw [hT.nu, h.nu _ x hx, hk]
        · cases hz
      · exact h.nu k z hz
    · rcases List.mem_or_eq_of_mem_set hz with hz | rfl
      · exact h.ok z hz
      · exact hT.ok (h.ok x (List.mem_of_getElem? hx))
/-- How one round turns each record. -/
theorem act_at (L : List Rc) (a : Ga) : L.length ≤ (actL L a).length ∧ (actL L a).length ≤ L.length + 1 ∧
    (∀ (k : Nat) x y, L[k]? = some x → (actL L a)[k]? = some y → y = x ∨ (x.id = a.j.id ∧ Turned x y)) ∧
    (∀ (k : Nat) y, L.length ≤ k → (actL L a)[k]? = some y → y.st = 1 ∧ y.job = a.j) := by
  rcases act_or L a with e | ⟨e, _⟩ | ⟨x, y, hx, hi, e, hT⟩
  · rw [e]
    refine ⟨Nat.le_refl _, Nat.le_succ _, fun k x y hx hy => ?_, fun k y hk hy => ?_⟩
    · rw [hx] at hy; cases hy; exact .inl rfl
    · have := (List.getElem?_eq_some_iff.1 hy).1; omega
  · rw [e]
    refine ⟨by simp, by simp, fun k x y hx hy => ?_, fun k y hk hy => ?_⟩
    · rw [List.getElem?_append_left (List.getElem?_eq_some_iff.1 hx).1, hx] at hy
      cases hy; exact .inl rfl
    · rw [List.getElem?_append_right hk] at hy
      have hk0 : k - L.length = 0 := by
        have := (List.getElem?_eq_some_iff.1 hy).1
        simpa using this
      rw [hk0] at hy
      simp at hy
      subst hy
      exact ⟨rfl, rfl⟩
  · rw [e]
    refine ⟨by simp, by simp, fun k u v hu hv => ?_, fun k y hk hy => ?_⟩
    · rw [List.getElem?_set] at hv
      split at hv
      · rename_i hk
        split at hv
        · cases hv
          rw [hk, hu] at hx
          cases hx
          exact .inr ⟨hi, hT⟩
        · cases hv
      · rw [hu] at hv; cases hv; exact .inl rfl
    · have := (List.getElem?_eq_some_iff.1 hy).1
      simp at this
      omega
/-- Small records stay few. -/
theorem act_len {L : List Rc} {a : Ga} {k : Nat} (h : L.length ≤ k) : (actL L a).length ≤ k + 1 := by
  have := (act_at L a).2.1; omega
theorem inL_len (L : List Rc) (s : Int) : (inL L s).length ≤ L.length := List.length_filter_le _ _
end GL
end Go.Proofs.Ytbomdannlcclkaa
