import Derived.Test.YtkkkhonjcbhelaaGreatDoorShapeQ
set_option maxRecDepth 100000
namespace Go.Proofs.YtkkkhonjcbhelaaGreatDoor
open Go.ChangeShapes Go.WideShapes Go.ChangeAt Go.RowKit Go.Deep
structure Fe where
 n : Int
 d : Int
 m : Nat
 c : Int
structure FeOk (f : Fe) : Prop where
 n : (Lit.int .i64 f.n).wf = true
 d : (Lit.int .i64 f.d).wf = true
 m : f.m < 18446744073709551616
 c : (Lit.int .i64 f.c).wf = true
def feV (f : Fe) : Value := .agg #[.int .i64 f.n, .int .i64 f.d, .int .u64 (f.m : Nat), .int .i64 f.c]
def feC (f : Fe) : List Value := [.int .i64 f.n, .int .i64 f.d, .int .u64 (f.m : Nat), .int .i64 f.c]
def FeAt (w : World) (b o : Nat) (f : Fe) : Prop :=
 w.cell? ⟨b, o, none⟩ = some (.int .i64 f.n) ∧ w.cell? ⟨b, o + 1, none⟩ = some (.int .i64 f.d) ∧ w.cell? ⟨b, o + 2, none⟩ = some (.int .u64 (f.m : Nat)) ∧ w.cell? ⟨b, o + 3, none⟩ = some (.int .i64 f.c)
abbrev Fes (w : World) (B : Nat) (A : Option Addr) (l : List Fe) : Prop := Rows B A (FeAt w) 4 l
theorem FeAt.keep {w w' : World} {B b o : Nat} {f : Fe} (h : FeAt w b o f) (hb : b < B) (hk : Below B w w') : FeAt w' b o f :=
 ⟨(hk.cell (p := ⟨b, o, none⟩) hb).trans h.1, (hk.cell (p := ⟨b, o + 1, none⟩) hb).trans h.2.1, (hk.cell (p := ⟨b, o + 2, none⟩) hb).trans h.2.2.1, (hk.cell (p := ⟨b, o + 3, none⟩) hb).trans h.2.2.2⟩
theorem Fes.keep {w w' : World} {B B' : Nat} {A : Option Addr} {l : List Fe} (h : Fes w B A l) (hk : Below B w w') (hB : B ≤ B') : Fes w' B' A l := h.imp hB fun _ _ _ hb hd => hd.keep hb hk
theorem feC_len (l : List Fe) : (l.flatMap feC).length = l.length * 4 := by
 induction l with
 | nil => rfl
 | cons x l ih => rw [List.flatMap_cons, List.length_append, ih, List.length_cons]; simp [feC]; omega
theorem feC_one : ∀ (l : List Fe), ∀ v ∈ l.flatMap feC, v.oneCell' = true := by
 intro l v hv;obtain ⟨f, _, hv⟩ := List.mem_flatMap.1 hv;simp [feC] at hv;rcases hv with rfl | rfl | rfl | rfl <;> rfl
theorem fe_flat : ∀ {l : List Fe} {i r : Nat} {f : Fe}, l[i]? = some f → r < 4 → (l.flatMap feC)[i * 4 + r]? = (feC f)[r]?
 | [], _, _, _, h, _ => by simp at h
 | x :: l, 0, r, f, h, hr => by
  simp at h; subst h;rw [List.flatMap_cons, List.getElem?_append_left (by simp [feC]; omega)]; simp
 | x :: l, i + 1, r, f, h, hr => by
  rw [List.flatMap_cons, List.getElem?_append_right (by simp [feC]; omega), show (i + 1) * 4 + r - (feC x).length = i * 4 + r by simp [feC]; omega];exact fe_flat (by simpa using h) hr
theorem fe_blk {w : World} {g : Nat} {t : TypeId} {cs : List Value} {l : List Fe} (h : w.heap[g]? = some (.cells cs.toArray t (0, 0))) (hl : ∀ (j : Nat) (v : Value), (l.flatMap feC)[j]? = some v → cs[j]? = some v) {B : Nat} (hB : g < B) : Fes w B (some ⟨g, 0, none⟩) l := by
 refine .inr ⟨g, 0, rfl, hB, fun i f hf => ?_⟩;have hc : ∀ r u, r < 4 → (feC f)[r]? = some u → w.cell? ⟨g, 0 + i * 4 + r, none⟩ = some u := fun r u hr hu => by
  refine cell_blk h ?_;rw [Nat.zero_add, List.getElem?_toArray];exact hl _ _ (by rw [fe_flat hf hr, hu])
 exact ⟨hc 0 _ (by omega) rfl, hc 1 _ (by omega) rfl, hc 2 _ (by omega) rfl, hc 3 _ (by omega) rfl⟩
theorem fe_cells {w : World} {b off : Nat} {l : List Fe} (h : ∀ (i : Nat) (x : Fe), l[i]? = some x → FeAt w b (off + i * 4) x) : ∀ j v, (l.flatMap feC)[j]? = some v → w.cell? ((⟨b, off, none⟩ : Addr).add j) = some v := by
 intro j v hj;rw [Addr.add_lit];have hjl : j < (l.flatMap feC).length := (List.getElem?_eq_some_iff.1 hj).1;rw [feC_len] at hjl;obtain ⟨f, hf⟩ := get_lt (l := l) (k := j / 4) (by omega);have e := fe_flat hf (show j % 4 < 4 by omega);rw [show j / 4 * 4 + j % 4 = j by omega, hj] at e;obtain ⟨h0, h1, h2, h3⟩ := h _ _ hf;have hr : j % 4 = 0 ∨ j % 4 = 1 ∨ j % 4 = 2 ∨ j % 4 = 3 := by omega
 rcases hr with hr | hr | hr | hr
 ·rw [hr] at e; simp [feC] at e; rw [e, ← h0, show off + j = off + j / 4 * 4 by omega]
 ·rw [hr] at e; simp [feC] at e; rw [e, ← h1, show off + j = off + j / 4 * 4 + 1 by omega]
 ·rw [hr] at e; simp [feC] at e; rw [e, ← h2, show off + j = off + j / 4 * 4 + 2 by omega]
 ·rw [hr] at e; simp [feC] at e; rw [e, ← h3, show off + j = off + j / 4 * 4 + 3 by omega]
theorem fe_own {w : World} {base : Nat} {e : TypeId} {A : Option Addr} {c : Nat} {l : List Fe} (ho : w.ownsRow base e 4 (.slice A l.length c) l.length (l.flatMap feC)) : Fes w w.heap.size A l := by
 rcases ho.2 with ⟨h, h0⟩ | ⟨g, cap, cur, h, _, hg, h5, h6, h7, h8⟩
 ·exact .inl (List.length_eq_zero_iff.1 h0)
 ·cases h
  refine fe_blk (cs := cur.toList) (by simpa using hg) (fun j v hj => ?_) (blk_lt hg);have : (cur.toList.take (l.length * 4))[j]? = (l.flatMap feC)[j]? := congrArg (fun x => x[j]?) h8;rw [List.getElem?_take, if_pos (by have := (List.getElem?_eq_some_iff.1 hj).1; rw [feC_len] at this; omega)] at this;rw [this, hj]
theorem own_kept {W W' : World} {base : Nat} {e : TypeId} {size : Nat} {v : Value} {n : Nat} {xs : List Value} (h : W.ownsRow base e size v n xs) (hb : ∀ i, v.ownBlock = some i → W'.heap[i]? = W.heap[i]?) : W'.ownsRow base e size v n xs := by
 obtain ⟨h0, h1⟩ := h;refine ⟨h0, ?_⟩;rcases h1 with h1 | ⟨g, cap, cur, rfl, h2, h3, h4⟩
 ·exact .inl h1
 ·exact .inr ⟨g, cap, cur, rfl, h2, (hb g rfl).trans h3, h4⟩
theorem own_below {W W' : World} {base : Nat} {e : TypeId} {size : Nat} {v : Value} {n : Nat} {xs : List Value} (h : W.ownsRow base e size v n xs) (hb : Below W.heap.size W W') : W'.ownsRow base e size v n xs :=
 own_kept h fun i hi => hb.block i (h.lt i hi).2
def fitF (S : Shp) (f : Fe) : Nat := if S.ok then fitZ S.g.toNat S.c.toNat (MM.cnt f.m) f.c else 0
theorem fitF_le (S : Shp) (f : Fe) : fitF S f ≤ 16 := by
 unfold fitF; split
 ·exact fitZ_le _ _ _ _
 ·omega
def shV (S : Shp) : Value := .agg #[.int .i64 S.g, .int .i64 S.c, .int .i64 S.mn, .int .i64 S.mx]
theorem fit_any (S : Shp) (f : Fe) (w : World) (hw : S.Wf) (hf : FeOk f) (hT : Tab w) : Calls Tryz.prog 67 #[shV S, feV f] w fun e w' => e = .returned (.int .i64 (fitF S f : Nat)) ∧ Below w.heap.size w w' := by
 obtain ⟨g, c, mn, mx⟩ := S;unfold fitF shV feV
 cases hok : Shp.ok ⟨g, c, mn, mx⟩
 ·exact fits_bad g c mn mx f.n f.d f.m f.c w hw hok
 ·obtain ⟨g', c', rfl, rfl, _⟩ := Shp.nat hok;exact fits_tell g' c' mn mx f.n f.d f.m f.c w hw hok hf.m hf.c hT w (Below.refl _ _)
/-! What comes in. -/
def feSh : Sh := .struct (.cons (.struct (.cons (.int .i64) (.cons (.int .i64) .nil))) (.cons (.int .u64) (.cons (.int .i64) .nil)))
theorem fes_lift {w : World} {B : Nat} {v : Value} (h : (Sh.slice feSh).Holds w B [v]) : ∃ (A : Option Addr) (c : Nat) (l : List Fe), v = .slice A l.length c ∧ l.length ≤ c ∧ c ≤ maxLen ∧ Fes w B A l ∧ ∀ s ∈ l, FeOk s :=
 rows_of h fun b o cs _ hl hat hh => by
  match cs, hl with
  | [c0, c1, c2, c3], _ =>
   simp [feSh, Sh.Holds, Sh.size] at hh;obtain ⟨⟨⟨x, rfl, hx⟩, ⟨y, rfl, hy⟩⟩, ⟨m, rfl, hm⟩, ⟨z, rfl, hz⟩⟩ := hh;have hb := bounds_u64 hm;obtain ⟨n, rfl⟩ : ∃ n : Nat, m = n := ⟨m.toNat, by omega⟩
   exact ⟨⟨x, y, n, z⟩, ⟨hat 0 _ rfl, hat 1 _ rfl, hat 2 _ rfl, hat 3 _ rfl⟩, ⟨hx, hy, (show n < 18446744073709551616 by omega), hz⟩⟩
section
variable {H : Type} {enc : TypeId × Value → H} {w : World} {held : Bool} {r : Reach} {b0 : Nat} {v : Value} {d : DataW H} {p : List MemPlace}
end
end Go.Proofs.YtkkkhonjcbhelaaGreatDoor
