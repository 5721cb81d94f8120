/- slotsOf of package promise: all slots of the holds, one hold's behind the other's; ended: how many are over. -/
/- When a want fits, by what ends: plain facts of views, slots put to them in any order, and the least tick. No program is walked. -/
/- need of package promise: the units that a want's members need together; none, of one that may not be. -/
/- plus of package promise: the units left with those of the holds that are of the queue. -/
/- ticks of package promise: now and the ends behind it, each once, rising. -/
/- The first tick at which it fits, looked for tick by tick: plain facts. No program is walked. -/
import Derived.StillTail
import Derived.StillTailTactics
import Derived.Laws.EntriesVeiled
import Derived.Lib.SliceRun
import Derived.Test.YtppapmacngdefaaDoorProBase
import Derived.Test.YtppapmacngdefaaDoorPackS
import Derived.Test.YtppapmacngdefaaDoorShapeP
import Derived.Deep.QuietTactic
import Derived.BigQuiet
import Derived.Laws.AppendOwn
import Derived.Laws.OwnMore
set_option maxRecDepth 100000
set_option linter.unusedVariables false
set_option maxRecDepth 100000
namespace Go.Proofs.YtppapmacngdefaaDoor
open Go.RowKit
namespace PR
def sl (hs : List Ho) : List Fe := hs.flatMap Ho.sl
def over (hs : List Ho) (t : Int) : List Ho := hs.filter fun h => decide (h.u ≤ t)
theorem sl_app (a b : List Ho) : sl (a ++ b) = sl a ++ sl b := by simp [sl]
theorem sl_next {l : List Ho} {k : Nat} {x : Ho} (h : l[k]? = some x) : sl (l.take (k + 1)) = sl (l.take k) ++ x.sl := by rw [take_next h, sl_app]; simp [sl]
/-- Not too many holds, nor slots of one. -/
structure Many (l : List Ho) : Prop where
  n : l.length ≤ 1000
  s : ∀ x ∈ l, x.sl.length ≤ 1000
theorem Many.take {l : List Ho} (h : Many l) (k : Nat) : Many (l.take k) := ⟨by rw [List.length_take]; have := h.n; omega, fun x hx => h.s x (List.mem_of_mem_take hx)⟩
theorem sl_len : ∀ {l : List Ho}, (∀ x ∈ l, x.sl.length ≤ 1000) → (sl l).length ≤ 1000 * l.length
  | [], _ => by simp [sl]
  | x :: l, h => by
    have := sl_len (l := l) fun y hy => h y (List.mem_cons_of_mem _ hy)
    have := h x (by simp)
    simp only [sl, List.flatMap_cons, List.length_append, List.length_cons] at *
    omega
theorem sl_many {l : List Ho} (h : Many l) (k : Nat) : (sl (l.take k)).length ≤ 1000000 := by
  have := sl_len (h.take k).s
  have := (h.take k).n
  omega
end PR
theorem info_slot4 : (Tryd.prog.info? 63).map (fun i => (i.zero, i.size, i.bytes)) = some (some (.agg #[.int .i64 0, .int .i64 0, .int .u64 0, .int .i64 0]), 4, 32) := by kernel_rfl
open PR
end Go.Proofs.YtppapmacngdefaaDoor

namespace Go.Proofs.YtppapmacngdefaaDoor
open Go.RowKit
namespace PR
def gs (l : List Fe) : Nat := (l.map fun s => MM.cnt s.m).sum
def cs (l : List Fe) : Int := (l.map fun s => s.c).sum
def mine (hs : List Ho) (q : Int) : List Fe := sl (hs.filter fun h => decide (h.q = q))
theorem gs_app (a b : List Fe) : gs (a ++ b) = gs a + gs b := by simp [gs]
theorem cs_app (a b : List Fe) : cs (a ++ b) = cs a + cs b := by simp [cs]
/-- Does it fit? -/
def fits (l : List Fe) (g c : Int) (W : Wa) : Bool := W.ok && decide (W.S.g * W.n ≤ g ∧ W.S.c * W.n ≤ c ∧ W.n ≤ roomF W.S l)
/-- Does it fit at a tick? -/
def at_ (l : List Fe) (g c : Int) (hs : List Ho) (W : Wa) (t : Int) : Bool :=
  fits (turnL moreC l (sl (over hs t))).2 (g + gs (mine (over hs t) W.q)) (c + cs (mine (over hs t) W.q)) W
/-- The ticks that are looked at. -/
def Cand (now : Int) (hs : List Ho) (x : Int) : Prop := x = now ∨ ((∃ h ∈ hs, h.u = x) ∧ now < x ∧ x < 1073741825)
/-- The least of them that is meant; 2^30 and one, if none is. -/
def Least (now : Int) (hs : List Ho) (p : Int → Bool) (t : Int) : Prop :=
  (t = 1073741825 ∧ ∀ x, Cand now hs x → p x = false) ∨ (Cand now hs t ∧ p t = true ∧ ∀ x, Cand now hs x → p x = true → t ≤ x)
theorem Least.same {now : Int} {hs : List Ho} {p : Int → Bool} {t u : Int} (h : Least now hs p t) (k : Least now hs p u) : t = u := by
  rcases h with ⟨e, h⟩ | ⟨h1, h2, h3⟩ <;> rcases k with ⟨e', k⟩ | ⟨k1, k2, k3⟩
  · rw [e, e']
  · rw [h _ k1] at k2; cases k2
  · rw [k _ h1] at h2; cases h2
  · exact Int.le_antisymm (h3 _ k1 k2) (k3 _ h1 h2)
theorem Least.bounds {now : Int} {hs : List Ho} {p : Int → Bool} {t : Int} (h : Least now hs p t) (h0 : now ≤ 1073741824) : now ≤ t ∧ t ≤ 1073741825 := by
  rcases h with ⟨e, _⟩ | ⟨h1, _⟩
  · omega
  · rcases h1 with e | ⟨_, h1, h2⟩ <;> omega
theorem Least.ext {now : Int} {hs hs' : List Ho} {p p' : Int → Bool} {t : Int} (h : Least now hs p t) (hc : ∀ x, Cand now hs' x ↔ Cand now hs x) (hp : ∀ x, p' x = p x) : Least now hs' p' t := by
  rcases h with ⟨e, h⟩ | ⟨h1, h2, h3⟩
  · exact .inl ⟨e, fun x hx => by rw [hp]; exact h x ((hc x).1 hx)⟩
  · exact .inr ⟨(hc t).2 h1, by rw [hp]; exact h2, fun x hx hpx => h3 x ((hc x).1 hx) (by rw [← hp]; exact hpx)⟩
/-- What is over at a tick was so at the last one that is looked at. -/
theorem over_last {now t : Int} (hs : List Ho) (h0 : now ≤ t) (h1 : t < 1073741825) : ∃ x, Cand now hs x ∧ x ≤ t ∧ over hs x = over hs t := by
  induction hs with
  | nil => exact ⟨now, .inl rfl, h0, rfl⟩
  | cons h hs ih =>
    obtain ⟨x, hx, hxt, hov⟩ := ih
    by_cases hu : h.u ≤ x
    · refine ⟨x, ?_, hxt, ?_⟩
      · rcases hx with e | ⟨⟨k, hk, e⟩, h2, h3⟩
        · exact .inl e
        · exact .inr ⟨⟨k, List.mem_cons_of_mem _ hk, e⟩, h2, h3⟩
      · unfold over at *
        rw [List.filter_cons, List.filter_cons, if_pos (by simpa using hu), if_pos (by simp; omega), hov]
    · by_cases hut : h.u ≤ t
      · refine ⟨h.u, .inr ⟨⟨h, by simp, rfl⟩, ?_, by omega⟩, hut, ?_⟩
        · rcases hx with e | ⟨_, h2, _⟩ <;> omega
        · unfold over at *
          rw [List.filter_cons, List.filter_cons, if_pos (by simp), if_pos (by simpa using hut)]
          congr 1
          refine List.filter_congr fun k hk => ?_
          by_cases a : k.u ≤ t
          · have : k ∈ hs.filter fun h => decide (h.u ≤ x) := by rw [hov]; exact List.mem_filter.2 ⟨hk, by simpa using a⟩
            have h5 : k.u ≤ x := by simpa using (List.mem_filter.1 this).2
            have : k.u ≤ h.u := by omega
            simp [a, this]
          · have : ¬ k.u ≤ h.u := by omega
            simp [a, this]
      · refine ⟨x, ?_, hxt, ?_⟩
        · rcases hx with e | ⟨⟨k, hk, e⟩, h2, h3⟩
          · exact .inl e
          · exact .inr ⟨⟨k, List.mem_cons_of_mem _ hk, e⟩, h2, h3⟩
        · unfold over at *
          rw [List.filter_cons, List.filter_cons, if_neg (by simpa using hu), if_neg (by simpa using hut), hov]
/-- Where it fits at a tick, the least is no later. -/
theorem Least.le_of {l : List Fe} {g c : Int} {W : Wa} {now t u : Int} {hs : List Ho} (h : Least now hs (at_ l g c hs W) u) (h0 : now ≤ t) (h1 : t < 1073741825) (ht : at_ l g c hs W t = true) : u ≤ t := by
  obtain ⟨x, hx, hxt, hov⟩ := over_last hs h0 h1
  have hp : at_ l g c hs W x = true := by unfold at_ at *; rw [hov]; exact ht
  rcases h with ⟨e, h⟩ | ⟨_, _, h⟩
  · rw [h x hx] at hp; cases hp
  · exact Int.le_trans (h x hx hp) hxt
/-- Where whatever fits does so still, the least is no later. -/
theorem Least.le {l l' : List Fe} {g c g' c' : Int} {W : Wa} {now t u : Int} {hs hs' : List Ho} (h : Least now hs (at_ l g c hs W) t) (k : Least now hs' (at_ l' g' c' hs' W) u) (h0 : now ≤ 1073741824) (hm : ∀ x, at_ l g c hs W x = true → at_ l' g' c' hs' W x = true) : u ≤ t := by
  have hb := h.bounds h0
  have hb' := k.bounds h0
  by_cases ht : t = 1073741825
  · omega
  · rcases h with ⟨e, _⟩ | ⟨_, h2, _⟩
    · exact absurd e ht
    · exact k.le_of hb.1 (by omega) (hm t h2)
end PR
end Go.Proofs.YtppapmacngdefaaDoor

set_option linter.unusedVariables false
set_option maxRecDepth 100000
namespace Go.Proofs.YtppapmacngdefaaDoor
open Go.RowKit
def Wa.g (X : Wa) : Int := if X.ok = true then X.S.g * X.n else 0
def Wa.c (X : Wa) : Int := if X.ok = true then X.S.c * X.n else 0
end Go.Proofs.YtppapmacngdefaaDoor

set_option maxRecDepth 100000
set_option linter.unusedVariables false
namespace Go.Proofs.YtppapmacngdefaaDoor
open Go.RowKit
namespace PR
theorem gs_le (l : List Fe) : gs l ≤ 64 * l.length := by
  induction l with
  | nil => simp [gs]
  | cons x l ih => simp only [gs, List.map_cons, List.sum_cons, List.length_cons] at *; have := MM.cnt_le x.m; omega
theorem cs_le {l : List Fe} (h : ∀ s ∈ l, 0 ≤ s.c ∧ s.c ≤ 1048576) : 0 ≤ cs l ∧ cs l ≤ 1048576 * (l.length : Int) := by
  induction l with
  | nil => simp [cs]
  | cons x l ih =>
    have h1 := ih fun s hs => h s (List.mem_cons_of_mem _ hs)
    have h2 := h x (by simp)
    simp only [cs, List.map_cons, List.sum_cons, List.length_cons] at *
    omega
theorem gs_next {l : List Fe} {k : Nat} {f : Fe} (h : l[k]? = some f) : gs (l.take (k + 1)) = gs (l.take k) + MM.cnt f.m := by rw [take_next h, gs_app]; simp [gs]
theorem cs_next {l : List Fe} {k : Nat} {f : Fe} (h : l[k]? = some f) : cs (l.take (k + 1)) = cs (l.take k) + f.c := by rw [take_next h, cs_app]; simp [cs]
/-- Slots that can be counted. -/
def Low (l : List Fe) : Prop := ∀ s ∈ l, FeOk s ∧ 0 ≤ s.c ∧ s.c ≤ 1048576
end PR
open PR
end Go.Proofs.YtppapmacngdefaaDoor

set_option maxRecDepth 100000
set_option linter.unusedVariables false
namespace Go.Proofs.YtppapmacngdefaaDoor
open Go.RowKit
namespace PR
/-- The ticks rise, and are now and the ends behind it. -/
structure Rising (now : Int) (D : List Ho) (L : List Int) : Prop where
  rise : L.Pairwise (· < ·)
  mem : ∀ x, x ∈ L ↔ Cand now D x
  last : ∃ y, L.getLast? = some y
end PR
open PR
end Go.Proofs.YtppapmacngdefaaDoor

set_option linter.unusedVariables false
namespace Go.Proofs.YtppapmacngdefaaDoor
open Go.RowKit
namespace PR
/-- Behind k ticks, none of which fits: what is over, and what isn't. -/
structure StepsP (lv : List Fe) (g c : Int) (X : Wa) (D : List Ho) (TL : List Int) (k : Nat) (R : List Ho) (lk : List Fe) (gk ck : Int) : Prop where
  ex : ∃ P, D = P ++ R ∧ lk = (turnL moreC lv (sl P)).2 ∧ gk = g + gs (mine P X.q) ∧ ck = c + cs (mine P X.q) ∧ ∀ x ∈ P, ∀ T ∈ TL.drop k, x.u ≤ T
  no : ∀ T ∈ TL.take k, at_ lv g c D X T = false
/-- What Earliest tells. -/
def Earl (now : Int) (lv : List Fe) (g c : Int) (l : List Ho) (X : Wa) (T E : Int) : Prop :=
  (¬ (X.ok = true ∧ 0 ≤ now ∧ now ≤ 1073741824) ∧ T = 0 ∧ E = 1) ∨ ((X.ok = true ∧ 0 ≤ now ∧ now ≤ 1073741824) ∧
    (((turnL moreC lv (sl l)).1 ≠ 0 ∧ T = 0 ∧ E = (turnL moreC lv (sl l)).1) ∨ ((turnL moreC lv (sl l)).1 = 0 ∧ E = 0 ∧ Least now l (at_ lv g c l X) T)))
theorem Earl.same {now : Int} {lv : List Fe} {g c : Int} {l : List Ho} {X : Wa} {T E T' E' : Int} (h : Earl now lv g c l X T E) (k : Earl now lv g c l X T' E') : T = T' ∧ E = E' := by
  rcases h with ⟨h0, h1, h2⟩ | ⟨h0, h⟩ <;> rcases k with ⟨k0, k1, k2⟩ | ⟨k0, k⟩
  · omega
  · exact absurd k0 h0
  · exact absurd h0 k0
  · rcases h with ⟨h3, h1, h2⟩ | ⟨h3, h1, h2⟩ <;> rcases k with ⟨k3, k1, k2⟩ | ⟨k3, k1, k2⟩
    · omega
    · exact absurd k3 h3
    · exact absurd h3 k3
    · exact ⟨h2.same k2, by omega⟩
theorem Earl.ok {now : Int} {lv : List Fe} {g c : Int} {l : List Ho} {X : Wa} {T : Int} (h : Earl now lv g c l X T 0) : X.ok = true ∧ 0 ≤ now ∧ now ≤ 1073741824 ∧ (turnL moreC lv (sl l)).1 = 0 ∧ Least now l (at_ lv g c l X) T := by
  rcases h with ⟨_, _, h⟩ | ⟨h0, ⟨h1, _, h2⟩ | ⟨h1, _, h2⟩⟩
  · omega
  · exact absurd h2.symm h1
  · exact ⟨h0.1, h0.2.1, h0.2.2, h1, h2⟩
end PR
end Go.Proofs.YtppapmacngdefaaDoor
