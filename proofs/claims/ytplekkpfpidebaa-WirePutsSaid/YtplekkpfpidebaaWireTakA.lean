/- take at an act's fields. -/
import Derived.Test.YtplekkpfpidebaaWireAct
set_option linter.unusedVariables false
set_option linter.unusedSimpArgs false
set_option maxRecDepth 100000
namespace Go.Proofs.Ytplekkpfpidebaa
open Go.RowKit
theorem cuts_take : ∀ (ws : List Nat) (b : List UInt8), WM.cuts ws (b.take ws.sum) = WM.cuts ws b
  | [], _ => rfl
  | c :: ws, b => by
    simp only [WM.cuts, List.sum_cons]
    have h1 : (b.take (c + ws.sum)).take c = b.take c := by rw [List.take_take]; congr 1; omega
    have h2 : (b.take (c + ws.sum)).drop c = (b.drop c).take ws.sum := by rw [List.drop_take]; congr 1; omega
    rw [h1, h2, cuts_take ws]
theorem wid_fds (p kk : Nat) (hk : kk < 8) : widF (fdsA p kk) = WM.wid kk := by
  match kk, hk with
  | 0, _ | 1, _ | 2, _ | 3, _ | 4, _ | 5, _ | 6, _ | 7, _ => rfl
theorem size_some (kk : Nat) (hk : kk < 8) : ∃ n, WM.size kk = some n ∧ (WM.wid kk).sum = n ∧ n ≤ 11 := by
  match kk, hk with
  | 0, _ | 1, _ | 2, _ | 3, _ | 4, _ | 5, _ | 6, _ | 7, _ => exact ⟨_, rfl, rfl, by decide⟩
theorem size_none (kk : Nat) (hk : ¬ kk < 8) : WM.size kk = none := by
  unfold WM.size
  rw [if_neg (by omega), if_neg (by omega), if_neg (by omega), if_neg (by omega)]
def kindA (kk : Nat) : WM.Ac := { WM.Ac.zero with k := kk }
set_option maxHeartbeats 1000000 in
theorem set_act (p kk : Nat) (hk : kk < 8) (vs : List Nat) (hv : vs.length = (WM.wid kk).length) : setF (acA (kindA kk)) (fdsA p kk) vs = acA (WM.mk kk vs) := by
  match kk, hk with
  | 0, _ =>
    match vs, hv with
    | [a, b, c, d, e, f, g, h], _ => simp [setF, fdsA, acA, kindA, WM.mk, WM.Ac.zero]
  | 5, _ =>
    match vs, hv with
    | [], _ => simp [setF, fdsA, acA, kindA, WM.mk, WM.Ac.zero]
  | 1, _ | 2, _ | 3, _ | 4, _ | 6, _ | 7, _ =>
    match vs, hv with
    | [a], _ => simp [setF, fdsA, acA, kindA, WM.mk, WM.Ac.zero]
theorem act0 (a : WM.Ac) : (acA a)[0]? = some (.int .i64 a.k) := rfl
theorem mk_k (kk : Nat) (vs : List Nat) : (WM.mk kk vs).k = kk := by
  unfold WM.mk
  split
  · rename_i h; exact h.symm
  · rfl
theorem set_some (p kk : Nat) (hk : kk < 8) : ∀ (k : Nat) (vs : List Nat) (a : WM.Ac), a.k = kk → ∃ b : WM.Ac, setF (acA a) ((fdsA p kk).take k) (vs.take k) = acA b ∧ b.k = kk := by
  intro k vs a ha
  have key : ∀ (fs : List FldP) (vs : List Nat) (a : WM.Ac), a.k = kk → (∀ x ∈ fs, 1 ≤ x.2.1 ∧ x.2.1 < 10) → ∃ b : WM.Ac, setF (acA a) fs vs = acA b ∧ b.k = kk := by
    intro fs
    induction fs with
    | nil => intro vs a ha _; exact ⟨a, by simp [setF], ha⟩
    | cons x fs ih =>
      intro vs a ha hx
      cases vs with
      | nil => exact ⟨a, by simp [setF], ha⟩
      | cons v vs =>
        obtain ⟨x0, o, W⟩ := x
        have h1 := hx (x0, o, W) (by simp)
        simp only at h1
        have hx2 : ∀ x ∈ fs, 1 ≤ x.2.1 ∧ x.2.1 < 10 := fun y hy => hx y (by simp [hy])
        simp only [setF]
        match o, h1 with
        | 1, _ => exact ih vs { a with n := v } ha hx2
        | 2, _ => exact ih vs { a with id := v } ha hx2
        | 3, _ => exact ih vs { a with q := v } ha hx2
        | 4, _ => exact ih vs { a with p := v } ha hx2
        | 5, _ => exact ih vs { a with r := v } ha hx2
        | 6, _ => exact ih vs { a with g := v } ha hx2
        | 7, _ => exact ih vs { a with c := v } ha hx2
        | 8, _ => exact ih vs { a with mn := v } ha hx2
        | 9, _ => exact ih vs { a with mx := v } ha hx2
  refine key _ _ a ha fun x hx => ?_
  have hx2 := List.mem_of_mem_take hx
  have h1 := fdsA_ok x hx2
  have h3 : ∀ y ∈ fdsA p kk, 1 ≤ y.2.1 := by unfold fdsA; split <;> simp
  exact ⟨h3 x hx2, h1.2.2⟩
theorem take_act (p kk sz : Nat) (hk : kk < 8) (hsz : WM.size kk = some sz) (l : List UInt8) (hl : l.length ≤ 1000000) (w : World) (hp : w.heap[p]? = some (.cells (acA (kindA kk)) 27 (0, 0))) (A : Option Addr) (n : Nat) (hn : n = (fdsA p kk).length) (hE : Els fpC 2 w w.heap.size A (fdsA p kk)) :
    Calls Try.prog 28 #[.string (bs l), .slice A n n] w fun e w' => ∃ (a : WM.Ac) (r : List UInt8), e = .returned (.tuple #[.string (bs r), .bool (decide (sz ≤ l.length))]) ∧ Foot (· = p) w w' ∧ w'.cell? ⟨p, 0, none⟩ = some (.int .i64 kk) ∧ Hid (w'.heap[p]? = some (.cells (acA a) 27 (0, 0)) ∧ (sz ≤ l.length → r = l.drop sz ∧ a = WM.dec kk (l.take sz))) := by
  obtain ⟨sz', h1, h2, h3⟩ := size_some kk hk
  rw [hsz] at h1
  cases h1
  have hn8 : (fdsA p kk).length ≤ 8 := by
    match kk, hk with
    | 0, _ | 1, _ | 2, _ | 3, _ | 4, _ | 5, _ | 6, _ | 7, _ => simp [fdsA]
  have h9 := take_any p (acA (kindA kk)) 27 l hl w hp A n (fdsA p kk) hE (fun b off k x e hx => by
      obtain ⟨b2, off2, e2, _, hc⟩ := hE.at_ hx
      rw [e] at e2
      cases e2
      exact not_act hp (hc k x hx 0 _ rfl))
    (fun x hx => by have := fdsA_ok x hx; exact this) hn8
  rw [← hn, wid_fds p kk hk, h2] at h9
  refine h9.mono ?_
  rintro e w' ⟨g1, g2, g3⟩
  by_cases hs : sz ≤ l.length
  · obtain ⟨rfl, hP⟩ := g1 hs
    have hP2 := hP.out
    rw [set_act p kk hk _ (WM.cuts_len _ _)] at hP2
    refine ⟨_, _, by rw [decide_eq_true hs], g3.out, ?_, Lib.hid ⟨hP2, fun _ => ⟨rfl, ?_⟩⟩⟩
    · rw [cell_blk hP2 (act0 _), mk_k]
    · unfold WM.dec
      have h5 := cuts_take (WM.wid kk) l
      rw [h2] at h5
      rw [h5]
  · obtain ⟨rfl, hP⟩ := g2 (by omega)
    obtain ⟨k, hP⟩ := hP.out
    obtain ⟨b, hb1, hb2⟩ := set_some p kk hk k (WM.cuts (WM.wid kk) l) (kindA kk) rfl
    rw [hb1] at hP
    exact ⟨b, [], by rw [decide_eq_false hs], g3.out, by rw [cell_blk hP (act0 _), hb2], Lib.hid ⟨hP, fun h => absurd h hs⟩⟩
end Go.Proofs.Ytplekkpfpidebaa
