/- A reservation is committed just if it isn't late; then it runs till the tick that is told, and is never expired: the law LedgerCommits answers true, at every input. -/
import Derived.Laws.StructEq
import Derived.Test.YtbcldamfekejgaaGreatLedCallz
import Derived.Test.YtbcldamfekejgaaGreatLedCalls
import Derived.Test.YtbcldamfekejgaaGreatTopoFrame
set_option linter.unusedVariables false
namespace Go.Proofs.YtbcldamfekejgaaGreat.ledgerCommits
open Go Go.ChangeShapes Go.WideShapes Go.ChangeAt Go.RowKit
open Go.MuLone
theorem frees_head {ns : List (List (Int × Int))} (h : cluOk ns = true) : ∃ f l, frees ns = f :: l ∧ f.n = 0 ∧ f.d = 0 := by
  cases ns with
  | nil => simp [cluOk, inB] at h
  | cons ds rest =>
    cases ds with
    | nil => simp [cluOk, nodeOk, inB] at h
    | cons d ds =>
      have e : frees ((d :: ds) :: rest) = frAt 0 0 d :: (((ds.zipIdx 1).map fun p => frAt 0 p.2 p.1) ++ (rest.zipIdx 1).flatMap fun p => frNode p.2 p.1) := by
        simp [frees, frNode, List.zipIdx_cons]
      exact ⟨_, _, e, rfl, rfl⟩
theorem take_no {ns : List (List (Int × Int))} (h : cluOk ns = true) : ∃ ts, PM.whole (frees ns) (List.replicate ns.length false) false [LM.noSl] (PM.zero (frees ns)) = (0, ts) := by
  obtain ⟨f, l, hf, h1, h2⟩ := frees_head h
  have hone : ∃ ts, PM.one (frees ns) (List.replicate ns.length false) false LM.noSl (PM.zero (frees ns)) = (0, ts) := by
    rw [hf]
    have e1 : ¬ ((List.replicate ns.length false)[f.n]? = some true) := by rw [List.getElem?_replicate]; split <;> simp
    refine ⟨(PM.zero (f :: l)).set 0 ⟨f.n, f.d, 0 ||| LM.noSl.m, 0 + LM.noSl.c.toNat⟩, ?_⟩
    unfold PM.one
    rw [if_neg (by simp [LM.noSl])]
    have e2 : PM.find LM.noSl.n LM.noSl.d (f :: l) = some 0 := by
      unfold PM.find
      rw [if_pos (by simp [PM.isAt, LM.noSl, h1, h2])]
    rw [e2]
    simp only [List.getElem?_cons_zero, PM.zero, List.map_cons]
    rw [if_neg (by simp), if_neg e1, if_neg (by simp [LM.noSl])]
  obtain ⟨ts, hts⟩ := hone
  refine ⟨ts, ?_⟩
  have hm : PM.many (frees ns) (List.replicate ns.length false) false [LM.noSl] (PM.zero (frees ns)) = (0, ts) := by
    unfold PM.many
    rw [hts, if_pos rfl]
    rfl
  unfold PM.whole
  rw [hm, if_pos rfl]
def comU : List Un := [⟨1048576, 1048576⟩]
def comS (ts : List Fr) (n : Nat) (h : Hd) (v : Nat) : LS := ⟨ts, List.replicate n false, [⟨⟨1048576, 1048576⟩, ⟨0, 0⟩⟩], [h], v⟩
theorem com_res {ns : List (List (Int × Int))} (h : cluOk ns = true) (lim : Int) : ∃ ts, LM.reserve (frees ns) (LM.init ns comU) 7 0 lim 0 [LM.noSl] = (0, comS ts ns.length ⟨7, 0, lim, false, [LM.noSl]⟩ 1) := by
  obtain ⟨ts, hts⟩ := take_no h
  refine ⟨ts, ?_⟩
  have hq : qAdd (newL comU) 0 (LM.units [LM.noSl]) = (0, [⟨⟨1048576, 1048576⟩, ⟨0, 0⟩⟩]) := by kernel_rfl
  have ht : LM.take (frees ns) (LM.init ns comU) 0 [LM.noSl] = (0, ⟨ts, List.replicate ns.length false, [⟨⟨1048576, 1048576⟩, ⟨0, 0⟩⟩], [], 0⟩) := by
    unfold LM.take LM.init
    simp only
    rw [hts, hq]
    rfl
  unfold LM.reserve
  rw [if_neg (by simp [LM.init]), if_neg (by simp), if_neg (by simp [LM.init, LM.find]), if_neg (by simp [LM.init]; decide), ht, if_neg (by simp)]
  rfl
theorem com_commit (ts : List Fr) (n : Nat) (lim now un : Int) : LM.commit (comS ts n ⟨7, 0, lim, false, [LM.noSl]⟩ 1) 7 now un = if lim < now then (9, comS ts n ⟨7, 0, lim, false, [LM.noSl]⟩ 1) else (0, comS ts n ⟨7, 0, un, true, [LM.noSl]⟩ 2) := by
  simp [LM.commit, comS, LM.find, LM.upd, LM.up]
theorem com_commit2 (ts : List Fr) (n : Nat) (lim now un : Int) : LM.commit (comS ts n ⟨7, 0, lim, true, [LM.noSl]⟩ 2) 7 now un = (8, comS ts n ⟨7, 0, lim, true, [LM.noSl]⟩ 2) := by
  simp [LM.commit, comS, LM.find]
theorem com_late (fs ts : List Fr) (n : Nat) (lim now : Int) (h : lim < now) : (LM.expire fs (comS ts n ⟨7, 0, lim, false, [LM.noSl]⟩ 1) now).1 = [7] ∧ (LM.expire fs (comS ts n ⟨7, 0, lim, false, [LM.noSl]⟩ 1) now).2.hs = [] := by
  simp [LM.expire, LM.idsOf, LM.late, comS, h, LM.allGo, LM.letGo, LM.up, LM.del]
theorem com_stays (fs ts : List Fr) (n : Nat) (lim now : Int) : LM.expire fs (comS ts n ⟨7, 0, lim, true, [LM.noSl]⟩ 2) now = ([], comS ts n ⟨7, 0, lim, true, [LM.noSl]⟩ 2) := by
  simp [LM.expire, LM.idsOf, LM.late, comS]
def numC (x : Int) : List Value := [.int .i64 x]
theorem numC_len (x : Int) : (numC x).length = 1 := rfl
theorem noSl_ok : SlOk LM.noSl := ⟨by decide, by decide, by decide, by decide⟩
set_option maxRecDepth 100000 in
set_option maxHeartbeats 4000000 in
theorem walk (a0 : Option Addr) (c0 : Nat) (n0 : List (List (Int × Int))) (a1 a2 a3 : Int) (w : World) (w0 : Nodes w w.heap.size a0 n0) (lc0 : n0.length ≤ c0) (mc0 : c0 ≤ maxLen)
    (w1 : (Lit.int .i64 a1).wf = true) (w2 : (Lit.int .i64 a2).wf = true) (w3 : (Lit.int .i64 a3).wf = true) :
    Calls Tryz.prog 9 #[.agg #[.slice a0 n0.length c0], .int .i64 a1, .int .i64 a2, .int .i64 a3] w fun e w' => e = .returned (.bool true) ∧ Below w.heap.size w w' := by
  have hA := Lib.hid awake_l
  obtain ⟨m, hm⟩ : ∃ m, n0.length = m := ⟨_, rfl⟩
  have hRt := fun W (hW : Below w.heap.size w W) (r : Bool) (hr : cluOk n0 = r) => right_any a0 c0 w.heap.size n0 W (Nodes.keep w0 hW (Nat.le_refl _)) hW.size r hr
  rw [hm] at hRt ⊢
  have k0 : (w.alloc (.cells #[.slice a0 m c0] 24)).cell? ⟨w.heap.size, 0, none⟩ = some (.slice a0 m c0) := by go_simp
  have hBa := (Below.refl w.heap.size w).alloc (Nat.le_refl _) (.cells #[.slice a0 m c0] 24)
  cases hc : cluOk n0
  · have hR := Lib.hid (fun W hW => hRt W hW false hc)
    clear hRt w0 hm lc0 mc0 hc
    go_enter Tryz.func9, Tryz.ntmps9
    go_wp2_with (first
      | (go_at_call 10; refine (hA.out _).mono ?_; rintro e u2 ⟨rfl, hb2⟩; have hB2 := below_step hBa hb2; have k2 := (hb2.cell (p := ⟨w.heap.size, 0, none⟩) (by simp)).trans k0; have s2 := hb2.size; simp at s2)
      | (go_at_call 34; refine (hR.out _ hB2).mono ?_; rintro e u3 ⟨rfl, hb3⟩; have hB3 := below_step hB2 hb3))
    go_ret
    exact ⟨rfl, hB3⟩
  have hR := Lib.hid (fun W hW => hRt W hW true hc)
  have hN2 : ∀ W, Below w.heap.size w W → Calls Tryz.prog 12 #[.agg #[.slice a0 m c0], .slice (some ⟨W.heap.size, 0, none⟩) 1 1] (W.alloc (.cells #[.int .i64 1048576, .int .i64 1048576] 58))
      fun e w' => ∃ p F, e = .returned (.tuple #[.pointer (some ⟨p, 0, none⟩), .int .i64 0]) ∧ LIn w w' p F (frees n0) (LM.init n0 comU) := fun W hW => by
    have hB := (Below.refl W.heap.size W).alloc (Nat.le_refl _) (.cells #[.int .i64 1048576, .int .i64 1048576] 58)
    have hW2 := below_step hW hB
    have hU : Uns (W.alloc (.cells #[.int .i64 1048576, .int .i64 1048576] 58)) (W.alloc (.cells #[.int .i64 1048576, .int .i64 1048576] 58)).heap.size (some ⟨W.heap.size, 0, none⟩) comU := els_blk uC_len (heap_alloc_new W _) (fun j v hj => by simpa [uC, comU] using hj)
    have h9 := lnew_l a0 (some ⟨W.heap.size, 0, none⟩) c0 1 n0 comU _ (Nodes.keep w0 hW2 hW2.size) hU
    rw [hm] at h9
    refine h9.mono fun e w' (hl : LNew n0 comU _ e w') => ?_
    rcases hl.2 with ⟨h2 | h2, _⟩ | ⟨_, _, p, F, he, ho, hF⟩
    · rw [hc] at h2; cases h2
    · exact absurd h2 (by decide)
    · exact ⟨p, F, he, .made hW2 ho hF hl.1⟩
  have hN := Lib.hid hN2
  obtain ⟨ts, hts⟩ := com_res hc a1
  rw [hm] at hts
  obtain ⟨fs, hfs⟩ : ∃ fs, fs = frees n0 := ⟨_, rfl⟩
  rw [← hfs] at hN hts
  have hv0 : (LM.init n0 comU).ver ≤ 100000 := by simp [LM.init]
  have hRs : Hid (∀ p F W, LIn w W p F fs (LM.init n0 comU) → Calls Tryz.prog 33 #[.pointer (some ⟨p, 0, none⟩), .int .i64 7, .int .i64 0, .int .i64 a1, .int .i64 0, .slice (some ⟨W.heap.size, 0, none⟩) 1 1] (W.alloc (.cells #[.int .i64 0, .int .i64 0, .int .u64 0, .int .i64 0] 41))
      fun e w' => e = .returned (.int .i64 0) ∧ ∃ F', LIn w w' p F' fs (comS ts m ⟨7, 0, a1, false, [LM.noSl]⟩ 1)) := Lib.hid (fun p F W h => reserve_one 7 0 a1 0 LM.noSl h hv0 (by decide) (by decide) w1 noSl_ok hts)
  have hHd : ∀ p F W h v, LIn w W p F fs (comS ts m h v) → Calls Tryz.prog 20 #[.pointer (some ⟨p, 0, none⟩)] W fun e w' => ∃ b off c, e = .returned (.slice (some ⟨b, off, none⟩) 1 c) ∧ LIn w w' p F fs (comS ts m h v) ∧ b < w'.heap.size ∧ w'.cell? ⟨b, off + 2, none⟩ = some (.int .i64 h.un) ∧ w'.cell? ⟨b, off + 3, none⟩ = some (.bool h.run) := fun p F W h v hl =>
    (holds_l hl.at_ (by simp [comS])).mono fun e w' ⟨A, c, G, he, ⟨L, hL, hE, _⟩, _, hb⟩ => by
      have hl1 : L.length = 1 := by have := congrArg List.length hL; simpa [comS] using this
      obtain ⟨x, rfl⟩ : ∃ x, L = [x] := by
        cases L with
        | nil => simp at hl1
        | cons x L => cases L with
          | nil => exact ⟨x, rfl⟩
          | cons y L => simp at hl1
      have hx : x.h = h := by simpa [comS] using hL
      rcases hE with h0 | ⟨b, off, rfl, hb1, hc1⟩
      · cases h0
      · have h9 := hc1 0 x rfl
        exact ⟨b, off, c, he, hl.keep hb, hb1, by rw [← hx]; simpa using h9 2 (.int .i64 x.h.un) rfl, by rw [← hx]; simpa using h9 3 (.bool x.h.run) rfl⟩
  have HQ := Lib.hid (And.intro w2 w3)
  clear hRt w0 hm lc0 mc0 hc hN2 hts hfs hv0
  by_cases hlt : a1 < a2
  · have t0 : decide (a1 < a2) = true := decide_eq_true hlt
    have t1 : decide (a2 > a1) = true := decide_eq_true hlt
    have hCm := Lib.hid (fun p F W (h : LIn w W p F fs (comS ts m ⟨7, 0, a1, false, [LM.noSl]⟩ 1)) => show Calls Tryz.prog 35 #[.pointer (some ⟨p, 0, none⟩), .int .i64 7, .int .i64 a2, .int .i64 a3] W fun e w' => e = .returned (.int .i64 9) ∧ ∃ F', LIn w w' p F' fs (comS ts m ⟨7, 0, a1, false, [LM.noSl]⟩ 1) from
      (commit_l 7 a2 a3 h.at_ (by simp [comS]) (by decide) w3).mono fun e w' ⟨he, F', r1, r2, r3⟩ => by
        rw [com_commit, if_pos hlt] at he r1
        exact ⟨he, F', h.step r1 r2 r3⟩)
    have hEx := Lib.hid (fun p F W (h : LIn w W p F fs (comS ts m ⟨7, 0, a1, false, [LM.noSl]⟩ 1)) => show Calls Tryz.prog 30 #[.pointer (some ⟨p, 0, none⟩), .int .i64 a2] W fun e w' => ∃ b off c, e = .returned (.slice (some ⟨b, off, none⟩) 1 c) ∧ w'.cell? ⟨b, off, none⟩ = some (.int .i64 7) ∧ ∃ F' st, LIn w w' p F' fs st ∧ st.hs = [] from
      (expire_l a2 h.at_ (by simp [comS])).mono fun e w' ⟨⟨A, c, he, ho⟩, F', r1, r2, r3⟩ => by
        obtain ⟨x1, x2⟩ := com_late fs ts m a1 a2 hlt
        rw [x1] at he ho
        rcases (els_own (C := numC) numC_len (l := [7]) (show w'.ownsRow W.heap.size 3 1 (.slice A 1 c) 1 ([7].flatMap numC) from ho) rfl).1 with h0 | ⟨b, off, rfl, hb1, hc1⟩
        · cases h0
        · exact ⟨b, off, c, he, by simpa using hc1 0 7 rfl 0 (.int .i64 7) rfl, F', _, h.step r1 r2 r3, x2⟩)
    clear hlt hHd
    go_enter Tryz.func9, Tryz.ntmps9
    go_wp2_with (first
      | (go_at_call 10; refine (hA.out _).mono ?_; rintro e u2 ⟨rfl, hb2⟩; have hB2 := below_step hBa hb2; have k2 := (hb2.cell (p := ⟨w.heap.size, 0, none⟩) (by simp)).trans k0; have s2 := hb2.size; simp at s2)
      | (go_at_call 34; refine (hR.out _ hB2).mono ?_; rintro e u3 ⟨rfl, hb3⟩; have hB3 := below_step hB2 hb3; have k3 := (hb3.cell (p := ⟨w.heap.size, 0, none⟩) (show w.heap.size < _ by omega)).trans k2)
      | (go_at_call 12; refine (hN.out _ hB3).mono ?_; rintro e u4 ⟨p, F4, rfl, hl4⟩; have HL4 := Lib.hid hl4; clear hl4)
      | (go_at_call 33; refine (hRs.out p F4 _ HL4.out).mono ?_; rintro e u5 ⟨rfl, F5, hl5⟩; have HL5 := Lib.hid hl5; clear hl5)
      | (go_at_call 35; refine (hCm.out p F5 _ HL5.out).mono ?_; rintro e u6 ⟨rfl, F6, hl6⟩; have HL6 := Lib.hid hl6; clear hl6)
      | (go_at_call 30; refine (hEx.out p F6 _ HL6.out).mono ?_; rintro e u7 ⟨b7, o7, c7, rfl, x7, F7, st7, hl7, hs7⟩; have HL7 := Lib.hid hl7; have HS7 := Lib.hid hs7; clear hl7 hs7)
      | (go_at_call 20; refine (holds_l HL7.out.at_ (by rw [HS7.out]; decide)).mono ?_; rintro e u8 ⟨A8, c8, G8, rfl, _, _, hb8⟩; have HL8 := Lib.hid (HL7.out.keep hb8); clear hb8; rw [HS7.out]))
    go_ret
    exact ⟨by simp, HL8.out.bel⟩
  · have t0 : decide (a1 < a2) = false := decide_eq_false hlt
    have t1 : decide (a2 > a1) = false := decide_eq_false hlt
    have hCm := Lib.hid (fun p F W (h : LIn w W p F fs (comS ts m ⟨7, 0, a1, false, [LM.noSl]⟩ 1)) => show Calls Tryz.prog 35 #[.pointer (some ⟨p, 0, none⟩), .int .i64 7, .int .i64 a2, .int .i64 a3] W fun e w' => e = .returned (.int .i64 0) ∧ ∃ F', LIn w w' p F' fs (comS ts m ⟨7, 0, a3, true, [LM.noSl]⟩ 2) from
      (commit_l 7 a2 a3 h.at_ (by simp [comS]) (by decide) w3).mono fun e w' ⟨he, F', r1, r2, r3⟩ => by
        rw [com_commit, if_neg hlt] at he r1
        exact ⟨he, F', h.step r1 r2 r3⟩)
    have hCm2 := Lib.hid (fun p F W (h : LIn w W p F fs (comS ts m ⟨7, 0, a3, true, [LM.noSl]⟩ 2)) => show Calls Tryz.prog 35 #[.pointer (some ⟨p, 0, none⟩), .int .i64 7, .int .i64 a2, .int .i64 a3] W fun e w' => e = .returned (.int .i64 8) ∧ ∃ F', LIn w w' p F' fs (comS ts m ⟨7, 0, a3, true, [LM.noSl]⟩ 2) from
      (commit_l 7 a2 a3 h.at_ (by simp [comS]) (by decide) w3).mono fun e w' ⟨he, F', r1, r2, r3⟩ => by
        rw [com_commit2] at he r1
        exact ⟨he, F', h.step r1 r2 r3⟩)
    have hEx := Lib.hid (fun p F W (h : LIn w W p F fs (comS ts m ⟨7, 0, a3, true, [LM.noSl]⟩ 2)) => show Calls Tryz.prog 30 #[.pointer (some ⟨p, 0, none⟩), .int .i64 4611686018427387904] W fun e w' => ∃ A c, e = .returned (.slice A 0 c) ∧ ∃ F', LIn w w' p F' fs (comS ts m ⟨7, 0, a3, true, [LM.noSl]⟩ 2) from
      (expire_l 4611686018427387904 h.at_ (by simp [comS])).mono fun e w' ⟨⟨A, c, he, ho⟩, F', r1, r2, r3⟩ => by
        rw [com_stays] at he r1
        exact ⟨A, c, he, F', h.step r1 r2 r3⟩)
    have hHo := Lib.hid (fun p F W => hHd p F W ⟨7, 0, a3, true, [LM.noSl]⟩ 2)
    clear hlt hHd
    go_enter Tryz.func9, Tryz.ntmps9
    go_wp2_with (first
      | (go_at_call 10; refine (hA.out _).mono ?_; rintro e u2 ⟨rfl, hb2⟩; have hB2 := below_step hBa hb2; have k2 := (hb2.cell (p := ⟨w.heap.size, 0, none⟩) (by simp)).trans k0; have s2 := hb2.size; simp at s2)
      | (go_at_call 34; refine (hR.out _ hB2).mono ?_; rintro e u3 ⟨rfl, hb3⟩; have hB3 := below_step hB2 hb3; have k3 := (hb3.cell (p := ⟨w.heap.size, 0, none⟩) (show w.heap.size < _ by omega)).trans k2)
      | (go_at_call 12; refine (hN.out _ hB3).mono ?_; rintro e u4 ⟨p, F4, rfl, hl4⟩; have HL4 := Lib.hid hl4; clear hl4)
      | (go_at_call 33; refine (hRs.out p F4 _ HL4.out).mono ?_; rintro e u5 ⟨rfl, F5, hl5⟩; have HL5 := Lib.hid hl5; clear hl5)
      | (go_at_call 35; refine (hCm.out p F5 _ HL5.out).mono ?_; rintro e u6 ⟨rfl, F6, hl6⟩; have HL6 := Lib.hid hl6; clear hl6)
      | (go_at_call 20; refine (hHo.out p F6 _ HL6.out).mono ?_; rintro e u7 ⟨b7, o7, c7, rfl, hl7, _, x7, y7⟩; have HL7 := Lib.hid hl7; have x8 : u7.cell? ⟨b7, o7 + 2, none⟩ = some (.int .i64 a3) := x7; have y8 : u7.cell? ⟨b7, o7 + 3, none⟩ = some (.bool true) := y7; clear hl7 x7 y7)
      | (go_at_call 30; refine (hEx.out p F6 _ HL7.out).mono ?_; rintro e u8 ⟨A8, c8, rfl, F8, hl8⟩; have HL8 := Lib.hid hl8; clear hl8)
      | (go_at_call 35; refine (hCm2.out p F8 _ HL8.out).mono ?_; rintro e u9 ⟨rfl, F9, hl9⟩; have HL9 := Lib.hid hl9; clear hl9))
    go_ret
    exact ⟨by simp, HL9.out.bel⟩

set_option maxRecDepth 100000 in
set_option maxHeartbeats 1000000 in
theorem lifted (os : Os) (started : os.Started) (H : Type) (enc : TypeId × Value → H) :
    ReturnsInHanded {} Tryz.checked os 9 .any (Rows.ledgerCommitsSpec.pre6 enc Tryz.prog Tryz.f9 Rows.ledgerCommitsRow.domain false) (Rows.ledgerCommitsSpec.post enc Tryz.prog Tryz.f9 false true false false) := by
  refine returnsInHanded_of_change (C := Tryz.checked) own started (by kernel_rfl) Tryz.func9
    (ChangeSpec.witness6 (enc := enc) (C := Tryz.checked) false ⟨#[], #[.agg #[.slice none 0 0], .int .i64 0, .int .i64 0, .int .i64 0], []⟩ 8 (by kernel_rfl) (by kernel_rfl) (by kernel_rfl) (by kernel_rfl)) ?_
  intro W base args ds gs before hval0 hW _ _
  have hval : ∀ (j : Nat) t v, Tryz.f9.params[j]? = some t → args[j]? = some v → Value.okWide Tryz.prog W .any base t v := hval0
  have hW' := hW
  obtain ⟨p, q, hA0, hV, rfl, hfz, hnd⟩ := hW
  have hA : DataW.TrodAll enc Tryz.prog W 0 (fun _ => true) true Tryz.f9.params.toList args.toList ds p := hA0
  rw [Tryz.params9] at hA hval
  obtain ⟨v0, vs0, d0, ds0, p0, q0, hargs, rfl, rfl, h0, r0⟩ := trodAll_cons hA
  obtain ⟨v1, vs1, d1, ds1, p1, q1, rfl, rfl, rfl, h1, r1⟩ := trodAll_cons r0
  obtain ⟨v2, vs2, d2, ds2, p2, q2, rfl, rfl, rfl, h2, r2⟩ := trodAll_cons r1
  obtain ⟨v3, vs3, d3, ds3, p3, q3, rfl, rfl, rfl, h3, r3⟩ := trodAll_cons r2
  obtain ⟨rfl, rfl, rfl⟩ := trodAll_nil r3
  obtain rfl : args = #[v0, v1, v2, v3] := by cases args; simp_all
  obtain ⟨rfl, rfl⟩ := trodVars_none hV
  have k0 := h0
  have lt0 : ∀ x ∈ p0, x.block < W.heap.size := by obtain ⟨m, hm⟩ := k0; exact DataW.trod_lt m _ _ _ hm
  obtain ⟨a0, c0, n0, rfl, lc0, mc0, w0⟩ := clu_of (hval 0 24 v0 rfl rfl) h0
  have k1 := h1
  have lt1 : ∀ x ∈ p1, x.block < W.heap.size := by obtain ⟨m, hm⟩ := k1; exact DataW.trod_lt m _ _ _ hm
  obtain ⟨a1, rfl, _, _, w1⟩ := open_int Tryz.underlying3 (hval 1 3 v1 rfl rfl) h1
  have k2 := h2
  have lt2 : ∀ x ∈ p2, x.block < W.heap.size := by obtain ⟨m, hm⟩ := k2; exact DataW.trod_lt m _ _ _ hm
  obtain ⟨a2, rfl, _, _, w2⟩ := open_int Tryz.underlying3 (hval 2 3 v2 rfl rfl) h2
  have k3 := h3
  have lt3 : ∀ x ∈ p3, x.block < W.heap.size := by obtain ⟨m, hm⟩ := k3; exact DataW.trod_lt m _ _ _ hm
  obtain ⟨a3, rfl, _, _, w3⟩ := open_int Tryz.underlying3 (hval 3 3 v3 rfl rfl) h3
  clear hA0 hval0
  refine (walk a0 c0 n0 a1 a2 a3 W w0 lc0 mc0 w1 w2 w3).mono fun e W' ⟨he, bel⟩ => ?_
  subst he
  exact ⟨_, rfl, _, _, _, [], _, [], hW', trodAll_mk1 (shut_bool Tryz.underlying4 _), (trodAll_cons_mk (Below.trod laidOut (by kernel_rfl) (of_decide_eq_true (by kernel_rfl)) k0 bel lt0) (trodAll_cons_mk (Below.trod laidOut (by kernel_rfl) (of_decide_eq_true (by kernel_rfl)) k1 bel lt1) (trodAll_cons_mk (Below.trod laidOut (by kernel_rfl) (of_decide_eq_true (by kernel_rfl)) k2 bel lt2) (trodAll_cons_mk (Below.trod laidOut (by kernel_rfl) (of_decide_eq_true (by kernel_rfl)) k3 bel lt3) trodAll_mk0)))), rfl, bel.frame _, fun h => by cases h⟩

/-- THE STATEMENT. -/
theorem holds : Rows.LedgerCommitsSaid :=
  OpenClaim.holds_of_wide 9 Tryz.f9 rfl rfl rfl rfl rfl rfl rfl ⟨rfl, rfl, rfl, rfl, rfl⟩ rfl rfl rfl rfl rfl (by kernel_rfl) Tryz.func9 (by kernel_rfl)
    (of_decide_eq_true (by kernel_rfl)) (by unfold Func.isWrapper; first | (rw [if_pos (by decide +kernel)]; kernel_rfl) | (rw [if_neg (by decide +kernel)]; exact ⟨rfl, rfl⟩))
    (fun os started H enc _ => lifted os started H enc)
end Go.Proofs.YtbcldamfekejgaaGreat.ledgerCommits
