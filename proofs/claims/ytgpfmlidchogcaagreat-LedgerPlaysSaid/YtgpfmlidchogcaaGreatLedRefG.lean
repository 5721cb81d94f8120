/- The document's ledger: slots are given; a hold goes. -/
import Derived.Deep.RegionHeld3
import Derived.Test.YtgpfmlidchogcaaGreatLedRefF
set_option maxRecDepth 100000
set_option linter.unusedVariables false
namespace Go.Proofs.YtgpfmlidchogcaaGreat
open Go.RowKit
section
variable {w : World} {r q al tk db ra a b c : Nat} {A : Option Addr} {L : List Hs} {fs : List Fr} {st : LS}
set_option maxHeartbeats 4000000 in
theorem rgive_l (qu : Int) (A' : Option Addr) (c' : Nat) (sl : List PM.Sl) (h : RLAt w r q al tk db ra a b A c L fs st) (hl : Slots w w.heap.size A' sl) (hI : ∀ s ∈ sl, SlIn s) (hn : sl.length ≤ 16)
  (hA : sl ≠ [] → Off A' (fun i => i ∈ [r, q, al, tk, db, ra, a, b])) :
  Calls Tryz.prog 77 #[.pointer (some ⟨r, 0, none⟩), .int .i64 qu, .slice A' sl.length c'] w fun e w' => e = .returned (.tuple #[]) ∧ RLNext w w' r q al tk db ra a b A c L fs (LM.give fs st qu sl) := by
 obtain ⟨ca, ct, cd, hp⟩ := h.pool
 obtain ⟨ca', cb', hac⟩ := h.acc
 obtain ⟨l1, l2, l3, l4, l5, l6, l7, l8⟩ := h.lts
 have hn8 := h.ne
 simp only [List.nodup_cons, List.mem_cons, not_or, List.not_mem_nil, not_false_eq_true, List.nodup_nil, and_true] at hn8
 obtain ⟨⟨n1, n2, n3, n4, n5, n6, n7⟩, ⟨m1, m2, m3, m4, m5, m6⟩, ⟨p1, p2, p3, p4, p5⟩, ⟨o1, o2, o3, o4⟩, ⟨s1, s2, s3⟩, ⟨u1, u2⟩, v1⟩ := hn8
 obtain ⟨c0, c1, _, _⟩ := h.own
 obtain ⟨m, hm⟩ : ∃ m, m = sl.length := ⟨_, rfl⟩
 obtain ⟨E, ts2, hE⟩ : ∃ E ts2, PM.whole fs st.dr true sl st.ts = (E, ts2) := ⟨_, _, rfl⟩
 have hOt : sl ≠ [] → Off A' (· = tk) := fun hne g o e hg => hA hne g o e (by rw [hg]; simp)
 have hOq : sl ≠ [] → Off A' (fun i => i = q ∨ i = tk) := fun hne g o e hg => hA hne g o e (by rcases hg with rfl | rfl <;> simp)
 have HOb := Lib.hid (show sl ≠ [] → Off A' (· = b) from fun hne g o e hg => hA hne g o e (by rw [hg]; simp))
 have HDo := Lib.hid (show Calls Tryz.prog 111 #[.pointer (some ⟨q, 0, none⟩), .bool true, .slice A' m c'] w (fun e w' => e = .returned (.int .i64 E) ∧ ∃ tk' ct', RefAt w' q al tk' db ca ct' cd fs ts2 st.dr ∧ Foot (fun i => i = q ∨ i = tk) w w' ∧ (tk' = tk ∨ w.heap.size ≤ tk')) from by
  have h9 := refdo_any true q al tk db ca ct cd fs st.ts st.dr A' c' sl w hp (fun s hs => (hI s hs).ok) hl hOt (by unfold maxLen; omega)
  rw [hE, ← hm] at h9
  exact h9)
 have HX := Lib.hid (And.intro h (And.intro hl (And.intro hOq (And.intro hE (And.intro hm hac)))))
 have HRa := Lib.hid (show ∀ i, (i = ra ∨ i = a ∨ i = b) → i ≠ r from fun i e => by
  rcases e with rfl | rfl | rfl
  ·exact fun e => n5 e.symm
  ·exact fun e => n6 e.symm
  ·exact fun e => n7 e.symm)
 have HN := Lib.hid (And.intro (And.intro n1 (And.intro n2 (And.intro n3 n4))) (And.intro (And.intro m4 (And.intro m5 m6)) (And.intro (And.intro o2 (And.intro o3 o4)) (And.intro p5 (And.intro n7 (And.intro m1 (And.intro p1 (And.intro s3 (And.intro m3 o1)))))))))
 have hrq : ¬ (r = q ∨ r = tk) := fun e => e.elim n1 n3
 have hrb : ¬ (r = b) := n7
 clear n1 n2 n3 n4 n5 n6 n7 m1 m2 m3 m4 m5 m6 p1 p2 p3 p4 p5 o1 o2 o3 o4 s1 s2 s3 u1 u2 v1
 have hGv : LM.give fs st qu sl = { st with ts := ts2, qs := (qSub st.qs qu (LM.units sl)).2 } := by unfold LM.give; rw [hE]
 have hsl := qSub_len st.qs qu (LM.units sl)
 obtain ⟨Qe, qs2, hQ⟩ : ∃ Qe qs2, qSub st.qs qu (LM.units sl) = (Qe, qs2) := ⟨_, _, rfl⟩
 rw [hQ] at hGv hsl
 rw [hGv]
 have HQ := Lib.hid (And.intro hQ hsl)
 rw [← hm]
 clear hl hA hm hp hac hOt hOq hE hGv hQ hsl
 go_enter Tryz.func77, Tryz.ntmps77
 go_wp2_with fail
 refine HDo.out.mono ?_
 rintro e w2 ⟨rfl, tk2, ct2, hp2, hf2, hy2⟩
 have hs2 := hf2.size
 have HP2 := Lib.hid hp2
 have HF2 := Lib.hid hf2
 have HF0 := Lib.hid (hf2.mono (F' := fun i => i = r ∨ i = q ∨ i = tk ∨ i = db ∨ i = b) fun i hi => by rcases hi with rfl | rfl <;> simp)
 have hr2 : w2.heap[r]? = some (.cells #[.pointer (some ⟨q, 0, none⟩), .pointer (some ⟨ra, 0, none⟩), .slice A L.length c, .int .i64 (st.ver : Nat)] 85 (0, 0)) :=
  (hf2.block r (by omega) hrq).trans HX.out.1.blk
 have HR2 := Lib.hid hr2
 have HA2 := Lib.hid (HX.out.2.2.2.2.2.foot HF2.out fun i hi => by
  rcases hi with rfl | rfl
  ·exact HN.out.2.1
  ·exact HN.out.2.2.1)
 clear hp2 hf2 HDo c0 c1
 have hmy := LM.units_may hI hn
 have hun := units_un hI hn
 have hl2 : Slots w2 w2.heap.size A' sl := Slots.foot HX.out.2.1 HF2.out HX.out.2.2.1
 have HU := Lib.hid (fun W (hW : Foot (· = b) w2 W) => show Calls Tryz.prog 113 #[.slice A' m c'] W (fun e w' => e = .returned (unV (LM.units sl)) ∧ Below W.heap.size W w') from by
  rw [HX.out.2.2.2.2.1]
  exact refunits8_any A' c' sl W (Slots.foot hl2 hW HOb.out) hI hn)
 have HSb := Lib.hid (fun W (hW : RQAt W ra a b ca' cb' st.qs) => show Calls Tryz.prog 114 #[.pointer (some ⟨ra, 0, none⟩), .int .i64 qu, unV (LM.units sl)] W (fun e w' => e = .returned (.int .i64 Qe) ∧ RQAt w' ra a b ca' cb' qs2 ∧ Foot (· = b) W w') from by
  have h9 := rsub_q ra a b ca' cb' st.qs qu (LM.units sl) W hW hun
  rw [HQ.out.1] at h9; exact h9)
 have c1 : w2.cell? ⟨r, 1, none⟩ = some (.pointer (some ⟨ra, 0, none⟩)) := cell_blk (i := 1) hr2 rfl
 unfold unV at HU HSb
 clear hr2 hmy hun hl2
 go_wp2_with fail
 refine held_begin (fun w' : World => w'.cell? ⟨r, 1, none⟩ = some (.pointer (some ⟨ra, 0, none⟩))) (by kernel_rfl) ?_
 have hBh0 : Foot (· = b) w2 w2.drew := (Foot.refl _ _).drew
 have hSh0 : (fun w' : World => w'.cell? ⟨r, 1, none⟩ = some (.pointer (some ⟨ra, 0, none⟩))) w2.drew := c1
 refine held_takeK (v := ?_) 0 12 rfl rfl ⟨by rfl, ?_⟩ hSh0 ?_
 rotate_left
 ·intro w' hw'; obtain x0 := hw'; go_simp; (try with_reducible rfl)
 simp only [Act.put, pzA, pzB, pzC]
 refine held_takeK (v := ?_) 1 13 rfl rfl ⟨by rfl, ?_⟩ hSh0 ?_
 rotate_left
 ·intro w' hw'; obtain x0 := hw'; go_simp; (try with_reducible rfl)
 simp only [Act.put, pzA, pzB, pzC]
 refine held_takeK (v := ?_) 2 14 rfl rfl ⟨by rfl, ?_⟩ hSh0 ?_
 rotate_left
 ·intro w' hw'; obtain x0 := hw'; go_simp; (try with_reducible rfl)
 simp only [Act.put, pzA, pzB, pzC]
 refine held_takeK (v := ?_) 3 15 rfl rfl ⟨by rfl, ?_⟩ hSh0 ?_
 rotate_left
 ·intro w' hw'; obtain x0 := hw'; go_simp; (try with_reducible rfl)
 simp only [Act.put, pzA, pzB, pzC]
 refine held_takeK (v := ?_) 4 16 rfl rfl ⟨by rfl, ?_⟩ hSh0 ?_
 rotate_left
 ·intro w' hw'; obtain x0 := hw'; go_simp; (try with_reducible rfl)
 simp only [Act.put, pzA, pzB, pzC]
 refine held_takeK (v := ?_) 5 17 rfl rfl ⟨by rfl, ?_⟩ hSh0 ?_
 rotate_left
 ·intro w' hw'; obtain x0 := hw'; go_simp; (try with_reducible rfl)
 simp only [Act.put, pzA, pzB, pzC]
 refine held_one 6 rfl (by kernel_rfl) (by rfl) (fun K hK => ?_)
 go_simp
 go_at_call 113
 refine (HU.out w2.drew hBh0).mono ?_
 rintro e wh1 ⟨rfl, hbh1⟩
 have hBh1 : Foot (· = b) w2 wh1 := hBh0.trans (Foot.of_below (F := fun _ => False) hbh1) (fun i hi => hi.elim)
 have hSh1 : (fun w' : World => w'.cell? ⟨r, 1, none⟩ = some (.pointer (some ⟨ra, 0, none⟩))) wh1 := (hBh1.cell (p := ⟨r, 1, none⟩) (show r < w2.heap.size by omega) (hrb)).trans c1
 have HAc := Lib.hid ((HA2.out.keep (Below.refl _ _).drew).keep hbh1)
 refine hK.out _ _ hSh1 ?_
 clear hK K
 refine held_one 7 rfl (by kernel_rfl) (by rfl) (fun K hK => ?_)
 go_simp
 go_at_call 114
 refine (HSb.out wh1 HAc.out).mono ?_
 rintro e wh2 ⟨rfl, hacc, hbh2⟩
 have hBh2 : Foot (· = b) w2 wh2 := hBh1.trans hbh2 (fun i hi => .inl hi)
 have hSh2 : (fun w' : World => w'.cell? ⟨r, 1, none⟩ = some (.pointer (some ⟨ra, 0, none⟩))) wh2 := (hBh2.cell (p := ⟨r, 1, none⟩) (show r < w2.heap.size by omega) (hrb)).trans c1
 have HACC := Lib.hid hacc
 clear hacc
 refine hK.out _ _ hSh2 ?_
 clear hK K
 refine wpAnyH_done (by kernel_rfl) ?_ _
 have HF5 := Lib.hid (HF0.out.trans hBh2 fun i hi => .inl (by rw [hi]; simp))
 have hF5 := Lib.hid (hBh2)
 have hs5 := hF5.out.size
 have hr5 : wh2.heap[r]? = some (.cells #[.pointer (some ⟨q, 0, none⟩), .pointer (some ⟨ra, 0, none⟩), .slice A L.length c, .int .i64 (st.ver : Nat)] 85 (0, 0)) := (hF5.out.block r (by omega) hrb).trans HR2.out
 have HR5 := Lib.hid hr5
 clear hSh0 hSh1 hSh2 hBh0 hBh1 hBh2 c1 HA2 HAc HU HSb hbh1 hbh2 hr5
 (first | go_end0 | (go_wp2; go_end0))
 refine ⟨rfl, q, tk2, db, ?_, HF5.out, .inl rfl, hy2, .inl rfl⟩
 have hRc : RefAt wh2 q al tk2 db ca ct2 cd fs ts2 st.dr := HP2.out.off fun i hi e => hF5.out.block i hi (by
  rcases e with rfl | rfl | rfl | rfl
  ·exact HN.out.2.1.2.2
  ·exact HN.out.2.2.2.1
  ·rcases hy2 with rfl | hy2
   ·exact HN.out.2.2.1.2.2
   ·show ¬ (_ = b); omega
  ·exact HN.out.2.2.2.2.2.2.2.1)
 exact HX.out.1.pooled HF5.out HR5.out ⟨ca, ct2, cd, hRc⟩ ⟨ca', cb', HACC.out⟩ (fun x hx => by rw [hasQ_len HQ.out.2]; exact HX.out.1.ok.q x hx) (.inl rfl) hy2 (.inl rfl)
end
end Go.Proofs.YtgpfmlidchogcaaGreat
