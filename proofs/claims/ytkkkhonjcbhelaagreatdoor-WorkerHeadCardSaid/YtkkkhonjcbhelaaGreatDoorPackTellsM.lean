import Derived.Test.YtkkkhonjcbhelaaGreatDoorPackR
namespace Go.Proofs.YtkkkhonjcbhelaaGreatDoor
open Go.RowKit
open PK
set_option maxRecDepth 100000 in
set_option maxHeartbeats 2000000 in
theorem reffits_bad (g c mn mx n d : Int) (m : Nat) (k : Int) (w : World) (hw : Shp.Wf ⟨g, c, mn, mx⟩) (hok : Shp.ok ⟨g, c, mn, mx⟩ = false) :
  Calls Tryz.prog 29 #[.agg #[.int .i64 g, .int .i64 c, .int .i64 mn, .int .i64 mx], .agg #[.int .i64 n, .int .i64 d, .int .u64 (m : Nat), .int .i64 k]] w fun e w' => e = .returned (.int .i64 0) ∧ Below w.heap.size w w' := by
 have hR := Hq (fun W => refright_any g c mn mx W hw);rw [hok] at hR;obtain ⟨W2, hW2⟩ := nx ((w.alloc (.cells #[.int .i64 g, .int .i64 c, .int .i64 mn, .int .i64 mx] 32)).alloc (.cells #[.int .i64 n, .int .i64 d, .int .u64 (m : Nat), .int .i64 k] 63));have hBW2 : Below w.heap.size w W2 := by rw [hW2]; exact (((Below.refl w.heap.size w).alloc (Nat.le_refl _) _).alloc (by simp <;> omega) _)
 have hzW2 : w.heap.size ≤ W2.heap.size := by rw [hW2]; simp; omega
 have HB := Hq hBW2;have HW2 := Hq hW2;clear hw hok hW2 hBW2;go_enter Tryz.func29, Tryz.ntmps29;go_wp2_with fail;rw [← HW2.out];refine (hR.out _).mono ?_;rintro e w1 ⟨rfl, hb1⟩;have HB1 := Hq (HB.out.trans (hb1.mono hzW2));clear hb1 HB HW2 hR;go_wp2
 go_ret
 exact ⟨rfl, HB1.out⟩
theorem reffit_all (S : Shp) (f : Fe) (w : World) (hw : S.Wf) (hf : FeOk f) (h0 : 0 ≤ f.c) (hT : Tab w) : Calls Tryz.prog 29 #[shV S, feV f] w fun e w' => e = .returned (.int .i64 (fitF S f : Nat)) ∧ Below w.heap.size w w' := by
 obtain ⟨g, c, mn, mx⟩ := S;obtain ⟨n, d, m, q⟩ := f
 cases hok : Shp.ok ⟨g, c, mn, mx⟩
 ·have e : fitF ⟨g, c, mn, mx⟩ ⟨n, d, m, q⟩ = 0 := by unfold fitF; rw [hok]; rfl
  rw [e];exact reffits_bad g c mn mx n d m q w hw hok
 ·obtain ⟨g', c', rfl, rfl, _⟩ := Shp.nat hok;obtain ⟨k, rfl⟩ : ∃ k : Nat, q = k := ⟨q.toNat, by simp only at h0; omega⟩
  obtain ⟨_, b2⟩ := bounds_i64 hf.c;have h9 := reffits_ok g' c' mn mx n d m k w hw hok hf.m hT (by simp only at b2; omega);have e : fitF ⟨(g' : Int), (c' : Int), mn, mx⟩ ⟨n, d, m, (k : Int)⟩ = fitN g' c' (MM.cnt m) k := by
   unfold fitF;rw [if_pos hok];unfold fitZ;rw [if_neg (by simp only; omega)];rfl
  rw [e];exact h9
theorem sumF_next {S : Shp} {l : List Fe} {k : Nat} {f : Fe} (h : l[k]? = some f) : roomF S (l.take (k + 1)) = roomF S (l.take k) + fitF S f := by
 unfold roomF; rw [fitsL_next h, List.sum_append]; simp
set_option maxRecDepth 100000 in
set_option maxHeartbeats 4000000 in
theorem refroom_any (A : Option Addr) (cap B : Nat) (l : List Fe) (S : Shp) (w : World) (h : Fes w B A l) (hB : B ≤ w.heap.size) (hn : l.length ≤ 500000) (hw : S.Wf) (hf : ∀ f ∈ l, FeOk f ∧ 0 ≤ f.c) (hT : Tab w) :
  Calls Tryz.prog 19 #[.slice A l.length cap, shV S] w fun e w' => e = .returned (.int .i64 (roomF S l : Nat)) ∧ Below w.heap.size w w' := by
 obtain ⟨n, hln⟩ : ∃ n, l.length = n := ⟨_, rfl⟩
 have hRf := Hq (fun (f : Fe) W (hfo : FeOk f) (h0 : 0 ≤ f.c) (hT : Tab W) => show Calls Tryz.prog 29 #[.agg #[.int .i64 S.g, .int .i64 S.c, .int .i64 S.mn, .int .i64 S.mx], .agg #[.int .i64 f.n, .int .i64 f.d, .int .u64 (f.m : Nat), .int .i64 f.c]] W (fun e w' => e = .returned (.int .i64 (fitF S f : Nat)) ∧ Below W.heap.size W w') from reffit_all S f W hw hfo h0 hT);have H := Hq (Ai h (Ai hln (Ai hf hT)));have HT := Hq hT;rw [hln] at hn ⊢;unfold shV;clear h hln hf hw hT;have HBel := Hq (Below.refl w.heap.size w);have hlow : w.heap.size ≤ w.heap.size := Nat.le_refl _;go_enter Tryz.func19, Tryz.ntmps19;go_wp2_with fail;obtain ⟨V1, hV1⟩ := nx (w.alloc (.cells #[.int .i64 S.g, .int .i64 S.c, .int .i64 S.mn, .int .i64 S.mx] 32));rw [← hV1];have hzV1 := sz1 hV1;replace HBel := be1 hV1 HBel hlow;have B_s := Hq (new10 hV1);obtain ⟨N_s, hN_s⟩ := nx (w.heap.size);(try rw [← hN_s]);rw [← hN_s] at B_s;have l_s : N_s < V1.heap.size := by omega
 have g_s : w.heap.size ≤ N_s := by omega
 replace hlow : w.heap.size ≤ V1.heap.size := by omega
 clear hV1 hzV1 hN_s;go_loopw [5, 6] (fun s i wr => ∃ (k q : Nat), s = .int .i64 q ∧ i = .int .i64 k ∧ k ≤ n ∧ Hid (q = roomF S (l.take k)) ∧ Hid (Below V1.heap.size V1 wr)) (fun _ i _ => n - (intOf i).toNat)
 case atStart => exact ⟨0, 0, rfl, rfl, Nat.zero_le _, Hq rfl, Hq (Below.refl _ _)⟩
 case round =>
  obtain ⟨k, q, rfl, rfl, hk, hq, hBe⟩ := hrel;have hBs := hBe.out.size;have bs := (hBe.out.block _ l_s).trans B_s.out;have hBw := Hq (HBel.out.trans (hBe.out.mono hlow));have hws : w.heap.size ≤ wr.heap.size := by omega
  by_cases hlt : k < n
  ·obtain ⟨f, hx⟩ := get_lt (l := l) (k := k) (by rw [H.out.2.1]; exact hlt);obtain ⟨b, off, rfl, hb, hc⟩ := H.out.1.at_ hx;obtain ⟨hfo, hf0⟩ := H.out.2.2.1 f (List.mem_of_getElem? hx);obtain ⟨f0, f1, f2, f3⟩ := (hc k f hx).keep (B := w.heap.size) (by omega) hBw.out;have s0 := cell_blk (i := 0) bs rfl;have s1 := cell_blk (i := 1) bs rfl;have s2 := cell_blk (i := 2) bs rfl;have s3 := cell_blk (i := 3) bs rfl;have hnx := sumF_next (S := S) hx;have hCall := fun W hT => hRf.out f W hfo hf0 hT
   have hv16 := fitF_le S f;obtain ⟨v, hv⟩ := nx (fitF S f);rw [← hv] at hnx hCall hv16;have hqb : q ≤ 16 * k := by
    have := roomF_le S (l.take k);rw [List.length_take] at this;rw [hq.out]; omega
   have hCall := Hq hCall;have HN := Hq hnx;have t1 : decide (k < n) = true := decide_eq_true hlt;have j0 : (0 : Int) ≤ (k : Int) := (by omega);have j1 : (k : Int) < (n : Int) := (by omega);have hbx : b < wr.heap.size := (by omega);clear hx hc hfo hf0 hnx hv bs;go_wp2_with fail;refine held_begin (fun w' : World => w'.cell? ⟨N_s, 0, none⟩ = some (.int .i64 S.g) ∧ w'.cell? ⟨N_s, 1, none⟩ = some (.int .i64 S.c) ∧ w'.cell? ⟨N_s, 2, none⟩ = some (.int .i64 S.mn) ∧ w'.cell? ⟨N_s, 3, none⟩ = some (.int .i64 S.mx) ∧ w'.cell? ⟨b, off + k * 4, none⟩ = some (.int .i64 f.n) ∧ w'.cell? ⟨b, off + k * 4 + 1, none⟩ = some (.int .i64 f.d) ∧ w'.cell? ⟨b, off + k * 4 + 2, none⟩ = some (.int .u64 (f.m : Nat)) ∧ w'.cell? ⟨b, off + k * 4 + 3, none⟩ = some (.int .i64 f.c)) (by kernel_rfl) ?_;have hBh0 : Below wr.heap.size wr wr.drew := (Below.refl _ _).drew;have hSh0 : (fun w' : World => w'.cell? ⟨N_s, 0, none⟩ = some (.int .i64 S.g) ∧ w'.cell? ⟨N_s, 1, none⟩ = some (.int .i64 S.c) ∧ w'.cell? ⟨N_s, 2, none⟩ = some (.int .i64 S.mn) ∧ w'.cell? ⟨N_s, 3, none⟩ = some (.int .i64 S.mx) ∧ w'.cell? ⟨b, off + k * 4, none⟩ = some (.int .i64 f.n) ∧ w'.cell? ⟨b, off + k * 4 + 1, none⟩ = some (.int .i64 f.d) ∧ w'.cell? ⟨b, off + k * 4 + 2, none⟩ = some (.int .u64 (f.m : Nat)) ∧ w'.cell? ⟨b, off + k * 4 + 3, none⟩ = some (.int .i64 f.c)) wr.drew := ⟨s0, s1, s2, s3, f0, f1, f2, f3⟩
   generalize wr.drew = Dw at hBh0 hSh0 ⊢;refine tkA 0 13 hSh0 ?_;refine tkA 1 14 hSh0 ?_;refine tkA 2 15 hSh0 ?_;refine tkA 3 16 hSh0 ?_;refine tkA 4 17 hSh0 ?_;refine tkA 5 18 hSh0 ?_;refine held_one 6 rfl (by kernel_rfl) (by rfl) (fun K hK => ?_);go_simp
   go_at_call 29
   refine (hCall.out Dw (HT.out.below (hBw.out.trans (hBh0.mono hws)) HT.out.size)).mono ?_;rintro e wh1 ⟨rfl, hbh1⟩;have hBh1 : Below wr.heap.size wr wh1 := below_step hBh0 hbh1;have hSh1 := Ai (ck hBh1 s0) (Ai (ck hBh1 s1) (Ai (ck hBh1 s2) (Ai (ck hBh1 s3) (Ai (ck hBh1 f0) (Ai (ck hBh1 f1) (Ai (ck hBh1 f2) (ck hBh1 f3)))))));refine hK.out _ _ hSh1 ?_;clear hK K;refine tkA 7 20 hSh1 ?_;refine tkA 8 5 hSh1 ?_;refine wpAnyH_done (by kernel_rfl) ?_ _;go_wp2
   go_roundw
   case rel => exact ⟨k + 1, q + v, by first | go_num | (rw [IntWalk.i64_in _ (by omega)]; simp), by go_num, by omega, Hq (by rw [HN.out, hq.out]), Hq (hBe.out.trans (hBh1.mono hBs))⟩
   case measure => simp [intOf]; omega
  ·obtain rfl : k = n := by omega
   have t1 : decide (k < k) = false := (by simp);have HR := Hq (show q = roomF S l by have h9 := hq.out; rw [List.take_of_length_le (by rw [H.out.2.1]; omega)] at h9; exact h9);clear hq hBe bs;go_wp2
   go_ret
   have hR9 := HR.out;subst hR9;exact ⟨rfl, hBw.out⟩
end Go.Proofs.YtkkkhonjcbhelaaGreatDoor
