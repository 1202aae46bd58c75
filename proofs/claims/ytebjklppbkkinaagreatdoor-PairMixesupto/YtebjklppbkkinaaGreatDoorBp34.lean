/- A bundle of texts. -/
import Derived.Test.YtebjklppbkkinaaGreatDoorBp29
import Derived.Deep.RegionWith
import Derived.BigRegion
import Derived.Test.YtebjklppbkkinaaGreatDoorBp32
import Derived.Test.YtebjklppbkkinaaGreatDoorBp33
/- Pair: Negate. -/
namespace Go.Proofs.YtebjklppbkkinaaGreatDoor
open Go.RowKit Go.Lib Go.Shelf Go.Sort

attribute [local go_sem] Oper.semAt_some run_store_float

def ngC (e : Co) : Option Kc := some (drN e.2.1, F.cl (Op.negFloat .f64 e.2.2))
/-- The first i elements negated in place. -/
structure NI (S N g c : Nat) (r : Nat → El) (w1 : World) (i : Nat) (qr : Nat → El) (W : World) : Prop where
  row : W.ownsRow S 31 2 (.slice (some ⟨g, 0, none⟩) N c) N (fl e2 (elL qr N))
  done : ∀ m, m < i → m < N → Lm W (qr m).a (qr m).f (qr m).n ∧ (qr m).n ≤ 4294967296 ∧ (∀ b, (Value.slice (qr m).a (qr m).n (qr m).c).ownBlock = some b → (Value.slice (r m).a (r m).n (r m).c).ownBlock = some b) ∧ some (kc (qr m)) = ngC (core (r m))
  left : ∀ m, i ≤ m → m < N → qr m = r m ∧ Ow W S (r m)
  kp : Kp (fun b => b = g ∨ ∃ t, t < N ∧ (Value.slice (r t).a (r t).n (r t).c).ownBlock = some b) w1 W
theorem NI.step {S N g c i a9 : Nat} {r qr : Nat → El} {w1 W W1 W2 : World} {x : El} (h : NI S N g c r w1 i qr W) (hi : i < N) (b1 : Below W.heap.size W W1)
    (hap : ∀ s t, s < N → t < N → s ≠ t → Ap (r s) (r t)) (hg : ∀ t, t < N → (Value.slice (r t).a (r t).n (r t).c).ownBlock ≠ some g)
    (k2 : Kp (fun b => (Value.slice (r i).a (r i).n (r i).c).ownBlock = some b) W1 W2) (hx : K.Ir W2 S (.slice x.a x.n x.c) x.n x.f) (hn : x.n ≤ 4294967296) (hxb : ∀ b, (Value.slice x.a x.n x.c).ownBlock = some b → (Value.slice (r i).a (r i).n (r i).c).ownBlock = some b)
    (hm : some (kc x) = ngC (core (r i))) (_ : a9 = 0) :
    NI S N g c r w1 (i + 1) (up qr i x) ((W2.setCell ⟨g, i * 2, none⟩ (.slice x.a x.n x.c)).setCell ⟨g, i * 2 + 1, none⟩ (.float .f64 x.x)) := by
  have hbl : ∀ {a : Option Addr} {n c b : Nat} {o : Nat}, a = some ⟨b, o, none⟩ → (Value.slice a n c).ownBlock = some b := fun e => by rw [e]; rfl
  have k3 : Kp (fun b => b = g) W2 ((W2.setCell ⟨g, i * 2, none⟩ (.slice x.a x.n x.c)).setCell ⟨g, i * 2 + 1, none⟩ (.float .f64 x.x)) := Kp.setCell (M := fun b => b = g) (p := ⟨g, i * 2 + 1, none⟩) (Kp.setCell (M := fun b => b = g) (p := ⟨g, i * 2, none⟩) (Kp.refl _ _) rfl _) rfl _
  refine ⟨?_, fun m hm1 hm2 => ?_, fun m h1 h2 => ?_, ?_⟩
  · have r2 := k2.row (kept_row h.row b1) (fun b hb h1 => by
      obtain rfl : g = b := Option.some.inj hb
      exact hg i hi h1)
    have s1 := (World.ownsRow.stored r2 (i * 2) (.slice x.a x.n x.c)).1
    have f1 := fl_put qr i 0 (.slice x.a x.n x.c) ⟨x.a, x.n, x.c, x.f, (qr i).x⟩ (by omega) rfl (fun k' h1 h2 => by
      obtain rfl : k' = 1 := by omega
      rfl) N hi
    rw [Nat.add_zero] at f1
    rw [f1] at s1
    have s2 := (World.ownsRow.stored s1 (i * 2 + 1) (.float .f64 x.x)).1
    have f2 := fl_put (up qr i ⟨x.a, x.n, x.c, x.f, (qr i).x⟩) i 1 (.float .f64 x.x) x (by omega) rfl (fun k' h1 h2 => by
      obtain rfl : k' = 0 := by omega
      rw [up_at]
      rfl) N hi
    rw [f2] at s2
    rw [fl_same (r := up (up qr i ⟨x.a, x.n, x.c, x.f, (qr i).x⟩) i x) fun m _ => by
      by_cases e : m = i
      · rw [e, up_at, up_at]
      · rw [up_ne _ _ _ _ e, up_ne _ _ _ _ e, up_ne _ _ _ _ e]]
    exact s2
  · by_cases e : m = i
    · rw [e, up_at]
      obtain ⟨a9, c9, e9, hl, _⟩ := hx.iml
      cases e9
      exact ⟨lm_kp hl k3 (fun b o e h1 => hg i hi (by rw [← h1]; exact hxb b (hbl e))), hn, hxb, hm⟩
    · rw [up_ne _ _ _ _ e]
      obtain ⟨h1, h2, h3, h4⟩ := h.done m (by omega) hm2
      exact ⟨lm_kp (lm_kp (lm_kp h1 (Kp.of (M := fun _ => False) b1) (fun _ _ _ h => h)) k2 (fun b o e1 h5 => hap m i hm2 hi e b (h3 b (hbl e1)) h5)) k3 (fun b o e1 h5 => hg m hm2 (by rw [← h5]; exact h3 b (hbl e1))), h2, h3, h4⟩
  · rw [up_ne _ _ _ _ (by omega)]
    obtain ⟨h3, h4⟩ := h.left m (by omega) h2
    exact ⟨h3, k3.row (k2.row (kept_row h4 b1) (fun b hb h5 => hap m i h2 hi (by omega) b hb h5)) (fun b hb h5 => hg m h2 (by rw [← h5]; exact hb))⟩
  · exact ((h.kp.trans (Kp.of b1)).trans' k2 (fun b _ h1 => .inr ⟨i, hi, h1⟩)).trans' k3 (fun b _ h1 => .inl h1)
theorem filterMap_some {α β : Type} (f : α → Option β) (g : α → β) : ∀ l : List α, (∀ x ∈ l, f x = some (g x)) → l.filterMap f = l.map g
  | [], _ => rfl
  | x :: l, h => by
    rw [List.filterMap_cons, h x (by simp), List.map_cons, filterMap_some f g l fun y hy => h y (by simp [hy])]
set_option maxRecDepth 100000 in
set_option maxHeartbeats 16000000 in
theorem negate_any (a : Option Addr) (n c : Nat) (q : Nat → El) (w : World) (kv : Calls Tryz.prog 18 #[.slice a n c] w (VR q n w)) (hn : n ≤ 1048576) (hq : ∀ j, j < n → (q j).n ≤ 1048576 ∧ (q j).x < 18446744073709551616) :
    Calls Tryz.prog 10 #[.slice a n c] w (AN (MX ((elL q n).map core) true ngC) w) := by
  have HQ : Hid (∀ j, j < n → (q j).n ≤ 1048576 ∧ (q j).x < 18446744073709551616) := hq
  clear hq
  go_enter Tryz.func10, Tryz.ntmps10
  go_wp2_with fail
  go_fit kv
  rintro e w1 hVR
  obtain ⟨v, E, N, r, rfl, b1, hVo, hCV⟩ := VR.cv hVR
  obtain ⟨aO, cO, rfl, _⟩ := K.row_sl hVo.1
  have HB1 : Hid (Below w.heap.size w w1) := b1
  have HCV : Hid (CV ((elL q n).map core) E ((elL r N).map core)) := hCV
  have hNn : N ≤ n := by
    have := hCV.len
    rw [List.length_map, List.length_map, elL_len, elL_len] at this
    exact this
  clear kv hVR b1
  rcases hCV with ⟨rfl, hnil, hbad⟩ | ⟨rfl, hok, hp, hs⟩
  · have HBAD : Hid (CV ((elL q n).map core) 5 []) := .inl ⟨rfl, rfl, hbad⟩
    clear hnil hbad hVo
    go_wp2
    go_ret2
    exact ⟨none, 0, 0, r, 5, rfl, HB1.out, .inl rfl, by omega, fun j hj => absurd hj (by omega), .inl ⟨HBAD.out, rfl, rfl⟩⟩
  · have HVo : Hid (Vo w.heap.size w1 (.slice aO N cO) N r) := hVo
    have HRQ : Hid (∀ j, j < N → (r j).n ≤ 1048576 ∧ (r j).x < 18446744073709551616) := (show ∀ j, _ → _ from fun j hj => by
      have hm : core (r j) ∈ (elL q n).map core := hp.subset (List.mem_map.2 ⟨r j, List.mem_of_getElem? (elL_get r N j hj), rfl⟩)
      obtain ⟨y, hy, e⟩ := List.mem_map.1 hm
      obtain ⟨i, hi, rfl⟩ := mem_elL.1 hy
      obtain ⟨e1, _, e3⟩ := core_eq e
      have := HQ.out i hi
      rw [← e1, ← e3]
      exact this)
    clear hok hp hs
    have hNi : (N : Int) ≤ 1048576 := by omega
    have HEND : Hid (∀ (qr : Nat → El) (wz : World), Below w.heap.size w wz → wz.ownsRow w.heap.size 31 2 (.slice aO N cO) N (fl e2 (elL qr N)) → (∀ m, m < N → Lm wz (qr m).a (qr m).f (qr m).n ∧ (qr m).n ≤ 4294967296 ∧ (∀ b o, (qr m).a = some ⟨b, o, none⟩ → (Value.slice aO N cO).ownBlock ≠ some b) ∧ some (kc (qr m)) = ngC (core (r m))) → Calls Tryz.prog 25 #[.slice aO N cO] wz fun e w9 => ∃ a' c' N' r' E', e = .returned (.tuple #[.slice a' N' c', .int .i64 E']) ∧ Below w.heap.size w w9 ∧ Em w9 a' r' N' ∧ N' ≤ 1099511627776 ∧ (∀ m, m < N' → Lm w9 (r' m).a (r' m).f (r' m).n ∧ (r' m).n ≤ 4294967296) ∧ DV (((elL r N).map core).filterMap ngC) E' ((elL r' N').map kc)) := (show ∀ (qr : Nat → El) (wz : World), _ → _ → _ → _ from fun qr wz hb hrow hlab => by
      refine (ordered_any w.heap.size N cO aO qr wz hrow (by omega) (fun m hm => ⟨(hlab m hm).1, (hlab m hm).2.1, fun b o e => (hlab m hm).2.2.1 b o e⟩)).mono fun e w9 hOR => ?_
      obtain ⟨a', c', N', r', E', rfl, kp9, hEm', hN', hmem, hDV⟩ := OR.dv hOR
      refine ⟨a', c', N', r', E', rfl, hb.trans (kp9.below hb.size fun b hb' h => by have := (own_bd hrow b h).1; omega), hEm', by omega, fun m hm => ?_, ?_⟩
      · obtain ⟨i', hi', e⟩ := hmem m hm
        rw [e]
        exact ⟨lm_kp (hlab i' hi').1 kp9 fun b o e h => (hlab i' hi').2.2.1 b o e h, (hlab i' hi').2.1⟩
      · have e1 : ((elL r N).map core).filterMap ngC = (elL qr N).map kc := by
          rw [filterMap_some ngC (fun e => (drN e.2.1, F.cl (Op.negFloat .f64 e.2.2))) _ (fun x _ => rfl)]
          simp only [elL, List.map_map]
          apply List.map_congr_left
          intro m hm
          have := (hlab m (List.mem_range.1 hm)).2.2.2
          exact (Option.some.inj this).symm
        rw [e1]
        exact hDV)
    rcases Nat.eq_zero_or_pos N with hz | hpos
    · subst hz
      have kO := HEND.out r w1 HB1.out hVo.1 (fun m hm => absurd hm (by omega))
      clear hVo HEND
      go_wp2_with fail
      go_loopw [18] (fun t W => t = .int .i64 0 ∧ W = w1) (fun _ _ => 0)
      case atStart => exact ⟨rfl, rfl⟩
      case round =>
        obtain ⟨rfl, rfl⟩ := hrel
        go_wp2_with fail
        go_fit kO
        rintro e w9 ⟨a', c', N', r', E', rfl, h1, h2, h3, h4, h5⟩
        have HF : Hid (_ ∧ _ ∧ _ ∧ _ ∧ _) := ⟨h1, h2, h3, h4, h5⟩
        clear kO h1 h2 h3 h4 h5
        go_wp2
        go_ret2
        exact ⟨a', c', N', r', E', rfl, HF.out.1, HF.out.2.1, HF.out.2.2.1, HF.out.2.2.2.1, .inr (.inr ⟨rfl, _, HCV.out, HF.out.2.2.2.2⟩)⟩
    · obtain ⟨g, hg9⟩ : ∃ g, aO = some ⟨g, 0, none⟩ := by
        rcases hVo.1.2 with ⟨_, e⟩ | ⟨g, cap, cur, e, _⟩
        · omega
        · cases e
          exact ⟨g, rfl⟩
      subst hg9
      have HI0 : Hid (NI w.heap.size N g cO r w1 0 r w1) := (show NI _ _ _ _ _ _ _ _ _ from ⟨hVo.1, fun m hm => absurd hm (by omega), fun m _ h2 => ⟨rfl, (hVo.2.1 m h2).1⟩, Kp.refl _ _⟩)
      clear hVo hpos
      go_wp2_with fail
      go_loopw [18] (fun t W => ∃ (i : Nat) (qr : Nat → El), t = .int .i64 (i : Int) ∧ i ≤ N ∧ Hid (NI w.heap.size N g cO r w1 i qr W)) (fun t _ => N - (RowKit.intOf t).toNat)
      case atStart => exact ⟨0, r, rfl, by omega, HI0⟩
      case round =>
        obtain ⟨i, qr, rfl, hi, HX⟩ := hrel
        have HBW : Hid (Below w.heap.size w wr) := HB1.out.trans (HX.out.kp.below HB1.out.size fun b hb h => by
          rcases h with h | ⟨t, ht, h⟩
          · have := (own_bd HX.out.row g rfl).1; omega
          · have := (own_bd (HVo.out.2.1 t ht).1 b h).1; omega)
        by_cases hlt : i < N
        · have hii : (i : Int) < N := by omega
          have i0 : (0 : Int) ≤ (i : Int) := by omega
          obtain ⟨g', o, e9, _, x0, x1⟩ := (elM_row HX.out.row).at i hlt
          cases e9
          obtain ⟨hqr, hOw⟩ := HX.out.left i (Nat.le_refl _) hlt
          rw [hqr] at x0 x1
          have HJ : Hid (i < N) := hlt
          have hrn := (HRQ.out i hlt).1
          have bA : Below wr.heap.size wr (wr.alloc (elX (r i))) := (Below.refl _ wr).alloc (Nat.le_refl _) _
          have hgne : ¬ g = wr.heap.size := fun e => by have := (own_bd HX.out.row g rfl).2; omega
          have HK26 : Hid (∀ W, Below (wr.alloc (elX (r i))).heap.size (wr.alloc (elX (r i))) W → Calls Tryz.prog 26 #[.slice (r i).a (r i).n (r i).c] W fun e w8 => ∃ a' m c', e = .returned (.slice a' m c') ∧ (∃ qr', NI w.heap.size N g cO r w1 (i + 1) qr' ((w8.setCell ⟨g, i * 2, none⟩ (.slice a' m c')).setCell ⟨g, i * 2 + 1, none⟩ (.float .f64 (Op.negFloat .f64 (r i).x)))) ∧ w8.cell? ⟨wr.heap.size, 0, none⟩ = some (.slice (r i).a (r i).n (r i).c) ∧ w8.cell? ⟨wr.heap.size, 1, none⟩ = some (.float .f64 (r i).x) ∧ w8.cell? ⟨g, i * 2, none⟩ = some (.slice (r i).a (r i).n (r i).c) ∧ w8.cell? ⟨g, i * 2 + 1, none⟩ = some (.float .f64 (r i).x) ∧ w8.frozen? ⟨g, i * 2, none⟩ = false ∧ w8.frozen? ⟨g, i * 2 + 1, none⟩ = false) := (show ∀ W, _ → _ from fun W b => by
            have bw : Below wr.heap.size wr W := bA.trans (b.mono (by simp))
            refine (nameless_any w.heap.size (r i).n (r i).c (r i).a (r i).f W (ow_ir.1 (kept_row hOw bw)) (by omega)).mono ?_
            rintro e w8 ⟨a', m, c', rfl, hm, hir, kp8, hb8⟩
            have hlab : ∀ b, (Value.slice (r i).a (r i).n (r i).c).ownBlock = some b → b < w1.heap.size := fun b h => (own_bd (HVo.out.2.1 i HJ.out).1 b h).2
            have hg1 := (own_bd HVo.out.1 g rfl).2
            have hw1 : w1.heap.size ≤ wr.heap.size := HX.out.kp.size
            have hng : ¬ (Value.slice (r i).a (r i).n (r i).c).ownBlock = some g := fun e => (HVo.out.2.1 i HJ.out).2 g rfl e
            have eh : (wr.alloc (elX (r i))).heap[wr.heap.size]? = some (elX (r i)) := heap_alloc_new wr _
            have hk8 : ¬ (Value.slice (r i).a (r i).n (r i).c).ownBlock = some wr.heap.size := fun e => by have := hlab _ e; omega
            have bs := kp8.block wr.heap.size (by have := b.size; simp at this; omega) hk8
            have gs := kp8.block g (by have := bw.size; omega) hng
            have row8 := kp8.row (kept_row HX.out.row bw) (fun b hb h => hng (by obtain rfl : g = b := Option.some.inj hb; exact h))
            refine ⟨a', m, c', rfl, ⟨_, HX.out.step (a9 := 0) (x := ⟨a', m, c', K.gL (dN (r i).f (r i).n), Op.negFloat .f64 (r i).x⟩) HJ.out bw (fun s t hs ht hne => HVo.out.ap s t hs ht hne) (fun t ht => (HVo.out.2.1 t ht).2 g rfl) kp8 hir (by show m ≤ _; have := dN_le (r i).f (r i).n; omega) hb8 ?_ rfl⟩, ?_, ?_, ?_, ?_, ?_⟩
            · unfold ngC kc core drN
              rw [hm]
              simp only [K.ll_gL]
              rfl
            · exact (World.cell?_of_block (a := ⟨wr.heap.size, 0, none⟩) bs).trans (bcell2 b (by unfold World.cell?; rw [eh]; rfl))
            · exact (World.cell?_of_block (a := ⟨wr.heap.size, 1, none⟩) bs).trans (bcell2 b (by unfold World.cell?; rw [eh]; rfl))
            · rw [Nat.zero_add] at x0
              exact (World.cell?_of_block (a := ⟨g, i * 2, none⟩) gs).trans (bcell2 bw x0)
            · rw [Nat.zero_add] at x1
              exact (World.cell?_of_block (a := ⟨g, i * 2 + 1, none⟩) gs).trans (bcell2 bw x1)
            · rcases row8.2 with ⟨e, _⟩ | ⟨G, _, cur, e, _, hh, _⟩
              · cases e
              · cases e
                simp [World.frozen?, hh])
          clear HX bA hOw hqr
          obtain ⟨⟨ea, en, ec, ef, ex⟩, hre⟩ : ∃ x, r i = x := ⟨_, rfl⟩
          unfold elX at HK26
          rw [hre] at x0 x1 HK26
          dsimp only at x0 x1 HK26
          rw [Nat.zero_add] at x0 x1
          clear hre hrn
          have bd : Below (wr.alloc (.cells #[.slice ea en ec, .float .f64 ex] 31)).heap.size (wr.alloc (.cells #[.slice ea en ec, .float .f64 ex] 31)) (wr.alloc (.cells #[.slice ea en ec, .float .f64 ex] 31)).drew := (Below.refl _ _).drew
          have hneg : ∀ W, (Op.unary UnOp.neg (.float .f64 ex)).run Tryz.prog W = .ok (.float .f64 (Op.negFloat .f64 ex)) W := fun W => rfl
          go_upto_region 7 with fail
          go_region_with (go_at_call 26; go_fit (HK26.out _ (by first | exact bd | exact Below.refl _ _)); rintro e w8 ⟨a', m, c', rfl, ⟨qr', hst⟩, z0, z1, z2, z3, z4, z5⟩; have HN : Hid (NI _ _ _ _ _ _ _ _ _) := hst; clear hst)
          all_goals go_wp2
          all_goals exact ⟨⟨i + 1, _, by go_num, by have := HJ.out; omega, HN⟩, by simp [RowKit.intOf]; have := HJ.out; omega⟩
        · obtain rfl : N = i := by omega
          have hii : ¬ (N : Int) < N := by omega
          have kO := HEND.out qr wr HBW.out HX.out.row (fun m hm => by
            obtain ⟨h1, h2, h3, h4⟩ := HX.out.done m hm hm
            exact ⟨h1, h2, fun b o e h => (HVo.out.2.1 m hm).2 b h (h3 b (by rw [e]; rfl)), h4⟩)
          clear HX HEND
          go_wp2_with fail
          go_fit kO
          rintro e w9 ⟨a', c', N', r', E', rfl, h1, h2, h3, h4, h5⟩
          have HF : Hid (_ ∧ _ ∧ _ ∧ _ ∧ _) := ⟨h1, h2, h3, h4, h5⟩
          clear kO h1 h2 h3 h4 h5
          go_wp2
          go_ret2
          exact ⟨a', c', N', r', E', rfl, HF.out.1, HF.out.2.1, HF.out.2.2.1, HF.out.2.2.2.1, .inr (.inr ⟨rfl, _, HCV.out, HF.out.2.2.2.2⟩)⟩
end Go.Proofs.YtebjklppbkkinaaGreatDoor
/- Pair: the law's element with a name; Copysign; one element's answer. -/
namespace Go.Proofs.YtebjklppbkkinaaGreatDoor
open Go.RowKit Go.Lib Go.Shelf Go.Sort

attribute [local go_sem] Oper.semAt_some run_store_float

def fUp (j : Nat) : Lb := if j = 0 then uL else aL
set_option maxRecDepth 100000 in
set_option maxHeartbeats 4000000 in
theorem elem_up (z : Nat) (w : World) : Calls Tryz.prog 9 #[.string ⟨#[117, 112]⟩, .string ⟨#[49]⟩, .float .f64 z] w fun e w' => ∃ g c, e = .returned (.agg #[.slice (some ⟨g, 0, none⟩) 2 c, .float .f64 z]) ∧ Below w.heap.size w w' ∧ Lm w' (some ⟨g, 0, none⟩) fUp 2 ∧ g < w'.heap.size := by
  obtain ⟨W1, hW1⟩ : ∃ W1, W1 = (w.alloc (.cells #[.slice none 0 0, .float .f64 0] 31)).alloc (.cells #[.slice none 0 0, .float .f64 z] 31) := ⟨_, rfl⟩
  have s0 : (w.alloc (.cells #[.slice none 0 0, .float .f64 0] 31)).heap.size = w.heap.size + 1 := by simp
  have s1 : W1.heap.size = w.heap.size + 2 := by rw [hW1]; simp
  have e1 : W1.heap[w.heap.size + 1]? = some (.cells #[.slice none 0 0, .float .f64 z] 31) := by rw [hW1, ← s0]; exact heap_alloc_new _ _
  have e0 : W1.heap[w.heap.size]? = some (.cells #[.slice none 0 0, .float .f64 0] 31) := by
    rw [hW1, ((Below.refl _ (w.alloc (.cells #[.slice none 0 0, .float .f64 0] 31))).alloc (Nat.le_refl _) _).block w.heap.size (by omega)]
    exact heap_alloc_new _ _
  have b1 : Below w.heap.size w W1 := by rw [hW1]; exact ((Below.refl _ w).alloc (Nat.le_refl _) _).alloc (by simp) _
  obtain ⟨g, c, w2, r2, o2, k2⟩ := K.ap_lb W1 (w.heap.size + 2) (.slice none 0 0) 0 [] uL (by omega) (by omega) (World.ownsRow_nil _ _ _ _)
  have hg := (own_bd o2 g rfl)
  have nb : ∀ b, ¬ (Value.slice none 0 0).ownBlock = some b := fun b h => by cases h
  have f1 := k2.block (w.heap.size + 1) (by omega) (nb _)
  have f0 := k2.block w.heap.size (by omega) (nb _)
  rw [e1] at f1
  rw [e0] at f0
  have c10 : w2.cell? ⟨w.heap.size + 1, 0, none⟩ = some (.slice none 0 0) := by unfold World.cell?; rw [f1]; rfl
  have c11 : w2.cell? ⟨w.heap.size + 1, 1, none⟩ = some (.float .f64 z) := by unfold World.cell?; rw [f1]; rfl
  have z10 : w2.frozen? ⟨w.heap.size + 1, 0, none⟩ = false := by simp [World.frozen?, f1]
  obtain ⟨W3, hW3⟩ : ∃ W3, W3 = w2.setCell ⟨w.heap.size + 1, 0, none⟩ (.slice (some ⟨g, 0, none⟩) 1 c) := ⟨_, rfl⟩
  have k3 : Kp (fun b => b = w.heap.size + 1) w2 W3 := by rw [hW3]; exact Kp.setCell (p := ⟨w.heap.size + 1, 0, none⟩) (Kp.refl (fun b => b = w.heap.size + 1) w2) rfl _
  have s3 : W3.heap.size = w2.heap.size := by rw [hW3]; simp
  have o3 : W3.ownsRow (w.heap.size + 2) 61 2 (.slice (some ⟨g, 0, none⟩) 1 c) 1 (l2 uL) := k3.row o2 (fun b hb h => by obtain rfl : g = b := Option.some.inj hb; omega)
  have d10 : W3.cell? ⟨w.heap.size + 1, 0, none⟩ = some (.slice (some ⟨g, 0, none⟩) 1 c) := by rw [hW3]; exact World.cell?_setCell_same (u := .slice none 0 0) _ _ _ c10
  have d11 : W3.cell? ⟨w.heap.size + 1, 1, none⟩ = some (.float .f64 z) := by rw [hW3, World.cell?_setCell_other _ _ _ _ (by intro e; cases e)]; exact c11
  have d00 : W3.heap[w.heap.size]? = some (.cells #[.slice none 0 0, .float .f64 0] 31) := by rw [k3.block w.heap.size (by have := k2.size; omega) (by omega)]; exact f0
  have y10 : W3.frozen? ⟨w.heap.size + 1, 0, none⟩ = false := by rw [hW3]; simp [z10]
  obtain ⟨g4, c4, w4, r4, o4, k4⟩ := K.ap_lb W3 (w.heap.size + 2) (.slice (some ⟨g, 0, none⟩) 1 c) 1 (l2 uL) aL (by have := k2.size; omega) (by omega) o3
  have hg4 := own_bd o4 g4 rfl
  have nb4 : ∀ b, b < w.heap.size + 2 → ¬ (Value.slice (some ⟨g, 0, none⟩) 1 c).ownBlock = some b := fun b hb h => by obtain rfl : g = b := Option.some.inj h; omega
  have k1s := k2.size
  have p1 := k4.block (w.heap.size + 1) (by omega) (nb4 _ (by omega))
  have p0 := k4.block w.heap.size (by omega) (nb4 _ (by omega))
  rw [d00] at p0
  have h10 : w4.cell? ⟨w.heap.size + 1, 0, none⟩ = some (.slice (some ⟨g, 0, none⟩) 1 c) := (World.cell?_of_block (a := ⟨w.heap.size + 1, 0, none⟩) p1).trans d10
  have h11 : w4.cell? ⟨w.heap.size + 1, 1, none⟩ = some (.float .f64 z) := (World.cell?_of_block (a := ⟨w.heap.size + 1, 1, none⟩) p1).trans d11
  have x10 : w4.frozen? ⟨w.heap.size + 1, 0, none⟩ = false := by
    have : w4.frozen? ⟨w.heap.size + 1, 0, none⟩ = W3.frozen? ⟨w.heap.size + 1, 0, none⟩ := by unfold World.frozen?; rw [p1]
    rw [this]; exact y10
  have h00 : w4.cell? ⟨w.heap.size, 0, none⟩ = some (.slice none 0 0) := by unfold World.cell?; rw [p0]; rfl
  have h01 : w4.cell? ⟨w.heap.size, 1, none⟩ = some (.float .f64 0) := by unfold World.cell?; rw [p0]; rfl
  have z00 : w4.frozen? ⟨w.heap.size, 0, none⟩ = false := by simp [World.frozen?, p0]
  have z01 : w4.frozen? ⟨w.heap.size, 1, none⟩ = false := by simp [World.frozen?, p0]
  obtain ⟨W5, hW5⟩ : ∃ W5, W5 = ((w4.setCell ⟨w.heap.size + 1, 0, none⟩ (.slice (some ⟨g4, 0, none⟩) 2 c4)).setCell ⟨w.heap.size, 0, none⟩ (.slice (some ⟨g4, 0, none⟩) 2 c4)).setCell ⟨w.heap.size, 1, none⟩ (.float .f64 z) := ⟨_, rfl⟩
  have k5 : Kp (fun b => b = w.heap.size ∨ b = w.heap.size + 1) w4 W5 := by
    rw [hW5]
    exact Kp.setCell (p := ⟨w.heap.size, 1, none⟩) (Kp.setCell (p := ⟨w.heap.size, 0, none⟩) (Kp.setCell (p := ⟨w.heap.size + 1, 0, none⟩) (Kp.refl (fun b => b = w.heap.size ∨ b = w.heap.size + 1) w4) (.inr rfl) _) (.inl rfl) _) (.inl rfl) _
  have q0 : W5.cell? ⟨w.heap.size, 0, none⟩ = some (.slice (some ⟨g4, 0, none⟩) 2 c4) := by
    rw [hW5, World.cell?_setCell_other _ _ _ _ (by intro e; cases e)]
    refine World.cell?_setCell_same (u := .slice none 0 0) _ _ _ ?_
    rw [World.cell?_setCell_other _ _ _ _ (by intro e; have := congrArg Addr.block e; simp at this)]
    exact h00
  have q1 : W5.cell? ⟨w.heap.size, 1, none⟩ = some (.float .f64 z) := by
    rw [hW5]
    refine World.cell?_setCell_same (u := .float .f64 0) _ _ _ ?_
    rw [World.cell?_setCell_other _ _ _ _ (by intro e; cases e), World.cell?_setCell_other _ _ _ _ (by intro e; have := congrArg Addr.block e; simp at this)]
    exact h01
  have HF : Hid (Below w.heap.size w W5 ∧ Lm W5 (some ⟨g4, 0, none⟩) fUp 2 ∧ g4 < W5.heap.size) := (show _ ∧ _ ∧ _ by
    have b2 := b1.trans (k2.below b1.size fun b hb h => nb b h)
    have b3 := b2.trans (k3.below b2.size fun b hb h => by omega)
    have b4 := b3.trans (k4.below b3.size fun b hb h => nb4 b (by omega) h)
    refine ⟨b4.trans (k5.below b4.size fun b hb h => by omega), ?_, Nat.lt_of_lt_of_le hg4.2 k5.size⟩
    have o5 := k5.row o4 (fun b hb h => by obtain rfl : g4 = b := Option.some.inj hb; omega)
    have := K.row_lm (ks := [uL, aL]) (show W5.ownsRow (w.heap.size + 2) 61 2 (.slice (some ⟨g4, 0, none⟩) 2 c4) 2 (lcL [uL, aL]) from o5)
    exact K.Lm.congr this fun j hj => by
      have hj2 : j < 2 := hj
      rcases (show j = 0 ∨ j = 1 by omega) with rfl | rfl <;> rfl)
  have HQ : Hid (W5 = ((w4.setCell ⟨w.heap.size + 1, 0, none⟩ (.slice (some ⟨g4, 0, none⟩) 2 c4)).setCell ⟨w.heap.size, 0, none⟩ (.slice (some ⟨g4, 0, none⟩) 2 c4)).setCell ⟨w.heap.size, 1, none⟩ (.float .f64 z)) := hW5
  rw [s1] at r2
  rw [hW1] at r2
  rw [s3] at r4
  rw [hW3] at r4 d10 d11 y10
  have hem : ((⟨#[117, 112]⟩ : ByteArray).toList == (⟨#[]⟩ : ByteArray).toList) = false := by rw [Lib.toList_data, Lib.toList_data]; rfl
  have hem2 : ((⟨#[117, 112]⟩ : ByteArray).toList == []) = false := by rw [Lib.toList_data]; rfl
  unfold uL at r2
  unfold aL at r4
  unfold lbX at r2 r4
  dsimp only at r2 r4
  have hne : ¬ w.heap.size = w.heap.size + 1 := by omega
  have hne' : ¬ w.heap.size + 1 = w.heap.size := by omega
  clear hW1 hW3 hW5 k5 k4 k3 k2 o2 o3 o4 hg hg4 nb nb4 f0 f1 e0 e1 b1 s0 s1 s3 p0 p1 d00 k1s
  go_enter Tryz.func9, Tryz.ntmps9
  go_wp2_with (at_builtin; first | refine wpList_append_run rfl (.tmp 13) (.tmp 16) 29 29 rfl _ _ rfl rfl r2 ?_ | refine wpList_append_run rfl (.tmp 20) (.tmp 23) 29 29 rfl _ _ rfl rfl r4 ?_)
  rw [← HQ.out]
  refine bodyPost_ret (v := .agg #[.slice (some ⟨g4, 0, none⟩) 2 c4, .float .f64 z]) (by simp [results, Tryz.results9, go_sem, q0, q1]) rfl ⟨g4, c4, rfl, HF.out.1, HF.out.2.1, HF.out.2.2⟩
set_option maxRecDepth 100000 in
theorem copysign_any (w : World) : Calls Tryz.prog 12 #[.float .f64 0, .float .f64 13830554455654793216] w fun e w' => e = .returned (.float .f64 9223372036854775808) ∧ w' = w := by
  have h1 := F.callBits
  have h2 := F.callFrom
  go_enter Tryz.func12, Tryz.ntmps12
  go_wp2
  go_ret
  exact ⟨by rfl, rfl⟩
theorem mx_one (c0 : Co) (mp : Co → Option Kc) (y : Kc) (hok : okC c0 = true) (hm : mp c0 = some y) : MX [c0] true mp 0 [y] :=
  .inr (.inr ⟨rfl, [c0], .inr ⟨rfl, fun c hc => by rw [List.mem_singleton.1 hc]; exact hok, List.Perm.refl _, by simp⟩, .inr ⟨rfl, by simp [hm], by simp⟩⟩)
/-- The elements of the law's own. -/
def qUp (g c z : Nat) : Nat → El := fun _ => ⟨some ⟨g, 0, none⟩, 2, c, fUp, z⟩
def qNo (g c z : Nat) : Nat → El := fun _ => ⟨some ⟨g, 0, none⟩, 1, c, fun _ => aL, z⟩
theorem okUp (z : Nat) : okC (2, [uL, aL], z) = true := (show vaF (K.gL [uL, aL]) 2 0 = true by kernel_rfl)
theorem drUp : drN [uL, aL] = [aL] := by
  have h1 : isN uL = true := beq_self_eq_true _
  have h2 : isN aL = false := by unfold isN aL; rw [Lib.toList_data, Lib.toList_data]; rfl
  unfold drN
  rw [List.filter_cons_of_neg (by simp [h1]), List.filter_cons_of_pos (by simp [h2])]
  rfl
theorem value_sub (s : ByteArray) (h : F.OpK s 1) (x y : Nat) : F.BothV 50 60 s x y (F.fb .sub (F.cl x) (F.cl y)) := by
  obtain ⟨e0, e1, e2, e3, e4, e5, e6, e7, e8, e9, e10, e11, e12, e13, e14⟩ := h
  have hs := @F.run_fsub Tryz.prog
  simp only [Nat.reduceBEq] at e0 e1 e2 e3 e4 e5 e6 e7 e8 e9 e10 e11 e12 e13 e14
  refine ⟨fun w => ?_, fun w => ?_⟩
  · go_enter Tryz.func50, Tryz.ntmps50
    go_wp2
    go_ret
    exact ⟨_, _, rfl, rfl, F.fz_lt _ _ _ _, F.cl_fz _ _ _ _⟩
  · go_enter Tryz.func60, Tryz.ntmps60
    go_wp2
    go_ret
    exact ⟨_, _, rfl, rfl, F.fz_lt _ _ _ _, F.cl_fz _ _ _ _⟩
theorem up_kv (W : World) (g c z : Nat) (hL : Lm W (some ⟨g, 0, none⟩) fUp 2) (hg : g < W.heap.size) (hT : Lib.Utf8Tabs 2 3 W) :
    Calls Tryz.prog 18 #[.slice (some ⟨W.heap.size, 0, none⟩) 1 1] (W.alloc (.cells #[.slice (some ⟨g, 0, none⟩) 2 c, .float .f64 z] 31)) (VR (qUp g c z) 1 (W.alloc (.cells #[.slice (some ⟨g, 0, none⟩) 2 c, .float .f64 z] 31))) := by
  have b : Below W.heap.size W (W.alloc (.cells #[.slice (some ⟨g, 0, none⟩) 2 c, .float .f64 z] 31)) := (Below.refl _ W).alloc (Nat.le_refl _) _
  have e := heap_alloc_new W (.cells #[.slice (some ⟨g, 0, none⟩) 2 c, .float .f64 z] 31)
  refine vector_any _ 1 1 (qUp g c z) _ (.inr ⟨W.heap.size, 0, rfl, by simp, fun j hj => ?_⟩) (by intro h; cases h) (fun j hj => ⟨hL.below b, by show 2 ≤ _; omega, fun k hk => ?_⟩) (fun j hj b' o hb => ?_) (tabs_below hT (tabs_size hT) b) (by omega)
  · obtain rfl : j = 0 := by omega
    exact ⟨by unfold World.cell?; rw [e]; rfl, by unfold World.cell?; rw [e]; rfl⟩
  · have hk2 : k < 2 := hk
    rcases (show k = 0 ∨ k = 1 by omega) with rfl | rfl
    · exact ⟨by show 8 ≤ _; omega, by show 2 ≤ _; omega⟩
    · exact ⟨by show 1 ≤ _; omega, by show 1 ≤ _; omega⟩
  · cases hb
    simp
    omega
/-- An answer of one element. -/
def A1 (y : Kc) (w : World) (e : Ending) (w' : World) : Prop := ∃ a c r, e = .returned (.tuple #[.slice a 1 c, .int .i64 0]) ∧ Below w.heap.size w w' ∧ Em w' a r 1 ∧ (∀ j, j < 1 → Lm w' (r j).a (r j).f (r j).n ∧ (r j).n ≤ 4294967296) ∧ (elL r 1).map kc = [y]
theorem a1_of {mp : Co → Option Kc} {tk : Bool} {c0 : Co} {y : Kc} {w w' : World} {e : Ending} (hm : MX [c0] tk mp 0 [y]) (h : AN (MX [c0] tk mp) w e w') : A1 y w e w' := by
  obtain ⟨a, c, N, r, E, rfl, b, hE, hN, hl, hx⟩ := h
  obtain ⟨rfl, hL⟩ := hx.uniq hm
  have hN1 : N = 1 := by
    have := congrArg List.length hL
    simpa [elL] using this
  subst hN1
  exact ⟨a, c, r, rfl, b, hE, hl, hL⟩
theorem chk1 (W : World) (g c : Nat) (hL : Lm W (some ⟨g, 0, none⟩) fUp 2) (hg : g < W.heap.size) (hT : Lib.Utf8Tabs 2 3 W) :
    Calls Tryz.prog 8 #[.string ⟨#[45]⟩, .slice (some ⟨W.heap.size, 0, none⟩) 1 1, .float .f64 4621819117588971520, .bool true, .bool false] (W.alloc (.cells #[.slice (some ⟨g, 0, none⟩) 2 c, .float .f64 4611686018427387904] 31)) (A1 ([aL], some 4620693217682128896) (W.alloc (.cells #[.slice (some ⟨g, 0, none⟩) 2 c, .float .f64 4611686018427387904] 31))) := by
  have h1 : F.OpK ⟨#[45]⟩ 1 := by
    have h := F.opK ⟨#[45]⟩
    have e : F.opN ⟨#[45]⟩ = 1 := by kernel_rfl
    rw [e] at h
    exact h
  refine (mixed_any ⟨#[45]⟩ 1 (by omega) h1 (fun x y => F.fb .sub (F.cl x) (F.cl y)) (fun _ x y _ _ => value_sub _ h1 x y) 4621819117588971520 (by omega) true false _ 1 1 (qUp g c 4611686018427387904) _ (up_kv W g c _ hL hg hT) (by omega) (fun j hj => ⟨by show 2 ≤ _; omega, by show 4611686018427387904 < _; omega⟩)).mono fun e w' h => a1_of (c0 := (2, [uL, aL], 4611686018427387904)) (mx_one _ _ _ (okUp _) ?_) h
  have e8 : F.fb .sub (F.cl 4621819117588971520) (F.cl 4611686018427387904) = some 4620693217682128896 := by decide +kernel
  unfold outC outP
  rw [if_pos (by omega)]
  show some (drN [uL, aL], F.fb .sub (F.cl 4621819117588971520) (F.cl 4611686018427387904)) = _
  rw [drUp, e8]
theorem chk2 (W : World) (g c : Nat) (hL : Lm W (some ⟨g, 0, none⟩) fUp 2) (hg : g < W.heap.size) (hT : Lib.Utf8Tabs 2 3 W) :
    Calls Tryz.prog 10 #[.slice (some ⟨W.heap.size, 0, none⟩) 1 1] (W.alloc (.cells #[.slice (some ⟨g, 0, none⟩) 2 c, .float .f64 0] 31)) (A1 ([aL], some 9223372036854775808) (W.alloc (.cells #[.slice (some ⟨g, 0, none⟩) 2 c, .float .f64 0] 31))) := by
  refine (negate_any _ 1 1 (qUp g c 0) _ (up_kv W g c _ hL hg hT) (by omega) (fun j hj => ⟨by show 2 ≤ _; omega, by show 0 < _; omega⟩)).mono fun e w' h => a1_of (c0 := (2, [uL, aL], 0)) (mx_one _ _ _ (okUp _) ?_) h
  have e8 : F.cl (Op.negFloat .f64 0) = some 9223372036854775808 := by decide +kernel
  unfold ngC
  show some (drN [uL, aL], F.cl (Op.negFloat .f64 0)) = _
  rw [drUp, e8]
theorem lit_same {W : World} {a : Option Addr} {c' g c z y : Nat} {r : Nat → El} (hE : Em W a r 1) (hr : ∀ j, j < 1 → Lm W (r j).a (r j).f (r j).n ∧ (r j).n ≤ 4294967296) (hk : (elL r 1).map kc = [([aL], some y)]) (hz : F.cl z = some y) (hL : Lm W (some ⟨g, 0, none⟩) (fun _ => aL) 1) :
    Calls Tryz.prog 11 #[.slice a 1 c', .slice (some ⟨W.heap.size, 0, none⟩) 1 1] (W.alloc (.cells #[.slice (some ⟨g, 0, none⟩) 1 c, .float .f64 z] 31)) fun e w' => e = .returned (.bool true) ∧ Below W.heap.size W w' := by
  have b : Below W.heap.size W (W.alloc (.cells #[.slice (some ⟨g, 0, none⟩) 1 c, .float .f64 z] 31)) := (Below.refl _ W).alloc (Nat.le_refl _) _
  have e := heap_alloc_new W (.cells #[.slice (some ⟨g, 0, none⟩) 1 c, .float .f64 z] 31)
  refine (same_an (hE.below b) (r := qNo g c z) (.inr ⟨W.heap.size, 0, rfl, by simp, fun j hj => ?_⟩) (fun j hj => ⟨(hr j hj).1.below b, (hr j hj).2⟩) (fun j hj => ⟨hL.below b, by show 1 ≤ _; omega⟩) ?_ (by omega)).mono fun e w' h => ⟨h.1, b.trans (h.2.mono b.size)⟩
  · obtain rfl : j = 0 := by omega
    exact ⟨by unfold World.cell?; rw [e]; rfl, by unfold World.cell?; rw [e]; rfl⟩
  · rw [hk]
    show _ = [(K.ll (fun _ => aL) 1, F.cl z)]
    rw [hz]
    rfl
end Go.Proofs.YtebjklppbkkinaaGreatDoor
