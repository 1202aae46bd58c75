/- Plain mathematics: runes written one behind the other, and read back. -/
import Derived.Test.YtdnbkgbgpfmipabDoorJoin
import Derived.Test.YtdnbkgbgpfmipabDoorHit
import Derived.Laws.Cover4
namespace Go.Proofs.YtdnbkgbgpfmipabDoor
open Go.Lib

/-- How many bytes a rune's form has. -/
def wd (x : Int) : Nat := if x < 128 then 1 else if x < 2048 then 2 else if x < 65536 then 3 else 4
theorem wd_bd (x : Int) : 1 ≤ wd x ∧ wd x ≤ 4 := by unfold wd; repeat' split
                                                    all_goals omega

theorem valid_iff (x : Int) : Utf8.valid x = isRune x := by
  unfold Utf8.valid isRune
  rw [Bool.eq_iff_iff]
  simp
  omega
theorem byte_of (n : Nat) (h : n < 256) : (UInt8.ofNat n).toNat = n := by simp; omega

theorem get!_mk (l : List UInt8) (k : Nat) (u : UInt8) (h : l[k]? = some u) : (ByteArray.mk l.toArray).get! k = u := by
  have hk : k < l.length := (List.getElem?_eq_some_iff.1 h).1
  have : (ByteArray.mk l.toArray).get! k = l.toArray[k]! := rfl
  rw [this, getElem!_pos l.toArray k (by simpa using hk)]
  rw [List.getElem?_eq_getElem hk] at h
  simpa using Option.some.inj h

theorem enc_size (x : Int) (h : isRune x = true) : (Utf8.encode x).size = wd x := by
  have hq := (isRune_iff x).1 h
  unfold Utf8.encode wd
  rw [valid_iff, h]
  simp only [if_true]
  by_cases h1 : x < 128
  · rw [if_pos (show x.toNat < 0x80 by omega), if_pos h1]; rfl
  · rw [if_neg (show ¬ x.toNat < 0x80 by omega), if_neg h1]
    by_cases h2 : x < 2048
    · rw [if_pos (show x.toNat < 0x800 by omega), if_pos h2]; rfl
    · rw [if_neg (show ¬ x.toNat < 0x800 by omega), if_neg h2]
      by_cases h3 : x < 65536
      · rw [if_pos (show x.toNat < 0x10000 by omega), if_pos h3]; rfl
      · rw [if_neg (show ¬ x.toNat < 0x10000 by omega), if_neg h3]; rfl

set_option maxHeartbeats 2000000 in
theorem enc_decode (x : Int) (h : isRune x = true) (r : ByteArray) : Utf8.decode (Utf8.encode x ++ r) 0 = (x.toNat, wd x) := by
  have hq := (isRune_iff x).1 h
  have hsz := enc_size x h
  have hd := decode_at (Utf8.encode x ++ r) 0
  rw [hd]
  have hw := wd_bd x
  have hg : ∀ k, k < wd x → (Utf8.encode x ++ r).get! (0 + k) = (Utf8.encode x).get! k := fun k hk => by rw [Nat.zero_add]; exact get!_left _ _ k (by omega)
  have hn : (Utf8.encode x ++ r).size - 0 = wd x + r.size := by simp [hsz]
  rw [hn]
  have e0 := hg 0 (by omega)
  rw [Nat.zero_add] at e0
  generalize (Utf8.encode x ++ r) = s at *
  unfold Utf8.encode at hg e0
  rw [valid_iff, h] at hg e0
  simp only [if_true] at hg e0
  by_cases h1 : x < 128
  · have hwd : wd x = 1 := by unfold wd; rw [if_pos h1]
    rw [if_pos (show x.toNat < 0x80 by omega)] at e0
    have v0 : s.get! 0 = UInt8.ofNat x.toNat := e0.trans (get!_mk _ 0 _ rfl)
    rw [v0, byte_of _ (by omega), hwd]
    exact dec1 _ _ _ _ _ (by omega)
  · rw [if_neg (show ¬ x.toNat < 0x80 by omega)] at hg e0
    by_cases h2 : x < 2048
    · have hwd : wd x = 2 := by unfold wd; rw [if_neg h1, if_pos h2]
      rw [if_pos (show x.toNat < 0x800 by omega)] at hg e0
      rw [hwd] at hg ⊢
      have v0 := e0.trans (get!_mk _ 0 _ rfl)
      have v1 := (hg 1 (by omega)).trans (get!_mk _ 1 _ rfl)
      rw [v0, v1, byte_of _ (by omega), byte_of _ (by omega)]
      exact dec2 _ _ _ _ _ x (by omega) (by omega) (by omega) (by omega) (by omega) h2 (by omega) (by omega)
    · rw [if_neg (show ¬ x.toNat < 0x800 by omega)] at hg e0
      by_cases h3 : x < 65536
      · have hwd : wd x = 3 := by unfold wd; rw [if_neg h1, if_neg h2, if_pos h3]
        rw [if_pos (show x.toNat < 0x10000 by omega)] at hg e0
        rw [hwd] at hg ⊢
        have v0 := e0.trans (get!_mk _ 0 _ rfl)
        have v1 := (hg 1 (by omega)).trans (get!_mk _ 1 _ rfl)
        have v2 := (hg 2 (by omega)).trans (get!_mk _ 2 _ rfl)
        rw [v0, v1, v2, byte_of _ (by omega), byte_of _ (by omega), byte_of _ (by omega)]
        exact dec3 _ _ _ _ _ x (by omega) (by omega) (by omega) (by omega) (by omega) (by omega) h3 hq.2.2 (by omega) (by omega) (by omega)
      · have hwd : wd x = 4 := by unfold wd; rw [if_neg h1, if_neg h2, if_neg h3]
        rw [if_neg (show ¬ x.toNat < 0x10000 by omega)] at hg e0
        rw [hwd] at hg ⊢
        have v0 := e0.trans (get!_mk _ 0 _ rfl)
        have v1 := (hg 1 (by omega)).trans (get!_mk _ 1 _ rfl)
        have v2 := (hg 2 (by omega)).trans (get!_mk _ 2 _ rfl)
        have v3 := (hg 3 (by omega)).trans (get!_mk _ 3 _ rfl)
        rw [v0, v1, v2, v3, byte_of _ (by omega), byte_of _ (by omega), byte_of _ (by omega), byte_of _ (by omega)]
        exact dec4 _ _ _ _ _ x (by omega) (by omega) (by omega) (by omega) (by omega) (by omega) (by omega) hq.2.1 (by omega) (by omega) (by omega) (by omega)

theorem enc_good (x : Int) (h : isRune x = true) (r : ByteArray) : good (Utf8.encode x ++ r) 0 := by
  unfold good
  rw [enc_decode x h r]
  have hq := (isRune_iff x).1 h
  intro hc
  have h1 : x.toNat = 65533 := hc.1
  have h2 : wd x = 1 := hc.2
  unfold wd at h2
  rw [if_neg (by omega), if_neg (by omega), if_pos (by omega)] at h2
  omega

/-! ### Many -/
theorem rb_nil : runesBytes [] = ByteArray.empty := rfl
theorem foldl_enc (xs : List Int) : ∀ (s : ByteArray), xs.foldl (fun r n => r ++ Utf8.encode n) s = s ++ runesBytes xs := by
  induction xs with
  | nil => intro s; simp [runesBytes]
  | cons x xs ih =>
    intro s
    unfold runesBytes
    rw [List.foldl_cons, List.foldl_cons, ih, ih, ByteArray.append_assoc, ByteArray.empty_append]
theorem rb_cons (x : Int) (xs : List Int) : runesBytes (x :: xs) = Utf8.encode x ++ runesBytes xs := by
  show (x :: xs).foldl (fun r n => r ++ Utf8.encode n) ByteArray.empty = _
  rw [List.foldl_cons, foldl_enc, ByteArray.empty_append]
theorem rb_append (xs ys : List Int) : runesBytes (xs ++ ys) = runesBytes xs ++ runesBytes ys := by
  show (xs ++ ys).foldl (fun r n => r ++ Utf8.encode n) ByteArray.empty = _
  rw [List.foldl_append, foldl_enc ys]
  rfl

theorem enc_vld (x : Int) (h : isRune x = true) : vld (Utf8.encode x) (Utf8.encode x).size 0 = true ∧ rns (Utf8.encode x) (Utf8.encode x).size 0 = [x] := by
  have hs := enc_size x h
  have hw := wd_bd x
  have hq := (isRune_iff x).1 h
  have hd := enc_decode x h ByteArray.empty
  have hg := enc_good x h ByteArray.empty
  rw [ByteArray.append_empty] at hd hg
  obtain ⟨f, hf⟩ : ∃ f, (Utf8.encode x).size = f + 1 := ⟨(Utf8.encode x).size - 1, by omega⟩
  constructor
  · rw [hf, vld_step _ _ _ (by omega)]
    refine ⟨hg, vld_end _ _ _ (by rw [hd]; simp only; omega)⟩
  · rw [hf]
    unfold rns
    rw [if_pos (by omega), rns_end _ _ _ (by rw [hd]; simp only; omega), hd]
    simp only
    rw [Int.toNat_of_nonneg hq.1]

theorem rb_vld : ∀ (xs : List Int), (∀ x ∈ xs, isRune x = true) → vld (runesBytes xs) (runesBytes xs).size 0 = true ∧ rns (runesBytes xs) (runesBytes xs).size 0 = xs
  | [], _ => ⟨rfl, rfl⟩
  | x :: xs, h => by
    obtain ⟨r1, r2⟩ := rb_vld xs (fun y hy => h y (List.mem_cons_of_mem _ hy))
    obtain ⟨e1, e2⟩ := enc_vld x (h x (List.mem_cons_self ..))
    rw [rb_cons]
    have hj := join_ok (Utf8.encode x) (runesBytes xs) r1 (Utf8.encode x).size 0 (by omega) (by omega) e1
    rw [e2, r2] at hj
    rw [ByteArray.size_append]
    exact hj

/-- The place at which the k-th rune's form begins. -/
def offK (xs : List Int) (k : Nat) : Nat := (runesBytes (xs.take k)).size
theorem offK_zero (xs : List Int) : offK xs 0 = 0 := by unfold offK; simp [rb_nil]
theorem take_succ' (xs : List Int) (k : Nat) (h : k < xs.length) : xs.take (k + 1) = xs.take k ++ [xs.getD k 0] := by
  rw [List.take_succ_eq_append_getElem h]
  simp [List.getD, h]
theorem offK_succ (xs : List Int) (k : Nat) (h : k < xs.length) (hr : isRune (xs.getD k 0) = true) : offK xs (k + 1) = offK xs k + wd (xs.getD k 0) := by
  unfold offK
  rw [take_succ' xs k h, rb_append, ByteArray.size_append, rb_cons, rb_nil, ByteArray.append_empty, enc_size _ hr]
theorem offK_end (xs : List Int) : offK xs xs.length = (runesBytes xs).size := by unfold offK; simp
theorem rb_split (xs : List Int) (k : Nat) (h : k < xs.length) : runesBytes xs = runesBytes (xs.take k) ++ (Utf8.encode (xs.getD k 0) ++ runesBytes (xs.drop (k + 1))) := by
  have e : xs = xs.take k ++ (xs.getD k 0 :: xs.drop (k + 1)) := by
    simp [List.getD, h]
  conv => lhs; rw [e]
  rw [rb_append, rb_cons]

theorem back_at (xs : List Int) (k : Nat) (h : k < xs.length) (hr : isRune (xs.getD k 0) = true) :
    nxt (runesBytes xs) (offK xs k) = (xs.getD k 0, (wd (xs.getD k 0) : Int)) ∧ good (runesBytes xs) (offK xs k) ∧ (Utf8.decode (runesBytes xs) (offK xs k)).2 = wd (xs.getD k 0) ∧ offK xs k + wd (xs.getD k 0) ≤ (runesBytes xs).size := by
  have hs := rb_split xs k h
  have hd : Utf8.decode (runesBytes xs) (offK xs k) = ((xs.getD k 0).toNat, wd (xs.getD k 0)) := by
    rw [hs]
    exact (decode_right (runesBytes (xs.take k)) (Utf8.encode (xs.getD k 0) ++ runesBytes (xs.drop (k + 1))) 0).trans (enc_decode _ hr _)
  have hg : good (runesBytes xs) (offK xs k) := by
    have h0 := enc_good (xs.getD k 0) hr ByteArray.empty
    unfold good at h0 ⊢
    rw [hd]
    rw [enc_decode _ hr] at h0
    exact h0
  have hsz : offK xs k + wd (xs.getD k 0) ≤ (runesBytes xs).size := by
    have h2 : (runesBytes xs).size = (runesBytes (xs.take k) ++ (Utf8.encode (xs.getD k 0) ++ runesBytes (xs.drop (k + 1)))).size := by rw [← hs]
    rw [ByteArray.size_append, ByteArray.size_append, enc_size _ hr] at h2
    unfold offK
    omega
  have hw := wd_bd (xs.getD k 0)
  have hq := (isRune_iff _).1 hr
  refine ⟨?_, hg, by rw [hd], hsz⟩
  unfold nxt
  rw [if_pos (by omega), if_neg hg, hd]
  simp only
  rw [Int.toNat_of_nonneg hq.1]
theorem back_mid (xs : List Int) (k i : Nat) (h : k < xs.length) (hr : isRune (xs.getD k 0) = true) (h1 : 0 < i) (h2 : i < wd (xs.getD k 0)) : nxt (runesBytes xs) (offK xs k + i) = (-1, 0) := by
  obtain ⟨_, hg, hw, hs⟩ := back_at xs k h hr
  have hb := mid_bad (runesBytes xs) (offK xs k) (offK xs k + i) hg (by omega) (by omega)
  unfold good at hb
  have hb' := Classical.not_not.1 hb
  unfold nxt
  rw [if_pos (by omega), if_pos hb']
end Go.Proofs.YtdnbkgbgpfmipabDoor
