import PyProof.Rows.All
import HandS.TupSets
import HandS.Strs
import HandS.SetKeys
import HandS.SortInts
import KE.DataMinMax
import KE.KTupSum
import HandS.List
import HandS.Conv
import HandS.ForMost
import HandS.ForExc
import HandS.SortRule
import HandS.Star
import HandS.IsInst
import HandS.TupAny
import HandS.TupLen
import HandS.Deep
import HandS.Flow
import HandS.AnyAll
import HandS.ExcValue
import HandS.ExcIs
import HandS.More
import PyProof.DictUpdate
import HandS.Iter
import HandS.JoinGen
import HandS.EndOwn
import HandS.RaiseMore
import HandS.FStr
import HandS.Text
import HandS.Style
import PySem.Challenge.RW_roundlist_k08_seasons
set_option Elab.async false
set_option linter.all false
set_option maxRecDepth 100000
set_option maxHeartbeats 4000000
namespace Dn
open PySem PySem.Spec PyProof.Rows L2
/-! ### sets of pairs of any size that the rounds can have: tables of up to 2048 slots -/
def seen (m : Nat) : Nat → Nat → Nat → Nat
  | 0, _, acc => acc
  | n + 1, x, acc => seen m n ((x * 5 + 1) % (m + 1)) (acc ||| 2 ^ x)
theorem lcgI_step (m x : Nat) : ∀ k, lcgI m ((x * 5 + 1) % (m + 1)) k = lcgI m x (k + 1)
  | 0 => rfl
  | k + 1 => by
    show (lcgI m ((x * 5 + 1) % (m + 1)) k * 5 + 1) % (m + 1) = (lcgI m x (k + 1) * 5 + 1) % (m + 1)
    rw [lcgI_step m x k]
theorem seen_bit (m : Nat) : ∀ (n x acc j : Nat), (seen m n x acc).testBit j = true → acc.testBit j = true ∨ ∃ k, k < n ∧ lcgI m x k = j
  | 0, x, acc, j, h => .inl h
  | n + 1, x, acc, j, h => by
    rcases seen_bit m n _ _ j h with h | ⟨k, hk, e⟩
    · rw [Nat.testBit_or, Bool.or_eq_true, Nat.testBit_two_pow] at h
      rcases h with h | h
      · exact .inl h
      · exact .inr ⟨0, by omega, of_decide_eq_true h⟩
    · exact .inr ⟨k + 1, by omega, by rw [← lcgI_step]; exact e⟩
/-- a mask whose slots all are met on each way -/
structure Good (m : Nat) : Prop where
  is : m = 7 ∨ m = 31 ∨ m = 127 ∨ m = 511 ∨ m = 2047
  odd : m % 2 = 1
  small : m ≤ 2047
  meets : ∀ (h : Int) (j : Nat), j ≤ m → ∃ n, n ≤ m + 12 ∧ runI m (SetTable.bits h) n = j
theorem good_of {m : Nat} (h0 : m = 7 ∨ m = 31 ∨ m = 127 ∨ m = 511 ∨ m = 2047) (h1 : m % 2 = 1) (h2 : m ≤ 2047) (h3 : seen m (m + 1) 0 0 = 2 ^ (m + 1) - 1) (h4 : lcgN m (m + 1) = 0) : Good m := by
  have all : ∀ j, j ≤ m → ∃ b, b ≤ m ∧ lcgN m b = j := fun j hj => by
    have e : (seen m (m + 1) 0 0).testBit j = true := by
      rw [h3, Nat.testBit_two_pow_sub_one]
      exact decide_eq_true (Nat.lt_succ_of_le hj)
    rcases seen_bit m (m + 1) 0 0 j e with z | ⟨k, hk, e2⟩
    · rw [Nat.zero_testBit] at z
      cases z
    · refine ⟨k, by omega, ?_⟩
      have q := lcgN_add m 0 k
      rw [Nat.zero_add] at q
      rw [← q]
      exact e2
  have back : ∀ k, lcgN m (m + 1 + k) = lcgN m k := fun k => by
    have q := lcgN_add m (m + 1) k
    have q2 := lcgN_add m 0 k
    rw [Nat.zero_add] at q2
    rw [← q, h4]
    exact q2
  refine ⟨h0, h1, h2, fun h j hj => ?_⟩
  obtain ⟨a, ha, ea⟩ := all _ (runI_le m (SetTable.bits h) 12)
  obtain ⟨b, hb, eb⟩ := all j hj
  by_cases c : a ≤ b
  · refine ⟨12 + (b - a), by omega, ?_⟩
    rw [runI_tail (bits_lt h), ← ea, lcgN_add, show a + (b - a) = b by omega]
    exact eb
  · refine ⟨12 + (m + 1 + b - a), by omega, ?_⟩
    rw [runI_tail (bits_lt h), ← ea, lcgN_add, show a + (m + 1 + b - a) = m + 1 + b by omega, back]
    exact eb
theorem good7 : Good 7 := good_of (by decide) (by decide) (by decide) (by decide +kernel) (by decide +kernel)
theorem good31 : Good 31 := good_of (by decide) (by decide) (by decide) (by decide +kernel) (by decide +kernel)
theorem good127 : Good 127 := good_of (by decide) (by decide) (by decide) (by decide +kernel) (by decide +kernel)
theorem good511 : Good 511 := good_of (by decide) (by decide) (by decide) (by decide +kernel) (by decide +kernel)
theorem good2047 : Good 2047 := good_of (by decide) (by decide) (by decide) (by decide +kernel) (by decide +kernel)
theorem way_in (m : Nat) (h : Int) (k : Nat) : way m h k ≤ m := by
  have hi : SetTable.bits h % (m + 1) ≤ m := Nat.le_of_lt_succ (Nat.mod_lt _ (Nat.succ_pos _))
  have r := runEnd_bd hi
  have q : (nth m (runAt m (SetTable.bits h % (m + 1)) (SetTable.bits h)) k).j + (nth m (runAt m (SetTable.bits h % (m + 1)) (SetTable.bits h)) k).more ≤ m := nth_in k _ (by
    show SetTable.bits h % (m + 1) + (SetTable.runEnd m (SetTable.bits h % (m + 1)) - SetTable.bits h % (m + 1)) ≤ m
    omega)
  show (nth m (runAt m (SetTable.bits h % (m + 1)) (SetTable.bits h)) k).j ≤ m
  omega
/-- each slot is on each way, and early -/
theorem Good.way {m : Nat} (G : Good m) (h : Int) {j : Nat} (hj : j ≤ m) : ∃ k, k < 10 * SetTable.turns m ∧ way m h k = j := by
  obtain ⟨n, hn, e⟩ := G.meets h j hj
  obtain ⟨k, hk, e2⟩ := run_nth m (SetTable.bits h) n
  exact ⟨k, by unfold SetTable.turns; omega, by show (nth m _ k).j = j; rw [e2]; exact e⟩
/-- the table of the hashes hs -/
structure Tab (t : SetTable) (hs : List Int) : Prop where
  ris : Ris t.place.toList
  dm : t.dummies = #[]
  sz : t.place.toList.length = hs.length
  good : Good t.mask
  reach : ∀ (i : Nat) (h : Int) (j : Nat), hs[i]? = some h → t.place.toList[i]? = some j → ∃ k, way t.mask h k = j ∧ ∀ k', k' < k → way t.mask h k' ∈ t.place.toList
/-- a way's first free slot -/
structure Free (t : SetTable) (h : Int) (K : Nat) : Prop where
  early : K < 10 * SetTable.turns t.mask
  free : way t.mask h K ∉ t.place.toList
  full : ∀ k, k < K → way t.mask h k ∈ t.place.toList
theorem Tab.free {t : SetTable} {hs : List Int} (T : Tab t hs) (hl : hs.length ≤ t.mask) (h : Int) : ∃ K, Free t h K := by
  have hz := T.sz
  obtain ⟨j, hj, hn⟩ := st_missing t.place.toList (t.mask + 1) (by omega)
  obtain ⟨k, hk, e⟩ := T.good.way h (Nat.le_of_lt_succ hj)
  obtain ⟨K, h1, h2, h3⟩ := st_least (p := fun k => way t.mask h k ∉ t.place.toList) k (e ▸ hn)
  exact ⟨K, Nat.lt_of_le_of_lt h1 hk, h2, fun k' hk' => Classical.not_not.mp (h3 k' hk')⟩
theorem Tab.ahead {t : SetTable} {hs : List Int} (T : Tab t hs) {h : Int} {K i j : Nat} (F : Free t h K) (hi : hs[i]? = some h) (hj : t.place.toList[i]? = some j) : ∃ k, k < K ∧ way t.mask h k = j := by
  obtain ⟨k, e, hb⟩ := T.reach i h j hi hj
  refine ⟨k, Nat.lt_of_not_le fun c => ?_, e⟩
  rcases Nat.eq_or_lt_of_le c with c | c
  · exact F.free (by rw [c, e]; exact List.mem_of_getElem? hj)
  · exact F.free (hb K c)
/-- one more -/
theorem Tab.more {t : SetTable} {hs : List Int} (T : Tab t hs) {h : Int} {K : Nat} (F : Free t h K) :
    SetTable.below t.place (way t.mask h K) ≤ hs.length ∧
    Tab (t.put (way t.mask h K)).1 (hs.take (SetTable.below t.place (way t.mask h K)) ++ h :: hs.drop (SetTable.below t.place (way t.mask h K))) ∧ (t.put (way t.mask h K)).1.fill = hs.length + 1 := by
  obtain ⟨j, hj⟩ : ∃ j, j = way t.mask h K := ⟨_, rfl⟩
  have hF := F.free
  have hB := F.full
  rw [← hj] at hF ⊢
  obtain ⟨c1, _, _⟩ := below_cut T.ris j
  have hpl : SetTable.below t.place j ≤ t.place.toList.length := by rw [Array.length_toList]; exact c1
  have hz := T.sz
  have hph : SetTable.below t.place j ≤ hs.length := by omega
  have hpp := put_place t j
  have hlen : (t.put j).1.place.toList.length = hs.length + 1 := by rw [hpp, len_ins _ hpl, hz]
  have up : ∀ {x : Nat}, x ∈ t.place.toList → x ∈ (t.put j).1.place.toList := fun {x} hx => by
    rw [hpp]
    exact mem_ins.2 (.inr hx)
  refine ⟨hph, ⟨ris_insert T.ris fun e => hF (List.mem_of_getElem? (by rw [Array.getElem?_toList]; exact e)), put_dm T.dm j, by rw [hlen, len_ins _ hph], T.good, fun i h' j' h1 h2 => ?_⟩, ?_⟩
  · rw [tins_get hs hph] at h1
    rw [hpp, tins_get _ hpl] at h2
    show ∃ k, way t.mask h' k = j' ∧ ∀ k', k' < k → way t.mask h' k' ∈ (t.put j).1.place.toList
    have old : ∀ i', hs[i']? = some h' → t.place.toList[i']? = some j' → ∃ k, way t.mask h' k = j' ∧ ∀ k', k' < k → way t.mask h' k' ∈ (t.put j).1.place.toList := fun i' a1 a2 => by
      obtain ⟨k, e, z⟩ := T.reach i' h' j' a1 a2
      exact ⟨k, e, fun k' hk' => up (z k' hk')⟩
    by_cases c : i < SetTable.below t.place j
    · rw [if_pos c] at h1 h2
      exact old i h1 h2
    · rw [if_neg c] at h1 h2
      by_cases d : i = SetTable.below t.place j
      · rw [if_pos d] at h1 h2
        cases h1
        cases h2
        exact ⟨K, hj.symm, fun k' hk' => up (hB k' hk')⟩
      · rw [if_neg d] at h1 h2
        exact old (i - 1) h1 h2
  · show (t.put j).1.place.size + (t.put j).1.dummies.size = hs.length + 1
    rw [put_dm T.dm j, ← Array.length_toList, hlen]
    rfl
/-! laying all anew -/
/-- who sits where, behind the hashes done -/
structure Sit (m : Nat) (done : List Int) (owner : Array (Option Nat)) : Prop where
  sz : owner.size = m + 1
  at_ : ∀ j k, j ≤ m → oAt owner j = some k → ∃ h K, done[k]? = some h ∧ way m h K = j ∧ ∀ k', k' < K → oAt owner (way m h k') ≠ none
  all : ∀ k, k < done.length → ∃ j, j ≤ m ∧ oAt owner j = some k
  ps : ∃ ps : List Nat, ps.length = done.length ∧ ∀ j, j ≤ m → oAt owner j ≠ none → j ∈ ps
theorem Sit.next {m : Nat} (G : Good m) {done : List Int} {owner : Array (Option Nat)} (S : Sit m done owner) (hl : done.length ≤ m) (h : Int) :
    ∃ j, SetTable.layClean.free m owner (SetTable.turns m) (SetTable.bits h % (m + 1)) (SetTable.bits h) = some j ∧ Sit m (done ++ [h]) (owner.setIfInBounds j (some done.length)) := by
  obtain ⟨ps, p1, p2⟩ := S.ps
  obtain ⟨j0, h0, n0⟩ := st_missing ps (m + 1) (by omega)
  have f0 : oAt owner j0 = none := Classical.not_not.mp fun z => n0 (p2 j0 (Nat.le_of_lt_succ h0) z)
  obtain ⟨n, hn, en⟩ := G.meets h j0 (Nat.le_of_lt_succ h0)
  have hw : way m h (off m (SetTable.bits h % (m + 1)) (SetTable.bits h) n) = j0 := by
    show (nth m _ (off m (SetTable.bits h % (m + 1)) (SetTable.bits h) n)).j = j0
    rw [nth_off, itL_run]
    exact en
  obtain ⟨K, k1, k2, k3⟩ := st_least (p := fun k => oAt owner (way m h k) = none) (off m (SetTable.bits h % (m + 1)) (SetTable.bits h) n) (by
    show oAt owner (way m h (off m (SetTable.bits h % (m + 1)) (SetTable.bits h) n)) = none
    rw [hw]
    exact f0)
  have ef : SetTable.layClean.free m owner (SetTable.turns m) (SetTable.bits h % (m + 1)) (SetTable.bits h) = some (way m h K) := by
    refine free_spec m owner (SetTable.turns m) n _ _ K (by unfold SetTable.turns; omega) k1 (fun k hk => ?_) ?_
    · have q := k3 k hk
      cases z : oAt owner (nth m (runAt m (SetTable.bits h % (m + 1)) (SetTable.bits h)) k).j with
      | none => exact absurd z q
      | some _ => rfl
    · have q : oAt owner (nth m (runAt m (SetTable.bits h % (m + 1)) (SetTable.bits h)) K).j = none := k2
      rw [q]
      rfl
  have hin := way_in m h K
  have hself := oAt_set_self (some done.length) (owner := owner) (j := way m h K) (by rw [S.sz]; omega)
  have other : ∀ {i : Nat}, i ≠ way m h K → oAt (owner.setIfInBounds (way m h K) (some done.length)) i = oAt owner i := fun c => oAt_set_ne _ c
  have mono : ∀ {i : Nat}, oAt owner i ≠ none → oAt (owner.setIfInBounds (way m h K) (some done.length)) i ≠ none := fun {i} hi => by
    by_cases c : i = way m h K
    · rw [c, hself]
      exact fun e => nomatch e
    · rw [other c]
      exact hi
  refine ⟨way m h K, ef, by rw [Array.size_setIfInBounds]; exact S.sz, fun j k hj e => ?_, fun k hk => ?_, way m h K :: ps, by rw [List.length_cons, List.length_append, p1]; rfl, fun j hj e => ?_⟩
  · by_cases c : j = way m h K
    · rw [c, hself] at e
      cases e
      exact ⟨h, K, by rw [List.getElem?_append_right (Nat.le_refl _), Nat.sub_self]; rfl, c.symm, fun k' hk' => mono (k3 k' hk')⟩
    · rw [other c] at e
      obtain ⟨h', K', a1, a2, a3⟩ := S.at_ j k hj e
      exact ⟨h', K', by rw [List.getElem?_append_left (List.getElem?_eq_some_iff.mp a1).1]; exact a1, a2, fun k' hk' => mono (a3 k' hk')⟩
  · rw [List.length_append, List.length_singleton] at hk
    by_cases c : k < done.length
    · obtain ⟨j, hj, e⟩ := S.all k c
      exact ⟨j, hj, by rw [other fun z => by rw [z, k2] at e; cases e]; exact e⟩
    · have ek : k = done.length := by omega
      rw [ek]
      exact ⟨way m h K, hin, hself⟩
  · by_cases c : j = way m h K
    · rw [c]
      exact List.mem_cons_self
    · rw [other c] at e
      exact List.mem_cons_of_mem _ (p2 j hj e)
theorem sit_all {m : Nat} (G : Good m) : ∀ (rest done : List Int) (owner : Array (Option Nat)), Sit m done owner → done.length + rest.length ≤ m →
    ∃ owner', rest.foldl (stepF m) (some (owner, done.length)) = some (owner', (done ++ rest).length) ∧ Sit m (done ++ rest) owner'
  | [], done, owner, S, _ => ⟨owner, by rw [List.append_nil]; rfl, by rw [List.append_nil]; exact S⟩
  | h :: rest, done, owner, S, hl => by
    rw [List.length_cons] at hl
    obtain ⟨j, e, S'⟩ := S.next G (by omega) h
    have hl' : (done ++ [h]).length = done.length + 1 := by rw [List.length_append]; rfl
    obtain ⟨owner', f, S2⟩ := sit_all G rest (done ++ [h]) _ S' (by omega)
    rw [List.append_assoc, hl'] at f
    rw [List.append_assoc] at S2
    exact ⟨owner', by rw [List.foldl_cons, stepF_some e]; exact f, S2⟩
theorem lay_all {m : Nat} (G : Good m) {hs : Array Int} (hn : hs.size ≤ m) : ∃ owner, SetTable.layClean m hs = some owner ∧ Sit m hs.toList owner := by
  have S0 : Sit m [] (Array.replicate (m + 1) none) := ⟨by simp, fun j k hj e => (by rw [oAt_init hj] at e; cases e), fun k hk => absurd hk (Nat.not_lt_zero _), [], rfl, fun j hj e => absurd (oAt_init hj) e⟩
  obtain ⟨owner, f, S⟩ := sit_all G hs.toList [] _ S0 (by rw [Array.length_toList]; show 0 + hs.size ≤ m; omega)
  refine ⟨owner, ?_, S⟩
  rw [layClean_eq, show hs.toList.foldl (stepF m) (some (Array.replicate (m + 1) none, 0)) = some (owner, ([] ++ hs.toList).length) from f]
  rfl
theorem laid_anew (t : SetTable) {hs : Array Int} {wanted M : Nat} (hw : SetTable.sizeAbove wanted - 1 = M) (G : Good M) (hn : hs.size ≤ M) :
    ∃ t' order, t.relaid hs wanted = some (t', order) ∧ order.toList.Perm (List.range hs.size) ∧ Tab t' (order.toList.map fun i => hs.getD i 0) ∧ t'.mask = M ∧ t'.led = t.led ∧ t'.plain = t.plain := by
  obtain ⟨owner, e, S⟩ := lay_all G hn
  have ris := ris_live (fun j => owner.getD j none) (List.range (M + 1)) (by
    unfold Ris
    first | exact List.pairwise_lt_range | exact List.pairwise_lt_range _)
  have r1 : Ris ((liveOf M owner).map (·.1)) := ris.1
  have hall : ∀ k, k < hs.size → ∃ j, (j, k) ∈ liveOf M owner := fun k hk => by
    obtain ⟨j, b1, b2⟩ := S.all k (by rw [Array.length_toList]; exact hk)
    exact ⟨j, (mem_live S.sz).2 ⟨b1, b2⟩⟩
  have hlen : (liveOf M owner).length = hs.size := by
    obtain ⟨ps, p1, p2⟩ := S.ps
    have a := nat_nodup_len ((liveOf M owner).map (·.1)) ps (show ((liveOf M owner).map (·.1)).Nodup from List.Pairwise.imp (fun h => Nat.ne_of_lt h) (show List.Pairwise (· < ·) ((liveOf M owner).map (·.1)) from r1)) fun x hx => by
      obtain ⟨⟨y, k⟩, hq, ey⟩ := List.mem_map.mp hx
      cases ey
      obtain ⟨b1, b2⟩ := (mem_live S.sz).1 hq
      exact p2 _ b1 (by rw [b2]; exact fun z => nomatch z)
    have b := nat_nodup_len (List.range hs.size) ((liveOf M owner).map (·.2)) List.nodup_range fun k hk => by
      obtain ⟨j, hj⟩ := hall k (List.mem_range.mp hk)
      exact List.mem_map.mpr ⟨(j, k), hj, rfl⟩
    rw [List.length_map, p1] at a
    have hz : hs.toList.length = hs.size := rfl
    rw [List.length_map, List.length_range] at b
    omega
  refine ⟨tabOf t M owner, ((liveOf M owner).map (·.2)).toArray, by rw [relaid_eq, hw, e]; rfl, ?_, ⟨r1, rfl, ?_, G, fun i h j h1 h2 => ?_⟩, rfl, rfl, rfl⟩
  · refine perm_range hs.size _ (by show ((liveOf M owner).map (·.2)).length = hs.size; rw [List.length_map]; exact hlen) fun k hk => ?_
    obtain ⟨j, hj⟩ := hall k hk
    exact List.mem_map.mpr ⟨(j, k), hj, rfl⟩
  · show ((liveOf M owner).map (·.1)).length = (((liveOf M owner).map (·.2)).map fun i => hs.getD i 0).length
    rw [List.length_map, List.length_map, List.length_map]
  · have h1' : (((liveOf M owner).map (·.2)).map fun i => hs.getD i 0)[i]? = some h := h1
    have h2' : ((liveOf M owner).map (·.1))[i]? = some j := h2
    rw [List.getElem?_map, List.getElem?_map] at h1'
    rw [List.getElem?_map] at h2'
    cases hq : (liveOf M owner)[i]? with
    | none => rw [hq] at h2'; cases h2'
    | some q =>
      obtain ⟨y, k⟩ := q
      rw [hq] at h1' h2'
      have ej : y = j := Option.some.inj h2'
      have eh : hs.getD k 0 = h := Option.some.inj h1'
      subst ej
      obtain ⟨b1, b2⟩ := (mem_live S.sz).1 (List.mem_of_getElem? hq)
      obtain ⟨h0, K, a1, a2, a3⟩ := S.at_ y k b1 b2
      have e0 : hs.getD k 0 = h0 := by
        rw [Array.getD_eq_getD_getElem?, ← Array.getElem?_toList, a1]
        rfl
      rw [e0] at eh
      subst eh
      refine ⟨K, a2, fun k' hk' => ?_⟩
      show way M h0 k' ∈ (liveOf M owner).map (·.1)
      cases z : oAt owner (way M h0 k') with
      | none => exact absurd z (a3 k' hk')
      | some k2 => exact List.mem_map.mpr ⟨(way M h0 k', k2), (mem_live S.sz).2 ⟨way_in M h0 k', z⟩, rfl⟩
end Dn

set_option Elab.async false
set_option linter.all false
set_option maxRecDepth 100000
set_option maxHeartbeats 4000000
namespace Dn
open PySem PySem.Spec PyProof.Rows L2
/-! ### the set in the heap -/
structure BigR (P : Program) (w : World) (h : Heap) (a : Addr) (L : List (Addr × List Int)) (es : Array (Int × Value)) (ep : Nat) (t : SetTable) : Prop where
  ob : ∃ o, h.get? a = some o ∧ o.ExactSet ∧ o.data = .set es ep t
  rows : es.toList = rowsOf P w L
  tab : Tab t (L.map fun p => thash P w p.2)
  plain : t.plain = true
  led : w.params.followText "set-order" = true ∨ t.led = true
  room : L.length * 5 < t.mask * 3
section
variable {P : Program} {w : World} {A : Around} {E : Value → Shared → Prop} {s : Shared} {a : Addr} {L : List (Addr × List Int)} {es : Array (Int × Value)} {ep : Nat} {t : SetTable}
theorem rows_len (h : es.toList = rowsOf P w L) : es.size = L.length := by
  have q := congrArg List.length h
  unfold rowsOf at q
  rw [Array.length_toList, List.length_map] at q
  exact q
theorem BigR.fits {h : Heap} (R : BigR P w h a L es ep t) : t.fits es.size = true := by
  have h1 := R.tab.sz
  have h2 := rows_len R.rows
  have h3 := R.room
  rw [List.length_map, Array.length_toList] at h1
  unfold SetTable.fits SetTable.fill
  rw [R.tab.dm, Bool.and_eq_true, beq_iff_eq, decide_eq_true_eq]
  show t.place.size = es.size ∧ t.place.size + 0 ≤ t.mask
  omega
theorem BigR.at_ {h : Heap} (R : BigR P w h a L es ep t) {i : Nat} {p : Addr × List Int} (e : L[i]? = some p) : es[i]? = some (thash P w p.2, Value.ref p.1) := by
  rw [← Array.getElem?_toList, R.rows]
  unfold rowsOf
  rw [List.getElem?_map, e]
  rfl
theorem dummy_no (m : Nat) : ∀ (n : Nat) (p : SetTable.Probe), p.dummy = none → (nth m p n).dummy = none
  | 0, _, h => h
  | n + 1, p, h => dummy_no m n (adv m p) (by unfold adv; split <;> exact h)
theorem seek (R : BigR P w s.heap a L es ep t) (tup : ∀ p ∈ L, IsT P w s.heap p.2 p.1) {x : Addr} {k : List Int} (hx : IsT P w s.heap k x) (hu : A.units < cLine) {K : Nat} (F : Free t (thash P w k) K) (adding : Bool) {Q : SetFound → Shared → Prop}
    (hin : k ∈ L.map (·.2) → ∀ o, (adding = false → o.isSome = true) → Q (.there o) s) (hout : k ∉ L.map (·.2) → Q (.free (way t.mask (thash P w k) K) false) s) :
    ∀ (f c : Nat) (stand : Option SetTable.Probe), stand.getD (t.probeStart (thash P w k)) = nth t.mask (runAt t.mask (SetTable.bits (thash P w k) % (t.mask + 1)) (SetTable.bits (thash P w k))) c → c ≤ K → K - c < f →
      (∀ (i : Nat) p, L[i]? = some p → p.2 = k → ∃ c', c ≤ c' ∧ c' < K ∧ t.place.toList[i]? = some (way t.mask (thash P w k) c')) →
      wpAny (model P w) A (setSearchFrom a (.ref x) (thash P w k) adding f stand) Q E s := by
  intro f
  induction f with
  | zero => exact fun c stand _ _ hf _ => absurd hf (Nat.not_lt_zero _)
  | succ f ih =>
    intro c stand hst hc hf hre
    obtain ⟨o, ho, hex, hd⟩ := R.ob
    rw [setSearchFrom_succ]
    refine wpAny_bind (wpAny_setState_of ho hd R.fits ?_)
    dsimp only
    refine wp_if_neg (by unfold SetTable.gaveWay; rw [R.tab.good.odd]; decide) ?_
    try refine wpAny_bind (wpAny_pure ?_)
    generalize hb : runAt t.mask (SetTable.bits (thash P w k) % (t.mask + 1)) (SetTable.bits (thash P w k)) = b0 at hst
    have wy : ∀ q, way t.mask (thash P w k) q = (nth t.mask b0 q).j := fun q => by rw [← hb]
    have jj : ∀ q, (nth t.mask (nth t.mask b0 c) q).j = way t.mask (thash P w k) (c + q) := fun q => by rw [wy, nth_add]
    have spec := go_spec t R.tab.ris R.tab.dm (fun i => (es[i]?.map (·.1)).getD 0) (thash P w k) (10 * SetTable.turns t.mask) (K - c) (nth t.mask b0 c) (dummy_no _ _ _ (by rw [← hb]; rfl)) (by have := F.early; omega)
      (fun q hq => by rw [jj]; exact F.full (c + q) (by omega)) (by rw [jj, show c + (K - c) = K by omega]; exact F.free)
    have hashAt : ∀ (i : Nat) p, L[i]? = some p → (es[i]?.map (·.1)).getD 0 = thash P w p.2 := fun i p hp => by
      rw [R.at_ hp]
      rfl
    rcases spec with ⟨q, i, hq, hi, hh, hno, hpr⟩ | ⟨hno, hpr⟩
    · rw [show t.probe (fun i => (es[i]?.map (·.1)).getD 0) (thash P w k) (stand.getD (t.probeStart (thash P w k))) = some (.candidate (way t.mask (thash P w k) (c + q)) i (nth t.mask b0 (c + (q + 1)))) by
        rw [hst, ← jj, nth_add]
        exact hpr]
      dsimp only
      rw [jj] at hi
      have hil : i < L.length := by
        have h1 : i < t.place.toList.length := (List.getElem?_eq_some_iff.mp hi).1
        have h2 := R.tab.sz
        rw [List.length_map] at h2
        omega
      have hp : L[i]? = some L[i] := List.getElem?_eq_getElem hil
      generalize L[i] = p at hp
      have hmem : p ∈ L := List.mem_of_getElem? hp
      have hsl : t.slot (way t.mask (thash P w k) (c + q)) = .live i := slot_live R.tab.ris hi
      have rest : wpAny (model P w) A (searchRest a (.ref x) (thash P w k) adding f es t (way t.mask (thash P w k) (c + q)) i (nth t.mask b0 (c + (q + 1)))) Q E s := by
        unfold searchRest
        rw [R.at_ hp]
        dsimp only
        refine wpAny_bind (wpAny_holding (wpAny_eqBool_tuple hu (tup p hmem) hx ?_))
        refine wpAny_bind (wpAny_setState_of ho hd R.fits ?_)
        dsimp only
        have tail : wpAny (model P w) A (do
            let some same := t.sameMemory t.moves t.mask | unsupported "set.changed-during-lookup:is-the-new-block-at-the-old-address"
            let still ← match (if same then t.slot (way t.mask (thash P w k) (c + q)) else .empty) with
              | .live i' => match es[i']? with
                | some (_, y') => do pure (if ← isSame y' (.ref p.1) then some i' else none)
                | none => pure none
              | _ => pure none
            match still with
            | none => rule "set.search.anew"; setSearchFrom a (.ref x) (thash P w k) adding f none
            | some i' => if decide (p.2 = k) = true then return .there (some i') else setSearchFrom a (.ref x) (thash P w k) adding f (some (nth t.mask b0 (c + (q + 1))))) Q E s := by
          rw [sameMem]
          dsimp only
          simp only [if_true, hsl, R.at_ hp]
          refine wpAny_bind (wpAny_isSame_ref_self (wpAny_bind (wpAny_pure ?_)))
          simp only [if_true]
          by_cases hkk : p.2 = k
          · refine wp_if_pos (decide_eq_true hkk) ?_
            exact wpAny_pure (hin (List.mem_map.mpr ⟨p, hmem, hkk⟩) _ fun _ => rfl)
          · refine wp_if_neg (by simp [hkk]) ?_
            refine ih (c + (q + 1)) _ (by rw [← hb]; rfl) (by omega) (by omega) fun i0 p0 h0 hk0 => ?_
            obtain ⟨c', a1, a2, a3⟩ := hre i0 p0 h0 hk0
            refine ⟨c', ?_, a2, a3⟩
            by_cases z : c' < c + q
            · refine absurd ((hashAt i0 p0 h0).trans (congrArg (thash P w) hk0)) (hno (c' - c) i0 (by omega) ?_)
              rw [jj, show c + (c' - c) = c' by omega]
              exact a3
            · by_cases y : c' = c + q
              · rw [y] at a3
                have s0 := slot_live R.tab.ris a3
                rw [hsl] at s0
                injection s0 with s0
                rw [← s0, hp] at h0
                exact absurd ((congrArg Prod.snd (Option.some.inj h0)).trans hk0) hkk
              · omega
        by_cases had : adding = true ∧ p.2 = k
        · refine wp_if_pos (by simp [had.1, had.2]) ?_
          exact wpAny_pure (hin (List.mem_map.mpr ⟨p, hmem, had.2⟩) _ fun z => by rw [had.1] at z; cases z)
        · refine wp_if_neg (by simpa using had) ?_
          try refine wpAny_bind (wpAny_pure ?_)
          exact tail
      by_cases hl : t.led = true
      · refine wp_if_neg (by simp [hl]) ?_
        try refine wpAny_bind (wpAny_pure ?_)
        exact rest
      · refine wp_if_pos (by simp [hl]) ?_
        refine wpAny_bind (seen_tup hx (fun y hy => ?_) ?_)
        · obtain ⟨e, he, ee⟩ := List.mem_map.mp hy
          have he1 : e ∈ es ∧ e.1 = thash P w k := by simpa using he
          have he2 : e ∈ es.toList := by simpa using he1.1
          rw [R.rows] at he2
          obtain ⟨p2, hp2, e2⟩ := List.mem_map.mp he2
          exact ⟨p2.2, p2.1, by rw [← ee, ← e2], tup p2 hp2⟩
        · refine wp_if_neg (by decide) ?_
          try refine wpAny_bind (wpAny_pure ?_)
          exact rest
    · rw [show t.probe (fun i => (es[i]?.map (·.1)).getD 0) (thash P w k) (stand.getD (t.probeStart (thash P w k))) = some (.empty (way t.mask (thash P w k) K) none) by
        have e2 : way t.mask (thash P w k) K = (nth t.mask (nth t.mask b0 c) (K - c)).j := by rw [jj, show c + (K - c) = K by omega]
        rw [hst, e2]
        exact hpr]
      dsimp only
      refine wpAny_pure (hout fun hm => ?_)
      obtain ⟨p0, h0, hk0⟩ := List.mem_map.mp hm
      obtain ⟨i0, hi0, e0⟩ := List.getElem_of_mem h0
      have h00 : L[i0]? = some p0 := by rw [List.getElem?_eq_getElem hi0, e0]
      obtain ⟨c', a1, a2, a3⟩ := hre i0 p0 h00 hk0
      refine hno (c' - c) i0 (by omega) (by rw [jj, show c + (c' - c) = c' by omega]; exact a3) ?_
      exact (hashAt i0 p0 h00).trans (congrArg (thash P w) hk0)
theorem seek_at (R : BigR P w s.heap a L es ep t) (tup : ∀ p ∈ L, IsT P w s.heap p.2 p.1) {x : Addr} {k : List Int} (hx : IsT P w s.heap k x) (hu : A.units < cLine) (adding : Bool) {Q : SetFound → Shared → Prop}
    (hin : k ∈ L.map (·.2) → ∀ o, (adding = false → o.isSome = true) → Q (.there o) s) (hout : ∀ K, k ∉ L.map (·.2) → Free t (thash P w k) K → Q (.free (way t.mask (thash P w k) K) false) s) :
    wpAny (model P w) A (setSearch a (.ref x) (thash P w k) adding) Q E s := by
  have hroom := R.room
  obtain ⟨K, F⟩ := R.tab.free (by rw [List.length_map]; omega) (thash P w k)
  have hbig : K < 100000 := by
    have h1 := F.early
    have h2 := R.tab.good.small
    unfold SetTable.turns at h1
    omega
  unfold setSearch
  refine seek R tup hx hu F adding hin (fun hn => hout K hn F) 100000 0 none rfl (Nat.zero_le _) (by omega) fun i p hp hk => ?_
  have hi : (L.map fun p => thash P w p.2)[i]? = some (thash P w k) := by
    rw [List.getElem?_map, hp, ← hk]
    rfl
  have hil : i < t.place.toList.length := by
    have h1 : i < L.length := (List.getElem?_eq_some_iff.mp hp).1
    have h2 := R.tab.sz
    rw [List.length_map] at h2
    omega
  have hj := List.getElem?_eq_getElem hil
  obtain ⟨c, hc, e⟩ := R.tab.ahead F hi hj
  exact ⟨c, Nat.zero_le _, hc, by rw [hj, e]⟩
end
end Dn

set_option Elab.async false
set_option linter.all false
set_option maxRecDepth 100000
set_option maxHeartbeats 4000000
namespace Dn
open PySem PySem.Spec PyProof.Rows L2
theorem up5 : SetTable.sizeAbove (SetTable.grown 5) = 32 := by decide +kernel
theorem up19 : SetTable.sizeAbove (SetTable.grown 19) = 128 := by decide +kernel
theorem up77 : SetTable.sizeAbove (SetTable.grown 77) = 512 := by decide +kernel
theorem up307 : SetTable.sizeAbove (SetTable.grown 307) = 2048 := by decide +kernel
theorem line_big : 4096 ≤ sizeLine := by rw [sizeLine_eq]; omega
section
variable {P : Program} {w : World} {A : Around} {E : Value → Shared → Prop} {s : Shared} {a : Addr} {L : List (Addr × List Int)} {es : Array (Int × Value)} {ep : Nat} {t : SetTable}
theorem relay_big {o : Obj} (ho : s.heap.get? a = some o) (hex : o.ExactSet) (hd : o.data = .set es ep t) (hrows : es.toList = rowsOf P w L) (T : Tab t (L.map fun p => thash P w p.2)) (hfl : L.length ≤ t.mask)
    (pl : t.plain = true) (ld : w.params.followText "set-order" = true ∨ t.led = true) {wanted M : Nat} (hw : SetTable.sizeAbove wanted = M + 1) (G : Good M) (hn : L.length * 5 < M * 3) {Q : Unit → Shared → Prop}
    (hQ : ∀ h' L' es' ep' t', Heap.SameBut a s.heap h' → BigR P w h' a L' es' ep' t' → L'.Perm L → Q () { s with heap := h' }) : wpAny (model P w) A (setRelay a wanted) Q E s := by
  have hsl := rows_len hrows
  have hz := T.sz
  rw [List.length_map, Array.length_toList] at hz
  have hfits : t.fits es.size = true := by
    unfold SetTable.fits SetTable.fill
    rw [T.dm, Bool.and_eq_true, beq_iff_eq, decide_eq_true_eq]
    show t.place.size = es.size ∧ t.place.size + 0 ≤ t.mask
    omega
  have gs := G.small
  obtain ⟨t', order, e, hp, T', em, el, epl⟩ := laid_anew t (hs := es.map (·.1)) (wanted := wanted) (M := M) (by omega) G (by rw [Array.size_map, hsl]; omega)
  rw [Array.size_map, hsl] at hp
  obtain ⟨L2, r1, r2, r3⟩ := order_rows L es order hrows hp
  rw [← r3] at T'
  have hs2 : (order.filterMap (es[·]?)).size = es.size := by
    rw [rows_len r1, r2.length_eq, hsl]
  have lb := line_big
  rw [setRelay_eq]
  refine wpAny_bind (wpAny_setState_of ho hd hfits ?_)
  dsimp only
  refine wp_if_neg (by omega) ?_
  try refine wpAny_bind (wpAny_pure ?_)
  rw [e]
  dsimp only
  refine wpAny_bind ?_
  refine wp_if_neg (by rw [hs2]; simp) ?_
  try refine wpAny_bind (wpAny_pure ?_)
  refine wpAny_pure ?_
  dsimp only
  refine wpAny_storeSet_of ho hd ?_ (by rw [hs2, hsl]; omega)
  refine hQ _ L2 (order.filterMap (es[·]?)) (ep + 1) t' (Heap.SameBut.update ..) ⟨⟨_, store_at ho hd, ⟨hex.1, hex.2.1, hex.2.2⟩, rfl⟩, r1, T', by rw [epl]; exact pl, by rw [el]; exact ld, ?_⟩ r2
  rw [r2.length_eq, em]
  exact hn
theorem put_in (R : BigR P w s.heap a L es ep t) (tup : ∀ p ∈ L, IsT P w s.heap p.2 p.1) {x : Addr} {k : List Int} (hx : IsT P w s.heap k x) (hu : A.units < cLine) (hfew : L.length + 1 < 1000) {Q : Bool → Shared → Prop}
    (hQ : ∀ b h' L' es' ep' t', Heap.SameBut a s.heap h' → BigR P w h' a L' es' ep' t' → (∀ p ∈ L', p = (x, k) ∨ p ∈ L) → (∀ k', k' ∈ L'.map (·.2) ↔ k' = k ∨ k' ∈ L.map (·.2)) → L'.length ≤ L.length + 1 → Q b { s with heap := h' }) :
    wpAny (model P w) A (setAddHashed a (.ref x) (thash P w k)) Q E s := by
  obtain ⟨o, ho, hex, hd⟩ := R.ob
  have hsl := rows_len R.rows
  have hroom := R.room
  have lb := line_big
  unfold setAddHashed
  refine wpAny_holding ?_
  rw [show (100000 : Nat) = 99999 + 1 from rfl, setAddHashedIn_succ]
  refine wpAny_bind (wpAny_setState_of ho hd R.fits ?_)
  dsimp only
  refine wp_if_neg (by simp [byScan, Value.scannable]) ?_
  try refine wpAny_bind (wpAny_pure ?_)
  refine wpAny_bind (seek_at R tup hx hu true (fun hm o _ => ?_) fun K hm F => ?_)
  · dsimp only
    exact wpAny_pure (hQ false s.heap L es ep t (Heap.SameBut.refl a s.heap) R (fun _ z => .inr z) (fun k' => ⟨.inr, fun z => z.elim (fun e => e ▸ hm) id⟩) (Nat.le_succ _))
  · dsimp only
    refine wpAny_bind (wpAny_setState_of ho hd R.fits ?_)
    dsimp only
    obtain ⟨q2, q3, q9⟩ := R.tab.more F
    have hmask : (t.put (way t.mask (thash P w k) K)).1.mask = t.mask := rfl
    have hled : (t.put (way t.mask (thash P w k) K)).1.led = t.led := rfl
    have hpl : (t.put (way t.mask (thash P w k) K)).1.plain = true := R.plain
    have hsnd : (t.put (way t.mask (thash P w k) K)).2 = SetTable.below t.place (way t.mask (thash P w k) K) := rfl
    generalize t.put (way t.mask (thash P w k) K) = pt at q3 q9 hmask hled hpl hsnd ⊢
    obtain ⟨t1, p⟩ := pt
    dsimp only at q3 q9 hmask hled hpl hsnd ⊢
    subst hsnd
    first
      | (refine wpAny_bind ?_; refine wp_if_pos hpl ?_; refine hashBy_tup hx ?_)
      | refine wp_if_pos hpl (wpAny_bind (hashBy_tup hx ?_))
    simp only [if_true]
    have hin : (SetTable.insertAt es (SetTable.below t.place (way t.mask (thash P w k) K)) (thash P w k, Value.ref x)).toList = rowsOf P w (L.take (SetTable.below t.place (way t.mask (thash P w k) K)) ++ (x, k) :: L.drop (SetTable.below t.place (way t.mask (thash P w k) K))) := by
      rw [SetTable.toList_insertAt, rows_put, R.rows]
    generalize SetTable.below t.place (way t.mask (thash P w k) K) = p at q2 q3 hin ⊢
    have pm := put_perm L p (x, k)
    have hlen := pm.length_eq
    rw [List.length_cons] at hlen
    have T1 : Tab t1 ((L.take p ++ (x, k) :: L.drop p).map fun p => thash P w p.2) := by
      rw [List.map_append, List.map_cons, List.map_take, List.map_drop]
      exact q3
    have hes := rows_len hin
    rw [hlen] at hes
    rw [List.length_map] at q9
    generalize SetTable.insertAt es p (thash P w k, Value.ref x) = es1 at hin hes ⊢
    generalize L.take p ++ (x, k) :: L.drop p = L1 at pm hlen T1 hin
    refine wpAny_bind (wpAny_storeSet_of ho hd ?_ (by omega))
    have sb : Heap.SameBut a s.heap (s.heap.update a (Obj.putSet es1 t1)) := Heap.SameBut.update ..
    have ho1 := store_at (es' := es1) (t' := t1) ho hd
    generalize s.heap.update a (Obj.putSet es1 t1) = h1 at sb ho1 ⊢
    have fin : ∀ (L2 : List (Addr × List Int)), L2.Perm L1 → (∀ p ∈ L2, p = (x, k) ∨ p ∈ L) ∧ (∀ k', k' ∈ L2.map (·.2) ↔ k' = k ∨ k' ∈ L.map (·.2)) ∧ L2.length ≤ L.length + 1 := fun L2 p2 => by
      have pp := p2.trans pm
      refine ⟨fun p hp => List.mem_cons.mp (pp.mem_iff.mp hp), fun k' => ?_, by rw [pp.length_eq]; exact Nat.le_refl _⟩
      have q := (pp.map (·.2)).mem_iff (a := k')
      rw [List.map_cons, List.mem_cons] at q
      exact q
    by_cases hf : t1.tooFull = true
    · first
        | (refine wpAny_bind ?_; refine wp_if_pos (by simp [hf]) ?_)
        | (refine wp_if_pos (by simp [hf]) ?_; refine wpAny_bind ?_)
      have hfull : (L.length + 1) * 5 ≥ t1.mask * 3 := by
        have h := hf
        unfold SetTable.tooFull at h
        rw [decide_eq_true_eq, q9] at h
        exact h
      rw [hsl]
      have go : ∀ M, SetTable.sizeAbove (SetTable.grown (L.length + 1)) = M + 1 → Good M → L.length + 1 ≤ t1.mask → (L.length + 1) * 5 < M * 3 →
          wpAny (model P w) A (setRelay a (SetTable.grown (L.length + 1))) (fun _ s' => wpAny (model P w) A (pure true) Q E s') E { s with heap := h1 } := fun M g1 g2 g3 g4 => by
        refine relay_big (s := { s with heap := h1 }) ho1 ⟨hex.1, hex.2.1, hex.2.2⟩ rfl hin T1 (by rw [hlen]; exact g3) hpl (by rw [hled]; exact R.led) g1 g2 (by rw [hlen]; exact g4) fun h2 L2 es2 ep2 t2 sb2 R2 pm2 => ?_
        obtain ⟨f1, f2, f3⟩ := fin L2 pm2
        exact wpAny_pure (hQ true h2 L2 es2 ep2 t2 (sb.trans sb2) R2 f1 f2 f3)
      rw [hmask] at hfull go
      rcases R.tab.good.is with e | e | e | e | e <;> rw [e] at hfull hroom go
      · have e2 : L.length = 4 := by omega
        rw [e2] at go ⊢
        exact go 31 up5 good31 (by omega) (by omega)
      · have e2 : L.length = 18 := by omega
        rw [e2] at go ⊢
        exact go 127 up19 good127 (by omega) (by omega)
      · have e2 : L.length = 76 := by omega
        rw [e2] at go ⊢
        exact go 511 up77 good511 (by omega) (by omega)
      · have e2 : L.length = 306 := by omega
        rw [e2] at go ⊢
        exact go 2047 up307 good2047 (by omega) (by omega)
      · exfalso
        omega
    · first
        | refine wp_if_neg (by simp [hf]) ?_
        | (refine wpAny_bind ?_; refine wp_if_neg (by simp [hf]) ?_; refine wpAny_pure ?_)
      obtain ⟨f1, f2, f3⟩ := fin L1 (.refl _)
      refine wpAny_pure (hQ true h1 L1 es1 (ep + 1) t1 sb ⟨⟨_, ho1, ⟨hex.1, hex.2.1, hex.2.2⟩, rfl⟩, hin, T1, hpl, by rw [hled]; exact R.led, ?_⟩ f1 f2 f3)
      have h := hf
      unfold SetTable.tooFull at h
      rw [decide_eq_true_eq, q9] at h
      omega
/-- is it in -/
theorem is_in (R : BigR P w s.heap a L es ep t) (tup : ∀ p ∈ L, IsT P w s.heap p.2 p.1) {x : Addr} {k : List Int} (hx : IsT P w s.heap k x) (hu : A.units < cLine) {Q : Option Nat → Shared → Prop}
    (hQ : ∀ o : Option Nat, o.isSome = decide (k ∈ L.map (·.2)) → Q o s) : wpAny (model P w) A (setFind a (.ref x) (thash P w k)) Q E s := by
  obtain ⟨o, ho, hex, hd⟩ := R.ob
  unfold setFind
  rw [show (100000 : Nat) = 99999 + 1 from rfl]
  unfold setFindIn
  refine wpAny_bind (wpAny_setState_of ho hd R.fits ?_)
  dsimp only
  refine wp_if_neg (by simp [byScan, Value.scannable]) ?_
  try refine wpAny_bind (wpAny_pure ?_)
  refine wpAny_bind (seek_at R tup hx hu false (fun hm o ho => ?_) fun K hm F => ?_)
  · dsimp only
    exact wpAny_pure (hQ _ (by rw [ho rfl]; exact (decide_eq_true hm).symm))
  · dsimp only
    exact wpAny_pure (hQ _ (by rw [decide_eq_false hm]; rfl))
end
end Dn

set_option Elab.async false
set_option linter.all false
set_option maxRecDepth 100000
set_option maxHeartbeats 4000000
namespace Dn
open PySem PySem.Spec PyProof.Rows L2
/-! ### the set of tuples as the hand layer's own thing -/
structure Big0 (P : Program) (w : World) (h : Heap) (a : Addr) (L : List (Addr × List Int)) : Prop where
  ex : ∃ es ep t, BigR P w h a L es ep t
def BigO (P : Program) (w : World) (a : Addr) (L : List (Addr × List Int)) : HO := .ext fun h => Big0 P w h a L
theorem bigO_new {P : Program} {w : World} {H : Hp} {h : Heap} {a : Addr} {L : List (Addr × List Int)} (R : Big0 P w h a L) : ObjOk P w H h a (BigO P w a L) := by
  have ⟨es, ep, t, r⟩ := R.ex
  obtain ⟨o, ho, _⟩ := r.ob
  refine ⟨R, ⟨o, ho⟩, fun h1 h2 p k => ?_⟩
  have ⟨es', ep', t', r'⟩ := Big0.ex p
  obtain ⟨o', ho', q'⟩ := r'.ob
  exact ⟨es', ep', t', ⟨o', k o' ho', q'⟩, r'.rows, r'.tab, r'.plain, r'.led, r'.room⟩
theorem big_fresh {P : Program} {w : World} {h : Heap} {a : Addr} (ho : h.get? a = some { cls := .type "set", dict := none, data := .set #[] 0 (.fresh 0 0 (!w.params.followText "set-order")) }) : Big0 P w h a [] := by
  refine ⟨⟨#[], 0, .fresh 0 0 (!w.params.followText "set-order"), ⟨_, ho, ⟨rfl, rfl, rfl⟩, rfl⟩, rfl, ⟨List.Pairwise.nil, rfl, rfl, good7, fun i h j hi => by simp at hi⟩, rfl, ?_, by show 0 * 5 < 7 * 3; decide⟩⟩
  show _ ∨ (!w.params.followText "set-order") = true
  cases w.params.followText "set-order"
  · exact .inr rfl
  · exact .inl rfl
theorem uq {A : Around} (hu : A.units + 3 < cLine) : A.in1.units < cLine := by
  show A.units + 1 < cLine
  omega
section
variable {X : Cx}
def rSet0B (P : Program) (w : World) : List V → Hp → VK → Prop := fun xs H Q => xs = [] ∧ ∀ p, H p = none → Q (.ref p) (upd H p (BigO P w p []))
theorem cr_set0B : CallR X (.type "set") (rSet0B X.prog X.w) := by
  intro pins s σ H xs us Q I r h
  obtain ⟨rfl, q⟩ := h
  cases r
  refine setR_new fun _ => ?_
  exact ⟨.ref _, upd H s.heap.objs.size (BigO X.prog X.w s.heap.objs.size []), I.laid (t' := s.toks) (fun b u e => Heap.get?_push_of_some _ e) (Nat.le_refl _) (bigO_new (big_fresh (Heap.get?_push_size _ rfl))), rfl, q _ (I.hok.fresh (Nat.le_refl _))⟩
/-- one tuple more -/
def rAddB (K : PySem.W.Frag) (P : Program) (w : World) : V → List V → Hp → VK → Prop := fun x xs H Q => ∃ (a b : Addr) (k : List Int) (L : List (Addr × List Int)), x = V.ref a ∧ xs = [.ref b] ∧ H a = some (BigO P w a L) ∧ L.length + 1 < 1000 ∧ SqT K H b (k.map V.int) ∧ (∀ p ∈ L, SqT K H p.1 (p.2.map V.int)) ∧
  ∀ L', (∀ p ∈ L', p = (b, k) ∨ p ∈ L) → (∀ k', k' ∈ L'.map (·.2) ↔ k' = k ∨ k' ∈ L.map (·.2)) → L'.length ≤ L.length + 1 → Q .non (upd H a (BigO P w a L'))
theorem mt_addB (hu : X.A.units + 3 < cLine) : MtR X "set.add" (rAddB X.K X.prog X.w) := by
  intro pins s σ H x xs v us Q I rx rxs h
  obtain ⟨a, b, k, L, rfl, rfl, ha, room, hb, hL, q⟩ := h
  cases rx
  rw [Vals.ref1 rxs]
  have ⟨es, ep, t, R⟩ := Big0.ex (I.hok a _ ha).1
  have hT : s.TypeIs (.ref a) "set" := by
    obtain ⟨o, ho, hex, _⟩ := R.ob
    exact ⟨o, ho, hex.1⟩
  have hx := I.isT hb
  refine wpAny_call_entry F.slot_set_add hT F.entry_set_add ?_ (F.args_set_add_2 _ _)
  unfold Builtin.«set.add» Builtin.Frozenset.oneOther
  simp only [List.isEmpty_nil, bind_assoc]
  unfold Builtin.Frozenset.addrOf setAdd
  refine wpAny_bind (wpAny_pure ?_)
  try dsimp only
  refine wpAny_bind (wpAny_pure ?_)
  try dsimp only
  refine wpAny_bind ?_
  refine wpAny_holding ?_
  refine wpAny_bind (wpAny_pyHash_tuple (uq hu) hx ?_)
  refine put_in (s := { s with toks := s.toks + (k.length + 1) }) R (fun p hp => I.isT (hL p hp)) hx (uq hu) room fun bb h' L' es' ep' t' sb R' c1 c2 c3 => ?_
  show wpAny _ _ (ret Value.none) _ _ _
  have he : ∃ u, h'.get? a = some u := by
    obtain ⟨o, ho, _⟩ := R'.ob
    exact ⟨o, ho⟩
  exact wpAny_pure ⟨_, rfl, .non, upd H a (BigO X.prog X.w a L'), I.write (e := a) (t' := s.toks + (k.length + 1)) (by rw [ha]; trivial) (.inl rfl) (fun b u hb hu => (sb.2 b hb).trans hu) he (bigO_new ⟨⟨_, _, _, R'⟩⟩), rfl, q L' c1 c2 c3⟩
def tAddB (K : PySem.W.Frag) (P : Program) (w : World) (to : TE) (t : TA) : TE := fun σ H Q => to σ H fun x H1 => (∃ a L, x = V.ref a ∧ H1 a = some (BigO P w a L)) ∧ t σ H1 fun xs H2 => rAddB K P w x xs H2 Q
variable {o e : Expr} {es : List Expr} {to : TE} {t : TA} {apos cpos : Pos}
theorem pe_addB (hu : X.A.units + 3 < cLine) (ho : PE X o to) (ha : PA X (e :: es) t)
    (hbase : attributeBase o "add" X.env (eval o X.env) = eval o X.env := by rfl)
    (hfew : ((backTo cpos (starEach (e :: es) X.env)).all (fun x => !x.1) && (backToKw cpos (keywordEach [] X.env)).all (fun x => x.1.isSome)
      && decide ((e :: es).length + ([] : List Keyword).length + (if ([] : List Keyword).isEmpty then 0 else 1) < 30)) = true := by rfl)
    (hline : (apos.endLine == cpos.line) = true := by rfl) (hs : starEach (e :: es) X.env = (false, eval e X.env) :: starEach es X.env := by rfl) (hplain : (backTo cpos (starEach es X.env)).any (·.1) = false := by rfl) :
    PE X (.Call (.Attribute o "add" apos) (e :: es) [] cpos) (tAddB X.K X.prog X.w to t) := by
  refine ⟨fun pins s σ H Q I h => ?_⟩
  refine wpAny_Call_method_late hbase hfew hline rfl (thn (ho.run pins s σ H _ I h) fun v s1 ⟨x, H1, I1, r1, ty, q1⟩ => ?_)
  obtain ⟨a, L, rfl, hka⟩ := ty
  have ⟨es', ep, tt, R⟩ := Big0.ex (I1.hok a _ hka).1
  obtain ⟨o2, ho2, hex, _⟩ := R.ob
  cases r1
  refine ⟨"set", "set.add", F.plainAttrs_set, F.slot_set_add, F.type_set_add, ⟨o2, ho2, hex.1⟩, (fun b e => by injection e with e; subst e; exact ⟨o2, ho2, hex.2.1⟩), ?_⟩
  have hA := ha.run cpos pins s1 σ H1 _ I1 q1
  rw [hs] at hA ⊢
  refine Calls.callWith_builtin (by show (false || (backTo cpos (starEach es X.env)).any (·.1)) = false; rw [hplain] <;> rfl) (Calls.evalArgs_plain ?_)
  exact thn hA fun us s2 ⟨vs, H2, I2, r2, q2⟩ => mt_addB hu pins s2 σ H2 (.ref a) vs (.ref a) us Q I2 rfl r2 q2
/-- is the tuple in -/
def rInB (K : PySem.W.Frag) (P : Program) (w : World) : V → V → Hp → VK → Prop := fun x y H Q => ∃ (b : Addr) (k : List Int) (a : Addr) (L : List (Addr × List Int)), x = .ref b ∧ y = V.ref a ∧ SqT K H b (k.map V.int) ∧ H a = some (BigO P w a L) ∧ (∀ p ∈ L, SqT K H p.1 (p.2.map V.int)) ∧ Q (.bl (decide (k ∈ L.map (·.2)))) H
theorem or_inB (hu : X.A.units + 3 < cLine) : OpR X (compareOp .In) (rInB X.K X.prog X.w) := by
  intro pins s σ H x y v u Q I rx ry h
  obtain ⟨b, k, a, L, rfl, rfl, hb, ha, hL, q⟩ := h
  cases rx
  cases ry
  have ⟨es, ep, t, R⟩ := Big0.ex (I.hok a _ ha).1
  have hT : s.TypeIs (.ref a) "set" := by
    obtain ⟨o, ho, hex, _⟩ := R.ob
    exact ⟨o, ho, hex.1⟩
  have hx := I.isT hb
  show wpAny _ _ (do return Value.bool (← contains (.ref a) (.ref b))) _ _ s
  refine wpAny_bind ?_
  unfold contains
  try with_reducible refine wpAny_holding ?_
  refine wpAny_bind (wpAny_specialOf hT F.slot_set_contains.lookup ?_)
  show wpAny _ _ (if (some (Value.builtin "set.__contains__") == some Value.none) = true then _ else _) _ _ s
  rw [if_neg (by rw [beq_builtin_none]; exact Bool.false_ne_true)]
  refine wpAny_bind (wpAny_callSpecialUnlessNone?_slot (name := Str.ofString "__contains__") hT F.slot_set_contains
    (wpAny_call_entry F.slot_set_contains hT entry_set_contains ?_ (F.args_set_contains_2 _ _)))
  unfold Builtin.«frozenset.__contains__» Builtin.Frozenset.oneOther
  simp only [List.isEmpty_nil, bind_assoc]
  unfold Builtin.Frozenset.addrOf Builtin.Frozenset.withSetAsKey setContains
  refine wpAny_bind (wpAny_pure ?_)
  try dsimp only
  refine wpAny_bind (wpAny_pure ?_)
  try dsimp only
  refine wpAny_bind (wpAny_tryCatch ?_)
  refine wpAny_holding ?_
  refine wpAny_bind (wpAny_pyHash_tuple (uq hu) hx ?_)
  refine wpAny_bind (is_in (s := { s with toks := s.toks + (k.length + 1) }) R (fun p hp => I.isT (hL p hp)) hx (uq hu) fun r hr => ?_)
  refine wpAny_pure ?_
  show wpAny _ _ (ret (Value.bool r.isSome)) _ _ _
  rw [hr]
  exact wpAny_pure ⟨_, rfl, wpAny_truthy_bool (wpAny_pure ⟨.bl _, H, I.tok _, rfl, q⟩)⟩
end
end Dn

set_option Elab.async false
set_option linter.all false
set_option maxRecDepth 100000
set_option maxHeartbeats 4000000
namespace Dn
open PySem PySem.Spec PyProof.Rows L2 SrtO
/-! ### sorted(a tuple of ints) -/
section
variable {prog : Program} {w : World} {A : Around} {E : Value → Shared → Prop} {s : Shared}
theorem gather_tup {l : Addr} {vs : List Value} {Q : List Value → Shared → Prop} (hl : s.heap.IsTuple l vs.toArray) (hsz : vs.length ≤ sizeLine)
    (h : Q vs { s with heap := (s.heap.push (seqObj "list" #[] 0)).update s.heap.objs.size (Obj.mapSeq (· ++ vs.toArray)) }) : wpAny (model prog w) A (collect (.ref l)) Q E s := by
  obtain ⟨o, ho, hc, n, hd⟩ := id hl
  have hn := Heap.get?_push_size s.heap (o := seqObj "list" #[] 0) rfl
  unfold collect
  refine wpAny_bind (wpAny_runValue (codeAny_builtin entry_proto_collect' ?_))
  show wpAny _ _ (do again (.builtin "list.__iadd__" ⟨[← newList [], .ref l], []⟩)) _ _ s
  refine wpAny_bind (wpAny_newList (wpAny_pure ⟨Code.quiet_builtin _ (by decide +kernel), codeAny_builtin entry_list_iadd' ?_⟩))
  show wpAny _ _ (Builtin.List.listExtendWith (.ref s.heap.objs.size) (.ref l) (.ref s.heap.objs.size)) _ _ { s with heap := s.heap.push (seqObj "list" #[] 0) }
  unfold Builtin.List.listExtendWith
  have ho' : (s.heap.push (seqObj "list" #[] 0)).get? l = some o := Heap.get?_push_of_some _ ho
  refine wpAny_bind (wpAny_typeOf (T := "tuple") ⟨o, ho', hc⟩ ?_)
  have ht : (Value.type "tuple" == Value.type "tuple") = true := by rfl
  rw [if_pos (by rw [ht]; simp)]
  refine wpAny_bind (listItems_at ho' hd ?_)
  refine wpAny_bind (listItems_at (xs := #[]) (n := 0) hn rfl ?_)
  rw [if_neg (by simp)]
  refine wpAny_bind (listUpdate_at (xs := #[]) (n := 0) hn rfl ?_ (Nat.zero_le _) (by show (#[] ++ vs.toArray).size ≤ sizeLine + 1; simp only [Array.size_append, List.size_toArray, List.length_nil]; omega))
  refine wpAny_pure ?_
  show wpAny (model prog w) A (do
      let o ← load s.heap.objs.size
      match o.data with
      | .seq xs _ => pure xs.toList
      | _ => unsupported "internal:collect") Q E { s with heap := (s.heap.push (seqObj "list" #[] 0)).update s.heap.objs.size (Obj.mapSeq (· ++ vs.toArray)) }
  refine wpAny_bind (wpAny_load (get?_update_seq hn _) ?_)
  show wpAny _ _ (pure ((#[] : Array Value) ++ vs.toArray).toList) Q E _
  rw [show ((#[] : Array Value) ++ vs.toArray).toList = vs by simp]
  exact wpAny_pure h
theorem sorted_tup {l : Addr} {vs : List Value} {ltv : Value → Value → Bool} {Q : Value → Shared → Prop} (O : Swo ltv) (hl : s.heap.IsTuple l vs.toArray) (hz : vs.length ≤ sizeLine)
    (hS : 2 ≤ vs.length → ∀ (h₁ : Heap) (a : Addr), SortableO prog w A.in1.in1 { s with heap := h₁ } a vs ltv)
    (h : ∀ out : List Value, Srtd ltv out → Stb ltv out vs → Q (.ref (s.heap.objs.size + 1)) { s with heap := sortedAll s.heap vs out.toArray }) : wpAny (model prog w) A (call (.builtin "sorted") [.ref l]) Q E s := by
  refine Calls.call_function_entry kind_sorted plain_sorted entry_sorted (args_sorted1 _) ?_
  unfold Builtin.«sorted»
  refine wpAny_bind (m := checkCount "sorted" 1 1 _) (wpAny_pure ?_)
  refine wpAny_bind (gather_tup hl hz ?_)
  refine wpAny_bind (wpAny_newList ?_ hz)
  have hsz : ((s.heap.push (seqObj "list" #[] 0)).update s.heap.objs.size (Obj.mapSeq (· ++ vs.toArray))).objs.size = s.heap.objs.size + 1 := by
    rw [Heap.size_update, size_push']
  have hoL : (((s.heap.push (seqObj "list" #[] 0)).update s.heap.objs.size (Obj.mapSeq (· ++ vs.toArray))).push (seqObj "list" vs.toArray 0)).get? (s.heap.objs.size + 1) = some (seqObj "list" vs.toArray 0) := by
    rw [← hsz]
    exact Heap.get?_push_size _ rfl
  show wpAny _ _ _ _ _ { s with heap := ((s.heap.push (seqObj "list" #[] 0)).update s.heap.objs.size (Obj.mapSeq (· ++ vs.toArray))).push (seqObj "list" vs.toArray 0) }
  rw [hsz]
  refine wpAny_bind (wpAny_holding (wpAny_call_entry slot_list_sort ⟨_, hoL, rfl⟩ entry_list_sort (list_sort_ord O hoL hz (fun h2 => hS h2 _ _) fun out hs hb => ⟨_, rfl, ?_⟩) (args_list_sort _)))
  exact wpAny_pure ⟨_, rfl, h out hs hb⟩
end
section
variable {X : Cx}
def rSortedIT (K : PySem.W.Frag) : List V → Hp → VK → Prop := fun vs H Q => ∃ (a : Addr) (ns : List Int), vs = [V.ref a] ∧ SqT K H a (ns.map V.int) ∧
  ∀ (ns' : List Int) (p : Addr), ns'.Perm ns → ns'.Pairwise (· ≤ ·) → H p = none → Q (.ref p) (upd H p (.lst (ns'.map V.int)))
theorem cr_sortedIT : CallR X (.builtin "sorted") (rSortedIT X.K) := by
  intro pins s σ H vs us Q I r h
  obtain ⟨a, ns, rfl, hs, q⟩ := h
  obtain ⟨its, rv, hl, hz⟩ := I.tuple hs
  rw [Vals.ref1 r]
  have hi := rv.ints
  refine sorted_tup SrtO.swo_int hl (by rw [← rv.length]; exact hz) (fun h2 h₁ a' => SrtO.ints_sortable hi h2) fun out h1 h2 => ?_
  obtain ⟨k1, k2, k3⟩ := SrtO.ints_out hi h1 h2
  obtain ⟨ep, he'⟩ := PyProof.Rows.sortedAll_at s.heap its out.toArray
  have hlen : ((out.map SrtO.iv).map V.int).length ≤ sizeLine := by
    rw [List.length_map, k2.length_eq]
    rw [List.length_map] at hz
    exact hz
  exact ⟨.ref _, upd H (s.heap.objs.size + 1) (.lst ((out.map SrtO.iv).map V.int)), I.laid (t' := s.toks) (fun _ _ => PyProof.Rows.sortedAll_old) (Nat.le_succ _) ⟨hlen, out, ep, vals_of_ints k1, he'⟩, rfl, q _ _ k2 k3 (I.hok.fresh (Nat.le_succ _))⟩
end
end Dn

set_option Elab.async false
set_option linter.all false
set_option maxRecDepth 100000
set_option maxHeartbeats 4000000
namespace Dn
open PySem PySem.Spec PyProof.Rows L2
/-! ### min, max, sum of a told pair of ints -/
section
variable {X : Cx}
def rMin2T (K : PySem.W.Frag) : List V → Hp → VK → Prop := fun vs H Q => ∃ (a : Addr) (i j : Int), vs = [V.ref a] ∧ SqT K H a [.int i, .int j] ∧ Q (.int (min i j)) H
def rMax2T (K : PySem.W.Frag) : List V → Hp → VK → Prop := fun vs H Q => ∃ (a : Addr) (i j : Int), vs = [V.ref a] ∧ SqT K H a [.int i, .int j] ∧ Q (.int (max i j)) H
def rSum2T (K : PySem.W.Frag) : List V → Hp → VK → Prop := fun vs H Q => ∃ (a : Addr) (ns : List Int), vs = [V.ref a] ∧ SqT K H a (ns.map V.int) ∧ Q (.int ns.sum) H
theorem alike2 (i j : Int) : PySem.W.AlikeAll [PyData.int i, .int j] := by
  refine ⟨fun x hx y hy => ?_, fun x hx => ?_⟩
  · simp only [List.mem_cons, List.not_mem_nil, or_false] at hx hy
    rcases hx with rfl | rfl <;> rcases hy with rfl | rfl <;> rfl
  · simp only [List.mem_cons, List.not_mem_nil, or_false] at hx
    rcases hx with rfl | rfl <;> exact fun z => by cases z
theorem reads2 {h : Heap} (i j : Int) (t t' : Tok) : ReadsAll h [Value.int i t, .int j t'] [PyData.int i, .int j] ([] ++ ([] ++ [])) := .cons (.int i t) (.cons (.int j t') .nil)
theorem cr_min2T (hc : X.calm = true) (hu : X.A.units + 3 < cLine) : CallR X (.builtin "min") (rMin2T X.K) := by
  intro pins s σ H vs us Q I r h
  obtain ⟨a, i, j, rfl, hs, q⟩ := h
  obtain ⟨its, rv, hl, _⟩ := I.tuple hs
  rw [Vals.ref1 r]
  obtain ⟨u, v, rfl, ⟨t, rfl⟩, ⟨t', rfl⟩⟩ := vals2 rv
  refine PySem.W.min_tuple_data (x := .int i) (xs := [.int j]) (I.ok.hd hc) hl (reads2 i j t t') (alike2 i j) (by show X.A.units + 1 + 0 < cLine; omega) fun k v h' tk bs _ rd hk => ?_
  have e : PySem.W.minD (.int i) [PyData.int j] = .int (min i j) := PySem.W.minD_ints i [j]
  rw [e] at rd
  cases rd with
  | int _ t2 => exact ⟨.int (min i j), H, I.kept hk, ⟨_, rfl⟩, q⟩
theorem cr_max2T (hc : X.calm = true) (hu : X.A.units + 3 < cLine) : CallR X (.builtin "max") (rMax2T X.K) := by
  intro pins s σ H vs us Q I r h
  obtain ⟨a, i, j, rfl, hs, q⟩ := h
  obtain ⟨its, rv, hl, _⟩ := I.tuple hs
  rw [Vals.ref1 r]
  obtain ⟨u, v, rfl, ⟨t, rfl⟩, ⟨t', rfl⟩⟩ := vals2 rv
  refine PySem.W.max_tuple_data (x := .int i) (xs := [.int j]) (I.ok.hd hc) hl (reads2 i j t t') (alike2 i j) (by show X.A.units + 1 + 0 < cLine; omega) fun k v h' tk bs _ rd hk => ?_
  have e : PySem.W.maxD (.int i) [PyData.int j] = .int (max i j) := PySem.W.maxD_ints i [j]
  rw [e] at rd
  cases rd with
  | int _ t2 => exact ⟨.int (max i j), H, I.kept hk, ⟨_, rfl⟩, q⟩
theorem cr_sum2T (hc : X.calm = true) : CallR X (.builtin "sum") (rSum2T X.K) := by
  intro pins s σ H vs us Q I r h
  obtain ⟨a, ns, rfl, hs, q⟩ := h
  obtain ⟨its, rv, hl, _⟩ := I.tuple hs
  rw [Vals.ref1 r]
  have hi := rv.ints
  obtain ⟨xs, e⟩ := hi.allInts.items
  have hn : numsOf (intItems xs).toList = ns := by rw [← e]; exact hi.numsOf
  rw [nums_intItems] at hn
  rw [e] at hl
  refine PySem.W.ktm_sumG (I.ok.hd hc) hl fun h' tk t' hk => ?_
  rw [preSum_eq, List.take_of_length_le (by simp), hn]
  exact ⟨.int _, H, I.kept hk, ⟨_, rfl⟩, q⟩
end
end Dn

set_option Elab.async false
set_option linter.all false
set_option maxRecDepth 100000
set_option maxHeartbeats 4000000
namespace Dn
open PySem PySem.Spec PyProof.Rows L2
abbrev D := PyData
/-- what a text's run has around it: tables of code objects that grow, the classes of errors -/
class En where
  tb : Addr → Prop
  cl : Nat → Addr
  sc : Addr
variable [En]
/-- a caught error of the class C at a -/
def ExE (C a : Addr) : HO := .ext fun h => ∃ (oe : Obj) (vs : Array Value), h.get? a = some oe ∧ Zc (.ref C) none oe ∧ oe.data = .fields vs
def excD (c : Nat) : D := .dict [(.int (c : Int), .none)]
/-! lists of rounds, as they lie in a heap -/
def gmA (g : Int × Int) : D := .tuple [.int g.1, .int g.2]
def rdA (gs : List (Int × Int)) : D := .list (gs.map gmA)
def stA (R : List (List (Int × Int))) : D := .list (R.map rdA)
def SeesG (F : Hp) (g : Int × Int) (v : V) : Prop := ∃ a, v = .ref a ∧ F a = some (.tup [.int g.1, .int g.2])
def SeesGs (F : Hp) : List (Int × Int) → List V → Prop
  | [], [] => True
  | g :: gs, v :: vs => SeesG F g v ∧ SeesGs F gs vs
  | _, _ => False
def SeesRd (F : Hp) (gs : List (Int × Int)) (v : V) : Prop := ∃ a xs, v = .ref a ∧ F a = some (.lst xs) ∧ SeesGs F gs xs
def SeesRds (F : Hp) : List (List (Int × Int)) → List V → Prop
  | [], [] => True
  | g :: gs, v :: vs => SeesRd F g v ∧ SeesRds F gs vs
  | _, _ => False
def SeesSt (F : Hp) (gs : List (List (Int × Int))) (v : V) : Prop := ∃ a xs, v = .ref a ∧ F a = some (.lst xs) ∧ SeesRds F gs xs
def SeesSts (F : Hp) : List (List (List (Int × Int))) → List V → Prop
  | [], [] => True
  | g :: gs, v :: vs => SeesSt F g v ∧ SeesSts F gs vs
  | _, _ => False
/-- a season of c clubs and its stages, as data -/
def ssnD (c : Nat) (Rs : List (List (List (Int × Int)))) : D := .dict [(.int (-(c : Int) - 1), .list (Rs.map stA))]
/-- a season at a, its list of stages seen -/
def SeesSn (F : Hp) (c : Nat) (Rs : List (List (List (Int × Int)))) (a : Addr) : Prop := ∃ dx l vs, F a = some (.ins En.sc dx [("_clubs", .int (c : Int)), ("_stages", .ref l)]) ∧ F dx = some (.own a) ∧ F l = some (.lst vs) ∧ SeesSts F Rs vs
section
variable {F F' : Hp}
theorem SeesGs.mono (e : Same F F') : ∀ (gs : List (Int × Int)) (vs : List V), SeesGs F gs vs → SeesGs F' gs vs
  | [], [], h => h
  | [], _ :: _, h => h
  | _ :: _, [], h => h
  | _ :: gs, _ :: vs, h => by
    obtain ⟨a, h1, h2⟩ := h.1
    exact ⟨⟨a, h1, e _ _ h2⟩, SeesGs.mono e gs vs h.2⟩
theorem SeesRds.mono (e : Same F F') : ∀ (gs : List (List (Int × Int))) (vs : List V), SeesRds F gs vs → SeesRds F' gs vs
  | [], [], h => h
  | [], _ :: _, h => h
  | _ :: _, [], h => h
  | g :: gs, _ :: vs, h => by
    obtain ⟨a, xs, h1, h2, h3⟩ := h.1
    exact ⟨⟨a, xs, h1, e _ _ h2, SeesGs.mono e g xs h3⟩, SeesRds.mono e gs vs h.2⟩
theorem SeesSts.mono (e : Same F F') : ∀ (gs : List (List (List (Int × Int)))) (vs : List V), SeesSts F gs vs → SeesSts F' gs vs
  | [], [], h => h
  | [], _ :: _, h => h
  | _ :: _, [], h => h
  | g :: gs, _ :: vs, h => by
    obtain ⟨a, xs, h1, h2, h3⟩ := h.1
    exact ⟨⟨a, xs, h1, e _ _ h2, SeesRds.mono e g xs h3⟩, SeesSts.mono e gs vs h.2⟩
theorem SeesSn.mono {c : Nat} {Rs : List (List (List (Int × Int)))} {a : Addr} (e : Same F F') (h : SeesSn F c Rs a) : SeesSn F' c Rs a := by
  obtain ⟨dx, l, vs, h1, h2, h3, h4⟩ := h
  exact ⟨dx, l, vs, e _ _ h1, e _ _ h2, e _ _ h3, h4.mono e⟩
end

/-! ### data as it lies in a heap -/
mutual
def Sees (K : PySem.W.Frag) (F : Hp) : D → V → Prop
  | .none, v => v = .non
  | .bool b, v => v = .bl b
  | .int i, v => v = .int i
  | .str x, v => v = .str x
  | .list ds, v => ∃ a xs, v = .ref a ∧ F a = some (.lst xs) ∧ SeesL K F ds xs
  | .tuple ds, v => ∃ a xs, v = .ref a ∧ F a = some (.tup xs) ∧ SeesL K F ds xs
  | .dict kvs, v => ∃ a, v = .ref a ∧ ((kvs = [] ∧ F a = some (.dK [])) ∨ (∃ ns : List Int, kvs = [(.none, .list (ns.map .int))] ∧ SqL K F a (ns.map V.int)) ∨ (∃ c : Nat, kvs = [(.int (c : Int), .none)] ∧ F a = some (ExE (En.cl c) a)) ∨ ∃ (c : Nat) (Rs : List (List (List (Int × Int)))), kvs = [(.int (-(c : Int) - 1), .list (Rs.map stA))] ∧ SeesSn F c Rs a)
def SeesL (K : PySem.W.Frag) (F : Hp) : List D → List V → Prop
  | [], [] => True
  | d :: ds, x :: xs => Sees K F d x ∧ SeesL K F ds xs
  | _, _ => False
end
/-- the script as data -/
def scrD (ns : List Int) : D := .dict [(.none, .list (ns.map .int))]

section
variable {K : PySem.W.Frag} {F F' H H' : Hp}
theorem same_sq {a : Addr} {xs : List V} (e : Same F F') (h : SqL K F a xs) : SqL K F' a xs := e.seq h
mutual
theorem Sees.mono (e : Same F F') : ∀ (d : D) (v : V), Sees K F d v → Sees K F' d v
  | .none, _, h => h
  | .bool _, _, h => h
  | .int _, _, h => h
  | .str _, _, h => h
  | .list ds, _, h => by
    obtain ⟨a, xs, h1, h2, h3⟩ := h
    exact ⟨a, xs, h1, e _ _ h2, SeesL.mono e ds xs h3⟩
  | .tuple ds, _, h => by
    obtain ⟨a, xs, h1, h2, h3⟩ := h
    exact ⟨a, xs, h1, e _ _ h2, SeesL.mono e ds xs h3⟩
  | .dict kvs, _, h => by
    obtain ⟨a, h1, h2⟩ := h
    refine ⟨a, h1, ?_⟩
    rcases h2 with ⟨h3, h4⟩ | ⟨ns, h3, h4⟩ | ⟨c, h3, h4⟩ | ⟨c, Rs, h3, h4⟩
    · exact .inl ⟨h3, e _ _ h4⟩
    · exact .inr (.inl ⟨ns, h3, e.seq h4⟩)
    · exact .inr (.inr (.inl ⟨c, h3, e _ _ h4⟩))
    · exact .inr (.inr (.inr ⟨c, Rs, h3, h4.mono e⟩))
theorem SeesL.mono (e : Same F F') : ∀ (ds : List D) (vs : List V), SeesL K F ds vs → SeesL K F' ds vs
  | [], [], h => h
  | [], _ :: _, h => h
  | _ :: _, [], h => h
  | d :: ds, v :: vs, h => ⟨Sees.mono e d v h.1, SeesL.mono e ds vs h.2⟩
end
theorem SeesL.length : ∀ {ds : List D} {vs : List V}, SeesL K F ds vs → ds.length = vs.length
  | [], [], _ => rfl
  | [], _ :: _, h => h.elim
  | _ :: _, [], h => h.elim
  | _ :: ds, _ :: vs, h => by rw [List.length_cons, List.length_cons, SeesL.length h.2]
theorem SeesL.get : ∀ {ds : List D} {vs : List V} {i : Nat} {d : D}, SeesL K F ds vs → ds[i]? = some d → ∃ v, vs[i]? = some v ∧ Sees K F d v
  | [], [], _, _, _, e => by simp at e
  | [], _ :: _, _, _, h, _ => h.elim
  | _ :: _, [], _, _, h, _ => h.elim
  | _ :: _, v :: _, 0, _, h, e => by
    have e' := Option.some.inj e
    subst e'
    exact ⟨v, rfl, h.1⟩
  | _ :: _, _ :: _, i + 1, _, h, e => SeesL.get (i := i) h.2 e
theorem SeesL.app : ∀ {ds : List D} {vs : List V} {es : List D} {us : List V}, SeesL K F ds vs → SeesL K F es us → SeesL K F (ds ++ es) (vs ++ us)
  | [], [], _, _, _, h => h
  | [], _ :: _, _, _, h, _ => h.elim
  | _ :: _, [], _, _, h, _ => h.elim
  | _ :: _, _ :: _, _, _, h, h' => ⟨h.1, SeesL.app h.2 h'⟩
theorem SeesL.one {d : D} {v : V} (h : Sees K F d v) : SeesL K F [d] [v] := ⟨h, True.intro⟩
theorem SeesL.drop : ∀ {ds : List D} {vs : List V} (n : Nat), SeesL K F ds vs → SeesL K F (ds.drop n) (vs.drop n)
  | _, _, 0, h => h
  | [], [], _ + 1, _ => True.intro
  | [], _ :: _, _ + 1, h => h.elim
  | _ :: _, [], _ + 1, h => h.elim
  | _ :: _, _ :: _, n + 1, h => SeesL.drop n h.2
theorem SeesL.take : ∀ {ds : List D} {vs : List V} (n : Nat), SeesL K F ds vs → SeesL K F (ds.take n) (vs.take n)
  | _, _, 0, _ => True.intro
  | [], [], _ + 1, _ => True.intro
  | [], _ :: _, _ + 1, h => h.elim
  | _ :: _, [], _ + 1, h => h.elim
  | _ :: _, _ :: _, n + 1, h => ⟨h.1, SeesL.take n h.2⟩
theorem SeesL.reverse : ∀ {ds : List D} {vs : List V}, SeesL K F ds vs → SeesL K F ds.reverse vs.reverse
  | [], [], _ => True.intro
  | [], _ :: _, h => h.elim
  | _ :: _, [], h => h.elim
  | d :: ds, v :: vs, h => by
    rw [List.reverse_cons, List.reverse_cons]
    exact (SeesL.reverse h.2).app (SeesL.one h.1)
theorem SeesL.set {d : D} {v : V} (h' : Sees K F d v) : ∀ {ds : List D} {vs : List V} (n : Nat), SeesL K F ds vs → SeesL K F (ds.set n d) (vs.set n v)
  | [], [], _, _ => True.intro
  | [], _ :: _, _, h => h.elim
  | _ :: _, [], _, h => h.elim
  | _ :: _, _ :: _, 0, h => ⟨h', h.2⟩
  | _ :: _, _ :: _, n + 1, h => ⟨h.1, SeesL.set h' n h.2⟩
/-- from the values to the data -/
theorem SeesL.ints : ∀ {ns : List Int} {vs : List V}, SeesL K F (ns.map .int) vs → vs = ns.map V.int
  | [], [], _ => rfl
  | [], _ :: _, h => h.elim
  | _ :: _, [], h => h.elim
  | n :: ns, v :: vs, h => by
    have e : v = V.int n := h.1
    rw [e, SeesL.ints h.2]
    rfl
theorem SeesL.of_ints : ∀ (ns : List Int), SeesL K F (ns.map .int) (ns.map V.int)
  | [] => True.intro
  | _ :: ns => ⟨rfl, SeesL.of_ints ns⟩
theorem SeesL.bls : ∀ {ns : List Bool} {vs : List V}, SeesL K F (ns.map .bool) vs → vs = ns.map V.bl
  | [], [], _ => rfl
  | [], _ :: _, h => h.elim
  | _ :: _, [], h => h.elim
  | n :: ns, v :: vs, h => by
    have e : v = V.bl n := h.1
    rw [e, SeesL.bls h.2]
    rfl

/-! ### no list, no dict in it -/
mutual
def noList : D → Bool
  | .list _ => false
  | .dict _ => false
  | .tuple ds => noListL ds
  | _ => true
def noListL : List D → Bool
  | [] => true
  | d :: ds => noList d && noListL ds
end
/-! no dict in it -/
mutual
def plain : D → Bool
  | .dict _ => false
  | .list ds => plainL ds
  | .tuple ds => plainL ds
  | _ => true
def plainL : List D → Bool
  | [] => true
  | d :: ds => plain d && plainL ds
end
mutual
theorem Sees.dp (e : Same F H) : ∀ (d : D) (v : V), plain d = true → Sees K F d v → Dp K H v d
  | .none, _, _, h => by
    rw [show _ = V.non from h]
    exact .non
  | .bool b, _, _, h => by
    rw [show _ = V.bl b from h]
    exact .bl b
  | .int i, _, _, h => by
    rw [show _ = V.int i from h]
    exact .int i
  | .str x, _, _, h => by
    rw [show _ = V.str x from h]
    exact .str x
  | .list ds, _, p, h => by
    obtain ⟨a, xs, h1, h2, h3⟩ := h
    rw [h1]
    exact .lst (SqL.of (e _ _ h2)) (SeesL.dp e ds xs p h3)
  | .tuple ds, _, p, h => by
    obtain ⟨a, xs, h1, h2, h3⟩ := h
    rw [h1]
    exact .tup (SqT.of (e _ _ h2)) (SeesL.dp e ds xs p h3)
  | .dict _, _, p, _ => by
    exact absurd (show false = true from p) Bool.false_ne_true
theorem SeesL.dp (e : Same F H) : ∀ (ds : List D) (vs : List V), plainL ds = true → SeesL K F ds vs → DpAll K H vs ds
  | [], [], _, _ => .nil
  | [], _ :: _, _, h => h.elim
  | _ :: _, [], _, h => h.elim
  | d :: ds, v :: vs, p, h => by
    have p' : (plain d && plainL ds) = true := p
    rw [Bool.and_eq_true] at p'
    exact .cons (Sees.dp e d v p'.1 h.1) (SeesL.dp e ds vs p'.2 h.2)
end
/-! where the tuples are, data without lists are -/
mutual
theorem Sees.tups (e : ∀ a xs, F a = some (.tup xs) → F' a = some (.tup xs)) : ∀ (d : D) (v : V), noList d = true → Sees K F d v → Sees K F' d v
  | .none, _, _, h => h
  | .bool _, _, _, h => h
  | .int _, _, _, h => h
  | .str _, _, _, h => h
  | .list _, _, p, _ => absurd (show false = true from p) Bool.false_ne_true
  | .dict _, _, p, _ => absurd (show false = true from p) Bool.false_ne_true
  | .tuple ds, _, p, h => by
    obtain ⟨a, xs, h1, h2, h3⟩ := h
    exact ⟨a, xs, h1, e _ _ h2, SeesL.tups e ds xs p h3⟩
theorem SeesL.tups (e : ∀ a xs, F a = some (.tup xs) → F' a = some (.tup xs)) : ∀ (ds : List D) (vs : List V), noListL ds = true → SeesL K F ds vs → SeesL K F' ds vs
  | [], [], _, h => h
  | [], _ :: _, _, h => h
  | _ :: _, [], _, h => h
  | d :: ds, v :: vs, p, h => by
    have p' : (noList d && noListL ds) = true := p
    rw [Bool.and_eq_true] at p'
    exact ⟨Sees.tups e d v p'.1 h.1, SeesL.tups e ds vs p'.2 h.2⟩
end
end

/-! ### how heaps grow -/
def isTup : Option HO → Prop
  | some (.tup _) => True
  | _ => False
def isTT : Option HO → Prop
  | some (.tup _) => True
  | some (.tbl _) => True
  | _ => False
def isTb : HO → Prop
  | .tbl _ => True
  | _ => False
theorem isTup.tt {o : Option HO} (h : isTup o) : isTT o := by
  cases o with
  | none => exact h.elim
  | some o => cases o <;> first | exact h.elim | exact h
theorem isTb.tt {o : HO} (h : isTb o) : isTT (some o) := by
  cases o <;> first | exact h.elim | exact h
/-- what stood stands, but for tables, which may grow -/
def SameT (H H' : Hp) : Prop := ∀ a o, H a = some o → H' a = some o ∨ (GxR.TabG H a ∧ GxR.TabG H' a)
theorem Same.t {H H' : Hp} (e : Same H H') : SameT H H' := fun a o h => .inl (e a o h)
theorem SameT.refl (H : Hp) : SameT H H := fun _ _ h => .inl h
theorem SameT.get {H H' : Hp} {a : Addr} {o : HO} (e : SameT H H') (h : H a = some o) (n : ¬ isTb o := by exact fun z => z) : H' a = some o := by
  rcases e a o h with z | ⟨⟨ps, z, _⟩, _⟩
  · exact z
  · rw [h] at z
    have z2 := Option.some.inj z
    subst z2
    exact absurd True.intro n
theorem SameT.tab {H H' : Hp} {a : Addr} (e : SameT H H') (h : GxR.TabG H a) : GxR.TabG H' a := by
  obtain ⟨ps, z, t⟩ := h
  rcases e a _ z with y | ⟨_, y⟩
  · exact ⟨ps, y, t⟩
  · exact y
theorem SameT.trans {H H' H2 : Hp} (e : SameT H H') (e' : SameT H' H2) : SameT H H2 := fun a o h => by
  rcases e a o h with y | ⟨y1, y2⟩
  · rcases e' a o y with z | ⟨z1, z2⟩
    · exact .inl z
    · obtain ⟨ps, q, t⟩ := z1
      exact .inr ⟨⟨ps, by rw [h, ← y]; exact q, t⟩, z2⟩
  · exact .inr ⟨y1, e'.tab y2⟩
theorem SameT.free {H H' : Hp} {a : Addr} (e : SameT H H') (h : H' a = none) : H a = none := by
  cases q : H a with
  | none => rfl
  | some o =>
    rcases e a o q with z | ⟨_, ps, z, _⟩
    · rw [h] at z; cases z
    · rw [h] at z; cases z
theorem SameT.upd {H H' : Hp} {p : Addr} {o : HO} (e : SameT H H') (h : H p = none) : SameT H (upd H' p o) := fun a u q => by
  have n : a ≠ p := ne_of_none q h
  rcases e a u q with z | ⟨z1, ps, z2, z3⟩
  · exact .inl (by rw [upd_ne n]; exact z)
  · exact .inr ⟨z1, ps, by rw [upd_ne n]; exact z2, z3⟩
/-- the tables are known, and stand apart -/
def TOk (H F : Hp) : Prop := ∀ p, En.tb p → F p = none ∧ GxR.TabG H p
structure Gr (H F H' F' : Hp) : Prop where
  ff : Same F F'
  hh : SameT H H'
  fh : Same F' H'
  nw : ∀ x, F' x ≠ none → F x ≠ none ∨ H x = none ∨ isTup (H x)
theorem Gr.refl {H F : Hp} (e : Same F H) : Gr H F H F := ⟨Same.refl _, SameT.refl _, e, fun _ h => .inl h⟩
theorem Gr.trans {H F H1 F1 H2 F2 : Hp} (a : Gr H F H1 F1) (b : Gr H1 F1 H2 F2) : Gr H F H2 F2 := ⟨a.ff.trans b.ff, a.hh.trans b.hh, b.fh, fun x h => by
  rcases b.nw x h with h | h | h
  · exact a.nw x h
  · exact .inr (.inl (a.hh.free h))
  · cases q : H x with
    | none => exact .inr (.inl rfl)
    | some o =>
      refine .inr (.inr ?_)
      rcases a.hh _ _ q with e | ⟨_, ps, e, _⟩
      · rw [e] at h
        exact h
      · rw [e] at h
        exact h.elim⟩
/-- a table that stands apart stays apart -/
theorem Gr.tok {H F H1 F1 : Hp} (g : Gr H F H1 F1) (h : TOk H F) : TOk H1 F1 := fun p hp => by
  obtain ⟨h1, h2⟩ := h p hp
  refine ⟨?_, g.hh.tab h2⟩
  cases q : F1 p with
  | none => rfl
  | some o =>
    obtain ⟨ps, z, _⟩ := h2
    rcases g.nw p (by rw [q]; exact fun z => by cases z) with y | y | y
    · exact absurd h1 y
    · rw [z] at y; cases y
    · rw [z] at y; exact y.elim
/-- a new object, into both -/
theorem Gr.new {H F : Hp} {p : Addr} {o : HO} (e : Same F H) (h : H p = none) : Gr H F (upd H p o) (upd F p o) := by
  have hf : F p = none := e.free h
  refine ⟨fun a u q => by rw [upd_ne (ne_of_none q hf)]; exact q, (SameT.refl _).upd h, fun a u q => ?_, fun x q => ?_⟩
  · by_cases ha : a = p
    · subst ha
      rw [upd_same] at q ⊢
      exact q
    · rw [upd_ne ha] at q ⊢
      exact e _ _ q
  · by_cases ha : x = p
    · subst ha
      exact .inr (.inl h)
    · rw [upd_ne ha] at q
      exact .inl q
/-- a new object that stays out of F -/
theorem Gr.out {H F : Hp} {p : Addr} {o : HO} (e : Same F H) (h : H p = none) : Gr H F (upd H p o) F :=
  ⟨Same.refl _, (SameT.refl _).upd h, fun a u q => by rw [upd_ne (ne_of_none (e _ _ q) h)]; exact e _ _ q, fun _ q => .inl q⟩
/-- a known object goes into F -/
theorem same_in {H F : Hp} {p : Addr} {o : HO} (e : Same F H) (h : H p = some o) (hf : F p = none) : Same F (upd F p o) ∧ Same (upd F p o) H :=
  ⟨fun a u q => by rw [upd_ne (ne_of_none q hf)]; exact q, fun a u q => by
    by_cases ha : a = p
    · subst ha
      rw [upd_same] at q
      rw [← q]
      exact h
    · rw [upd_ne ha] at q
      exact e _ _ q⟩
end Dn

set_option Elab.async false
set_option linter.all false
set_option maxRecDepth 100000
set_option maxHeartbeats 4000000
namespace Dn
open PySem PySem.Spec PyProof.Rows L2
variable [En]
/-! ### trees of lists, tuples, seasons that nobody else has -/
inductive OT where
  | dat (d : D)
  | lst (ts : List OT)
  | tup (ts : List OT)
  /-- a season: how many clubs, its stages; in the making -/
  | ssn (c : Nat) (Rs : List (List (List (Int × Int))))
  | ins0
  | ins1 (c : Int)
  /-- not known any more -/
  | gone
mutual
def OwnT (K : PySem.W.Frag) (F H : Hp) : OT → V → List Addr → Prop
  | .dat d, v, as => as = [] ∧ Sees K F d v
  | .lst ts, v, as => ∃ a vs bs, v = .ref a ∧ as = a :: bs ∧ H a = some (.lst vs) ∧ OwnTs K F H ts vs bs
  | .tup ts, v, as => ∃ a vs, v = .ref a ∧ F a = some (.tup vs) ∧ OwnTs K F H ts vs as
  | .ssn c Rs, v, as => ∃ p dx l vs, v = .ref p ∧ as = [p, dx, l] ∧ H p = some (.ins En.sc dx [("_clubs", .int (c : Int)), ("_stages", .ref l)]) ∧ H dx = some (.own p) ∧ H l = some (.lst vs) ∧ SeesSts F Rs vs
  | .ins0, v, as => ∃ p dx, v = .ref p ∧ as = [p, dx] ∧ H p = some (.ins En.sc dx []) ∧ H dx = some (.own p)
  | .ins1 c, v, as => ∃ p dx, v = .ref p ∧ as = [p, dx] ∧ H p = some (.ins En.sc dx [("_clubs", .int c)]) ∧ H dx = some (.own p)
  | .gone, _, as => as = []
def OwnTs (K : PySem.W.Frag) (F H : Hp) : List OT → List V → List Addr → Prop
  | [], [], as => as = []
  | t :: ts, v :: vs, as => ∃ xs ys, as = xs ++ ys ∧ OwnT K F H t v xs ∧ OwnTs K F H ts vs ys
  | _, _, _ => False
end
mutual
theorem OwnT.mono {K : PySem.W.Frag} {F F' H H' : Hp} (e : Same F F') : ∀ (t : OT) (v : V) (as : List Addr), (∀ a ∈ as, H' a = H a) → OwnT K F H t v as → OwnT K F' H' t v as
  | .dat d, v, as, _, h => ⟨h.1, h.2.mono e⟩
  | .lst ts, v, as, q, h => by
    obtain ⟨a, vs, bs, h1, rfl, h3, h4⟩ := h
    exact ⟨a, vs, bs, h1, rfl, by rw [q a List.mem_cons_self]; exact h3, OwnTs.mono e ts vs bs (fun b hb => q b (List.mem_cons_of_mem _ hb)) h4⟩
  | .tup ts, v, as, q, h => by
    obtain ⟨a, vs, h1, h3, h4⟩ := h
    exact ⟨a, vs, h1, e _ _ h3, OwnTs.mono e ts vs as q h4⟩
  | .ssn c Rs, v, as, q, h => by
    obtain ⟨p, dx, l, vs, h1, rfl, h3, h4, h5, h6⟩ := h
    exact ⟨p, dx, l, vs, h1, rfl, by rw [q p (by simp)]; exact h3, by rw [q dx (by simp)]; exact h4, by rw [q l (by simp)]; exact h5, h6.mono e⟩
  | .ins0, v, as, q, h => by
    obtain ⟨p, dx, h1, rfl, h3, h4⟩ := h
    exact ⟨p, dx, h1, rfl, by rw [q p (by simp)]; exact h3, by rw [q dx (by simp)]; exact h4⟩
  | .ins1 c, v, as, q, h => by
    obtain ⟨p, dx, h1, rfl, h3, h4⟩ := h
    exact ⟨p, dx, h1, rfl, by rw [q p (by simp)]; exact h3, by rw [q dx (by simp)]; exact h4⟩
  | .gone, _, _, _, h => h
theorem OwnTs.mono {K : PySem.W.Frag} {F F' H H' : Hp} (e : Same F F') : ∀ (ts : List OT) (vs : List V) (as : List Addr), (∀ a ∈ as, H' a = H a) → OwnTs K F H ts vs as → OwnTs K F' H' ts vs as
  | [], [], _, _, h => h
  | [], _ :: _, _, _, h => h.elim
  | _ :: _, [], _, _, h => h.elim
  | t :: ts, v :: vs, as, q, h => by
    obtain ⟨xs, ys, rfl, h2, h3⟩ := h
    exact ⟨xs, ys, rfl, OwnT.mono e t v xs (fun a ha => q a (List.mem_append_left _ ha)) h2, OwnTs.mono e ts vs ys (fun a ha => q a (List.mem_append_right _ ha)) h3⟩
end
/-! such a tree as data -/
mutual
def dOT : OT → Option D
  | .dat d => some d
  | .lst ts => (dOTs ts).map .list
  | .tup ts => (dOTs ts).map .tuple
  | .ssn c Rs => some (ssnD c Rs)
  | .ins0 => none
  | .ins1 _ => none
  | .gone => none
def dOTs : List OT → Option (List D)
  | [] => some []
  | t :: ts => match dOT t, dOTs ts with
    | some d, some ds => some (d :: ds)
    | _, _ => none
end
mutual
theorem OwnT.sees {K : PySem.W.Frag} {F Fp H : Hp} (e : Same F Fp) : ∀ (t : OT) (v : V) (as : List Addr) (d : D), (∀ a ∈ as, Fp a = H a) → dOT t = some d → OwnT K F H t v as → Sees K Fp d v
  | .dat d, v, as, d', _, h0, h => by
    have e1 : d = d' := Option.some.inj h0
    subst e1
    exact h.2.mono e
  | .lst ts, v, as, d', q, h0, h => by
    obtain ⟨a, vs, bs, h1, rfl, h3, h4⟩ := h
    have h0' : (dOTs ts).map PyData.list = some d' := h0
    cases r : dOTs ts with
    | none => rw [r] at h0'; cases h0'
    | some ds =>
      rw [r] at h0'
      rw [← Option.some.inj h0']
      exact ⟨a, vs, h1, by rw [q a List.mem_cons_self]; exact h3, OwnTs.sees e ts vs bs ds (fun b hb => q b (List.mem_cons_of_mem _ hb)) r h4⟩
  | .tup ts, v, as, d', q, h0, h => by
    obtain ⟨a, vs, h1, h3, h4⟩ := h
    have h0' : (dOTs ts).map PyData.tuple = some d' := h0
    cases r : dOTs ts with
    | none => rw [r] at h0'; cases h0'
    | some ds =>
      rw [r] at h0'
      rw [← Option.some.inj h0']
      exact ⟨a, vs, h1, e _ _ h3, OwnTs.sees e ts vs as ds q r h4⟩
  | .ssn c Rs, v, as, d', q, h0, h => by
    obtain ⟨p, dx, l, vs, h1, rfl, h3, h4, h5, h6⟩ := h
    have e1 : ssnD c Rs = d' := Option.some.inj h0
    rw [← e1]
    exact ⟨p, h1, .inr (.inr (.inr ⟨c, Rs, rfl, dx, l, vs, by rw [q p (by simp)]; exact h3, by rw [q dx (by simp)]; exact h4, by rw [q l (by simp)]; exact h5, h6.mono e⟩))⟩
  | .ins0, _, _, _, _, h0, _ => by cases h0
  | .ins1 _, _, _, _, _, h0, _ => by cases h0
  | .gone, _, _, _, _, h0, _ => by cases h0
theorem OwnTs.sees {K : PySem.W.Frag} {F Fp H : Hp} (e : Same F Fp) : ∀ (ts : List OT) (vs : List V) (as : List Addr) (ds : List D), (∀ a ∈ as, Fp a = H a) → dOTs ts = some ds → OwnTs K F H ts vs as → SeesL K Fp ds vs
  | [], [], _, ds, _, h0, _ => by
    have e1 : [] = ds := Option.some.inj h0
    rw [← e1]
    trivial
  | [], _ :: _, _, _, _, _, h => h.elim
  | _ :: _, [], _, _, _, _, h => h.elim
  | t :: ts, v :: vs, as, ds', q, h0, h => by
    obtain ⟨xs, ys, rfl, h2, h3⟩ := h
    have h0' : (match dOT t, dOTs ts with | some d, some ds => some (d :: ds) | _, _ => none) = some ds' := h0
    cases r : dOT t with
    | none => rw [r] at h0'; cases h0'
    | some d =>
      cases r2 : dOTs ts with
      | none => rw [r, r2] at h0'; cases h0'
      | some ds =>
        rw [r, r2] at h0'
        rw [← Option.some.inj h0']
        exact ⟨OwnT.sees e t v xs d (fun a ha => q a (List.mem_append_left _ ha)) r h2, OwnTs.sees e ts vs ys ds (fun a ha => q a (List.mem_append_right _ ha)) r2 h3⟩
end
/-! ### a frame's cells, as data -/
inductive C where
  | no
  | d (x : D)
  /-- a list of the frame's own, its items data -/
  | own (xs : List D)
  /-- a list of lists, all of the frame's own -/
  | own2 (xss : List (List D))
  | dk (kvs : List (Key × D))
  | dt (kvs : List (List Key × D))
  /-- a set of ints, a set of tuples of ints -/
  | si (ks : List Int)
  /-- a dict with tuple keys that nobody changes for a while -/
  | dz (kvs : List (List Key × D))
  | sp (ks : List (List Int))
  /-- a tree of the frame's own -/
  | ot (t : OT)
  /-- the same, at v -/
  | «at» (a : Addr) (t : OT)
abbrev Ev := List C

def Own2 (K : PySem.W.Frag) (F H : Hp) : List (List D) → List Addr → Prop
  | [], [] => True
  | ds :: dss, b :: bs => (∃ xs, H b = some (.lst xs) ∧ SeesL K F ds xs) ∧ Own2 K F H dss bs
  | _, _ => False
def SeesKV {κ : Type} (K : PySem.W.Frag) (F : Hp) : List (κ × D) → List (κ × V) → Prop
  | [], [] => True
  | p :: ps, q :: qs => (p.1 = q.1 ∧ Sees K F p.2 q.2) ∧ SeesKV K F ps qs
  | _, _ => False
def CR (K : PySem.W.Frag) (P : Program) (w : World) (F H : Hp) (as : List Addr) : C → Option V → Prop
  | .ot t, ov => ∃ v bs, (∀ b ∈ bs, b ∈ as) ∧ bs.Nodup ∧ ov = some v ∧ OwnT K F H t v bs
  | .at a t, ov => ∃ bs, (∀ b ∈ bs, b ∈ as) ∧ bs.Nodup ∧ ov = some (.ref a) ∧ OwnT K F H t (.ref a) bs
  | .no, _ => True
  | .d x, ov => ∃ v, ov = some v ∧ Sees K F x v
  | .own ds, ov => ∃ a xs, a ∈ as ∧ ov = some (.ref a) ∧ H a = some (.lst xs) ∧ SeesL K F ds xs
  | .own2 dss, ov => ∃ a bs, a ∈ as ∧ (∀ b ∈ bs, b ∈ as) ∧ (a :: bs).Nodup ∧ ov = some (.ref a) ∧ H a = some (.lst (bs.map V.ref)) ∧ Own2 K F H dss bs
  | .dk kvs, ov => ∃ a kws, a ∈ as ∧ ov = some (.ref a) ∧ H a = some (.dK kws) ∧ SeesKV K F kvs kws
  | .dt kvs, ov => ∃ a kws, a ∈ as ∧ ov = some (.ref a) ∧ H a = some (.dT kws) ∧ SeesKV K F kvs kws
  | .dz kvs, ov => ∃ a kws od, ov = some (.ref a) ∧ F a = some (.frz od (.dT kws)) ∧ SeesKV K F kvs kws
  | .si ks, ov => ∃ a S n, a ∈ as ∧ ov = some (.ref a) ∧ H a = some (SetO w a S n) ∧ n ≤ ks.length ∧ ∀ i, S i = decide (i ∈ ks)
  | .sp ks, ov => ∃ a L, a ∈ as ∧ ov = some (.ref a) ∧ H a = some (BigO P w a L) ∧ L.length ≤ ks.length ∧ (∀ p ∈ L, F p.1 = some (.tup (p.2.map V.int))) ∧ ∀ k, k ∈ L.map (fun p : Addr × List Int => p.2) ↔ k ∈ ks
structure Rep (K : PySem.W.Frag) (P : Program) (w : World) (H0 F0 : Hp) (ρ : Ev) (σ : L2.St) (H F : Hp) (A : Nat → List Addr) : Prop where
  base : Gr H0 F0 H F
  len : σ.length = ρ.length
  cel : ∀ i c, ρ[i]? = some c → CR K P w F H (A i) c (σ[i]?.join)
  fr : ∀ i x, x ∈ A i → F x = none ∧ H0 x = none ∧ H x ≠ none ∧ ¬ isTT (H x)
  dj : ∀ i j x, x ∈ A i → x ∈ A j → i = j
  tk : TOk H0 F0

section
variable {K : PySem.W.Frag} {P : Program} {w : World} {F F' H H' H0 F0 : Hp} {ρ ρ' : Ev} {σ : L2.St} {A : Nat → List Addr}
theorem Own2.mono (e : Same F F') : ∀ {dss : List (List D)} {bs : List Addr}, (∀ b ∈ bs, H' b = H b) → Own2 K F H dss bs → Own2 K F' H' dss bs
  | [], [], _, h => h
  | [], _ :: _, _, h => h.elim
  | _ :: _, [], _, h => h.elim
  | ds :: dss, b :: bs, q, h => by
    obtain ⟨⟨xs, h1, h2⟩, h3⟩ := h
    exact ⟨⟨xs, by rw [q b List.mem_cons_self]; exact h1, h2.mono e⟩, Own2.mono e (fun c hc => q c (List.mem_cons_of_mem _ hc)) h3⟩
theorem SeesKV.mono {κ : Type} (e : Same F F') : ∀ {ps : List (κ × D)} {qs : List (κ × V)}, SeesKV K F ps qs → SeesKV K F' ps qs
  | [], [], h => h
  | [], _ :: _, h => h.elim
  | _ :: _, [], h => h.elim
  | _ :: _, _ :: _, h => ⟨⟨h.1.1, h.1.2.mono e⟩, SeesKV.mono e h.2⟩
theorem CR.mono {as : List Addr} (e : Same F F') (q : ∀ a ∈ as, H' a = H a) : ∀ {c : C} {ov : Option V}, CR K P w F H as c ov → CR K P w F' H' as c ov
  | .ot t, _, h => by
    obtain ⟨v, bs, h1, h2, h3, h4⟩ := h
    exact ⟨v, bs, h1, h2, h3, OwnT.mono e t v bs (fun b hb => q b (h1 b hb)) h4⟩
  | .at a t, _, h => by
    obtain ⟨bs, h1, h2, h3, h4⟩ := h
    exact ⟨bs, h1, h2, h3, OwnT.mono e t (.ref a) bs (fun b hb => q b (h1 b hb)) h4⟩
  | .no, _, h => h
  | .d x, _, h => by
    obtain ⟨v, h1, h2⟩ := h
    exact ⟨v, h1, h2.mono e⟩
  | .own ds, _, h => by
    obtain ⟨a, xs, h1, h2, h3, h4⟩ := h
    exact ⟨a, xs, h1, h2, by rw [q a h1]; exact h3, h4.mono e⟩
  | .own2 dss, _, h => by
    obtain ⟨a, bs, h1, h2, h3, h4, h5, h6⟩ := h
    exact ⟨a, bs, h1, h2, h3, h4, by rw [q a h1]; exact h5, h6.mono e fun b hb => q b (h2 b hb)⟩
  | .dk _, _, h => by
    obtain ⟨a, xs, h1, h2, h3, h4⟩ := h
    exact ⟨a, xs, h1, h2, by rw [q a h1]; exact h3, h4.mono e⟩
  | .dt _, _, h => by
    obtain ⟨a, xs, h1, h2, h3, h4⟩ := h
    exact ⟨a, xs, h1, h2, by rw [q a h1]; exact h3, h4.mono e⟩
  | .dz _, _, h => by
    obtain ⟨a, kws, od, h1, h2, h3⟩ := h
    exact ⟨a, kws, od, h1, e _ _ h2, h3.mono e⟩
  | .si _, _, h => by
    obtain ⟨a, S, n, h1, h2, h3, h4⟩ := h
    exact ⟨a, S, n, h1, h2, by rw [q a h1]; exact h3, h4⟩
  | .sp _, _, h => by
    obtain ⟨a, L, h1, h2, h3, h4, h5, h6⟩ := h
    exact ⟨a, L, h1, h2, by rw [q a h1]; exact h3, h4, fun p hp => e _ _ (h5 p hp), h6⟩
theorem Rep.sub (R : Rep K P w H0 F0 ρ σ H F A) : Same F H := R.base.fh
theorem Rep.tok (R : Rep K P w H0 F0 ρ σ H F A) : TOk H F := R.base.tok R.tk
/-- heaps grow -/
theorem Rep.grow (R : Rep K P w H0 F0 ρ σ H F A) (g : Gr H F H' F') : Rep K P w H0 F0 ρ σ H' F' A := by
  have keep : ∀ i x, x ∈ A i → H' x = H x := fun i x hx => by
    obtain ⟨_, _, h3, h4⟩ := R.fr i x hx
    cases q : H x with
    | none => exact absurd q h3
    | some o =>
      rw [q] at h4
      exact g.hh.get q fun z => h4 z.tt
  refine ⟨R.base.trans g, R.len, fun i c hc => (R.cel i c hc).mono g.ff (keep i), fun i x hx => ?_, R.dj, R.tk⟩
  obtain ⟨h1, h2, h3, h4⟩ := R.fr i x hx
  refine ⟨?_, h2, by rw [keep i x hx]; exact h3, by rw [keep i x hx]; exact h4⟩
  cases q : F' x with
  | none => rfl
  | some o =>
    rcases g.nw x (by rw [q]; exact fun z => by cases z) with z | z | z
    · exact absurd h1 z
    · exact absurd z h3
    · exact absurd z.tt h4
/-- the slot i stored anew, a thing that owns `as` -/
def setA (A : Nat → List Addr) (i : Nat) (as : List Addr) : Nat → List Addr := fun j => if j = i then as else A j
theorem Rep.store {i : Nat} {c : C} {v : V} {as : List Addr} (R : Rep K P w H0 F0 ρ σ H F A) (hc : CR K P w F H as c (some v)) (hf : ∀ x ∈ as, F x = none ∧ H0 x = none ∧ H x ≠ none ∧ ¬ isTT (H x)) (hd : ∀ j x, x ∈ as → x ∈ A j → j = i) :
    Rep K P w H0 F0 (ρ.set i c) (σ.set i (some v)) H F (setA A i as) := by
  refine ⟨R.base, by rw [List.length_set, List.length_set]; exact R.len, fun j c' hj => ?_, fun j x hx => ?_, fun j k x hj hk => ?_, R.tk⟩
  · by_cases e : j = i
    · subst e
      have hl : j < ρ.length := by
        have := (List.getElem?_eq_some_iff.mp hj).1
        rwa [List.length_set] at this
      rw [List.getElem?_set_self hl] at hj
      have e1 := Option.some.inj hj
      subst e1
      rw [List.getElem?_set_self (by rw [R.len]; exact hl)]
      unfold setA
      rw [if_pos rfl]
      exact hc
    · rw [List.getElem?_set_ne (fun z => e z.symm)] at hj
      rw [List.getElem?_set_ne (fun z => e z.symm)]
      unfold setA
      rw [if_neg e]
      exact R.cel j c' hj
  · unfold setA at hx
    by_cases e : j = i
    · rw [if_pos e] at hx
      exact hf x hx
    · rw [if_neg e] at hx
      exact R.fr j x hx
  · unfold setA at hj hk
    by_cases e : j = i
    · rw [if_pos e] at hj
      by_cases e' : k = i
      · rw [e, e']
      · rw [if_neg e'] at hk
        rw [e]
        exact (hd k x hj hk).symm
    · rw [if_neg e] at hj
      by_cases e' : k = i
      · rw [if_pos e'] at hk
        rw [e']
        exact hd j x hk hj
      · rw [if_neg e'] at hk
        exact R.dj j k x hj hk
theorem Rep.setD {i : Nat} {d : D} {v : V} (R : Rep K P w H0 F0 ρ σ H F A) (h : Sees K F d v) : Rep K P w H0 F0 (ρ.set i (.d d)) (σ.set i (some v)) H F (setA A i []) :=
  R.store ⟨v, rfl, h⟩ (fun _ z => (nomatch z)) fun _ _ z => (nomatch z)
/-- a slot forgotten -/
theorem Rep.junk {i : Nat} {ov : Option V} (R : Rep K P w H0 F0 ρ σ H F A) : Rep K P w H0 F0 (ρ.set i .no) (σ.set i ov) H F (setA A i []) := by
  refine ⟨R.base, by rw [List.length_set, List.length_set]; exact R.len, fun j c' hj => ?_, fun j x hx => ?_, fun j k x hj hk => ?_, R.tk⟩
  · by_cases e : j = i
    · subst e
      have hl : j < ρ.length := by
        have := (List.getElem?_eq_some_iff.mp hj).1
        rwa [List.length_set] at this
      rw [List.getElem?_set_self hl] at hj
      have e1 := Option.some.inj hj
      subst e1
      trivial
    · rw [List.getElem?_set_ne (fun z => e z.symm)] at hj
      rw [List.getElem?_set_ne (fun z => e z.symm)]
      unfold setA
      rw [if_neg e]
      exact R.cel j c' hj
  · unfold setA at hx
    by_cases e : j = i
    · rw [if_pos e] at hx
      cases hx
    · rw [if_neg e] at hx
      exact R.fr j x hx
  · unfold setA at hj hk
    by_cases e : j = i
    · rw [if_pos e] at hj
      cases hj
    · rw [if_neg e] at hj
      by_cases e' : k = i
      · rw [if_pos e'] at hk
        cases hk
      · rw [if_neg e'] at hk
        exact R.dj j k x hj hk
/-- an object apart from F and the slots changes -/
theorem Rep.upd {p : Addr} {o : HO} (R : Rep K P w H0 F0 ρ σ H F A) (hf : F p = none) (h0 : H0 p = none) (ha : ∀ i, p ∉ A i) : Rep K P w H0 F0 ρ σ (upd H p o) F A := by
  have keep : ∀ i x, x ∈ A i → (L2.upd H p o) x = H x := fun i x hx => upd_ne fun e => ha i (by rw [← e]; exact hx)
  refine ⟨⟨R.base.ff, R.base.hh.upd h0, fun a u q => by rw [upd_ne (ne_of_none q hf)]; exact R.sub _ _ q, R.base.nw⟩, R.len,
    fun i c hc => (R.cel i c hc).mono (Same.refl _) (keep i), fun i x hx => ?_, R.dj, R.tk⟩
  obtain ⟨h1, h2, h3, h4⟩ := R.fr i x hx
  exact ⟨h1, h2, by rw [keep i x hx]; exact h3, by rw [keep i x hx]; exact h4⟩
/-- all own things taken as data -/
def frzC : C → C
  | .own ds => .d (.list ds)
  | .own2 dss => .d (.list (dss.map .list))
  | .dk _ => .no
  | .dt _ => .no
  | .si _ => .no
  | .sp _ => .no
  | .ot t => (match dOT t with
    | some d => .d d
    | none => .no)
  | .at _ t => (match dOT t with
    | some d => .d d
    | none => .no)
  | c => c
def frz (ρ : Ev) : Ev := ρ.map frzC
theorem own2_sees {Fp : Hp} (e : Same F Fp) : ∀ {dss : List (List D)} {bs : List Addr}, (∀ b ∈ bs, Fp b = H b) → Own2 K F H dss bs → SeesL K Fp (dss.map .list) (bs.map V.ref)
  | [], [], _, _ => True.intro
  | [], _ :: _, _, h => h.elim
  | _ :: _, [], _, h => h.elim
  | ds :: dss, b :: bs, q, h => by
    obtain ⟨⟨xs, h1, h2⟩, h3⟩ := h
    exact ⟨⟨b, xs, rfl, by rw [q b List.mem_cons_self]; exact h1, h2.mono e⟩, own2_sees e (fun c hc => q c (List.mem_cons_of_mem _ hc)) h3⟩
/-- F and what the slots own -/
noncomputable def ownF (F H : Hp) (A : Nat → List Addr) : Hp := by
  classical
  exact fun x => if F x ≠ none then F x else if ∃ i, x ∈ A i then H x else none
theorem ownF_F {x : Addr} {o : HO} (h : F x = some o) : ownF F H A x = some o := by
  unfold ownF
  rw [if_pos (by rw [h]; exact fun z => by cases z), h]
theorem ownF_A {x : Addr} {i : Nat} (h : F x = none) (hx : x ∈ A i) : ownF F H A x = H x := by
  unfold ownF
  rw [if_neg (by rw [h]; exact fun z => z rfl), if_pos ⟨i, hx⟩]
theorem ownF_or {x : Addr} (h : ownF F H A x ≠ none) : F x ≠ none ∨ ∃ i, x ∈ A i := by
  unfold ownF at h
  by_cases q : F x ≠ none
  · exact .inl q
  · rw [if_neg q] at h
    by_cases r : ∃ i, x ∈ A i
    · exact .inr r
    · rw [if_neg r] at h
      exact absurd rfl h
theorem Rep.frz (R : Rep K P w H0 F0 ρ σ H F A) : ∃ Fp, Same F Fp ∧ Same Fp H ∧ Gr H0 F0 H Fp ∧ Rep K P w H Fp (frz ρ) σ H Fp (fun _ => []) := by
  have e1 : Same F (ownF F H A) := fun a o q => ownF_F q
  have e2 : Same (ownF F H A) H := fun a o q => by
    rcases ownF_or (F := F) (H := H) (A := A) (x := a) (by rw [q]; exact fun z => by cases z) with z | ⟨i, z⟩
    · cases r : F a with
      | none => exact absurd r z
      | some u =>
        rw [ownF_F r] at q
        rw [← q]
        exact R.sub _ _ r
    · rw [ownF_A (R.fr i a z).1 z] at q
      exact q
  refine ⟨ownF F H A, e1, e2, ⟨R.base.ff.trans e1, R.base.hh, e2, fun x q => ?_⟩, Gr.refl e2, by unfold Dn.frz; rw [List.length_map]; exact R.len, fun i c hc => ?_, fun _ _ z => (nomatch z), fun _ _ _ z => (nomatch z), fun p hp => ?_⟩
  · rcases ownF_or q with z | ⟨i, z⟩
    · exact R.base.nw x z
    · exact .inr (.inl (R.fr i x z).2.1)
  case refine_3 =>
    obtain ⟨h1, h2⟩ := (R.base.tok R.tk) p hp
    refine ⟨?_, h2⟩
    cases q : ownF F H A p with
    | none => rfl
    | some o =>
      rcases ownF_or (F := F) (H := H) (A := A) (x := p) (by rw [q]; exact fun z => by cases z) with z | ⟨i, z⟩
      · exact absurd h1 z
      · obtain ⟨_, _, _, y⟩ := R.fr i p z
        obtain ⟨ps, h3, _⟩ := h2
        rw [h3] at y
        exact absurd True.intro y
  unfold Dn.frz at hc
  rw [List.getElem?_map] at hc
  cases q : ρ[i]? with
  | none => rw [q] at hc; cases hc
  | some c0 =>
    rw [q] at hc
    have e := Option.some.inj hc
    subst e
    have h := R.cel i c0 q
    have ow : ∀ b, b ∈ A i → ownF F H A b = H b := fun b hb => ownF_A (R.fr i b hb).1 hb
    cases c0 with
    | no => trivial
    | d x =>
      obtain ⟨v, h1, h2⟩ := h
      exact ⟨v, h1, h2.mono e1⟩
    | own ds =>
      obtain ⟨a, xs, h1, h2, h3, h4⟩ := h
      exact ⟨.ref a, h2, a, xs, rfl, by rw [ow a h1]; exact h3, h4.mono e1⟩
    | own2 dss =>
      obtain ⟨a, bs, h1, h2, h3, h4, h5, h6⟩ := h
      exact ⟨.ref a, h4, a, _, rfl, by rw [ow a h1]; exact h5, own2_sees e1 (fun b hb => ow b (h2 b hb)) h6⟩
    | dk _ => trivial
    | dt _ => trivial
    | dz kvs =>
      obtain ⟨a, kws, od, h1, h2, h3⟩ := h
      exact ⟨a, kws, od, h1, e1 _ _ h2, h3.mono e1⟩
    | si _ => trivial
    | sp _ => trivial
    | ot t =>
      obtain ⟨v, bs, h1, h2, h3, h4⟩ := h
      show CR K P w _ H [] (match dOT t with | some d => C.d d | none => C.no) _
      cases r : dOT t with
      | none => trivial
      | some d => exact ⟨v, h3, OwnT.sees e1 t v bs d (fun b hb => ow b (h1 b hb)) r h4⟩
    | «at» v t =>
      obtain ⟨bs, h1, h2, h3, h4⟩ := h
      show CR K P w _ H [] (match dOT t with | some d => C.d d | none => C.no) _
      cases r : dOT t with
      | none => trivial
      | some d => exact ⟨.ref v, h3, OwnT.sees e1 t (.ref v) bs d (fun b hb => ow b (h1 b hb)) r h4⟩
/-- back from a look at all as data: what came has no list -/
def tupsOf (F F' : Hp) : Hp := fun x => match F x with
  | some o => some o
  | none => match F' x with
    | some (.tup ys) => some (.tup ys)
    | _ => none
theorem tupsOf_gr {F2 Fp : Hp} (e1 : Same F Fp) (e2 : Same Fp H) (g : Gr H Fp H' F2) : Gr H F H' (tupsOf F F2) := by
  have e : Same F H := e1.trans e2
  have em : Same F F2 := e1.trans g.ff
  refine ⟨fun a o q => ?_, g.hh, fun a o q => ?_, fun x q => ?_⟩
  · unfold tupsOf
    rw [q]
  · unfold tupsOf at q
    cases r : F a with
    | some u =>
      rw [r] at q
      have e1 := Option.some.inj q
      subst e1
      exact g.fh _ _ (em _ _ r)
    | none =>
      rw [r] at q
      cases r2 : F2 a with
      | none => rw [r2] at q; cases q
      | some u =>
        rw [r2] at q
        cases u with
        | tup ys =>
          have e1 := Option.some.inj q
          subst e1
          exact g.fh _ _ r2
        | _ => cases q
  · unfold tupsOf at q
    cases r : F x with
    | some u => exact .inl fun z => by cases z
    | none =>
      rw [r] at q
      cases r2 : F2 x with
      | none => rw [r2] at q; exact absurd rfl q
      | some u =>
        rw [r2] at q
        cases u with
        | tup ys =>
          refine .inr ?_
          rcases g.nw x (by rw [r2]; exact fun z => by cases z) with z | z | z
          · have := g.fh _ _ r2
            cases r3 : H x with
            | none => exact absurd (e2.free r3) z
            | some w =>
              refine .inr ?_
              rcases g.hh _ _ r3 with h4 | ⟨_, ps, h4, _⟩
              · rw [this] at h4
                have h5 := Option.some.inj h4
                rw [← h5]
                exact True.intro
              · rw [this] at h4
                cases h4
          · exact .inl z
          · exact .inr z
        | _ => exact absurd rfl q
theorem tupsOf_sees {F2 : Hp} {d : D} {v : V} (e : Same F F2) (h : Sees K F2 d v) (p : noList d = true) : Sees K (tupsOf F F2) d v := by
  refine h.tups (fun a xs q => ?_) d v p
  unfold tupsOf
  cases r : F a with
  | some u =>
    have := e _ _ r
    rw [q] at this
    exact this.symm
  | none => 
    show (match F2 a with | some (.tup ys) => some (HO.tup ys) | _ => none) = _
    rw [q]
end
end Dn

set_option Elab.async false
set_option linter.all false
set_option maxRecDepth 100000
set_option maxHeartbeats 4000000
namespace Dn
open PySem PySem.Spec PyProof.Rows L2
variable [En]
/-! ### what an evaluation gives -/
inductive Res (α : Type) where
  | ok (a : α)
  | ex (c : Nat)
  | bad
def Res.bind {α β : Type} (r : Res α) (f : α → Res β) : Res β := match r with
  | .ok a => f a
  | .ex c => .ex c
  | .bad => .bad
def ofO {α : Type} : Option α → Res α
  | some a => .ok a
  | none => .bad
section
variable {α β γ δ : Type}
def Post (S : Hp → α → β → Prop) (cl : Nat → Addr) (W : WX) (σ : L2.St) (H F : Hp) (r : Res α) (Q : β → Hp → Prop) : Prop := match r with
  | .ok d => ∀ v H' F', Gr H F H' F' → S F' d v → Q v H'
  | .ex c => ∀ H' F', Gr H F H' F' → W (.ref (cl c)) none σ H'
  | .bad => False
variable {S : Hp → α → β → Prop} {S' : Hp → γ → δ → Prop} {cl : Nat → Addr} {W : WX} {σ : L2.St} {H F H' F' : Hp}
theorem Post.imp {r : Res α} {Q Q' : β → Hp → Prop} (p : Post S cl W σ H F r Q) (k : ∀ v H, Q v H → Q' v H) : Post S cl W σ H F r Q' := by
  cases r with
  | ok d => exact fun v H' F' g s => k _ _ (p v H' F' g s)
  | ex c => exact p
  | bad => exact p
theorem Post.grow {r : Res α} {Q : β → Hp → Prop} (g : Gr H F H' F') (p : Post S cl W σ H F r Q) : Post S cl W σ H' F' r Q := by
  cases r with
  | ok d => exact fun v H2 F2 g2 s => p v H2 F2 (g.trans g2) s
  | ex c => exact fun H2 F2 g2 => p H2 F2 (g.trans g2)
  | bad => exact p
theorem Post.bind {r : Res α} {k : α → Res γ} {Q : δ → Hp → Prop} (p : Post S' cl W σ H F (r.bind k) Q) :
    Post S cl W σ H F r (fun v H1 => ∃ F1 a, r = .ok a ∧ Gr H F H1 F1 ∧ S F1 a v ∧ Post S' cl W σ H1 F1 (k a) Q) := by
  cases r with
  | ok a => exact fun v H1 F1 g s => ⟨F1, a, rfl, g, s, Post.grow g p⟩
  | ex c => exact p
  | bad => exact p
theorem Post.now {d : α} {v : β} {Q : β → Hp → Prop} (e : Same F H) (p : Post S cl W σ H F (.ok d) Q) (s : S F d v) : Q v H := p v H F (Gr.refl e) s
end
def SD (K : PySem.W.Frag) : Hp → D → V → Prop := fun F d v => Sees K F d v
def SL (K : PySem.W.Frag) : Hp → List D → List V → Prop := fun F d v => SeesL K F d v
def SB : Hp → Bool → Bool → Prop := fun _ b c => b = c
def SO : Hp → Option Int → Option Int → Prop := fun _ b c => b = c
/-- the reading of a semantic function -/
def tX {α β : Type} (K : PySem.W.Frag) (P : Program) (w : World) (S : Hp → α → β → Prop) (cl : Nat → Addr) (W : WX) (f : Ev → Res α) : L2.St → Hp → (β → Hp → Prop) → Prop :=
  fun σ H Q => ∃ H0 F0 ρ F A, Rep K P w H0 F0 ρ σ H F A ∧ Post S cl W σ H F (f ρ) Q
abbrev DE (X : Cx) (cl : Nat → Addr) (W : WX) (e : Expr) (f : Ev → Res D) : Prop := PE X e (tX X.K X.prog X.w (SD X.K) cl W f)
abbrev DT (X : Cx) (cl : Nat → Addr) (W : WX) (e : Expr) (f : Ev → Res Bool) : Prop := PT X e (tX X.K X.prog X.w SB cl W f)
abbrev DW (X : Cx) (cl : Nat → Addr) (W : WX) (e : Expr) (f : Ev → Res Bool) : Prop := PW X e (tX X.K X.prog X.w SB cl W f)
abbrev DA (X : Cx) (cl : Nat → Addr) (W : WX) (es : List Expr) (f : Ev → Res (List D)) : Prop := PA X es (tX X.K X.prog X.w (SL X.K) cl W f)
abbrev DO (X : Cx) (cl : Nat → Addr) (W : WX) (e : Option Expr) (f : Ev → Res (Option Int)) : Prop := PO X e (tX X.K X.prog X.w SO cl W f)
section
variable {X : Cx} {e : Expr}
theorem PE_imp {t t' : TE} (h : PE X e t) (k : ∀ σ H Q, t' σ H Q → t σ H Q) : PE X e t' := ⟨fun pins s σ H Q I q => h.run pins s σ H Q I (k _ _ _ q)⟩
theorem PT_imp {t t' : TT} (h : PT X e t) (k : ∀ σ H Q, t' σ H Q → t σ H Q) : PT X e t' := ⟨fun pins s σ H Q I q => h.run pins s σ H Q I (k _ _ _ q)⟩
theorem PW_imp {t t' : TT} (h : PW X e t) (k : ∀ σ H Q, t' σ H Q → t σ H Q) : PW X e t' := ⟨fun wh pins s σ H Q I q => h.run wh pins s σ H Q I (k _ _ _ q)⟩
theorem PA_imp {es : List Expr} {t t' : TA} (h : PA X es t) (k : ∀ σ H Q, t' σ H Q → t σ H Q) : PA X es t' := ⟨fun pos pins s σ H Q I q => h.run pos pins s σ H Q I (k _ _ _ q)⟩
theorem PO_imp {o : Option Expr} {t t' : TO} (h : PO X o t) (k : ∀ σ H Q, t' σ H Q → t σ H Q) : PO X o t' := ⟨fun pins s σ H Q I q => h.run pins s σ H Q I (k _ _ _ q)⟩
theorem PS_imp {st : Stmt} {t t' : TS} (h : PS X st t) (k : ∀ D σ H, t' D σ H → t D σ H) : PS X st t' := ⟨fun pins s σ H D I q => h.run pins s σ H D I (k _ _ _ q)⟩
theorem PSs_imp {st : List Stmt} {t t' : TS} (h : PSs X st t) (k : ∀ D σ H, t' D σ H → t D σ H) : PSs X st t' := ⟨fun pins s σ H D I q => h.run pins s σ H D I (k _ _ _ q)⟩
end

/-! ### names, constants -/
def sVar (i : Nat) : Ev → Res D := fun ρ => match ρ[i]? with
  | some (.d x) => .ok x
  | _ => .bad
def sC (d : D) : Ev → Res D := fun _ => .ok d
section
variable {X : Cx} {cl : Nat → Addr} {W : WX} {e a b c : Expr} {pos : Pos}
theorem tx_var {K : PySem.W.Frag} {i : Nat} : ∀ σ H Q, tX K P w (SD K) cl W (sVar i) σ H Q → tVar i σ H Q := fun σ H Q h => by
  obtain ⟨H0, F0, ρ, F, A, R, p⟩ := h
  unfold sVar at p
  cases q : ρ[i]? with
  | none => rw [q] at p; exact p.elim
  | some c =>
    rw [q] at p
    have h := R.cel i c q
    cases c with
    | d x =>
      obtain ⟨v, h1, h2⟩ := h
      have e : σ[i]? = some (some v) := by
        cases r : σ[i]? with
        | none => rw [r] at h1; cases h1
        | some o => rw [r] at h1; rw [show o = some v from h1]
      exact ⟨v, e, Post.now R.sub p h2⟩
    | _ => exact p.elim
theorem de_var (i : Nat) {x : Str} {p : Pos} (h : PE X (.Name x p) (tVar i)) : DE X cl W (.Name x p) (sVar i) := PE_imp h tx_var
theorem de_c {v : V} {d : D} (h : PE X e (tC v)) (hs : ∀ F, Sees X.K F d v) : DE X cl W e (sC d) := PE_imp h fun σ H Q q => by
  obtain ⟨H0, F0, ρ, F, A, R, p⟩ := q
  exact Post.now (S := SD X.K) R.sub p (hs F)
theorem de_int {i j} : DE X cl W (.Constant (.int i) j pos) (sC (.int i)) := de_c pe_int fun _ => rfl
theorem de_bl {i j} : DE X cl W (.Constant (.bool i) j pos) (sC (.bool i)) := de_c pe_bl fun _ => rfl
theorem de_non {j} : DE X cl W (.Constant .none j pos) (sC .none) := de_c pe_non fun _ => rfl
theorem de_str {i j} : DE X cl W (.Constant (.str i) j pos) (sC (.str i)) := de_c pe_str fun _ => rfl

/-! ### two-place operations -/
def s2 (o : D → D → Res D) (f g : Ev → Res D) : Ev → Res D := fun ρ => (f ρ).bind fun x => (g ρ).bind fun y => o x y
def OpD (K : PySem.W.Frag) (r : R2) (o : D → D → Res D) : Prop := ∀ (cl : Nat → Addr) (W : WX) (σ : L2.St) (x y : D) (v u : V) (H F : Hp) (Q : VK), Same F H → Sees K F x v → Sees K F y u → Post (SD K) cl W σ H F (o x y) Q → r v u H Q
theorem tx_op {K : PySem.W.Frag} {r : R2} {o : D → D → Res D} {f g : Ev → Res D} (od : OpD K r o) : ∀ σ H Q, tX K P w (SD K) cl W (s2 o f g) σ H Q → tOp r (tX K P w (SD K) cl W f) (tX K P w (SD K) cl W g) σ H Q := fun σ H Q h => by
  obtain ⟨H0, F0, ρ, F, A, R, p⟩ := h
  refine ⟨H0, F0, ρ, F, A, R, (Post.bind (S := SD K) p).imp fun v H1 ⟨F1, x, _, g1, s1, p1⟩ => ?_⟩
  refine ⟨H0, F0, ρ, F1, A, R.grow g1, (Post.bind (S := SD K) p1).imp fun u H2 ⟨F2, y, _, g2, s2, p2⟩ => ?_⟩
  exact od cl W σ x y v u H2 F2 Q g2.fh (s1.mono g2.ff) s2 p2
theorem de_op {op : Operator} {r : R2} {o : D → D → Res D} {f g : Ev → Res D} (ho : OpR X (binaryOp op) r) (od : OpD X.K r o) (ha : DE X cl W a f) (hb : DE X cl W b g) : DE X cl W (.BinOp a op b pos) (s2 o f g) := PE_imp (pe_op ho ha hb) (tx_op od)
theorem de_cmp {op : CmpOp} {r : R2} {o : D → D → Res D} {f g : Ev → Res D} (ho : OpR X (compareOp op) r) (od : OpD X.K r o) (hm : behindInMarks op b = false) (ha : DE X cl W a f) (hb : DE X cl W b g) : DE X cl W (.Compare a [op] [b] pos) (s2 o f g) := PE_imp (pe_cmpR ho ha hb hm) (tx_op od)
def asB : D → Res Bool
  | .bool b => .ok b
  | _ => .bad
def sT (f : Ev → Res D) : Ev → Res Bool := fun ρ => (f ρ).bind asB
theorem tx_test {K : PySem.W.Frag} {f : Ev → Res D} : ∀ σ H Q, tX K P w SB cl W (sT f) σ H Q → tTest (tX K P w (SD K) cl W f) σ H Q := fun σ H Q h => by
  obtain ⟨H0, F0, ρ, F, A, R, p⟩ := h
  refine ⟨H0, F0, ρ, F, A, R, (Post.bind (S := SD K) p).imp fun v H1 ⟨F1, x, _, g1, s1, p1⟩ => ?_⟩
  cases x with
  | bool b => exact ⟨b, s1, Post.now (S := SB) g1.fh p1 rfl⟩
  | _ => exact p1.elim
theorem tTest_imp {t t' : TE} (k : ∀ σ H Q, t' σ H Q → t σ H Q) : ∀ σ H Q, tTest t' σ H Q → tTest t σ H Q := fun σ H Q h => k _ _ _ h
theorem dt_cmp {op : CmpOp} {r : R2} {o : D → D → Res D} {f g : Ev → Res D} (ho : OpR X (compareOp op) r) (od : OpD X.K r o) (hm : behindInMarks op b = false) (ha : DE X cl W a f) (hb : DE X cl W b g) : DT X cl W (.Compare a [op] [b] pos) (sT (s2 o f g)) :=
  PT_imp (pt_cmpR ho ha hb hm) fun σ H Q h => tTest_imp (tx_op od) σ H Q (tx_test σ H Q h)
/-- a op1 b op2 c -/
def sCh (o o' : D → D → Res D) (f g h : Ev → Res D) : Ev → Res D := fun ρ => (f ρ).bind fun x => (g ρ).bind fun y => (o x y).bind fun z => (asB z).bind fun k => if k = true then (h ρ).bind fun w => o' y w else .ok (.bool false)
theorem tx_chain {K : PySem.W.Frag} {r r' : R2} {o o' : D → D → Res D} {f g h : Ev → Res D} (od : OpD K r o) (od' : OpD K r' o') :
    ∀ σ H Q, tX K P w (SD K) cl W (sCh o o' f g h) σ H Q → tChain r r' (tX K P w (SD K) cl W f) (tX K P w (SD K) cl W g) (tX K P w (SD K) cl W h) σ H Q := fun σ H Q q => by
  obtain ⟨H0, F0, ρ, F, A, R, p⟩ := q
  refine ⟨H0, F0, ρ, F, A, R, (Post.bind (S := SD K) p).imp fun v H1 ⟨F1, x, _, g1, s1, p1⟩ => ?_⟩
  refine ⟨H0, F0, ρ, F1, A, R.grow g1, (Post.bind (S := SD K) p1).imp fun u H2 ⟨F2, y, _, g2, s2, p2⟩ => ?_⟩
  refine od cl W σ x y v u H2 F2 _ g2.fh (s1.mono g2.ff) s2 ((Post.bind (S := SD K) p2).imp fun z H3 ⟨F3, zd, _, g3, s3, p3⟩ => ?_)
  cases zd with
  | bool k =>
    refine ⟨k, s3, ?_⟩
    cases k with
    | false => exact Post.now (S := SD K) g3.fh p3 rfl
    | true =>
      have p3' : Post (SD K) cl W σ H3 F3 ((h ρ).bind fun w => o' y w) Q := p3
      refine ⟨H0, F0, ρ, F3, A, (R.grow g1).grow (g2.trans g3), (Post.bind (S := SD K) p3').imp fun w H4 ⟨F4, wd, _, g4, s4, p4⟩ => ?_⟩
      exact od' cl W σ y wd u w H4 F4 Q g4.fh ((s2.mono g3.ff).mono g4.ff) s4 p4
  | _ => exact p3.elim
theorem de_chain {op op' : CmpOp} {r r' : R2} {o o' : D → D → Res D} {f g h : Ev → Res D} (ho : OpR X (compareOp op) r) (ho' : OpR X (compareOp op') r') (od : OpD X.K r o) (od' : OpD X.K r' o') (ha : DE X cl W a f) (hb : DE X cl W b g) (hc : DE X cl W c h)
    (hm : lastMarks [op, op'] [b, c] = false := by with_unfolding_all rfl) : DE X cl W (.Compare a [op, op'] [b, c] pos) (sCh o o' f g h) := PE_imp (pe_chain ho ho' ha hb hc hm) (tx_chain od od')
theorem dt_chain {op op' : CmpOp} {r r' : R2} {o o' : D → D → Res D} {f g h : Ev → Res D} (ho : OpR X (compareOp op) r) (ho' : OpR X (compareOp op') r') (od : OpD X.K r o) (od' : OpD X.K r' o') (ha : DE X cl W a f) (hb : DE X cl W b g) (hc : DE X cl W c h)
    (hm : lastMarks [op, op'] [b, c] = false := by with_unfolding_all rfl) : DT X cl W (.Compare a [op, op'] [b, c] pos) (sT (sCh o o' f g h)) :=
  PT_imp (pt_chain ho ho' ha hb hc hm) fun σ H Q h => tTest_imp (tx_chain od od') σ H Q (tx_test σ H Q h)

/-! the operators -/
def oI (C : Int → Int → Bool) (g : Int → Int → D) : D → D → Res D
  | .int i, .int j => if C i j = true then .ok (g i j) else .bad
  | _, _ => .bad
theorem od_I {K : PySem.W.Frag} {C : Int → Int → Prop} {c : Int → Int → Bool} {g : Int → Int → V} {g' : Int → Int → D} (hc : ∀ i j, c i j = true → C i j) (hg : ∀ F i j, Sees K F (g' i j) (g i j)) : OpD K (rI C g) (oI c g') := by
  intro cl W σ x y v u H F Q e sx sy p
  cases x with
  | int i =>
    cases y with
    | int j =>
      have p' : Post (SD K) cl W σ H F (if c i j = true then .ok (g' i j) else .bad) Q := p
      by_cases h : c i j = true
      · rw [if_pos h] at p'
        exact ⟨i, j, sx, sy, hc i j h, Post.now (S := SD K) e p' (hg F i j)⟩
      · rw [if_neg h] at p'
        exact p'.elim
    | _ => exact p.elim
  | _ => exact p.elim
theorem od_I0 {K : PySem.W.Frag} {g : Int → Int → V} {g' : Int → Int → D} (hg : ∀ F i j, Sees K F (g' i j) (g i j)) : OpD K (rI0 g) (oI (fun _ _ => true) g') := by
  intro cl W σ x y v u H F Q e sx sy p
  cases x with
  | int i =>
    cases y with
    | int j => exact ⟨i, j, sx, sy, Post.now (S := SD K) e p (hg F i j)⟩
    | _ => exact p.elim
  | _ => exact p.elim
/-- two operations for one: by the left one where it says something -/
def oOr (o o' : D → D → Res D) : D → D → Res D := fun x y => match o x y with
  | .bad => o' x y
  | r => r
theorem od_or {K : PySem.W.Frag} {r r' : R2} {o o' : D → D → Res D} (h : OpD K r o) (h' : OpD K r' o') : OpD K (fun x y H Q => r x y H Q ∨ r' x y H Q) (oOr o o') := by
  intro cl W σ x y v u H F Q e sx sy p
  unfold oOr at p
  cases q : o x y with
  | bad =>
    rw [q] at p
    exact .inr (h' cl W σ x y v u H F Q e sx sy p)
  | ok d =>
    rw [q] at p
    exact .inl (h cl W σ x y v u H F Q e sx sy (by rw [q]; exact p))
  | ex c =>
    rw [q] at p
    exact .inl (h cl W σ x y v u H F Q e sx sy (by rw [q]; exact p))
def big : Nat := 1000000
theorem big_le {n : Nat} (h : n ≤ big) : n ≤ sizeLine := Nat.le_trans h (by decide)
theorem big_lt {n : Nat} (h : n < big) : n < sizeLine := Nat.lt_of_lt_of_le h (by decide)
def oCat : D → D → Res D
  | .list xs, .list ys => if xs.length + ys.length ≤ big then .ok (.list (xs ++ ys)) else .bad
  | _, _ => .bad
theorem Post.newL {K : PySem.W.Frag} {cl : Nat → Addr} {W : WX} {σ : L2.St} {H F : Hp} {ds : List D} {xs : List V} {Q : VK} {p : Addr} (e : Same F H) (q : Post (SD K) cl W σ H F (.ok (.list ds)) Q) (s : SeesL K F ds xs) (hp : H p = none) : Q (.ref p) (upd H p (.lst xs)) := by
  have g := Gr.new (o := .lst xs) e hp
  exact q (.ref p) _ _ g ⟨p, xs, rfl, upd_same, s.mono g.ff⟩
theorem Post.newT {K : PySem.W.Frag} {cl : Nat → Addr} {W : WX} {σ : L2.St} {H F : Hp} {ds : List D} {xs : List V} {Q : VK} {p : Addr} (e : Same F H) (q : Post (SD K) cl W σ H F (.ok (.tuple ds)) Q) (s : SeesL K F ds xs) (hp : H p = none) : Q (.ref p) (upd H p (.tup xs)) := by
  have g := Gr.new (o := .tup xs) e hp
  exact q (.ref p) _ _ g ⟨p, xs, rfl, upd_same, s.mono g.ff⟩
theorem od_cat {K : PySem.W.Frag} : OpD K rCat oCat := by
  intro cl W σ x y v u H F Q e sx sy p
  cases x with
  | list ds =>
    cases y with
    | list es =>
      obtain ⟨a, xs, rfl, ha, hs⟩ := sx
      obtain ⟨b, ys, rfl, hb, ht⟩ := sy
      have p' : Post (SD K) cl W σ H F (if ds.length + es.length ≤ big then .ok (.list (ds ++ es)) else .bad) Q := p
      by_cases h : ds.length + es.length ≤ big
      · rw [if_pos h] at p'
        refine ⟨a, b, xs, ys, rfl, rfl, e _ _ ha, e _ _ hb, big_le (by rw [← hs.length, ← ht.length]; exact h), fun q hq => ?_⟩
        exact Post.newL e p' (hs.app ht) hq
      · rw [if_neg h] at p'
        exact p'.elim
    | _ => exact p.elim
  | _ => exact p.elim
def oAdd : D → D → Res D := oOr (oI (fun _ _ => true) fun i j => .int (i + j)) oCat
theorem de_add {f g : Ev → Res D} (ha : DE X cl W a f) (hb : DE X cl W b g) : DE X cl W (.BinOp a .Add b pos) (s2 oAdd f g) := de_op (OpR.or op_add op_cat) (od_or (od_I0 fun _ _ _ => rfl) od_cat) ha hb
def oSub : D → D → Res D := oI (fun _ _ => true) fun i j => .int (i - j)
theorem de_sub {f g : Ev → Res D} (ha : DE X cl W a f) (hb : DE X cl W b g) : DE X cl W (.BinOp a .Sub b pos) (s2 oSub f g) := de_op op_sub (od_I0 fun _ _ _ => rfl) ha hb
def oRep : D → D → Res D
  | .list xs, .int k => if 0 ≤ k ∧ k < 100000 ∧ xs.length * k.toNat ≤ big then .ok (.list (List.replicate k.toNat xs).flatten) else .bad
  | _, _ => .bad
theorem SeesL.rep {K : PySem.W.Frag} {F : Hp} {ds : List D} {vs : List V} (h : SeesL K F ds vs) : ∀ n : Nat, SeesL K F (List.replicate n ds).flatten (List.replicate n vs).flatten
  | 0 => True.intro
  | n + 1 => by
    rw [List.replicate_succ, List.replicate_succ, List.flatten_cons, List.flatten_cons]
    exact h.app (SeesL.rep h n)
theorem od_rep {K : PySem.W.Frag} : OpD K rRep oRep := by
  intro cl W σ x y v u H F Q e sx sy p
  cases x with
  | list ds =>
    cases y with
    | int k =>
      obtain ⟨a, xs, rfl, ha, hs⟩ := sx
      have p' : Post (SD K) cl W σ H F (if 0 ≤ k ∧ k < 100000 ∧ ds.length * k.toNat ≤ big then .ok (.list (List.replicate k.toNat ds).flatten) else .bad) Q := p
      by_cases h : 0 ≤ k ∧ k < 100000 ∧ ds.length * k.toNat ≤ big
      · rw [if_pos h] at p'
        obtain ⟨h1, h2, h3⟩ := h
        refine ⟨a, k, xs, rfl, sy, e _ _ ha, by omega, by omega, big_le (by rw [← hs.length]; exact h3), fun q hq => ?_⟩
        exact Post.newL e p' (hs.rep _) hq
      · rw [if_neg h] at p'
        exact p'.elim
    | _ => exact p.elim
  | _ => exact p.elim
def cMul (i j : Int) : Bool := decide ((-(2 ^ 64) < i ∧ i < 2 ^ 64) ∨ (-(2 ^ 64) < j ∧ j < 2 ^ 64))
def oMul : D → D → Res D := oOr (oI cMul fun i j => .int (i * j)) oRep
theorem de_mul {f g : Ev → Res D} (ha : DE X cl W a f) (hb : DE X cl W b g) : DE X cl W (.BinOp a .Mult b pos) (s2 oMul f g) := de_op (OpR.or op_mul op_rep) (od_or (od_I (fun i j h => (of_decide_eq_true h : (-(2 ^ 64) < i ∧ i < 2 ^ 64) ∨ (-(2 ^ 64) < j ∧ j < 2 ^ 64))) fun _ _ _ => rfl) od_rep) ha hb
def oMod : D → D → Res D := oI (fun _ j => decide (0 < j)) fun i j => .int (i % j)
theorem de_mod {f g : Ev → Res D} (ha : DE X cl W a f) (hb : DE X cl W b g) : DE X cl W (.BinOp a .Mod b pos) (s2 oMod f g) := de_op op_mod (od_I (fun _ _ h => of_decide_eq_true h) fun _ _ _ => rfl) ha hb
def oDiv : D → D → Res D := oI (fun _ j => decide (0 < j) && decide (j < 1073741824)) fun i j => .int (i / j)
theorem de_div {f g : Ev → Res D} (ha : DE X cl W a f) (hb : DE X cl W b g) : DE X cl W (.BinOp a .FloorDiv b pos) (s2 oDiv f g) := de_op op_fdiv (od_I (fun i j h => by
  rw [Bool.and_eq_true] at h
  exact ⟨of_decide_eq_true h.1, of_decide_eq_true h.2⟩) fun _ _ _ => rfl) ha hb
def oShr : D → D → Res D := oI (fun _ j => decide (0 ≤ j)) fun i j => .int (i / 2 ^ j.toNat)
theorem de_shr {f g : Ev → Res D} (ha : DE X cl W a f) (hb : DE X cl W b g) : DE X cl W (.BinOp a .RShift b pos) (s2 oShr f g) := de_op op_shr (od_I (fun _ _ h => of_decide_eq_true h) fun _ _ _ => rfl) ha hb
def oAnd : D → D → Res D := oI (fun _ _ => true) fun i j => .int (Builtin.bitAnd i j)
theorem de_band {f g : Ev → Res D} (ha : DE X cl W a f) (hb : DE X cl W b g) : DE X cl W (.BinOp a .BitAnd b pos) (s2 oAnd f g) := de_op op_and (od_I0 fun _ _ _ => rfl) ha hb
def oLt : D → D → Res D := oI (fun _ _ => true) fun i j => .bool (decide (i < j))
def oLe : D → D → Res D := oI (fun _ _ => true) fun i j => .bool (decide (i ≤ j))
def oGt : D → D → Res D := oI (fun _ _ => true) fun i j => .bool (decide (j < i))
def oGe : D → D → Res D := oI (fun _ _ => true) fun i j => .bool (decide (j ≤ i))
theorem od_lt {K : PySem.W.Frag} : OpD K (rI0 fun i j => .bl (decide (i < j))) oLt := od_I0 fun _ _ _ => rfl
theorem od_le {K : PySem.W.Frag} : OpD K (rI0 fun i j => .bl (decide (i ≤ j))) oLe := od_I0 fun _ _ _ => rfl
theorem od_gt {K : PySem.W.Frag} : OpD K (rI0 fun i j => .bl (decide (j < i))) oGt := od_I0 fun _ _ _ => rfl
theorem od_ge {K : PySem.W.Frag} : OpD K (rI0 fun i j => .bl (decide (j ≤ i))) oGe := od_I0 fun _ _ _ => rfl
def oEq : D → D → Res D := fun x y => if (plain x && plain y && SeqAt.shaped x && SeqAt.shaped y) = true then .ok (.bool (PyData.eqv x y)) else .bad
def oNe : D → D → Res D := fun x y => if (plain x && plain y && SeqAt.shaped x && SeqAt.shaped y) = true then .ok (.bool (!PyData.eqv x y)) else .bad
theorem od_eq {K : PySem.W.Frag} : OpD K (rEqD K) oEq := by
  intro cl W σ x y v u H F Q e sx sy p
  unfold oEq at p
  by_cases h : (plain x && plain y && SeqAt.shaped x && SeqAt.shaped y) = true
  · rw [if_pos h] at p
    rw [Bool.and_eq_true, Bool.and_eq_true, Bool.and_eq_true] at h
    exact ⟨x, y, Sees.dp e x v h.1.1.1 sx, Sees.dp e y u h.1.1.2 sy, h.1.2, h.2, Post.now (S := SD K) e p rfl⟩
  · rw [if_neg h] at p
    exact p.elim
theorem od_ne {K : PySem.W.Frag} : OpD K (rNeD K) oNe := by
  intro cl W σ x y v u H F Q e sx sy p
  unfold oNe at p
  by_cases h : (plain x && plain y && SeqAt.shaped x && SeqAt.shaped y) = true
  · rw [if_pos h] at p
    rw [Bool.and_eq_true, Bool.and_eq_true, Bool.and_eq_true] at h
    exact ⟨x, y, Sees.dp e x v h.1.1.1 sx, Sees.dp e y u h.1.1.2 sy, h.1.2, h.2, Post.now (S := SD K) e p rfl⟩
  · rw [if_neg h] at p
    exact p.elim
def isNon : D → Bool
  | .none => true
  | _ => false
theorem sees_non {K : PySem.W.Frag} {F : Hp} {x : D} {v : V} (h : Sees K F x v) : decide (v = V.non) = isNon x := by
  cases x with
  | none => rw [show v = V.non from h]; rfl
  | bool b => rw [show v = V.bl b from h]; rfl
  | int b => rw [show v = V.int b from h]; rfl
  | str b => rw [show v = V.str b from h]; rfl
  | list _ => obtain ⟨a, _, e, _⟩ := h; rw [e]; rfl
  | tuple _ => obtain ⟨a, _, e, _⟩ := h; rw [e]; rfl
  | dict _ => obtain ⟨a, e, _⟩ := h; rw [e]; rfl
def oIsN : D → D → Res D := fun x y => if isNon y = true then .ok (.bool (isNon x)) else .bad
def oNotN : D → D → Res D := fun x y => if isNon y = true then .ok (.bool (!isNon x)) else .bad
theorem isNon_eq : ∀ {y : D}, isNon y = true → y = .none := fun {y} h => by
  cases y with
  | none => rfl
  | _ => cases h
theorem od_isN {K : PySem.W.Frag} : OpD K (fun x y H Q => y = .non ∧ Q (.bl (decide (x = .non))) H) oIsN := by
  intro cl W σ x y v u H F Q e sx sy p
  unfold oIsN at p
  by_cases h : isNon y = true
  · rw [if_pos h] at p
    rw [isNon_eq h] at sy
    refine ⟨sy, ?_⟩
    rw [sees_non sx]
    exact Post.now (S := SD K) e p rfl
  · rw [if_neg h] at p
    exact p.elim
theorem od_notN {K : PySem.W.Frag} : OpD K (fun x y H Q => y = .non ∧ Q (.bl (!decide (x = .non))) H) oNotN := by
  intro cl W σ x y v u H F Q e sx sy p
  unfold oNotN at p
  by_cases h : isNon y = true
  · rw [if_pos h] at p
    rw [isNon_eq h] at sy
    refine ⟨sy, ?_⟩
    rw [sees_non sx]
    exact Post.now (S := SD K) e p rfl
  · rw [if_neg h] at p
    exact p.elim

/-! ### and, or, not, if -/
def bAnd (f g : Ev → Res Bool) : Ev → Res Bool := fun ρ => (f ρ).bind fun c => if c = true then g ρ else .ok false
def bOr (f g : Ev → Res Bool) : Ev → Res Bool := fun ρ => (f ρ).bind fun c => if c = true then .ok true else g ρ
def bNot (f : Ev → Res Bool) : Ev → Res Bool := fun ρ => (f ρ).bind fun c => .ok (!c)
theorem dw_and1 {f : Ev → Res Bool} (ha : DT X cl W a f) : DW X cl W (.BoolOp .And [a] pos) f := pw_and1 ha
theorem dw_or1 {f : Ev → Res Bool} (ha : DT X cl W a f) : DW X cl W (.BoolOp .Or [a] pos) f := pw_or1 ha
theorem dw_and {f g : Ev → Res Bool} {rest : List Expr} (ha : DT X cl W a f) (hb : DW X cl W (.BoolOp .And (b :: rest) pos) g) : DW X cl W (.BoolOp .And (a :: b :: rest) pos) (bAnd f g) := PW_imp (pw_and ha hb) fun σ H Q h => by
  obtain ⟨H0, F0, ρ, F, A, R, p⟩ := h
  refine ⟨H0, F0, ρ, F, A, R, (Post.bind (S := SB) p).imp fun v H1 ⟨F1, x, _, g1, s1, p1⟩ => ?_⟩
  have s1' : x = v := s1
  subst s1'
  cases x with
  | true => exact ⟨H0, F0, ρ, F1, A, R.grow g1, p1⟩
  | false => exact Post.now (S := SB) g1.fh p1 rfl
theorem dw_or {f g : Ev → Res Bool} {rest : List Expr} (ha : DT X cl W a f) (hb : DW X cl W (.BoolOp .Or (b :: rest) pos) g) : DW X cl W (.BoolOp .Or (a :: b :: rest) pos) (bOr f g) := PW_imp (pw_or ha hb) fun σ H Q h => by
  obtain ⟨H0, F0, ρ, F, A, R, p⟩ := h
  refine ⟨H0, F0, ρ, F, A, R, (Post.bind (S := SB) p).imp fun v H1 ⟨F1, x, _, g1, s1, p1⟩ => ?_⟩
  have s1' : x = v := s1
  subst s1'
  cases x with
  | false => exact ⟨H0, F0, ρ, F1, A, R.grow g1, p1⟩
  | true => exact Post.now (S := SB) g1.fh p1 rfl
theorem dt_w {f : Ev → Res Bool} (h : DW X cl W e f) : DT X cl W e f := h.pt
theorem dt_not {f : Ev → Res Bool} (ha : DT X cl W a f) : DT X cl W (.UnaryOp .Not a pos) (bNot f) := PT_imp (pt_not ha) fun σ H Q h => by
  obtain ⟨H0, F0, ρ, F, A, R, p⟩ := h
  refine ⟨H0, F0, ρ, F, A, R, (Post.bind (S := SB) p).imp fun v H1 ⟨F1, x, _, g1, s1, p1⟩ => ?_⟩
  have s1' : x = v := s1
  subst s1'
  exact Post.now (S := SB) g1.fh p1 rfl
def vAnd (f g : Ev → Res D) : Ev → Res D := fun ρ => (f ρ).bind fun x => (asB x).bind fun c => if c = true then g ρ else .ok (.bool false)
def vOr (f g : Ev → Res D) : Ev → Res D := fun ρ => (f ρ).bind fun x => (asB x).bind fun c => if c = true then .ok (.bool true) else g ρ
def vNot (f : Ev → Res D) : Ev → Res D := fun ρ => (f ρ).bind fun x => (asB x).bind fun c => .ok (.bool (!c))
theorem de_one {op} {f : Ev → Res D} (h : DE X cl W a f) : DE X cl W (.BoolOp op [a] pos) f := pe_one h
theorem de_and {f g : Ev → Res D} {rest : List Expr} (ha : DE X cl W a f) (hb : DE X cl W (.BoolOp .And (b :: rest) pos) g) : DE X cl W (.BoolOp .And (a :: b :: rest) pos) (vAnd f g) := PE_imp (pe_and ha hb) fun σ H Q h => by
  obtain ⟨H0, F0, ρ, F, A, R, p⟩ := h
  refine ⟨H0, F0, ρ, F, A, R, (Post.bind (S := SD X.K) p).imp fun v H1 ⟨F1, x, _, g1, s1, p1⟩ => ?_⟩
  cases x with
  | bool c =>
    refine ⟨c, s1, ?_⟩
    cases c with
    | true => exact ⟨H0, F0, ρ, F1, A, R.grow g1, p1⟩
    | false => exact Post.now (S := SD X.K) g1.fh p1 rfl
  | _ => exact p1.elim
theorem de_or {f g : Ev → Res D} {rest : List Expr} (ha : DE X cl W a f) (hb : DE X cl W (.BoolOp .Or (b :: rest) pos) g) : DE X cl W (.BoolOp .Or (a :: b :: rest) pos) (vOr f g) := PE_imp (pe_or ha hb) fun σ H Q h => by
  obtain ⟨H0, F0, ρ, F, A, R, p⟩ := h
  refine ⟨H0, F0, ρ, F, A, R, (Post.bind (S := SD X.K) p).imp fun v H1 ⟨F1, x, _, g1, s1, p1⟩ => ?_⟩
  cases x with
  | bool c =>
    refine ⟨c, s1, ?_⟩
    cases c with
    | false => exact ⟨H0, F0, ρ, F1, A, R.grow g1, p1⟩
    | true => exact Post.now (S := SD X.K) g1.fh p1 rfl
  | _ => exact p1.elim
theorem de_not {f : Ev → Res D} (ha : DE X cl W a f) : DE X cl W (.UnaryOp .Not a pos) (vNot f) := PE_imp (pe_not ha) fun σ H Q h => by
  obtain ⟨H0, F0, ρ, F, A, R, p⟩ := h
  refine ⟨H0, F0, ρ, F, A, R, (Post.bind (S := SD X.K) p).imp fun v H1 ⟨F1, x, _, g1, s1, p1⟩ => ?_⟩
  cases x with
  | bool c => exact ⟨c, s1, Post.now (S := SD X.K) g1.fh p1 rfl⟩
  | _ => exact p1.elim
def sIf (t : Ev → Res Bool) (f g : Ev → Res D) : Ev → Res D := fun ρ => (t ρ).bind fun c => if c = true then f ρ else g ρ
theorem de_if {t : Ev → Res Bool} {f g : Ev → Res D} (hc : DT X cl W c t) (ha : DE X cl W a f) (hb : DE X cl W b g) : DE X cl W (.IfExp c a b pos) (sIf t f g) := PE_imp (pe_ifExp hc ha hb) fun σ H Q h => by
  obtain ⟨H0, F0, ρ, F, A, R, p⟩ := h
  refine ⟨H0, F0, ρ, F, A, R, (Post.bind (S := SB) p).imp fun v H1 ⟨F1, x, _, g1, s1, p1⟩ => ?_⟩
  have s1' : x = v := s1
  subst s1'
  cases x with
  | true => exact ⟨H0, F0, ρ, F1, A, R.grow g1, p1⟩
  | false => exact ⟨H0, F0, ρ, F1, A, R.grow g1, p1⟩
/-- truth -/
def truD : D → Res Bool
  | .none => .ok false
  | .bool b => .ok b
  | .int i => .ok (i != 0)
  | .str y => if y.length ≤ big then .ok ((y.length : Int) != 0) else .bad
  | .list ds => .ok (!ds.isEmpty)
  | .tuple ds => .ok (!ds.isEmpty)
  | .dict _ => .bad
def sTru (f : Ev → Res D) : Ev → Res Bool := fun ρ => (f ρ).bind truD
theorem isEmpty_sees {K : PySem.W.Frag} {F : Hp} : ∀ {ds : List D} {xs : List V}, SeesL K F ds xs → ds.isEmpty = xs.isEmpty
  | [], [], _ => rfl
  | [], _ :: _, h => h.elim
  | _ :: _, [], h => h.elim
  | _ :: _, _ :: _, _ => rfl
theorem dt_tru {f : Ev → Res D} (ha : DE X cl W a f) (he : ∀ whole, isTrue a X.env whole = (do let v ← whole; standAt a.pos; holding [v] (truthy v)) := by intro _; rfl) : DT X cl W a (sTru f) := PT_imp (pt_truth ha he) fun σ H Q h => by
  obtain ⟨H0, F0, ρ, F, A, R, p⟩ := h
  refine ⟨H0, F0, ρ, F, A, R, (Post.bind (S := SD X.K) p).imp fun v H1 ⟨F1, x, _, g1, s1, p1⟩ => ?_⟩
  have fin : ∀ b, truD x = .ok b → Q b H1 := fun b e => by
    rw [e] at p1
    exact Post.now (S := SB) g1.fh p1 rfl
  cases x with
  | none =>
    rw [show v = V.non from s1]
    exact ⟨false, rfl, fin _ rfl⟩
  | bool b =>
    rw [show v = V.bl b from s1]
    exact ⟨b, rfl, fin _ rfl⟩
  | int b =>
    rw [show v = V.int b from s1]
    exact ⟨_, rfl, fin _ rfl⟩
  | str y =>
    rw [show v = V.str y from s1]
    by_cases h : y.length ≤ big
    · exact ⟨_, ⟨big_le h, rfl⟩, fin _ (by show (if y.length ≤ big then Res.ok ((y.length : Int) != 0) else Res.bad) = _; rw [if_pos h])⟩
    · have p1' : Post SB cl W σ H1 F1 (if y.length ≤ big then Res.ok ((y.length : Int) != 0) else Res.bad) Q := p1
      rw [if_neg h] at p1'
      exact p1'.elim
  | list ds =>
    obtain ⟨q, xs, rfl, hq, hs⟩ := s1
    exact ⟨_, .inl ⟨xs, SqL.of (g1.fh _ _ hq), rfl⟩, fin _ (by show Res.ok (!ds.isEmpty) = _; rw [isEmpty_sees hs])⟩
  | tuple ds =>
    obtain ⟨q, xs, rfl, hq, hs⟩ := s1
    exact ⟨_, .inr (.inl ⟨xs, SqT.of (g1.fh _ _ hq), rfl⟩), fin _ (by show Res.ok (!ds.isEmpty) = _; rw [isEmpty_sees hs])⟩
  | dict _ => exact p1.elim

/-! ### argument lists, displays -/
def aNil : Ev → Res (List D) := fun _ => .ok []
def aCons (f : Ev → Res D) (g : Ev → Res (List D)) : Ev → Res (List D) := fun ρ => (f ρ).bind fun x => (g ρ).bind fun xs => .ok (x :: xs)
def aStar (f : Ev → Res D) (g : Ev → Res (List D)) : Ev → Res (List D) := fun ρ => (f ρ).bind fun x => match x with
  | .list ys => (g ρ).bind fun xs => .ok (ys ++ xs)
  | .tuple ys => (g ρ).bind fun xs => .ok (ys ++ xs)
  | _ => .bad
theorem da_nil : DA X cl W [] aNil := PA_imp pa_nil fun σ H Q h => by
  obtain ⟨H0, F0, ρ, F, A, R, p⟩ := h
  exact Post.now (S := SL X.K) R.sub p True.intro
theorem da_cons {es : List Expr} {f : Ev → Res D} {g : Ev → Res (List D)} (h1 : DE X cl W e f) (h2 : DA X cl W es g) (hs : starEach (e :: es) X.env = (false, eval e X.env) :: starEach es X.env := by rfl) : DA X cl W (e :: es) (aCons f g) := PA_imp (pa_cons h1 h2 hs) fun σ H Q h => by
  obtain ⟨H0, F0, ρ, F, A, R, p⟩ := h
  refine ⟨H0, F0, ρ, F, A, R, (Post.bind (S := SD X.K) p).imp fun v H1 ⟨F1, x, _, g1, s1, p1⟩ => ?_⟩
  refine ⟨H0, F0, ρ, F1, A, R.grow g1, (Post.bind (S := SL X.K) p1).imp fun vs H2 ⟨F2, xs, _, g2, s2, p2⟩ => ?_⟩
  exact Post.now (S := SL X.K) g2.fh p2 ⟨s1.mono g2.ff, s2⟩
theorem da_star {es : List Expr} {f : Ev → Res D} {g : Ev → Res (List D)} {p : Pos} (h1 : DE X cl W e f) (h2 : DA X cl W es g) : DA X cl W (.Starred e p :: es) (aStar f g) := PA_imp (StX.pa_star h1 h2) fun σ H Q h => by
  obtain ⟨H0, F0, ρ, F, A, R, p⟩ := h
  refine ⟨H0, F0, ρ, F, A, R, (Post.bind (S := SD X.K) p).imp fun v H1 ⟨F1, x, _, g1, s1, p1⟩ => ?_⟩
  cases x with
  | list ds =>
    obtain ⟨a, xs, rfl, ha, hs⟩ := s1
    refine ⟨a, xs, rfl, .inr (SqL.of (g1.fh _ _ ha)), H0, F0, ρ, F1, A, R.grow g1, (Post.bind (S := SL X.K) p1).imp fun vs H2 ⟨F2, ys, _, g2, s2, p2⟩ => ?_⟩
    exact Post.now (S := SL X.K) g2.fh p2 ((hs.mono g2.ff).app s2)
  | tuple ds =>
    obtain ⟨a, xs, rfl, ha, hs⟩ := s1
    refine ⟨a, xs, rfl, .inl (SqT.of (g1.fh _ _ ha)), H0, F0, ρ, F1, A, R.grow g1, (Post.bind (S := SL X.K) p1).imp fun vs H2 ⟨F2, ys, _, g2, s2, p2⟩ => ?_⟩
    exact Post.now (S := SL X.K) g2.fh p2 ((hs.mono g2.ff).app s2)
  | _ => exact p1.elim
def sTup (f : Ev → Res (List D)) : Ev → Res D := fun ρ => (f ρ).bind fun xs => if xs.length ≤ big then .ok (.tuple xs) else .bad
def sLst (f : Ev → Res (List D)) : Ev → Res D := fun ρ => (f ρ).bind fun xs => if xs.length ≤ big then .ok (.list xs) else .bad
theorem tx_tup {K : PySem.W.Frag} {f : Ev → Res (List D)} : ∀ σ H Q, tX K P w (SD K) cl W (sTup f) σ H Q → tTup (tX K P w (SL K) cl W f) σ H Q := fun σ H Q h => by
  obtain ⟨H0, F0, ρ, F, A, R, p⟩ := h
  refine ⟨H0, F0, ρ, F, A, R, (Post.bind (S := SL K) p).imp fun vs H1 ⟨F1, xs, _, g1, s1, p1⟩ => ?_⟩
  by_cases h : xs.length ≤ big
  · rw [if_pos h] at p1
    exact ⟨big_le (by rw [← SeesL.length s1]; exact h), fun q hq => Post.newT g1.fh p1 s1 hq⟩
  · rw [if_neg h] at p1
    exact p1.elim
theorem tx_lst {K : PySem.W.Frag} {f : Ev → Res (List D)} : ∀ σ H Q, tX K P w (SD K) cl W (sLst f) σ H Q → tLst (tX K P w (SL K) cl W f) σ H Q := fun σ H Q h => by
  obtain ⟨H0, F0, ρ, F, A, R, p⟩ := h
  refine ⟨H0, F0, ρ, F, A, R, (Post.bind (S := SL K) p).imp fun vs H1 ⟨F1, xs, _, g1, s1, p1⟩ => ?_⟩
  by_cases h : xs.length ≤ big
  · rw [if_pos h] at p1
    exact ⟨big_le (by rw [← SeesL.length s1]; exact h), fun q hq => Post.newL g1.fh p1 s1 hq⟩
  · rw [if_neg h] at p1
    exact p1.elim
end
end Dn

set_option Elab.async false
set_option linter.all false
set_option maxRecDepth 100000
set_option maxHeartbeats 4000000
namespace Dn
open PySem PySem.Spec PyProof.Rows L2
variable [En]
/-! ### places, slices -/
section
variable {X : Cx} {cl : Nat → Addr} {W : WX} {e a b c : Expr} {pos : Pos} {K : PySem.W.Frag} {P : Program} {w : World}
theorem SeesL.atI {F : Hp} {ds : List D} {xs : List V} {i : Int} {d : D} (h : SeesL K F ds xs) (e : L2.atI ds i = some d) : ∃ v, L2.atI xs i = some v ∧ Sees K F d v := by
  unfold L2.atI at e ⊢
  rw [← h.length]
  cases q : ixN ds.length i with
  | none => rw [q] at e; cases e
  | some j =>
    rw [q] at e
    exact SeesL.get (i := j) h e
def oIx : D → D → Res D
  | .list ds, .int i => ofO (L2.atI ds i)
  | .tuple ds, .int i => ofO (L2.atI ds i)
  | _, _ => .bad
theorem od_ix : OpD K (rIx K) oIx := by
  intro cl W σ x y v u H F Q e sx sy p
  cases y with
  | int i =>
    cases x with
    | list ds =>
      obtain ⟨q, xs, rfl, hq, hs⟩ := sx
      have p' : Post (SD K) cl W σ H F (ofO (L2.atI ds i)) Q := p
      cases r : L2.atI ds i with
      | none => rw [r] at p'; exact p'.elim
      | some d =>
        rw [r] at p'
        obtain ⟨w, h1, h2⟩ := hs.atI r
        exact .inl ⟨q, xs, i, w, rfl, sy, SqL.of (e _ _ hq), h1, Post.now (S := SD K) e p' h2⟩
    | tuple ds =>
      obtain ⟨q, xs, rfl, hq, hs⟩ := sx
      have p' : Post (SD K) cl W σ H F (ofO (L2.atI ds i)) Q := p
      cases r : L2.atI ds i with
      | none => rw [r] at p'; exact p'.elim
      | some d =>
        rw [r] at p'
        obtain ⟨w, h1, h2⟩ := hs.atI r
        exact .inr (.inl ⟨q, xs, i, w, rfl, sy, SqT.of (e _ _ hq), h1, Post.now (S := SD K) e p' h2⟩)
    | _ => exact p.elim
  | _ =>
    cases x with
    | _ => exact p.elim
theorem de_ix {f g : Ev → Res D} (ha : DE X cl W a f) (hb : DE X cl W b g) (hs : PlainIx b := by exact fun _ _ => rfl) : DE X cl W (.Subscript a b pos) (s2 oIx f g) := PE_imp (pe_ix ix_seq ha hb hs) (tx_op od_ix)
def cutD (xs : List D) (lo hi : Option Int) : List D := (xs.drop (HT.sIx xs.length 0 lo)).take (HT.sIx xs.length xs.length hi - HT.sIx xs.length 0 lo)
theorem SeesL.cut {F : Hp} {ds : List D} {xs : List V} {lo hi : Option Int} (h : SeesL K F ds xs) : SeesL K F (cutD ds lo hi) (cutV xs lo hi) := by
  unfold cutD cutV
  rw [← h.length]
  exact (h.drop _).take _
def pNo : Ev → Res (Option Int) := fun _ => .ok none
def asI : D → Res Int
  | .int i => .ok i
  | _ => .bad
def pSo (f : Ev → Res D) : Ev → Res (Option Int) := fun ρ => (f ρ).bind fun x => (asI x).bind fun i => .ok (some i)
theorem do_no : DO X cl W none pNo := PO_imp po_none fun σ H Q h => by
  obtain ⟨H0, F0, ρ, F, A, R, p⟩ := h
  exact Post.now (S := SO) R.sub p rfl
theorem do_so {f : Ev → Res D} (h : DE X cl W e f) : DO X cl W (some e) (pSo f) := PO_imp (po_some h) fun σ H Q h => by
  obtain ⟨H0, F0, ρ, F, A, R, p⟩ := h
  refine ⟨H0, F0, ρ, F, A, R, (Post.bind (S := SD X.K) p).imp fun v H1 ⟨F1, x, _, g1, s1, p1⟩ => ?_⟩
  cases x with
  | int i => exact ⟨i, s1, Post.now (S := SO) g1.fh p1 rfl⟩
  | _ => exact p1.elim
def sSl (f : Ev → Res D) (lo hi : Ev → Res (Option Int)) : Ev → Res D := fun ρ => (f ρ).bind fun x => (lo ρ).bind fun l => (hi ρ).bind fun h => match x with
  | .list ds => .ok (.list (cutD ds l h))
  | _ => .bad
theorem de_sl {f : Ev → Res D} {g h : Ev → Res (Option Int)} {lo hi : Option Expr} {p2 : Pos} (he : DE X cl W e f) (hl : DO X cl W lo g) (hu : DO X cl W hi h) : DE X cl W (.Subscript e (.Slice lo hi none p2) pos) (sSl f g h) := PE_imp (pe_slice sl_list he hl hu) fun σ H Q q => by
  obtain ⟨H0, F0, ρ, F, A, R, p⟩ := q
  refine ⟨H0, F0, ρ, F, A, R, (Post.bind (S := SD X.K) p).imp fun v H1 ⟨F1, x, _, g1, s1, p1⟩ => ?_⟩
  refine ⟨H0, F0, ρ, F1, A, R.grow g1, (Post.bind (S := SO) p1).imp fun l H2 ⟨F2, l', _, g2, s2, p2⟩ => ?_⟩
  refine ⟨H0, F0, ρ, F2, A, (R.grow g1).grow g2, (Post.bind (S := SO) p2).imp fun u H3 ⟨F3, u', _, g3, s3, p3⟩ => ?_⟩
  have e2 : l' = l := s2
  have e3 : u' = u := s3
  subst e2 e3
  cases x with
  | list ds =>
    obtain ⟨q, xs, rfl, hq, hs⟩ := s1
    refine ⟨q, xs, rfl, SqL.of (g3.fh _ _ (g3.ff _ _ (g2.ff _ _ hq))), fun z hz => ?_⟩
    exact Post.newL g3.fh p3 ((hs.mono (g2.ff.trans g3.ff)).cut) hz
  | _ => exact p3.elim
end
/-! a pair turned round -/
section
variable {prog : Program} {w : World} {A : Around} {E : Value → Shared → Prop} {s : Shared}
theorem sliceApplied_rev {sl : Addr} {vs : Value} {Q : Int × Int × Nat → Shared → Prop} (hs : s.heap.IsSliceOf sl .none .none vs) (ps : IsPart vs (some (-1)))
    (h : Q (1, -1, 2) s) : wpAny (model prog w) A (Builtin.Slice.sliceApplied (.ref sl) (pure (2 : Int))) Q E s := by
  obtain ⟨os, hos, hcs, hds⟩ := id hs
  unfold Builtin.Slice.sliceApplied Builtin.Slice.sliceFields
  refine wpAny_bind (wpAny_bind (wpAny_field hos hds (x := .none) rfl (wpAny_bind (wpAny_field hos hds (x := .none) rfl (wpAny_bind (wpAny_field hos hds (x := vs) rfl (wpAny_pure ?_)))))))
  refine wpAny_bind (HT.slicePart_ ps ?_)
  show wpAny _ _ (if ((-1 : Int) == 0) = true then _ else _) _ _ s
  rw [if_neg (by decide)]
  refine wpAny_bind (HT.slicePart_ .none (wpAny_bind (HT.slicePart_ .none (wpAny_bind (wpAny_pure ?_)))))
  exact wpAny_pure h
theorem getItem_pair_rev {t sl : Addr} {u1 u2 : Value} {vs : Value} {Q : Value → Shared → Prop} (ht : IsTup s.heap t #[u1, u2]) (hs : s.heap.IsSliceOf sl .none .none vs) (ps : IsPart vs (some (-1)))
    (h : Q (.ref s.heap.objs.size) { s with heap := s.heap.push { cls := .type "tuple", data := .seq #[u2, u1] } }) : wpAny (model prog w) A (getItem (.ref t) (.ref sl)) Q E s := by
  obtain ⟨os, hos, hcs, hds⟩ := id hs
  have hTs : s.TypeIs (.ref sl) "slice" := ⟨os, hos, hcs⟩
  have htake : sizeOk (.seq #[u2, u1]) := by
    show 2 ≤ sizeLine
    decide
  unfold getItem
  try with_reducible refine wpAny_holding ?_
  first | refine wpAny_bind (wpAny_pure ?_) | skip
  refine wpAny_bind (wpAny_sequenceKey ht.typeIs (by decide) ?_)
  refine wpAny_bind (wpAny_callSpecial?_slot (name := Str.ofString "__getitem__") ht.typeIs PyProof.Rows.slot_tuple_getitem
    (wpAny_call_entry PyProof.Rows.slot_tuple_getitem ht.typeIs entry_tuple_getitem ?_ (args_tuple_getitem _ _)))
  show wpAny _ _ (Builtin.Tuple.tupleItemsOf (.ref t) >>= _) _ _ s
  refine wpAny_bind (tupleItemsOf_ ht ?_)
  refine wpAny_bind (wpAny_typeOf hTs ?_)
  rw [if_pos (by decide)]
  refine wpAny_bind (sliceApplied_rev hs ps ?_)
  show wpAny _ _ (if ((1 : Int) == 0 && (-1 : Int) == 1 && (2 : Nat) == 2) = true then _ else _) _ _ s
  rw [if_neg (by decide)]
  have e : ((List.range 2).filterMap fun (m : Nat) => (#[u1, u2] : Array Value)[((1 : Int) + (m : Int) * (-1)).toNat]?).toArray = #[u2, u1] := rfl
  first
    | exact wpAny_bind (m := Builtin.Tuple.tupleExact _) (wpAny_newObj_type (wpAny_pure ⟨_, rfl, wpAny_pure h⟩) htake)
    | exact wpAny_bind (m := Builtin.Tuple.tupleExact _) (wpAny_newObj_type (wpAny_bind (wpAny_pure (wpAny_pure ⟨_, rfl, wpAny_pure h⟩))) htake)
    | exact wpAny_bind (wpAny_bind (m := Builtin.Tuple.tupleExact _) (wpAny_newObj_type (wpAny_pure (wpAny_pure ⟨_, rfl, wpAny_pure h⟩)) htake))
    | exact wpAny_bind (wpAny_bind (m := Builtin.Tuple.tupleExact _) (wpAny_newObj_type (wpAny_pure ⟨_, rfl, wpAny_pure h⟩) htake))
end
section
variable {X : Cx} {cl : Nat → Addr} {W : WX} {e a b c : Expr} {pos : Pos} {K : PySem.W.Frag} {P : Program} {w : World}
def tRev2 (te : TE) : TE := fun σ H Q => te σ H fun x H1 => ∃ a u v, x = .ref a ∧ H1 a = some (.tup [u, v]) ∧ ∀ p, H1 p = none → Q (.ref p) (upd H1 p (.tup [v, u]))
theorem pe_rev2 {te : TE} {k : Nat} {p1 p2 p3 : Pos} (he : PE X e te) : PE X (.Subscript e (.Slice none none (some (.UnaryOp .USub (.Constant (.int 1) k p1) p2)) p3) pos) (tRev2 te) := by
  refine ⟨fun pins s σ H Q I h => ?_⟩
  refine Subscript_ (thn (he.run pins s σ H _ I h) fun v s1 ⟨x, H1, I1, r1, q1⟩ => ?_)
  obtain ⟨a, y, z, ex, hx, q⟩ := q1
  subst ex
  cases r1
  have hst : PO X (some (.UnaryOp .USub (.Constant (.int 1) k p1) p2)) (tPart (tUn (rU fun i => .int (-i)) (tC (.int 1)))) := po_some (pe_un un_neg pe_int)
  refine wpAny_Slice (thn (po_none.run pins s1 σ H1 (fun o H2 => o = none ∧ H2 = H1) I1 ⟨rfl, rfl⟩) fun vl s2 ⟨l, H2, I2, pl, el, e2⟩ => ?_)
  subst el e2
  refine thn (po_none.run pins s2 σ H2 (fun o H3 => o = none ∧ H3 = H2) I2 ⟨rfl, rfl⟩) fun vu s3 ⟨u, H3, I3, pu, eu, e3⟩ => ?_
  subst eu e3
  refine thn (hst.run pins s3 σ H3 (fun o H4 => o = some (-1) ∧ H4 = H3) I3 ⟨1, rfl, -1, rfl, rfl, rfl⟩) fun vs s4 ⟨o, H4, I4, ps, eo, e4⟩ => ?_
  subst eo e4
  cases pl
  cases pu
  have I5 : Inv X pins σ H4 { s4 with heap := s4.heap.push { cls := .type "slice", data := .fields #[.none, .none, vs] } } := I4.kept (t' := s4.toks) fun b ob q => Heap.get?_push_of_some _ q
  obtain ⟨its, r, ht, hz⟩ := I5.tuple (SqT.of hx)
  obtain ⟨u1, u2, e5, r1, r2⟩ : ∃ u1 u2, its = [u1, u2] ∧ RelV y u1 ∧ RelV z u2 := by
    cases r with
    | cons r1 rr =>
      cases rr with
      | cons r2 rr =>
        cases rr
        exact ⟨_, _, rfl, r1, r2⟩
  subst e5
  show wpAny (model X.prog X.w) X.A (subscriptTail e (.Slice none none (some (.UnaryOp .USub (.Constant (.int 1) k p1) p2)) p3) (.ref a) (.ref s4.heap.objs.size)) (EP X pins σ Q) X.xe { s4 with heap := s4.heap.push { cls := .type "slice", data := .fields #[.none, .none, vs] } }
  refine tail_any (ops := [.ref a, .ref s4.heap.objs.size]) ht.typeIs PyProof.Rows.slot_tuple_getitem.lookup ?_ (by with_unfolding_all rfl)
  refine getItem_pair_rev (s := { s4 with heap := s4.heap.push { cls := .type "slice", data := .fields #[.none, .none, vs] } }) ht (Heap.IsSliceOf.new ..) ps ?_
  refine ⟨.ref _, _, I5.laid (t' := s4.toks) (o := .tup [z, y]) (fun b ob q => Heap.get?_push_of_some _ q) (Nat.le_refl _) ?_, rfl, q _ (I5.hok.fresh (Nat.le_refl _))⟩
  exact ⟨by show 2 ≤ sizeLine; decide, [u2, u1], .cons r2 (.cons r1 .nil), _, Heap.get?_push_size _ rfl, rfl, _, rfl⟩
def oRev : D → Res D
  | .tuple [x, y] => .ok (.tuple [y, x])
  | _ => .bad
def sRev (f : Ev → Res D) : Ev → Res D := fun ρ => (f ρ).bind oRev
theorem de_rev {f : Ev → Res D} {k : Nat} {p1 p2 p3 : Pos} (he : DE X cl W e f) : DE X cl W (.Subscript e (.Slice none none (some (.UnaryOp .USub (.Constant (.int 1) k p1) p2)) p3) pos) (sRev f) := PE_imp (pe_rev2 he) fun σ H Q h => by
  obtain ⟨H0, F0, ρ, F, A, R, p⟩ := h
  refine ⟨H0, F0, ρ, F, A, R, (Post.bind (S := SD X.K) p).imp fun v H1 ⟨F1, x, _, g1, s1, p1⟩ => ?_⟩
  match x, s1, p1 with
  | .tuple [x, y], s1, p1 =>
    obtain ⟨a, xs, rfl, ha, hs⟩ := s1
    match xs, hs with
    | [u, v], hs =>
      exact ⟨a, u, v, rfl, g1.fh _ _ ha, fun q hq => Post.newT g1.fh p1 ⟨hs.2.1, hs.1, True.intro⟩ hq⟩
  | .tuple [], _, p1 => exact p1.elim
  | .tuple [_], _, p1 => exact p1.elim
  | .tuple (_ :: _ :: _ :: _), _, p1 => exact p1.elim
  | .none, _, p1 => exact p1.elim
  | .bool _, _, p1 => exact p1.elim
  | .int _, _, p1 => exact p1.elim
  | .str _, _, p1 => exact p1.elim
  | .list _, _, p1 => exact p1.elim
  | .dict _, _, p1 => exact p1.elim

/-! ### built-in functions -/
def sCall (o : List D → Res D) (f : Ev → Res (List D)) : Ev → Res D := fun ρ => (f ρ).bind o
def CallD (K : PySem.W.Frag) (r : List V → Hp → VK → Prop) (o : List D → Res D) : Prop := ∀ (cl : Nat → Addr) (W : WX) (σ : L2.St) (ds : List D) (vs : List V) (H F : Hp) (Q : VK), Same F H → SeesL K F ds vs → Post (SD K) cl W σ H F (o ds) Q → r vs H Q
theorem tx_call {r : List V → Hp → VK → Prop} {o : List D → Res D} {f : Ev → Res (List D)} (od : CallD K r o) : ∀ σ H Q, tX K P w (SD K) cl W (sCall o f) σ H Q → tCB r (tX K P w (SL K) cl W f) σ H Q := fun σ H Q h => by
  obtain ⟨H0, F0, ρ, F, A, R, p⟩ := h
  refine ⟨H0, F0, ρ, F, A, R, (Post.bind (S := SL K) p).imp fun v H1 ⟨F1, x, _, g1, s1, p1⟩ => ?_⟩
  exact od cl W σ x v H1 F1 Q g1.fh s1 p1
theorem de_bltn {x : Str} {id : String} {r : List V → Hp → VK → Prop} {o : List D → Res D} {es : List Expr} {p : Pos} {f : Ev → Res (List D)} (hc : CallR X (.builtin id) r) (od : CallD X.K r o) (hm : X.mg x = none) (hv : bootBuiltins x = some (.builtin id)) (ha : DA X cl W (e :: es) f) (hg : Gl X x := by rfl) (hn : x ≠ "__name__" := by decide) (hdb : (x == ("__debug__" : Str)) = false := by decide)
    (he : starEach (e :: es) X.env = (false, eval e X.env) :: starEach es X.env := by rfl) (hpl : (backTo pos (starEach es X.env)).any (·.1) = false := by rfl) : DE X cl W (.Call (.Name x p) (e :: es) [] pos) (sCall o f) := PE_imp (pe_callB hc hg hm hv ha hn hdb he hpl) (tx_call od)
theorem de_bty {x : Str} {id : String} {r : List V → Hp → VK → Prop} {o : List D → Res D} {es : List Expr} {p : Pos} {f : Ev → Res (List D)} (hc : CallR X (.type id) r) (od : CallD X.K r o) (hm : X.mg x = none) (hv : bootBuiltins x = some (.type id)) (ha : DA X cl W (e :: es) f) (hg : Gl X x := by rfl) (hn : x ≠ "__name__" := by decide) (hdb : (x == ("__debug__" : Str)) = false := by decide)
    (he : starEach (e :: es) X.env = (false, eval e X.env) :: starEach es X.env := by rfl) (hpl : (backTo pos (starEach es X.env)).any (·.1) = false := by rfl) : DE X cl W (.Call (.Name x p) (e :: es) [] pos) (sCall o f) := PE_imp (pe_callTy hc hg hm hv ha hn hdb he hpl) (tx_call od)
def oLen : List D → Res D
  | [.list ds] => .ok (.int ds.length)
  | [.tuple ds] => .ok (.int ds.length)
  | _ => .bad
/-- one argument -/
theorem cd_one {r : List V → Hp → VK → Prop} {o : List D → Res D} (k : ∀ (cl : Nat → Addr) (W : WX) (σ : L2.St) (d : D) (v : V) (H F : Hp) (Q : VK), Same F H → Sees K F d v → Post (SD K) cl W σ H F (o [d]) Q → r [v] H Q) (h0 : o [] = .bad) (h2 : ∀ x y z, o (x :: y :: z) = .bad) : CallD K r o := by
  intro cl W σ ds vs H F Q e s p
  match ds, vs, s with
  | [], _, _ => rw [h0] at p; exact p.elim
  | [d], [v], s => exact k cl W σ d v H F Q e s.1 p
  | [d], v :: u :: _, s => exact s.2.elim
  | [d], [], s => exact s.elim
  | x :: y :: z, _, _ => rw [h2] at p; exact p.elim
theorem cd_len : CallD K (fun xs H Q => ∃ p ys, xs = [.ref p] ∧ (SqL K H p ys ∨ SqT K H p ys) ∧ Q (.int ys.length) H) oLen := cd_one (fun cl W σ d v H F Q e s p => by
  cases d with
  | list ds =>
    obtain ⟨a, xs, rfl, ha, hs⟩ := s
    exact ⟨a, xs, rfl, .inl (SqL.of (e _ _ ha)), Post.now (S := SD K) e p (by rw [hs.length]; rfl)⟩
  | tuple ds =>
    obtain ⟨a, xs, rfl, ha, hs⟩ := s
    exact ⟨a, xs, rfl, .inr (SqT.of (e _ _ ha)), Post.now (S := SD K) e p (by rw [hs.length]; rfl)⟩
  | _ => exact p.elim) rfl fun x y z => by cases x <;> rfl
/-- the whole numbers of a list -/
def intsO : List D → Option (List Int)
  | [] => some []
  | .int i :: r => (intsO r).map (i :: ·)
  | _ :: _ => none
def blsO : List D → Option (List Bool)
  | [] => some []
  | .bool i :: r => (blsO r).map (i :: ·)
  | _ :: _ => none
theorem intsO_eq : ∀ {ds : List D} {ns : List Int}, intsO ds = some ns → ds = ns.map .int
  | [], ns, h => by rw [← Option.some.inj h]; rfl
  | .int i :: r, ns, h => by
    have h' : (intsO r).map (i :: ·) = some ns := h
    cases q : intsO r with
    | none => rw [q] at h'; cases h'
    | some ms =>
      rw [q] at h'
      rw [← Option.some.inj h', intsO_eq q]
      rfl
  | .none :: _, _, h => nomatch h
  | .bool _ :: _, _, h => nomatch h
  | .str _ :: _, _, h => nomatch h
  | .list _ :: _, _, h => nomatch h
  | .tuple _ :: _, _, h => nomatch h
  | .dict _ :: _, _, h => nomatch h
theorem blsO_eq : ∀ {ds : List D} {ns : List Bool}, blsO ds = some ns → ds = ns.map .bool
  | [], ns, h => by rw [← Option.some.inj h]; rfl
  | .bool i :: r, ns, h => by
    have h' : (blsO r).map (i :: ·) = some ns := h
    cases q : blsO r with
    | none => rw [q] at h'; cases h'
    | some ms =>
      rw [q] at h'
      rw [← Option.some.inj h', blsO_eq q]
      rfl
  | .none :: _, _, h => nomatch h
  | .int _ :: _, _, h => nomatch h
  | .str _ :: _, _, h => nomatch h
  | .list _ :: _, _, h => nomatch h
  | .tuple _ :: _, _, h => nomatch h
  | .dict _ :: _, _, h => nomatch h
theorem intsO_map : ∀ ns : List Int, intsO (ns.map .int) = some ns
  | [] => rfl
  | n :: ns => by
    show (intsO (ns.map .int)).map (n :: ·) = _
    rw [intsO_map ns]
    rfl
theorem blsO_map : ∀ ns : List Bool, blsO (ns.map .bool) = some ns
  | [] => rfl
  | n :: ns => by
    show (blsO (ns.map .bool)).map (n :: ·) = _
    rw [blsO_map ns]
    rfl
def oSum : List D → Res D
  | [.list ds] => ofO ((intsO ds).map fun ns => .int ns.sum)
  | [.tuple ds] => .bad
  | _ => .bad
def oAll : List D → Res D
  | [.list ds] => ofO ((blsO ds).map fun ns => .bool (ns.all id))
  | _ => .bad
theorem cd_sum : CallD K (rSum K) oSum := cd_one (fun cl W σ d v H F Q e s p => by
  cases d with
  | list ds =>
    obtain ⟨a, xs, rfl, ha, hs⟩ := s
    have p' : Post (SD K) cl W σ H F (ofO ((intsO ds).map fun ns => .int ns.sum)) Q := p
    cases q : intsO ds with
    | none => rw [q] at p'; exact p'.elim
    | some ns =>
      rw [q] at p'
      rw [intsO_eq q] at hs
      have ex := hs.ints
      subst ex
      exact ⟨a, ns, rfl, SqL.of (e _ _ ha), Post.now (S := SD K) e p' rfl⟩
  | _ => exact p.elim) rfl fun x y z => by cases x <;> rfl
theorem cd_all : CallD K (rAll K) oAll := cd_one (fun cl W σ d v H F Q e s p => by
  cases d with
  | list ds =>
    obtain ⟨a, xs, rfl, ha, hs⟩ := s
    have p' : Post (SD K) cl W σ H F (ofO ((blsO ds).map fun ns => .bool (ns.all id))) Q := p
    cases q : blsO ds with
    | none => rw [q] at p'; exact p'.elim
    | some ns =>
      rw [q] at p'
      rw [blsO_eq q] at hs
      have ex := hs.bls
      subst ex
      exact ⟨a, ns, rfl, SqL.of (e _ _ ha), Post.now (S := SD K) e p' rfl⟩
  | _ => exact p.elim) rfl fun x y z => by cases x <;> rfl
def oAbs : List D → Res D
  | [.int i] => .ok (.int (if i < 0 then -i else i))
  | _ => .bad
theorem cd_abs : CallD K (fun xs H Q => ∃ i, xs = [V.int i] ∧ Q (.int (if i < 0 then -i else i)) H) oAbs := cd_one (fun cl W σ d v H F Q e s p => by
  cases d with
  | int i => exact ⟨i, by rw [show v = V.int i from s], Post.now (S := SD K) e p rfl⟩
  | _ => exact p.elim) rfl fun x y z => by cases x <;> rfl
def oMax2 : List D → Res D
  | [.int i, .int j] => .ok (.int (if j > i then j else i))
  | _ => .bad
def oMin2 : List D → Res D
  | [.int i, .int j] => .ok (.int (if j < i then j else i))
  | _ => .bad
theorem cd_two {r : List V → Hp → VK → Prop} {o : List D → Res D} (k : ∀ (cl : Nat → Addr) (W : WX) (σ : L2.St) (d d' : D) (v v' : V) (H F : Hp) (Q : VK), Same F H → Sees K F d v → Sees K F d' v' → Post (SD K) cl W σ H F (o [d, d']) Q → r [v, v'] H Q) (h0 : o [] = .bad) (h1 : ∀ x, o [x] = .bad) (h2 : ∀ x y z u, o (x :: y :: z :: u) = .bad) : CallD K r o := by
  intro cl W σ ds vs H F Q e s p
  match ds, vs, s with
  | [], _, _ => rw [h0] at p; exact p.elim
  | [d], _, _ => rw [h1] at p; exact p.elim
  | [d, d'], [v, v'], s => exact k cl W σ d d' v v' H F Q e s.1 s.2.1 p
  | [d, d'], v :: u :: _ :: _, s => exact s.2.2.elim
  | [d, d'], [], s => exact s.elim
  | [d, d'], [v], s => exact s.2.elim
  | x :: y :: z :: u, _, _ => rw [h2] at p; exact p.elim
theorem cd_max2 : CallD K (fun xs H Q => ∃ i j, xs = [V.int i, V.int j] ∧ Q (.int (if j > i then j else i)) H) oMax2 := cd_two (fun cl W σ d d' v v' H F Q e s s' p => by
  cases d with
  | int i =>
    cases d' with
    | int j => exact ⟨i, j, by rw [show v = V.int i from s, show v' = V.int j from s'], Post.now (S := SD K) e p rfl⟩
    | _ => exact p.elim
  | _ => exact p.elim) rfl (fun x => by cases x <;> rfl) fun x y z u => by cases x <;> cases y <;> rfl
theorem cd_min2 : CallD K (fun xs H Q => ∃ i j, xs = [V.int i, V.int j] ∧ Q (.int (if j < i then j else i)) H) oMin2 := cd_two (fun cl W σ d d' v v' H F Q e s s' p => by
  cases d with
  | int i =>
    cases d' with
    | int j => exact ⟨i, j, by rw [show v = V.int i from s, show v' = V.int j from s'], Post.now (S := SD K) e p rfl⟩
    | _ => exact p.elim
  | _ => exact p.elim) rfl (fun x => by cases x <;> rfl) fun x y z u => by cases x <;> cases y <;> rfl
def oList : List D → Res D
  | [.list ds] => .ok (.list ds)
  | [.tuple ds] => .ok (.list ds)
  | _ => .bad
theorem cd_list : CallD K (fun xs H Q => ∃ p ys, xs = [V.ref p] ∧ (SqL K H p ys ∨ SqT K H p ys) ∧ ∀ l, H l = none → Q (.ref l) (upd H l (.lst ys))) oList := cd_one (fun cl W σ d v H F Q e s p => by
  cases d with
  | list ds =>
    obtain ⟨a, xs, rfl, ha, hs⟩ := s
    exact ⟨a, xs, rfl, .inl (SqL.of (e _ _ ha)), fun q hq => Post.newL e p hs hq⟩
  | tuple ds =>
    obtain ⟨a, xs, rfl, ha, hs⟩ := s
    exact ⟨a, xs, rfl, .inr (SqT.of (e _ _ ha)), fun q hq => Post.newL e p hs hq⟩
  | _ => exact p.elim) rfl fun x y z => by cases x <;> rfl
end
end Dn

set_option Elab.async false
set_option linter.all false
set_option maxRecDepth 100000
set_option maxHeartbeats 4000000
namespace Dn
open PySem PySem.Spec PyProof.Rows L2
variable [En]
/-! ### sorting, as a function -/
abbrev PII := Int × Int
def insP (p : PII) : List PII → List PII
  | [] => [p]
  | q :: r => if SrtO.lexB q p = true then q :: insP p r else p :: q :: r
def sortP : List PII → List PII
  | [] => []
  | p :: r => insP p (sortP r)
def insI (p : Int) : List Int → List Int
  | [] => [p]
  | q :: r => if q < p then q :: insI p r else p :: q :: r
def sortI : List Int → List Int
  | [] => []
  | p :: r => insI p (sortI r)
abbrev SrtP (l : List PII) : Prop := l.Pairwise fun x y => SrtO.lexB y x = false
theorem insP_perm (p : PII) : ∀ l : List PII, (insP p l).Perm (p :: l)
  | [] => List.Perm.refl _
  | q :: r => by
    unfold insP
    by_cases h : SrtO.lexB q p = true
    · rw [if_pos h]
      exact ((insP_perm p r).cons q).trans (List.Perm.swap p q r)
    · rw [if_neg h]
theorem sortP_perm : ∀ l : List PII, (sortP l).Perm l
  | [] => List.Perm.refl _
  | p :: r => (insP_perm p (sortP r)).trans ((sortP_perm r).cons p)
theorem insP_srt (p : PII) : ∀ l : List PII, SrtP l → SrtP (insP p l)
  | [], _ => List.pairwise_singleton _ _
  | q :: r, h => by
    have h' := List.pairwise_cons.mp h
    unfold insP
    by_cases c : SrtO.lexB q p = true
    · rw [if_pos c]
      refine List.pairwise_cons.mpr ⟨fun y hy => ?_, insP_srt p r h'.2⟩
      rcases List.mem_cons.mp ((insP_perm p r).mem_iff.mp hy) with e | hy
      · rw [e]
        have a := SrtO.lexB_iff.mp c
        exact SrtO.lexB_no.mpr (by omega)
      · exact h'.1 y hy
    · rw [if_neg c]
      have c' : SrtO.lexB q p = false := by
        cases z : SrtO.lexB q p with
        | true => exact absurd z c
        | false => rfl
      refine List.pairwise_cons.mpr ⟨fun y hy => ?_, h⟩
      rcases List.mem_cons.mp hy with e | hy
      · rw [e]
        exact c'
      · have a := SrtO.lexB_no.mp c'
        have b := SrtO.lexB_no.mp (h'.1 y hy)
        exact SrtO.lexB_no.mpr (by omega)
theorem sortP_srt : ∀ l : List PII, SrtP (sortP l)
  | [] => List.Pairwise.nil
  | p :: r => insP_srt p _ (sortP_srt r)
theorem lexB_anti {p q : PII} (h1 : SrtO.lexB p q = false) (h2 : SrtO.lexB q p = false) : p = q := by
  have a := SrtO.lexB_no.mp h1
  have b := SrtO.lexB_no.mp h2
  exact Prod.ext (by omega) (by omega)
theorem srtP_uniq : ∀ {l m : List PII}, l.Perm m → SrtP l → SrtP m → l = m
  | [], m, h, _, _ => (List.Perm.eq_nil h.symm).symm
  | x :: l, [], h, _, _ => absurd h.length_eq (by simp)
  | x :: l, y :: m, h, hl, hm => by
    have hl' := List.pairwise_cons.mp hl
    have hm' := List.pairwise_cons.mp hm
    have e : x = y := by
      rcases List.mem_cons.mp (h.mem_iff.mp (List.mem_cons_self (a := x) (l := l))) with e | hx
      · exact e
      · rcases List.mem_cons.mp (h.mem_iff.mpr (List.mem_cons_self (a := y) (l := m))) with e | hy
        · exact e.symm
        · exact lexB_anti (hm'.1 x hx) (hl'.1 y hy)
    subst e
    rw [srtP_uniq h.cons_inv hl'.2 hm'.2]
theorem insI_perm (p : Int) : ∀ l : List Int, (insI p l).Perm (p :: l)
  | [] => List.Perm.refl _
  | q :: r => by
    unfold insI
    by_cases h : q < p
    · rw [if_pos h]
      exact ((insI_perm p r).cons q).trans (List.Perm.swap p q r)
    · rw [if_neg h]
theorem sortI_perm : ∀ l : List Int, (sortI l).Perm l
  | [] => List.Perm.refl _
  | p :: r => (insI_perm p (sortI r)).trans ((sortI_perm r).cons p)
theorem insI_srt (p : Int) : ∀ l : List Int, l.Pairwise (· ≤ ·) → (insI p l).Pairwise (· ≤ ·)
  | [], _ => List.pairwise_singleton _ _
  | q :: r, h => by
    have h' := List.pairwise_cons.mp h
    unfold insI
    by_cases c : q < p
    · rw [if_pos c]
      refine List.pairwise_cons.mpr ⟨fun y hy => ?_, insI_srt p r h'.2⟩
      rcases List.mem_cons.mp ((insI_perm p r).mem_iff.mp hy) with e | hy
      · rw [e]
        omega
      · exact h'.1 y hy
    · rw [if_neg c]
      refine List.pairwise_cons.mpr ⟨fun y hy => ?_, h⟩
      rcases List.mem_cons.mp hy with e | hy
      · rw [e]
        omega
      · have := h'.1 y hy
        omega
theorem sortI_srt : ∀ l : List Int, (sortI l).Pairwise (· ≤ ·)
  | [] => List.Pairwise.nil
  | p :: r => insI_srt p _ (sortI_srt r)
theorem srtI_uniq : ∀ {l m : List Int}, l.Perm m → l.Pairwise (· ≤ ·) → m.Pairwise (· ≤ ·) → l = m
  | [], m, h, _, _ => (List.Perm.eq_nil h.symm).symm
  | x :: l, [], h, _, _ => absurd h.length_eq (by simp)
  | x :: l, y :: m, h, hl, hm => by
    have hl' := List.pairwise_cons.mp hl
    have hm' := List.pairwise_cons.mp hm
    have e : x = y := by
      rcases List.mem_cons.mp (h.mem_iff.mp (List.mem_cons_self (a := x) (l := l))) with e | hx
      · exact e
      · rcases List.mem_cons.mp (h.mem_iff.mpr (List.mem_cons_self (a := y) (l := m))) with e | hy
        · exact e.symm
        · have a := hm'.1 x hx
          have b := hl'.1 y hy
          omega
    subst e
    rw [srtI_uniq h.cons_inv hl'.2 hm'.2]
def tup2 (p : PII) : D := .tuple [.int p.1, .int p.2]
def pairO : D → Option PII
  | .tuple [.int i, .int j] => some (i, j)
  | _ => none
def pairsO : List D → Option (List PII)
  | [] => some []
  | d :: r => match pairO d with
    | some p => (pairsO r).map (p :: ·)
    | none => none
theorem pairO_eq : ∀ {d : D} {p : PII}, pairO d = some p → d = tup2 p := fun {d p} h => by
  unfold pairO at h
  split at h
  · rw [← Option.some.inj h]
    rfl
  · cases h
theorem pairO_tup2 (p : PII) : pairO (tup2 p) = some p := rfl
theorem pairsO_eq : ∀ {ds : List D} {ps : List PII}, pairsO ds = some ps → ds = ps.map tup2
  | [], ps, h => by rw [← Option.some.inj h]; rfl
  | d :: r, ps, h => by
    unfold pairsO at h
    cases q : pairO d with
    | none => rw [q] at h; cases h
    | some p =>
      rw [q] at h
      cases q2 : pairsO r with
      | none => rw [q2] at h; cases h
      | some ms =>
        rw [q2] at h
        rw [← Option.some.inj h, pairsO_eq q2, pairO_eq q]
        rfl
theorem pairsO_map : ∀ ps : List PII, pairsO (ps.map tup2) = some ps
  | [] => rfl
  | p :: ps => by
    show (pairsO (ps.map tup2)).map (p :: ·) = _
    rw [pairsO_map ps]
    rfl
def sortD (ds : List D) : Res D := match pairsO ds with
  | some ps => .ok (.list ((sortP ps).map tup2))
  | none => match intsO ds with
    | some ns => .ok (.list ((sortI ns).map .int))
    | none => .bad
def oSort : List D → Res D
  | [.list ds] => sortD ds
  | _ => .bad
section
variable {X : Cx} {cl : Nat → Addr} {W : WX} {e a b c : Expr} {pos : Pos} {K : PySem.W.Frag} {P : Program} {w : World}
theorem sees_pair {F H : Hp} {p : PII} {v : V} (e : Same F H) (h : Sees K F (tup2 p) v) : ∃ t, v = .ref t ∧ H t = some (.tup [.int p.1, .int p.2]) := by
  obtain ⟨t, xs, e1, e2, e3⟩ := h
  match xs, e3 with
  | [x, y], e3 =>
    have e4 : x = V.int p.1 := e3.1
    have e5 : y = V.int p.2 := e3.2.1
    subst e4 e5
    exact ⟨t, e1, e _ _ e2⟩
theorem seesL_mem {F : Hp} : ∀ {ds : List D} {xs : List V} {v : V}, SeesL K F ds xs → v ∈ xs → ∃ d ∈ ds, Sees K F d v
  | [], [], _, _, h => nomatch h
  | [], _ :: _, _, h, _ => h.elim
  | _ :: _, [], _, h, _ => h.elim
  | d :: ds, x :: xs, v, h, hv => by
    rcases List.mem_cons.mp hv with e | hv
    · exact ⟨d, List.mem_cons_self, by rw [e]; exact h.1⟩
    · obtain ⟨d', h1, h2⟩ := seesL_mem h.2 hv
      exact ⟨d', List.mem_cons_of_mem _ h1, h2⟩
theorem seesL_of {F : Hp} {g : V → D} : ∀ {xs : List V}, (∀ x ∈ xs, Sees K F (g x) x) → SeesL K F (xs.map g) xs
  | [], _ => True.intro
  | x :: xs, h => ⟨h x List.mem_cons_self, seesL_of fun y hy => h y (List.mem_cons_of_mem _ hy)⟩
/-- the pair that a value is -/
def pairAt (H : Hp) (v : V) : PII := match v with
  | .ref t => match H t with
    | some (.tup [.int i, .int j]) => (i, j)
    | _ => (0, 0)
  | _ => (0, 0)
theorem pairAt_eq {H : Hp} {t : Addr} {p : PII} (h : H t = some (.tup [.int p.1, .int p.2])) : pairAt H (.ref t) = p := by
  unfold pairAt
  simp only [h]
theorem pairsAt {F H : Hp} (e : Same F H) : ∀ {ps : List PII} {xs : List V}, SeesL K F (ps.map tup2) xs → xs.map (pairAt H) = ps
  | [], [], _ => rfl
  | [], _ :: _, h => h.elim
  | _ :: _, [], h => h.elim
  | p :: ps, x :: xs, h => by
    obtain ⟨t, e1, e2⟩ := sees_pair e h.1
    rw [List.map_cons, pairsAt e h.2, e1, pairAt_eq e2]
theorem cd_sort : CallD K (fun vs H Q => rSortedPO K vs H Q ∨ rSortedI K vs H Q) oSort := cd_one (fun cl W σ d v H F Q e s p => by
  cases d with
  | list ds =>
    obtain ⟨a, xs, rfl, ha, hs⟩ := s
    have p' : Post (SD K) cl W σ H F (match pairsO ds with | some ps => .ok (.list ((sortP ps).map tup2)) | none => match intsO ds with | some ns => .ok (.list ((sortI ns).map .int)) | none => .bad) Q := p
    cases q : pairsO ds with
    | some ps =>
      rw [q] at p'
      rw [pairsO_eq q] at hs
      refine .inl ⟨a, xs, pairAt H, rfl, SqL.of (e _ _ ha), fun x hx => ?_, fun ys t hy hz ht => ?_⟩
      · obtain ⟨d, hd, sd⟩ := seesL_mem hs hx
        obtain ⟨pp, _, e1⟩ := List.mem_map.mp hd
        subst e1
        obtain ⟨t, e2, e3⟩ := sees_pair e sd
        subst e2
        rw [pairAt_eq e3]
        exact ⟨t, rfl, e3⟩
      · have hm : ys.map (pairAt H) = sortP ps := by
          refine srtP_uniq ?_ (List.pairwise_map.mpr hy) (sortP_srt ps)
          have h1 := hz.perm.map (pairAt H)
          rw [pairsAt e hs] at h1
          exact h1.trans (sortP_perm ps).symm
        refine Post.newL e p' ?_ ht
        have h2 : SeesL K F (ys.map fun v => tup2 (pairAt H v)) ys := seesL_of fun y hy => by
          obtain ⟨d, hd, sd⟩ := seesL_mem hs (hz.perm.mem_iff.mp hy)
          obtain ⟨pp, _, e1⟩ := List.mem_map.mp hd
          subst e1
          obtain ⟨t, e2, e3⟩ := sees_pair e sd
          subst e2
          rw [pairAt_eq e3]
          exact sd
        rw [← hm, List.map_map]
        exact h2
    | none =>
      rw [q] at p'
      cases q2 : intsO ds with
      | none => rw [q2] at p'; exact p'.elim
      | some ns =>
        rw [q2] at p'
        rw [intsO_eq q2] at hs
        have ex := hs.ints
        subst ex
        refine .inr ⟨a, ns, rfl, SqL.of (e _ _ ha), fun ns' t h1 h2 ht => ?_⟩
        have hm : ns' = sortI ns := srtI_uniq (h1.trans (sortI_perm ns).symm) h2 (sortI_srt ns)
        subst hm
        exact Post.newL e p' (SeesL.of_ints _) ht
  | _ => exact p.elim) rfl fun x y z => by cases x <;> rfl

/-! ### isinstance(e, T), T a built-in class -/
def isD (T : String) : D → Bool
  | .none => false
  | .bool _ => T == "bool" || T == "int"
  | .int _ => T == "int"
  | .str _ => T == "str"
  | .list _ => T == "list"
  | .tuple _ => T == "tuple"
  | .dict _ => false
def tyD : D → String
  | .none => "NoneType"
  | .bool _ => "bool"
  | .int _ => "int"
  | .str _ => "str"
  | .list _ => "list"
  | .tuple _ => "tuple"
  | .dict _ => "dict"
theorem tyX_sees {F H : Hp} {d : D} {v : V} (e : Same F H) (s : Sees K F d v) (p : plain d = true) : TyX K H v (.type (tyD d)) := by
  cases d with
  | none => rw [show v = V.non from s]; exact .base .non
  | bool b => rw [show v = V.bl b from s]; exact .base (.bl b)
  | int b => rw [show v = V.int b from s]; exact .base (.int b)
  | str b => rw [show v = V.str b from s]; exact .base (.str b)
  | list ds => obtain ⟨a, xs, rfl, ha, _⟩ := s; exact .base (.lst (e _ _ ha))
  | tuple ds => obtain ⟨a, xs, rfl, ha, _⟩ := s; exact .base (.tup (e _ _ ha))
  | dict kvs => exact absurd (show false = true from p) Bool.false_ne_true
theorem kitAll : ∀ t ∈ (["NoneType", "bool", "int", "str", "list", "tuple"] : List String), ∀ T ∈ (["int", "bool", "str", "list", "tuple"] : List String), kitB t T = some ((t == T) || (t == "bool" && T == "int")) := by decide +kernel
def oIsi (T : String) : D → Res D := fun d => if plain d = true then .ok (.bool (isD T d)) else .bad
def sIsi (T : String) (f : Ev → Res D) : Ev → Res D := fun ρ => (f ρ).bind (oIsi T)
theorem kit_isD {T : String} (hT : T ∈ (["int", "bool", "str", "list", "tuple"] : List String)) (d : D) (p : plain d = true) : kitB (tyD d) T = some (isD T d) := by
  have k := fun t ht => kitAll t ht T hT
  have hb : ∀ x y : String, (x == y) = (y == x) := fun x y => BEq.comm
  cases d with
  | none =>
    rw [show tyD .none = "NoneType" from rfl, k "NoneType" (by decide +kernel)]
    have : ("NoneType" == T) = false := by
      have := hT
      simp only [List.mem_cons, List.not_mem_nil, or_false] at this
      rcases this with h | h | h | h | h <;> (subst h; decide +kernel)
    rw [this]
    rfl
  | bool b =>
    rw [show tyD (.bool b) = "bool" from rfl, k "bool" (by decide +kernel), hb "bool" T]
    rfl
  | int b =>
    rw [show tyD (.int b) = "int" from rfl, k "int" (by decide +kernel), hb "int" T, show (("int" : String) == "bool" && T == "int") = false from rfl, Bool.or_false]
    rfl
  | str b =>
    rw [show tyD (.str b) = "str" from rfl, k "str" (by decide +kernel), hb "str" T, show (("str" : String) == "bool" && T == "int") = false from rfl, Bool.or_false]
    rfl
  | list b =>
    rw [show tyD (.list b) = "list" from rfl, k "list" (by decide +kernel), hb "list" T, show (("list" : String) == "bool" && T == "int") = false from rfl, Bool.or_false]
    rfl
  | tuple b =>
    rw [show tyD (.tuple b) = "tuple" from rfl, k "tuple" (by decide +kernel), hb "tuple" T, show (("tuple" : String) == "bool" && T == "int") = false from rfl, Bool.or_false]
    rfl
  | dict kvs => exact absurd (show false = true from p) Bool.false_ne_true
theorem de_isi {T : String} {t : Str} {f : Ev → Res D} {p pT : Pos} (hm : X.mg "isinstance" = none) (hT : X.mg t = none) (hb : bootBuiltins t = some (.type T)) (hl : T ∈ (["int", "bool", "str", "list", "tuple"] : List String)) (ha : DE X cl W e f)
    (hg : Gl X "isinstance" := by rfl) (hg2 : Gl X t := by rfl) (hn : t ≠ "__name__" := by decide) (hdb : (t == ("__debug__" : Str)) = false := by decide) (hs : starEach [e, .Name t pT] X.env = (false, eval e X.env) :: starEach [.Name t pT] X.env := by rfl)
    (hv : bootBuiltins "isinstance" = some (.builtin "isinstance") := by decide +kernel) : DE X cl W (.Call (.Name "isinstance" p) [e, .Name t pT] [] pos) (sIsi T f) := by
  have hc : PE X (.Name t pT) (tC (.ty T)) := pe_bltn hg2 hT hb rfl hn hdb
  refine PE_imp (pe_callB call_isi hg hm hv (pa_cons ha (pa_cons hc pa_nil) hs) (he := hs)) fun σ H Q h => ?_
  obtain ⟨H0, F0, ρ, F, A, R, p⟩ := h
  refine ⟨H0, F0, ρ, F, A, R, (Post.bind (S := SD X.K) p).imp fun v H1 ⟨F1, x, _, g1, s1, p1⟩ => ?_⟩
  unfold oIsi at p1
  by_cases hp : plain x = true
  · rw [if_pos hp] at p1
    exact ⟨v, .ty T, _, _, _, rfl, .ty T, tyX_sees g1.fh s1 hp, kit_ty (kit_isD hl x hp), Post.now (S := SD X.K) g1.fh p1 rfl⟩
  · rw [if_neg hp] at p1
    exact p1.elim
end
end Dn

set_option Elab.async false
set_option linter.all false
set_option maxRecDepth 100000
set_option maxHeartbeats 4000000
namespace Dn
open PySem PySem.Spec PyProof.Rows L2
variable [En]
/-! ### what is walked -/
structure Wk (K : PySem.W.Frag) (J : It) (ds : List D) (F : Hp) : Prop where
  go : ∀ i H F', Same F F' → Same F' H → i < ds.length → J.go i H
  stop : ∀ H F', Same F F' → Same F' H → J.stop ds.length H
  yld : ∀ i H F' x H', Same F F' → Same F' H → i < ds.length → J.yld i H x H' → ∃ F'' d, ds[i]? = some d ∧ Gr H F' H' F'' ∧ Sees K F'' d x
def SW (K : PySem.W.Frag) : Hp → List D → It → Prop := fun F ds J => Wk K J ds F
abbrev DI (X : Cx) (cl : Nat → Addr) (W : WX) (tg e : Expr) (f : Ev → Res (List D)) : Prop := PI X tg e (tX X.K X.prog X.w (SW X.K) cl W f)
section
variable {X : Cx} {cl : Nat → Addr} {W : WX} {e tg a b c : Expr} {pos : Pos} {K : PySem.W.Frag} {P : Program} {w : World}
theorem PI_imp {t t' : TI} (h : PI X tg e t) (k : ∀ σ H R, t' σ H R → t σ H R) : PI X tg e t' := ⟨fun pins s σ H R I q => h.run pins s σ H R I (k _ _ _ q)⟩
theorem Wk.mono {J : It} {ds : List D} {F F' : Hp} (e : Same F F') (w : Wk K J ds F) : Wk K J ds F' :=
  ⟨fun i H F2 a b => w.go i H F2 (e.trans a) b, fun H F2 a b => w.stop H F2 (e.trans a) b, fun i H F2 x H' a b => w.yld i H F2 x H' (e.trans a) b⟩
theorem wk_list {F : Hp} {a : Addr} {xs : List V} {ds : List D} (h : F a = some (.lst xs)) (s : SeesL K F ds xs) : Wk K (Itl K a) ds F := by
  refine ⟨fun i H F' e1 e2 hi => ?_, fun H F' e1 e2 => ⟨xs, SqL.of (e2 _ _ (e1 _ _ h)), by rw [s.length]; exact Nat.le_refl _⟩, fun i H F' x H' e1 e2 hi y => ?_⟩
  · obtain ⟨v, hv, _⟩ := s.get (List.getElem?_eq_getElem hi)
    exact ⟨xs, v, SqL.of (e2 _ _ (e1 _ _ h)), hv⟩
  · obtain ⟨e, y⟩ := y
    subst e
    obtain ⟨v, hv, hs⟩ := s.get (List.getElem?_eq_getElem hi)
    have := y xs (SqL.of (e2 _ _ (e1 _ _ h)))
    rw [hv] at this
    have ex := Option.some.inj this
    subst ex
    exact ⟨F', _, List.getElem?_eq_getElem hi, Gr.refl e2, hs.mono e1⟩
theorem wk_tup {F : Hp} {a : Addr} {xs : List V} {ds : List D} (h : F a = some (.tup xs)) (s : SeesL K F ds xs) : Wk K (Itt K a) ds F := by
  refine ⟨fun i H F' e1 e2 hi => ?_, fun H F' e1 e2 => ⟨xs, SqT.of (e2 _ _ (e1 _ _ h)), by rw [s.length]; exact Nat.le_refl _⟩, fun i H F' x H' e1 e2 hi y => ?_⟩
  · obtain ⟨v, hv, _⟩ := s.get (List.getElem?_eq_getElem hi)
    exact ⟨xs, v, SqT.of (e2 _ _ (e1 _ _ h)), hv⟩
  · obtain ⟨e, y⟩ := y
    subst e
    obtain ⟨v, hv, hs⟩ := s.get (List.getElem?_eq_getElem hi)
    have := y xs (SqT.of (e2 _ _ (e1 _ _ h)))
    rw [hv] at this
    have ex := Option.some.inj this
    subst ex
    exact ⟨F', _, List.getElem?_eq_getElem hi, Gr.refl e2, hs.mono e1⟩
/-- n whole numbers from lo on -/
def runD (lo : Int) : Nat → List D
  | 0 => []
  | n + 1 => .int lo :: runD (lo + 1) n
theorem runD_length : ∀ (n : Nat) (lo : Int), (runD lo n).length = n
  | 0, _ => rfl
  | n + 1, lo => by
    show (runD (lo + 1) n).length + 1 = n + 1
    rw [runD_length n]
theorem runD_get : ∀ (n : Nat) (lo : Int) (i : Nat), i < n → (runD lo n)[i]? = some (.int (lo + (i : Int)))
  | 0, _, _, h => absurd h (Nat.not_lt_zero _)
  | n + 1, lo, 0, _ => by
    show some (PyData.int lo) = _
    rw [show lo + ((0 : Nat) : Int) = lo by omega]
  | n + 1, lo, i + 1, h => by
    show (runD (lo + 1) n)[i]? = _
    rw [runD_get n (lo + 1) i (by omega)]
    rw [show lo + 1 + (i : Int) = lo + ((i + 1 : Nat) : Int) by omega]
theorem runD_sees {F : Hp} : ∀ (n : Nat) (lo : Int), SeesL K F (runD lo n) ((List.range n).map fun i : Nat => V.int (lo + (i : Int)))
  | 0, _ => True.intro
  | n + 1, lo => by
    rw [List.range_succ_eq_map, List.map_cons, List.map_map]
    refine ⟨?_, ?_⟩
    · show V.int (lo + ((0 : Nat) : Int)) = V.int lo
      rw [show lo + ((0 : Nat) : Int) = lo by omega]
    · have h := runD_sees (F := F) n (lo + 1)
      have e : (fun i : Nat => V.int (lo + 1 + (i : Int))) = ((fun i : Nat => V.int (lo + (i : Int))) ∘ Nat.succ) := by
        funext i
        show V.int (lo + 1 + (i : Int)) = V.int (lo + ((i + 1 : Nat) : Int))
        rw [show lo + 1 + (i : Int) = lo + ((i + 1 : Nat) : Int) by omega]
      rw [← e]
      exact h
theorem wk_run {F : Hp} (lo : Int) (n : Nat) : Wk K (Itr lo n) (runD lo n) F := by
  refine ⟨fun i H F' _ _ hi => by rw [runD_length] at hi; exact hi, fun H F' _ _ => by show n ≤ _; rw [runD_length]; exact Nat.le_refl _, fun i H F' x H' _ e2 hi y => ?_⟩
  obtain ⟨e, y⟩ := y
  subst e y
  rw [runD_length] at hi
  exact ⟨F', _, runD_get n lo i hi, Gr.refl e2, rfl⟩
def enumD : Nat → List D → List D
  | _, [] => []
  | n, d :: r => .tuple [.int (n : Int), d] :: enumD (n + 1) r
theorem enumD_length : ∀ (ds : List D) (n : Nat), (enumD n ds).length = ds.length
  | [], _ => rfl
  | d :: r, n => by
    show (enumD (n + 1) r).length + 1 = r.length + 1
    rw [enumD_length r]
theorem enumD_get : ∀ (ds : List D) (n i : Nat) (d : D), ds[i]? = some d → (enumD n ds)[i]? = some (.tuple [.int ((n + i : Nat) : Int), d])
  | [], _, _, _, h => by simp at h
  | x :: r, n, 0, d, h => by
    rw [← Option.some.inj h]
    rfl
  | x :: r, n, i + 1, d, h => by
    show (enumD (n + 1) r)[i]? = _
    rw [enumD_get r (n + 1) i d h, show n + 1 + i = n + (i + 1) by omega]
theorem wk_enum {F : Hp} {a : Addr} {xs : List V} {ds : List D} (h : F a = some (.lst xs)) (s : SeesL K F ds xs) : Wk K (Ite K a) (enumD 0 ds) F := by
  refine ⟨fun i H F' e1 e2 hi => ?_, fun H F' e1 e2 => ⟨xs, SqL.of (e2 _ _ (e1 _ _ h)), by rw [enumD_length, s.length]; exact Nat.le_refl _⟩, fun i H F' x H' e1 e2 hi y => ?_⟩
  · rw [enumD_length] at hi
    obtain ⟨v, hv, _⟩ := s.get (List.getElem?_eq_getElem hi)
    exact ⟨xs, v, SqL.of (e2 _ _ (e1 _ _ h)), hv⟩
  · rw [enumD_length] at hi
    obtain ⟨T, x, e, nT, e', y⟩ := y
    subst e e'
    obtain ⟨v, hv, hs⟩ := s.get (List.getElem?_eq_getElem hi)
    have := y xs (SqL.of (e2 _ _ (e1 _ _ h)))
    rw [hv] at this
    have ex := Option.some.inj this
    subst ex
    have g := Gr.new (o := .tup [.int (i : Nat), v]) e2 nT
    refine ⟨_, _, enumD_get ds 0 i _ (List.getElem?_eq_getElem hi), g, T, _, rfl, upd_same, ?_, hs.mono (e1.trans g.ff), True.intro⟩
    rw [Nat.zero_add]
    rfl
def zipD : List D → List D → List D
  | d :: r, d' :: r' => .tuple [d, d'] :: zipD r r'
  | _, _ => []
theorem zipD_get : ∀ (ds es : List D) (i : Nat) (d d' : D), ds[i]? = some d → es[i]? = some d' → (zipD ds es)[i]? = some (.tuple [d, d'])
  | [], _, _, _, _, h, _ => by simp at h
  | _ :: _, [], _, _, _, _, h => by simp at h
  | x :: r, y :: r', 0, d, d', h, h' => by
    rw [← Option.some.inj h, ← Option.some.inj h']
    rfl
  | x :: r, y :: r', i + 1, d, d', h, h' => zipD_get r r' i d d' h h'
theorem zipD_length : ∀ (ds es : List D), (zipD ds es).length = min ds.length es.length
  | [], _ => by simp [zipD]
  | _ :: _, [] => by simp [zipD]
  | x :: r, y :: r' => by
    show (zipD r r').length + 1 = min (r.length + 1) (r'.length + 1)
    rw [zipD_length r r']
    omega
theorem wk_zip {F : Hp} {a b : Addr} {xs ys : List V} {ds es : List D} (h : F a = some (.lst xs)) (s : SeesL K F ds xs) (h' : F b = some (.lst ys)) (s' : SeesL K F es ys) : Wk K (Itz K a b) (zipD ds es) F := by
  refine ⟨fun i H F' e1 e2 hi => ?_, fun H F' e1 e2 => ⟨xs, ys, SqL.of (e2 _ _ (e1 _ _ h)), SqL.of (e2 _ _ (e1 _ _ h')), by rw [zipD_length, s.length, s'.length]; omega⟩, fun i H F' x H' e1 e2 hi y => ?_⟩
  · rw [zipD_length] at hi
    obtain ⟨v, hv, _⟩ := s.get (List.getElem?_eq_getElem (show i < ds.length by omega))
    obtain ⟨u, hu, _⟩ := s'.get (List.getElem?_eq_getElem (show i < es.length by omega))
    exact ⟨xs, ys, v, u, SqL.of (e2 _ _ (e1 _ _ h)), SqL.of (e2 _ _ (e1 _ _ h')), hv, hu⟩
  · rw [zipD_length] at hi
    obtain ⟨T, x, y', e, nT, e', y1, y2⟩ := y
    subst e e'
    obtain ⟨v, hv, hs⟩ := s.get (List.getElem?_eq_getElem (show i < ds.length by omega))
    obtain ⟨u, hu, hs'⟩ := s'.get (List.getElem?_eq_getElem (show i < es.length by omega))
    have q1 := y1 xs (SqL.of (e2 _ _ (e1 _ _ h)))
    rw [hv] at q1
    have q2 := y2 ys (SqL.of (e2 _ _ (e1 _ _ h')))
    rw [hu] at q2
    have ex := Option.some.inj q1
    have ey := Option.some.inj q2
    subst ex ey
    have g := Gr.new (o := .tup [v, u]) e2 nT
    exact ⟨_, _, zipD_get ds es i _ _ (List.getElem?_eq_getElem (show i < ds.length by omega)) (List.getElem?_eq_getElem (show i < es.length by omega)), g, T, _, rfl, upd_same, hs.mono (e1.trans g.ff), hs'.mono (e1.trans g.ff), True.intro⟩
/-! the sources -/
def iL (f : Ev → Res D) : Ev → Res (List D) := fun ρ => (f ρ).bind fun x => match x with
  | .list ds => .ok ds
  | _ => .bad
def iT (f : Ev → Res D) : Ev → Res (List D) := fun ρ => (f ρ).bind fun x => match x with
  | .tuple ds => .ok ds
  | _ => .bad
theorem di_list {f : Ev → Res D} (h : DE X cl W e f) : DI X cl W tg e (iL f) := PI_imp (pi_list h) fun σ H Q q => by
  obtain ⟨H0, F0, ρ, F, A, R, p⟩ := q
  refine ⟨H0, F0, ρ, F, A, R, (Post.bind (S := SD X.K) p).imp fun v H1 ⟨F1, x, ex0, g1, s1, p1⟩ => ?_⟩
  cases x with
  | list ds =>
    obtain ⟨a, xs, rfl, ha, hs⟩ := s1
    exact ⟨a, rfl, ⟨xs, SqL.of (g1.fh _ _ ha)⟩, Post.now (S := SW X.K) g1.fh p1 (wk_list ha hs)⟩
  | _ => exact p1.elim
theorem di_tup {f : Ev → Res D} (h : DE X cl W e f) : DI X cl W tg e (iT f) := PI_imp (pi_tup h) fun σ H Q q => by
  obtain ⟨H0, F0, ρ, F, A, R, p⟩ := q
  refine ⟨H0, F0, ρ, F, A, R, (Post.bind (S := SD X.K) p).imp fun v H1 ⟨F1, x, ex0, g1, s1, p1⟩ => ?_⟩
  cases x with
  | tuple ds =>
    obtain ⟨a, xs, rfl, ha, hs⟩ := s1
    exact ⟨a, rfl, ⟨xs, SqT.of (g1.fh _ _ ha)⟩, Post.now (S := SW X.K) g1.fh p1 (wk_tup ha hs)⟩
  | _ => exact p1.elim
def rg1 : List D → Res (List D)
  | [.int j] => if -1000000 < j ∧ j < 1000000 then .ok (runD 0 j.toNat) else .bad
  | _ => .bad
def rg2 : List D → Res (List D)
  | [.int i, .int j] => if -1000000 < i ∧ i < 1000000 ∧ -1000000 < j ∧ j < 1000000 then .ok (runD i (j - i).toNat) else .bad
  | _ => .bad
def iR (o : List D → Res (List D)) (f : Ev → Res (List D)) : Ev → Res (List D) := fun ρ => (f ρ).bind o
theorem one_of {F : Hp} {ds : List D} {vs : List V} {i : Int} (h : SeesL K F ds vs) (e : ds = [.int i]) : vs = [.int i] := by
  subst e
  match vs, h with
  | [v], h => rw [show v = V.int i from h.1]
  | _ :: _ :: _, h => exact h.2.elim
  | [], h => exact h.elim
theorem two_of {F : Hp} {ds : List D} {vs : List V} {i j : Int} (h : SeesL K F ds vs) (e : ds = [.int i, .int j]) : vs = [.int i, .int j] := by
  subst e
  match vs, h with
  | [v, u], h => rw [show v = V.int i from h.1, show u = V.int j from h.2.1]
  | _ :: _ :: _ :: _, h => exact h.2.2.elim
  | [_], h => exact h.2.elim
  | [], h => exact h.elim
theorem di_rg1 {f : Ev → Res (List D)} {p : Pos} (hm : X.mg "range" = none) (ha : DA X cl W [a] f) (hg : Gl X "range" := by rfl) (hs : starEach [a] X.env = [(false, eval a X.env)] := by rfl) : DI X cl W tg (.Call (.Name "range" p) [a] [] pos) (iR rg1 f) := PI_imp (pi_range1 hg hm ha hs) fun σ H Q q => by
  obtain ⟨H0, F0, ρ, F, A, R, p⟩ := q
  refine ⟨H0, F0, ρ, F, A, R, (Post.bind (S := SL X.K) p).imp fun v H1 ⟨F1, x, ex0, g1, s1, p1⟩ => ?_⟩
  unfold rg1 at p1
  split at p1
  · rename_i j
    split at p1
    · rename_i hj
      exact ⟨j, one_of s1 rfl, by omega, by omega, Post.now (S := SW X.K) g1.fh p1 (wk_run 0 j.toNat)⟩
    · exact p1.elim
  · exact p1.elim
theorem di_rg2 {f : Ev → Res (List D)} {p : Pos} (hm : X.mg "range" = none) (ha : DA X cl W [a, b] f) (hg : Gl X "range" := by rfl) (hs : starEach [a, b] X.env = [(false, eval a X.env), (false, eval b X.env)] := by rfl) (hs2 : starEach [b] X.env = [(false, eval b X.env)] := by rfl) : DI X cl W tg (.Call (.Name "range" p) [a, b] [] pos) (iR rg2 f) := PI_imp (pi_range2 hg hm ha hs hs2) fun σ H Q q => by
  obtain ⟨H0, F0, ρ, F, A, R, p⟩ := q
  refine ⟨H0, F0, ρ, F, A, R, (Post.bind (S := SL X.K) p).imp fun v H1 ⟨F1, x, ex0, g1, s1, p1⟩ => ?_⟩
  unfold rg2 at p1
  split at p1
  · rename_i i j
    split at p1
    · rename_i hj
      exact ⟨i, j, two_of s1 rfl, ⟨by omega, by omega, by omega, by omega⟩, Post.now (S := SW X.K) g1.fh p1 (wk_run i (j - i).toNat)⟩
    · exact p1.elim
  · exact p1.elim
def en1 : List D → Res (List D)
  | [.list ds] => .ok (enumD 0 ds)
  | _ => .bad
def zp2 : List D → Res (List D)
  | [.list ds, .list es] => .ok (zipD ds es)
  | _ => .bad
theorem di_enum {f : Ev → Res (List D)} {p tpos : Pos} {elts : List Expr} {kk : Nat} (hm : X.mg "enumerate" = none) (ha : DA X cl W [a] f) (hg : Gl X "enumerate" := by rfl) (hs : starEach [a] X.env = [(false, eval a X.env)] := by rfl) : DI X cl W (.Tuple elts kk tpos) (.Call (.Name "enumerate" p) [a] [] pos) (iR en1 f) := PI_imp (pi_enum hg hm ha hs) fun σ H Q q => by
  obtain ⟨H0, F0, ρ, F, A, R, p⟩ := q
  refine ⟨H0, F0, ρ, F, A, R, (Post.bind (S := SL X.K) p).imp fun v H1 ⟨F1, x, ex0, g1, s1, p1⟩ => ?_⟩
  unfold en1 at p1
  split at p1
  · rename_i ds
    match v, s1 with
    | [v], s1 =>
      obtain ⟨a, xs, rfl, ha, hs⟩ := s1.1
      exact ⟨a, xs, rfl, SqL.of (g1.fh _ _ ha), Post.now (S := SW X.K) g1.fh p1 (wk_enum ha hs)⟩
    | _ :: _ :: _, s1 => exact s1.2.elim
    | [], s1 => exact s1.elim
  · exact p1.elim
theorem di_zip {f : Ev → Res (List D)} {p tpos : Pos} {elts : List Expr} {kk : Nat} (hm : X.mg "zip" = none) (ha : DA X cl W [a, b] f) (hg : Gl X "zip" := by rfl) (hs : starEach [a, b] X.env = (false, eval a X.env) :: starEach [b] X.env := by rfl) (hpl : (backTo pos (starEach [b] X.env)).any (·.1) = false := by rfl) : DI X cl W (.Tuple elts kk tpos) (.Call (.Name "zip" p) [a, b] [] pos) (iR zp2 f) := PI_imp (pi_zip hg hm ha hs hpl) fun σ H Q q => by
  obtain ⟨H0, F0, ρ, F, A, R, p⟩ := q
  refine ⟨H0, F0, ρ, F, A, R, (Post.bind (S := SL X.K) p).imp fun v H1 ⟨F1, x, ex0, g1, s1, p1⟩ => ?_⟩
  unfold zp2 at p1
  split at p1
  · rename_i ds es
    match v, s1 with
    | [v, u], s1 =>
      obtain ⟨a, xs, rfl, ha, hs⟩ := s1.1
      obtain ⟨b, ys, rfl, hb, ht⟩ := s1.2.1
      exact ⟨a, b, xs, ys, rfl, SqL.of (g1.fh _ _ ha), SqL.of (g1.fh _ _ hb), Post.now (S := SW X.K) g1.fh p1 (wk_zip ha hs hb ht)⟩
    | _ :: _ :: _ :: _, s1 => exact s1.2.2.elim
    | [_], s1 => exact s1.2.elim
    | [], s1 => exact s1.elim
  · exact p1.elim
/-- list(range(..)) -/
def sLr (f : Ev → Res (List D)) : Ev → Res D := fun ρ => (f ρ).bind fun x => (rg1 x).bind fun ds => .ok (.list ds)

/-! ### targets -/
def tG (K : PySem.W.Frag) (P : Program) (w : World) (bnd : D → Ev → Option Ev) (js : List Nat) : TG := fun v σ H Q => ∃ H0 F0 ρ F A d ρ', Rep K P w H0 F0 ρ σ H F A ∧ Sees K F d v ∧ bnd d ρ = some ρ' ∧
  ∀ σ' A', Rep K P w H0 F0 ρ' σ' H F A' → (∀ vs : List Nat, (∀ j ∈ js, j ∈ vs) → wipe σ' vs = wipe σ vs) → Q σ' H
def tGs (K : PySem.W.Frag) (P : Program) (w : World) (bnd : List D → Ev → Option Ev) (js : List Nat) : TGs := fun v σ H Q => ∃ H0 F0 ρ F A d ρ', Rep K P w H0 F0 ρ σ H F A ∧ SeesL K F d v ∧ bnd d ρ = some ρ' ∧
  ∀ σ' A', Rep K P w H0 F0 ρ' σ' H F A' → (∀ vs : List Nat, (∀ j ∈ js, j ∈ vs) → wipe σ' vs = wipe σ vs) → Q σ' H
abbrev DG (X : Cx) (e : Expr) (bnd : D → Ev → Option Ev) (js : List Nat) : Prop := PG X e (tG X.K X.prog X.w bnd js)
abbrev DGs (X : Cx) (es : List Expr) (bnd : List D → Ev → Option Ev) (js : List Nat) : Prop := PGs X es (tGs X.K X.prog X.w bnd js)
theorem PG_imp {t t' : TG} (h : PG X e t) (k : ∀ v σ H Q, t' v σ H Q → t v σ H Q) : PG X e t' := ⟨fun pins s σ H v u Q I r q => h.run pins s σ H v u Q I r (k _ _ _ _ q)⟩
theorem PGs_imp {es : List Expr} {t t' : TGs} (h : PGs X es t) (k : ∀ v σ H Q, t' v σ H Q → t v σ H Q) : PGs X es t' := ⟨fun pins s σ H v u Q I r q => h.run pins s σ H v u Q I r (k _ _ _ _ q)⟩
theorem wipe_get (σ : L2.St) : ∀ (vs : List Nat) (i : Nat), (wipe σ vs)[i]? = if i ∈ vs then (if i < σ.length then some none else none) else σ[i]?
  | [], i => by simp [wipe]
  | v :: vs, i => by
    have ih := wipe_get σ vs i
    unfold wipe
    by_cases h : v = i
    · subst h
      rw [if_pos List.mem_cons_self]
      by_cases hl : v < σ.length
      · rw [if_pos hl, List.getElem?_set_self (by rw [wipe_length]; exact hl)]
      · rw [if_neg hl, List.getElem?_eq_none (by rw [List.length_set, wipe_length]; omega)]
    · rw [List.getElem?_set_ne h, ih]
      by_cases hm : i ∈ vs
      · rw [if_pos hm, if_pos (List.mem_cons_of_mem _ hm)]
      · rw [if_neg hm, if_neg (by
          intro z
          rcases List.mem_cons.mp z with z | z
          · exact h z.symm
          · exact hm z)]
theorem wipe_set {σ : L2.St} {i : Nat} {x : Option V} {vs : List Nat} (h : i ∈ vs) : wipe (σ.set i x) vs = wipe σ vs := by
  apply List.ext_getElem?
  intro k
  rw [wipe_get, wipe_get, List.length_set]
  by_cases hk : k ∈ vs
  · rw [if_pos hk, if_pos hk]
  · rw [if_neg hk, if_neg hk, List.getElem?_set_ne (fun z => hk (by rw [← z]; exact h))]
theorem wipe_wipe (σ : L2.St) (vs : List Nat) : wipe (wipe σ vs) vs = wipe σ vs := by
  apply List.ext_getElem?
  intro k
  rw [wipe_get (wipe σ vs), wipe_length, wipe_get]
  by_cases hk : k ∈ vs
  · rw [if_pos hk, if_pos hk]
  · rw [if_neg hk, if_neg hk]
def bName (i : Nat) : D → Ev → Option Ev := fun d ρ => some (ρ.set i (.d d))
def bNil : List D → Ev → Option Ev := fun ds ρ => match ds with
  | [] => some ρ
  | _ => none
def bCons (b : D → Ev → Option Ev) (bs : List D → Ev → Option Ev) : List D → Ev → Option Ev := fun ds ρ => match ds with
  | d :: r => (b d ρ).bind fun ρ' => bs r ρ'
  | [] => none
def bTup (bs : List D → Ev → Option Ev) (n : Nat) : D → Ev → Option Ev := fun d ρ => match d with
  | .tuple ds => if ds.length = n then bs ds ρ else none
  | _ => none
theorem dg_name {i : Nat} {x : Str} {p : Pos} (h : PG X (.Name x p) (gName i)) : DG X (.Name x p) (bName i) [i] := PG_imp h fun v σ H Q q => by
  obtain ⟨H0, F0, ρ, F, A, d, ρ', R, s, e, k⟩ := q
  have e' := Option.some.inj e
  subst e'
  exact k _ _ (R.setD s) fun vs hv => wipe_set (hv i List.mem_cons_self)
theorem dgs_nil : DGs X [] bNil [] := PGs_imp pgs_nil fun v σ H Q q => by
  obtain ⟨H0, F0, ρ, F, A, d, ρ', R, s, e, k⟩ := q
  cases d with
  | nil =>
    have e' : ρ = ρ' := Option.some.inj e
    subst e'
    cases v with
    | nil => exact ⟨rfl, k σ A R fun _ _ => rfl⟩
    | cons _ _ => exact s.elim
  | cons _ _ => cases e
theorem dgs_cons {es : List Expr} {b : D → Ev → Option Ev} {bs : List D → Ev → Option Ev} {js ks : List Nat} (h1 : DG X e b js) (h2 : DGs X es bs ks)
    (hs : (assignEach (e :: es) X.env).map (·.2) = assign e X.env :: (assignEach es X.env).map (·.2) := by rfl) : DGs X (e :: es) (bCons b bs) (js ++ ks) := PGs_imp (pgs_cons h1 h2 hs) fun v σ H Q q => by
  obtain ⟨H0, F0, ρ, F, A, d, ρ', R, s, e, k⟩ := q
  cases d with
  | nil => cases e
  | cons d ds =>
    cases v with
    | nil => exact s.elim
    | cons v vs =>
      have e' : (b d ρ).bind (fun ρ' => bs ds ρ') = some ρ' := e
      cases hb : b d ρ with
      | none => rw [hb] at e'; cases e'
      | some ρ1 =>
        rw [hb] at e'
        refine ⟨v, vs, rfl, H0, F0, ρ, F, A, d, ρ1, R, s.1, hb, fun σ1 A1 R1 w1 => ?_⟩
        refine ⟨H0, F0, ρ1, F, A1, ds, ρ', R1, s.2, e', fun σ2 A2 R2 w2 => k σ2 A2 R2 fun us hu => ?_⟩
        rw [w2 us fun j hj => hu j (List.mem_append_right _ hj), w1 us fun j hj => hu j (List.mem_append_left _ hj)]
theorem dg_tup {es : List Expr} {k n : Nat} {bs : List D → Ev → Option Ev} {js : List Nat} (hc : X.calm = true) (h : DGs X es bs js)
    (hn : (assignEach es X.env).length = n := by rfl) (hst : (assignEach es X.env).findIdx? (·.1) = none := by rfl) : DG X (.Tuple es k pos) (bTup bs n) js := PG_imp (pg_tup hc h hn hst) fun v σ H Q q => by
  obtain ⟨H0, F0, ρ, F, A, d, ρ', R, s, e, kk⟩ := q
  cases d with
  | tuple ds =>
    obtain ⟨a, xs, e1, ha, hs⟩ := s
    have e' : (if ds.length = n then bs ds ρ else none) = some ρ' := e
    by_cases hl : ds.length = n
    · rw [if_pos hl] at e'
      exact ⟨a, xs, e1, SqT.of (R.sub _ _ ha), by rw [← hs.length]; exact hl, H0, F0, ρ, F, A, ds, ρ', R, hs, e', kk⟩
    · rw [if_neg hl] at e'
      cases e'
  | _ => cases e
end
end Dn

set_option Elab.async false
set_option linter.all false
set_option maxRecDepth 100000
set_option maxHeartbeats 4000000
namespace Dn
open PySem PySem.Spec PyProof.Rows L2
variable [En]
section
variable {X : Cx} {cl : Nat → Addr} {W : WX} {e tg a b c : Expr} {pos : Pos} {K : PySem.W.Frag} {P : Program} {w : World} {F F' H H' H0 F0 : Hp} {ρ ρ' : Ev} {σ : L2.St} {A : Nat → List Addr}
theorem Gr.upd {p : Addr} {o : HO} (g : Gr H F H' F') (h : H p = none) (h' : F' p = none) : Gr H F (upd H' p o) F' :=
  ⟨g.ff, g.hh.upd h, fun a u q => by rw [upd_ne (ne_of_none q h')]; exact g.fh _ _ q, g.nw⟩
/-- a known object of H' that is new goes into F' -/
theorem Gr.take {p : Addr} {o : HO} (g : Gr H F H' F') (h : H p = none) (h' : F' p = none) (e : H' p = some o) : Gr H F H' (L2.upd F' p o) := by
  obtain ⟨e1, e2⟩ := same_in g.fh e h'
  refine ⟨g.ff.trans e1, g.hh, e2, fun x q => ?_⟩
  by_cases hx : x = p
  · subst hx
    exact .inr (.inl h)
  · rw [upd_ne hx] at q
    exact g.nw x q

/-! ### a look at all as data -/
def evB (f : Ev → Res D) : Ev → Res D := fun ρ => match f ρ with
  | .bad => (match f (frz ρ) with
    | .ok d => if noList d = true then .ok d else .bad
    | .ex c => .ex c
    | .bad => .bad)
  | r => r
def evT (f : Ev → Res Bool) : Ev → Res Bool := fun ρ => match f ρ with
  | .bad => f (frz ρ)
  | r => r
theorem tx_bor {f : Ev → Res D} : ∀ σ H Q, tX K P w (SD K) cl W (evB f) σ H Q → tX K P w (SD K) cl W f σ H Q := fun σ H Q h => by
  obtain ⟨H0, F0, ρ, F, A, R, p⟩ := h
  unfold evB at p
  cases q : f ρ with
  | ok d => exact ⟨H0, F0, ρ, F, A, R, by rw [q] at p ⊢; exact p⟩
  | ex c => exact ⟨H0, F0, ρ, F, A, R, by rw [q] at p ⊢; exact p⟩
  | bad =>
    rw [q] at p
    obtain ⟨Fp, e1, e2, _, R2⟩ := R.frz
    refine ⟨H, Fp, frz ρ, Fp, _, R2, ?_⟩
    cases q2 : f (frz ρ) with
    | bad => rw [q2] at p; exact p
    | ex c =>
      rw [q2] at p
      exact fun H' F' g => p H' _ (tupsOf_gr e1 e2 g)
    | ok d =>
      rw [q2] at p
      have p' : Post (SD K) cl W σ H F (if noList d = true then .ok d else .bad) Q := p
      by_cases hn : noList d = true
      · rw [if_pos hn] at p'
        exact fun v H' F' g s => p' v H' _ (tupsOf_gr e1 e2 g) (tupsOf_sees (e1.trans g.ff) s hn)
      · rw [if_neg hn] at p'
        exact p'.elim
theorem tx_borT {f : Ev → Res Bool} : ∀ σ H Q, tX K P w SB cl W (evT f) σ H Q → tX K P w SB cl W f σ H Q := fun σ H Q h => by
  obtain ⟨H0, F0, ρ, F, A, R, p⟩ := h
  unfold evT at p
  cases q : f ρ with
  | ok d => exact ⟨H0, F0, ρ, F, A, R, by rw [q] at p ⊢; exact p⟩
  | ex c => exact ⟨H0, F0, ρ, F, A, R, by rw [q] at p ⊢; exact p⟩
  | bad =>
    rw [q] at p
    obtain ⟨Fp, e1, e2, _, R2⟩ := R.frz
    refine ⟨H, Fp, frz ρ, Fp, _, R2, ?_⟩
    have p' : Post SB cl W σ H F (f (frz ρ)) Q := p
    cases q2 : f (frz ρ) with
    | bad => rw [q2] at p'; exact p'
    | ex c =>
      rw [q2] at p'
      exact fun H' F' g => p' H' _ (tupsOf_gr e1 e2 g)
    | ok d =>
      rw [q2] at p'
      exact fun v H' F' g s => p' v H' _ (tupsOf_gr e1 e2 g) s
theorem de_bor {f : Ev → Res D} (h : DE X cl W e f) : DE X cl W e (evB f) := PE_imp h tx_bor
theorem dt_bor {f : Ev → Res Bool} (h : DT X cl W e f) : DT X cl W e (evT f) := PT_imp h tx_borT

/-! ### new lists that nobody else has -/
def PostO (K : PySem.W.Frag) (cl : Nat → Addr) (W : WX) (σ : L2.St) (H F : Hp) (r : Res (List D)) (Q : VK) : Prop := match r with
  | .ok ds => ∀ a xs H' F', Gr H F H' F' → H a = none → F' a = none → H' a = some (.lst xs) → SeesL K F' ds xs → Q (.ref a) H'
  | .ex c => ∀ H' F', Gr H F H' F' → W (.ref (cl c)) none σ H'
  | .bad => False
def PostO2 (K : PySem.W.Frag) (cl : Nat → Addr) (W : WX) (σ : L2.St) (H F : Hp) (r : Res (List (List D))) (Q : VK) : Prop := match r with
  | .ok dss => ∀ a bs H' F', Gr H F H' F' → (a :: bs).Nodup → (∀ x ∈ a :: bs, H x = none ∧ F' x = none) → H' a = some (.lst (bs.map V.ref)) → Own2 K F' H' dss bs → Q (.ref a) H'
  | .ex c => ∀ H' F', Gr H F H' F' → W (.ref (cl c)) none σ H'
  | .bad => False
theorem PostO.grow {r : Res (List D)} {Q : VK} (g : Gr H F H' F') (p : PostO K cl W σ H F r Q) : PostO K cl W σ H' F' r Q := by
  cases r with
  | ok d => exact fun a xs H2 F2 g2 h => p a xs H2 F2 (g.trans g2) (g.hh.free h)
  | ex c => exact fun H2 F2 g2 => p H2 F2 (g.trans g2)
  | bad => exact p
theorem PostO2.grow {r : Res (List (List D))} {Q : VK} (g : Gr H F H' F') (p : PostO2 K cl W σ H F r Q) : PostO2 K cl W σ H' F' r Q := by
  cases r with
  | ok d => exact fun a xs H2 F2 g2 nd h => p a xs H2 F2 (g.trans g2) nd fun x hx => ⟨g.hh.free (h x hx).1, (h x hx).2⟩
  | ex c => exact fun H2 F2 g2 => p H2 F2 (g.trans g2)
  | bad => exact p
theorem PostO.ofBind {α β : Type} {S : Hp → α → β → Prop} {r : Res α} {k : α → Res (List D)} {Q : VK} (p : PostO K cl W σ H F (r.bind k) Q) :
    Post S cl W σ H F r (fun v H1 => ∃ F1 a, r = .ok a ∧ Gr H F H1 F1 ∧ S F1 a v ∧ PostO K cl W σ H1 F1 (k a) Q) := by
  cases r with
  | ok a => exact fun v H1 F1 g s => ⟨F1, a, rfl, g, s, PostO.grow g p⟩
  | ex c => exact p
  | bad => exact p
theorem PostO2.ofBind {α β : Type} {S : Hp → α → β → Prop} {r : Res α} {k : α → Res (List (List D))} {Q : VK} (p : PostO2 K cl W σ H F (r.bind k) Q) :
    Post S cl W σ H F r (fun v H1 => ∃ F1 a, r = .ok a ∧ Gr H F H1 F1 ∧ S F1 a v ∧ PostO2 K cl W σ H1 F1 (k a) Q) := by
  cases r with
  | ok a => exact fun v H1 F1 g s => ⟨F1, a, rfl, g, s, PostO2.grow g p⟩
  | ex c => exact p
  | bad => exact p
def tO (K : PySem.W.Frag) (P : Program) (w : World) (cl : Nat → Addr) (W : WX) (f : Ev → Res (List D)) : TE := fun σ H Q => ∃ H0 F0 ρ F A, Rep K P w H0 F0 ρ σ H F A ∧ PostO K cl W σ H F (f ρ) Q
def tO2 (K : PySem.W.Frag) (P : Program) (w : World) (cl : Nat → Addr) (W : WX) (f : Ev → Res (List (List D))) : TE := fun σ H Q => ∃ H0 F0 ρ F A, Rep K P w H0 F0 ρ σ H F A ∧ PostO2 K cl W σ H F (f ρ) Q
abbrev DN (X : Cx) (cl : Nat → Addr) (W : WX) (e : Expr) (f : Ev → Res (List D)) : Prop := PE X e (tO X.K X.prog X.w cl W f)
abbrev DN2 (X : Cx) (cl : Nat → Addr) (W : WX) (e : Expr) (f : Ev → Res (List (List D))) : Prop := PE X e (tO2 X.K X.prog X.w cl W f)
/-- as data -/
def lstR : Res (List D) → Res D
  | .ok ds => .ok (.list ds)
  | .ex c => .ex c
  | .bad => .bad
def lstR2 : Res (List (List D)) → Res D
  | .ok ds => .ok (.list (ds.map .list))
  | .ex c => .ex c
  | .bad => .bad
theorem postO_of {r : Res (List D)} {Q : VK} (p : Post (SD K) cl W σ H F (lstR r) Q) : PostO K cl W σ H F r Q := by
  cases r with
  | ok ds => exact fun a xs H' F' g h h' e s => p (.ref a) H' _ (g.take h h' e) ⟨a, xs, rfl, upd_same, s.mono (same_in g.fh e h').1⟩
  | ex c => exact p
  | bad => exact p
/-- the objects at bs, put into F -/
def updL (F H : Hp) : List Addr → Hp
  | [] => F
  | b :: bs => match H b with
    | some o => upd (updL F H bs) b o
    | none => updL F H bs
theorem updL_out {x : Addr} : ∀ {bs : List Addr}, x ∉ bs → updL F H bs x = F x
  | [], _ => rfl
  | b :: bs, h => by
    have h1 : x ≠ b := fun z => h (by rw [z]; exact List.mem_cons_self)
    have h2 := updL_out (bs := bs) fun z => h (List.mem_cons_of_mem _ z)
    unfold updL
    cases q : H b with
    | none => exact h2
    | some o =>
      show upd (updL F H bs) b o x = F x
      rw [upd_ne h1, h2]
theorem updL_in {x : Addr} : ∀ {bs : List Addr}, x ∈ bs → H x ≠ none → updL F H bs x = H x
  | [], h, _ => nomatch h
  | b :: bs, h, hn => by
    unfold updL
    by_cases e : x = b
    · subst e
      cases q : H x with
      | none => exact absurd q hn
      | some o =>
        show upd (updL F H bs) x o x = some o
        rw [upd_same]
    · have h2 := updL_in (bs := bs) ((List.mem_cons.mp h).resolve_left e) hn
      cases q : H b with
      | none => exact h2
      | some o =>
        show upd (updL F H bs) b o x = H x
        rw [upd_ne e, h2]
theorem own2_there : ∀ {dss : List (List D)} {bs : List Addr}, Own2 K F H dss bs → ∀ b ∈ bs, H b ≠ none
  | [], [], _, _, h => nomatch h
  | [], _ :: _, h, _, _ => h.elim
  | _ :: _, [], h, _, _ => h.elim
  | ds :: dss, b :: bs, h, x, hx => by
    rcases List.mem_cons.mp hx with e | hx
    · obtain ⟨xs, h1, _⟩ := h.1
      rw [e, h1]
      exact fun z => by cases z
    · exact own2_there h.2 x hx
theorem postO2_of {r : Res (List (List D))} {Q : VK} (p : Post (SD K) cl W σ H F (lstR2 r) Q) : PostO2 K cl W σ H F r Q := by
  cases r with
  | ok dss =>
    refine fun a bs H' F' g nd h e o => ?_
    have hb : ∀ b ∈ a :: bs, H' b ≠ none := fun b hb => by
      rcases List.mem_cons.mp hb with z | hb
      · rw [z, e]
        exact fun z => by cases z
      · exact own2_there o b hb
    have e1 : Same F' (updL F' H' (a :: bs)) := fun x o q => by
      rw [updL_out (fun z => by rw [(h x z).2] at q; cases q)]
      exact q
    have e2 : Same (updL F' H' (a :: bs)) H' := fun x o q => by
      by_cases hx : x ∈ a :: bs
      · rw [updL_in hx (hb x hx)] at q
        exact q
      · rw [updL_out hx] at q
        exact g.fh _ _ q
    refine p (.ref a) H' (updL F' H' (a :: bs)) ⟨g.ff.trans e1, g.hh, e2, fun x q => ?_⟩ ⟨a, bs.map V.ref, rfl, ?_, own2_sees e1 (fun b hb' => updL_in (List.mem_cons_of_mem _ hb') (hb b (List.mem_cons_of_mem _ hb'))) o⟩
    · by_cases hx : x ∈ a :: bs
      · exact .inr (.inl (h x hx).1)
      · rw [updL_out hx] at q
        exact g.nw x q
    · rw [updL_in List.mem_cons_self (hb a List.mem_cons_self)]
      exact e
  | ex c => exact p
  | bad => exact p
theorem de_dn {f : Ev → Res (List D)} (h : DN X cl W e f) : DE X cl W e (fun ρ => lstR (f ρ)) := PE_imp h fun σ H Q q => by
  obtain ⟨H0, F0, ρ, F, A, R, p⟩ := q
  exact ⟨H0, F0, ρ, F, A, R, postO_of p⟩
theorem de_dn2 {f : Ev → Res (List (List D))} (h : DN2 X cl W e f) : DE X cl W e (fun ρ => lstR2 (f ρ)) := PE_imp h fun σ H Q q => by
  obtain ⟨H0, F0, ρ, F, A, R, p⟩ := q
  exact ⟨H0, F0, ρ, F, A, R, postO2_of p⟩
/-- a new list that is just laid -/
theorem PostO.new {ds : List D} {xs : List V} {Q : VK} {p : Addr} (e : Same F H) (q : PostO K cl W σ H F (.ok ds) Q) (s : SeesL K F ds xs) (hp : H p = none) : Q (.ref p) (upd H p (.lst xs)) :=
  q p xs _ _ (Gr.out e hp) hp (e.free hp) upd_same s
/-- a look at all as data, a new list -/
def evN (f : Ev → Res (List D)) : Ev → Res (List D) := fun ρ => match f ρ with
  | .bad => (match f (frz ρ) with
    | .ok d => if noListL d = true then .ok d else .bad
    | .ex c => .ex c
    | .bad => .bad)
  | r => r
def noListLL : List (List D) → Bool
  | [] => true
  | d :: ds => noListL d && noListLL ds
def evN2 (f : Ev → Res (List (List D))) : Ev → Res (List (List D)) := fun ρ => match f ρ with
  | .bad => (match f (frz ρ) with
    | .ok d => if noListLL d = true then .ok d else .bad
    | .ex c => .ex c
    | .bad => .bad)
  | r => r
theorem tupsOf_get {F2 : Hp} (e : Same F F2) {a : Addr} {xs : List V} (q : F2 a = some (.tup xs)) : tupsOf F F2 a = some (.tup xs) := by
  unfold tupsOf
  cases r : F a with
  | some u =>
    have := e _ _ r
    rw [q] at this
    exact this.symm
  | none =>
    show (match F2 a with | some (.tup ys) => some (HO.tup ys) | _ => none) = _
    rw [q]
theorem tupsOf_none {F2 : Hp} {a : Addr} (h : F a = none) (q : F2 a = none) : tupsOf F F2 a = none := by
  unfold tupsOf
  rw [h]
  show (match F2 a with | some (.tup ys) => some (HO.tup ys) | _ => none) = _
  rw [q]
theorem own2_tups {F2 : Hp} (e : Same F F2) : ∀ {dss : List (List D)} {bs : List Addr}, noListLL dss = true → Own2 K F2 H dss bs → Own2 K (tupsOf F F2) H dss bs
  | [], [], _, h => h
  | [], _ :: _, _, h => h.elim
  | _ :: _, [], _, h => h.elim
  | ds :: dss, b :: bs, p, h => by
    have p' : (noListL ds && noListLL dss) = true := p
    rw [Bool.and_eq_true] at p'
    obtain ⟨⟨xs, h1, h2⟩, h3⟩ := h
    exact ⟨⟨xs, h1, h2.tups (fun a xs q => tupsOf_get e q) ds xs p'.1⟩, own2_tups e p'.2 h3⟩
theorem dn_bor {f : Ev → Res (List D)} (h : DN X cl W e f) : DN X cl W e (evN f) := PE_imp h fun σ H Q h => by
  obtain ⟨H0, F0, ρ, F, A, R, p⟩ := h
  unfold evN at p
  cases q : f ρ with
  | ok d => exact ⟨H0, F0, ρ, F, A, R, by rw [q] at p ⊢; exact p⟩
  | ex c => exact ⟨H0, F0, ρ, F, A, R, by rw [q] at p ⊢; exact p⟩
  | bad =>
    rw [q] at p
    obtain ⟨Fp, e1, e2, _, R2⟩ := R.frz
    refine ⟨H, Fp, frz ρ, Fp, _, R2, ?_⟩
    cases q2 : f (frz ρ) with
    | bad => rw [q2] at p; exact p
    | ex c =>
      rw [q2] at p
      exact fun H' F' g => p H' _ (tupsOf_gr e1 e2 g)
    | ok d =>
      rw [q2] at p
      have p' : PostO X.K cl W σ H F (if noListL d = true then .ok d else .bad) Q := p
      by_cases hn : noListL d = true
      · rw [if_pos hn] at p'
        exact fun a xs H' F' g h h' e s => p' a xs H' _ (tupsOf_gr e1 e2 g) h (tupsOf_none (R.sub.free h) h') e (s.tups (fun a xs q => tupsOf_get (e1.trans g.ff) q) d xs hn)
      · rw [if_neg hn] at p'
        exact p'.elim
theorem dn2_bor {f : Ev → Res (List (List D))} (h : DN2 X cl W e f) : DN2 X cl W e (evN2 f) := PE_imp h fun σ H Q h => by
  obtain ⟨H0, F0, ρ, F, A, R, p⟩ := h
  unfold evN2 at p
  cases q : f ρ with
  | ok d => exact ⟨H0, F0, ρ, F, A, R, by rw [q] at p ⊢; exact p⟩
  | ex c => exact ⟨H0, F0, ρ, F, A, R, by rw [q] at p ⊢; exact p⟩
  | bad =>
    rw [q] at p
    obtain ⟨Fp, e1, e2, _, R2⟩ := R.frz
    refine ⟨H, Fp, frz ρ, Fp, _, R2, ?_⟩
    cases q2 : f (frz ρ) with
    | bad => rw [q2] at p; exact p
    | ex c =>
      rw [q2] at p
      exact fun H' F' g => p H' _ (tupsOf_gr e1 e2 g)
    | ok d =>
      rw [q2] at p
      have p' : PostO2 X.K cl W σ H F (if noListLL d = true then .ok d else .bad) Q := p
      by_cases hn : noListLL d = true
      · rw [if_pos hn] at p'
        exact fun a bs H' F' g nd h e o => p' a bs H' _ (tupsOf_gr e1 e2 g) nd (fun x hx => ⟨(h x hx).1, tupsOf_none (R.sub.free (h x hx).1) (h x hx).2⟩) e (own2_tups (e1.trans g.ff) hn o)
      · rw [if_neg hn] at p'
        exact p'.elim
/-! by calls of built-in functions -/
def CallN (K : PySem.W.Frag) (r : List V → Hp → VK → Prop) (o : List D → Res (List D)) : Prop := ∀ (cl : Nat → Addr) (W : WX) (σ : L2.St) (ds : List D) (vs : List V) (H F : Hp) (Q : VK), Same F H → SeesL K F ds vs → PostO K cl W σ H F (o ds) Q → r vs H Q
def nCall (o : List D → Res (List D)) (f : Ev → Res (List D)) : Ev → Res (List D) := fun ρ => (f ρ).bind o
theorem tx_calln {r : List V → Hp → VK → Prop} {o : List D → Res (List D)} {f : Ev → Res (List D)} (od : CallN K r o) : ∀ σ H Q, tO K P w cl W (nCall o f) σ H Q → tCB r (tX K P w (SL K) cl W f) σ H Q := fun σ H Q h => by
  obtain ⟨H0, F0, ρ, F, A, R, p⟩ := h
  refine ⟨H0, F0, ρ, F, A, R, (PostO.ofBind (S := SL K) p).imp fun v H1 ⟨F1, x, _, g1, s1, p1⟩ => ?_⟩
  exact od cl W σ x v H1 F1 Q g1.fh s1 p1
theorem dn_bltn {x : Str} {id : String} {r : List V → Hp → VK → Prop} {o : List D → Res (List D)} {es : List Expr} {p : Pos} {f : Ev → Res (List D)} (hc : CallR X (.builtin id) r) (od : CallN X.K r o) (hm : X.mg x = none) (hv : bootBuiltins x = some (.builtin id)) (ha : DA X cl W (e :: es) f) (hg : Gl X x := by rfl) (hn : x ≠ "__name__" := by decide) (hdb : (x == ("__debug__" : Str)) = false := by decide)
    (he : starEach (e :: es) X.env = (false, eval e X.env) :: starEach es X.env := by rfl) (hpl : (backTo pos (starEach es X.env)).any (·.1) = false := by rfl) : DN X cl W (.Call (.Name x p) (e :: es) [] pos) (nCall o f) := PE_imp (pe_callB hc hg hm hv ha hn hdb he hpl) (tx_calln od)
theorem dn_bty {x : Str} {id : String} {r : List V → Hp → VK → Prop} {o : List D → Res (List D)} {es : List Expr} {p : Pos} {f : Ev → Res (List D)} (hc : CallR X (.type id) r) (od : CallN X.K r o) (hm : X.mg x = none) (hv : bootBuiltins x = some (.type id)) (ha : DA X cl W (e :: es) f) (hg : Gl X x := by rfl) (hn : x ≠ "__name__" := by decide) (hdb : (x == ("__debug__" : Str)) = false := by decide)
    (he : starEach (e :: es) X.env = (false, eval e X.env) :: starEach es X.env := by rfl) (hpl : (backTo pos (starEach es X.env)).any (·.1) = false := by rfl) : DN X cl W (.Call (.Name x p) (e :: es) [] pos) (nCall o f) := PE_imp (pe_callTy hc hg hm hv ha hn hdb he hpl) (tx_calln od)
def nSort : List D → Res (List D)
  | [.list ds] => match pairsO ds with
    | some ps => .ok ((sortP ps).map tup2)
    | none => match intsO ds with
      | some ns => .ok ((sortI ns).map .int)
      | none => .bad
  | _ => .bad
def nList : List D → Res (List D)
  | [.list ds] => .ok ds
  | [.tuple ds] => .ok ds
  | _ => .bad
theorem cn_one {r : List V → Hp → VK → Prop} {o : List D → Res (List D)} (k : ∀ (cl : Nat → Addr) (W : WX) (σ : L2.St) (d : D) (v : V) (H F : Hp) (Q : VK), Same F H → Sees K F d v → PostO K cl W σ H F (o [d]) Q → r [v] H Q) (h0 : o [] = .bad) (h2 : ∀ x y z, o (x :: y :: z) = .bad) : CallN K r o := by
  intro cl W σ ds vs H F Q e s p
  match ds, vs, s with
  | [], _, _ => rw [h0] at p; exact p.elim
  | [d], [v], s => exact k cl W σ d v H F Q e s.1 p
  | [d], v :: u :: _, s => exact s.2.elim
  | [d], [], s => exact s.elim
  | x :: y :: z, _, _ => rw [h2] at p; exact p.elim
theorem cn_list : CallN K (fun xs H Q => ∃ p ys, xs = [V.ref p] ∧ (SqL K H p ys ∨ SqT K H p ys) ∧ ∀ l, H l = none → Q (.ref l) (upd H l (.lst ys))) nList := cn_one (fun cl W σ d v H F Q e s p => by
  cases d with
  | list ds =>
    obtain ⟨a, xs, rfl, ha, hs⟩ := s
    exact ⟨a, xs, rfl, .inl (SqL.of (e _ _ ha)), fun q hq => PostO.new e p hs hq⟩
  | tuple ds =>
    obtain ⟨a, xs, rfl, ha, hs⟩ := s
    exact ⟨a, xs, rfl, .inr (SqT.of (e _ _ ha)), fun q hq => PostO.new e p hs hq⟩
  | _ => exact p.elim) rfl fun x y z => by cases x <;> rfl
theorem cn_sort : CallN K (fun vs H Q => rSortedPO K vs H Q ∨ rSortedI K vs H Q) nSort := cn_one (fun cl W σ d v H F Q e s p => by
  cases d with
  | list ds =>
    obtain ⟨a, xs, rfl, ha, hs⟩ := s
    have p' : PostO K cl W σ H F (match pairsO ds with | some ps => .ok ((sortP ps).map tup2) | none => match intsO ds with | some ns => .ok ((sortI ns).map .int) | none => .bad) Q := p
    cases q : pairsO ds with
    | some ps =>
      rw [q] at p'
      rw [pairsO_eq q] at hs
      refine .inl ⟨a, xs, pairAt H, rfl, SqL.of (e _ _ ha), fun x hx => ?_, fun ys t hy hz ht => ?_⟩
      · obtain ⟨d, hd, sd⟩ := seesL_mem hs hx
        obtain ⟨pp, _, e1⟩ := List.mem_map.mp hd
        subst e1
        obtain ⟨t, e2, e3⟩ := sees_pair e sd
        subst e2
        rw [pairAt_eq e3]
        exact ⟨t, rfl, e3⟩
      · have hm : ys.map (pairAt H) = sortP ps := by
          refine srtP_uniq ?_ (List.pairwise_map.mpr hy) (sortP_srt ps)
          have h1 := hz.perm.map (pairAt H)
          rw [pairsAt e hs] at h1
          exact h1.trans (sortP_perm ps).symm
        refine PostO.new e p' ?_ ht
        have h2 : SeesL K F (ys.map fun v => tup2 (pairAt H v)) ys := seesL_of fun y hy => by
          obtain ⟨d, hd, sd⟩ := seesL_mem hs (hz.perm.mem_iff.mp hy)
          obtain ⟨pp, _, e1⟩ := List.mem_map.mp hd
          subst e1
          obtain ⟨t, e2, e3⟩ := sees_pair e sd
          subst e2
          rw [pairAt_eq e3]
          exact sd
        rw [← hm, List.map_map]
        exact h2
    | none =>
      rw [q] at p'
      cases q2 : intsO ds with
      | none => rw [q2] at p'; exact p'.elim
      | some ns =>
        rw [q2] at p'
        rw [intsO_eq q2] at hs
        have ex := hs.ints
        subst ex
        refine .inr ⟨a, ns, rfl, SqL.of (e _ _ ha), fun ns' t h1 h2 ht => ?_⟩
        have hm : ns' = sortI ns := srtI_uniq (h1.trans (sortI_perm ns).symm) h2 (sortI_srt ns)
        subst hm
        exact PostO.new e p' (SeesL.of_ints _) ht
  | _ => exact p.elim) rfl fun x y z => by cases x <;> rfl
/-- xs + ys: new -/
def nCat (f g : Ev → Res D) : Ev → Res (List D) := fun ρ => (f ρ).bind fun x => (g ρ).bind fun y => match x, y with
  | .list xs, .list ys => if xs.length + ys.length ≤ big then .ok (xs ++ ys) else .bad
  | _, _ => .bad
theorem dn_cat {f g : Ev → Res D} (ha : DE X cl W a f) (hb : DE X cl W b g) : DN X cl W (.BinOp a .Add b pos) (nCat f g) := PE_imp (pe_op op_cat ha hb) fun σ H Q h => by
  obtain ⟨H0, F0, ρ, F, A, R, p⟩ := h
  refine ⟨H0, F0, ρ, F, A, R, (PostO.ofBind (S := SD X.K) p).imp fun v H1 ⟨F1, x, _, g1, s1, p1⟩ => ?_⟩
  refine ⟨H0, F0, ρ, F1, A, R.grow g1, (PostO.ofBind (S := SD X.K) p1).imp fun u H2 ⟨F2, y, _, g2, s2, p2⟩ => ?_⟩
  cases x with
  | list ds =>
    cases y with
    | list es =>
      obtain ⟨a, xs, rfl, ha, hs⟩ := s1
      obtain ⟨b, ys, rfl, hb, ht⟩ := s2
      have p' : PostO X.K cl W σ H2 F2 (if ds.length + es.length ≤ big then .ok (ds ++ es) else .bad) Q := p2
      by_cases h : ds.length + es.length ≤ big
      · rw [if_pos h] at p'
        refine ⟨a, b, xs, ys, rfl, rfl, g2.fh _ _ (g2.ff _ _ ha), g2.fh _ _ hb, big_le (by rw [← hs.length, ← ht.length]; exact h), fun q hq => ?_⟩
        exact PostO.new g2.fh p' ((hs.mono g2.ff).app ht) hq
      · rw [if_neg h] at p'
        exact p'.elim
    | _ => exact p2.elim
  | _ => exact p2.elim
/-- a display: new -/
def nLst (f : Ev → Res (List D)) : Ev → Res (List D) := fun ρ => (f ρ).bind fun xs => if xs.length ≤ big then .ok xs else .bad
theorem dn_lst {es : List Expr} {f : Ev → Res (List D)} (h : DA X cl W es f) : DN X cl W (.List es pos) (nLst f) := PE_imp (pe_lst h) fun σ H Q h => by
  obtain ⟨H0, F0, ρ, F, A, R, p⟩ := h
  refine ⟨H0, F0, ρ, F, A, R, (PostO.ofBind (S := SL X.K) p).imp fun vs H1 ⟨F1, xs, _, g1, s1, p1⟩ => ?_⟩
  by_cases h : xs.length ≤ big
  · rw [if_pos h] at p1
    exact ⟨big_le (by rw [← SeesL.length s1]; exact h), fun q hq => PostO.new g1.fh p1 s1 hq⟩
  · rw [if_neg h] at p1
    exact p1.elim
theorem de_lst {es : List Expr} {f : Ev → Res (List D)} (h : DA X cl W es f) : DE X cl W (.List es pos) (sLst f) := PE_imp (pe_lst h) tx_lst
theorem de_tup {es : List Expr} {f : Ev → Res (List D)} {x1 : Nat} (h : DA X cl W es f) : DE X cl W (.Tuple es x1 pos) (sTup f) := PE_imp (pe_tup h) tx_tup
end
end Dn

set_option Elab.async false
set_option linter.all false
set_option maxRecDepth 100000
set_option maxHeartbeats 4000000
namespace Dn
open PySem PySem.Spec PyProof.Rows L2
variable [En]
abbrev W0 : WX := fun _ _ _ _ => False
section
variable {X : Cx} {cl : Nat → Addr} {W : WX} {e tg a b c : Expr} {pos : Pos} {K : PySem.W.Frag} {P : Program} {w : World} {F F' H H' H0 F0 : Hp} {ρ ρ' : Ev} {σ : L2.St} {A : Nat → List Addr}
/-! ### comprehensions -/
def compO {β : Type} (bnd : D → Ev → Option Ev) (t : Ev → Res Bool) (e : Ev → Res β) (rho0 : Ev) : List D → Option (List β)
  | [] => some []
  | d :: ds => match bnd d rho0 with
    | none => none
    | some ρ' => match t ρ' with
      | .ok true => (match e ρ' with
        | .ok y => (compO bnd t e rho0 ds).map (y :: ·)
        | _ => none)
      | .ok false => compO bnd t e rho0 ds
      | _ => none
def wipeC (ρ : Ev) : List Nat → Ev
  | [] => ρ
  | v :: vs => (wipeC ρ vs).set v .no
theorem Rep.wipe (R : Rep K P w H0 F0 ρ σ H F A) : ∀ vs : List Nat, ∃ A', Rep K P w H0 F0 (wipeC ρ vs) (L2.wipe σ vs) H F A' ∧ ∀ i x, x ∈ A' i → x ∈ A i
  | [] => ⟨A, R, fun _ _ h => h⟩
  | v :: vs => by
    obtain ⟨A', R', h⟩ := Rep.wipe R vs
    refine ⟨_, R'.junk (i := v) (ov := none), fun i x hx => ?_⟩
    unfold setA at hx
    by_cases e : i = v
    · rw [if_pos e] at hx
      cases hx
    · rw [if_neg e] at hx
      exact h i x hx
def nComp (src : Ev → Res (List D)) (bnd : D → Ev → Option Ev) (t : Ev → Res Bool) (e : Ev → Res D) (vs : List Nat) : Ev → Res (List D) := fun ρ => (src ρ).bind fun ds => if ds.length ≤ big then ofO (compO bnd t e (wipeC ρ vs) ds) else .bad
def nComp2 (src : Ev → Res (List D)) (bnd : D → Ev → Option Ev) (t : Ev → Res Bool) (e : Ev → Res (List D)) (vs : List Nat) : Ev → Res (List (List D)) := fun ρ => (src ρ).bind fun ds => if ds.length ≤ big then ofO (compO bnd t e (wipeC ρ vs) ds) else .bad
theorem drop_cons {α : Type} {l : List α} {i : Nat} {d : α} (h : l[i]? = some d) : l.drop i = d :: l.drop (i + 1) := by
  obtain ⟨h1, h2⟩ := List.getElem?_eq_some_iff.mp h
  rw [List.drop_eq_getElem_cons h1, h2]
theorem tx_lcN {src : Ev → Res (List D)} {bnd : D → Ev → Option Ev} {t : Ev → Res Bool} {te : Ev → Res D} {vs js : List Nat} (hj : ∀ j ∈ js, j ∈ vs) : ∀ σ H Q, tO K P w cl W (nComp src bnd t te vs) σ H Q →
    tLc (tX K P w (SW K) cl W src) (tG K P w bnd js) (tX K P w SB cl W0 t) (tX K P w (SD K) cl W0 te) vs σ H Q := fun σ H Q h => by
  obtain ⟨H0, F0, ρ, F, A, R, p⟩ := h
  refine ⟨H0, F0, ρ, F, A, R, (PostO.ofBind (S := SW K) p).imp fun J H1 ⟨F1, ds, _, g1, wk, p1⟩ => fun Dl hD => ?_⟩
  have R1 := R.grow g1
  by_cases hb : ds.length ≤ big
  case neg => rw [if_neg hb] at p1; exact p1.elim
  rw [if_pos hb] at p1
  cases hc : compO bnd t te (wipeC ρ vs) ds with
  | none => rw [hc] at p1; exact p1.elim
  | some ys =>
    rw [hc] at p1
    have hF1 : F1 Dl = none := g1.fh.free hD
    have h0 : H0 Dl = none := R1.base.hh.free hD
    let Pv : Nat → Hp → Prop := fun i H' => ∃ F' acc ys1 ys2, Gr H1 F1 H' F' ∧ F' Dl = none ∧ H' Dl = some (.lst acc) ∧ SeesL K F' ys1 acc ∧ compO bnd t te (wipeC ρ vs) (ds.drop i) = some ys2 ∧ ys = ys1 ++ ys2 ∧ ys1.length ≤ i
    refine ⟨fun i m H' => m = ds.length - i ∧ i ≤ ds.length ∧ Pv i H', ⟨ds.length, by omega, Nat.zero_le _, F1, [], [], ys, Gr.out g1.fh hD, hF1, upd_same, True.intro, hc, rfl, Nat.le_refl _⟩, fun i m H' hw => ?_⟩
    obtain ⟨em, hi, F', acc, ys1, ys2, g, hf, hH, hs, hcd, ey, hl⟩ := hw
    by_cases hlt : i < ds.length
    · refine .inr ⟨wk.go i H' F' g.ff g.fh hlt, Pv (i + 1), fun H'' pw => ⟨ds.length - (i + 1), by omega, rfl, by omega, pw⟩, fun x H2 y => ?_⟩
      obtain ⟨F2, d, hd, g2, sx⟩ := wk.yld i H' F' x H2 g.ff g.fh hlt y
      have hf2 : F2 Dl = none := by
        cases q : F2 Dl with
        | none => rfl
        | some o =>
          rcases g2.nw Dl (by rw [q]; exact fun z => by cases z) with z | z | z
          · exact absurd hf z
          · rw [hH] at z; cases z
          · rw [hH] at z; exact z.elim
      obtain ⟨Aw, Rw, _⟩ := ((R1.grow g).grow g2).wipe vs
      rw [drop_cons hd] at hcd
      unfold compO at hcd
      cases hbd : bnd d (wipeC ρ vs) with
      | none => rw [hbd] at hcd; cases hcd
      | some ρ1 =>
        rw [hbd] at hcd
        refine ⟨H0, F0, wipeC ρ vs, F2, Aw, d, ρ1, Rw, sx, hbd, fun σ3 A3 R3 w3 => ⟨?_, ?_⟩⟩
        · rw [w3 vs hj, wipe_wipe]
        · have hcd' := hcd
          dsimp only at hcd'
          cases ht : t ρ1 with
          | bad => rw [ht] at hcd'; cases hcd'
          | ex c => rw [ht] at hcd'; cases hcd'
          | ok bb =>
            rw [ht] at hcd'
            refine ⟨H0, F0, ρ1, F2, A3, R3, ?_⟩
            rw [ht]
            refine fun b H3 F3 g3 sb => ?_
            have eb : bb = b := sb
            subst eb
            have hf3 : F3 Dl = none := by
              cases q : F3 Dl with
              | none => rfl
              | some o =>
                rcases g3.nw Dl (by rw [q]; exact fun z => by cases z) with z | z | z
                · exact absurd hf2 z
                · rw [g2.hh.get hH] at z; cases z
                · rw [g2.hh.get hH] at z; exact z.elim
            cases bb with
            | false =>
              have hcd2 : compO bnd t te (wipeC ρ vs) (ds.drop (i + 1)) = some ys2 := hcd'
              exact ⟨F3, acc, ys1, ys2, (g.trans g2).trans g3, hf3, g3.hh.get (g2.hh.get hH), (hs.mono g2.ff).mono g3.ff, hcd2, ey, by omega⟩
            | true =>
              have hcd2 := hcd'
              dsimp only at hcd2
              refine ⟨H0, F0, ρ1, F3, A3, R3.grow g3, ?_⟩
              cases hte : te ρ1 with
              | bad => rw [hte] at hcd2; cases hcd2
              | ex c => rw [hte] at hcd2; cases hcd2
              | ok y =>
                rw [hte] at hcd2
                refine fun v H4 F4 g4 sv => ?_
                have hH4 : H4 Dl = some (.lst acc) := g4.hh.get (g3.hh.get (g2.hh.get hH))
                have hf4 : F4 Dl = none := by
                  cases q : F4 Dl with
                  | none => rfl
                  | some o =>
                    rcases g4.nw Dl (by rw [q]; exact fun z => by cases z) with z | z | z
                    · exact absurd hf3 z
                    · rw [g3.hh.get (g2.hh.get hH)] at z; cases z
                    · rw [g3.hh.get (g2.hh.get hH)] at z; exact z.elim
                cases hcr : compO bnd t te (wipeC ρ vs) (ds.drop (i + 1)) with
                | none => rw [hcr] at hcd2; cases hcd2
                | some ys3 =>
                  rw [hcr] at hcd2
                  have e2 : y :: ys3 = ys2 := Option.some.inj hcd2
                  have hs4 : SeesL K F4 ys1 acc := ((hs.mono g2.ff).mono g3.ff).mono g4.ff
                  refine ⟨acc, hH4, big_lt (by rw [← hs4.length]; omega), F4, acc ++ [v], ys1 ++ [y], ys3, (((g.trans g2).trans g3).trans g4).upd hD hf4, hf4, upd_same, hs4.app (SeesL.one sv), hcr, ?_, ?_⟩
                  · rw [ey, ← e2, List.append_assoc]
                    rfl
                  · rw [List.length_append]
                    show ys1.length + 1 ≤ i + 1
                    omega
    · have ei : i = ds.length := by omega
      subst ei
      refine .inl ⟨wk.stop H' F' g.ff g.fh, ?_⟩
      rw [List.drop_length] at hcd
      have e2 : [] = ys2 := Option.some.inj hcd
      rw [← e2, List.append_nil] at ey
      rw [ey] at p1
      exact p1 Dl acc H' F' g hD hf hH hs
theorem own2_app {dss : List (List D)} {bs : List Addr} : ∀ {ess : List (List D)} {cs : List Addr}, Own2 K F H dss bs → Own2 K F H ess cs → Own2 K F H (dss ++ ess) (bs ++ cs) := by
  induction dss generalizing bs with
  | nil =>
    intro ess cs h h'
    cases bs with
    | nil => exact h'
    | cons _ _ => exact h.elim
  | cons ds dss ih =>
    intro ess cs h h'
    cases bs with
    | nil => exact h.elim
    | cons b bs => exact ⟨h.1, ih h.2 h'⟩
theorem own2_length : ∀ {dss : List (List D)} {bs : List Addr}, Own2 K F H dss bs → dss.length = bs.length
  | [], [], _ => rfl
  | [], _ :: _, h => h.elim
  | _ :: _, [], h => h.elim
  | _ :: _, _ :: _, h => by rw [List.length_cons, List.length_cons, own2_length h.2]
theorem own2_lst : ∀ {dss : List (List D)} {bs : List Addr}, Own2 K F H dss bs → ∀ b ∈ bs, ∃ xs, H b = some (.lst xs)
  | [], [], _, _, h => nomatch h
  | [], _ :: _, h, _, _ => h.elim
  | _ :: _, [], h, _, _ => h.elim
  | ds :: dss, b :: bs, h, x, hx => by
    rcases List.mem_cons.mp hx with e | hx
    · obtain ⟨xs, h1, _⟩ := h.1
      exact ⟨xs, by rw [e]; exact h1⟩
    · exact own2_lst h.2 x hx
theorem Gr.keepN {p : Addr} {xs : List V} (g : Gr H F H' F') (h : F p = none) (e : H p = some (.lst xs)) : F' p = none := by
  cases q : F' p with
  | none => rfl
  | some o =>
    rcases g.nw p (by rw [q]; exact fun z => by cases z) with z | z | z
    · exact absurd h z
    · rw [e] at z; cases z
    · rw [e] at z; exact z.elim
theorem tx_lcN2 {src : Ev → Res (List D)} {bnd : D → Ev → Option Ev} {t : Ev → Res Bool} {te : Ev → Res (List D)} {vs js : List Nat} (hj : ∀ j ∈ js, j ∈ vs) : ∀ σ H Q, tO2 K P w cl W (nComp2 src bnd t te vs) σ H Q →
    tLc (tX K P w (SW K) cl W src) (tG K P w bnd js) (tX K P w SB cl W0 t) (tO K P w cl W0 te) vs σ H Q := fun σ H Q h => by
  obtain ⟨H0, F0, ρ, F, A, R, p⟩ := h
  refine ⟨H0, F0, ρ, F, A, R, (PostO2.ofBind (S := SW K) p).imp fun J H1 ⟨F1, ds, _, g1, wk, p1⟩ => fun Dl hD => ?_⟩
  have R1 := R.grow g1
  by_cases hb : ds.length ≤ big
  case neg => rw [if_neg hb] at p1; exact p1.elim
  rw [if_pos hb] at p1
  cases hc : compO bnd t te (wipeC ρ vs) ds with
  | none => rw [hc] at p1; exact p1.elim
  | some ys =>
    rw [hc] at p1
    have hF1 : F1 Dl = none := g1.fh.free hD
    let Pv : Nat → Hp → Prop := fun i H' => ∃ F' bs ys1 ys2, Gr H1 F1 H' F' ∧ (Dl :: bs).Nodup ∧ (∀ x ∈ Dl :: bs, H1 x = none ∧ F' x = none) ∧ H' Dl = some (.lst (bs.map V.ref)) ∧ Own2 K F' H' ys1 bs ∧ compO bnd t te (wipeC ρ vs) (ds.drop i) = some ys2 ∧ ys = ys1 ++ ys2 ∧ ys1.length ≤ i
    refine ⟨fun i m H' => m = ds.length - i ∧ i ≤ ds.length ∧ Pv i H', ⟨ds.length, by omega, Nat.zero_le _, F1, [], [], ys, Gr.out g1.fh hD, by simp, (fun x hx => by
      rw [List.mem_singleton.mp hx]
      exact ⟨hD, hF1⟩), upd_same, True.intro, hc, rfl, Nat.le_refl _⟩, fun i m H' hw => ?_⟩
    obtain ⟨em, hi, F', bs, ys1, ys2, g, nd, hx, hH, hs, hcd, ey, hl⟩ := hw
    have lstOf : ∀ x ∈ Dl :: bs, ∃ zs, H' x = some (.lst zs) := fun x hx => by
      rcases List.mem_cons.mp hx with z | z
      · rw [z]; exact ⟨_, hH⟩
      · exact own2_lst hs x z
    by_cases hlt : i < ds.length
    · refine .inr ⟨wk.go i H' F' g.ff g.fh hlt, Pv (i + 1), fun H'' pw => ⟨ds.length - (i + 1), by omega, rfl, by omega, pw⟩, fun x H2 y => ?_⟩
      obtain ⟨F2, d, hd, g2, sx⟩ := wk.yld i H' F' x H2 g.ff g.fh hlt y
      have keep : ∀ {H3 F3 : Hp}, Gr H' F' H3 F3 → (∀ x ∈ Dl :: bs, H1 x = none ∧ F3 x = none) ∧ H3 Dl = some (.lst (bs.map V.ref)) ∧ Own2 K F3 H3 ys1 bs := fun {H3 F3} g3 => by
        refine ⟨fun x hx' => ?_, g3.hh.get hH, hs.mono g3.ff fun b hb => ?_⟩
        · obtain ⟨zs, ez⟩ := lstOf x hx'
          exact ⟨(hx x hx').1, g3.keepN (hx x hx').2 ez⟩
        · obtain ⟨zs, ez⟩ := lstOf b (List.mem_cons_of_mem _ hb)
          rw [ez]
          exact g3.hh.get ez
      obtain ⟨Aw, Rw, _⟩ := ((R1.grow g).grow g2).wipe vs
      rw [drop_cons hd] at hcd
      unfold compO at hcd
      cases hbd : bnd d (wipeC ρ vs) with
      | none => rw [hbd] at hcd; cases hcd
      | some ρ1 =>
        rw [hbd] at hcd
        refine ⟨H0, F0, wipeC ρ vs, F2, Aw, d, ρ1, Rw, sx, hbd, fun σ3 A3 R3 w3 => ⟨?_, ?_⟩⟩
        · rw [w3 vs hj, wipe_wipe]
        · have hcd' := hcd
          dsimp only at hcd'
          cases ht : t ρ1 with
          | bad => rw [ht] at hcd'; cases hcd'
          | ex c => rw [ht] at hcd'; cases hcd'
          | ok bb =>
            rw [ht] at hcd'
            refine ⟨H0, F0, ρ1, F2, A3, R3, ?_⟩
            rw [ht]
            refine fun b H3 F3 g3 sb => ?_
            have eb : bb = b := sb
            subst eb
            cases bb with
            | false =>
              have hcd2 : compO bnd t te (wipeC ρ vs) (ds.drop (i + 1)) = some ys2 := hcd'
              obtain ⟨k1, k2, k3⟩ := keep (g2.trans g3)
              exact ⟨F3, bs, ys1, ys2, (g.trans g2).trans g3, nd, k1, k2, k3, hcd2, ey, by omega⟩
            | true =>
              have hcd2 := hcd'
              dsimp only at hcd2
              refine ⟨H0, F0, ρ1, F3, A3, R3.grow g3, ?_⟩
              cases hte : te ρ1 with
              | bad => rw [hte] at hcd2; cases hcd2
              | ex c => rw [hte] at hcd2; cases hcd2
              | ok y =>
                rw [hte] at hcd2
                refine fun a xs H4 F4 g4 ha ha' hxs sv => ?_
                obtain ⟨k1, k2, k3⟩ := keep ((g2.trans g3).trans g4)
                obtain ⟨_, k2', k3'⟩ := keep (g2.trans g3)
                cases hcr : compO bnd t te (wipeC ρ vs) (ds.drop (i + 1)) with
                | none => rw [hcr] at hcd2; cases hcd2
                | some ys3 =>
                  rw [hcr] at hcd2
                  have e2 : y :: ys3 = ys2 := Option.some.inj hcd2
                  have hna : a ∉ Dl :: bs := fun z => by
                    rcases List.mem_cons.mp z with z | z
                    · rw [z, k2'] at ha; cases ha
                    · obtain ⟨zs, ez⟩ := own2_lst k3' a z
                      rw [ez] at ha; cases ha
                  have h1a : H1 a = none := ((g.trans g2).trans g3).hh.free ha
                  have naD : a ≠ Dl := fun z => hna (by rw [z]; exact List.mem_cons_self)
                  have nbD : ∀ b ∈ bs, b ≠ Dl := fun b hb z => by
                    rw [z] at hb
                    exact (List.nodup_cons.mp nd).1 hb
                  have o1 : Own2 K F4 (L2.upd H4 Dl (.lst (bs.map V.ref ++ [V.ref a]))) ys1 bs := k3.mono (Same.refl _) fun b hb => upd_ne (nbD b hb)
                  refine ⟨bs.map V.ref, k2, big_lt (by rw [List.length_map, ← own2_length k3]; omega), F4, bs ++ [a], ys1 ++ [y], ys3, (((g.trans g2).trans g3).trans g4).upd hD (k1 Dl List.mem_cons_self).2, ?_, fun x hx' => ?_, ?_, own2_app o1 ⟨⟨xs, by rw [upd_ne naD]; exact hxs, sv⟩, True.intro⟩, hcr, ?_, ?_⟩
                  · have nd' := List.nodup_cons.mp nd
                    refine List.nodup_cons.mpr ⟨fun z => ?_, ?_⟩
                    · rcases List.mem_append.mp z with z | z
                      · exact nd'.1 z
                      · exact naD (List.mem_singleton.mp z).symm
                    · refine List.nodup_append.mpr ⟨nd'.2, by simp, fun x hx1 y hy e => ?_⟩
                      rw [List.mem_singleton.mp hy] at e
                      exact hna (List.mem_cons_of_mem _ (by rw [← e]; exact hx1))
                  · rcases List.mem_cons.mp hx' with z | z
                    · rw [z]; exact k1 Dl List.mem_cons_self
                    · rcases List.mem_append.mp z with z | z
                      · exact k1 x (List.mem_cons_of_mem _ z)
                      · rw [List.mem_singleton.mp z]; exact ⟨h1a, ha'⟩
                  · rw [upd_same, List.map_append]
                    rfl
                  · rw [ey, ← e2, List.append_assoc]
                    rfl
                  · rw [List.length_append]
                    show ys1.length + 1 ≤ i + 1
                    omega
    · have ei : i = ds.length := by omega
      subst ei
      refine .inl ⟨wk.stop H' F' g.ff g.fh, ?_⟩
      rw [List.drop_length] at hcd
      have e2 : [] = ys2 := Option.some.inj hcd
      rw [← e2, List.append_nil] at ey
      rw [ey] at p1
      exact p1 Dl bs H' F' g nd hx hH hs
/-- no test -/
def bYes : Ev → Res Bool := fun _ => .ok true
theorem PTs_imp {ifs : List Expr} {t t' : TT} (h : PTs X ifs t) (k : ∀ σ H Q, t' σ H Q → t σ H Q) : PTs X ifs t' := ⟨fun pins s σ H Q I q => h.run pins s σ H Q I (k _ _ _ q)⟩
abbrev DTs (X : Cx) (cl : Nat → Addr) (W : WX) (es : List Expr) (f : Ev → Res Bool) : Prop := PTs X es (tX X.K X.prog X.w SB cl W f)
theorem dts_nil : DTs X cl W [] bYes := PTs_imp pts_nil fun σ H Q q => by
  obtain ⟨H0, F0, ρ, F, A, R, p⟩ := q
  exact Post.now (S := SB) R.sub p rfl
theorem dts_one {f : Ev → Res Bool} (h : DT X cl W c f) : DTs X cl W [c] f := pts_one h
theorem dn_lc {elt iter : Expr} {ifs : List Expr} {scope : Scope} {own : List (Str × Nat)} {src : Ev → Res (List D)} {bnd : D → Ev → Option Ev} {js : List Nat} {t : Ev → Res Bool} {te : Ev → Res D} (hN : X.N.Nodup) (ok : BlkOk X.N X.env.scope scope own) (hi : DI X cl W tg iter src)
    (hg : ∀ (s : Shared) (H : Hp) (C : Addr) (cl : List (Str × Addr)) (fp : List Addr), DG (X.blk s H scope (compEnvC scope cl C X.env) fp) tg bnd js)
    (ht : ∀ (s : Shared) (H : Hp) (C : Addr) (cl' : List (Str × Addr)) (fp : List Addr), DTs (X.blk s H scope (compEnvC scope cl' C X.env) fp) cl W0 ifs t)
    (he : ∀ (s : Shared) (H : Hp) (C : Addr) (cl' : List (Str × Addr)) (fp : List Addr), DE (X.blk s H scope (compEnvC scope cl' C X.env) fp) cl W0 elt te)
    (hj : ∀ j ∈ js, j ∈ own.map (·.2)) (hc : X.calm = true := by rfl) (hs : ∀ x, foldedSetIterable iter X.env x = pure x := by intro _; rfl) :
    DN X cl W (.ListComp elt [⟨tg, iter, ifs, 0⟩] scope pos) (nComp src bnd t te (own.map (·.2))) := PE_imp (pe_lc hc hN hi ok hg ht he hs) (tx_lcN hj)
theorem dn2_lc {elt iter : Expr} {ifs : List Expr} {scope : Scope} {own : List (Str × Nat)} {src : Ev → Res (List D)} {bnd : D → Ev → Option Ev} {js : List Nat} {t : Ev → Res Bool} {te : Ev → Res (List D)} (hN : X.N.Nodup) (ok : BlkOk X.N X.env.scope scope own) (hi : DI X cl W tg iter src)
    (hg : ∀ (s : Shared) (H : Hp) (C : Addr) (cl : List (Str × Addr)) (fp : List Addr), DG (X.blk s H scope (compEnvC scope cl C X.env) fp) tg bnd js)
    (ht : ∀ (s : Shared) (H : Hp) (C : Addr) (cl' : List (Str × Addr)) (fp : List Addr), DTs (X.blk s H scope (compEnvC scope cl' C X.env) fp) cl W0 ifs t)
    (he : ∀ (s : Shared) (H : Hp) (C : Addr) (cl' : List (Str × Addr)) (fp : List Addr), DN (X.blk s H scope (compEnvC scope cl' C X.env) fp) cl W0 elt te)
    (hj : ∀ j ∈ js, j ∈ own.map (·.2)) (hc : X.calm = true := by rfl) (hs : ∀ x, foldedSetIterable iter X.env x = pure x := by intro _; rfl) :
    DN2 X cl W (.ListComp elt [⟨tg, iter, ifs, 0⟩] scope pos) (nComp2 src bnd t te (own.map (·.2))) := PE_imp (pe_lc hc hN hi ok hg ht he hs) (tx_lcN2 hj)
end
end Dn

set_option Elab.async false
set_option linter.all false
set_option maxRecDepth 100000
set_option maxHeartbeats 4000000
namespace Dn
open PySem PySem.Spec PyProof.Rows L2
variable [En]
/-! ### promises of defs -/
def WofE (E : XK) : WX := fun c d _ H => E c d H
def spX (K : PySem.W.Frag) (cl : Nat → Addr) (n : Nat) (o : List D → Res D) : Sp := fun vs H Q E => ∃ ds F, vs.length = n ∧ SeesL K F ds vs ∧ Same F H ∧ TOk H F ∧ Post (SD K) cl (WofE E) [] H F (o ds) Q
def spN (K : PySem.W.Frag) (cl : Nat → Addr) (n : Nat) (o : List D → Res (List D)) : Sp := fun vs H Q E => ∃ ds F, vs.length = n ∧ SeesL K F ds vs ∧ Same F H ∧ TOk H F ∧ PostO K cl (WofE E) [] H F (o ds) Q
def spN2 (K : PySem.W.Frag) (cl : Nat → Addr) (n : Nat) (o : List D → Res (List (List D))) : Sp := fun vs H Q E => ∃ ds F, vs.length = n ∧ SeesL K F ds vs ∧ Same F H ∧ TOk H F ∧ PostO2 K cl (WofE E) [] H F (o ds) Q
section
variable {X : Cx} {cl : Nat → Addr} {W : WX} {e tg a b c : Expr} {pos : Pos} {K : PySem.W.Frag} {P : Program} {w : World} {F F' H H' H0 F0 : Hp} {ρ ρ' : Ev} {σ : L2.St} {A : Nat → List Addr}
theorem Post.toE {α β : Type} {S : Hp → α → β → Prop} {r : Res α} {Q : β → Hp → Prop} (p : Post S cl W σ H F r Q) : Post S cl (WofE (WE W σ)) [] H F r Q := by
  cases r with
  | ok d => exact p
  | ex c => exact p
  | bad => exact p
theorem PostO.toE {r : Res (List D)} {Q : VK} (p : PostO K cl W σ H F r Q) : PostO K cl (WofE (WE W σ)) [] H F r Q := by
  cases r with
  | ok d => exact p
  | ex c => exact p
  | bad => exact p
theorem PostO2.toE {r : Res (List (List D))} {Q : VK} (p : PostO2 K cl W σ H F r Q) : PostO2 K cl (WofE (WE W σ)) [] H F r Q := by
  cases r with
  | ok d => exact p
  | ex c => exact p
  | bad => exact p
def sF {α : Type} (n : Nat) (o : List D → Res α) (f : Ev → Res (List D)) : Ev → Res α := fun ρ => (f ρ).bind fun ds => if ds.length = n then o ds else .bad
variable {k k' n : Nat} {x : Str} {f : Addr} {fd : FuncData} {ps : List Str} {p : Pos} {es : List Expr} {g : Ev → Res (List D)}
theorem de_fn {o : List D → Res D} (tk : Takes X W) (G : FnOk X.prog X.w X.K X.mg X.base (L2.CX X.prog X.w) k f fd ps (spX X.K cl n o)) (hr : Room k X.A) (hm : X.mg x = some (.ref f)) (hk : PySem.W.keepIn X.K (.ref f) = true) (hb : Binds X.K fd ps []) (ha : DA X cl W (e :: es) g)
    (hg : Gl X x := by rfl) (hdb : (x == ("__debug__" : Str)) = false := by decide) (he : starEach (e :: es) X.env = (false, eval e X.env) :: starEach es X.env := by rfl) (hpl : (backTo pos (starEach es X.env)).any (·.1) = false := by rfl) :
    DE X cl W (.Call (.Name x p) (e :: es) [] pos) (sF n o g) := PE_imp (pe_callS G hr hg hm hk hb (fun σ => passAt tk σ) ha hdb he hpl) fun σ H Q h => by
  obtain ⟨H0, F0, ρ, F, A, R, p⟩ := h
  refine ⟨H0, F0, ρ, F, A, R, (Post.bind (S := SL X.K) p).imp fun v H1 ⟨F1, x, _, g1, s1, p1⟩ => ?_⟩
  by_cases hl : x.length = n
  · rw [if_pos hl] at p1
    exact ⟨x, F1, by rw [← SeesL.length s1]; exact hl, s1, g1.fh, g1.tok R.tok, p1.toE⟩
  · rw [if_neg hl] at p1
    exact p1.elim
theorem dn_fn {o : List D → Res (List D)} (tk : Takes X W) (G : FnOk X.prog X.w X.K X.mg X.base (L2.CX X.prog X.w) k f fd ps (spN X.K cl n o)) (hr : Room k X.A) (hm : X.mg x = some (.ref f)) (hk : PySem.W.keepIn X.K (.ref f) = true) (hb : Binds X.K fd ps []) (ha : DA X cl W (e :: es) g)
    (hg : Gl X x := by rfl) (hdb : (x == ("__debug__" : Str)) = false := by decide) (he : starEach (e :: es) X.env = (false, eval e X.env) :: starEach es X.env := by rfl) (hpl : (backTo pos (starEach es X.env)).any (·.1) = false := by rfl) :
    DN X cl W (.Call (.Name x p) (e :: es) [] pos) (sF n o g) := PE_imp (pe_callS G hr hg hm hk hb (fun σ => passAt tk σ) ha hdb he hpl) fun σ H Q h => by
  obtain ⟨H0, F0, ρ, F, A, R, p⟩ := h
  refine ⟨H0, F0, ρ, F, A, R, (PostO.ofBind (S := SL X.K) p).imp fun v H1 ⟨F1, x, _, g1, s1, p1⟩ => ?_⟩
  by_cases hl : x.length = n
  · rw [if_pos hl] at p1
    exact ⟨x, F1, by rw [← SeesL.length s1]; exact hl, s1, g1.fh, g1.tok R.tok, p1.toE⟩
  · rw [if_neg hl] at p1
    exact p1.elim
theorem dn2_fn {o : List D → Res (List (List D))} (tk : Takes X W) (G : FnOk X.prog X.w X.K X.mg X.base (L2.CX X.prog X.w) k f fd ps (spN2 X.K cl n o)) (hr : Room k X.A) (hm : X.mg x = some (.ref f)) (hk : PySem.W.keepIn X.K (.ref f) = true) (hb : Binds X.K fd ps []) (ha : DA X cl W (e :: es) g)
    (hg : Gl X x := by rfl) (hdb : (x == ("__debug__" : Str)) = false := by decide) (he : starEach (e :: es) X.env = (false, eval e X.env) :: starEach es X.env := by rfl) (hpl : (backTo pos (starEach es X.env)).any (·.1) = false := by rfl) :
    DN2 X cl W (.Call (.Name x p) (e :: es) [] pos) (sF n o g) := PE_imp (pe_callS G hr hg hm hk hb (fun σ => passAt tk σ) ha hdb he hpl) fun σ H Q h => by
  obtain ⟨H0, F0, ρ, F, A, R, p⟩ := h
  refine ⟨H0, F0, ρ, F, A, R, (PostO2.ofBind (S := SL X.K) p).imp fun v H1 ⟨F1, x, _, g1, s1, p1⟩ => ?_⟩
  by_cases hl : x.length = n
  · rw [if_pos hl] at p1
    exact ⟨x, F1, by rw [← SeesL.length s1]; exact hl, s1, g1.fh, g1.tok R.tok, p1.toE⟩
  · rw [if_neg hl] at p1
    exact p1.elim

/-! ### statements -/
inductive Out where
  | nx (ρ : Ev)
  | rt (d : D)
  | rn (ds : List D)
  | rn2 (dss : List (List D))
  | rd (kvs : List (List Key × D))
  /-- a return, the frame still known -/
  | rs (d : D) (ρ : Ev)
  | bk (ρ : Ev)
  | ct (ρ : Ev)
  | ex (c : Nat) (ρ : Ev)
  | bad
def Fin (K : PySem.W.Frag) (P : Program) (w : World) (cl : Nat → Addr) (W : WX) (H0 F0 : Hp) (Dn : Ends) : Out → Prop
  | .nx ρ' => ∀ σ' H' F' A', Rep K P w H0 F0 ρ' σ' H' F' A' → Dn.nx σ' H'
  | .rt d => ∀ v H' F', Gr H0 F0 H' F' → Sees K F' d v → Dn.rt v H'
  | .rn ds => ∀ a xs H' F', Gr H0 F0 H' F' → H0 a = none → F' a = none → H' a = some (.lst xs) → SeesL K F' ds xs → Dn.rt (.ref a) H'
  | .rn2 dss => ∀ a bs H' F', Gr H0 F0 H' F' → (a :: bs).Nodup → (∀ x ∈ a :: bs, H0 x = none ∧ F' x = none) → H' a = some (.lst (bs.map V.ref)) → Own2 K F' H' dss bs → Dn.rt (.ref a) H'
  | .rd kvs => ∀ a kws H' F', Gr H0 F0 H' F' → H0 a = none → F' a = none → H' a = some (.dT kws) → SeesKV K F' kvs kws → Dn.rt (.ref a) H'
  | .rs d ρ' => ∀ v σ' H' F' A', Rep K P w H0 F0 ρ' σ' H' F' A' → Sees K F' d v → Dn.rt v H'
  | .bk ρ' => ∀ σ' H' F' A', Rep K P w H0 F0 ρ' σ' H' F' A' → Dn.bk σ' H'
  | .ct ρ' => ∀ σ' H' F' A', Rep K P w H0 F0 ρ' σ' H' F' A' → Dn.ct σ' H'
  | .ex c ρ' => ∀ σ' H' F' A', Rep K P w H0 F0 ρ' σ' H' F' A' → W (.ref (cl c)) none σ' H'
  | .bad => False
def tS (K : PySem.W.Frag) (P : Program) (w : World) (cl : Nat → Addr) (W : WX) (g : Ev → Out) : TS := fun Dn σ H => ∃ H0 F0 ρ F A, Rep K P w H0 F0 ρ σ H F A ∧ Fin K P w cl W H0 F0 Dn (g ρ)
abbrev DS (X : Cx) (cl : Nat → Addr) (W : WX) (st : Stmt) (g : Ev → Out) : Prop := PS X st (tS X.K X.prog X.w cl W g)
abbrev DSs (X : Cx) (cl : Nat → Addr) (W : WX) (st : List Stmt) (g : Ev → Out) : Prop := PSs X st (tS X.K X.prog X.w cl W g)
def gSeq (g h : Ev → Out) : Ev → Out := fun ρ => match g ρ with
  | .nx ρ' => h ρ'
  | o => o
def gNil : Ev → Out := fun ρ => .nx ρ
theorem dss_nil : DSs X cl W [] gNil := PSs_imp pss_nil fun D σ H q => by
  obtain ⟨H0, F0, ρ, F, A, R, p⟩ := q
  exact p _ _ _ _ R
theorem dss_cons {st : Stmt} {rest : List Stmt} {g h : Ev → Out} (h1 : DS X cl W st g) (h2 : DSs X cl W rest h) : DSs X cl W (st :: rest) (gSeq g h) := PSs_imp (pss_cons h1 h2) fun D σ H q => by
  obtain ⟨H0, F0, ρ, F, A, R, p⟩ := q
  refine ⟨H0, F0, ρ, F, A, R, ?_⟩
  unfold gSeq at p
  cases q : g ρ with
  | nx ρ' =>
    rw [q] at p
    exact fun σ' H' F' A' R' => ⟨H0, F0, ρ', F', A', R', p⟩
  | rt d => rw [q] at p; exact p
  | rn d => rw [q] at p; exact p
  | rn2 d => rw [q] at p; exact p
  | rd d => rw [q] at p; exact p
  | rs d _ => rw [q] at p; exact p
  | bk d => rw [q] at p; exact p
  | ct d => rw [q] at p; exact p
  | ex c d => rw [q] at p; exact p
  | bad => rw [q] at p; exact p
theorem dss_one {st : Stmt} {g : Ev → Out} (h1 : DS X cl W st g) : DSs X cl W [st] g := pss_one h1
/-- behind an expression -/
def thenO {α : Type} (r : Res α) (ρ : Ev) (k : α → Out) : Out := match r with
  | .ok a => k a
  | .ex c => .ex c ρ
  | .bad => .bad
theorem fin_ex {α β : Type} {S : Hp → α → β → Prop} {r : Res α} {k : α → Out} {Dn : Ends} {Q : β → Hp → Prop} (R : Rep K P w H0 F0 ρ σ H F A) (p : Fin K P w cl W H0 F0 Dn (thenO r ρ k)) (q : ∀ a v H1 F1, r = .ok a → Gr H F H1 F1 → S F1 a v → Fin K P w cl W H0 F0 Dn (k a) → Q v H1) : Post S cl W σ H F r Q := by
  cases r with
  | ok a => exact fun v H1 F1 g s => q a v H1 F1 rfl g s p
  | ex c => exact fun H' F' g => p σ H' F' A (R.grow g)
  | bad => exact p
theorem fin_exO {r : Res (List D)} {k : List D → Out} {Dn : Ends} {Q : VK} (R : Rep K P w H0 F0 ρ σ H F A) (p : Fin K P w cl W H0 F0 Dn (thenO r ρ k)) (q : ∀ ds a xs H1 F1, r = .ok ds → Gr H F H1 F1 → H a = none → F1 a = none → H1 a = some (.lst xs) → SeesL K F1 ds xs → Fin K P w cl W H0 F0 Dn (k ds) → Q (.ref a) H1) : PostO K cl W σ H F r Q := by
  cases r with
  | ok ds => exact fun a xs H1 F1 g h h' e s => q ds a xs H1 F1 rfl g h h' e s p
  | ex c => exact fun H' F' g => p σ H' F' A (R.grow g)
  | bad => exact p
theorem fin_exO2 {r : Res (List (List D))} {k : List (List D) → Out} {Dn : Ends} {Q : VK} (R : Rep K P w H0 F0 ρ σ H F A) (p : Fin K P w cl W H0 F0 Dn (thenO r ρ k)) (q : ∀ dss a bs H1 F1, r = .ok dss → Gr H F H1 F1 → (a :: bs).Nodup → (∀ x ∈ a :: bs, H x = none ∧ F1 x = none) → H1 a = some (.lst (bs.map V.ref)) → Own2 K F1 H1 dss bs → Fin K P w cl W H0 F0 Dn (k dss) → Q (.ref a) H1) : PostO2 K cl W σ H F r Q := by
  cases r with
  | ok ds => exact fun a xs H1 F1 g nd h e o => q ds a xs H1 F1 rfl g nd h e o p
  | ex c => exact fun H' F' g => p σ H' F' A (R.grow g)
  | bad => exact p
def gSet (i : Nat) (f : Ev → Res D) : Ev → Out := fun ρ => thenO (f ρ) ρ fun d => .nx (ρ.set i (.d d))
def gSetN (i : Nat) (f : Ev → Res (List D)) : Ev → Out := fun ρ => thenO (f ρ) ρ fun d => .nx (ρ.set i (.own d))
def gSetN2 (i : Nat) (f : Ev → Res (List (List D))) : Ev → Out := fun ρ => thenO (f ρ) ρ fun d => .nx (ρ.set i (.own2 d))
theorem ds_set {st : Stmt} {i : Nat} {t : TE} {f : Ev → Res D} (h : PS X st (tAsg t (gName i))) (k : ∀ σ H Q, tX X.K X.prog X.w (SD X.K) cl W f σ H Q → t σ H Q) : DS X cl W st (gSet i f) := PS_imp h fun D σ H q => by
  obtain ⟨H0, F0, ρ, F, A, R, p⟩ := q
  refine k _ _ _ ⟨H0, F0, ρ, F, A, R, fin_ex (S := SD X.K) R p fun d v H1 F1 _ g s q => ?_⟩
  exact q _ _ _ _ ((R.grow g).setD s)
/-- the owners of the slots are not a new object -/
theorem Rep.notA (R : Rep K P w H0 F0 ρ σ H F A) {a : Addr} (h : H a = none) : ∀ i, a ∉ A i := fun i z => (R.fr i a z).2.2.1 h
theorem Rep.setOwn {i : Nat} {ds : List D} {a : Addr} {xs : List V} (R : Rep K P w H0 F0 ρ σ H F A) (h0 : H0 a = none) (hn : ∀ j, a ∉ A j) (hf : F a = none) (e : H a = some (.lst xs)) (s : SeesL K F ds xs) : Rep K P w H0 F0 (ρ.set i (.own ds)) (σ.set i (some (.ref a))) H F (setA A i [a]) :=
  R.store ⟨a, xs, List.mem_cons_self, rfl, e, s⟩ (fun x hx => by
    rw [List.mem_singleton.mp hx]
    exact ⟨hf, h0, (by rw [e]; exact fun z => (by cases z)), (by rw [e]; exact fun z => z)⟩) fun j x hx hj => by
      rw [List.mem_singleton.mp hx] at hj
      exact absurd hj (hn j)
theorem ds_setN {st : Stmt} {i : Nat} {t : TE} {f : Ev → Res (List D)} (h : PS X st (tAsg t (gName i))) (k : ∀ σ H Q, tO X.K X.prog X.w cl W f σ H Q → t σ H Q) : DS X cl W st (gSetN i f) := PS_imp h fun D σ H q => by
  obtain ⟨H0, F0, ρ, F, A, R, p⟩ := q
  refine k _ _ _ ⟨H0, F0, ρ, F, A, R, fin_exO R p fun ds a xs H1 F1 _ g h h' e s q => ?_⟩
  exact q _ _ _ _ ((R.grow g).setOwn (R.base.hh.free h) (R.notA h) h' e s)
theorem ds_setN2 {st : Stmt} {i : Nat} {t : TE} {f : Ev → Res (List (List D))} (h : PS X st (tAsg t (gName i))) (k : ∀ σ H Q, tO2 X.K X.prog X.w cl W f σ H Q → t σ H Q) : DS X cl W st (gSetN2 i f) := PS_imp h fun D σ H q => by
  obtain ⟨H0, F0, ρ, F, A, R, p⟩ := q
  refine k _ _ _ ⟨H0, F0, ρ, F, A, R, fin_exO2 R p fun dss a bs H1 F1 _ g nd h e o q => ?_⟩
  refine q _ _ _ _ ((R.grow g).store (as := a :: bs) ⟨a, bs, List.mem_cons_self, fun b hb => List.mem_cons_of_mem _ hb, nd, rfl, e, o⟩ (fun x hx => ⟨(h x hx).2, R.base.hh.free (h x hx).1, ?_⟩) fun j x hx hj => absurd hj (R.notA (h x hx).1 j))
  rcases List.mem_cons.mp hx with z | z
  · rw [z, e]
    exact ⟨fun z => (by cases z), fun z => z⟩
  · obtain ⟨zs, ez⟩ := own2_lst o x z
    rw [ez]
    exact ⟨fun z => (by cases z), fun z => z⟩
/-- target = e, by a target's judgement -/
def gAsg (bnd : D → Ev → Option Ev) (f : Ev → Res D) : Ev → Out := fun ρ => thenO (f ρ) ρ fun d => match bnd d ρ with
  | some ρ' => .nx ρ'
  | none => .bad
theorem ds_asg {tg e : Expr} {f : Ev → Res D} {bnd : D → Ev → Option Ev} {js : List Nat} (he : DE X cl W e f) (hg : DG X tg bnd js) (hs : swapsWithSole [tg] e pos.line X.env = pure false := by rfl) (hw : swappedStores [tg] e X.env = pure none := by rfl)
    (h1 : (assignEach [tg] X.env).map (·.2) = [assign tg X.env] := by rfl) : DS X cl W (.Assign [tg] e pos) (gAsg bnd f) := PS_imp (ps_asg he hg hs hw h1) fun D σ H q => by
  obtain ⟨H0, F0, ρ, F, A, R, p⟩ := q
  refine ⟨H0, F0, ρ, F, A, R, fin_ex (S := SD X.K) R p fun d v H1 F1 _ g s q => ?_⟩
  cases hb : bnd d ρ with
  | none => rw [hb] at q; exact q.elim
  | some ρ1 =>
    rw [hb] at q
    exact ⟨H0, F0, ρ, F1, A, d, ρ1, R.grow g, s, hb, fun σ' A' R' _ => q _ _ _ _ R'⟩
def gDrop (f : Ev → Res D) : Ev → Out := fun ρ => thenO (f ρ) ρ fun _ => .nx ρ
theorem ds_expr {f : Ev → Res D} (he : DE X cl W e f) (hs : swapsWith e none pos.line X.env = pure false := by rfl) : DS X cl W (.Expr e pos) (gDrop f) := PS_imp (ps_expr he hs) fun D σ H q => by
  obtain ⟨H0, F0, ρ, F, A, R, p⟩ := q
  refine ⟨H0, F0, ρ, F, A, R, fin_ex (S := SD X.K) R p fun d v H1 F1 _ g s q => ?_⟩
  exact q _ _ _ _ (R.grow g)
def gIf (t : Ev → Res Bool) (g h : Ev → Out) : Ev → Out := fun ρ => thenO (t ρ) ρ fun b => if b = true then g ρ else h ρ
theorem ds_if {c : Expr} {s1 s2 : List Stmt} {t : Ev → Res Bool} {g h : Ev → Out} (hc : DT X cl W c t) (ha : DSs X cl W s1 g) (hb : DSs X cl W s2 h) : DS X cl W (.If c s1 s2 pos) (gIf t g h) := PS_imp (ps_if hc ha hb) fun D σ H q => by
  obtain ⟨H0, F0, ρ, F, A, R, p⟩ := q
  refine ⟨H0, F0, ρ, F, A, R, fin_ex (S := SB) R p fun d v H1 F1 _ gg s q => ?_⟩
  have e : d = v := s
  subst e
  cases d with
  | true => exact ⟨H0, F0, ρ, F1, A, R.grow gg, q⟩
  | false => exact ⟨H0, F0, ρ, F1, A, R.grow gg, q⟩
/-- return e, all that is the frame's own given up -/
def evF (f : Ev → Res D) : Ev → Res D := fun ρ => match f ρ with
  | .bad => f (frz ρ)
  | r => r
def gRet (f : Ev → Res D) : Ev → Out := fun ρ => thenO (evF f ρ) ρ fun d => .rt d
theorem ds_ret {f : Ev → Res D} (he : DE X cl W e f) : DS X cl W (.Return (some e) pos) (gRet f) := PS_imp (ps_ret he) fun D σ H q => by
  obtain ⟨H0, F0, ρ, F, A, R, p⟩ := q
  unfold gRet evF at p
  cases hf : f ρ with
  | ok d =>
    rw [hf] at p
    refine ⟨H0, F0, ρ, F, A, R, ?_⟩
    rw [hf]
    exact fun v H' F' g s => p v H' F' (R.base.trans g) s
  | ex c =>
    rw [hf] at p
    refine ⟨H0, F0, ρ, F, A, R, ?_⟩
    rw [hf]
    exact fun H' F' g => p σ H' F' A (R.grow g)
  | bad =>
    rw [hf] at p
    obtain ⟨Fp, e1, e2, g0, R2⟩ := R.frz
    refine ⟨H, Fp, frz ρ, Fp, _, R2, ?_⟩
    have p' : Fin X.K X.prog X.w cl W H0 F0 D (thenO (f (frz ρ)) ρ fun d => .rt d) := p
    cases hf2 : f (frz ρ) with
    | ok d =>
      rw [hf2] at p'
      exact fun v H' F' g s => p' v H' F' (g0.trans g) s
    | ex c =>
      rw [hf2] at p'
      exact fun H' F' g => p' σ H' _ A (R.grow (tupsOf_gr e1 e2 g))
    | bad => rw [hf2] at p'; exact p'
def gRetE : Ev → Out := fun _ => .rt .none
theorem ds_retE : DS X cl W (.Return none pos) gRetE := PS_imp ps_retN fun D σ H q => by
  obtain ⟨H0, F0, ρ, F, A, R, p⟩ := q
  exact p .non H F R.base rfl
def gRetN (f : Ev → Res (List D)) : Ev → Out := fun ρ => thenO (f ρ) ρ fun d => .rn d
theorem ds_retN {f : Ev → Res (List D)} (he : DN X cl W e f) : DS X cl W (.Return (some e) pos) (gRetN f) := PS_imp (ps_ret he) fun D σ H q => by
  obtain ⟨H0, F0, ρ, F, A, R, p⟩ := q
  exact ⟨H0, F0, ρ, F, A, R, fin_exO R p fun ds a xs H1 F1 _ g h h' e s q => q a xs H1 F1 (R.base.trans g) (R.base.hh.free h) h' e s⟩
def gRetN2 (f : Ev → Res (List (List D))) : Ev → Out := fun ρ => thenO (f ρ) ρ fun d => .rn2 d
theorem ds_retN2 {f : Ev → Res (List (List D))} (he : DN2 X cl W e f) : DS X cl W (.Return (some e) pos) (gRetN2 f) := PS_imp (ps_ret he) fun D σ H q => by
  obtain ⟨H0, F0, ρ, F, A, R, p⟩ := q
  exact ⟨H0, F0, ρ, F, A, R, fin_exO2 R p fun ds a xs H1 F1 _ g nd h e s q => q a xs H1 F1 (R.base.trans g) nd (fun x hx => ⟨R.base.hh.free (h x hx).1, (h x hx).2⟩) e s⟩
/-- return x, x a list of the frame's own -/
def gRetV (i : Nat) : Ev → Out := fun ρ => match ρ[i]? with
  | some (.own ds) => .rn ds
  | some (.own2 dss) => .rn2 dss
  | some (.dt kvs) => .rd kvs
  | some (.d d) => .rt d
  | _ => .bad
theorem ds_retV (i : Nat) {x : Str} {p : Pos} (h : PE X (.Name x p) (tVar i)) : DS X cl W (.Return (some (.Name x p)) pos) (gRetV i) := PS_imp (ps_ret h) fun D σ H q => by
  obtain ⟨H0, F0, ρ, F, A, R, p⟩ := q
  unfold gRetV at p
  cases q : ρ[i]? with
  | none => rw [q] at p; exact p.elim
  | some c =>
    rw [q] at p
    have h := R.cel i c q
    have get : ∀ {v : V}, σ[i]?.join = some v → σ[i]? = some (some v) := fun {v} h1 => by
      cases r : σ[i]? with
      | none => rw [r] at h1; cases h1
      | some o => rw [r] at h1; rw [show o = some v from h1]
    cases c with
    | d x =>
      obtain ⟨v, h1, h2⟩ := h
      exact ⟨v, get h1, p v H F R.base h2⟩
    | own ds =>
      obtain ⟨a, xs, h1, h2, h3, h4⟩ := h
      obtain ⟨f1, f2, _⟩ := R.fr i a h1
      exact ⟨.ref a, get h2, p a xs H F R.base f2 f1 h3 h4⟩
    | dt kvs =>
      obtain ⟨a, kws, h1, h2, h3, h4⟩ := h
      obtain ⟨f1, f2, _⟩ := R.fr i a h1
      exact ⟨.ref a, get h2, p a kws H F R.base f2 f1 h3 h4⟩
    | own2 dss =>
      obtain ⟨a, bs, h1, h2, h3, h4, h5, h6⟩ := h
      refine ⟨.ref a, get h4, p a bs H F R.base h3 (fun x hx => ?_) h5 h6⟩
      have hx' : x ∈ A i := by
        rcases List.mem_cons.mp hx with z | z
        · rw [z]; exact h1
        · exact h2 x z
      obtain ⟨f1, f2, _⟩ := R.fr i x hx'
      exact ⟨f2, f1⟩
    | _ => exact p.elim

/-! ### own lists that change -/
theorem Rep.get {i : Nat} {v : V} (R : Rep K P w H0 F0 ρ σ H F A) (h1 : σ[i]?.join = some v) : σ[i]? = some (some v) := by
  cases r : σ[i]? with
  | none => rw [r] at h1; cases h1
  | some o => rw [r] at h1; rw [show o = some v from h1]
/-- an own object changes, its slot told anew (c'), the slot's addresses the same -/
theorem Rep.change {i : Nat} {c' : C} {p : Addr} {o : HO} (R : Rep K P w H0 F0 ρ σ H F A) (hp : p ∈ A i) (ho : ¬ isTT (some o)) (hc : CR K P w F (L2.upd H p o) (A i) c' (σ[i]?.join)) : Rep K P w H0 F0 (ρ.set i c') σ (L2.upd H p o) F A := by
  obtain ⟨f1, f2, f3, f4⟩ := R.fr i p hp
  refine ⟨⟨R.base.ff, R.base.hh.upd f2, fun a u q => by rw [upd_ne (ne_of_none q f1)]; exact R.sub _ _ q, R.base.nw⟩, by rw [List.length_set]; exact R.len, fun j c hj => ?_, fun j x hx => ?_, R.dj, R.tk⟩
  · by_cases e : j = i
    · subst e
      have hl : j < ρ.length := by
        have := (List.getElem?_eq_some_iff.mp hj).1
        rwa [List.length_set] at this
      rw [List.getElem?_set_self hl] at hj
      have e1 := Option.some.inj hj
      subst e1
      exact hc
    · rw [List.getElem?_set_ne (fun z => e z.symm)] at hj
      refine (R.cel j c hj).mono (Same.refl _) fun a ha => upd_ne fun z => ?_
      rw [z] at ha
      exact e (R.dj j i p ha hp)
  · obtain ⟨g1, g2, g3, g4⟩ := R.fr j x hx
    by_cases e : x = p
    · subst e
      refine ⟨g1, g2, by rw [upd_same]; exact fun z => (by cases z), by rw [upd_same]; exact ho⟩
    · exact ⟨g1, g2, by rw [upd_ne e]; exact g3, by rw [upd_ne e]; exact g4⟩
def gApp (i : Nat) (f : Ev → Res D) : Ev → Out := fun ρ => thenO (f ρ) ρ fun d => match ρ[i]? with
  | some (.own ds) => if ds.length < big then .nx (ρ.set i (.own (ds ++ [d]))) else .bad
  | _ => .bad
def hasOwn (ρ : Ev) (i : Nat) : Bool := match ρ[i]? with
  | some (.own _) => true
  | _ => false
def gOwn (i : Nat) (g : Ev → Out) : Ev → Out := fun ρ => if hasOwn ρ i = true then g ρ else .bad
theorem ds_app (i : Nat) {f : Ev → Res D} {o : Expr} {apos cpos : Pos} (ho : PE X o (tVar i)) (he : DE X cl W e f) (h : PE X (.Call (.Attribute o "append" apos) [e] [] cpos) (tBM X.K "list" rAppend (tVar i) (tCons (tX X.K X.prog X.w (SD X.K) cl W f) tNil)))
    (hs : swapsWith (.Call (.Attribute o "append" apos) [e] [] cpos) none pos.line X.env = pure false := by rfl) : DS X cl W (.Expr (.Call (.Attribute o "append" apos) [e] [] cpos) pos) (gOwn i (gApp i f)) := PS_imp (ps_expr h hs) fun D σ H q => by
  obtain ⟨H0, F0, ρ, F, A, R, p⟩ := q
  unfold gOwn at p
  by_cases hw : hasOwn ρ i = true
  case neg => rw [if_neg hw] at p; exact p.elim
  rw [if_pos hw] at p
  unfold hasOwn at hw
  cases q : ρ[i]? with
  | none => rw [q] at hw; cases hw
  | some c =>
    cases c with
    | own ds =>
      obtain ⟨a, xs, h1, h2, h3, h4⟩ := R.cel i _ q
      refine ⟨.ref a, R.get h2, .inl ⟨rfl, xs, SqL.of h3⟩, H0, F0, ρ, F, A, R, fin_ex (S := SD X.K) R p fun d v H1 F1 _ g s q' => ?_⟩
      rw [q] at q'
      have q2 : Fin X.K X.prog X.w cl W H0 F0 D (if ds.length < big then .nx (ρ.set i (.own (ds ++ [d]))) else .bad) := q'
      by_cases hl : ds.length < big
      · rw [if_pos hl] at q2
        have R1 := R.grow g
        have e1 : H1 a = some (.lst xs) := g.hh.get h3
        refine ⟨a, xs, v, rfl, rfl, e1, big_lt (by rw [← h4.length]; exact hl), q2 _ _ _ _ (R1.change (c' := .own (ds ++ [d])) h1 (fun z => z) ⟨a, xs ++ [v], h1, h2, upd_same, (h4.mono g.ff).app (SeesL.one s)⟩)⟩
      · rw [if_neg hl] at q2
        exact q2.elim
    | _ => rw [q] at hw; cases hw
def gExt (i : Nat) (f : Ev → Res D) : Ev → Out := fun ρ => thenO (f ρ) ρ fun d => match ρ[i]?, d with
  | some (.own ds), .list es => if ds.length + es.length ≤ big then .nx (ρ.set i (.own (ds ++ es))) else .bad
  | _, _ => .bad
theorem ds_ext (i : Nat) {f : Ev → Res D} {o : Expr} {apos cpos : Pos} (ho : PE X o (tVar i)) (he : DE X cl W e f) (h : PE X (.Call (.Attribute o "extend" apos) [e] [] cpos) (tBM X.K "list" rExtend (tVar i) (tCons (tX X.K X.prog X.w (SD X.K) cl W f) tNil)))
    (hs : swapsWith (.Call (.Attribute o "extend" apos) [e] [] cpos) none pos.line X.env = pure false := by rfl) : DS X cl W (.Expr (.Call (.Attribute o "extend" apos) [e] [] cpos) pos) (gOwn i (gExt i f)) := PS_imp (ps_expr h hs) fun D σ H q => by
  obtain ⟨H0, F0, ρ, F, A, R, p⟩ := q
  unfold gOwn at p
  by_cases hw : hasOwn ρ i = true
  case neg => rw [if_neg hw] at p; exact p.elim
  rw [if_pos hw] at p
  unfold hasOwn at hw
  cases q : ρ[i]? with
  | none => rw [q] at hw; cases hw
  | some c =>
    cases c with
    | own ds =>
      obtain ⟨a, xs, h1, h2, h3, h4⟩ := R.cel i _ q
      refine ⟨.ref a, R.get h2, .inl ⟨rfl, xs, SqL.of h3⟩, H0, F0, ρ, F, A, R, fin_ex (S := SD X.K) R p fun d v H1 F1 _ g s q' => ?_⟩
      rw [q] at q'
      cases d with
      | list es =>
        obtain ⟨b, ys, rfl, hb, hs⟩ := s
        have q2 : Fin X.K X.prog X.w cl W H0 F0 D (if ds.length + es.length ≤ big then .nx (ρ.set i (.own (ds ++ es))) else .bad) := q'
        by_cases hl : ds.length + es.length ≤ big
        · rw [if_pos hl] at q2
          have R1 := R.grow g
          have e1 : H1 a = some (.lst xs) := g.hh.get h3
          refine ⟨a, b, xs, ys, rfl, rfl, e1, g.fh _ _ hb, big_le (by rw [← h4.length, ← hs.length]; exact hl), q2 _ _ _ _ (R1.change (c' := .own (ds ++ es)) h1 (fun z => z) ⟨a, xs ++ ys, h1, h2, upd_same, (h4.mono g.ff).app hs⟩)⟩
        · rw [if_neg hl] at q2
          exact q2.elim
      | _ => exact q'.elim
    | _ => rw [q] at hw; cases hw

/-! ### for -/
def forO (bnd : D → Ev → Option Ev) (g : Ev → Out) : List D → Ev → Out
  | [], ρ => .nx ρ
  | d :: ds, ρ => match bnd d ρ with
    | none => .bad
    | some ρ1 => match g ρ1 with
      | .nx ρ2 => forO bnd g ds ρ2
      | .ct ρ2 => forO bnd g ds ρ2
      | .bk ρ2 => .nx ρ2
      | o => o
def gFor (src : Ev → Res (List D)) (bnd : D → Ev → Option Ev) (g : Ev → Out) : Ev → Out := fun ρ => thenO (src ρ) ρ fun ds => forO bnd g ds ρ
/-- the base taken anew -/
def mrg (H0 F : Hp) : Hp := fun x => match F x with
  | some o => some o
  | none => H0 x
theorem mrg_none {x : Addr} (h : H0 x = none) (h' : F x = none) : mrg H0 F x = none := by
  unfold mrg
  rw [h']
  exact h
theorem Rep.rebase (R : Rep K P w H0 F0 ρ σ H F A) : Rep K P w (mrg H0 F) F ρ σ H F A ∧ Gr H0 F0 (mrg H0 F) F := by
  have m1 : ∀ {a : Addr} {o : HO}, F a = some o → mrg H0 F a = some o := fun {a o} q => by
    unfold mrg
    rw [q]
  have m2 : ∀ {a : Addr}, F a = none → mrg H0 F a = H0 a := fun {a} q => by
    unfold mrg
    rw [q]
  have e1 : SameT (mrg H0 F) H := fun a o q => by
    cases r : F a with
    | some u => rw [m1 r] at q; rw [← q]; exact .inl (R.sub _ _ r)
    | none =>
      rw [m2 r] at q
      rcases R.base.hh _ _ q with z | ⟨⟨ps, z1, z2⟩, z3⟩
      · exact .inl z
      · exact .inr ⟨⟨ps, by rw [m2 r]; exact z1, z2⟩, z3⟩
  have e2 : Same F (mrg H0 F) := fun a o q => m1 q
  refine ⟨⟨⟨Same.refl _, e1, R.sub, fun x q => .inl q⟩, R.len, R.cel, fun i x hx => ?_, R.dj, fun p hp => ?_⟩, ⟨R.base.ff, fun a o q => ?_, e2, R.base.nw⟩⟩
  · obtain ⟨f1, f2, f3, f4⟩ := R.fr i x hx
    exact ⟨f1, mrg_none f2 f1, f3, f4⟩
  · obtain ⟨h1, h2⟩ := (R.base.tok R.tk) p hp
    obtain ⟨ps, h3, h4⟩ := (R.tk p hp).2
    exact ⟨h1, ps, by rw [m2 h1]; exact h3, h4⟩
  · cases r : F a with
    | none => exact .inl (by rw [m2 r]; exact q)
    | some u =>
      rcases R.base.hh _ _ q with z | ⟨z1, ps, z2, z3⟩
      · rw [R.sub _ _ r] at z
        exact .inl (by rw [m1 r]; exact z)
      · rw [R.sub _ _ r] at z2
        exact .inr ⟨z1, ps, by rw [m1 r]; exact z2, z3⟩
theorem Rep.unbase {H0' F0' : Hp} (R : Rep K P w H0' F0' ρ σ H F A) (g : Gr H0 F0 H0' F0') (tk : TOk H0 F0) : Rep K P w H0 F0 ρ σ H F A := by
  refine ⟨g.trans R.base, R.len, R.cel, fun i x hx => ?_, R.dj, tk⟩
  obtain ⟨f1, f2, f3, f4⟩ := R.fr i x hx
  exact ⟨f1, g.hh.free f2, f3, f4⟩
theorem Fin.rebase {H0' F0' : Hp} {Dn : Ends} {o : Out} (g : Gr H0 F0 H0' F0') (tk : TOk H0 F0) (p : Fin K P w cl W H0 F0 Dn o) : Fin K P w cl W H0' F0' Dn o := by
  cases o with
  | nx ρ' => exact fun σ' H' F' A' R => p σ' H' F' A' (R.unbase g tk)
  | rt d => exact fun v H' F' g' s => p v H' F' (g.trans g') s
  | rn ds => exact fun a xs H' F' g' h h' e s => p a xs H' F' (g.trans g') (g.hh.free h) h' e s
  | rn2 dss => exact fun a bs H' F' g' nd h e o => p a bs H' F' (g.trans g') nd (fun x hx => ⟨g.hh.free (h x hx).1, (h x hx).2⟩) e o
  | rd kvs => exact fun a kws H' F' g' h h' e s => p a kws H' F' (g.trans g') (g.hh.free h) h' e s
  | rs d ρ' => exact fun v σ' H' F' A' R s => p v σ' H' F' A' (R.unbase g tk) s
  | bk ρ' => exact fun σ' H' F' A' R => p σ' H' F' A' (R.unbase g tk)
  | ct ρ' => exact fun σ' H' F' A' R => p σ' H' F' A' (R.unbase g tk)
  | ex c ρ' => exact fun σ' H' F' A' R => p σ' H' F' A' (R.unbase g tk)
  | bad => exact p
theorem ds_for {iter tg : Expr} {body : List Stmt} {src : Ev → Res (List D)} {bnd : D → Ev → Option Ev} {js : List Nat} {g : Ev → Out} (hp : PassesOwn (model X.prog X.w) X.A X.env X.xe) (hc : X.calm = true) (hi : DI X cl W tg iter src) (hg : DG X tg bnd js) (hb : DSs X cl W body g)
    (hs : ∀ x, foldedSetIterable iter X.env x = pure x := by intro _; rfl) : DS X cl W (.For tg iter body [] pos) (gFor src bnd g) := PS_imp (ps_for hp hc hi hg hb hs) fun D σ H q => by
  obtain ⟨H0, F0, ρ, F, A, R, p⟩ := q
  refine ⟨H0, F0, ρ, F, A, R, fin_ex (S := SW X.K) R p fun ds J H1 F1 _ g1 wk q => ?_⟩
  let Pv : Nat → L2.St → Hp → Prop := fun i σ' H' => ∃ ρ' F' A', Rep X.K X.prog X.w H0 F0 ρ' σ' H' F' A' ∧ Same F1 F' ∧ Fin X.K X.prog X.w cl W H0 F0 D (forO bnd g (ds.drop i) ρ')
  refine ⟨fun i m σ' H' => m = ds.length - i ∧ i ≤ ds.length ∧ Pv i σ' H', ⟨ds.length, by omega, Nat.zero_le _, ρ, F1, A, R.grow g1, Same.refl _, q⟩, fun i m σ' H' hw => ?_⟩
  obtain ⟨em, hi', ρ1, F', A1, R1, sf, fin⟩ := hw
  by_cases hlt : i < ds.length
  · refine .inr ⟨wk.go i H' F' sf R1.sub hlt, Pv (i + 1), fun σ2 H2 pw => ⟨ds.length - (i + 1), by omega, rfl, by omega, pw⟩, fun x H2 y => ?_⟩
    obtain ⟨F2, d, hd, g2, sx⟩ := wk.yld i H' F' x H2 sf R1.sub hlt y
    rw [drop_cons hd] at fin
    unfold forO at fin
    cases hbd : bnd d ρ1 with
    | none => rw [hbd] at fin; exact fin.elim
    | some ρ2 =>
      rw [hbd] at fin
      refine ⟨H0, F0, ρ1, F2, A1, d, ρ2, R1.grow g2, sx, hbd, fun σ3 A3 R3 _ => ?_⟩
      obtain ⟨Rb, gb⟩ := R3.rebase
      refine ⟨_, _, ρ2, F2, A3, Rb, ?_⟩
      dsimp only at fin
      cases hgo : g ρ2 with
      | nx ρ3 =>
        rw [hgo] at fin
        exact fun σ4 H4 F4 A4 R4 => ⟨ρ3, F4, A4, R4.unbase gb R1.tk, (sf.trans g2.ff).trans R4.base.ff, fin⟩
      | ct ρ3 =>
        rw [hgo] at fin
        exact fun σ4 H4 F4 A4 R4 => ⟨ρ3, F4, A4, R4.unbase gb R1.tk, (sf.trans g2.ff).trans R4.base.ff, fin⟩
      | bk ρ3 =>
        rw [hgo] at fin
        exact fun σ4 H4 F4 A4 R4 => fin σ4 H4 F4 A4 (R4.unbase gb R1.tk)
      | rt d => rw [hgo] at fin; exact Fin.rebase (o := .rt d) gb R1.tk fin
      | rn d => rw [hgo] at fin; exact Fin.rebase (o := .rn d) gb R1.tk fin
      | rn2 d => rw [hgo] at fin; exact Fin.rebase (o := .rn2 d) gb R1.tk fin
      | rd d => rw [hgo] at fin; exact Fin.rebase (o := .rd d) gb R1.tk fin
      | rs d r => rw [hgo] at fin; exact Fin.rebase (o := .rs d r) gb R1.tk fin
      | ex c d => rw [hgo] at fin; exact Fin.rebase (o := .ex c d) gb R1.tk fin
      | bad => rw [hgo] at fin; exact fin
  · have ei : i = ds.length := by omega
    subst ei
    rw [List.drop_length] at fin
    exact .inl ⟨wk.stop H' F' sf R1.sub, fin σ' H' F' A1 R1⟩
def gBrk : Ev → Out := fun ρ => .bk ρ
def gCnt : Ev → Out := fun ρ => .ct ρ
theorem ds_brk : DS X cl W (.Break pos) gBrk := PS_imp ps_break fun D σ H q => by
  obtain ⟨H0, F0, ρ, F, A, R, p⟩ := q
  exact p _ _ _ _ R
theorem ds_cnt : DS X cl W (.Continue pos) gCnt := PS_imp ps_continue fun D σ H q => by
  obtain ⟨H0, F0, ρ, F, A, R, p⟩ := q
  exact p _ _ _ _ R
/-- what the proof never comes to -/
def gBad : Ev → Out := fun _ => .bad
theorem ds_bad {st : Stmt} : DS X cl W st gBad := PS_imp ps_never fun D σ H q => by
  obtain ⟨H0, F0, ρ, F, A, R, p⟩ := q
  exact p.elim
def gEx (c : Nat) : Ev → Out := fun ρ => .ex c ρ
theorem ds_raise {c : Nat} {st : Stmt} (h : PS X st (fun _ σ H => W (.ref (cl c)) none σ H)) : DS X cl W st (gEx c) := PS_imp h fun D σ H q => by
  obtain ⟨H0, F0, ρ, F, A, R, p⟩ := q
  exact p _ _ _ _ R
end
/-! ### bodies -/
def rho0 (N : List Str) (ds : List D) : Ev := ds.map .d ++ List.replicate (N.length - ds.length) .no
def finD : Out → Res D
  | .nx _ => .ok .none
  | .rt d => .ok d
  | .rn ds => .ok (.list ds)
  | .rn2 dss => .ok (.list (dss.map .list))
  | .rd _ => .bad
  | .ex c _ => .ex c
  | _ => .bad
def finN : Out → Res (List D)
  | .rn ds => .ok ds
  | .ex c _ => .ex c
  | _ => .bad
def finN2 : Out → Res (List (List D))
  | .rn2 ds => .ok ds
  | .ex c _ => .ex c
  | _ => .bad
def opX (N : List Str) (g : Ev → Out) : List D → Res D := fun ds => finD (g (rho0 N ds))
def opN (N : List Str) (g : Ev → Out) : List D → Res (List D) := fun ds => finN (g (rho0 N ds))
def opN2 (N : List Str) (g : Ev → Out) : List D → Res (List (List D)) := fun ds => finN2 (g (rho0 N ds))
section
variable {K : PySem.W.Frag} {P : Program} {w : World} {cl : Nat → Addr} {F H : Hp}
theorem rep_start {N : List Str} {ds : List D} {vs : List V} (e : Same F H) (tk : TOk H F) (s : SeesL K F ds vs) : Rep K P w H F (rho0 N ds) (L2.start N vs) H F (fun _ => []) := by
  refine ⟨Gr.refl e, by unfold L2.start rho0; rw [List.length_append, List.length_append, List.length_map, List.length_map, List.length_replicate, List.length_replicate, s.length], fun i c hc => ?_, fun _ _ z => (nomatch z), fun _ _ _ z => (nomatch z), tk⟩
  unfold rho0 at hc
  unfold L2.start
  by_cases hi : i < ds.length
  · rw [List.getElem?_append_left (by rw [List.length_map]; exact hi), List.getElem?_map, List.getElem?_eq_getElem hi] at hc
    have e1 := Option.some.inj hc
    subst e1
    obtain ⟨v, hv, hs⟩ := s.get (List.getElem?_eq_getElem hi)
    refine ⟨v, ?_, hs⟩
    rw [List.getElem?_append_left (by rw [List.length_map, ← s.length]; exact hi), List.getElem?_map, hv]
    rfl
  · rw [List.getElem?_append_right (by rw [List.length_map]; omega), List.getElem?_replicate] at hc
    split at hc
    · have e1 := Option.some.inj hc
      subst e1
      trivial
    · cases hc
variable {P : Program} {w : World} {mg : Str → Option Value} {base : Heap} {x qual : Str} {st : Stmt} {f : Addr} {fd : FuncData} {N ps : List Str} {k : Nat} {g : Ev → Out}
/-- a def that may raise, by its body's judgement; its answer as data -/
theorem fnX {n : Nat} (Fn : Fun K x qual st f fd) (S : FnScope N ps (defScope st)) (hn : ps.length = n)
    (hb : ∀ (cdv : Value) (A : Around) (outer : List Env) (s : Shared) (H : Hp) (E : XK), Room k (A.deeper (envOfC qual (defScope st) s.heap.objs.size f cdv)) → DSs (cxOf (L2.CX P w) P w K mg base N qual (defScope st) f cdv A outer s H E) cl (WofE E) (defBody st) g) :
    FnOk P w K mg base (L2.CX P w) (k + 1) f fd ps (spX K cl n (opX N g)) := by
  refine Fn.okX S (fun vs H Q E h => ?_) fun cdv A outer s H vs Q E hr h => ⟨_, hb cdv A outer s H E hr, ?_⟩
  · obtain ⟨ds, F, h1, _⟩ := h
    rw [h1, hn]
  · obtain ⟨ds, F, h1, h2, h3, h4, p⟩ := h
    refine ⟨H, F, rho0 N ds, F, _, rep_start h3 h4 h2, ?_⟩
    unfold opX at p
    show Fin K P w cl (WofE E) H F _ (g (rho0 N ds))
    cases q : g (rho0 N ds) with
    | nx ρ' =>
      rw [q] at p
      exact fun σ' H' F' A' R => p .non H' F' R.base rfl
    | rt d => rw [q] at p; exact p
    | rn d =>
      rw [q] at p
      exact postO_of (r := .ok d) p
    | rn2 d =>
      rw [q] at p
      exact postO2_of (r := .ok d) p
    | rd _ => rw [q] at p; exact p.elim
    | rs _ _ => rw [q] at p; exact p.elim
    | ex c ρ' =>
      rw [q] at p
      exact fun σ' H' F' A' R => p H' F' R.base
    | bk _ => rw [q] at p; exact p.elim
    | ct _ => rw [q] at p; exact p.elim
    | bad => rw [q] at p; exact p.elim
theorem fnN {n : Nat} (Fn : Fun K x qual st f fd) (S : FnScope N ps (defScope st)) (hn : ps.length = n)
    (hb : ∀ (cdv : Value) (A : Around) (outer : List Env) (s : Shared) (H : Hp) (E : XK), Room k (A.deeper (envOfC qual (defScope st) s.heap.objs.size f cdv)) → DSs (cxOf (L2.CX P w) P w K mg base N qual (defScope st) f cdv A outer s H E) cl (WofE E) (defBody st) g) :
    FnOk P w K mg base (L2.CX P w) (k + 1) f fd ps (spN K cl n (opN N g)) := by
  refine Fn.okX S (fun vs H Q E h => ?_) fun cdv A outer s H vs Q E hr h => ⟨_, hb cdv A outer s H E hr, ?_⟩
  · obtain ⟨ds, F, h1, _⟩ := h
    rw [h1, hn]
  · obtain ⟨ds, F, h1, h2, h3, h4, p⟩ := h
    refine ⟨H, F, rho0 N ds, F, _, rep_start h3 h4 h2, ?_⟩
    unfold opN at p
    show Fin K P w cl (WofE E) H F _ (g (rho0 N ds))
    cases q : g (rho0 N ds) with
    | rn d => rw [q] at p; exact p
    | ex c ρ' =>
      rw [q] at p
      exact fun σ' H' F' A' R => p H' F' R.base
    | _ => rw [q] at p; exact p.elim
theorem fnN2 {n : Nat} (Fn : Fun K x qual st f fd) (S : FnScope N ps (defScope st)) (hn : ps.length = n)
    (hb : ∀ (cdv : Value) (A : Around) (outer : List Env) (s : Shared) (H : Hp) (E : XK), Room k (A.deeper (envOfC qual (defScope st) s.heap.objs.size f cdv)) → DSs (cxOf (L2.CX P w) P w K mg base N qual (defScope st) f cdv A outer s H E) cl (WofE E) (defBody st) g) :
    FnOk P w K mg base (L2.CX P w) (k + 1) f fd ps (spN2 K cl n (opN2 N g)) := by
  refine Fn.okX S (fun vs H Q E h => ?_) fun cdv A outer s H vs Q E hr h => ⟨_, hb cdv A outer s H E hr, ?_⟩
  · obtain ⟨ds, F, h1, _⟩ := h
    rw [h1, hn]
  · obtain ⟨ds, F, h1, h2, h3, h4, p⟩ := h
    refine ⟨H, F, rho0 N ds, F, _, rep_start h3 h4 h2, ?_⟩
    unfold opN2 at p
    show Fin K P w cl (WofE E) H F _ (g (rho0 N ds))
    cases q : g (rho0 N ds) with
    | rn2 d => rw [q] at p; exact p
    | ex c ρ' =>
      rw [q] at p
      exact fun σ' H' F' A' R => p H' F' R.base
    | _ => rw [q] at p; exact p.elim
end
end Dn

set_option Elab.async false
set_option linter.all false
set_option maxRecDepth 100000
set_option maxHeartbeats 4000000
namespace Dn
open PySem PySem.Spec PyProof.Rows L2
variable [En]
section
variable {X : Cx} {cl : Nat → Addr} {W : WX} {e tg a b c d : Expr} {pos : Pos} {K : PySem.W.Frag} {P : Program} {w : World} {F F' H H' H0 F0 : Hp} {ρ ρ' : Ev} {σ : L2.St} {A : Nat → List Addr}
/-! ### a op b op c op d, as a test -/
def tChain3 (r r' r'' : R2) (ta tb tc td : TE) : TT := fun σ H Q => ta σ H fun x H1 => tb σ H1 fun y H2 => r x y H2 fun z H3 => ∃ k, z = .bl k ∧
  (if k = true then tc σ H3 fun w H4 => r' y w H4 fun z' H5 => ∃ k', z' = .bl k' ∧ (if k' = true then td σ H5 fun u H6 => r'' w u H6 fun z2 H7 => ∃ k2, z2 = .bl k2 ∧ Q k2 H7 else Q false H5) else Q false H3)
theorem pt_chain3 {op op' op'' : CmpOp} {r r' r'' : R2} {ta tb tc td : TE} (ho : OpR X (compareOp op) r) (ho' : OpR X (compareOp op') r') (ho'' : OpR X (compareOp op'') r'') (ha : PE X a ta) (hb : PE X b tb) (hc : PE X c tc) (hd : PE X d td)
    (hm : lastMarks [op, op', op''] [b, c, d] = false := by with_unfolding_all rfl) : PT X (.Compare a [op, op', op''] [b, c, d] pos) (tChain3 r r' r'' ta tb tc td) := by
  refine ⟨fun pins s σ H Q I h => ?_⟩
  refine isTrue_chain (thn (ha.run pins s σ H _ I h) fun v s1 ⟨x, H1, I1, r1, q1⟩ => test_link (thn (hb.run pins s1 σ H1 _ I1 q1) fun u s2 ⟨y, H2, I2, r2, q2⟩ =>
    thn (ho pins s2 σ H2 x y v u _ I2 r1 r2 q2) fun d s3 ⟨z, H3, I3, r3, k, e, q3⟩ => ?_)) hm
  subst e
  cases r3
  refine wpAny_truthy_bool ?_
  cases k with
  | false => exact ite_ff ⟨H3, I3, q3⟩
  | true =>
    refine ite_tt (test_link (thn (hc.run pins s3 σ H3 _ I3 q3) fun w' s4 ⟨z', H4, I4, r4, q4⟩ => thn (ho' pins s4 σ H4 y z' u w' _ I4 r2 r4 q4) fun d' s5 ⟨z2, H5, I5, r5, k2, e2, q5⟩ => ?_))
    subst e2
    cases r5
    refine wpAny_truthy_bool ?_
    cases k2 with
    | false => exact ite_ff ⟨H5, I5, q5⟩
    | true =>
      refine ite_tt (test_last (thn (hd.run pins s5 σ H5 _ I5 q5) fun w2 s6 ⟨u2, H6, I6, r6, q6⟩ => thn (ho'' pins s6 σ H6 z' u2 w' w2 _ I6 r4 r6 q6) fun d2 s7 ⟨z3, H7, I7, r7, k3, e3, q7⟩ => ?_))
      subst e3
      cases r7
      exact wpAny_truthy_bool ⟨H7, I7, q7⟩
def sCh3 (o o' o'' : D → D → Res D) (f g h l : Ev → Res D) : Ev → Res Bool := fun ρ => (f ρ).bind fun x => (g ρ).bind fun y => (o x y).bind fun z => (asB z).bind fun k => if k = true then (h ρ).bind fun w => (o' y w).bind fun z' => (asB z').bind fun k' => if k' = true then (l ρ).bind fun u => (o'' w u).bind asB else .ok false else .ok false
theorem dt_chain3 {op op' op'' : CmpOp} {r r' r'' : R2} {o o' o'' : D → D → Res D} {f g h l : Ev → Res D} (ho : OpR X (compareOp op) r) (ho' : OpR X (compareOp op') r') (ho'' : OpR X (compareOp op'') r'') (od : OpD X.K r o) (od' : OpD X.K r' o') (od'' : OpD X.K r'' o'') (ha : DE X cl W a f) (hb : DE X cl W b g) (hc : DE X cl W c h) (hd : DE X cl W d l)
    (hm : lastMarks [op, op', op''] [b, c, d] = false := by with_unfolding_all rfl) : DT X cl W (.Compare a [op, op', op''] [b, c, d] pos) (sCh3 o o' o'' f g h l) := PT_imp (pt_chain3 ho ho' ho'' ha hb hc hd hm) fun σ H Q q => by
  obtain ⟨H0, F0, ρ, F, A, R, p⟩ := q
  refine ⟨H0, F0, ρ, F, A, R, (Post.bind (S := SD X.K) p).imp fun v H1 ⟨F1, x, _, g1, s1, p1⟩ => ?_⟩
  refine ⟨H0, F0, ρ, F1, A, R.grow g1, (Post.bind (S := SD X.K) p1).imp fun u H2 ⟨F2, y, _, g2, s2, p2⟩ => ?_⟩
  refine od cl W σ x y v u H2 F2 _ g2.fh (s1.mono g2.ff) s2 ((Post.bind (S := SD X.K) p2).imp fun z H3 ⟨F3, zd, _, g3, s3, p3⟩ => ?_)
  cases zd with
  | bool k =>
    refine ⟨k, s3, ?_⟩
    cases k with
    | false => exact Post.now (S := SB) g3.fh p3 rfl
    | true =>
      have p3' : Post SB cl W σ H3 F3 ((h ρ).bind fun w => (o' y w).bind fun z' => (asB z').bind fun k' => if k' = true then (l ρ).bind fun u => (o'' w u).bind asB else .ok false) Q := p3
      refine ⟨H0, F0, ρ, F3, A, (R.grow g1).grow (g2.trans g3), (Post.bind (S := SD X.K) p3').imp fun w H4 ⟨F4, wd, _, g4, s4, p4⟩ => ?_⟩
      refine od' cl W σ y wd u w H4 F4 _ g4.fh ((s2.mono g3.ff).mono g4.ff) s4 ((Post.bind (S := SD X.K) p4).imp fun z' H5 ⟨F5, zd', _, g5, s5, p5⟩ => ?_)
      cases zd' with
      | bool k' =>
        refine ⟨k', s5, ?_⟩
        cases k' with
        | false => exact Post.now (S := SB) g5.fh p5 rfl
        | true =>
          have p5' : Post SB cl W σ H5 F5 ((l ρ).bind fun u => (o'' wd u).bind asB) Q := p5
          refine ⟨H0, F0, ρ, F5, A, ((R.grow g1).grow (g2.trans g3)).grow (g4.trans g5), (Post.bind (S := SD X.K) p5').imp fun t H6 ⟨F6, td, _, g6, s6, p6⟩ => ?_⟩
          refine od'' cl W σ wd td w t H6 F6 _ g6.fh ((s4.mono g5.ff).mono g6.ff) s6 ((Post.bind (S := SD X.K) p6).imp fun z2 H7 ⟨F7, zd2, _, g7, s7, p7⟩ => ?_)
          cases zd2 with
          | bool k2 => exact ⟨k2, s7, Post.now (S := SB) g7.fh p7 rfl⟩
          | _ => exact p7.elim
      | _ => exact p5.elim
  | _ => exact p3.elim

/-! ### list.count of data -/
def rCntD (K : PySem.W.Frag) : V → List V → Hp → VK → Prop := fun x xs H Q => ∃ (a : Addr) (y : V) (d : PyData) (ds : List PyData), x = V.ref a ∧ xs = [y] ∧ Dp K H (V.ref a) (.list ds) ∧ Dp K H y d ∧
  SeqAt.shaped (.list ds) = true ∧ SeqAt.shaped d = true ∧ Q (.int ((ds.countP fun z => PyData.eqv z d : Nat) : Int)) H
theorem mt_countD (hu : X.A.units + 65 < cLine) : MtR X "list.count" (rCntD X.K) := by
  intro pins s σ H x xs v us Q I rx rxs h
  obtain ⟨a, y, d, ds, rfl, rfl, hl, hy, sl, sd, q⟩ := h
  cases rx
  cases rxs with
  | cons ry rt =>
    rename_i uy ut
    cases rt
    obtain ⟨bs, r1⟩ := Dp.reads I d y uy hy ry
    have hxs : PyData.canLayAll0 ds = true := SeqAt.canLay_of_shaped sl
    have hroom : X.A.units + 1 + min (PyData.depthAll ds) d.depth < cLine := room_in_shaped sd hu
    cases hl with
    | lst hs ha =>
      obtain ⟨its, rv, ⟨⟨cls, dd, data, sls⟩, n, ho, hc, hdn, hdt⟩, hlen⟩ := I.list hs
      simp only at hc hdt
      subst hc hdt
      obtain ⟨as, h4⟩ := Dp.readsAll I ds _ its ha rv
      have hmap : its.map (SeqAt.readOf s.heap) = ds := SeqAt.readsAll_map ds its as hxs h4
      refine call_meets PySem.F.slot_list_count ⟨_, ho, rfl⟩ PySem.F.entry_list_count (PySem.F.args_list_count_2 _ _)
        (SeqAt.list_countAt a its.toArray n dd sls uy (fun u => PyData.eqv (SeqAt.readOf s.heap u) d)) ⟨ho, SeqAt.items_eqAt (vs := its.toArray) (show ReadsAll s.heap its.toArray.toList ds as from h4) r1 hxs (SeqAt.canLay_of_shaped sd) hroom, ?_⟩
      have ec : its.toArray.toList.countP (fun u => PyData.eqv (SeqAt.readOf s.heap u) d) = ds.countP fun z => PyData.eqv z d := by
        rw [← hmap, List.countP_map]
        rfl
      refine ⟨.int ((ds.countP fun z => PyData.eqv z d : Nat) : Int), H, I.tok _, ⟨s.toks, ?_⟩, q⟩
      show Value.int ((its.toArray.toList.countP (fun u => PyData.eqv (SeqAt.readOf s.heap u) d) : Nat) : Int) s.toks = Value.int ((ds.countP fun z => PyData.eqv z d : Nat) : Int) s.toks
      rw [ec]
def sCnt (f g : Ev → Res D) : Ev → Res D := fun ρ => (f ρ).bind fun x => match x with
  | .list ds => (g ρ).bind fun d => if (plain (.list ds) && plain d && SeqAt.shaped (.list ds) && SeqAt.shaped d) = true then .ok (.int ((ds.countP fun z => PyData.eqv z d : Nat) : Int)) else .bad
  | _ => .bad
theorem de_cnt {o : Expr} {apos : Pos} {f g : Ev → Res D} (hu : X.A.units + 65 < cLine) (ho : DE X cl W o f) (he : DE X cl W e g) (hbase : attributeBase o "count" X.env (eval o X.env) = eval o X.env := by rfl)
    (hfew : ((backTo pos (starEach [e] X.env)).all (fun x => !x.1) && (backToKw pos (keywordEach [] X.env)).all (fun x => x.1.isSome)
      && decide (([e] : List Expr).length + ([] : List Keyword).length + (if ([] : List Keyword).isEmpty then 0 else 1) < 30)) = true := by rfl)
    (hline : (apos.endLine == pos.line) = true := by rfl) (hs : starEach [e] X.env = (false, eval e X.env) :: starEach [] X.env := by rfl) (hpl : (backTo pos (starEach [] X.env)).any (·.1) = false := by rfl) : DE X cl W (.Call (.Attribute o "count" apos) [e] [] pos) (sCnt f g) :=
  PE_imp (pe_bm PySem.F.plainAttrs_list PySem.F.slot_list_count PySem.F.type_list_count (mt_countD hu) ho (pa_cons he pa_nil hs) hbase hfew hline hs hpl) fun σ H Q q => by
  obtain ⟨H0, F0, ρ, F, A, R, p⟩ := q
  refine ⟨H0, F0, ρ, F, A, R, (Post.bind (S := SD X.K) p).imp fun v H1 ⟨F1, x, _, g1, s1, p1⟩ => ?_⟩
  cases x with
  | list ds =>
    obtain ⟨a, xs, rfl, ha, hs⟩ := id s1
    refine ⟨.inl ⟨rfl, xs, SqL.of (g1.fh _ _ ha)⟩, H0, F0, ρ, F1, A, R.grow g1, (Post.bind (S := SD X.K) p1).imp fun u H2 ⟨F2, d, _, g2, s2, p2⟩ => ?_⟩
    by_cases h : (plain (.list ds) && plain d && SeqAt.shaped (.list ds) && SeqAt.shaped d) = true
    · rw [if_pos h] at p2
      rw [Bool.and_eq_true, Bool.and_eq_true, Bool.and_eq_true] at h
      exact ⟨a, u, d, ds, rfl, rfl, Sees.dp g2.fh _ _ h.1.1.1 (s1.mono g2.ff), Sees.dp g2.fh _ _ h.1.1.2 s2, h.1.2, h.2, Post.now (S := SD X.K) g2.fh p2 rfl⟩
    · rw [if_neg h] at p2
      exact p2.elim
  | _ => exact p1.elim

/-! ### dicts of the frame's own -/
def keyO : D → Option Key
  | .int i => some (.inl i)
  | .str x => some (.inr x)
  | _ => none
def keysO : List D → Option (List Key)
  | [] => some []
  | d :: ds => match keyO d with
    | some k => (keysO ds).map (k :: ·)
    | none => none
def tkeyO : D → Option (List Key)
  | .tuple ds => keysO ds
  | _ => none
theorem keyO_sees {d : D} {v : V} {k : Key} (h : keyO d = some k) (s : Sees K F d v) : v = kV k := by
  cases d with
  | int i => rw [← Option.some.inj h, show v = V.int i from s]; rfl
  | str i => rw [← Option.some.inj h, show v = V.str i from s]; rfl
  | _ => cases h
theorem keysO_sees : ∀ {ds : List D} {vs : List V} {ks : List Key}, keysO ds = some ks → SeesL K F ds vs → vs = ks.map kV
  | [], [], ks, h, _ => by rw [← Option.some.inj h]; rfl
  | [], _ :: _, _, _, s => s.elim
  | _ :: _, [], _, _, s => s.elim
  | d :: ds, v :: vs, ks, h, s => by
    unfold keysO at h
    cases q : keyO d with
    | none => rw [q] at h; cases h
    | some k =>
      rw [q] at h
      cases q2 : keysO ds with
      | none => rw [q2] at h; cases h
      | some ks' =>
        rw [q2] at h
        rw [← Option.some.inj h, keyO_sees q s.1, keysO_sees q2 s.2]
        rfl
section
variable {κ : Type} [DecidableEq κ]
def valD (kvs : List (κ × D)) (k : κ) : Option D := (kvs.find? fun kv => decide (kv.1 = k)).map (·.2)
def putD (kvs : List (κ × D)) (k : κ) (v : D) : List (κ × D) :=
  if (kvs.any fun kv => decide (kv.1 = k)) = true then kvs.map (fun kv => if kv.1 = k then (kv.1, v) else kv) else kvs ++ [(k, v)]
def mergeD (kvs more : List (κ × D)) : List (κ × D) := more.foldl (fun acc kv => putD acc kv.1 kv.2) kvs
theorem seesKV_val (k : κ) : ∀ {kvs : List (κ × D)} {kws : List (κ × V)}, SeesKV K F kvs kws → (valD kvs k = none ∧ valV kws k = none) ∨ ∃ d v, valD kvs k = some d ∧ valV kws k = some v ∧ Sees K F d v
  | [], [], _ => .inl ⟨rfl, rfl⟩
  | [], _ :: _, h => h.elim
  | _ :: _, [], h => h.elim
  | p :: ps, q :: qs, h => by
    by_cases e : p.1 = k
    · refine .inr ⟨p.2, q.2, ?_, valV_pos (by rw [← h.1.1]; exact e), h.1.2⟩
      unfold valD
      rw [List.find?_cons, decide_eq_true e]
      rfl
    · have e2 : valD (p :: ps) k = valD ps k := by
        unfold valD
        rw [List.find?_cons, decide_eq_false e]
      rw [e2, valV_neg (by rw [← h.1.1]; exact e)]
      exact seesKV_val k h.2
theorem seesKV_any (k : κ) : ∀ {kvs : List (κ × D)} {kws : List (κ × V)}, SeesKV K F kvs kws → (kvs.any fun kv => decide (kv.1 = k)) = kws.any fun kv => decide (kv.1 = k)
  | [], [], _ => rfl
  | [], _ :: _, h => h.elim
  | _ :: _, [], h => h.elim
  | p :: ps, q :: qs, h => by rw [List.any_cons, List.any_cons, seesKV_any k h.2, h.1.1]
theorem seesKV_length : ∀ {kvs : List (κ × D)} {kws : List (κ × V)}, SeesKV K F kvs kws → kvs.length = kws.length
  | [], [], _ => rfl
  | [], _ :: _, h => h.elim
  | _ :: _, [], h => h.elim
  | p :: ps, q :: qs, h => by rw [List.length_cons, List.length_cons, seesKV_length h.2]
theorem seesKV_map {k : κ} {d : D} {v : V} (s : Sees K F d v) : ∀ {kvs : List (κ × D)} {kws : List (κ × V)}, SeesKV K F kvs kws → SeesKV K F (kvs.map fun kv => if kv.1 = k then (kv.1, d) else kv) (kws.map fun kv => if kv.1 = k then (kv.1, v) else kv)
  | [], [], _ => True.intro
  | [], _ :: _, h => h.elim
  | _ :: _, [], h => h.elim
  | p :: ps, q :: qs, h => by
    refine ⟨?_, seesKV_map s h.2⟩
    dsimp only
    by_cases e : p.1 = k
    · rw [if_pos e, if_pos (by rw [← h.1.1]; exact e)]
      exact ⟨h.1.1, s⟩
    · rw [if_neg e, if_neg (by rw [← h.1.1]; exact e)]
      exact h.1
theorem seesKV_app : ∀ {kvs ls : List (κ × D)} {kws ms : List (κ × V)}, SeesKV K F kvs kws → SeesKV K F ls ms → SeesKV K F (kvs ++ ls) (kws ++ ms)
  | [], _, [], _, _, h => h
  | [], _, _ :: _, _, h, _ => h.elim
  | _ :: _, _, [], _, h, _ => h.elim
  | p :: ps, _, q :: qs, _, h, h' => ⟨h.1, seesKV_app h.2 h'⟩
theorem seesKV_put {k : κ} {d : D} {v : V} (s : Sees K F d v) {kvs : List (κ × D)} {kws : List (κ × V)} (h : SeesKV K F kvs kws) : SeesKV K F (putD kvs k d) (putK kws k v) := by
  unfold putD putK
  rw [seesKV_any k h]
  by_cases e : (kws.any fun kv => decide (kv.1 = k)) = true
  · rw [if_pos e, if_pos e]
    exact seesKV_map s h
  · rw [if_neg e, if_neg e]
    exact seesKV_app h ⟨⟨rfl, s⟩, True.intro⟩
end
theorem seesKV_merge : ∀ {more : List (Key × D)} {ms : List (Key × V)} {kvs : List (Key × D)} {kws : List (Key × V)}, SeesKV K F kvs kws → SeesKV K F more ms → SeesKV K F (mergeD kvs more) (mergeK kws ms)
  | [], [], _, _, h, _ => h
  | [], _ :: _, _, _, _, h => h.elim
  | _ :: _, [], _, _, _, h => h.elim
  | p :: ps, q :: qs, kvs, kws, h, h' => by
    show SeesKV K F (mergeD (putD kvs p.1 p.2) ps) (mergeK (putK kws q.1 q.2) qs)
    rw [← h'.1.1]
    exact seesKV_merge (seesKV_put h'.1.2 h) h'.2
/-- x = {} -/
def gNewK (i : Nat) : Ev → Out := fun ρ => .nx (ρ.set i (.dk []))
def gNewT (i : Nat) : Ev → Out := fun ρ => .nx (ρ.set i (.dt []))
theorem ds_newK {st : Stmt} {i : Nat} (h : PS X st (tAsg tDNewK (gName i))) : DS X cl W st (gNewK i) := PS_imp h fun D σ H q => by
  obtain ⟨H0, F0, ρ, F, A, R, p⟩ := q
  intro a ha
  refine p _ _ _ _ ((R.grow (Gr.out R.sub ha)).store (as := [a]) ⟨a, [], List.mem_cons_self, rfl, upd_same, True.intro⟩ (fun x hx => ?_) fun j x hx hj => ?_)
  · rw [List.mem_singleton.mp hx]
    exact ⟨R.sub.free ha, R.base.hh.free ha, (by rw [upd_same]; exact fun z => (by cases z)), by rw [upd_same]; exact fun z => z⟩
  · rw [List.mem_singleton.mp hx] at hj
    exact absurd hj (R.notA ha j)
theorem ds_newT {st : Stmt} {i : Nat} (h : PS X st (tAsg tDNewT (gName i))) : DS X cl W st (gNewT i) := PS_imp h fun D σ H q => by
  obtain ⟨H0, F0, ρ, F, A, R, p⟩ := q
  intro a ha
  refine p _ _ _ _ ((R.grow (Gr.out R.sub ha)).store (as := [a]) ⟨a, [], List.mem_cons_self, rfl, upd_same, True.intro⟩ (fun x hx => ?_) fun j x hx hj => ?_)
  · rw [List.mem_singleton.mp hx]
    exact ⟨R.sub.free ha, R.base.hh.free ha, (by rw [upd_same]; exact fun z => (by cases z)), by rw [upd_same]; exact fun z => z⟩
  · rw [List.mem_singleton.mp hx] at hj
    exact absurd hj (R.notA ha j)
/-- k in x -/
def sInD (i : Nat) (f : Ev → Res D) : Ev → Res D := fun ρ => (f ρ).bind fun d => match ρ[i]? with
  | some (.dk kvs) => (match keyO d with
    | some k => .ok (.bool (valD kvs k).isSome)
    | none => .bad)
  | some (.dt kvs) => (match tkeyO d with
    | some k => .ok (.bool (valD kvs k).isSome)
    | none => .bad)
  | _ => .bad
theorem tx_in {i : Nat} {f : Ev → Res D} : ∀ σ H Q, tX K P w (SD K) cl W (sInD i f) σ H Q → tDIn (tX K P w (SD K) cl W f) (tVar i) σ H Q := fun σ H Q q => by
  obtain ⟨H0, F0, ρ, F, A, R, p⟩ := q
  refine ⟨H0, F0, ρ, F, A, R, (Post.bind (S := SD K) p).imp fun v H1 ⟨F1, d, _, g1, s1, p1⟩ => ?_⟩
  have R1 := R.grow g1
  cases q : ρ[i]? with
  | none => rw [q] at p1; exact p1.elim
  | some c =>
    rw [q] at p1
    have h := R1.cel i c q
    cases c with
    | dk kvs =>
      obtain ⟨a, kws, h1, h2, h3, h4⟩ := h
      have p2 : Post (SD K) cl W σ H1 F1 (match keyO d with | some k => .ok (.bool (valD kvs k).isSome) | none => .bad) Q := p1
      cases hk : keyO d with
      | none => rw [hk] at p2; exact p2.elim
      | some k =>
        rw [hk] at p2
        refine ⟨.ref a, R.get h2, a, valV kws k, rfl, ?_, ?_⟩
        · rw [keyO_sees hk s1]
          exact DGet.k h3
        · refine Post.now (S := SD K) g1.fh p2 ?_
          rcases seesKV_val k h4 with ⟨e1, e2⟩ | ⟨d', v', e1, e2, _⟩
          · rw [e1, e2]; rfl
          · rw [e1, e2]; rfl
    | dt kvs =>
      obtain ⟨a, kws, h1, h2, h3, h4⟩ := h
      have p2 : Post (SD K) cl W σ H1 F1 (match tkeyO d with | some k => .ok (.bool (valD kvs k).isSome) | none => .bad) Q := p1
      cases hk : tkeyO d with
      | none => rw [hk] at p2; exact p2.elim
      | some k =>
        rw [hk] at p2
        cases d with
        | tuple ds =>
          obtain ⟨b, xs, rfl, hb, hs⟩ := s1
          refine ⟨.ref a, R.get h2, a, valV kws k, rfl, ?_, ?_⟩
          · refine DGet.t h3 ?_
            rw [← keysO_sees hk hs]
            exact g1.fh _ _ hb
          · refine Post.now (S := SD K) g1.fh p2 ?_
            rcases seesKV_val k h4 with ⟨e1, e2⟩ | ⟨d', v', e1, e2, _⟩
            · rw [e1, e2]; rfl
            · rw [e1, e2]; rfl
        | _ => cases hk
    | _ => exact p1.elim
theorem dt_inD {i : Nat} {f : Ev → Res D} {x : Expr} (hu : X.A.units + 1 < cLine) (ha : DE X cl W a f) (hx : PE X x (tVar i)) (h1 : behindInMarks .In x = false := by rfl) : DT X cl W (.Compare a [.In] [x] pos) (sT (sInD i f)) :=
  PT_imp (pt_cmp (pc_din hu ha hx) h1) fun σ H Q q => tTest_imp tx_in σ H Q (tx_test σ H Q q)
/-- x[k] = e -/
def gPut (i : Nat) (f g : Ev → Res D) : Ev → Out := fun ρ => thenO (g ρ) ρ fun d => thenO (f ρ) ρ fun kd => match ρ[i]? with
  | some (.dk kvs) => (match keyO kd with
    | some k => if kvs.length < big then .nx (ρ.set i (.dk (putD kvs k d))) else .bad
    | none => .bad)
  | some (.dt kvs) => (match tkeyO kd with
    | some k => if kvs.length < big then .nx (ρ.set i (.dt (putD kvs k d))) else .bad
    | none => .bad)
  | _ => .bad
def hasDict (ρ : Ev) (i : Nat) : Bool := match ρ[i]? with
  | some (.dk _) => true
  | some (.dt _) => true
  | _ => false
theorem hasDict_get (R : Rep K P w H0 F0 ρ σ H F A) {i : Nat} (h : hasDict ρ i = true) : ∃ a : Addr, σ[i]? = some (some (.ref a)) := by
  unfold hasDict at h
  cases q : ρ[i]? with
  | none => rw [q] at h; cases h
  | some c =>
    rw [q] at h
    cases c with
    | dk kvs =>
      obtain ⟨a, kws, h1, h2, h3, h4⟩ := R.cel i _ q
      exact ⟨a, R.get h2⟩
    | dt kvs =>
      obtain ⟨a, kws, h1, h2, h3, h4⟩ := R.cel i _ q
      exact ⟨a, R.get h2⟩
    | _ => cases h
theorem ds_put {st : Stmt} {i : Nat} {f g : Ev → Res D} (h : PS X st (sDPut (tVar i) (tX X.K X.prog X.w (SD X.K) cl W f) (tX X.K X.prog X.w (SD X.K) cl W g))) : DS X cl W st (fun ρ => if hasDict ρ i = true then gPut i f g ρ else .bad) := PS_imp h fun D σ H q => by
  obtain ⟨H0, F0, ρ, F, A, R, p⟩ := q
  dsimp only at p
  by_cases hw : hasDict ρ i = true
  case neg => rw [if_neg hw] at p; exact p.elim
  rw [if_pos hw] at p
  obtain ⟨a, ea⟩ := hasDict_get R hw
  refine ⟨H0, F0, ρ, F, A, R, fin_ex (S := SD X.K) R p fun d v H1 F1 _ g1 s1 p1 => ?_⟩
  have R1 := R.grow g1
  refine ⟨.ref a, ea, H0, F0, ρ, F1, A, R1, fin_ex (S := SD X.K) R1 p1 fun kd kv H2 F2 _ g2 s2 p2 => ?_⟩
  have R2 := R1.grow g2
  have s1' := s1.mono g2.ff
  cases q : ρ[i]? with
  | none => rw [q] at p2; exact p2.elim
  | some c =>
    rw [q] at p2
    have h := R2.cel i c q
    cases c with
    | dk kvs =>
      obtain ⟨a', kws, h1, h2, h3, h4⟩ := h
      have ee : a' = a := by
        have := R.get h2
        rw [ea] at this
        injection this with t1; injection t1 with t2; injection t2 with t3; exact t3.symm
      subst ee
      have p3 : Fin X.K X.prog X.w cl W H0 F0 D (match keyO kd with | some k => if kvs.length < big then .nx (ρ.set i (.dk (putD kvs k d))) else .bad | none => .bad) := p2
      cases hk : keyO kd with
      | none => rw [hk] at p3; exact p3.elim
      | some k =>
        rw [hk] at p3
        have p4 : Fin X.K X.prog X.w cl W H0 F0 D (if kvs.length < big then .nx (ρ.set i (.dk (putD kvs k d))) else .bad) := p3
        by_cases hl : kvs.length < big
        · rw [if_pos hl] at p4
          refine ⟨a', _, rfl, by rw [keyO_sees hk s2]; exact DPut.k h3 (big_lt (by rw [← seesKV_length h4]; exact hl)), p4 _ _ _ _ (R2.change (c' := .dk (putD kvs k d)) h1 (by exact fun z => z) ⟨a', _, h1, h2, upd_same, seesKV_put s1' h4⟩)⟩
        · rw [if_neg hl] at p4
          exact p4.elim
    | dt kvs =>
      obtain ⟨a', kws, h1, h2, h3, h4⟩ := h
      have ee : a' = a := by
        have := R.get h2
        rw [ea] at this
        injection this with t1; injection t1 with t2; injection t2 with t3; exact t3.symm
      subst ee
      have p3 : Fin X.K X.prog X.w cl W H0 F0 D (match tkeyO kd with | some k => if kvs.length < big then .nx (ρ.set i (.dt (putD kvs k d))) else .bad | none => .bad) := p2
      cases hk : tkeyO kd with
      | none => rw [hk] at p3; exact p3.elim
      | some k =>
        rw [hk] at p3
        have p4 : Fin X.K X.prog X.w cl W H0 F0 D (if kvs.length < big then .nx (ρ.set i (.dt (putD kvs k d))) else .bad) := p3
        by_cases hl : kvs.length < big
        · rw [if_pos hl] at p4
          cases kd with
          | tuple ds =>
            obtain ⟨b, xs, rfl, hb, hs⟩ := s2
            refine ⟨a', _, rfl, DPut.t h3 (by rw [← keysO_sees hk hs]; exact g2.fh _ _ hb) (big_lt (by rw [← seesKV_length h4]; exact hl)), p4 _ _ _ _ (R2.change (c' := .dt (putD kvs k d)) h1 (by exact fun z => z) ⟨a', _, h1, h2, upd_same, seesKV_put s1' h4⟩)⟩
          | _ => cases hk
        · rw [if_neg hl] at p4
          exact p4.elim
    | _ => exact p2.elim
/-- len(x), x a dict of the frame's own -/
def sLenD (i : Nat) : Ev → Res D := fun ρ => match ρ[i]? with
  | some (.dk kvs) => .ok (.int kvs.length)
  | some (.dt kvs) => .ok (.int kvs.length)
  | _ => .bad
theorem de_lenD {i : Nat} {x : Expr} {p : Pos} (hm : X.mg "len" = none) (hx : PE X x (tVar i)) (hg : Gl X "len" := by rfl) (hs : starEach [x] X.env = (false, eval x X.env) :: starEach [] X.env := by rfl) (hpl : (backTo pos (starEach [] X.env)).any (·.1) = false := by rfl) : DE X cl W (.Call (.Name "len" p) [x] [] pos) (sLenD i) :=
  PE_imp (pe_callB (CallR.or call_lenD call_len_dT) hg hm PySem.boot_len (pa_cons hx pa_nil hs) (he := hs) (hpl := hpl)) fun σ H Q q => by
  obtain ⟨H0, F0, ρ, F, A, R, p⟩ := q
  unfold sLenD at p
  cases q : ρ[i]? with
  | none => rw [q] at p; exact p.elim
  | some c =>
    rw [q] at p
    have h := R.cel i c q
    cases c with
    | dk kvs =>
      obtain ⟨a, kws, h1, h2, h3, h4⟩ := h
      exact ⟨.ref a, R.get h2, .inl ⟨a, kws, rfl, h3, Post.now (S := SD X.K) R.sub p (by rw [seesKV_length h4]; rfl)⟩⟩
    | dt kvs =>
      obtain ⟨a, kws, h1, h2, h3, h4⟩ := h
      exact ⟨.ref a, R.get h2, .inr ⟨a, kws, rfl, h3, Post.now (S := SD X.K) R.sub p (by rw [seesKV_length h4]; rfl)⟩⟩
    | _ => exact p.elim
/-! x.update({..}) -/
def rDUpd : V → List V → Hp → VK → Prop := fun x vs H Q => ∃ (a b : Addr) (kvs more : List (Key × V)), x = .ref a ∧ vs = [.ref b] ∧ a ≠ b ∧ H a = some (.dK kvs) ∧ H b = some (.dK more) ∧ kvs.length + more.length ≤ sizeLine ∧ Q .non (upd H a (.dK (mergeK kvs more)))
theorem mt_dupd : MtR X "dict.update" rDUpd := by
  intro pins s σ H x vs v us Q I rx rv h
  obtain ⟨a, b, kvs, more, rfl, rfl, nab, ha, hb, hl, q⟩ := h
  obtain rfl : v = Value.ref a := rx
  obtain ⟨u, rfl, ru⟩ := rv.one
  obtain rfl : u = Value.ref b := ru
  obtain ⟨z, hd, vs, rel, dd⟩ := dk_of I.hok ha
  obtain ⟨z2, hd2, vs2, rel2, dd2⟩ := dk_of I.hok hb
  refine call_meetsIn PySem.F.slot_dict_update dd.typeIs PySem.F.entry_dict_update (PySem.F.args_dict_update_2 _ _) (meets_dict_update (mixKind X.prog X.w) a b nab hd2) ⟨vs, vs2, dd, dd2, by rw [← Paired.length rel, ← Paired.length rel2]; exact hl, fun h' dd' _ hs => ?_⟩
  have he : ∃ q, h'.get? a = some q := let ⟨q, _, _, hq, _⟩ := dd'; ⟨q, hq⟩
  refine ⟨.non, _, ?_, rfl, q⟩
  exact d_write (t' := s.toks) I (by rw [ha]; exact True.intro) hs he (dk_new (by have := length_mergeK more kvs; omega) hd (rel2.merge rel) dd')
/-- x.update({k1: v1, k2: v2}) -/
def gUpd2 (i : Nat) (f1 g1 f2 g2 : Ev → Res D) : Ev → Out := fun ρ => thenO (f1 ρ) ρ fun k1 => thenO (g1 ρ) ρ fun v1 => thenO (f2 ρ) ρ fun k2 => thenO (g2 ρ) ρ fun v2 => match ρ[i]?, keyO k1, keyO k2 with
  | some (.dk kvs), some q1, some q2 => if kvs.length + 2 ≤ big then .nx (ρ.set i (.dk (mergeD kvs (mergeD [] [(q1, v1), (q2, v2)])))) else .bad
  | _, _, _ => .bad
def isDk (ρ : Ev) (i : Nat) : Bool := match ρ[i]? with
  | some (.dk _) => true
  | _ => false
theorem ds_upd2 {i : Nat} {o k1 v1 k2 v2 : Expr} {apos cpos dpos : Pos} {f1 g1 f2 g2 : Ev → Res D} (ho : PE X o (tVar i)) (h1 : DE X cl W k1 f1) (h2 : DE X cl W v1 g1) (h3 : DE X cl W k2 f2) (h4 : DE X cl W v2 g2)
    (hd : PE X (.Dict [some k1, some k2] [v1, v2] dpos) (tDisp [(tX X.K X.prog X.w (SD X.K) cl W f1, tX X.K X.prog X.w (SD X.K) cl W g1), (tX X.K X.prog X.w (SD X.K) cl W f2, tX X.K X.prog X.w (SD X.K) cl W g2)]))
    (h : PE X (.Call (.Attribute o "update" apos) [.Dict [some k1, some k2] [v1, v2] dpos] [] cpos) (tBM X.K "dict" rDUpd (tVar i) (tCons (tDisp [(tX X.K X.prog X.w (SD X.K) cl W f1, tX X.K X.prog X.w (SD X.K) cl W g1), (tX X.K X.prog X.w (SD X.K) cl W f2, tX X.K X.prog X.w (SD X.K) cl W g2)]) tNil)))
    (hs : swapsWith (.Call (.Attribute o "update" apos) [.Dict [some k1, some k2] [v1, v2] dpos] [] cpos) none pos.line X.env = pure false := by rfl) :
    DS X cl W (.Expr (.Call (.Attribute o "update" apos) [.Dict [some k1, some k2] [v1, v2] dpos] [] cpos) pos) (fun ρ => if isDk ρ i = true then gUpd2 i f1 g1 f2 g2 ρ else .bad) := PS_imp (ps_expr h hs) fun D σ H q => by
  obtain ⟨H0, F0, ρ, F, A, R, p⟩ := q
  dsimp only at p
  by_cases hw : isDk ρ i = true
  case neg => rw [if_neg hw] at p; exact p.elim
  rw [if_pos hw] at p
  unfold isDk at hw
  cases q : ρ[i]? with
  | none => rw [q] at hw; cases hw
  | some c =>
    cases c with
    | dk kvs =>
      obtain ⟨a, kws, e1, e2, e3, e4⟩ := R.cel i _ q
      refine ⟨.ref a, R.get e2, .inr (.inr (.inl ⟨rfl, .inl ⟨_, e3⟩⟩)), fun b hb => ?_⟩
      have gb := Gr.out (o := .dK []) R.sub hb
      have hn : ∀ {H' F' : Hp}, Gr (upd H b (.dK [])) F H' F' → F' b = none ∧ H' b = some (.dK []) := fun {H' F'} g => by
        have e : H' b = some (.dK []) := g.hh.get upd_same
        refine ⟨?_, e⟩
        cases r : F' b with
        | none => rfl
        | some o =>
          rcases g.nw b (by rw [r]; exact fun z => by cases z) with z | z | z
          · exact absurd (R.sub.free hb) z
          · rw [upd_same] at z; cases z
          · rw [upd_same] at z; exact z.elim
      have R0 := R.grow gb
      refine ⟨H0, F0, ρ, F, A, R0, fin_ex (S := SD X.K) R0 p fun x1 w1 H1 F1 _ y1 s1 p1 => ?_⟩
      have R1 := R0.grow y1
      refine ⟨H0, F0, ρ, F1, A, R1, fin_ex (S := SD X.K) R1 p1 fun x2 w2 H2 F2 _ y2 s2 p2 => ?_⟩
      have R2 := R1.grow y2
      refine ⟨H0, F0, ρ, F2, A, R2, fin_ex (S := SD X.K) R2 p2 fun x3 w3 H3 F3 _ y3 s3 p3 => ?_⟩
      have R3 := R2.grow y3
      refine ⟨H0, F0, ρ, F3, A, R3, fin_ex (S := SD X.K) R3 p3 fun x4 w4 H4 F4 _ y4 s4 p4 => ?_⟩
      have R4 := R3.grow y4
      have gy := ((y1.trans y2).trans y3).trans y4
      obtain ⟨hn1, hn2⟩ := hn gy
      refine ⟨hn2, ?_⟩
      rw [q] at p4
      cases k1' : keyO x1 with
      | none => rw [k1'] at p4; exact p4.elim
      | some q1 =>
        cases k2' : keyO x3 with
        | none => rw [k1', k2'] at p4; exact p4.elim
        | some q2 =>
          rw [k1', k2'] at p4
          have p5 : Fin X.K X.prog X.w cl W H0 F0 D (if kvs.length + 2 ≤ big then .nx (ρ.set i (.dk (mergeD kvs (mergeD [] [(q1, x2), (q2, x4)])))) else .bad) := p4
          by_cases hl : kvs.length + 2 ≤ big
          · rw [if_pos hl] at p5
            refine ⟨[(q1, w2), (q2, w4)], by rw [keyO_sees k1' s1, keyO_sees k2' s3]; rfl, (by show 2 ≤ 15; decide), ?_⟩
            have nab : a ≠ b := fun z => by
              rw [z, hb] at e3
              cases e3
            have ea : H4 a = some (.dK kws) := by
              refine gy.hh.get (o := .dK kws) ?_
              rw [upd_ne nab]
              exact e3
            have sm : SeesKV X.K F4 (mergeD [] [(q1, x2), (q2, x4)]) (mergeK [] [(q1, w2), (q2, w4)]) := seesKV_merge (kvs := []) (kws := []) True.intro ⟨⟨rfl, s2.mono (y3.ff.trans y4.ff)⟩, ⟨rfl, s4⟩, True.intro⟩
            have sk : SeesKV X.K F4 kvs kws := e4.mono gy.ff
            have lm := length_mergeK [(q1, w2), (q2, w4)] []
            refine ⟨a, b, kws, _, rfl, rfl, nab, by rw [upd_ne nab]; exact ea, upd_same, ?_, ?_⟩
            · refine big_le ?_
              rw [← seesKV_length e4]
              have : (mergeK [] [(q1, w2), (q2, w4)]).length ≤ 2 := lm
              omega
            · have h0b : H0 b = none := R.base.hh.free hb
              have R5 := R4.upd (p := b) (o := .dK (mergeK [] [(q1, w2), (q2, w4)])) hn1 h0b (R.notA hb)
              exact p5 _ _ _ _ (R5.change (c' := .dk _) e1 (by exact fun z => z) ⟨a, _, e1, e2, upd_same, seesKV_merge sk sm⟩)
          · rw [if_neg hl] at p5
            exact p5.elim
    | _ => rw [q] at hw; cases hw
/-! ### told lists that are changed -/
def gClr0 (i : Nat) : Ev → Out := fun ρ => match ρ[i]? with
  | some (.own2 (_ :: r)) => .nx (ρ.set i (.own2 ([] :: r)))
  | _ => .bad
/-- x[0].clear() -/
theorem ds_clr0 {i : Nat} {x : Expr} {apos cpos spos ipos : Pos} {k : Nat} (hx : PE X x (tVar i)) (h : PE X (.Call (.Attribute (.Subscript x (.Constant (.int 0) k ipos) spos) "clear" apos) [] [] cpos) (tBM0 X.K "list" rClear (tOp (rIx X.K) (tVar i) (tC (.int 0)))))
    (hs : swapsWith (.Call (.Attribute (.Subscript x (.Constant (.int 0) k ipos) spos) "clear" apos) [] [] cpos) none pos.line X.env = pure false := by rfl) :
    DS X cl W (.Expr (.Call (.Attribute (.Subscript x (.Constant (.int 0) k ipos) spos) "clear" apos) [] [] cpos) pos) (gClr0 i) := PS_imp (ps_expr h hs) fun D σ H q => by
  obtain ⟨H0, F0, ρ, F, A, R, p⟩ := q
  unfold gClr0 at p
  cases q : ρ[i]? with
  | none => rw [q] at p; exact p.elim
  | some c =>
    rw [q] at p
    have h := R.cel i c q
    cases c with
    | own2 dss =>
      cases dss with
      | nil => exact p.elim
      | cons ds r =>
        obtain ⟨a, bs, h1, h2, h3, h4, h5, h6⟩ := h
        cases bs with
        | nil => exact h6.elim
        | cons b bs =>
          obtain ⟨⟨xs, hb, hs⟩, ho⟩ := h6
          have nab : a ≠ b := fun z => (List.nodup_cons.mp h3).1 (by rw [z]; exact List.mem_cons_self)
          have nb : b ∉ bs := (List.nodup_cons.mp (List.nodup_cons.mp h3).2).1
          refine ⟨.ref a, R.get h4, .inl ⟨a, _, 0, .ref b, rfl, rfl, SqL.of h5, atI_nat (j := 0) rfl, .inl ⟨rfl, xs, SqL.of hb⟩, b, xs, rfl, rfl, hb, ?_⟩⟩
          refine p _ _ _ _ (R.change (c' := .own2 ([] :: r)) (h2 b List.mem_cons_self) (fun z => z) ⟨a, b :: bs, h1, h2, h3, h4, by rw [upd_ne nab]; exact h5, ⟨[], upd_same, True.intro⟩, ho.mono (Same.refl _) fun c hc => upd_ne fun z => nb (by rw [← z]; exact hc)⟩)
    | _ => exact p.elim
def gJunk (i : Nat) : Ev → Out := fun ρ => match ρ[i]? with
  | some (.own2 _) => .nx (ρ.set i .no)
  | some (.own _) => .nx (ρ.set i .no)
  | _ => .bad
theorem junk_at (R : Rep K P w H0 F0 ρ σ H F A) {i : Nat} {D : Ends} (p : Fin K P w cl W H0 F0 D (gJunk i ρ)) : ∃ a xs, σ[i]? = some (some (.ref a)) ∧ a ∈ A i ∧ H a = some (.lst xs) ∧ ∀ o, ¬ isTT (some o) → ∀ H' F', Gr H F H' F' → D.nx σ (upd H' a o) := by
  unfold gJunk at p
  cases q : ρ[i]? with
  | none => rw [q] at p; exact p.elim
  | some c =>
    rw [q] at p
    have h := R.cel i c q
    cases c with
    | own2 dss =>
      obtain ⟨a, bs, h1, h2, h3, h4, h5, h6⟩ := h
      exact ⟨a, _, R.get h4, h1, h5, fun o ho H' F' g => p _ _ _ _ ((R.grow g).change (c' := .no) h1 ho True.intro)⟩
    | own ds =>
      obtain ⟨a, xs, h1, h2, h3, h4⟩ := h
      exact ⟨a, xs, R.get h2, h1, h3, fun o ho H' F' g => p _ _ _ _ ((R.grow g).change (c' := .no) h1 ho True.intro)⟩
    | _ => exact p.elim
/-- x.clear(), x not asked again -/
theorem ds_clrJ {i : Nat} {x : Expr} {apos cpos : Pos} (h : PE X (.Call (.Attribute x "clear" apos) [] [] cpos) (tBM0 X.K "list" rClear (tVar i)))
    (hs : swapsWith (.Call (.Attribute x "clear" apos) [] [] cpos) none pos.line X.env = pure false := by rfl) : DS X cl W (.Expr (.Call (.Attribute x "clear" apos) [] [] cpos) pos) (gJunk i) := PS_imp (ps_expr h hs) fun D σ H q => by
  obtain ⟨H0, F0, ρ, F, A, R, p⟩ := q
  obtain ⟨a, xs, h1, h2, h3, k⟩ := junk_at R p
  exact ⟨.ref a, h1, .inl ⟨rfl, xs, SqL.of h3⟩, a, xs, rfl, rfl, h3, k _ (by exact fun z => z) H F (Gr.refl R.sub)⟩
/-- x.append('..'), x not asked again -/
def lenOk (ρ : Ev) (i : Nat) : Bool := match ρ[i]? with
  | some (.own2 d) => decide (d.length < big)
  | some (.own d) => decide (d.length < big)
  | _ => false
theorem ds_appJ {i : Nat} {x : Expr} {y : Str} {k : Nat} {apos cpos ypos : Pos} (h : PE X (.Call (.Attribute x "append" apos) [.Constant (.str y) k ypos] [] cpos) (tBM X.K "list" rAppend (tVar i) (tCons (tC (.str y)) tNil)))
    (hs : swapsWith (.Call (.Attribute x "append" apos) [.Constant (.str y) k ypos] [] cpos) none pos.line X.env = pure false := by rfl) : DS X cl W (.Expr (.Call (.Attribute x "append" apos) [.Constant (.str y) k ypos] [] cpos) pos) (fun ρ => if lenOk ρ i = true then gJunk i ρ else .bad) := PS_imp (ps_expr h hs) fun D σ H q => by
  obtain ⟨H0, F0, ρ, F, A, R, p⟩ := q
  dsimp only at p
  by_cases hw : lenOk ρ i = true
  case neg => rw [if_neg hw] at p; exact p.elim
  rw [if_pos hw] at p
  obtain ⟨a, xs, h1, h2, h3, kk⟩ := junk_at R p
  have hl : xs.length < big := by
    unfold lenOk at hw
    cases q : ρ[i]? with
    | none => rw [q] at hw; cases hw
    | some c =>
      rw [q] at hw
      have h := R.cel i c q
      cases c with
      | own2 dss =>
        obtain ⟨a', bs, g1, g2, g3, g4, g5, g6⟩ := h
        have ee : a' = a := by
          have := R.get g4
          rw [h1] at this
          injection this with t1; injection t1 with t2; injection t2 with t3; exact t3.symm
        subst ee
        rw [h3] at g5
        injection g5 with t1; injection t1 with t2
        rw [t2, List.length_map, ← own2_length g6]
        exact of_decide_eq_true hw
      | own ds =>
        obtain ⟨a', ys, g1, g2, g3, g4⟩ := h
        have ee : a' = a := by
          have := R.get g2
          rw [h1] at this
          injection this with t1; injection t1 with t2; injection t2 with t3; exact t3.symm
        subst ee
        rw [h3] at g3
        injection g3 with t1; injection t1 with t2
        rw [t2, ← g4.length]
        exact of_decide_eq_true hw
      | _ => cases hw
  exact ⟨.ref a, h1, .inl ⟨rfl, xs, SqL.of h3⟩, a, xs, .str y, rfl, rfl, h3, big_lt hl, kk _ (by exact fun z => z) H F (Gr.refl R.sub)⟩
end
end Dn

set_option Elab.async false
set_option linter.all false
set_option maxRecDepth 100000
set_option maxHeartbeats 4000000
namespace Dn
open PySem PySem.Spec PyProof.Rows L2
variable [En]
/-! ### defs that are called -/
structure Cal (P : Program) (w : World) (K : PySem.W.Frag) (mg : Str → Option Value) (base : Heap) (k : Nat) (x : Str) (sp : Sp) : Prop where
  ex : ∃ f fd ps, FnOk P w K mg base (L2.CX P w) k f fd ps sp ∧ mg x = some (.ref f) ∧ PySem.W.keepIn K (.ref f) = true ∧ Binds K fd ps []
section
variable {P : Program} {w : World} {K : PySem.W.Frag} {mg : Str → Option Value} {base : Heap} {k n : Nat} {x : Str} {cl : Nat → Addr}
theorem FnOk.weak {CX : CXT} {f : Addr} {fd : FuncData} {ps : List Str} {sp sp' : Sp} (G : FnOk P w K mg base CX k f fd ps sp) (h : ∀ vs H Q E, sp' vs H Q E → sp vs H Q E) : FnOk P w K mg base CX k f fd ps sp' :=
  ⟨fun vs H Q E q => G.len vs H Q E (h _ _ _ _ q), fun A outer s H args us vs Q E hr e0 hb r q => G.run A outer s H args us vs Q E hr e0 hb r (h _ _ _ _ q)⟩
theorem Cal.weak {sp sp' : Sp} (c : Cal P w K mg base k x sp) (h : ∀ vs H Q E, sp' vs H Q E → sp vs H Q E) : Cal P w K mg base k x sp' := by
  obtain ⟨f, fd, ps, G, r⟩ := c.ex
  exact ⟨f, fd, ps, FnOk.weak G h, r⟩
/-- a new list as data -/
theorem Cal.ofN {o : List D → Res (List D)} (c : Cal P w K mg base k x (spN K cl n o)) : Cal P w K mg base k x (spX K cl n fun ds => lstR (o ds)) :=
  c.weak fun vs H Q E h => by
    obtain ⟨ds, F, h1, h2, h3, h4, p⟩ := h
    exact ⟨ds, F, h1, h2, h3, h4, postO_of p⟩
theorem Cal.ofN2 {o : List D → Res (List (List D))} (c : Cal P w K mg base k x (spN2 K cl n o)) : Cal P w K mg base k x (spX K cl n fun ds => lstR2 (o ds)) :=
  c.weak fun vs H Q E h => by
    obtain ⟨ds, F, h1, h2, h3, h4, p⟩ := h
    exact ⟨ds, F, h1, h2, h3, h4, postO2_of p⟩
/-- the same answers -/
theorem Cal.eqX {o o' : List D → Res D} (c : Cal P w K mg base k x (spX K cl n o)) (h : ∀ ds r, o' ds = .ok r → o ds = .ok r) (h2 : ∀ ds c, o' ds = .ex c → o ds = .ex c) : Cal P w K mg base k x (spX K cl n o') :=
  c.weak fun vs H Q E q => by
    obtain ⟨ds, F, h1, h3, h4, h5, p⟩ := q
    refine ⟨ds, F, h1, h3, h4, h5, ?_⟩
    cases r : o' ds with
    | ok d => rw [h ds d r]; rw [r] at p; exact p
    | ex c => rw [h2 ds c r]; rw [r] at p; exact p
    | bad => rw [r] at p; exact p.elim
end
section
variable {X : Cx} {cl : Nat → Addr} {W : WX} {e tg a b c d : Expr} {pos p : Pos} {K : PySem.W.Frag} {P : Program} {w : World} {F F' H H' H0 F0 : Hp} {ρ ρ' : Ev} {σ : L2.St} {A : Nat → List Addr} {k j n : Nat} {x : Str} {es : List Expr} {g : Ev → Res (List D)}
theorem de_call {o : List D → Res D} (tk : Takes X W) (C : Cal X.prog X.w X.K X.mg X.base k x (spX X.K cl n o)) (hr : Room j X.A) (hk : k ≤ j) (ha : DA X cl W (e :: es) g)
    (hg : Gl X x := by rfl) (hdb : (x == ("__debug__" : Str)) = false := by decide) (he : starEach (e :: es) X.env = (false, eval e X.env) :: starEach es X.env := by rfl) (hpl : (backTo pos (starEach es X.env)).any (·.1) = false := by rfl) :
    DE X cl W (.Call (.Name x p) (e :: es) [] pos) (sF n o g) := by
  obtain ⟨f, fd, ps, G, hm, hkp, hb⟩ := C.ex
  exact de_fn tk G (hr.mono hk) hm hkp hb ha hg hdb he hpl
theorem dn_call {o : List D → Res (List D)} (tk : Takes X W) (C : Cal X.prog X.w X.K X.mg X.base k x (spN X.K cl n o)) (hr : Room j X.A) (hk : k ≤ j) (ha : DA X cl W (e :: es) g)
    (hg : Gl X x := by rfl) (hdb : (x == ("__debug__" : Str)) = false := by decide) (he : starEach (e :: es) X.env = (false, eval e X.env) :: starEach es X.env := by rfl) (hpl : (backTo pos (starEach es X.env)).any (·.1) = false := by rfl) :
    DN X cl W (.Call (.Name x p) (e :: es) [] pos) (sF n o g) := by
  obtain ⟨f, fd, ps, G, hm, hkp, hb⟩ := C.ex
  exact dn_fn tk G (hr.mono hk) hm hkp hb ha hg hdb he hpl
theorem dn2_call {o : List D → Res (List (List D))} (tk : Takes X W) (C : Cal X.prog X.w X.K X.mg X.base k x (spN2 X.K cl n o)) (hr : Room j X.A) (hk : k ≤ j) (ha : DA X cl W (e :: es) g)
    (hg : Gl X x := by rfl) (hdb : (x == ("__debug__" : Str)) = false := by decide) (he : starEach (e :: es) X.env = (false, eval e X.env) :: starEach es X.env := by rfl) (hpl : (backTo pos (starEach es X.env)).any (·.1) = false := by rfl) :
    DN2 X cl W (.Call (.Name x p) (e :: es) [] pos) (sF n o g) := by
  obtain ⟨f, fd, ps, G, hm, hkp, hb⟩ := C.ex
  exact dn2_fn tk G (hr.mono hk) hm hkp hb ha hg hdb he hpl
/-- a module's whole number -/
theorem de_gI {i : Int} (hm : ∃ t, X.mg x = some (.int i t)) (hg : Gl X x := by rfl) (hd : (x == ("__debug__" : Str)) = false := by decide) : DE X cl W (.Name x p) (sC (.int i)) := by
  obtain ⟨t, hm⟩ := hm
  exact de_c (pe_glob (v := .int i) hg hm ⟨t, rfl⟩ hd) fun _ => rfl
theorem de_gS {i : Str} (hm : ∃ t, X.mg x = some (.str i t)) (hg : Gl X x := by rfl) (hd : (x == ("__debug__" : Str)) = false := by decide) : DE X cl W (.Name x p) (sC (.str i)) := by
  obtain ⟨t, hm⟩ := hm
  exact de_c (pe_glob (v := .str i) hg hm ⟨t, rfl⟩ hd) fun _ => rfl
def sNeg (f : Ev → Res D) : Ev → Res D := fun ρ => (f ρ).bind fun x => match x with
  | .int i => .ok (.int (-i))
  | _ => .bad
theorem de_neg {f : Ev → Res D} (ha : DE X cl W a f) : DE X cl W (.UnaryOp .USub a pos) (sNeg f) := PE_imp (pe_un un_neg ha) fun σ H Q q => by
  obtain ⟨H0, F0, ρ, F, A, R, p⟩ := q
  refine ⟨H0, F0, ρ, F, A, R, (Post.bind (S := SD X.K) p).imp fun v H1 ⟨F1, x, _, g1, s1, p1⟩ => ?_⟩
  cases x with
  | int i => exact ⟨i, s1, Post.now (S := SD X.K) g1.fh p1 rfl⟩
  | _ => exact p1.elim
/-- type(a) is not T -/
def sTyNot (T : String) (f : Ev → Res D) : Ev → Res Bool := fun ρ => (f ρ).bind fun d => if plain d = true then .ok (tyD d != T) else match d with
  | .dict [] => .ok (("dict" : String) != T)
  | _ => .bad
theorem tyB_sees {d : D} {v : V} (e : Same F H) (s : Sees K F d v) (h : plain d = true ∨ d = .dict []) : TyB K H v (tyD d) := by
  cases d with
  | none => rw [show v = V.non from s]; exact .non
  | bool b => rw [show v = V.bl b from s]; exact .bl b
  | int b => rw [show v = V.int b from s]; exact .int b
  | str b => rw [show v = V.str b from s]; exact .str b
  | list ds => obtain ⟨a, xs, rfl, ha, _⟩ := s; exact .lst (SqL.of (e _ _ ha))
  | tuple ds => obtain ⟨a, xs, rfl, ha, _⟩ := s; exact .tup (SqT.of (e _ _ ha))
  | dict kvs =>
    rcases h with h | h
    · exact absurd (show false = true from h) Bool.false_ne_true
    · injection h with h
      obtain ⟨a, rfl, h2⟩ := s
      rcases h2 with ⟨_, h3⟩ | ⟨ns, h3, _⟩ | ⟨c, h3, _⟩ | ⟨c, Rs, h3, _⟩
      · exact .dK (e _ _ h3)
      · rw [h] at h3; cases h3
      · rw [h] at h3; cases h3
      · rw [h] at h3; cases h3
theorem dt_tyNot {T : String} {t : Str} {f : Ev → Res D} {pT pn : Pos} (hm : X.mg "type" = none) (hT : X.mg t = none) (hb : bootBuiltins t = some (.type T)) (ha : DE X cl W a f) (hg : Gl X "type" := by rfl) (hg2 : Gl X t := by rfl) (hn : t ≠ "__name__" := by decide) (hdb : (t == ("__debug__" : Str)) = false := by decide)
    (hs : starEach [a] X.env = (false, eval a X.env) :: starEach [] X.env := by rfl) (hv : bootBuiltins "type" = some (.type "type") := by decide +kernel) : DT X cl W (.Compare (.Call (.Name "type" pn) [a] [] p) [.IsNot] [.Name t pT] pos) (sTyNot T f) := by
  have hc : PE X (.Name t pT) (tC (.ty T)) := pe_bltn hg2 hT hb rfl hn hdb
  refine PT_imp (pt_cmpR op_notTyB (pe_callTy call_type1 hg hm hv (pa_cons ha pa_nil hs) (he := hs)) hc (nomark _)) fun σ H Q q => ?_
  obtain ⟨H0, F0, ρ, F, A, R, p⟩ := q
  refine ⟨H0, F0, ρ, F, A, R, (Post.bind (S := SD X.K) p).imp fun v H1 ⟨F1, x, _, g1, s1, p1⟩ => ?_⟩
  have go : ∀ h : plain x = true ∨ x = .dict [], Post SB cl W σ H1 F1 (.ok (tyD x != T)) Q → ∃ x' T', [v] = [x'] ∧ TyB X.K H1 x' T' ∧ rNT (.ty T') (.ty T) H1 (fun x H' => ∃ k, x = .bl k ∧ Q k H') := fun h q => by
    refine ⟨v, tyD x, rfl, tyB_sees g1.fh s1 h, tyD x, T, rfl, rfl, _, rfl, ?_⟩
    have e : (!decide (tyD x = T)) = (tyD x != T) := by
      rw [bne, Bool.beq_eq_decide_eq]
    rw [e]
    exact Post.now (S := SB) g1.fh q rfl
  by_cases hp : plain x = true
  · rw [if_pos hp] at p1
    exact go (.inl hp) p1
  · rw [if_neg hp] at p1
    cases x with
    | dict kvs =>
      cases kvs with
      | nil => exact go (.inr rfl) p1
      | cons _ _ => exact p1.elim
    | _ => exact p1.elim
theorem dt_tyNotW {f : Ev → Res Bool} (h : DT X cl W e f) : DT X cl W e f := h
end

/-! ### what a law draws -/
def drawI (ns : List Int) (k : Int) : Int :=
  let cell := if ns = [] then 0 else 31 * ns.sum + (L2.atI ns (k % (ns.length : Int))).getD 0
  let number := cell % 1000000007 + 7919 * k + 13
  number * number % 1000000007 * number % 998244353 / 11
def drawO : List D → Res D
  | [.dict [(.none, .list ds)], .int k] => match intsO ds with
    | some ns => if 0 ≤ k ∧ k < 1000000 then .ok (.int (drawI ns k)) else .bad
    | none => .bad
  | _ => .bad
theorem drawO_eq (ns : List Int) {k : Int} (h : 0 ≤ k ∧ k < 1000000) : drawO [scrD ns, .int k] = .ok (.int (drawI ns k)) := by
  show (match intsO (ns.map .int) with | some ns => if 0 ≤ k ∧ k < 1000000 then Res.ok (PyData.int (drawI ns k)) else .bad | none => .bad) = _
  rw [intsO_map]
  show (if 0 ≤ k ∧ k < 1000000 then Res.ok (PyData.int (drawI ns k)) else .bad) = _
  rw [if_pos h]
theorem drawI_nn (ns : List Int) (k : Int) : 0 ≤ drawI ns k := by
  unfold drawI
  exact Int.ediv_nonneg (Int.emod_nonneg _ (by decide)) (by decide)
theorem drawI_lt (ns : List Int) (k : Int) : drawI ns k < 998244353 := by
  unfold drawI
  have h := Int.emod_lt_of_pos ((if ns = [] then 0 else 31 * ns.sum + (L2.atI ns (k % (ns.length : Int))).getD 0) % 1000000007 + 7919 * k + 13) (show (0 : Int) < 998244353 by decide)
  have h2 := Int.emod_lt_of_pos (((if ns = [] then 0 else 31 * ns.sum + (L2.atI ns (k % (ns.length : Int))).getD 0) % 1000000007 + 7919 * k + 13) * ((if ns = [] then 0 else 31 * ns.sum + (L2.atI ns (k % (ns.length : Int))).getD 0) % 1000000007 + 7919 * k + 13) % 1000000007 * ((if ns = [] then 0 else 31 * ns.sum + (L2.atI ns (k % (ns.length : Int))).getD 0) % 1000000007 + 7919 * k + 13)) (show (0 : Int) < 998244353 by decide)
  dsimp only
  omega
section
variable {X : Cx} {cl : Nat → Addr} {W : WX} {e tg a b c d : Expr} {pos p : Pos} {K : PySem.W.Frag} {P : Program} {w : World} {F F' H H' H0 F0 : Hp} {ρ ρ' : Ev} {σ : L2.St} {A : Nat → List Addr} {k j n : Nat} {x : Str}
/-! ### the script, read -/
def sScr (i : Nat) : Ev → Res (List Int) := fun ρ => match ρ[i]? with
  | some (.d (.dict [(.none, .list ds)])) => ofO (intsO ds)
  | _ => .bad
def SS (K : PySem.W.Frag) : Hp → List Int → V → Prop := fun F ns v => ∃ a, v = .ref a ∧ SqL K F a (ns.map V.int)
theorem tx_scr {i : Nat} : ∀ σ H Q, tX K P w (SS K) cl W (sScr i) σ H Q → tVar i σ H Q := fun σ H Q q => by
  obtain ⟨H0, F0, ρ, F, A, R, p⟩ := q
  unfold sScr at p
  split at p
  · rename_i ds hq
    cases hi : intsO ds with
    | none => rw [hi] at p; exact p.elim
    | some ns =>
      rw [hi] at p
      obtain ⟨v, h1, a, e, h2⟩ := R.cel i _ hq
      refine ⟨v, R.get h1, Post.now (S := SS K) R.sub p ⟨a, e, ?_⟩⟩
      rcases h2 with ⟨h3, _⟩ | ⟨ms, h3, h4⟩ | ⟨c, h3, _⟩ | ⟨c, Rs, h3, _⟩
      · cases h3
      rotate_left
      · cases h3
      · cases h3
      · have e1 : ds = ms.map .int := by
          injection h3 with h5 h6
          injection h5 with h7 h8
          injection h8
        rw [e1, intsO_map] at hi
        rw [← Option.some.inj hi]
        exact h4
  · exact p.elim
theorem pe_scr (i : Nat) {q : Pos} (h : PE X (.Name x q) (tVar i)) : PE X (.Name x q) (tX X.K X.prog X.w (SS X.K) cl W (sScr i)) := PE_imp h tx_scr
theorem SS.mono {ns : List Int} {v : V} (e : Same F F') (h : SS K F ns v) : SS K F' ns v := by
  obtain ⟨a, h1, h2⟩ := h
  exact ⟨a, h1, e.seq h2⟩
/-- script != [] -/
def sScrNe (i : Nat) : Ev → Res Bool := fun ρ => (sScr i ρ).bind fun ns => if SeqAt.shaped (.list (ns.map .int)) = true then .ok (!ns.isEmpty) else .bad
theorem dp_ints : ∀ ns : List Int, DpAll K H (ns.map V.int) (ns.map .int)
  | [] => .nil
  | n :: ns => .cons (.int n) (dp_ints ns)
theorem eqv_nil (ns : List Int) : (!PyData.eqv (.list (ns.map .int)) (.list [])) = !ns.isEmpty := by
  cases ns with
  | nil => rfl
  | cons n ns => rfl
theorem dt_scrNe {i : Nat} {q lp : Pos} (hu : X.A.units + 64 < cLine) (h : PE X (.Name x q) (tVar i)) : DT X cl W (.Compare (.Name x q) [.NotEq] [.List [] lp] pos) (sScrNe i) := PT_imp (pt_cmpR (op_neD hu) (pe_scr (cl := cl) (W := W) i h) (pe_lst pa_nil) (nomark _)) fun σ H Q q => by
  obtain ⟨H0, F0, ρ, F, A, R, p⟩ := q
  refine ⟨H0, F0, ρ, F, A, R, (Post.bind (S := SS X.K) p).imp fun v H1 ⟨F1, ns, _, g1, s1, p1⟩ => ?_⟩
  obtain ⟨a, rfl, h1⟩ := s1
  by_cases hs : SeqAt.shaped (.list (ns.map .int)) = true
  · rw [if_pos hs] at p1
    refine ⟨Nat.zero_le _, fun l hl => ?_⟩
    have e := (Gr.out (o := .lst []) g1.fh hl)
    refine ⟨_, .list [], .lst (e.fh.seq h1) (dp_ints ns), .lst (SqL.of upd_same) .nil, hs, by decide, _, rfl, ?_⟩
    rw [eqv_nil]
    exact p1 _ _ _ e rfl
  · rw [if_neg hs] at p1
    exact p1.elim
def sScrSum (i : Nat) : Ev → Res D := fun ρ => (sScr i ρ).bind fun ns => .ok (.int ns.sum)
def sScrLen (i : Nat) : Ev → Res D := fun ρ => (sScr i ρ).bind fun ns => .ok (.int ns.length)
def sScrIx (i : Nat) (f : Ev → Res D) : Ev → Res D := fun ρ => (sScr i ρ).bind fun ns => (f ρ).bind fun d => match d with
  | .int k => ofO ((L2.atI ns k).map .int)
  | _ => .bad
theorem de_scrSum {i : Nat} {q : Pos} (hm : X.mg "sum" = none) (hc : X.calm = true) (h : PE X (.Name x q) (tVar i)) (hg : Gl X "sum" := by rfl) (hs : starEach [.Name x q] X.env = (false, eval (.Name x q) X.env) :: starEach [] X.env := by rfl) (hv : bootBuiltins "sum" = some (.builtin "sum") := by decide +kernel) : DE X cl W (.Call (.Name "sum" p) [.Name x q] [] pos) (sScrSum i) :=
  PE_imp (pe_callB (cr_sum hc) hg hm hv (pa_cons (pe_scr (cl := cl) (W := W) i h) pa_nil hs) (he := hs)) fun σ H Q q => by
  obtain ⟨H0, F0, ρ, F, A, R, p⟩ := q
  refine ⟨H0, F0, ρ, F, A, R, (Post.bind (S := SS X.K) p).imp fun v H1 ⟨F1, ns, _, g1, s1, p1⟩ => ?_⟩
  obtain ⟨a, rfl, h1⟩ := s1
  exact ⟨a, ns, rfl, g1.fh.seq h1, Post.now (S := SD X.K) g1.fh p1 rfl⟩
theorem de_scrLen {i : Nat} {q : Pos} (hm : X.mg "len" = none) (h : PE X (.Name x q) (tVar i)) (hg : Gl X "len" := by rfl) (hs : starEach [.Name x q] X.env = (false, eval (.Name x q) X.env) :: starEach [] X.env := by rfl) : DE X cl W (.Call (.Name "len" p) [.Name x q] [] pos) (sScrLen i) :=
  PE_imp (pe_callB call_len_seq hg hm PySem.boot_len (pa_cons (pe_scr (cl := cl) (W := W) i h) pa_nil hs) (he := hs)) fun σ H Q q => by
  obtain ⟨H0, F0, ρ, F, A, R, p⟩ := q
  refine ⟨H0, F0, ρ, F, A, R, (Post.bind (S := SS X.K) p).imp fun v H1 ⟨F1, ns, _, g1, s1, p1⟩ => ?_⟩
  obtain ⟨a, rfl, h1⟩ := s1
  exact ⟨a, _, rfl, .inl (g1.fh.seq h1), Post.now (S := SD X.K) g1.fh p1 (by rw [List.length_map]; rfl)⟩
theorem atI_map {α β : Type} {f : α → β} {xs : List α} {i : Int} : L2.atI (xs.map f) i = (L2.atI xs i).map f := by
  unfold L2.atI
  rw [List.length_map]
  cases ixN xs.length i with
  | none => rfl
  | some j => exact List.getElem?_map ..
theorem de_scrIx {i : Nat} {q : Pos} {f : Ev → Res D} (h : PE X (.Name x q) (tVar i)) (hb : DE X cl W b f) (hs : PlainIx b := by exact fun _ _ => rfl) : DE X cl W (.Subscript (.Name x q) b pos) (sScrIx i f) :=
  PE_imp (pe_ix ix_list (pe_scr (cl := cl) (W := W) i h) hb hs) fun σ H Q q => by
  obtain ⟨H0, F0, ρ, F, A, R, p⟩ := q
  refine ⟨H0, F0, ρ, F, A, R, (Post.bind (S := SS X.K) p).imp fun v H1 ⟨F1, ns, _, g1, s1, p1⟩ => ?_⟩
  refine ⟨H0, F0, ρ, F1, A, R.grow g1, (Post.bind (S := SD X.K) p1).imp fun u H2 ⟨F2, d, _, g2, s2, p2⟩ => ?_⟩
  obtain ⟨a, rfl, h1⟩ := s1
  cases d with
  | int k =>
    have p3 : Post (SD X.K) cl W σ H2 F2 (ofO ((L2.atI ns k).map .int)) Q := p2
    cases r : L2.atI ns k with
    | none => rw [r] at p3; exact p3.elim
    | some z =>
      rw [r] at p3
      exact ⟨a, _, k, .int z, rfl, s2, (g2.ff.trans g2.fh).seq h1, by rw [atI_map, r]; rfl, Post.now (S := SD X.K) g2.fh p3 rfl⟩
  | _ => exact p2.elim
/-- script[lo:hi] -/
def sScrSl (i : Nat) (lo hi : Ev → Res (Option Int)) : Ev → Res D := fun ρ => (sScr i ρ).bind fun ns => (lo ρ).bind fun l => (hi ρ).bind fun h => .ok (.list ((cutD (ns.map .int) l h)))
theorem de_scrSl {i : Nat} {q p2 : Pos} {g h : Ev → Res (Option Int)} {lo hi : Option Expr} (hx : PE X (.Name x q) (tVar i)) (hl : DO X cl W lo g) (hu : DO X cl W hi h) : DE X cl W (.Subscript (.Name x q) (.Slice lo hi none p2) pos) (sScrSl i g h) :=
  PE_imp (pe_slice sl_list (pe_scr (cl := cl) (W := W) i hx) hl hu) fun σ H Q q => by
  obtain ⟨H0, F0, ρ, F, A, R, p⟩ := q
  refine ⟨H0, F0, ρ, F, A, R, (Post.bind (S := SS X.K) p).imp fun v H1 ⟨F1, ns, _, g1, s1, p1⟩ => ?_⟩
  refine ⟨H0, F0, ρ, F1, A, R.grow g1, (Post.bind (S := SO) p1).imp fun l H2 ⟨F2, l', _, g2, s2, p2⟩ => ?_⟩
  refine ⟨H0, F0, ρ, F2, A, (R.grow g1).grow g2, (Post.bind (S := SO) p2).imp fun u H3 ⟨F3, u', _, g3, s3, p3⟩ => ?_⟩
  have e2 : l' = l := s2
  have e3 : u' = u := s3
  subst e2 e3
  obtain ⟨a, rfl, h1⟩ := s1
  refine ⟨a, _, rfl, ((g2.ff.trans g3.ff).trans g3.fh).seq h1, fun z hz => Post.newL g3.fh p3 (SeesL.cut (SeesL.of_ints ns)) hz⟩
/-! the drawing def -/
def gDraw : Ev → Out := gSeq (gSet 2 (sC (.int 0))) (gSeq (gIf (sScrNe 0) (gSet 2 (s2 oAdd (s2 oMul (sC (.int 31)) (sScrSum 0)) (sScrIx 0 (s2 oMod (sVar 1) (sScrLen 0))))) gNil)
  (gSeq (gSet 3 (s2 oAdd (s2 oAdd (s2 oMod (sVar 2) (sC (.int 1000000007))) (s2 oMul (sC (.int 7919)) (sVar 1))) (sC (.int 13))))
    (gRet (s2 oDiv (s2 oMod (s2 oMul (s2 oMod (s2 oMul (sVar 3) (sVar 3)) (sC (.int 1000000007))) (sVar 3)) (sC (.int 998244353))) (sC (.int 11))))))
theorem canLay_ints : ∀ ns : List Int, PyData.canLayAll0 (ns.map .int) = true
  | [] => rfl
  | n :: ns => by
    show (true && PyData.canLayAll0 (ns.map .int)) = true
    rw [canLay_ints ns]
    rfl
theorem depth_ints : ∀ ns : List Int, PyData.depthAll (ns.map .int) ≤ 1
  | [] => by decide
  | n :: ns => by
    have h := depth_ints ns
    have e : PyData.depthAll ((n :: ns).map .int) = max (PyData.depth (.int n)) (PyData.depthAll (ns.map .int)) := rfl
    rw [e]
    have h2 : PyData.depth (.int n) = 0 := rfl
    omega
theorem shaped_ints (ns : List Int) : SeqAt.shaped (.list (ns.map .int)) = true := by
  unfold SeqAt.shaped
  have h1 : PyData.canLay0 (.list (ns.map .int)) = true := canLay_ints ns
  have h2 : PyData.depth (.list (ns.map .int)) ≤ 64 := by
    have h := depth_ints ns
    have e : PyData.depth (.list (ns.map .int)) = PyData.depthAll (ns.map .int) + 1 := rfl
    omega
  rw [h1, decide_eq_true h2]
  rfl
theorem rho4 {N : List Str} (hN : N.length = 4) (x y : D) : rho0 N [x, y] = [.d x, .d y, .no, .no] := by
  unfold rho0
  rw [hN]
  rfl
theorem mod_in {ns : List Int} {k : Int} (h : ns ≠ []) : ∃ z, L2.atI ns (k % (ns.length : Int)) = some z := by
  have hl : 0 < ns.length := List.length_pos_iff.mpr h
  have h1 : 0 ≤ k % (ns.length : Int) := Int.emod_nonneg _ (by omega)
  have h2 : k % (ns.length : Int) < ns.length := Int.emod_lt_of_pos _ (by omega)
  unfold L2.atI ixN
  rw [if_pos h1, if_pos h2]
  have h3 : (k % (ns.length : Int)).toNat < ns.length := by omega
  exact ⟨_, List.getElem?_eq_getElem h3⟩
theorem mulOk {i j : Int} (h : cMul i j = true) : oMul (.int i) (.int j) = .ok (.int (i * j)) := by
  show oOr (oI cMul fun i j => .int (i * j)) oRep (.int i) (.int j) = _
  unfold oOr
  show (match (if cMul i j = true then Res.ok (PyData.int (i * j)) else .bad) with | .bad => oRep (.int i) (.int j) | r => r) = _
  rw [if_pos h]
theorem addI (i j : Int) : oAdd (.int i) (.int j) = .ok (.int (i + j)) := rfl
theorem modOk {i j : Int} (h : 0 < j) : oMod (.int i) (.int j) = .ok (.int (i % j)) := by
  show (if decide (0 < j) = true then Res.ok (PyData.int (i % j)) else .bad) = _
  rw [if_pos (decide_eq_true h)]
theorem divOk {i j : Int} (h : 0 < j) (h2 : j < 1073741824) : oDiv (.int i) (.int j) = .ok (.int (i / j)) := by
  show (if (decide (0 < j) && decide (j < 1073741824)) = true then Res.ok (PyData.int (i / j)) else .bad) = _
  rw [decide_eq_true h, decide_eq_true h2]
  rfl
theorem s2_ok {o : D → D → Res D} {f g : Ev → Res D} {r : Ev} {x y z : D} (hf : f r = .ok x) (hg : g r = .ok y) (h : o x y = .ok z) : s2 o f g r = .ok z := by
  unfold s2
  rw [hf]
  show (g r).bind (fun y => o x y) = _
  rw [hg]
  exact h
theorem gSeq_nx {g h : Ev → Out} {r r' : Ev} (e : g r = .nx r') : gSeq g h r = h r' := by
  unfold gSeq
  rw [e]
theorem gSet_ok {i : Nat} {f : Ev → Res D} {r : Ev} {x : D} (e : f r = .ok x) : gSet i f r = .nx (r.set i (.d x)) := by
  unfold gSet
  rw [e]
  rfl
theorem gDraw_at (ns : List Int) {k : Int} (h : 0 ≤ k ∧ k < 1000000) : finD (gDraw [.d (scrD ns), .d (.int k), .no, .no]) = .ok (.int (drawI ns k)) := by
  have hs : ∀ r : Ev, sScr 0 (.d (scrD ns) :: r) = .ok ns := fun r => by
    show ofO (intsO (ns.map .int)) = _
    rw [intsO_map]
    rfl
  have cell : ∃ c : Int, c = (if ns = [] then 0 else 31 * ns.sum + (L2.atI ns (k % (ns.length : Int))).getD 0) ∧ gIf (sScrNe 0) (gSet 2 (s2 oAdd (s2 oMul (sC (.int 31)) (sScrSum 0)) (sScrIx 0 (s2 oMod (sVar 1) (sScrLen 0))))) gNil [.d (scrD ns), .d (.int k), .d (.int 0), .no] = .nx [.d (scrD ns), .d (.int k), .d (.int c), .no] := by
    refine ⟨_, rfl, ?_⟩
    have e1 : sScrNe 0 [.d (scrD ns), .d (.int k), .d (.int 0), .no] = .ok (!ns.isEmpty) := by
      unfold sScrNe
      rw [hs]
      show (if SeqAt.shaped (.list (ns.map .int)) = true then Res.ok (!ns.isEmpty) else .bad) = _
      rw [if_pos (shaped_ints ns)]
    unfold gIf
    rw [e1]
    by_cases hn : ns = []
    · subst hn
      rfl
    · obtain ⟨z, hz⟩ := mod_in (k := k) hn
      have e2 : (!ns.isEmpty) = true := by
        cases ns with
        | nil => exact absurd rfl hn
        | cons _ _ => rfl
      rw [e2, if_neg hn, hz]
      have e4 : sScrSum 0 [.d (scrD ns), .d (.int k), .d (.int 0), .no] = .ok (.int ns.sum) := by
        unfold sScrSum
        rw [hs]
        rfl
      have e5 : sScrLen 0 [.d (scrD ns), .d (.int k), .d (.int 0), .no] = .ok (.int ns.length) := by
        unfold sScrLen
        rw [hs]
        rfl
      have hl : (0 : Int) < ns.length := by have := List.length_pos_iff.mpr hn; omega
      have e6 : s2 oMod (sVar 1) (sScrLen 0) [.d (scrD ns), .d (.int k), .d (.int 0), .no] = .ok (.int (k % (ns.length : Int))) := s2_ok (x := .int k) rfl e5 (modOk hl)
      have e7 : sScrIx 0 (s2 oMod (sVar 1) (sScrLen 0)) [.d (scrD ns), .d (.int k), .d (.int 0), .no] = .ok (.int z) := by
        unfold sScrIx
        rw [hs, e6]
        show ofO ((L2.atI ns (k % (ns.length : Int))).map PyData.int) = _
        rw [hz]
        rfl
      have e8 : s2 oMul (sC (.int 31)) (sScrSum 0) [.d (scrD ns), .d (.int k), .d (.int 0), .no] = .ok (.int (31 * ns.sum)) := s2_ok (x := .int 31) rfl e4 (mulOk (i := 31) (decide_eq_true (.inl ⟨by decide, by decide⟩)))
      exact gSet_ok (s2_ok e8 e7 (addI _ _))
  obtain ⟨c, hc, e0⟩ := cell
  have hD : drawI ns k = (c % 1000000007 + 7919 * k + 13) * (c % 1000000007 + 7919 * k + 13) % 1000000007 * (c % 1000000007 + 7919 * k + 13) % 998244353 / 11 := by
    rw [hc]
    rfl
  have hc1 := Int.emod_lt_of_pos c (show (0 : Int) < 1000000007 by decide)
  have hc0 := Int.emod_nonneg c (show (1000000007 : Int) ≠ 0 by decide)
  generalize hm : c % 1000000007 + 7919 * k + 13 = m at hD
  have em : s2 oAdd (s2 oAdd (s2 oMod (sVar 2) (sC (.int 1000000007))) (s2 oMul (sC (.int 7919)) (sVar 1))) (sC (.int 13)) [.d (scrD ns), .d (.int k), .d (.int c), .no] = .ok (.int m) := by
    have e1 : s2 oMod (sVar 2) (sC (.int 1000000007)) [.d (scrD ns), .d (.int k), .d (.int c), .no] = .ok (.int (c % 1000000007)) := s2_ok (x := .int c) rfl rfl (modOk (by decide))
    have e2 : s2 oMul (sC (.int 7919)) (sVar 1) [.d (scrD ns), .d (.int k), .d (.int c), .no] = .ok (.int (7919 * k)) := s2_ok (x := .int 7919) (y := .int k) rfl rfl (mulOk (i := 7919) (decide_eq_true (.inl ⟨by decide, by decide⟩)))
    rw [← hm]
    exact s2_ok (s2_ok e1 e2 (addI _ _)) rfl (addI _ _)
  have b1 := Int.emod_lt_of_pos (m * m) (show (0 : Int) < 1000000007 by decide)
  have b0 := Int.emod_nonneg (m * m) (show (1000000007 : Int) ≠ 0 by decide)
  have er : s2 oDiv (s2 oMod (s2 oMul (s2 oMod (s2 oMul (sVar 3) (sVar 3)) (sC (.int 1000000007))) (sVar 3)) (sC (.int 998244353))) (sC (.int 11)) [.d (scrD ns), .d (.int k), .d (.int c), .d (.int m)] = .ok (.int (drawI ns k)) := by
    have e1 : s2 oMul (sVar 3) (sVar 3) [.d (scrD ns), .d (.int k), .d (.int c), .d (.int m)] = .ok (.int (m * m)) := s2_ok (x := .int m) (y := .int m) rfl rfl (mulOk (decide_eq_true (.inl ⟨by omega, by omega⟩)))
    have e2 := s2_ok (o := oMod) (g := sC (.int 1000000007)) e1 rfl (modOk (by decide))
    have e3 := s2_ok (o := oMul) (g := sVar 3) (y := .int m) e2 rfl (mulOk (decide_eq_true (.inl ⟨by omega, by omega⟩)))
    have e4 := s2_ok (o := oMod) (g := sC (.int 998244353)) e3 rfl (modOk (by decide))
    have e5 := s2_ok (o := oDiv) (g := sC (.int 11)) e4 rfl (divOk (by decide) (by decide))
    rw [hD]
    exact e5
  have s1 : gSet 2 (sC (.int 0)) [.d (scrD ns), .d (.int k), .no, .no] = .nx [.d (scrD ns), .d (.int k), .d (.int 0), .no] := rfl
  have s3 : gSet 3 (s2 oAdd (s2 oAdd (s2 oMod (sVar 2) (sC (.int 1000000007))) (s2 oMul (sC (.int 7919)) (sVar 1))) (sC (.int 13))) [.d (scrD ns), .d (.int k), .d (.int c), .no] = .nx [.d (scrD ns), .d (.int k), .d (.int c), .d (.int m)] := gSet_ok em
  unfold gDraw
  rw [gSeq_nx s1, gSeq_nx e0, gSeq_nx s3]
  unfold gRet evF
  rw [er]
  rfl
theorem draw_ok {N : List Str} (hN : N.length = 4) (ds : List D) (r : D) (h : drawO ds = .ok r) : opX N gDraw ds = .ok r := by
  unfold drawO at h
  split at h
  · rename_i xs k
    cases hi : intsO xs with
    | none => rw [hi] at h; cases h
    | some ns =>
      rw [hi] at h
      have h' : (if 0 ≤ k ∧ k < 1000000 then Res.ok (PyData.int (drawI ns k)) else .bad) = .ok r := h
      by_cases hk : 0 ≤ k ∧ k < 1000000
      · rw [if_pos hk] at h'
        unfold opX
        rw [rho4 hN, intsO_eq hi]
        rw [← h']
        exact gDraw_at ns hk
      · rw [if_neg hk] at h'
        cases h'
  · cases h
end
end Dn

set_option Elab.async false
set_option linter.all false
set_option maxRecDepth 100000
set_option maxHeartbeats 4000000
namespace Dn
open PySem PySem.Spec PyProof.Rows L2
variable [En]
section
variable {X : Cx} {cl : Nat → Addr} {W : WX} {e tg a b c d : Expr} {pos p : Pos} {K : PySem.W.Frag} {P : Program} {w : World} {F F' H H' H0 F0 : Hp} {ρ ρ' : Ev} {σ : L2.St} {A : Nat → List Addr} {k j n : Nat} {x : Str}
/-- a comprehension's list as data -/
theorem tx_lcD {src : Ev → Res (List D)} {bnd : D → Ev → Option Ev} {t : Ev → Res Bool} {te : Ev → Res D} {vs js : List Nat} (hj : ∀ j ∈ js, j ∈ vs) : ∀ σ H Q, tX K P w (SD K) cl W (fun ρ => lstR (nComp src bnd t te vs ρ)) σ H Q →
    tLc (tX K P w (SW K) cl W src) (tG K P w bnd js) (tX K P w SB cl W0 t) (tX K P w (SD K) cl W0 te) vs σ H Q := fun σ H Q q => by
  obtain ⟨H0, F0, ρ, F, A, R, p⟩ := q
  exact tx_lcN hj σ H Q ⟨H0, F0, ρ, F, A, R, postO_of p⟩
/-- own lists taken as data from here on -/
def frz1 (i : Nat) (ρ : Ev) : Ev := match ρ[i]? with
  | some (.own ds) => ρ.set i (.d (.list ds))
  | some (.own2 dss) => ρ.set i (.d (.list (dss.map .list)))
  | _ => ρ
theorem Rep.frz1 (R : Rep K P w H0 F0 ρ σ H F A) (i : Nat) : ∃ F' A', Same F F' ∧ Rep K P w H0 F0 (frz1 i ρ) σ H F' A' := by
  unfold Dn.frz1
  cases q : ρ[i]? with
  | none => exact ⟨F, A, Same.refl _, R⟩
  | some c =>
    have hil : i < ρ.length := (List.getElem?_eq_some_iff.mp q).1
    -- what is put into F
    have main : ∀ (as : List Addr) (d : D) (v : V), (∀ x ∈ as, x ∈ A i) → σ[i]?.join = some v → (∀ Fp : Hp, Same F Fp → (∀ x ∈ as, Fp x = H x) → Sees K Fp d v) → ∃ F' A', Same F F' ∧ Rep K P w H0 F0 (ρ.set i (.d d)) σ H F' A' := fun as d v hA hv hs => by
      have e1 : Same F (updL F H as) := fun x o h => by
        rw [updL_out fun z => by rw [(R.fr i x (hA x z)).1] at h; cases h]
        exact h
      have e2 : Same (updL F H as) H := fun x o h => by
        by_cases hx : x ∈ as
        · rw [updL_in hx (R.fr i x (hA x hx)).2.2.1] at h
          exact h
        · rw [updL_out hx] at h
          exact R.sub _ _ h
      refine ⟨updL F H as, setA A i [], e1, ⟨⟨R.base.ff.trans e1, R.base.hh, e2, fun x h => ?_⟩, by rw [List.length_set]; exact R.len, fun j c' hj => ?_, fun j x hx => ?_, fun j k x hj hk => ?_, R.tk⟩⟩
      · by_cases hx : x ∈ as
        · exact .inr (.inl (R.fr i x (hA x hx)).2.1)
        · rw [updL_out hx] at h
          exact R.base.nw x h
      · by_cases e : j = i
        · subst e
          rw [List.getElem?_set_self hil] at hj
          have e3 := Option.some.inj hj
          subst e3
          exact ⟨v, hv, hs _ e1 fun x hx => updL_in hx (R.fr j x (hA x hx)).2.2.1⟩
        · rw [List.getElem?_set_ne (fun z => e z.symm)] at hj
          unfold setA
          rw [if_neg e]
          exact (R.cel j c' hj).mono e1 fun a _ => rfl
      · unfold setA at hx
        by_cases e : j = i
        · rw [if_pos e] at hx
          cases hx
        · rw [if_neg e] at hx
          obtain ⟨f1, f2, f3, f4⟩ := R.fr j x hx
          refine ⟨?_, f2, f3, f4⟩
          rw [updL_out fun z => e (R.dj j i x hx (hA x z))]
          exact f1
      · unfold setA at hj hk
        by_cases e : j = i
        · rw [if_pos e] at hj
          cases hj
        · rw [if_neg e] at hj
          by_cases e' : k = i
          · rw [if_pos e'] at hk
            cases hk
          · rw [if_neg e'] at hk
            exact R.dj j k x hj hk
    have h := R.cel i c q
    cases c with
    | own ds =>
      obtain ⟨a, xs, h1, h2, h3, h4⟩ := h
      exact main [a] (.list ds) (.ref a) (fun x hx => by rw [List.mem_singleton.mp hx]; exact h1) h2 fun Fp e1 e2 => ⟨a, xs, rfl, by rw [e2 a List.mem_cons_self]; exact h3, h4.mono e1⟩
    | own2 dss =>
      obtain ⟨a, bs, h1, h2, h3, h4, h5, h6⟩ := h
      refine main (a :: bs) (.list (dss.map .list)) (.ref a) (fun x hx => ?_) h4 fun Fp e1 e2 => ⟨a, _, rfl, by rw [e2 a List.mem_cons_self]; exact h5, own2_sees e1 (fun b hb => e2 b (List.mem_cons_of_mem _ hb)) h6⟩
      rcases List.mem_cons.mp hx with z | z
      · rw [z]; exact h1
      · exact h2 x z
    | _ => exact ⟨F, A, Same.refl _, R⟩
def gFrz (i : Nat) (g : Ev → Out) : Ev → Out := fun ρ => g (frz1 i ρ)
theorem dss_frz {sts : List Stmt} {g : Ev → Out} (i : Nat) (h : DSs X cl W sts g) : DSs X cl W sts (gFrz i g) := PSs_imp h fun D σ H q => by
  obtain ⟨H0, F0, ρ, F, A, R, p⟩ := q
  obtain ⟨F', A', _, R'⟩ := R.frz1 i
  exact ⟨H0, F0, _, F', A', R', p⟩
/-- return x + e, both all of the frame's own -/
def gRetCat2 (i : Nat) (g : Ev → Res (List (List D))) : Ev → Out := fun ρ => match ρ[i]? with
  | some (.own2 dss) => thenO (evN2 g ρ) ρ fun ess => if dss.length + ess.length ≤ big then .rn2 (dss ++ ess) else .bad
  | _ => .bad
theorem ds_retCat2 (i : Nat) {x e : Expr} {bpos : Pos} {g : Ev → Res (List (List D))} (hx : PE X x (tVar i)) (he : DN2 X cl W e g) : DS X cl W (.Return (some (.BinOp x .Add e bpos)) pos) (gRetCat2 i g) := PS_imp (ps_ret (pe_op op_cat hx (dn2_bor he))) fun D σ H q => by
  obtain ⟨H0, F0, ρ, F, A, R, p⟩ := q
  unfold gRetCat2 at p
  cases q : ρ[i]? with
  | none => rw [q] at p; exact p.elim
  | some c =>
    rw [q] at p
    have h := R.cel i c q
    cases c with
    | own2 dss =>
      obtain ⟨a, bs, h1, h2, h3, h4, h5, h6⟩ := h
      refine ⟨.ref a, R.get h4, H0, F0, ρ, F, A, R, fin_exO2 R p fun ess b cs H1 F1 _ g nd hn e o p => ?_⟩
      by_cases hl : dss.length + ess.length ≤ big
      · rw [if_pos hl] at p
        have R1 := R.grow g
        have ha1 : H1 a = some (.lst (bs.map V.ref)) := g.hh.get h5
        have h6' : Own2 X.K F1 H1 dss bs := h6.mono g.ff fun c hc => by
          obtain ⟨zs, ez⟩ := own2_lst h6 c hc
          rw [ez]
          exact g.hh.get ez
        refine ⟨a, b, _, _, rfl, rfl, ha1, e, big_le (by rw [List.length_map, List.length_map, ← own2_length h6, ← own2_length o]; exact hl), fun z hz => ?_⟩
        have g2 := Gr.out (o := .lst (bs.map V.ref ++ cs.map V.ref)) g.fh hz
        have hz0 : H0 z = none := (R.base.hh.trans g.hh).free hz
        have nz : ∀ x, (x ∈ a :: bs ∨ x ∈ b :: cs) → x ≠ z := fun x hx ex => by
          rw [ex] at hx
          rcases hx with hx | hx
          · have hxA : z ∈ A i := by
              rcases List.mem_cons.mp hx with w | w
              · rw [w]; exact h1
              · exact h2 z w
            exact (R1.fr i z hxA).2.2.1 hz
          · rcases List.mem_cons.mp hx with w | w
            · rw [w, e] at hz; cases hz
            · obtain ⟨zs, ez⟩ := own2_lst o z w
              rw [ez] at hz; cases hz
        refine p z (bs ++ cs) _ F1 ((R.base.trans g).trans g2) ?_ (fun x hx => ?_) (by rw [upd_same, List.map_append]) (own2_app (h6'.mono (Same.refl _) fun c hc => upd_ne (nz c (.inl (List.mem_cons_of_mem _ hc)))) (o.mono (Same.refl _) fun c hc => upd_ne (nz c (.inr (List.mem_cons_of_mem _ hc)))))
        · refine List.nodup_cons.mpr ⟨fun hm => ?_, List.nodup_append.mpr ⟨(List.nodup_cons.mp h3).2, (List.nodup_cons.mp nd).2, fun u hu v hv euv => ?_⟩⟩
          · rcases List.mem_append.mp hm with hm | hm
            · exact nz z (.inl (List.mem_cons_of_mem _ hm)) rfl
            · exact nz z (.inr (List.mem_cons_of_mem _ hm)) rfl
          · subst euv
            exact (R.fr i u (h2 u hu)).2.2.1 (hn u (List.mem_cons_of_mem _ hv)).1
        · rcases List.mem_cons.mp hx with w | w
          · rw [w]
            exact ⟨hz0, g.fh.free hz⟩
          · rcases List.mem_append.mp w with w | w
            · obtain ⟨f1, f2, _⟩ := R1.fr i x (h2 x w)
              exact ⟨f2, f1⟩
            · exact ⟨R.base.hh.free (hn x (List.mem_cons_of_mem _ w)).1, (hn x (List.mem_cons_of_mem _ w)).2⟩
      · rw [if_neg hl] at p
        exact p.elim
    | _ => exact p.elim
/-- x[i] in [a, b, ..] of what is known to be flat -/
def flatD : D → Bool
  | .none => true
  | .bool _ => true
  | .int _ => true
  | .str _ => true
  | _ => false
theorem tx_bor2 {f : Ev → Res (List (List D))} : ∀ σ H Q, tO2 K P w cl W (evN2 f) σ H Q → tO2 K P w cl W f σ H Q := fun σ H Q h => by
  obtain ⟨H0, F0, ρ, F, A, R, p⟩ := h
  unfold evN2 at p
  cases q : f ρ with
  | ok d => exact ⟨H0, F0, ρ, F, A, R, by rw [q] at p ⊢; exact p⟩
  | ex c => exact ⟨H0, F0, ρ, F, A, R, by rw [q] at p ⊢; exact p⟩
  | bad =>
    rw [q] at p
    obtain ⟨Fp, e1, e2, _, R2⟩ := R.frz
    refine ⟨H, Fp, frz ρ, Fp, _, R2, ?_⟩
    cases q2 : f (frz ρ) with
    | bad => rw [q2] at p; exact p
    | ex c =>
      rw [q2] at p
      exact fun H' F' g => p H' _ (tupsOf_gr e1 e2 g)
    | ok d =>
      rw [q2] at p
      have p' : PostO2 K cl W σ H F (if noListLL d = true then .ok d else .bad) Q := p
      by_cases hn : noListLL d = true
      · rw [if_pos hn] at p'
        exact fun a bs H' F' g nd h e o => p' a bs H' _ (tupsOf_gr e1 e2 g) nd (fun x hx => ⟨(h x hx).1, tupsOf_none (R.sub.free (h x hx).1) (h x hx).2⟩) e (own2_tups (e1.trans g.ff) hn o)
      · rw [if_neg hn] at p'
        exact p'.elim
theorem draw_noex (ds : List D) (c : Nat) : drawO ds ≠ .ex c := by
  unfold drawO
  split
  · split
    · split <;> exact fun z => by cases z
    · exact fun z => by cases z
  · exact fun z => by cases z
def sLrg (f : Ev → Res D) : Ev → Res D := fun ρ => (f ρ).bind fun d => match d with
  | .int n => if 0 ≤ n ∧ n < 1000000 then .ok (.list (runD 0 n.toNat)) else .bad
  | _ => .bad
theorem de_lrg {f : Ev → Res D} {p2 q : Pos} (hm : X.mg "list" = none) (hm2 : X.mg "range" = none) (hc : X.calm = true) (ha : DE X cl W a f) (hg : Gl X "list" := by rfl) (hg2 : Gl X "range" := by rfl) (na : starEach [a] X.env = (false, eval a X.env) :: starEach [] X.env := by rfl)
    (na2 : starEach [.Call (.Name "range" p2) [a] [] q] X.env = (false, eval (.Call (.Name "range" p2) [a] [] q) X.env) :: starEach [] X.env := by rfl) : DE X cl W (.Call (.Name "list" p) [.Call (.Name "range" p2) [a] [] q] [] pos) (sLrg f) :=
  PE_imp (pe_listRg hc hg hm (prg_1 hg2 hm2 ha na) na2) fun σ H Q q => by
  obtain ⟨H0, F0, ρ, F, A, R, p⟩ := q
  refine ⟨H0, F0, ρ, F, A, R, (Post.bind (S := SD X.K) p).imp fun v H1 ⟨F1, d, _, g1, s1, p1⟩ => ?_⟩
  cases d with
  | int n =>
    have p2 : Post (SD X.K) cl W σ H1 F1 (if 0 ≤ n ∧ n < 1000000 then .ok (.list (runD 0 n.toNat)) else .bad) Q := p1
    by_cases h : 0 ≤ n ∧ n < 1000000
    · rw [if_pos h] at p2
      refine ⟨n, s1, RgOk.of_le (by omega) (by omega) (by omega) (by omega), fun z hz => ?_⟩
      refine Post.newL g1.fh p2 ?_ hz
      have e := runD_sees (K := X.K) (F := F1) n.toNat 0
      unfold rgV
      rw [Int.sub_zero]
      exact e
    · rw [if_neg h] at p2
      exact p2.elim
  | _ => exact p1.elim
theorem hu65 {A : Around} (hr : Room k A) : A.units + 65 < cLine := by
  have := hr.un
  omega
end
end Dn

set_option Elab.async false
set_option linter.all false
set_option maxRecDepth 100000
set_option maxHeartbeats 4000000
namespace Dn
open PySem PySem.Spec PyProof.Rows L2
variable [En]
section
variable {X : Cx} {cl : Nat → Addr} {W : WX} {e tg a b c : Expr} {pos p : Pos} {K : PySem.W.Frag} {P : Program} {w : World} {F F' H H' H0 F0 : Hp} {ρ ρ' : Ev} {σ : L2.St} {A : Nat → List Addr}
theorem opR_or {op : Value → Value → Sem Value} {r r' : R2} (h : OpR X op r) (h' : OpR X op r') : OpR X op (fun x y H Q => r x y H Q ∨ r' x y H Q) := fun pins s σ H x y v u Q I rx ry q => q.elim (h pins s σ H x y v u Q I rx ry) (h' pins s σ H x y v u Q I rx ry)
/-! ### x in a told list or tuple -/
def rInA (K : PySem.W.Frag) (neg : Bool) : R2 := fun x y H Q => ∃ d ds, Dp K H x d ∧ (Dp K H y (.list ds) ∨ Dp K H y (.tuple ds)) ∧ SeqAt.shaped d = true ∧ SeqAt.shaped (.list ds) = true ∧ Q (.bl (if neg then !(ds.any fun z => PyData.eqv z d) else ds.any fun z => PyData.eqv z d)) H
theorem op_inA (hu : X.A.units + 65 < cLine) : OpR X (compareOp .In) (rInA X.K false) := by
  intro pins s σ H x y v u Q I rx ry h
  obtain ⟨d, ds, hd, he, sd, se, q⟩ := h
  obtain ⟨as, r1⟩ := Dp.reads I d x v hd rx
  rcases he with he | he
  · obtain ⟨bs, r2⟩ := Dp.reads I _ y u he ry
    exact SeqAt.in_list_reads r2 r1 (SeqAt.canLay_of_shaped se) (SeqAt.canLay_of_shaped sd) (room_in_shaped sd hu) ⟨.bl _, H, I, rfl, q⟩
  · obtain ⟨bs, r2⟩ := Dp.reads I _ y u he ry
    exact SeqAt.in_tuple_reads r2 r1 (SeqAt.canLay_of_shaped se) (SeqAt.canLay_of_shaped sd) (room_in_shaped sd hu) ⟨.bl _, H, I, rfl, q⟩
theorem op_notInA (hu : X.A.units + 65 < cLine) : OpR X (compareOp .NotIn) (rInA X.K true) := by
  intro pins s σ H x y v u Q I rx ry h
  obtain ⟨d, ds, hd, he, sd, se, q⟩ := h
  obtain ⟨as, r1⟩ := Dp.reads I d x v hd rx
  rcases he with he | he
  · obtain ⟨bs, r2⟩ := Dp.reads I _ y u he ry
    exact SeqAt.notIn_list_reads r2 r1 (SeqAt.canLay_of_shaped se) (SeqAt.canLay_of_shaped sd) (room_in_shaped sd hu) ⟨.bl _, H, I, rfl, q⟩
  · obtain ⟨bs, r2⟩ := Dp.reads I _ y u he ry
    exact SeqAt.notIn_tuple_reads r2 r1 (SeqAt.canLay_of_shaped se) (SeqAt.canLay_of_shaped sd) (room_in_shaped sd hu) ⟨.bl _, H, I, rfl, q⟩
def inB (neg : Bool) (d : D) (ds : List D) : Res D := if (plain d && plain (.list ds) && SeqAt.shaped d && SeqAt.shaped (.list ds)) = true then .ok (.bool (if neg then !(ds.any fun z => PyData.eqv z d) else ds.any fun z => PyData.eqv z d)) else .bad
def oIn (neg : Bool) : D → D → Res D := fun d y => match y with
  | .list ds => inB neg d ds
  | .tuple ds => inB neg d ds
  | _ => .bad
theorem od_in {neg : Bool} : OpD K (rInA K neg) (oIn neg) := by
  intro cl W σ x y v u H F Q e sx sy p
  have go : ∀ ds, (y = .list ds ∨ y = .tuple ds) → Post (SD K) cl W σ H F (inB neg x ds) Q → rInA K neg v u H Q := fun ds hy p => by
    unfold inB at p
    by_cases h : (plain x && plain (.list ds) && SeqAt.shaped x && SeqAt.shaped (.list ds)) = true
    · rw [if_pos h] at p
      rw [Bool.and_eq_true, Bool.and_eq_true, Bool.and_eq_true] at h
      refine ⟨x, ds, Sees.dp e x v h.1.1.1 sx, ?_, h.1.2, h.2, Post.now (S := SD K) e p rfl⟩
      rcases hy with rfl | rfl
      · exact .inl (Sees.dp e _ u h.1.1.2 sy)
      · exact .inr (Sees.dp e _ u h.1.1.2 sy)
    · rw [if_neg h] at p
      exact p.elim
  cases y with
  | list ds => exact go ds (.inl rfl) p
  | tuple ds => exact go ds (.inr rfl) p
  | _ => exact p.elim
/-! ### type(a) is T, as data -/
def sTyIs (T : String) (f : Ev → Res D) : Ev → Res D := fun ρ => (f ρ).bind fun d => if plain d = true then .ok (.bool (decide (tyD d = T))) else match d with
  | .dict [] => .ok (.bool (decide (("dict" : String) = T)))
  | _ => .bad
def rTIs : R2 := fun x y H Q => ∃ a b, x = .ty a ∧ y = .ty b ∧ Q (.bl (decide (a = b))) H
theorem de_tyIs {T : String} {t : Str} {f : Ev → Res D} {pT pn : Pos} (hm : X.mg "type" = none) (hT : X.mg t = none) (hb : bootBuiltins t = some (.type T)) (ha : DE X cl W a f) (hg : Gl X "type" := by rfl) (hg2 : Gl X t := by rfl) (hn : t ≠ "__name__" := by decide) (hdb : (t == ("__debug__" : Str)) = false := by decide)
    (hs : starEach [a] X.env = (false, eval a X.env) :: starEach [] X.env := by rfl) (hv : bootBuiltins "type" = some (.type "type") := by decide +kernel) : DE X cl W (.Compare (.Call (.Name "type" pn) [a] [] p) [.Is] [.Name t pT] pos) (sTyIs T f) := by
  have hc : PE X (.Name t pT) (tC (.ty T)) := pe_bltn hg2 hT hb rfl hn hdb
  refine PE_imp (pe_cmpR op_isTyB (pe_callTy call_type1 hg hm hv (pa_cons ha pa_nil hs) (he := hs)) hc (nomark _)) fun σ H Q q => ?_
  obtain ⟨H0, F0, ρ, F, A, R, p⟩ := q
  refine ⟨H0, F0, ρ, F, A, R, (Post.bind (S := SD X.K) p).imp fun v H1 ⟨F1, x, _, g1, s1, p1⟩ => ?_⟩
  have go : ∀ h : plain x = true ∨ x = .dict [], Post (SD X.K) cl W σ H1 F1 (.ok (.bool (decide (tyD x = T)))) Q → ∃ x' T', [v] = [x'] ∧ TyB X.K H1 x' T' ∧ rTIs (.ty T') (.ty T) H1 Q := fun h q => by
    refine ⟨v, tyD x, rfl, tyB_sees g1.fh s1 h, tyD x, T, rfl, rfl, ?_⟩
    exact Post.now (S := SD X.K) g1.fh q rfl
  by_cases hp : plain x = true
  · rw [if_pos hp] at p1
    exact go (.inl hp) p1
  · rw [if_neg hp] at p1
    cases x with
    | dict kvs =>
      cases kvs with
      | nil => exact go (.inr rfl) p1
      | cons _ _ => exact p1.elim
    | _ => exact p1.elim
/-! ### sets of the frame's own -/
def gNewSi (i : Nat) : Ev → Out := fun ρ => .nx (ρ.set i (.si []))
def gNewSp (i : Nat) : Ev → Out := fun ρ => .nx (ρ.set i (.sp []))
theorem ds_newSi {st : Stmt} {i : Nat} (h : PS X st (tAsg (tCB (rSet0 X.w) tNil) (gName i))) : DS X cl W st (gNewSi i) := PS_imp h fun D σ H q => by
  obtain ⟨H0, F0, ρ, F, A, R, p⟩ := q
  refine ⟨rfl, fun a ha => ?_⟩
  refine p _ _ _ _ ((R.grow (Gr.out R.sub ha)).store (as := [a]) ⟨a, fun _ => false, 0, List.mem_cons_self, rfl, upd_same, Nat.le_refl _, fun i => by simp⟩ (fun x hx => ?_) fun j x hx hj => ?_)
  · rw [List.mem_singleton.mp hx]
    exact ⟨R.sub.free ha, R.base.hh.free ha, (by rw [upd_same]; exact fun z => (by cases z)), by rw [upd_same]; exact fun z => z⟩
  · rw [List.mem_singleton.mp hx] at hj
    exact absurd hj (R.notA ha j)
theorem ds_newSp {st : Stmt} {i : Nat} (h : PS X st (tAsg (tCB (rSet0B X.prog X.w) tNil) (gName i))) : DS X cl W st (gNewSp i) := PS_imp h fun D σ H q => by
  obtain ⟨H0, F0, ρ, F, A, R, p⟩ := q
  refine ⟨rfl, fun a ha => ?_⟩
  refine p _ _ _ _ ((R.grow (Gr.out R.sub ha)).store (as := [a]) ⟨a, [], List.mem_cons_self, rfl, upd_same, Nat.le_refl _, fun _ z => (nomatch z), fun k => by simp⟩ (fun x hx => ?_) fun j x hx hj => ?_)
  · rw [List.mem_singleton.mp hx]
    exact ⟨R.sub.free ha, R.base.hh.free ha, (by rw [upd_same]; exact fun z => (by cases z)), by rw [upd_same]; exact fun z => z⟩
  · rw [List.mem_singleton.mp hx] at hj
    exact absurd hj (R.notA ha j)
/-- k in x -/
def inSi (c : Option C) (d : D) : Res D := match c, d with
  | some (.si ks), .int k => .ok (.bool (decide (k ∈ ks)))
  | some (.sp ks), .tuple ds => (match intsO ds with
    | some ns => .ok (.bool (decide (ns ∈ ks)))
    | none => .bad)
  | _, _ => .bad
def sInS (i : Nat) (f : Ev → Res D) : Ev → Res D := fun ρ => (f ρ).bind fun d => inSi (ρ[i]?) d
theorem sees_tupI {ds : List D} {ns : List Int} {v : V} (h : intsO ds = some ns) (s : Sees K F (.tuple ds) v) : ∃ a, v = .ref a ∧ F a = some (.tup (ns.map V.int)) := by
  obtain ⟨a, xs, rfl, ha, hs⟩ := s
  rw [intsO_eq h] at hs
  have ex := hs.ints
  subst ex
  exact ⟨a, rfl, ha⟩
theorem dt_inS {i : Nat} {f : Ev → Res D} {x : Expr} (hu : X.A.units + 65 < cLine) (ha : DE X cl W a f) (hx : PE X x (tVar i)) (h1 : behindInMarks .In x = false := by rfl) : DT X cl W (.Compare a [.In] [x] pos) (sT (sInS i f)) :=
  PT_imp (pt_cmpR (opR_or or_sin (or_inB (by omega))) ha hx h1) fun σ H Q q => tTest_imp (t' := tX X.K X.prog X.w (SD X.K) cl W (sInS i f)) (fun σ H Q q => by
    obtain ⟨H0, F0, ρ, F, A, R, p⟩ := q
    refine ⟨H0, F0, ρ, F, A, R, (Post.bind (S := SD X.K) p).imp fun v H1 ⟨F1, d, _, g1, s1, p1⟩ => ?_⟩
    have R1 := R.grow g1
    cases q : ρ[i]? with
    | none => rw [q] at p1; exact p1.elim
    | some c =>
      rw [q] at p1
      have h := R1.cel i c q
      cases c with
      | si ks =>
        obtain ⟨a, S, n, h1, h2, h3, h4, h5⟩ := h
        cases d with
        | int k =>
          have p2 : Post (SD X.K) cl W σ H1 F1 (.ok (.bool (decide (k ∈ ks)))) Q := p1
          exact ⟨.ref a, R.get h2, .inl ⟨k, a, S, n, s1, rfl, h3, by rw [h5 k]; exact Post.now (S := SD X.K) g1.fh p2 rfl⟩⟩
        | _ => exact p1.elim
      | sp ks =>
        obtain ⟨a, L, h1, h2, h3, h4, h5, h6⟩ := h
        cases d with
        | tuple ds =>
          have p2 : Post (SD X.K) cl W σ H1 F1 (match intsO ds with | some ns => .ok (.bool (decide (ns ∈ ks))) | none => .bad) Q := p1
          cases q2 : intsO ds with
          | none => rw [q2] at p2; exact p2.elim
          | some ns =>
            rw [q2] at p2
            obtain ⟨b, rfl, hb⟩ := sees_tupI q2 s1
            refine ⟨.ref a, R.get h2, .inr ⟨b, ns, a, L, rfl, rfl, SqT.of (g1.fh _ _ hb), h3, fun p hp => SqT.of (g1.fh _ _ (h5 p hp)), ?_⟩⟩
            rw [show decide (ns ∈ L.map fun p : Addr × List Int => p.2) = decide (ns ∈ ks) from decide_eq_decide.mpr (h6 ns)]
            exact Post.now (S := SD X.K) g1.fh p2 rfl
        | _ => exact p1.elim
      | _ => exact p1.elim) σ H Q (tx_test σ H Q q)
def isSi (ρ : Ev) (i : Nat) : Bool := match ρ[i]? with
  | some (.si _) => true
  | _ => false
def isSp (ρ : Ev) (i : Nat) : Bool := match ρ[i]? with
  | some (.sp _) => true
  | _ => false
/-- x.add(k) -/
def gAddI (i : Nat) (f : Ev → Res D) : Ev → Out := fun ρ => if isSi ρ i = true then thenO (f ρ) ρ fun d => match ρ[i]?, d with
  | some (.si ks), .int k => if ks.length < 900 then .nx (ρ.set i (.si (k :: ks))) else .bad
  | _, _ => .bad else .bad
def gAddP (i : Nat) (f : Ev → Res D) : Ev → Out := fun ρ => if isSp ρ i = true then thenO (f ρ) ρ fun d => match ρ[i]?, d with
  | some (.sp ks), .tuple ds => (match intsO ds with
    | some ns => if ks.length < 900 then .nx (ρ.set i (.sp (ns :: ks))) else .bad
    | none => .bad)
  | _, _ => .bad else .bad
theorem ds_addI {i : Nat} {o x : Expr} {apos cpos : Pos} {f : Ev → Res D} (ho : PE X o (tVar i)) (hx : DE X cl W x f) (h : PE X (.Call (.Attribute o "add" apos) [x] [] cpos) (tSAdd X.w (tVar i) (tCons (tX X.K X.prog X.w (SD X.K) cl W f) tNil)))
    (hs : swapsWith (.Call (.Attribute o "add" apos) [x] [] cpos) none pos.line X.env = pure false := by rfl) : DS X cl W (.Expr (.Call (.Attribute o "add" apos) [x] [] cpos) pos) (gAddI i f) := PS_imp (ps_expr h hs) fun D σ H q => by
  obtain ⟨H0, F0, ρ, F, A, R, p⟩ := q
  unfold gAddI at p
  by_cases hw : isSi ρ i = true
  case neg => rw [if_neg hw] at p; exact p.elim
  rw [if_pos hw] at p
  unfold isSi at hw
  cases q : ρ[i]? with
  | none => rw [q] at hw; cases hw
  | some c =>
    cases c with
    | si ks =>
      obtain ⟨a, S, n, e1, e2, e3, e4, e5⟩ := R.cel i _ q
      refine ⟨.ref a, R.get e2, ⟨a, S, n, rfl, e3⟩, ?_⟩
      refine ⟨H0, F0, ρ, F, A, R, fin_ex (S := SD X.K) R p fun d v H1 F1 _ g1 s1 p1 => ?_⟩
      have R1 := R.grow g1
      obtain ⟨a', S', n', y1, y2, y3, y4, y5⟩ := R1.cel i _ q
      rw [q] at p1
      cases d with
      | int k =>
        have p2 : Fin X.K X.prog X.w cl W H0 F0 D (if ks.length < 900 then .nx (ρ.set i (.si (k :: ks))) else .bad) := p1
        by_cases hl : ks.length < 900
        · rw [if_pos hl] at p2
          have ea : a' = a := by
            have z := y2.symm.trans e2
            injection z with z; injection z
          subst ea
          refine ⟨a', k, S', n', rfl, by rw [show v = V.int k from s1], y3, by show n' + 1 < 4096; omega, ?_⟩
          refine p2 _ _ _ _ (R1.change (c' := .si (k :: ks)) y1 (by exact fun z => z) ⟨a', _, _, y1, y2, upd_same, ?_, fun j => ?_⟩)
          · show (if S' k = true then n' else n' + 1) ≤ ks.length + 1
            split <;> omega
          · show (S' j || decide (j = k)) = decide (j ∈ k :: ks)
            rw [y5 j, ← Bool.decide_or]
            exact decide_eq_decide.mpr (by rw [List.mem_cons]; exact or_comm)
        · rw [if_neg hl] at p2
          exact p2.elim
      | _ => exact p1.elim
    | _ => rw [q] at hw; cases hw
theorem ds_addP {i : Nat} {o x : Expr} {apos cpos : Pos} {f : Ev → Res D} (ho : PE X o (tVar i)) (hx : DE X cl W x f) (h : PE X (.Call (.Attribute o "add" apos) [x] [] cpos) (tAddB X.K X.prog X.w (tVar i) (tCons (tX X.K X.prog X.w (SD X.K) cl W f) tNil)))
    (hs : swapsWith (.Call (.Attribute o "add" apos) [x] [] cpos) none pos.line X.env = pure false := by rfl) : DS X cl W (.Expr (.Call (.Attribute o "add" apos) [x] [] cpos) pos) (gAddP i f) := PS_imp (ps_expr h hs) fun D σ H q => by
  obtain ⟨H0, F0, ρ, F, A, R, p⟩ := q
  unfold gAddP at p
  by_cases hw : isSp ρ i = true
  case neg => rw [if_neg hw] at p; exact p.elim
  rw [if_pos hw] at p
  unfold isSp at hw
  cases q : ρ[i]? with
  | none => rw [q] at hw; cases hw
  | some c =>
    cases c with
    | sp ks =>
      obtain ⟨a, L, e1, e2, e3, e4, e5, e6⟩ := R.cel i _ q
      refine ⟨.ref a, R.get e2, ⟨a, L, rfl, e3⟩, ?_⟩
      refine ⟨H0, F0, ρ, F, A, R, fin_ex (S := SD X.K) R p fun d v H1 F1 _ g1 s1 p1 => ?_⟩
      have R1 := R.grow g1
      obtain ⟨a', L', y1, y2, y3, y4, y5, y6⟩ := R1.cel i _ q
      rw [q] at p1
      cases d with
      | tuple ds =>
        have p2 : Fin X.K X.prog X.w cl W H0 F0 D (match intsO ds with | some ns => if ks.length < 900 then .nx (ρ.set i (.sp (ns :: ks))) else .bad | none => .bad) := p1
        cases q2 : intsO ds with
        | none => rw [q2] at p2; exact p2.elim
        | some ns =>
          rw [q2] at p2
          have p3 : Fin X.K X.prog X.w cl W H0 F0 D (if ks.length < 900 then .nx (ρ.set i (.sp (ns :: ks))) else .bad) := p2
          by_cases hl : ks.length < 900
          · rw [if_pos hl] at p3
            have ea : a' = a := by
              have z := y2.symm.trans e2
              injection z with z; injection z
            subst ea
            obtain ⟨b, rfl, hb⟩ := sees_tupI q2 s1
            refine ⟨a', b, ns, L', rfl, rfl, y3, by omega, SqT.of (g1.fh _ _ hb), fun p hp => SqT.of (g1.fh _ _ (y5 p hp)), fun L2 c1 c2 c3 => ?_⟩
            refine p3 _ _ _ _ (R1.change (c' := .sp (ns :: ks)) y1 (by exact fun z => z) ⟨a', L2, y1, y2, upd_same, ?_, fun p hp => ?_, fun k => ?_⟩)
            · show L2.length ≤ ks.length + 1
              omega
            · rcases c1 p hp with rfl | z
              · exact hb
              · exact y5 p z
            · rw [List.mem_cons]
              exact (c2 k).trans (or_congr_right (y6 k))
          · rw [if_neg hl] at p3
            exact p3.elim
      | _ => exact p1.elim
    | _ => rw [q] at hw; cases hw
end
end Dn

set_option Elab.async false
set_option linter.all false
set_option maxRecDepth 100000
set_option maxHeartbeats 4000000
namespace Dn
open PySem PySem.Spec PyProof.Rows L2
variable [En]
section
variable {X : Cx} {cl : Nat → Addr} {W : WX} {e tg a b c : Expr} {pos p : Pos} {K : PySem.W.Frag} {P : Program} {w : World} {F F' H H' H0 F0 : Hp} {ρ ρ' : Ev} {σ : L2.St} {A : Nat → List Addr}
theorem hu3 {k : Nat} {A : Around} (hr : Room k A) : A.units + 3 < cLine := by
  have := hu65 hr
  omega
/-- sorted(..), a tuple of ints too -/
def oSort2 : List D → Res D
  | [.tuple ds] => (match intsO ds with
    | some ns => .ok (.list ((sortI ns).map .int))
    | none => .bad)
  | xs => oSort xs
theorem cd_sort2 : CallD K (fun vs H Q => (rSortedPO K vs H Q ∨ rSortedI K vs H Q) ∨ rSortedIT K vs H Q) oSort2 := by
  intro cl W σ ds vs H F Q e s p
  by_cases h : ∃ es, ds = [.tuple es]
  · obtain ⟨es, rfl⟩ := h
    match vs, s with
    | [v], s =>
      obtain ⟨a, xs, rfl, ha, hs⟩ := s.1
      have p' : Post (SD K) cl W σ H F (match intsO es with | some ns => .ok (.list ((sortI ns).map .int)) | none => .bad) Q := p
      cases q2 : intsO es with
      | none => rw [q2] at p'; exact p'.elim
      | some ns =>
        rw [q2] at p'
        rw [intsO_eq q2] at hs
        have ex := hs.ints
        subst ex
        refine .inr ⟨a, ns, rfl, SqT.of (e _ _ ha), fun ns' t h1 h2 ht => ?_⟩
        have hm : ns' = sortI ns := srtI_uniq (h1.trans (sortI_perm ns).symm) h2 (sortI_srt ns)
        subst hm
        exact Post.newL e p' (SeesL.of_ints _) ht
  · refine .inl (cd_sort cl W σ ds vs H F Q e s ?_)
    have e2 : oSort2 ds = oSort ds := by
      unfold oSort2
      split
      · exact absurd ⟨_, rfl⟩ h
      · rfl
    rw [← e2]
    exact p
/-- x, y = a, b: two new lists -/
def gPar2N (i j : Nat) (f g : Ev → Res (List D)) : Ev → Out := fun ρ => thenO (f ρ) ρ fun d1 => thenO (g ρ) ρ fun d2 => .nx ((ρ.set i (.own d1)).set j (.own d2))
theorem ds_par2N {st : Stmt} {i j : Nat} {f g : Ev → Res (List D)} (h : PS X st (tPar i j (tCons (tO X.K X.prog X.w cl W f) (tCons (tO X.K X.prog X.w cl W g) tNil)))) : DS X cl W st (gPar2N i j f g) := PS_imp h fun D σ H q => by
  obtain ⟨H0, F0, ρ, F, A, R, p⟩ := q
  refine ⟨H0, F0, ρ, F, A, R, fin_exO R p fun ds a xs H1 F1 _ g1 h1 h1' e1 s1 p1 => ?_⟩
  have R1 := R.grow g1
  refine ⟨H0, F0, ρ, F1, A, R1, fin_exO R1 p1 fun es b ys H2 F2 _ g2 h2 h2' e2 s2 p2 => ?_⟩
  have R2 := R1.grow g2
  have ea : H2 a = some (.lst xs) := g2.hh.get e1
  have fa : F2 a = none := by
    cases q : F2 a with
    | none => rfl
    | some o =>
      rcases g2.nw a (by rw [q]; exact fun z => by cases z) with z | z | z
      · exact absurd h1' z
      · rw [e1] at z; cases z
      · rw [e1] at z; exact z.elim
  have hb : H b = none := g1.hh.free h2
  have nab : b ≠ a := fun z => by rw [z, e1] at h2; cases h2
  refine ⟨.ref a, .ref b, rfl, ?_⟩
  have R3 := R2.setOwn (i := i) (R.base.hh.free h1) (R.notA h1) fa ea (s1.mono g2.ff)
  refine p2 _ _ _ _ (R3.setOwn (R.base.hh.free hb) (fun k z => ?_) h2' e2 s2)
  unfold setA at z
  split at z
  · exact nab (List.mem_singleton.mp z)
  · exact R.notA hb k z
end
end Dn

set_option Elab.async false
set_option linter.all false
set_option maxRecDepth 100000
set_option maxHeartbeats 8000000
namespace Dn
open PySem PySem.Spec PyProof.Rows L2
variable [En]
/-! ### steps -/
theorem seq_nx {g h : Ev → Out} {r r' : Ev} {o : Out} (e : g r = .nx r') (e2 : h r' = o) : gSeq g h r = o := by
  unfold gSeq
  rw [e]
  exact e2
theorem seq_rt {g h : Ev → Out} {r : Ev} {d : D} (e : g r = .rt d) : gSeq g h r = .rt d := by
  unfold gSeq
  rw [e]
theorem if_f {t : Ev → Res Bool} {g h : Ev → Out} {r : Ev} {o : Out} (e : t r = .ok false) (e2 : h r = o) : gIf t g h r = o := by
  unfold gIf
  rw [e]
  exact e2
theorem if_t {t : Ev → Res Bool} {g h : Ev → Out} {r : Ev} {o : Out} (e : t r = .ok true) (e2 : g r = o) : gIf t g h r = o := by
  unfold gIf
  rw [e]
  exact e2
theorem drop_at {f : Ev → Res D} {r : Ev} {d : D} (e : f r = .ok d) : gDrop f r = .nx r := by
  unfold gDrop
  rw [e]
  rfl
theorem set_at {f : Ev → Res D} {r : Ev} {d : D} {i : Nat} (e : f r = .ok d) : gSet i f r = .nx (r.set i (.d d)) := by
  unfold gSet
  rw [e]
  rfl
theorem for_at {src : Ev → Res (List D)} {bnd : D → Ev → Option Ev} {g : Ev → Out} {r : Ev} {ds : List D} {o : Out} (e : src r = .ok ds) (e2 : forO bnd g ds r = o) : gFor src bnd g r = o := by
  unfold gFor
  rw [e]
  exact e2
theorem for_inv {α : Type} {bnd : D → Ev → Option Ev} {g : Ev → Out} (enc : α → D) (Iv : List α → Ev → Prop) : ∀ (xs done : List α) (r : Ev),
    (∀ (dn : List α) (x : α) (rest : List α) (r : Ev), done ++ xs = dn ++ x :: rest → Iv dn r → ∃ r1 r2, bnd (enc x) r = some r1 ∧ (g r1 = .nx r2 ∨ g r1 = .ct r2) ∧ Iv (dn ++ [x]) r2) → Iv done r →
    ∃ r', forO bnd g (xs.map enc) r = .nx r' ∧ Iv (done ++ xs) r'
  | [], done, r, _, h => ⟨r, rfl, by rw [List.append_nil]; exact h⟩
  | x :: xs, done, r, st, h => by
    obtain ⟨r1, r2, e1, e2, h2⟩ := st done x xs r rfl h
    obtain ⟨r', e3, h3⟩ := for_inv enc Iv xs (done ++ [x]) r2 (fun dn y rest r0 q => st dn y rest r0 (by rw [← q, List.append_assoc]; rfl)) h2
    refine ⟨r', ?_, by rw [List.append_assoc] at h3; exact h3⟩
    show forO bnd g (enc x :: xs.map enc) r = _
    unfold forO
    rw [e1]
    rcases e2 with e2 | e2
    · simp only [e2]
      exact e3
    · simp only [e2]
      exact e3
theorem comp_at {α : Type} {bnd : D → Ev → Option Ev} {t : Ev → Res Bool} {e : Ev → Res D} {r : Ev} (enc : α → D) (p : α → Bool) (f : α → D) : ∀ xs : List α,
    (∀ x ∈ xs, ∃ r', bnd (enc x) r = some r' ∧ t r' = .ok (p x) ∧ (p x = true → e r' = .ok (f x))) → compO bnd t e r (xs.map enc) = some ((xs.filter p).map f)
  | [], _ => rfl
  | x :: xs, h => by
    obtain ⟨r', e1, e2, e3⟩ := h x List.mem_cons_self
    have ih := comp_at enc p f xs fun y hy => h y (List.mem_cons_of_mem _ hy)
    show compO bnd t e r (enc x :: xs.map enc) = _
    unfold compO
    rw [e1]
    simp only [e2]
    cases hp : p x with
    | true =>
      simp only [e3 hp, ih, List.filter_cons, hp]
      rfl
    | false =>
      simp only [ih, List.filter_cons, hp]
      rfl
theorem comp_all {α : Type} {bnd : D → Ev → Option Ev} {e : Ev → Res D} {r : Ev} (enc : α → D) (f : α → D) (xs : List α)
    (h : ∀ x ∈ xs, ∃ r', bnd (enc x) r = some r' ∧ e r' = .ok (f x)) : compO bnd bYes e r (xs.map enc) = some (xs.map f) := by
  have q := comp_at (t := bYes) enc (fun _ => true) f xs fun x hx => by
    obtain ⟨r', e1, e2⟩ := h x hx
    exact ⟨r', e1, rfl, fun _ => e2⟩
  rw [q, List.filter_eq_self.mpr fun _ _ => rfl]
theorem ncomp_at {src : Ev → Res (List D)} {bnd : D → Ev → Option Ev} {t : Ev → Res Bool} {e : Ev → Res D} {vs : List Nat} {r : Ev} {ds es : List D} (h1 : src r = .ok ds) (h2 : ds.length ≤ big)
    (h3 : compO bnd t e (wipeC r vs) ds = some es) : nComp src bnd t e vs r = .ok es := by
  unfold nComp
  rw [h1]
  show (if ds.length ≤ big then _ else _) = _
  rw [if_pos h2, h3]
  rfl
/-! ### games and rounds -/
abbrev Gm := Int × Int
def gsD (gs : List Gm) : D := .list (gs.map tup2)
def rsD (R : List (List Gm)) : D := .list (R.map gsD)
def clubsOf (gs : List Gm) : List Int := gs.flatMap fun g => [g.1, g.2]
/-- a round as it is wanted -/
structure GoodR (c : Int) (gs : List Gm) : Prop where
  game : ∀ g ∈ gs, (0 ≤ g.1 ∧ g.1 < c) ∧ (0 ≤ g.2 ∧ g.2 < c) ∧ g.1 ≠ g.2
  once : (clubsOf gs).Nodup
  few : gs.length ≤ 10
structure GoodRs (c : Int) (R : List (List Gm)) : Prop where
  all : ∀ gs ∈ R, GoodR c gs
  once : R.flatten.Nodup
  few : R.length ≤ 40
theorem eqv_int (a b : Int) : PyData.eqv (.int a) (.int b) = decide (a = b) := by
  first
    | rfl
    | (show (a == b) = decide (a = b); rw [Bool.beq_eq_decide_eq])
theorem eq_int (a b : Int) : oEq (.int a) (.int b) = .ok (.bool (decide (a = b))) := by
  unfold oEq
  rw [if_pos (by rfl), eqv_int]
theorem ne_int (a b : Int) : oNe (.int a) (.int b) = .ok (.bool (!decide (a = b))) := by
  unfold oNe
  rw [if_pos (by rfl), eqv_int]
theorem clubs_cons (g : Gm) (gs : List Gm) : clubsOf (g :: gs) = g.1 :: g.2 :: clubsOf gs := rfl
theorem clubs_app (a b : List Gm) : clubsOf (a ++ b) = clubsOf a ++ clubsOf b := by
  unfold clubsOf
  rw [List.flatMap_append]
theorem clubs_len : ∀ gs : List Gm, (clubsOf gs).length = 2 * gs.length
  | [] => rfl
  | g :: gs => by
    rw [clubs_cons, List.length_cons, List.length_cons, List.length_cons, clubs_len gs]
    omega
theorem flat_len : ∀ R : List (List Gm), (∀ gs ∈ R, gs.length ≤ 10) → R.flatten.length ≤ 10 * R.length
  | [], _ => Nat.zero_le _
  | gs :: R, h => by
    have h1 := h gs List.mem_cons_self
    have h2 := flat_len R fun x hx => h x (List.mem_cons_of_mem _ hx)
    rw [List.flatten_cons, List.length_append, List.length_cons]
    omega
def key (g : Gm) : List Int := [g.1, g.2]
theorem key_inj {g h : Gm} (e : key g = key h) : g = h := by
  injection e with e1 e2
  injection e2 with e2
  exact Prod.ext e1 e2
/-! ### data without a dict, of small depth -/
structure Fine (n : Nat) (d : D) : Prop where
  pl : Dn.plain d = true
  lay : d.canLay0 = true
  deep : d.depth ≤ n
theorem fine_int (n : Nat) (i : Int) : Fine n (.int i) := ⟨rfl, rfl, Nat.zero_le _⟩
theorem fine_none (n : Nat) : Fine n .none := ⟨rfl, rfl, Nat.zero_le _⟩
theorem fine_bool (n : Nat) (b : Bool) : Fine n (.bool b) := ⟨rfl, rfl, Nat.zero_le _⟩
theorem fine_all {n : Nat} : ∀ ds : List D, (∀ d ∈ ds, Fine n d) → plainL ds = true ∧ PyData.canLayAll0 ds = true ∧ PyData.depthAll ds ≤ n
  | [], _ => ⟨rfl, rfl, Nat.zero_le _⟩
  | d :: ds, h => by
    obtain ⟨a1, a2, a3⟩ := h d List.mem_cons_self
    obtain ⟨b1, b2, b3⟩ := fine_all ds fun x hx => h x (List.mem_cons_of_mem _ hx)
    refine ⟨?_, ?_, ?_⟩
    · show (Dn.plain d && plainL ds) = true
      rw [a1, b1]
      rfl
    · show (d.canLay0 && PyData.canLayAll0 ds) = true
      rw [a2, b2]
      rfl
    · show max d.depth (PyData.depthAll ds) ≤ n
      omega
theorem fine_list {n : Nat} {ds : List D} (h : ∀ d ∈ ds, Fine n d) : Fine (n + 1) (.list ds) := by
  obtain ⟨a1, a2, a3⟩ := fine_all ds h
  exact ⟨a1, a2, Nat.succ_le_succ a3⟩
theorem fine_tuple {n : Nat} {ds : List D} (h : ∀ d ∈ ds, Fine n d) : Fine (n + 1) (.tuple ds) := by
  obtain ⟨a1, a2, a3⟩ := fine_all ds h
  exact ⟨a1, a2, Nat.succ_le_succ a3⟩
theorem Fine.up {n m : Nat} {d : D} (h : Fine n d) (hm : n ≤ m) : Fine m d := ⟨h.pl, h.lay, Nat.le_trans h.deep hm⟩
theorem Fine.sh {n : Nat} {d : D} (h : Fine n d) (hm : n ≤ 64) : (Dn.plain d && SeqAt.shaped d) = true := by
  rw [h.pl]
  show (d.canLay0 && decide (d.depth ≤ 64)) = true
  rw [h.lay, decide_eq_true (Nat.le_trans h.deep hm)]
  rfl
theorem oEq_at {d e : D} {n m : Nat} (h : Fine n d) (k : Fine m e) (hn : n ≤ 64) (hm : m ≤ 64) : oEq d e = .ok (.bool (PyData.eqv d e)) := by
  unfold oEq
  have a := h.sh hn
  have b := k.sh hm
  rw [Bool.and_eq_true] at a b
  rw [if_pos (by rw [a.1, a.2, b.1, b.2]; rfl)]
theorem oNe_at {d e : D} {n m : Nat} (h : Fine n d) (k : Fine m e) (hn : n ≤ 64) (hm : m ≤ 64) : oNe d e = .ok (.bool (!PyData.eqv d e)) := by
  unfold oNe
  have a := h.sh hn
  have b := k.sh hm
  rw [Bool.and_eq_true] at a b
  rw [if_pos (by rw [a.1, a.2, b.1, b.2]; rfl)]
theorem eqv_same {d : D} {n : Nat} (h : Fine n d) : PyData.eqv d d = true := SeqAt.eqv_refl d h.lay
theorem oNe_same {d : D} {n : Nat} (h : Fine n d) (hn : n ≤ 64) : oNe d d = .ok (.bool false) := by
  rw [oNe_at h h hn hn, eqv_same h]
  rfl
theorem oEq_same {d : D} {n : Nat} (h : Fine n d) (hn : n ≤ 64) : oEq d d = .ok (.bool true) := by
  rw [oEq_at h h hn hn, eqv_same h]
theorem fine_tup2 (n : Nat) (g : PII) : Fine (n + 1) (tup2 g) := fine_tuple fun d hd => by
  rcases List.mem_cons.mp hd with e | hd
  · rw [e]
    exact fine_int _ _
  · rw [List.mem_singleton.mp hd]
    exact fine_int _ _
theorem fine_gs (n : Nat) (gs : List PII) : Fine (n + 2) (.list (gs.map tup2)) := fine_list fun d hd => by
  obtain ⟨g, _, e⟩ := List.mem_map.mp hd
  rw [← e]
  exact fine_tup2 _ _
theorem eqv_ints : ∀ xs ys : List Int, PyData.eqvAll (xs.map .int) (ys.map .int) = decide (xs = ys)
  | [], [] => by rfl
  | [], _ :: _ => by
    rw [decide_eq_false (by simp)]
    rfl
  | _ :: _, [] => by
    rw [decide_eq_false (by simp)]
    rfl
  | x :: xs, y :: ys => by
    show ((x == y) && PyData.eqvAll (xs.map .int) (ys.map .int)) = _
    rw [eqv_ints xs ys, Bool.beq_eq_decide_eq, ← Bool.decide_and]
    exact decide_eq_decide.mpr (by rw [List.cons.injEq])
theorem eqv_tup2 (g h : PII) : PyData.eqv (tup2 g) (tup2 h) = decide (g = h) := by
  show PyData.eqvAll ([g.1, g.2].map .int) ([h.1, h.2].map .int) = _
  rw [eqv_ints]
  exact decide_eq_decide.mpr ⟨fun e => by injection e with e1 e2; injection e2 with e2; exact Prod.ext e1 e2, fun e => by rw [e]⟩
theorem fine_rs (n : Nat) (R : List (List Gm)) : Fine (n + 3) (rsD R) := fine_list fun d hd => by
  obtain ⟨g, _, e⟩ := List.mem_map.mp hd
  rw [← e]
  exact fine_gs _ _
theorem ty_gs {f : Ev → Res D} {r : Ev} {gs : List Gm} (h : f r = .ok (gsD gs)) : sTyNot "list" f r = .ok false := by
  unfold sTyNot
  rw [h]
  show (if Dn.plain (gsD gs) = true then Res.ok (tyD (gsD gs) != "list") else _) = _
  rw [if_pos (show Dn.plain (gsD gs) = true from (fine_gs 0 gs).pl)]
  rfl
theorem ty_rs {f : Ev → Res D} {r : Ev} {R : List (List Gm)} (h : f r = .ok (rsD R)) : sTyNot "list" f r = .ok false := by
  unfold sTyNot
  rw [h]
  show (if Dn.plain (rsD R) = true then Res.ok (tyD (rsD R) != "list") else _) = _
  rw [if_pos (fine_rs 0 R).pl]
  rfl
end Dn

set_option Elab.async false
set_option linter.all false
set_option maxRecDepth 100000
set_option maxHeartbeats 8000000
namespace Dn
open PySem PySem.Spec PyProof.Rows L2
variable [En]
/-! ### slices, enumerate, zip -/
theorem cut_from (xs : List D) (i : Nat) : cutD xs (some (i : Int)) none = xs.drop i := by
  unfold cutD
  rw [HT.sIx_none]
  have e : HT.sIx xs.length 0 (some (i : Int)) = min i xs.length := HT.sIx_nat _ _ _
  rw [e]
  by_cases h : i ≤ xs.length
  · rw [Nat.min_eq_left h]
    exact List.take_of_length_le (by rw [List.length_drop]; omega)
  · rw [Nat.min_eq_right (by omega), List.drop_eq_nil_of_le (by omega : xs.length ≤ i), List.drop_eq_nil_of_le (Nat.le_refl _), List.take_nil]
theorem cut_to (xs : List D) (i : Nat) : cutD xs none (some (i : Int)) = xs.take i := by
  unfold cutD
  rw [HT.sIx_none]
  have e : HT.sIx xs.length xs.length (some (i : Int)) = min i xs.length := HT.sIx_nat _ _ _
  rw [e, List.drop_zero, Nat.sub_zero]
  by_cases h : i ≤ xs.length
  · rw [Nat.min_eq_left h]
  · rw [Nat.min_eq_right (by omega), List.take_of_length_le (Nat.le_refl _), List.take_of_length_le (by omega : xs.length ≤ i)]
def encE {α : Type} (enc : α → D) (q : Nat × α) : D := .tuple [.int (q.1 : Int), enc q.2]
def numF {α : Type} : Nat → List α → List (Nat × α)
  | _, [] => []
  | n, x :: xs => (n, x) :: numF (n + 1) xs
theorem enum_map {α : Type} (enc : α → D) : ∀ (xs : List α) (n : Nat), enumD n (xs.map enc) = (numF n xs).map (encE enc)
  | [], _ => rfl
  | x :: xs, n => by
    show _ :: enumD (n + 1) (xs.map enc) = _ :: _
    rw [enum_map enc xs]
    rfl
theorem numF_len {α : Type} : ∀ (xs : List α) (n : Nat), (numF n xs).length = xs.length
  | [], _ => rfl
  | x :: xs, n => congrArg (· + 1) (numF_len xs (n + 1))
theorem zip_map {α β : Type} (f : α → D) (g : β → D) : ∀ (xs : List α) (ys : List β), zipD (xs.map f) (ys.map g) = (xs.zip ys).map fun q => .tuple [f q.1, g q.2]
  | [], [] => rfl
  | [], _ :: _ => rfl
  | _ :: _, [] => rfl
  | x :: xs, y :: ys => by
    show _ :: zipD (xs.map f) (ys.map g) = _ :: _
    rw [zip_map f g xs ys]
    rfl
/-! ### places, or none -/
def oD : Option Int → D
  | none => .none
  | some i => .int i
theorem fine_oD (n : Nat) (o : Option Int) : Fine n (oD o) := by
  cases o with
  | none => exact fine_none n
  | some i => exact fine_int n i
theorem eq_oD (a b : Option Int) : oEq (oD a) (oD b) = .ok (.bool (decide (a = b))) := by
  rw [oEq_at (fine_oD 0 a) (fine_oD 0 b) (by decide) (by decide)]
  cases a with
  | none =>
    cases b with
    | none => rfl
    | some j => rw [decide_eq_false (by simp)]; rfl
  | some i =>
    cases b with
    | none => rw [decide_eq_false (by simp)]; rfl
    | some j =>
      show Res.ok (PyData.bool (PyData.eqv (.int i) (.int j))) = _
      rw [eqv_int, decide_eq_decide.mpr (show i = j ↔ some i = some j by simp)]
/-- the numbers of the rounds with a break, by the last place -/
def brkL : Nat → Option Int → List (Option Int) → List Int
  | _, _, [] => []
  | n, l, none :: r => brkL (n + 1) l r
  | n, l, some p :: r => if some p = l then (n : Int) :: brkL (n + 1) (some p) r else brkL (n + 1) (some p) r
/-- the numbers of the rounds with a game -/
def plL : Nat → List (Option Int) → List Int
  | _, [] => []
  | n, none :: r => plL (n + 1) r
  | n, some _ :: r => (n : Int) :: plL (n + 1) r
theorem brk_some (f : Int → Option Int) : ∀ (r : List (Option Int)) (n : Nat) (v : Int) (a : Int), f a = some v → (∀ (k : Nat) (o : Option Int), r[k]? = some o → f ((n + k : Nat) : Int) = o) →
    brkL n (some v) r = (((a :: plL n r).zip (plL n r)).filter fun q => decide (f q.1 = f q.2)).map (·.2)
  | [], _, _, _, _, _ => rfl
  | none :: r, n, v, a, ha, hf => brk_some f r (n + 1) v a ha fun k o h => by
    have q := hf (k + 1) o h
    rw [← q]
    congr 2
    omega
  | some p :: r, n, v, a, ha, hf => by
    have hn : f (n : Int) = some p := hf 0 _ rfl
    have ih := brk_some f r (n + 1) p (n : Int) hn fun k o h => by
      have q := hf (k + 1) o h
      rw [← q]
      congr 2
      omega
    show (if some p = some v then (n : Int) :: brkL (n + 1) (some p) r else brkL (n + 1) (some p) r) = (((a, (n : Int)) :: ((n : Int) :: plL (n + 1) r).zip (plL (n + 1) r)).filter fun q => decide (f q.1 = f q.2)).map (·.2)
    by_cases h : some p = some v
    · rw [if_pos h, List.filter_cons_of_pos (by show decide (f a = f (n : Int)) = true; rw [ha, hn]; exact decide_eq_true h.symm), List.map_cons, ih]
    · rw [if_neg h, List.filter_cons_of_neg (by show ¬ decide (f a = f (n : Int)) = true; rw [ha, hn]; intro z; exact h (of_decide_eq_true z).symm), ih]
theorem brk_none (f : Int → Option Int) : ∀ (r : List (Option Int)) (n : Nat), (∀ (k : Nat) (o : Option Int), r[k]? = some o → f ((n + k : Nat) : Int) = o) →
    brkL n none r = (((plL n r).zip (plL n r).tail).filter fun q => decide (f q.1 = f q.2)).map (·.2)
  | [], _, _ => rfl
  | none :: r, n, hf => brk_none f r (n + 1) fun k o h => by
    have q := hf (k + 1) o h
    rw [← q]
    congr 2
    omega
  | some p :: r, n, hf => by
    have hn : f (n : Int) = some p := hf 0 _ rfl
    show (if some p = none then (n : Int) :: brkL (n + 1) (some p) r else brkL (n + 1) (some p) r) = _
    rw [if_neg (by simp)]
    exact brk_some f r (n + 1) p (n : Int) hn fun k o h => by
      have q := hf (k + 1) o h
      rw [← q]
      congr 2
      omega
theorem plL_num : ∀ (r : List (Option Int)) (n : Nat), ((numF n r).filter fun q => q.2.isSome).map (fun q => (q.1 : Int)) = plL n r
  | [], _ => rfl
  | none :: r, n => plL_num r (n + 1)
  | some p :: r, n => by
    show ((((n, some p) : Nat × Option Int) :: numF (n + 1) r).filter fun q => q.2.isSome).map _ = _
    rw [List.filter_cons_of_pos (by rfl), List.map_cons, plL_num r (n + 1)]
    rfl
theorem plL_in : ∀ (r : List (Option Int)) (n : Nat) (i : Int), i ∈ plL n r → ∃ k : Nat, i = ((n + k : Nat) : Int) ∧ k < r.length
  | [], _, _, h => nomatch h
  | none :: r, n, i, h => by
    obtain ⟨k, e, hk⟩ := plL_in r (n + 1) i h
    exact ⟨k + 1, by rw [e]; congr 1; omega, Nat.succ_lt_succ hk⟩
  | some p :: r, n, i, h => by
    rcases List.mem_cons.mp h with e | h
    · exact ⟨0, e, Nat.succ_pos _⟩
    · obtain ⟨k, e, hk⟩ := plL_in r (n + 1) i h
      exact ⟨k + 1, by rw [e]; congr 1; omega, Nat.succ_lt_succ hk⟩
theorem plL_len : ∀ (r : List (Option Int)) (n : Nat), (plL n r).length ≤ r.length
  | [], _ => Nat.le_refl _
  | none :: r, n => Nat.le_succ_of_le (plL_len r (n + 1))
  | some p :: r, n => Nat.succ_le_succ (plL_len r (n + 1))
theorem brkL_len : ∀ (r : List (Option Int)) (n : Nat) (l : Option Int), (brkL n l r).length ≤ r.length
  | [], _, _ => Nat.le_refl _
  | none :: r, n, l => Nat.le_succ_of_le (brkL_len r (n + 1) l)
  | some p :: r, n, l => by
    have ih := brkL_len r (n + 1) (some p)
    show (if some p = l then (n : Int) :: brkL (n + 1) (some p) r else brkL (n + 1) (some p) r).length ≤ r.length + 1
    split
    · exact Nat.succ_le_succ ih
    · exact Nat.le_succ_of_le ih
end Dn

set_option Elab.async false
set_option linter.all false
set_option maxRecDepth 100000
set_option maxHeartbeats 8000000
namespace Dn
open PySem PySem.Spec PyProof.Rows L2
variable [En]
/-! ### games turned, put in another order, left out -/
def rv (g : Gm) : Gm := (g.2, g.1)
def srt (g : Gm) : Gm := if g.1 ≤ g.2 then g else rv g
theorem srt_rv {g : Gm} (h : g.1 ≠ g.2) : srt (rv g) = srt g := by
  unfold srt rv
  by_cases c : g.1 ≤ g.2
  · rw [if_pos c, if_neg (by show ¬ g.2 ≤ g.1; omega)]
  · rw [if_neg c, if_pos (by show g.2 ≤ g.1; omega)]
theorem rv_rv (g : Gm) : rv (rv g) = g := rfl
theorem rv_inj {g h : Gm} (e : rv g = rv h) : g = h := by
  rw [← rv_rv g, e]
  rfl
/-- dn's games, some left out, some turned -/
inductive Pick : List Gm → List Gm → Prop where
  | nil : Pick [] []
  | skip {dn own g} : Pick dn own → Pick (dn ++ [g]) own
  | take {dn own g} : Pick dn own → Pick (dn ++ [g]) (own ++ [g])
  | turn {dn own g} : Pick dn own → Pick (dn ++ [g]) (own ++ [rv g])
abbrev inC (c : Int) (g : Gm) : Prop := (0 ≤ g.1 ∧ g.1 < c) ∧ (0 ≤ g.2 ∧ g.2 < c) ∧ g.1 ≠ g.2
theorem inC_rv {c : Int} {g : Gm} (h : inC c g) : inC c (rv g) := ⟨h.2.1, h.1, fun e => h.2.2 e.symm⟩
theorem Pick.len {dn own : List Gm} (p : Pick dn own) : own.length ≤ dn.length := by
  induction p with
  | nil => exact Nat.le_refl _
  | skip _ ih => rw [List.length_append]; exact Nat.le_trans ih (Nat.le_add_right _ _)
  | take _ ih => rw [List.length_append, List.length_append]; exact Nat.add_le_add_right ih 1
  | turn _ ih => rw [List.length_append, List.length_append]; exact Nat.add_le_add_right ih 1
theorem Pick.inC {c : Int} {dn own : List Gm} (p : Pick dn own) : (∀ g ∈ dn, inC c g) → ∀ g ∈ own, Dn.inC c g := by
  induction p with
  | nil => exact fun _ g h => nomatch h
  | skip _ ih => exact fun h => ih fun g hg => h g (List.mem_append_left _ hg)
  | take _ ih =>
    intro h g hg
    rcases List.mem_append.mp hg with z | z
    · exact ih (fun g hg => h g (List.mem_append_left _ hg)) g z
    · exact h g (List.mem_append_right _ z)
  | turn _ ih =>
    intro h g hg
    rcases List.mem_append.mp hg with z | z
    · exact ih (fun g hg => h g (List.mem_append_left _ hg)) g z
    · rw [List.mem_singleton.mp z]
      exact inC_rv (h _ (List.mem_append_right _ (List.mem_singleton.mpr rfl)))
theorem Pick.clubs {dn own : List Gm} (p : Pick dn own) : (∀ v ∈ clubsOf own, v ∈ clubsOf dn) ∧ ((clubsOf dn).Nodup → (clubsOf own).Nodup) := by
  induction p with
  | nil => exact ⟨fun _ h => h, fun h => h⟩
  | skip _ ih =>
    refine ⟨fun v hv => ?_, fun h => ?_⟩
    · rw [clubs_app]
      exact List.mem_append_left _ (ih.1 v hv)
    · rw [clubs_app] at h
      exact ih.2 (List.nodup_append.mp h).1
  | @take dn own g _ ih =>
    refine ⟨fun v hv => ?_, fun h => ?_⟩
    · rw [clubs_app] at hv ⊢
      exact List.mem_append.mpr ((List.mem_append.mp hv).imp (ih.1 v) id)
    · rw [clubs_app] at h ⊢
      obtain ⟨h1, h2, h3⟩ := List.nodup_append.mp h
      exact List.nodup_append.mpr ⟨ih.2 h1, h2, fun a ha b hb => h3 a (ih.1 a ha) b hb⟩
  | @turn dn own g _ ih =>
    have hm : ∀ v, v ∈ clubsOf [rv g] → v ∈ clubsOf [g] := fun v hv => by
      have hv' : v ∈ [g.2, g.1] := hv
      show v ∈ [g.1, g.2]
      simp only [List.mem_cons, List.not_mem_nil, or_false] at hv' ⊢
      exact hv'.symm
    refine ⟨fun v hv => ?_, fun h => ?_⟩
    · rw [clubs_app] at hv ⊢
      exact List.mem_append.mpr ((List.mem_append.mp hv).imp (ih.1 v) (hm v))
    · rw [clubs_app] at h ⊢
      obtain ⟨h1, h2, h3⟩ := List.nodup_append.mp h
      refine List.nodup_append.mpr ⟨ih.2 h1, ?_, fun a ha b hb => h3 a (ih.1 a ha) b (hm b hb)⟩
      have h2' : [g.1, g.2].Nodup := h2
      show [g.2, g.1].Nodup
      simp only [List.nodup_cons, List.mem_singleton, List.not_mem_nil, not_false_eq_true, List.nodup_nil, and_true] at h2' ⊢
      exact fun e => h2' e.symm
theorem Pick.srts {c : Int} {dn own : List Gm} (p : Pick dn own) : (∀ g ∈ dn, Dn.inC c g) → (∀ v ∈ own.map srt, v ∈ dn.map srt) ∧ ((dn.map srt).Nodup → (own.map srt).Nodup) := by
  induction p with
  | nil => exact fun _ => ⟨fun _ h => h, fun h => h⟩
  | skip _ ih =>
    intro hc
    have ih := ih fun g hg => hc g (List.mem_append_left _ hg)
    refine ⟨fun v hv => ?_, fun h => ?_⟩
    · rw [List.map_append]
      exact List.mem_append_left _ (ih.1 v hv)
    · rw [List.map_append] at h
      exact ih.2 (List.nodup_append.mp h).1
  | @take dn own g _ ih =>
    intro hc
    have ih := ih fun g hg => hc g (List.mem_append_left _ hg)
    refine ⟨fun v hv => ?_, fun h => ?_⟩
    · rw [List.map_append] at hv ⊢
      exact List.mem_append.mpr ((List.mem_append.mp hv).imp (ih.1 v) id)
    · rw [List.map_append] at h ⊢
      obtain ⟨h1, h2, h3⟩ := List.nodup_append.mp h
      exact List.nodup_append.mpr ⟨ih.2 h1, h2, fun a ha b hb => h3 a (ih.1 a ha) b hb⟩
  | @turn dn own g _ ih =>
    intro hc
    have hg := hc g (List.mem_append_right _ (List.mem_singleton.mpr rfl))
    have ih := ih fun g hg => hc g (List.mem_append_left _ hg)
    have e : [rv g].map srt = [g].map srt := by
      show [srt (rv g)] = [srt g]
      rw [srt_rv hg.2.2]
    refine ⟨fun v hv => ?_, fun h => ?_⟩
    · rw [List.map_append, e] at hv
      rw [List.map_append]
      exact List.mem_append.mpr ((List.mem_append.mp hv).imp (ih.1 v) id)
    · rw [List.map_append] at h ⊢
      rw [e]
      obtain ⟨h1, h2, h3⟩ := List.nodup_append.mp h
      exact List.nodup_append.mpr ⟨ih.2 h1, h2, fun a ha b hb => h3 a (ih.1 a ha) b hb⟩
/-- as the circle comes: each two clubs at most once -/
structure GoodC (c : Int) (C : List (List Gm)) : Prop where
  all : ∀ gs ∈ C, (∀ g ∈ gs, inC c g) ∧ (clubsOf gs).Nodup ∧ gs.length ≤ 10
  once : (C.flatten.map srt).Nodup
  few : C.length ≤ 20
theorem clubs_perm {a b : List Gm} (p : a.Perm b) : (clubsOf a).Perm (clubsOf b) := p.flatMap_right _
theorem goodR_perm {c : Int} {a b : List Gm} (p : a.Perm b) (G : GoodR c b) : GoodR c a :=
  ⟨fun g hg => G.game g (p.mem_iff.mp hg), (clubs_perm p).nodup_iff.mpr G.once, by rw [p.length_eq]; exact G.few⟩
theorem rot_perm {α : Type} (l : List α) (m : Nat) : (l.drop m ++ l.take m).Perm l := by
  have h := List.perm_append_comm (l₁ := l.drop m) (l₂ := l.take m)
  rw [List.take_append_drop] at h
  exact h
theorem good_rot {c : Int} {R : List (List Gm)} (G : GoodRs c R) (m : Nat) : GoodRs c (R.drop m ++ R.take m) := by
  have p := rot_perm R m
  exact ⟨fun gs hg => G.all gs (p.mem_iff.mp hg), (p.flatten).nodup_iff.mpr G.once, by rw [p.length_eq]; exact G.few⟩
theorem good_take {c : Int} {R : List (List Gm)} (G : GoodRs c R) (t : Nat) : GoodRs c (R.take t) := by
  refine ⟨fun gs hg => G.all gs (List.mem_of_mem_take hg), ?_, by rw [List.length_take]; have := G.few; omega⟩
  have h := G.once
  rw [← List.take_append_drop t R, List.flatten_append] at h
  exact (List.nodup_append.mp h).1
theorem good_empty (c : Int) (R : List (List Gm)) (h : R.length ≤ 40) : GoodRs c (R.map fun _ => []) := by
  refine ⟨fun gs hg => ?_, ?_, by rw [List.length_map]; exact h⟩
  · obtain ⟨_, _, e⟩ := List.mem_map.mp hg
    rw [← e]
    exact ⟨fun g hg => (nomatch hg), List.nodup_nil, Nat.zero_le _⟩
  · have e : (R.map fun _ => ([] : List Gm)).flatten = [] := by
      rw [List.flatten_eq_nil_iff]
      intro l hl
      obtain ⟨_, _, e⟩ := List.mem_map.mp hl
      exact e.symm
    rw [e]
    exact List.nodup_nil
theorem nodup_map {α β : Type} {f : α → β} {l : List α} (h : (l.map f).Nodup) : l.Nodup := List.Pairwise.of_map f (fun _ _ hne e => hne (congrArg f e)) h
theorem map_inj {α β : Type} {f : α → β} : ∀ {l : List α}, (l.map f).Nodup → ∀ x ∈ l, ∀ y ∈ l, f x = f y → x = y
  | [], _, _, h, _, _, _ => nomatch h
  | a :: l, hn, x, hx, y, hy, e => by
    rw [List.map_cons, List.nodup_cons] at hn
    rcases List.mem_cons.mp hx with ex | hx
    · rcases List.mem_cons.mp hy with ey | hy
      · rw [ex, ey]
      · rw [ex] at e
        exact absurd (List.mem_map.mpr ⟨y, hy, e.symm⟩) hn.1
    · rcases List.mem_cons.mp hy with ey | hy
      · rw [ey] at e
        exact absurd (List.mem_map.mpr ⟨x, hx, e⟩) hn.1
      · exact map_inj hn.2 x hx y hy e
theorem clubs_rv {gs : List Gm} : (clubsOf (gs.map rv)).Perm (clubsOf gs) := by
  induction gs with
  | nil => exact .refl _
  | cons g gs ih => exact ((ih.cons g.1).cons g.2).trans (List.Perm.swap g.1 g.2 _)
theorem goodR_rv {c : Int} {gs : List Gm} (G : GoodR c gs) : GoodR c (gs.map rv) :=
  ⟨fun g hg => by
    obtain ⟨h, hh, e⟩ := List.mem_map.mp hg
    rw [← e]
    exact inC_rv (G.game h hh), clubs_rv.nodup_iff.mpr G.once, by rw [List.length_map]; exact G.few⟩
/-- twice round -/
theorem good_twice {c : Int} {R : List (List Gm)} (G : ∀ gs ∈ R, GoodR c gs) (n : (R.flatten.map srt).Nodup) (h : R.length ≤ 20) : GoodRs c R ∧ GoodRs c (R ++ R.map fun gs => gs.map rv) := by
  have ho := nodup_map n
  refine ⟨⟨G, ho, by omega⟩, ⟨fun gs hg => ?_, ?_, by rw [List.length_append, List.length_map]; omega⟩⟩
  · rcases List.mem_append.mp hg with z | z
    · exact G gs z
    · obtain ⟨hs, hh, e⟩ := List.mem_map.mp z
      rw [← e]
      exact goodR_rv (G hs hh)
  · have e : (R.map fun gs => gs.map rv).flatten = R.flatten.map rv := List.map_flatten.symm
    rw [List.flatten_append, e]
    refine List.nodup_append.mpr ⟨ho, ?_, fun a ha b hb eab => ?_⟩
    · exact List.Pairwise.map rv (fun x y hxy z => hxy (rv_inj z)) ho
    · obtain ⟨y, hy, ey⟩ := List.mem_map.mp hb
      obtain ⟨gs, hgs, hyg⟩ := List.mem_flatten.mp hy
      have ne := ((G gs hgs).game y hyg).2.2
      have es : srt a = srt y := by rw [eab, ← ey, srt_rv ne]
      have e2 := map_inj n a ha y hy es
      rw [e2, ← ey] at eab
      exact ne (congrArg Prod.fst eab)
end Dn

set_option Elab.async false
set_option linter.all false
set_option maxRecDepth 100000
set_option maxHeartbeats 4000000
namespace Dn
open PySem PySem.Spec PyProof.Rows L2
variable [En]
section
variable {X : Cx} {cl : Nat → Addr} {W : WX} {e tg tg1 a b c : Expr} {pos p : Pos} {K : PySem.W.Frag} {P : Program} {w : World} {F F' H H' H0 F0 : Hp} {ρ ρ' : Ev} {σ : L2.St} {A : Nat → List Addr}
/-! ### lists by two fors -/
def comp2 (bnd : D → Ev → Option Ev) (t : Ev → Res Bool) (src1 : Ev → Res (List D)) (bnd1 : D → Ev → Option Ev) (t1 : Ev → Res Bool) (te : Ev → Res D) (vs1 : List Nat) (r0 : Ev) : List D → Option (List D)
  | [] => some []
  | d :: ds => match bnd d r0 with
    | none => none
    | some r1 => match t r1 with
      | .ok true => (match src1 r1 with
        | .ok es => (match compO bnd1 t1 te (wipeC r1 vs1) es with
          | some ys => (comp2 bnd t src1 bnd1 t1 te vs1 r0 ds).map (ys ++ ·)
          | none => none)
        | _ => none)
      | .ok false => comp2 bnd t src1 bnd1 t1 te vs1 r0 ds
      | _ => none
def shortO : Option (List D) → Res (List D)
  | some ys => if ys.length ≤ big then .ok ys else .bad
  | none => .bad
def nComp22 (src : Ev → Res (List D)) (bnd : D → Ev → Option Ev) (t : Ev → Res Bool) (src1 : Ev → Res (List D)) (bnd1 : D → Ev → Option Ev) (t1 : Ev → Res Bool) (te : Ev → Res D) (vs vs1 : List Nat) : Ev → Res (List D) := fun ρ => (src ρ).bind fun ds => shortO (comp2 bnd t src1 bnd1 t1 te vs1 (wipeC ρ vs) ds)
theorem own_keep {Dl : Addr} {acc : List V} (g : Gr H F H' F') (hf : F Dl = none) (hH : H Dl = some (.lst acc)) : F' Dl = none ∧ H' Dl = some (.lst acc) := by
  refine ⟨?_, g.hh.get hH⟩
  cases q : F' Dl with
  | none => rfl
  | some o =>
    rcases g.nw Dl (by rw [q]; exact fun z => by cases z) with z | z | z
    · exact absurd hf z
    · rw [hH] at z; cases z
    · rw [hH] at z; exact z.elim
theorem upd_id {H : Hp} {a : Addr} {o : HO} (h : H a = some o) : L2.upd H a o = H := by
  funext x
  by_cases e : x = a
  · rw [e, upd_same, h]
  · rw [upd_ne e]
theorem upd_upd2 {H : Hp} {a : Addr} {o o' : HO} : L2.upd (L2.upd H a o) a o' = L2.upd H a o' := by
  funext x
  by_cases e : x = a
  · rw [e, upd_same, upd_same]
  · rw [upd_ne e, upd_ne e, upd_ne e]
theorem Gr.upd2 {a : Addr} {o : HO} (g : Gr H F H' F') (h : F a = none) (h' : F' a = none) : Gr (L2.upd H a o) F (L2.upd H' a o) F' := by
  have ne : ∀ {x : Addr} {u : HO}, F' x = some u → x ≠ a := fun q e => by rw [e, h'] at q; cases q
  refine ⟨g.ff, fun x u q => ?_, fun x u q => by rw [upd_ne (ne q)]; exact g.fh _ _ q, fun x q => ?_⟩
  · by_cases e : x = a
    · rw [e, upd_same] at q
      exact .inl (by rw [e, upd_same]; exact q)
    · rw [upd_ne e] at q
      rcases g.hh _ _ q with z | ⟨⟨ps, z1, z2⟩, qs, z3, z4⟩
      · exact .inl (by rw [upd_ne e]; exact z)
      · exact .inr ⟨⟨ps, by rw [upd_ne e]; exact z1, z2⟩, qs, by rw [upd_ne e]; exact z3, z4⟩
  · have e : x ≠ a := fun z => q (by rw [z]; exact h')
    rw [upd_ne e]
    exact g.nw x q
theorem Rep.incl {a : Addr} {o : HO} (R : Rep K P w H0 F0 ρ σ H F A) (hH : H a = some o) (hF : F a = none) (hA : ∀ i, a ∉ A i) : Rep K P w (L2.upd H0 a o) F0 ρ σ H F A := by
  refine ⟨⟨R.base.ff, fun x u q => ?_, R.base.fh, fun x q => ?_⟩, R.len, R.cel, fun i x hx => ?_, R.dj, fun p hp => ?_⟩
  case refine_4 =>
    obtain ⟨h1, h2⟩ := R.tk p hp
    refine ⟨h1, ?_⟩
    by_cases e : p = a
    · obtain ⟨ps, z1, z2⟩ := R.base.hh.tab h2
      rw [e, hH] at z1
      exact ⟨ps, by rw [e, upd_same]; exact z1, z2⟩
    · obtain ⟨ps, z1, z2⟩ := h2
      exact ⟨ps, by rw [upd_ne e]; exact z1, z2⟩
  · by_cases e : x = a
    · rw [e, upd_same] at q
      exact .inl (by rw [e, hH]; exact q)
    · rw [upd_ne e] at q
      rcases R.base.hh _ _ q with z | ⟨⟨ps, z1, z2⟩, z3⟩
      · exact .inl z
      · exact .inr ⟨⟨ps, by rw [upd_ne e]; exact z1, z2⟩, z3⟩
  · have e : x ≠ a := fun z => q (by rw [z]; exact hF)
    rw [upd_ne e]
    exact R.base.nw x q
  · obtain ⟨f1, f2, f3, f4⟩ := R.fr i x hx
    have e : x ≠ a := fun z => hA i (z ▸ hx)
    exact ⟨f1, by rw [upd_ne e]; exact f2, f3, f4⟩
theorem Rep.notin {a : Addr} {o : HO} (R : Rep K P w (L2.upd H0 a o) F0 ρ σ H F A) : ∀ i, a ∉ A i := fun i hx => by
  have q := (R.fr i a hx).2.1
  rw [upd_same] at q
  cases q
theorem Rep.excl {a : Addr} {xs : List V} (R : Rep K P w (L2.upd H0 a (.lst xs)) F0 ρ σ H F A) (hF : F a = none) (h0 : H0 a = none) : Rep K P w H0 F0 ρ σ H F A := by
  refine ⟨⟨R.base.ff, fun x u q => ?_, R.base.fh, fun x q => ?_⟩, R.len, R.cel, fun i x hx => ?_, R.dj, fun p hp => ?_⟩
  case refine_4 =>
    obtain ⟨h1, ps, z1, z2⟩ := R.tk p hp
    have e : p ≠ a := fun e => by
      rw [e, upd_same] at z1
      cases z1
    exact ⟨h1, ps, by rw [upd_ne e] at z1; exact z1, z2⟩
  · have e : x ≠ a := fun z => by rw [z, h0] at q; cases q
    rcases R.base.hh x u (by rw [upd_ne e]; exact q) with z | ⟨⟨ps, z1, z2⟩, z3⟩
    · exact .inl z
    · exact .inr ⟨⟨ps, by rw [upd_ne e] at z1; exact z1, z2⟩, z3⟩
  · have e : x ≠ a := fun z => q (by rw [z]; exact hF)
    have n := R.base.nw x q
    rw [upd_ne e] at n
    exact n
  · obtain ⟨f1, f2, f3, f4⟩ := R.fr i x hx
    have e : x ≠ a := fun z => R.notin i (z ▸ hx)
    rw [upd_ne e] at f2
    exact ⟨f1, f2, f3, f4⟩
theorem tx_lc22 {src src1 : Ev → Res (List D)} {bnd bnd1 : D → Ev → Option Ev} {t t1 : Ev → Res Bool} {te : Ev → Res D} {vs vs1 js js1 : List Nat} (hj : ∀ j ∈ js, j ∈ vs) (hj1 : ∀ j ∈ js1, j ∈ vs1) : ∀ σ H Q, tO K P w cl W (nComp22 src bnd t src1 bnd1 t1 te vs vs1) σ H Q →
    tLc2 (tX K P w (SW K) cl W src) (tG K P w bnd js) (tX K P w SB cl W0 t) (tX K P w (SW K) cl W0 src1) (tG K P w bnd1 js1) (tX K P w SB cl W0 t1) (tX K P w (SD K) cl W0 te) vs vs1 σ H Q := fun σ H Q h => by
  obtain ⟨H0, F0, ρ, F, A, R, p⟩ := h
  refine ⟨H0, F0, ρ, F, A, R, (PostO.ofBind (S := SW K) p).imp fun J H1 ⟨F1, ds, _, g1, wk, p1⟩ => fun Dl hD => ?_⟩
  have R1 := R.grow g1
  cases hc : comp2 bnd t src1 bnd1 t1 te vs1 (wipeC ρ vs) ds with
  | none => rw [hc] at p1; exact p1.elim
  | some ys =>
    rw [hc] at p1
    have p1' : PostO K cl W σ H1 F1 (if ys.length ≤ big then .ok ys else .bad) Q := p1
    by_cases hb : ys.length ≤ big
    case neg => rw [if_neg hb] at p1'; exact p1'.elim
    rw [if_pos hb] at p1'
    have hF1 : F1 Dl = none := g1.fh.free hD
    have h0 : H0 Dl = none := R1.base.hh.free hD
    let Pv : Nat → Hp → Prop := fun i H' => ∃ F' acc ys1 ys2, Gr H1 F1 H' F' ∧ F' Dl = none ∧ H' Dl = some (.lst acc) ∧ SeesL K F' ys1 acc ∧ comp2 bnd t src1 bnd1 t1 te vs1 (wipeC ρ vs) (ds.drop i) = some ys2 ∧ ys = ys1 ++ ys2
    refine ⟨fun i m H' => m = ds.length - i ∧ i ≤ ds.length ∧ Pv i H', ⟨ds.length, by omega, Nat.zero_le _, F1, [], [], ys, Gr.out g1.fh hD, hF1, upd_same, True.intro, hc, rfl⟩, fun i m H' hw => ?_⟩
    obtain ⟨em, hi, F', acc, ys1, ys2, g, hf, hH, hs, hcd, ey⟩ := hw
    by_cases hlt : i < ds.length
    · refine .inr ⟨wk.go i H' F' g.ff g.fh hlt, Pv (i + 1), fun H'' pw => ⟨ds.length - (i + 1), by omega, rfl, by omega, pw⟩, fun x H2 y => ?_⟩
      obtain ⟨F2, d, hd, g2, sx⟩ := wk.yld i H' F' x H2 g.ff g.fh hlt y
      obtain ⟨hf2, hH2⟩ := own_keep g2 hf hH
      obtain ⟨Aw, Rw, hAw⟩ := ((R1.grow g).grow g2).wipe vs
      have nAw : ∀ i, Dl ∉ Aw i := fun i z => R1.notA hD i (hAw i Dl z)
      rw [drop_cons hd] at hcd
      unfold comp2 at hcd
      cases hbd : bnd d (wipeC ρ vs) with
      | none => rw [hbd] at hcd; cases hcd
      | some ρ1 =>
        rw [hbd] at hcd
        refine ⟨L2.upd H0 Dl (.lst acc), F0, wipeC ρ vs, F2, Aw, d, ρ1, Rw.incl hH2 hf2 nAw, sx, hbd, fun σ3 A3 R3 w3 => ⟨by rw [w3 vs hj, wipe_wipe], ?_⟩⟩
        dsimp only at hcd
        cases ht : t ρ1 with
        | bad => rw [ht] at hcd; cases hcd
        | ex c => rw [ht] at hcd; cases hcd
        | ok bb =>
          rw [ht] at hcd
          refine ⟨_, F0, ρ1, F2, A3, R3, ?_⟩
          rw [ht]
          refine fun b H3 F3 g3 sb => ?_
          have eb : bb = b := sb
          subst eb
          obtain ⟨hf3, hH3⟩ := own_keep g3 hf2 hH2
          cases bb with
          | false =>
            have hcd2 : comp2 bnd t src1 bnd1 t1 te vs1 (wipeC ρ vs) (ds.drop (i + 1)) = some ys2 := hcd
            exact ⟨F3, acc, ys1, ys2, (g.trans g2).trans g3, hf3, hH3, (hs.mono g2.ff).mono g3.ff, hcd2, ey⟩
          | true =>
            dsimp only at hcd
            have R3' := R3.grow g3
            cases hsr : src1 ρ1 with
            | bad => rw [hsr] at hcd; cases hcd
            | ex c => rw [hsr] at hcd; cases hcd
            | ok es =>
              rw [hsr] at hcd
              dsimp only at hcd
              cases hin : compO bnd1 t1 te (wipeC ρ1 vs1) es with
              | none => rw [hin] at hcd; cases hcd
              | some zs =>
                rw [hin] at hcd
                dsimp only at hcd
                cases hcr : comp2 bnd t src1 bnd1 t1 te vs1 (wipeC ρ vs) (ds.drop (i + 1)) with
                | none => rw [hcr] at hcd; cases hcd
                | some ys3 =>
                  rw [hcr] at hcd
                  have e2 : zs ++ ys3 = ys2 := Option.some.inj hcd
                  show tX K P w (SW K) cl W0 src1 σ3 H3 _
                  refine ⟨_, F0, ρ1, F3, A3, R3', ?_⟩
                  rw [hsr]
                  refine fun J1 H4 F4 g4 wk1 => ?_
                  obtain ⟨hf4, hH4⟩ := own_keep g4 hf3 hH3
                  have R4 := R3'.grow g4
                  have hs4 : SeesL K F4 ys1 acc := ((hs.mono g2.ff).mono g3.ff).mono g4.ff
                  have G4 : Gr H1 F1 H4 F4 := ((g.trans g2).trans g3).trans g4
                  have nA := R4.notin
                  have Rx := R4.excl hf4 h0
                  have Rat : ∀ acc', Rep K P w H0 F0 ρ1 σ3 (L2.upd H4 Dl (.lst acc')) F4 A3 := fun acc' => Rx.upd hf4 h0 nA
                  let Qv : Nat → Hp → Prop := fun j H' => ∃ F' acc us1 us2, Gr (L2.upd H4 Dl (.lst acc)) F4 H' F' ∧ F' Dl = none ∧ H' Dl = some (.lst acc) ∧ SeesL K F' us1 acc ∧ compO bnd1 t1 te (wipeC ρ1 vs1) (es.drop j) = some us2 ∧ ys1 ++ zs = us1 ++ us2
                  have lenY : (ys1 ++ zs).length ≤ big := by
                    rw [ey, ← e2, List.length_append, List.length_append] at hb
                    rw [List.length_append]
                    omega
                  refine ⟨fun j k H' => k = es.length - j ∧ j ≤ es.length ∧ Qv j H', ⟨es.length, by omega, Nat.zero_le _, F4, acc, ys1, zs, (by rw [upd_id hH4]; exact Gr.refl R4.sub), hf4, hH4, hs4, hin, rfl⟩, fun j k H5 hw1 => ?_⟩
                  obtain ⟨ek, hj', F5, acc5, us1, us2, g5, hf5, hH5, hs5, hcd5, ey5⟩ := hw1
                  by_cases hlt1 : j < es.length
                  · refine .inr ⟨wk1.go j H5 F5 g5.ff g5.fh hlt1, Qv (j + 1), fun H'' pw => ⟨es.length - (j + 1), by omega, rfl, by omega, pw⟩, fun x1 H6 y1 => ?_⟩
                    obtain ⟨F6, d1, hd1, g6, sx1⟩ := wk1.yld j H5 F5 x1 H6 g5.ff g5.fh hlt1 y1
                    obtain ⟨hf6, hH6⟩ := own_keep g6 hf5 hH5
                    obtain ⟨Aw1, Rw1, _⟩ := (((Rat acc5).grow g5).grow g6).wipe vs1
                    rw [drop_cons hd1] at hcd5
                    unfold compO at hcd5
                    cases hbd1 : bnd1 d1 (wipeC ρ1 vs1) with
                    | none => rw [hbd1] at hcd5; cases hcd5
                    | some ρ2 =>
                      rw [hbd1] at hcd5
                      refine ⟨H0, F0, wipeC ρ1 vs1, F6, Aw1, d1, ρ2, Rw1, sx1, hbd1, fun σ5 A5 R5 w5 => ⟨by rw [w5 vs1 hj1, wipe_wipe], ?_⟩⟩
                      dsimp only at hcd5
                      cases ht1 : t1 ρ2 with
                      | bad => rw [ht1] at hcd5; cases hcd5
                      | ex c => rw [ht1] at hcd5; cases hcd5
                      | ok bb =>
                        rw [ht1] at hcd5
                        refine ⟨H0, F0, ρ2, F6, A5, R5, ?_⟩
                        rw [ht1]
                        refine fun b H7 F7 g7 sb => ?_
                        have eb : bb = b := sb
                        subst eb
                        obtain ⟨hf7, hH7⟩ := own_keep g7 hf6 hH6
                        cases bb with
                        | false =>
                          have hcd6 : compO bnd1 t1 te (wipeC ρ1 vs1) (es.drop (j + 1)) = some us2 := hcd5
                          exact ⟨F7, acc5, us1, us2, (g5.trans g6).trans g7, hf7, hH7, (hs5.mono g6.ff).mono g7.ff, hcd6, ey5⟩
                        | true =>
                          dsimp only at hcd5
                          refine ⟨H0, F0, ρ2, F7, A5, R5.grow g7, ?_⟩
                          cases hte : te ρ2 with
                          | bad => rw [hte] at hcd5; cases hcd5
                          | ex c => rw [hte] at hcd5; cases hcd5
                          | ok y =>
                            rw [hte] at hcd5
                            refine fun v H8 F8 g8 sv => ?_
                            obtain ⟨hf8, hH8⟩ := own_keep g8 hf7 hH7
                            cases hcr5 : compO bnd1 t1 te (wipeC ρ1 vs1) (es.drop (j + 1)) with
                            | none => rw [hcr5] at hcd5; cases hcd5
                            | some us3 =>
                              rw [hcr5] at hcd5
                              have e3 : y :: us3 = us2 := Option.some.inj hcd5
                              have hs8 : SeesL K F8 us1 acc5 := ((hs5.mono g6.ff).mono g7.ff).mono g8.ff
                              have gu := (((g5.trans g6).trans g7).trans g8).upd2 (o := .lst (acc5 ++ [v])) hf4 hf8
                              rw [L2.upd_upd] at gu
                              refine ⟨acc5, hH8, big_lt (by rw [← hs8.length]; rw [ey5, ← e3, List.length_append, List.length_cons] at lenY; omega), F8, acc5 ++ [v], us1 ++ [y], us3, gu, hf8, upd_same, hs8.app (SeesL.one sv), hcr5, ?_⟩
                              rw [ey5, ← e3, List.append_assoc]
                              rfl
                  · have ej : j = es.length := by omega
                    subst ej
                    refine .inl ⟨wk1.stop H5 F5 g5.ff g5.fh, ?_⟩
                    rw [List.drop_length] at hcd5
                    have e4 : [] = us2 := Option.some.inj hcd5
                    rw [← e4, List.append_nil] at ey5
                    exact ⟨F5, acc5, ys1 ++ zs, ys3, (G4.upd hD hf4).trans g5, hf5, hH5, by rw [ey5]; exact hs5, hcr, by rw [ey, ← e2, List.append_assoc]⟩
    · have ei : i = ds.length := by omega
      subst ei
      refine .inl ⟨wk.stop H' F' g.ff g.fh, ?_⟩
      rw [List.drop_length] at hcd
      cases hcd
      rw [List.append_nil] at ey
      subst ey
      exact p1' _ _ _ _ g hD hf hH hs
theorem dn_lc2 {elt iter iter1 : Expr} {ifs ifs1 : List Expr} {scope : Scope} {own : List (Str × Nat)} {vs1 : List Nat} {src src1 : Ev → Res (List D)} {bnd bnd1 : D → Ev → Option Ev} {js js1 : List Nat} {t t1 : Ev → Res Bool} {te : Ev → Res D} (hN : X.N.Nodup) (ok : BlkOk X.N X.env.scope scope own) (hv : ∀ i ∈ vs1, i ∈ own.map (·.2)) (hi : DI X cl W tg iter src)
    (hg : ∀ (s : Shared) (H : Hp) (C : Addr) (cl : List (Str × Addr)) (fp : List Addr), DG (X.blk s H scope (compEnvC scope cl C X.env) fp) tg bnd js)
    (ht : ∀ (s : Shared) (H : Hp) (C : Addr) (cl' : List (Str × Addr)) (fp : List Addr), DTs (X.blk s H scope (compEnvC scope cl' C X.env) fp) cl W0 ifs t)
    (hi1 : ∀ (s : Shared) (H : Hp) (C : Addr) (cl' : List (Str × Addr)) (fp : List Addr), DI (X.blk s H scope (compEnvC scope cl' C X.env) fp) cl W0 tg1 iter1 src1)
    (hg1 : ∀ (s : Shared) (H : Hp) (C : Addr) (cl : List (Str × Addr)) (fp : List Addr), DG (X.blk s H scope (compEnvC scope cl C X.env) fp) tg1 bnd1 js1)
    (ht1 : ∀ (s : Shared) (H : Hp) (C : Addr) (cl' : List (Str × Addr)) (fp : List Addr), DTs (X.blk s H scope (compEnvC scope cl' C X.env) fp) cl W0 ifs1 t1)
    (he : ∀ (s : Shared) (H : Hp) (C : Addr) (cl' : List (Str × Addr)) (fp : List Addr), DE (X.blk s H scope (compEnvC scope cl' C X.env) fp) cl W0 elt te)
    (hj : ∀ j ∈ js, j ∈ own.map (·.2)) (hj1 : ∀ j ∈ js1, j ∈ vs1) (hc : X.calm = true := by rfl) (hs : ∀ x, foldedSetIterable iter X.env x = pure x := by intro _; rfl) (hs1 : ∀ env x, foldedSetIterable iter1 env x = pure x := by intro _ _; rfl) :
    DN X cl W (.ListComp elt [⟨tg, iter, ifs, 0⟩, ⟨tg1, iter1, ifs1, 0⟩] scope pos) (nComp22 src bnd t src1 bnd1 t1 te (own.map (·.2)) vs1) := PE_imp (pe_lc2 hc hN hi ok hv hg ht hi1 hg1 ht1 he hs hs1) (tx_lc22 hj hj1)
/-! ### min, max of a told pair -/
def oMinT : List D → Res D
  | [.tuple [.int i, .int j]] => .ok (.int (min i j))
  | _ => .bad
def oMaxT : List D → Res D
  | [.tuple [.int i, .int j]] => .ok (.int (max i j))
  | _ => .bad
theorem sees_pair2 {ds : List D} {vs : List V} {i j : Int} (h : ds = [.tuple [.int i, .int j]]) (s : SeesL K F ds vs) : ∃ a, vs = [.ref a] ∧ F a = some (.tup [.int i, .int j]) := by
  subst h
  match vs, s with
  | [v], s =>
    obtain ⟨a, xs, rfl, ha, hs⟩ := s.1
    match xs, hs with
    | [x, y], hs =>
      have e1 : x = V.int i := hs.1
      have e2 : y = V.int j := hs.2.1
      subst e1 e2
      exact ⟨a, rfl, ha⟩
theorem cd_min2T : CallD K (rMin2T K) oMinT := by
  intro cl W σ ds vs H F Q e s p
  match ds, s, p with
  | [.tuple [.int i, .int j]], s, p =>
    obtain ⟨a, rfl, ha⟩ := sees_pair2 rfl s
    have p' : Post (SD K) cl W σ H F (.ok (.int (min i j))) Q := p
    exact ⟨a, i, j, rfl, SqT.of (e _ _ ha), Post.now (S := SD K) e p' rfl⟩
theorem cd_max2T : CallD K (rMax2T K) oMaxT := by
  intro cl W σ ds vs H F Q e s p
  match ds, s, p with
  | [.tuple [.int i, .int j]], s, p =>
    obtain ⟨a, rfl, ha⟩ := sees_pair2 rfl s
    have p' : Post (SD K) cl W σ H F (.ok (.int (max i j))) Q := p
    exact ⟨a, i, j, rfl, SqT.of (e _ _ ha), Post.now (S := SD K) e p' rfl⟩
end
end Dn

set_option Elab.async false
set_option linter.all false
set_option maxRecDepth 100000
set_option maxHeartbeats 4000000
namespace Dn
open PySem PySem.Spec PyProof.Rows L2
variable [En]
abbrev KT := List (List Key × D)
section
variable {X : Cx} {cl : Nat → Addr} {W : WX} {e tg a b c : Expr} {pos p : Pos} {K : PySem.W.Frag} {P : Program} {w : World} {F F' H H' H0 F0 : Hp} {ρ ρ' : Ev} {σ : L2.St} {A : Nat → List Addr}
/-! ### a new dict, told -/
def PostT (K : PySem.W.Frag) (cl : Nat → Addr) (W : WX) (σ : L2.St) (H F : Hp) (r : Res KT) (Q : VK) : Prop := match r with
  | .ok kvs => ∀ a kws H' F', Gr H F H' F' → H a = none → F' a = none → H' a = some (.dT kws) → SeesKV K F' kvs kws → Q (.ref a) H'
  | .ex c => ∀ H' F', Gr H F H' F' → W (.ref (cl c)) none σ H'
  | .bad => False
theorem PostT.grow {r : Res KT} {Q : VK} (g : Gr H F H' F') (p : PostT K cl W σ H F r Q) : PostT K cl W σ H' F' r Q := by
  cases r with
  | ok d => exact fun a xs H2 F2 g2 h => p a xs H2 F2 (g.trans g2) (g.hh.free h)
  | ex c => exact fun H2 F2 g2 => p H2 F2 (g.trans g2)
  | bad => exact p
theorem PostT.ofBind {α β : Type} {S : Hp → α → β → Prop} {r : Res α} {k : α → Res KT} {Q : VK} (p : PostT K cl W σ H F (r.bind k) Q) :
    Post S cl W σ H F r (fun v H1 => ∃ F1 a, r = .ok a ∧ Gr H F H1 F1 ∧ S F1 a v ∧ PostT K cl W σ H1 F1 (k a) Q) := by
  cases r with
  | ok a => exact fun v H1 F1 g s => ⟨F1, a, rfl, g, s, PostT.grow g p⟩
  | ex c => exact p
  | bad => exact p
theorem PostT.toE {r : Res KT} {Q : VK} (p : PostT K cl W σ H F r Q) : PostT K cl (WofE (WE W σ)) [] H F r Q := by
  cases r with
  | ok d => exact p
  | ex c => exact p
  | bad => exact p
def tOT (K : PySem.W.Frag) (P : Program) (w : World) (cl : Nat → Addr) (W : WX) (f : Ev → Res KT) : TE := fun σ H Q => ∃ H0 F0 ρ F A, Rep K P w H0 F0 ρ σ H F A ∧ PostT K cl W σ H F (f ρ) Q
def spT (K : PySem.W.Frag) (cl : Nat → Addr) (n : Nat) (o : List D → Res KT) : Sp := fun vs H Q E => ∃ ds F, vs.length = n ∧ SeesL K F ds vs ∧ Same F H ∧ TOk H F ∧ PostT K cl (WofE E) [] H F (o ds) Q
def finT : Out → Res KT
  | .rd kvs => .ok kvs
  | .ex c _ => .ex c
  | _ => .bad
def opT (N : List Str) (g : Ev → Out) : List D → Res KT := fun ds => finT (g (rho0 N ds))
def gSetT (i : Nat) (f : Ev → Res KT) : Ev → Out := fun ρ => thenO (f ρ) ρ fun d => .nx (ρ.set i (.dt d))
theorem ds_setT {st : Stmt} {i : Nat} {f : Ev → Res KT} (h : PS X st (tAsg (tOT X.K X.prog X.w cl W f) (gName i))) : DS X cl W st (gSetT i f) := PS_imp h fun D σ H q => by
  obtain ⟨H0, F0, ρ, F, A, R, p⟩ := q
  refine ⟨H0, F0, ρ, F, A, R, ?_⟩
  cases r : f ρ with
  | ok kvs =>
    have p' : Fin X.K X.prog X.w cl W H0 F0 D (.nx (ρ.set i (.dt kvs))) := by
      unfold gSetT at p
      rw [r] at p
      exact p
    refine fun a kws H1 F1 g h h' e s => ?_
    refine p' _ _ _ _ ((R.grow g).store (as := [a]) ⟨a, kws, List.mem_cons_self, rfl, e, s⟩ (fun x hx => ?_) fun j x hx hj => ?_)
    · rw [List.mem_singleton.mp hx]
      exact ⟨h', R.base.hh.free h, (by rw [e]; exact fun z => (by cases z)), by rw [e]; exact fun z => z⟩
    · rw [List.mem_singleton.mp hx] at hj
      exact absurd hj (R.notA h j)
  | ex c =>
    unfold gSetT at p
    rw [r] at p
    exact fun H' F' g => p σ H' F' A (R.grow g)
  | bad =>
    unfold gSetT at p
    rw [r] at p
    exact p
section
variable {k j n : Nat} {x : Str} {es : List Expr} {g : Ev → Res (List D)}
theorem pt_callT {o : List D → Res KT} (tk : Takes X W) (C : Cal X.prog X.w X.K X.mg X.base k x (spT X.K cl n o)) (hr : Room j X.A) (hk : k ≤ j) (ha : DA X cl W (e :: es) g)
    (hg : Gl X x := by rfl) (hdb : (x == ("__debug__" : Str)) = false := by decide) (he : starEach (e :: es) X.env = (false, eval e X.env) :: starEach es X.env := by rfl) (hpl : (backTo pos (starEach es X.env)).any (·.1) = false := by rfl) :
    PE X (.Call (.Name x p) (e :: es) [] pos) (tOT X.K X.prog X.w cl W (sF n o g)) := by
  obtain ⟨f, fd, ps, G, hm, hkp, hb⟩ := C.ex
  exact PE_imp (pe_callS G (hr.mono hk) hg hm hkp hb (fun σ => passAt tk σ) ha hdb he hpl) fun σ H Q h => by
    obtain ⟨H0, F0, ρ, F, A, R, p⟩ := h
    refine ⟨H0, F0, ρ, F, A, R, (PostT.ofBind (S := SL X.K) p).imp fun v H1 ⟨F1, x, _, g1, s1, p1⟩ => ?_⟩
    by_cases hl : x.length = n
    · rw [if_pos hl] at p1
      exact ⟨x, F1, by rw [← SeesL.length s1]; exact hl, s1, g1.fh, g1.tok R.tok, p1.toE⟩
    · rw [if_neg hl] at p1
      exact p1.elim
end
/-! ### a dict walked and asked while it stays -/
theorem same_upd {q : Addr} {o : HO} (h : F q = none) : Same F (L2.upd F q o) := fun x u e => by
  rw [upd_ne (ne_of_none e h)]
  exact e
theorem Gr.tupAt {q : Addr} {xs : List V} (e : Same F H) (h : H q = some (.tup xs)) : ∃ F'', Gr H F H F'' ∧ F'' q = some (.tup xs) := by
  cases r : F q with
  | some o =>
    have z := e _ _ r
    rw [h] at z
    refine ⟨F, Gr.refl e, ?_⟩
    rw [r]
    exact z.symm
  | none =>
    refine ⟨L2.upd F q (.tup xs), ⟨same_upd r, SameT.refl _, fun x u z => ?_, fun x z => ?_⟩, upd_same⟩
    · by_cases c : x = q
      · rw [c, upd_same] at z
        rw [c, h]
        exact z
      · rw [upd_ne c] at z
        exact e _ _ z
    · by_cases c : x = q
      · refine .inr (.inr ?_)
        rw [c, h]
        trivial
      · rw [upd_ne c] at z
        exact .inl z
def keyD : Key → D
  | .inl i => .int i
  | .inr s => .str s
theorem sees_keys : ∀ ks : List Key, SeesL K F (ks.map keyD) (ks.map kV)
  | [] => True.intro
  | .inl i :: ks => ⟨rfl, sees_keys ks⟩
  | .inr s :: ks => ⟨rfl, sees_keys ks⟩
theorem seesKV_at : ∀ {kvs : KT} {kws : List (List Key × V)} {i : Nat} {k : List Key} {v : V}, SeesKV K F kvs kws → kws[i]? = some (k, v) → (kvs.map fun p => PyData.tuple (p.1.map keyD))[i]? = some (.tuple (k.map keyD))
  | [], [], _, _, _, _, h => by simp at h
  | [], _ :: _, _, _, _, s, _ => s.elim
  | _ :: _, [], _, _, _, s, _ => s.elim
  | p :: kvs, q :: kws, 0, k, v, s, h => by
    have e := Option.some.inj h
    show some (PyData.tuple (p.1.map keyD)) = some _
    rw [s.1.1, e]
  | p :: kvs, q :: kws, i + 1, k, v, s, h => seesKV_at (i := i) s.2 h
theorem wk_keys {d : Addr} {od : Obj} {kvs : KT} {kws : List (List Key × V)} (h : F d = some (.frz od (.dT kws))) (s : SeesKV K F kvs kws) : Wk K (Itkt d od kws) (kvs.map fun p => .tuple (p.1.map keyD)) F := by
  have hl : (kvs.map fun p => PyData.tuple (p.1.map keyD)).length = kws.length := by rw [List.length_map, seesKV_length s]
  refine ⟨fun i H F' e1 e2 hi => ⟨e2 _ _ (e1 _ _ h), by rw [← hl]; exact hi⟩, fun H F' e1 e2 => ⟨e2 _ _ (e1 _ _ h), by rw [hl]; exact Nat.le_refl _⟩, fun i H F' x H' e1 e2 hi y => ?_⟩
  obtain ⟨rfl, k, v, q, hk, rfl, hq⟩ := y
  obtain ⟨F2, g, hF2⟩ := Gr.tupAt e2 hq
  exact ⟨F2, _, seesKV_at s hk, g, q, _, rfl, hF2, sees_keys k⟩
def iKy (i : Nat) : Ev → Res (List D) := fun ρ => match ρ[i]? with
  | some (.dz kvs) => .ok (kvs.map fun p => .tuple (p.1.map keyD))
  | _ => .bad
theorem di_keys {i : Nat} (hx : PE X e (tVar i)) : DI X cl W tg e (iKy i) := PI_imp (pi_keys hx) fun σ H Q q => by
  obtain ⟨H0, F0, ρ, F, A, R, p⟩ := q
  unfold iKy at p
  cases q : ρ[i]? with
  | none => rw [q] at p; exact p.elim
  | some c =>
    rw [q] at p
    have h := R.cel i c q
    cases c with
    | dz kvs =>
      obtain ⟨a, kws, od, h1, h2, h3⟩ := h
      exact ⟨.ref a, R.get h1, a, od, rfl, .inr ⟨kws, R.sub _ _ h2, Post.now (S := SW X.K) R.sub p (wk_keys h2 h3)⟩⟩
    | _ => exact p.elim
def sIxZ (i : Nat) (f : Ev → Res D) : Ev → Res D := fun ρ => match ρ[i]? with
  | some (.dz kvs) => (f ρ).bind fun d => (match tkeyO d with
    | some k => ofO (valD kvs k)
    | none => .bad)
  | _ => .bad
theorem de_ixZ {i : Nat} {f : Ev → Res D} (hu : X.A.units + 65 < cLine) (hx : PE X a (tVar i)) (hb : DE X cl W b f) (hs : NoSl b) : DE X cl W (.Subscript a b pos) (sIxZ i f) := PE_imp (pe_dget (by omega) hx hb hs) fun σ H Q q => by
  obtain ⟨H0, F0, ρ, F, A, R, p⟩ := q
  unfold sIxZ at p
  cases q : ρ[i]? with
  | none => rw [q] at p; exact p.elim
  | some c =>
    rw [q] at p
    have h := R.cel i c q
    cases c with
    | dz kvs =>
      obtain ⟨a, kws, od, h1, h2, h3⟩ := h
      refine ⟨.ref a, R.get h1, H0, F0, ρ, F, A, R, (Post.bind (S := SD X.K) p).imp fun v H1 ⟨F1, d, _, g1, s1, p1⟩ => ?_⟩
      cases hk : tkeyO d with
      | none => rw [hk] at p1; exact p1.elim
      | some k =>
        rw [hk] at p1
        have p1 : Post (SD X.K) cl W σ H1 F1 (ofO (valD kvs k)) Q := p1
        cases d with
        | tuple ds =>
          obtain ⟨b, xs, rfl, hb, hs⟩ := s1
          have e1 : Rd H1 a (.dT kws) := .inr ⟨od, g1.fh _ _ (g1.ff _ _ h2)⟩
          rcases seesKV_val k h3 with ⟨y1, y2⟩ | ⟨d', v', y1, y2, y3⟩
          · rw [y1] at p1
            exact p1.elim
          · rw [y1] at p1
            refine ⟨a, v', rfl, .inr ⟨kws, k, b, e1, rfl, ?_, y2.symm⟩, ?_⟩
            · rw [← keysO_sees hk hs]
              exact g1.fh _ _ hb
            · exact Post.now (S := SD X.K) g1.fh p1 (y3.mono g1.ff)
        | _ => cases hk
    | _ => exact p.elim
/-- while a dict of the frame's own stays as it is -/
def sLockB (i : Nat) (f : Ev → Res D) : Ev → Res D := fun ρ => match ρ[i]? with
  | some (.dt kvs) => (match f (ρ.set i (.dz kvs)) with
    | .ok (.bool b) => .ok (.bool b)
    | _ => .bad)
  | _ => .bad
theorem de_lockB {i : Nat} {f : Ev → Res D} (h : DE X cl W e f) : DE X cl W e (sLockB i f) := PE_imp (pe_lock h) fun σ H Q q => by
  obtain ⟨H0, F0, ρ, F, A, R, p⟩ := q
  unfold sLockB at p
  cases q : ρ[i]? with
  | none => rw [q] at p; exact p.elim
  | some c =>
    rw [q] at p
    cases c with
    | dt kvs =>
      obtain ⟨a, kws, h1, h2, h3, h4⟩ := R.cel i _ q
      obtain ⟨f1, f2, f3, f4⟩ := R.fr i a h1
      have p1 : Post (SD X.K) cl W σ H F (match f (ρ.set i (.dz kvs)) with | .ok (.bool b) => .ok (.bool b) | _ => .bad) Q := p
      cases hf : f (ρ.set i (.dz kvs)) with
      | bad => rw [hf] at p1; exact p1.elim
      | ex c => rw [hf] at p1; exact p1.elim
      | ok d =>
        rw [hf] at p1
        cases d with
        | bool b =>
          have p2 : Post (SD X.K) cl W σ H F (.ok (.bool b)) Q := p1
          refine ⟨a, .dT kws, h3, trivial, fun od => ?_⟩
          have fz : Same F (L2.upd F a (.frz od (.dT kws))) := same_upd f1
          have Rz : Rep X.K X.prog X.w H0 F0 (ρ.set i (.dz kvs)) σ (L2.upd H a (.frz od (.dT kws))) (L2.upd F a (.frz od (.dT kws))) (setA A i []) := by
            refine ⟨⟨R.base.ff.trans fz, R.base.hh.upd f2, fun x u z => ?_, fun x z => ?_⟩, by rw [List.length_set]; exact R.len, fun j c hj => ?_, fun j x hx => ?_, fun j k x hj hk => ?_, R.tk⟩
            · by_cases c : x = a
              · rw [c, upd_same] at z ⊢
                exact z
              · rw [upd_ne c] at z ⊢
                exact R.sub _ _ z
            · by_cases c : x = a
              · rw [c]
                exact .inr (.inl f2)
              · rw [upd_ne c] at z
                exact R.base.nw x z
            · by_cases ej : j = i
              · subst ej
                have hl : j < ρ.length := (List.getElem?_eq_some_iff.mp q).1
                rw [List.getElem?_set_self hl] at hj
                have e1 := Option.some.inj hj
                subst e1
                exact ⟨a, kws, od, h2, upd_same, h4.mono fz⟩
              · rw [List.getElem?_set_ne (fun z => ej z.symm)] at hj
                unfold setA
                rw [if_neg ej]
                refine (R.cel j c hj).mono fz fun x hx => upd_ne fun z => ej ?_
                exact R.dj j i x hx (by rw [z]; exact h1)
            · unfold setA at hx
              by_cases ej : j = i
              · rw [if_pos ej] at hx
                exact nomatch hx
              · rw [if_neg ej] at hx
                obtain ⟨y1, y2, y3, y4⟩ := R.fr j x hx
                have ne : x ≠ a := fun z => ej (R.dj j i x hx (by rw [z]; exact h1))
                rw [upd_ne ne, upd_ne ne]
                exact ⟨y1, y2, y3, y4⟩
            · unfold setA at hj hk
              by_cases ej : j = i
              · rw [if_pos ej] at hj
                exact nomatch hj
              · rw [if_neg ej] at hj
                by_cases ek : k = i
                · rw [if_pos ek] at hk
                  exact nomatch hk
                · rw [if_neg ek] at hk
                  exact R.dj j k x hj hk
          refine ⟨H0, F0, _, _, _, Rz, ?_⟩
          rw [hf]
          refine fun v H1 F1 g s => ⟨g.hh.get upd_same, ?_⟩
          have ev : v = .bl b := s
          subst ev
          refine p2 (.bl b) (L2.upd H1 a (.dT kws)) F ⟨Same.refl _, fun x u z => ?_, fun x u z => ?_, fun x z => .inl z⟩ rfl
          · by_cases c : x = a
            · rw [c, h3] at z
              exact .inl (by rw [c, upd_same]; exact z)
            · rcases g.hh x u (by rw [upd_ne c]; exact z) with y | ⟨⟨ps, y1, y2⟩, qs, y3, y4⟩
              · exact .inl (by rw [upd_ne c]; exact y)
              · exact .inr ⟨⟨ps, by rw [upd_ne c] at y1; exact y1, y2⟩, qs, by rw [upd_ne c]; exact y3, y4⟩
          · have c : x ≠ a := ne_of_none z f1
            rw [upd_ne c]
            exact g.fh _ _ (g.ff _ _ (fz _ _ z))
        | _ => exact p1.elim
    | _ => exact p.elim
/-! ### sum of a told tuple too -/
def oSumA : List D → Res D
  | [.tuple ds] => ofO ((intsO ds).map fun ns => .int ns.sum)
  | xs => oSum xs
theorem cd_sumA : CallD K (fun vs H Q => rSum K vs H Q ∨ rSum2T K vs H Q) oSumA := by
  intro cl W σ ds vs H F Q e s p
  by_cases h : ∃ es, ds = [.tuple es]
  · obtain ⟨es, rfl⟩ := h
    match vs, s with
    | [v], s =>
      obtain ⟨a, xs, rfl, ha, hs⟩ := s.1
      have p' : Post (SD K) cl W σ H F (ofO ((intsO es).map fun ns => .int ns.sum)) Q := p
      cases q2 : intsO es with
      | none => rw [q2] at p'; exact p'.elim
      | some ns =>
        rw [q2] at p'
        rw [intsO_eq q2] at hs
        have ex := hs.ints
        subst ex
        exact .inr ⟨a, ns, rfl, SqT.of (e _ _ ha), Post.now (S := SD K) e p' rfl⟩
  · refine .inl (cd_sum cl W σ ds vs H F Q e s ?_)
    have e2 : oSumA ds = oSum ds := by
      unfold oSumA
      split
      · exact absurd ⟨_, rfl⟩ h
      · rfl
    rw [← e2]
    exact p
/-! ### x[k] = e, x a list of the frame's own -/
def gStore (i : Nat) (f g : Ev → Res D) : Ev → Out := fun ρ => if hasOwn ρ i = true then thenO (g ρ) ρ fun d => thenO (f ρ) ρ fun kd => match ρ[i]?, kd with
  | some (.own ds), .int k => (match L2.ixN ds.length k with
    | some j => .nx (ρ.set i (.own (ds.set j d)))
    | none => .bad)
  | _, _ => .bad else .bad
theorem SeesL.setAt : ∀ {ds : List D} {xs : List V} {j : Nat} {d : D} {v : V}, SeesL K F ds xs → Sees K F d v → SeesL K F (ds.set j d) (xs.set j v)
  | [], [], _, _, _, _, _ => True.intro
  | [], _ :: _, _, _, _, h, _ => h.elim
  | _ :: _, [], _, _, _, h, _ => h.elim
  | _ :: _, _ :: _, 0, _, _, h, s => ⟨s, h.2⟩
  | _ :: _, _ :: _, j + 1, _, _, h, s => ⟨h.1, SeesL.setAt (j := j) h.2 s⟩
theorem ds_store {st : Stmt} {i : Nat} {f g : Ev → Res D} (h : PS X st (tAsg (tX X.K X.prog X.w (SD X.K) cl W g) (gSub (tVar i) (tX X.K X.prog X.w (SD X.K) cl W f) rSetL))) : DS X cl W st (gStore i f g) := PS_imp h fun D σ H q => by
  obtain ⟨H0, F0, ρ, F, A, R, p⟩ := q
  unfold gStore at p
  by_cases hw : hasOwn ρ i = true
  case neg => rw [if_neg hw] at p; exact p.elim
  rw [if_pos hw] at p
  unfold hasOwn at hw
  cases q : ρ[i]? with
  | none => rw [q] at hw; cases hw
  | some c =>
    cases c with
    | own ds =>
      obtain ⟨a, xs, e1, e2, e3, e4⟩ := R.cel i _ q
      refine ⟨H0, F0, ρ, F, A, R, fin_ex (S := SD X.K) R p fun d v H1 F1 _ g1 s1 p1 => ?_⟩
      have R1 := R.grow g1
      refine ⟨.ref a, R.get e2, H0, F0, ρ, F1, A, R1, fin_ex (S := SD X.K) R1 p1 fun kd kv H2 F2 _ g2 s2 p2 => ?_⟩
      have R2 := R1.grow g2
      rw [q] at p2
      cases kd with
      | int k =>
        have p3 : Fin X.K X.prog X.w cl W H0 F0 D (match L2.ixN ds.length k with | some j => .nx (ρ.set i (.own (ds.set j d))) | none => .bad) := p2
        cases hx : L2.ixN ds.length k with
        | none => rw [hx] at p3; exact p3.elim
        | some j =>
          rw [hx] at p3
          obtain ⟨a', xs', y1, y2, y3, y4⟩ := R2.cel i _ q
          have ea : a' = a := by
            have z := y2.symm.trans e2
            injection z with z; injection z
          subst ea
          refine ⟨a', xs', k, j, rfl, s2, y3, by rw [← y4.length]; exact hx, ?_⟩
          exact p3 _ _ _ _ (R2.change (c' := .own (ds.set j d)) y1 (by exact fun z => z) ⟨a', _, y1, y2, upd_same, y4.setAt (s1.mono g2.ff)⟩)
      | _ => exact p2.elim
    | _ => rw [q] at hw; cases hw
end
section
variable {K : PySem.W.Frag} {cl : Nat → Addr} {P : Program} {w : World} {mg : Str → Option Value} {base : Heap} {x qual : Str} {st : Stmt} {f : Addr} {fd : FuncData} {N ps : List Str} {k : Nat} {g : Ev → Out}
theorem fnT {n : Nat} (Fn : Fun K x qual st f fd) (S : FnScope N ps (defScope st)) (hn : ps.length = n)
    (hb : ∀ (cdv : Value) (A : Around) (outer : List Env) (s : Shared) (H : Hp) (E : XK), Room k (A.deeper (envOfC qual (defScope st) s.heap.objs.size f cdv)) → DSs (cxOf (L2.CX P w) P w K mg base N qual (defScope st) f cdv A outer s H E) cl (WofE E) (defBody st) g) :
    FnOk P w K mg base (L2.CX P w) (k + 1) f fd ps (spT K cl n (opT N g)) := by
  refine Fn.okX S (fun vs H Q E h => ?_) fun cdv A outer s H vs Q E hr h => ⟨_, hb cdv A outer s H E hr, ?_⟩
  · obtain ⟨ds, F, h1, _⟩ := h
    rw [h1, hn]
  · obtain ⟨ds, F, h1, h2, h3, h4, p⟩ := h
    refine ⟨H, F, rho0 N ds, F, _, rep_start h3 h4 h2, ?_⟩
    unfold opT at p
    show Fin K P w cl (WofE E) H F _ (g (rho0 N ds))
    cases q : g (rho0 N ds) with
    | rd d => rw [q] at p; exact p
    | rs _ _ => rw [q] at p; exact p.elim
    | ex c ρ' =>
      rw [q] at p
      exact fun σ' H' F' A' R => p H' F' R.base
    | _ => rw [q] at p; exact p.elim
end
end Dn

set_option Elab.async false
set_option linter.all false
set_option maxRecDepth 100000
set_option maxHeartbeats 4000000
namespace Dn
open PySem PySem.Spec PyProof.Rows L2
variable [En]
section
variable {X : Cx} {cl : Nat → Addr} {W : WX} {e tg a b c : Expr} {pos p : Pos} {K : PySem.W.Frag} {P : Program} {w : World} {F F' H H' H0 F0 : Hp} {ρ ρ' : Ev} {σ : L2.St} {A : Nat → List Addr}
/-- x[k], x a list of the frame's own -/
def sIxO (i : Nat) (f : Ev → Res D) : Ev → Res D := fun ρ => match ρ[i]? with
  | some (.own ds) => (f ρ).bind fun k => oIx (.list ds) k
  | _ => .bad
theorem de_ixO {i : Nat} {f : Ev → Res D} (hx : PE X a (tVar i)) (hb : DE X cl W b f) (hs : PlainIx b := by exact fun _ _ => rfl) : DE X cl W (.Subscript a b pos) (sIxO i f) := PE_imp (pe_ix ix_seq hx hb hs) fun σ H Q q => by
  obtain ⟨H0, F0, ρ, F, A, R, p⟩ := q
  unfold sIxO at p
  cases q : ρ[i]? with
  | none => rw [q] at p; exact p.elim
  | some c =>
    rw [q] at p
    have h := R.cel i c q
    cases c with
    | own ds =>
      obtain ⟨a, xs, h1, h2, h3, h4⟩ := h
      obtain ⟨f1, f2, f3, f4⟩ := R.fr i a h1
      refine ⟨.ref a, R.get h2, H0, F0, ρ, F, A, R, (Post.bind (S := SD X.K) p).imp fun v H1 ⟨F1, d, _, g1, s1, p1⟩ => ?_⟩
      cases d with
      | int k =>
        have p2 : Post (SD X.K) cl W σ H1 F1 (ofO (L2.atI ds k)) Q := p1
        cases r : L2.atI ds k with
        | none => rw [r] at p2; exact p2.elim
        | some d =>
          rw [r] at p2
          obtain ⟨z, y1, y2⟩ := (h4.mono g1.ff).atI r
          exact .inl ⟨a, xs, k, z, rfl, s1, SqL.of (g1.hh.get h3), y1, Post.now (S := SD X.K) g1.fh p2 y2⟩
      | _ => exact p1.elim
    | _ => exact p.elim
end
end Dn

set_option Elab.async false
set_option linter.all false
set_option maxRecDepth 100000
set_option maxHeartbeats 4000000
namespace Dn
open PySem PySem.Spec PyProof.Rows L2
/-! ### all(type(x) is T for x in a told list) -/
/-- the types of values -/
def TysOf (K : PySem.W.Frag) (H : Hp) : List V → List String → Prop
  | [], [] => True
  | x :: xs, T :: Ts => TyB K H x T ∧ TysOf K H xs Ts
  | _, _ => False
theorem tysOf_get {K : PySem.W.Frag} {H : Hp} : ∀ {xs : List V} {Ts : List String} {i : Nat} {x : V}, TysOf K H xs Ts → xs[i]? = some x → ∃ T, Ts[i]? = some T ∧ TyB K H x T
  | [], _, _, _, _, h => by simp at h
  | _ :: _, [], _, _, h, _ => h.elim
  | y :: ys, T :: Ts, 0, x, h, e => by
    have e' := Option.some.inj e
    subst e'
    exact ⟨T, rfl, h.1⟩
  | _ :: _, _ :: _, i + 1, _, h, e => tysOf_get (i := i) h.2 e
theorem tysOf_len {K : PySem.W.Frag} {H : Hp} : ∀ {xs : List V} {Ts : List String}, TysOf K H xs Ts → xs.length = Ts.length
  | [], [], _ => rfl
  | [], _ :: _, h => h.elim
  | _ :: _, [], h => h.elim
  | _ :: _, _ :: _, h => by rw [List.length_cons, List.length_cons, tysOf_len h.2]
/-- the generator's scope as such an expression has it -/
structure GenT (env : Env) (scope : Scope) (x t : Str) : Prop where
  s : GxR.GenS env scope x
  ty : scope.names.lookup ("type" : Str) = some NameKind.globalImplicit
  tn : scope.names.lookup t = some NameKind.globalImplicit
section
variable {X : Cx} {pins : List (Addr × Obj)} {σ : L2.St} {H : Hp} {s : Shared}
theorem typeIs_keep {s s' : Shared} {v : Value} {T : String} (k : ∀ b o, s.heap.get? b = some o → (∀ a, v = .ref a → b = a → s'.heap.get? b = some o)) (h : s.TypeIs v T) : s'.TypeIs v T := by
  cases v with
  | ref a =>
    obtain ⟨o, e, c⟩ := h
    exact ⟨o, k a o e a rfl rfl, c⟩
  | _ => exact h
/-- the element, where the generator stands -/
theorem elt_ty {prog : Program} {w : World} {A : Around} {E : Value → Shared → Prop} {cenv : Env} {scope : Scope} {x t : Str} {T T' : String} {v : Value} {s : Shared} {m mg mb : Str → Option Value} {p1 p2 p3 p4 p5 : Pos} (hs : cenv.scope = scope) (hk : scope.kind = .function) (hl : scope.names.lookup x = some .local)
    (h1 : scope.names.lookup ("type" : Str) = some NameKind.globalImplicit) (h2 : scope.names.lookup t = some NameKind.globalImplicit) (hn : s.heap.Ns cenv.locals m) (hm : m x = some v) (hg : s.heap.Ns cenv.globals mg) (hb : s.heap.Ns cenv.builtins mb)
    (g1 : mg "type" = none) (b1 : mb "type" = some (.type "type")) (g2 : mg t = none) (b2 : mb t = some (.type T)) (hT : s.TypeIs v T') (hnb : (Value.type T' == Value.type "builtin_function_or_method") = false) (hd : (x == ("__debug__" : Str)) = false) (hd2 : (t == ("__debug__" : Str)) = false)
    (he : starEach [.Name x p2] cenv = (false, eval (.Name x p2) cenv) :: starEach [] cenv) :
    wpAny (model prog w) A (eval (.Compare (.Call (.Name "type" p1) [.Name x p2] [] p3) [.Is] [.Name t p4] p5) cenv) (fun y s3 => y = .bool (decide (T' = T)) ∧ s3 = s) E s := by
  have fk : cenv.scope.kind = .function := by rw [hs]; exact hk
  refine wpAny_Compare1 ?_
  refine wpAny_Call_Name_kw (Calls.Name_function_global fk (show cenv.scope.names.lookup _ = _ by rw [hs]; exact h1) (Calls.loadGlobal_builtin hg g1 hb b1 ?_) (by decide))
  refine PyProof.Rows.callWith_type1 ?_ he rfl
  rw [he]
  refine Calls.spliced_cons (wpAny_Name (wpAny_loadName_local fk (show cenv.scope.names.lookup x = some .local by rw [hs]; exact hl) hn hm ?_) hd)
  refine Calls.spliced_nil (call_type_of hT hnb ?_)
  refine Calls.Name_function_global fk (show cenv.scope.names.lookup t = _ by rw [hs]; exact h2) (Calls.loadGlobal_builtin hg g2 hb b2 ?_) hd2
  refine wpAny_is_plain rfl ⟨?_, rfl⟩
  rw [ty_beq T' T]
/-- the generator g, ready: it tells of each item whether it is of the kind -/
def RdyT (X : Cx) (pins : List (Addr × Obj)) (σ : L2.St) (H1 : Hp) (P : Addr) (Ts : List String) (T : String) (g : Addr) (s5 : Shared) : Prop :=
  ∃ (fp wr : List Addr) (G : Array GenState → Array GenState → Prop) (F : Nat → Value → Prop) (St : Nat → Shared → Prop),
    WalksS X.prog X.w X.A.in1 g fp wr G Ts.length F St ∧ St 0 s5 ∧ (∀ j v, F j v → ∃ T', Ts[j]? = some T' ∧ v = .bool (decide (T' = T))) ∧
    ∀ s', Moved wr G s5 s' → ∃ H2, GxR.Tabbed P H1 H2 ∧ Inv X pins σ H2 s'
theorem genT_at {c P : Addr} {iter : Expr} {x t : Str} {T : String} {p1 p2 p3 p4 p5 px gpos : Pos} {scope : Scope} {te : TE} {k : Nat} {Q' : Value → Shared → Prop} {R : List String → Hp → Prop}
    (hr : Room k X.A) (TB : GxR.TabB X.base X.mg c P) (hcode : X.env.code = .ref c) (S : GenT X.env scope x t) (hm : X.mg "type" = none) (hmt : X.mg t = none) (hbt : bootBuiltins t = some (.type T)) (hi : PE X iter te)
    (hs : ∀ v, genFold iter X.env v = pure v) (hn : t ≠ "__name__") (hd : (x == ("__debug__" : Str)) = false) (hd2 : (t == ("__debug__" : Str)) = false) (hnt : bootBuiltins ("type" : Str) = some (.type "type"))
    (he : ∀ (C bi : Addr) (code : Value), starEach [.Name x p2] (genEnv scope (cloFrom X.env.cells scope.names []) C code bi X.env) = (false, eval (.Name x p2) (genEnv scope (cloFrom X.env.cells scope.names []) C code bi X.env)) :: starEach [] (genEnv scope (cloFrom X.env.cells scope.names []) C code bi X.env))
    (I : Inv X pins σ H s) (h : te σ H fun v H1 => ∃ (yl : Addr) (ws : List V) (Ts : List String), v = .ref yl ∧ SqL X.K H1 yl ws ∧ TysOf X.K H1 ws Ts ∧ GxR.TabG H1 P ∧ R Ts H1)
    (hQ : ∀ Ts H1 g s5, R Ts H1 → RdyT X pins σ H1 P Ts T g s5 → Q' (.ref g) s5) :
    wpAny (model X.prog X.w) X.A (eval (.GeneratorExp (.Compare (.Call (.Name "type" p1) [.Name x p2] [] p3) [.Is] [.Name t p4] p5) [⟨.Name x px, iter, [], 0⟩] scope gpos) X.env) Q' X.xe s := by
  refine wpAny_GeneratorExp_walksQ hr.hd S.s.co (closure_ok S.s.free) S.s.cell S.s.dot S.s.loc S.s.kind (by have := hr.dp; omega) ?_ hs
  refine thn (hi.run pins s σ H _ I h) fun xv s1 ⟨v, H1, I1, r1, yl, ws, Ts, ev, hyl, hty, ⟨ps, hP, ht⟩, q1⟩ => ?_
  subst ev
  cases (show xv = Value.ref yl from r1)
  obtain ⟨its, rv, hl, hz⟩ := I1.list hyl
  have IL := hl.isList
  have hlen : its.length = Ts.length := by rw [← rv.length, tysOf_len hty]
  -- what each item is, now
  have tyAt : ∀ (i : Nat) (v : Value), its.toArray[i]? = some v → ∃ T', Ts[i]? = some T' ∧ s1.TypeIs v T' ∧ (Value.type T' == Value.type "builtin_function_or_method") = false := fun i v hv => by
    have hv2 : its[i]? = some v := by simpa using hv
    have hi2 : i < ws.length := by rw [rv.length]; exact (List.getElem?_eq_some_iff.mp hv2).1
    obtain ⟨T', e1, e2⟩ := tysOf_get hty (List.getElem?_eq_getElem hi2)
    obtain ⟨u, hu, ru⟩ := rv.get (List.getElem?_eq_getElem hi2)
    rw [hv2] at hu
    cases hu
    exact ⟨T', e1, e2.is I1 ru, e2.nb⟩
  refine wpAny_pyIter_list IL ?_
  generalize eo : ({ cls := .type "list_iterator", data := .fields #[.ref yl, .int 0 0] } : Obj) = o
  have itr : (s1.heap.push o).IsListIter s1.heap.objs.size yl 0 := by
    subst eo
    exact ⟨_, Heap.get?_push_size _ rfl, rfl, rfl⟩
  have ylt : yl < s1.heap.objs.size := let ⟨_, e, _⟩ := _root_.id IL; Heap.lt_size e
  have hPs : s1.heap.get? P = some { cls := .none, data := .fields ps } := I1.hok P _ hP
  have hPlt := Heap.lt_size hPs
  have hP2 : (s1.heap.push o).get? P = some { cls := .none, data := .fields ps } := Heap.get?_push_of_some _ hPs
  have cd : PySem.W.CodeHd (s1.heap.push o) c P := TB.code.keeps fun b u e => Heap.get?_push_of_some _ (I1.bk b u e)
  have lim : (s1.heap.push o).NoLimit := I1.nolimit.push o
  refine ⟨lim, ?_⟩
  -- behind the code object, found or made
  have go : ∀ (code : Value) (h3 : Heap) (tk : Nat) (ps' : Array Value), Heap.ExtBut P (s1.heap.push o) h3 → (s1.heap.push o).objs.size ≤ h3.objs.size → h3.get? P = some { cls := .none, data := .fields ps' } → (∃ more, ps' = ps ++ more) → TriplesOk ps'.toList →
      wpAny (model X.prog X.w) X.A (builtinsFor X.env.globals X.env.builtins) (fun bi s₄ => ∃ Ia fp wr n₀ Pf St₀ pz F, Value.ref s1.heap.objs.size = .ref Ia ∧ (∀ A' : Around, A'.handled = none → Walks X.prog X.w A' Ia fp wr n₀ Pf St₀) ∧ St₀ 0 s₄.heap ∧ (∀ b ∈ fp, b < s₄.heap.objs.size) ∧ s₄.heap.NoLimit ∧ cStatics ∉ wr ∧
          (∀ href : Heap, (∀ b o, s₄.heap.get? b = some o → href.get? b = some o) → QuietGen X.prog X.w (genEnv scope (cloFrom X.env.cells scope.names []) s₄.heap.objs.size code bi X.env) x [] (.Compare (.Call (.Name "type" p1) [.Name x p2] [] p3) [.Is] [.Name t p4] p5) (List.range s₄.heap.objs.size) wr Pf pz F href) ∧
          (∀ a h₅ tk gs, gs.bare = true → s₄.heap.objs.size < a → h₅.objs.size = a + 1 → (∀ b o, s₄.heap.get? b = some o → h₅.get? b = some o) →
            WalksS X.prog X.w X.A.in4 a (a :: s₄.heap.objs.size :: List.range s₄.heap.objs.size) (s₄.heap.objs.size :: wr) (GenOnlyQ s₄.gens.size) (passing pz n₀ 0).length (fun j y => ∃ i, (passing pz n₀ 0)[j]? = some i ∧ F i y) (GenAt X.prog X.w X.A.in4 a s₄.gens.size s₄.heap.objs.size (List.range s₄.heap.objs.size) wr pz n₀ F) →
            GenAt X.prog X.w X.A.in4 a s₄.gens.size s₄.heap.objs.size (List.range s₄.heap.objs.size) wr pz n₀ F 0 { s₄ with gens := s₄.gens.push gs, toks := tk, heap := h₅ } → Q' (.ref a) { s₄ with gens := s₄.gens.push gs, toks := tk, heap := h₅ })) X.xe { s1 with heap := h3, toks := tk } := by
    intro code h3 tk ps' hx hsz hP3 hmore ht3
    obtain ⟨bm, ob, e1, e2, e3, e4, e5, e6, e7, e8⟩ := TB.bm
    have hcP : cStatics ≠ P := fun e => by
      obtain ⟨_, ⟨o', es, ep, ho, hd, _⟩, _⟩ := I1.nolimit
      rw [e, hPs] at ho
      cases ho
      cases hd
    have hcl : cStatics < s1.heap.objs.size := let ⟨_, hns, _⟩ := I1.nolimit; hns.lt
    have sz2 : (s1.heap.push o).objs.size = s1.heap.objs.size + 1 := Heap.size_push ..
    have hl3 : s1.heap.objs.size < h3.objs.size := by omega
    have keep3 : ∀ b u, b ≠ P → s1.heap.get? b = some u → h3.get? b = some u := fun b u hb e => hx b u hb (Heap.get?_push_of_some _ e)
    have glob3 : h3.Ns X.env.globals X.mg := by rw [I1.ok.glob]; exact ((I1.mod.glob.keeps I1.bk).push o).extBut hx TB.gP
    obtain ⟨mb, hmb1, hmb2⟩ := I1.mod.blt
    have nbP : builtinsNs ≠ P := fun e => by
      obtain ⟨o', es, ep, ho, hd, _⟩ := hmb1.keeps I1.bk
      rw [e, hPs] at ho
      cases ho
      cases hd
    have blt3 : h3.Ns builtinsNs mb := ((hmb1.keeps I1.bk).push o).extBut hx nbP
    refine wpAny_builtinsFor (m := X.mg) glob3 e1 e2 (keep3 _ _ e4 (I1.bk _ _ e5)) e6 e7 e8 ?_
    have ylP : yl ≠ P := fun z => by
      obtain ⟨_, e, hc1, _, hd1⟩ := _root_.id IL
      rw [z, hPs] at e
      cases e
      cases hd1
    have IL3 : h3.IsList yl its.toArray := let ⟨ob, e, r⟩ := _root_.id IL; ⟨ob, keep3 _ _ ylP e, r⟩
    have itr3 : h3.IsListIter s1.heap.objs.size yl 0 := itr.at fun u e => hx _ u (Nat.ne_of_gt hPlt) e
    refine ⟨s1.heap.objs.size, [s1.heap.objs.size, yl], [s1.heap.objs.size], its.toArray.size, (fun i v => its.toArray[i]? = some v), (fun i h => h.IsListIter s1.heap.objs.size yl i ∧ h.IsList yl its.toArray), (fun _ => true),
      (fun i y => ∃ T', Ts[i]? = some T' ∧ y = .bool (decide (T' = T))), rfl, (fun A' hA => Walks.list hA _ _ (Nat.ne_of_lt ylt) _), ⟨itr3, IL3⟩, fun b hb => ?_, lim.extBut hx hcP, fun z => ?_, fun href hhref => ?_, fun g h5 tk5 gs hgb hag hsz5 hk5 W5 hgat => ?_⟩
    · show b < h3.objs.size
      rcases List.mem_cons.mp hb with z | z
      · rw [z]
        exact hl3
      · rw [List.mem_singleton.mp z]
        exact Nat.lt_of_lt_of_le ylt (by omega)
    · exact Nat.ne_of_lt hcl (List.mem_singleton.mp z)
    · refine ⟨fun A' E' i v s₂ m₂ hA hPv hn hm hk => ?_, fun A' E' i v s₂ m₂ hA hPv hp hn3 hm3 hk => ?_⟩
      · simp only [List.forIn_nil]
        exact wpAny_pure ⟨rfl, GxR.keeps_refl _⟩
      · -- the item's kind is the same where the generator runs
        have stay : ∀ b u, b ≠ s1.heap.objs.size → h3.get? b = some u → s₂.heap.get? b = some u := fun b u hb e => hk b (List.mem_range.mpr (Heap.lt_size e)) (by rw [List.mem_singleton]; exact hb) u (hhref b u e)
        have stay1 : ∀ b u, b ≠ P → s1.heap.get? b = some u → s₂.heap.get? b = some u := fun b u hb e => stay b u (Nat.ne_of_lt (Heap.lt_size e)) (keep3 b u hb e)
        obtain ⟨T', e9, hT9, hnb9⟩ := tyAt i v hPv
        have hT2 : s₂.TypeIs v T' := typeIs_keep (fun b o e a ea eb => stay1 b o (fun z => by
          rw [ea] at hT9
          obtain ⟨o9, h9, c9⟩ := hT9
          rw [← eb, z, hPs] at h9
          cases h9
          cases c9) e) hT9
        have gl : s₂.heap.Ns X.env.globals X.mg := by
          obtain ⟨og, es, ep, ho, hrest⟩ := (by rw [I1.ok.glob]; exact I1.mod.glob.keeps I1.bk : s1.heap.Ns X.env.globals X.mg)
          exact ⟨og, es, ep, stay1 _ _ (by rw [I1.ok.glob]; exact TB.gP) ho, hrest⟩
        have bl : s₂.heap.Ns builtinsNs mb := by
          obtain ⟨og, es, ep, ho, hrest⟩ := hmb1.keeps I1.bk
          exact ⟨og, es, ep, stay1 _ _ nbP ho, hrest⟩
        refine wpAny_mono (elt_ty (scope := scope) (T' := T') rfl S.s.kind S.s.loc S.ty S.tn hn3 hm3 gl bl hm ((hmb2 "type" (by decide)).trans hnt) hmt ((hmb2 t hn).trans hbt) hT2 hnb9 hd hd2 (he _ _ _)) (fun y s3 r => ?_) fun _ _ e => e
        obtain ⟨r1, r2⟩ := r
        subst r2
        exact ⟨⟨T', e9, r1⟩, GxR.keeps_refl _⟩
    · simp only [GxR.passing_true, List.length_range] at W5
      have n5 : its.toArray.size = Ts.length := by rw [List.size_toArray, hlen]
      rw [n5] at W5 hgat
      refine hQ Ts H1 g _ q1 ⟨_, _, _, _, _, W5.in4_1, hgat, fun j v hv => ?_, fun s' hmv => ?_⟩
      · obtain ⟨i, hij, hF⟩ := hv
        obtain ⟨hj, ej⟩ := List.getElem?_eq_some_iff.mp hij
        rw [List.getElem_range] at ej
        subst ej
        exact hF
      · obtain ⟨more, em⟩ := hmore
        have out : ∀ b u, s1.heap.get? b = some u → b ∉ h3.objs.size :: [s1.heap.objs.size] := fun b u e hb => by
          have q := Heap.lt_size e
          rcases List.mem_cons.mp hb with z | z
          · rw [z] at q
            exact Nat.lt_irrefl _ (Nat.lt_trans q hl3)
          · rw [List.mem_singleton.mp z] at q
            exact Nat.lt_irrefl _ q
        have J := GxR.inv_tab (more := more) (h' := s'.heap) (g' := s'.gens) (d' := s'.drawn) (t' := s'.toks) I1 hP (fun b u hb e => hmv.heap b u (out b u e) (hk5 b u (keep3 b u hb e))) (by rw [← em]; exact hmv.heap P _ (out P _ hPs) (hk5 P _ hP3)) (AllBare.movedS (I1.bare.push hgb) hmv)
        rw [GxR.sh_eta s1 s' hmv.os] at J
        exact ⟨upd H1 P (.tbl (ps ++ more)), ⟨⟨ps ++ more, upd_same, by rw [← em]; exact ht3⟩, fun b hb => upd_ne hb⟩, J⟩
  cases hf : codeAmong gpos ps.toList with
  | none =>
    refine wpAny_genexprCodeX hcode (cd.code hP2 ht) (cd.tab hP2) hf fun c' h' tk hx hge hlt hco htr0 htab _ => ?_
    obtain ⟨o1, vs, f1, tf, fl, tg, inF, tx, tt, op, _, _, _, _, _, _, _, _, _, htr, _⟩ := hco
    exact go _ h' tk _ hx (Nat.le_trans hge (Nat.le_of_lt hlt)) htab.2 ⟨_, rfl⟩ htr
  | some cv =>
    refine wpAny_genexprCode_hit hcode (cd.code hP2 ht) hf ?_
    exact go cv (s1.heap.push o) s1.toks ps (Heap.ExtBut.refl _ _) (Nat.le_refl _) hP2 ⟨#[], by simp⟩ ht
end
end Dn

set_option Elab.async false
set_option linter.all false
set_option maxRecDepth 100000
set_option maxHeartbeats 4000000
namespace Dn
open PySem PySem.Spec PyProof.Rows L2
variable [En]
section
variable {X : Cx} {cl : Nat → Addr} {W : WX} {e tg a b : Expr} {pos p : Pos} {K : PySem.W.Frag} {P' : Program} {w : World} {F F' H H' H0 F0 : Hp} {ρ ρ' : Ev} {σ : L2.St} {A : Nat → List Addr}
def tAllT (K : PySem.W.Frag) (P : Addr) (T : String) (te : TE) : TE := fun σ H Q => te σ H fun v H1 => ∃ (yl : Addr) (ws : List V) (Ts : List String), v = .ref yl ∧ SqL K H1 yl ws ∧ TysOf K H1 ws Ts ∧ GxR.TabG H1 P ∧ ∀ H2, GxR.Tabbed P H1 H2 → Q (.bl (Ts.all fun T' => decide (T' = T))) H2
def trT (Ts : List String) (T : String) (j : Nat) : Bool := match Ts[j]? with
  | some T' => decide (T' = T)
  | none => false
theorem trT_all (T : String) (Ts : List String) : (List.range Ts.length).all (trT Ts T) = Ts.all fun T' => decide (T' = T) := by
  rw [Bool.eq_iff_iff, List.all_eq_true, List.all_eq_true]
  constructor
  · intro h x hx
    obtain ⟨j, hj, e⟩ := List.getElem_of_mem hx
    have q := h j (List.mem_range.mpr hj)
    unfold trT at q
    rw [List.getElem?_eq_getElem hj, e] at q
    exact q
  · intro h j hj
    have hj' := List.mem_range.mp hj
    unfold trT
    rw [List.getElem?_eq_getElem hj']
    exact h _ (List.getElem_mem hj')
theorem pe_allT {c P : Addr} {iter : Expr} {x t : Str} {T : String} {p1 p2 p3 p4 p5 px gpos : Pos} {scope : Scope} {te : TE} {k : Nat}
    (hr : Room k X.A) (hg : Gl X "all") (hma : X.mg "all" = none) (TB : GxR.TabB X.base X.mg c P) (hcode : X.env.code = .ref c) (S : GenT X.env scope x t) (hm : X.mg "type" = none) (hmt : X.mg t = none) (hbt : bootBuiltins t = some (.type T)) (hi : PE X iter te)
    (hs : ∀ v, genFold iter X.env v = pure v) (hn : t ≠ "__name__") (hd : (x == ("__debug__" : Str)) = false) (hd2 : (t == ("__debug__" : Str)) = false)
    (he2 : ∀ (C bi : Addr) (code : Value), starEach [.Name x p2] (genEnv scope (cloFrom X.env.cells scope.names []) C code bi X.env) = (false, eval (.Name x p2) (genEnv scope (cloFrom X.env.cells scope.names []) C code bi X.env)) :: starEach [] (genEnv scope (cloFrom X.env.cells scope.names []) C code bi X.env))
    (he : starEach [.GeneratorExp (.Compare (.Call (.Name "type" p1) [.Name x p2] [] p3) [.Is] [.Name t p4] p5) [⟨.Name x px, iter, [], 0⟩] scope gpos] X.env = (false, eval (.GeneratorExp (.Compare (.Call (.Name "type" p1) [.Name x p2] [] p3) [.Is] [.Name t p4] p5) [⟨.Name x px, iter, [], 0⟩] scope gpos) X.env) :: starEach [] X.env)
    (hv1 : bootBuiltins ("type" : Str) = some (.type "type")) (hv2 : bootBuiltins ("all" : Str) = some (.builtin "all")) :
    PE X (.Call (.Name "all" p) [.GeneratorExp (.Compare (.Call (.Name "type" p1) [.Name x p2] [] p3) [.Is] [.Name t p4] p5) [⟨.Name x px, iter, [], 0⟩] scope gpos] [] pos) (tAllT X.K P T te) := by
  refine ⟨fun pins s σ H Q I h => ?_⟩
  refine wpAny_Call_Name_kw (ld_blt I hg hma hv2 ?_)
  refine PyProof.Rows.callWith_builtin1 ?_ he (by rfl)
  rw [he]
  refine Calls.spliced_cons (genT_at (R := fun Ts H1 => ∀ H2, GxR.Tabbed P H1 H2 → Q (.bl (Ts.all fun T' => decide (T' = T))) H2) hr TB hcode S hm hmt hbt hi hs hn hd hd2 hv1 he2 I h fun Ts H1 g s5 hR hG => Calls.spliced_nil ?_)
  obtain ⟨fp, wr, G, F, St, W, hst, hF, hI⟩ := hG
  refine call_all_walkS (W.self 0 _ _ _ hst ⟨g, fp, wr, G, _, F, St, trT Ts T, rfl, W, hst, fun j y sj Qj Ej hy hQj => ?_, fun s' hmv => ?_⟩)
  · obtain ⟨T', e1, rfl⟩ := hF j y hy
    unfold trT at hQj
    rw [e1] at hQj
    exact wpAny_truthy_bool hQj
  · obtain ⟨H2, hT, J⟩ := hI s' hmv
    refine ⟨.bl _, H2, J, rfl, ?_⟩
    rw [trT_all]
    exact hR H2 hT
/-- all(type(x) is T for x in a told list) -/
def okTy (d : D) : Bool := Dn.plain d || (match d with
  | .dict [] => true
  | _ => false)
theorem okTy_or {d : D} (h : okTy d = true) : Dn.plain d = true ∨ d = .dict [] := by
  unfold okTy at h
  rw [Bool.or_eq_true] at h
  rcases h with h | h
  · exact .inl h
  · right
    split at h
    · rfl
    · cases h
def sAllTy (T : String) (f : Ev → Res D) : Ev → Res Bool := fun ρ => (f ρ).bind fun x => match x with
  | .list ds => if ds.all okTy = true then .ok (ds.all fun d => decide (tyD d = T)) else .bad
  | _ => .bad
theorem tysOf_sees (e : Same F H) : ∀ {ds : List D} {vs : List V}, (∀ d ∈ ds, okTy d = true) → SeesL K F ds vs → TysOf K H vs (ds.map tyD)
  | [], [], _, _ => True.intro
  | [], _ :: _, _, h => h.elim
  | _ :: _, [], _, h => h.elim
  | d :: ds, v :: vs, p, h => ⟨tyB_sees e h.1 (okTy_or (p d List.mem_cons_self)), tysOf_sees e (fun x hx => p x (List.mem_cons_of_mem _ hx)) h.2⟩
theorem Gr.tabbed {P : Addr} {H2 : Hp} (e : Same F H) (hP : F P = none) (ht : GxR.TabG H P) (t : GxR.Tabbed P H H2) : Gr H F H2 F := by
  refine ⟨Same.refl _, fun a o q => ?_, fun a o q => ?_, fun _ q => .inl q⟩
  · by_cases ha : a = P
    · rw [ha]
      exact .inr ⟨ht, t.1⟩
    · exact .inl (by rw [t.2 a ha]; exact q)
  · rw [t.2 a (ne_of_none q hP)]
    exact e _ _ q
theorem dt_allTy {c P : Addr} {iter : Expr} {x t : Str} {T : String} {p1 p2 p3 p4 p5 px gpos : Pos} {scope : Scope} {f : Ev → Res D} {k : Nat} (hP : En.tb P)
    (hr : Room k X.A) (hma : X.mg "all" = none) (TB : GxR.TabB X.base X.mg c P) (hcode : X.env.code = .ref c) (S : GenT X.env scope x t) (hm : X.mg "type" = none) (hmt : X.mg t = none) (hbt : bootBuiltins t = some (.type T)) (hi : DE X cl W iter f)
    (hn : t ≠ "__name__") (hd : (x == ("__debug__" : Str)) = false) (hd2 : (t == ("__debug__" : Str)) = false) (hv1 : bootBuiltins ("type" : Str) = some (.type "type")) (hv2 : bootBuiltins ("all" : Str) = some (.builtin "all")) (hg : Gl X "all" := by rfl) (hs : ∀ v, genFold iter X.env v = pure v := by intro _; rfl)
    (he2 : ∀ (C bi : Addr) (code : Value), starEach [.Name x p2] (genEnv scope (cloFrom X.env.cells scope.names []) C code bi X.env) = (false, eval (.Name x p2) (genEnv scope (cloFrom X.env.cells scope.names []) C code bi X.env)) :: starEach [] (genEnv scope (cloFrom X.env.cells scope.names []) C code bi X.env) := by intro _ _ _; rfl)
    (he : starEach [.GeneratorExp (.Compare (.Call (.Name "type" p1) [.Name x p2] [] p3) [.Is] [.Name t p4] p5) [⟨.Name x px, iter, [], 0⟩] scope gpos] X.env = (false, eval (.GeneratorExp (.Compare (.Call (.Name "type" p1) [.Name x p2] [] p3) [.Is] [.Name t p4] p5) [⟨.Name x px, iter, [], 0⟩] scope gpos) X.env) :: starEach [] X.env := by rfl)
    (htr : ∀ whole, isTrue (.Call (.Name "all" p) [.GeneratorExp (.Compare (.Call (.Name "type" p1) [.Name x p2] [] p3) [.Is] [.Name t p4] p5) [⟨.Name x px, iter, [], 0⟩] scope gpos] [] pos) X.env whole = (do let v ← whole; standAt (Expr.pos (.Call (.Name "all" p) [.GeneratorExp (.Compare (.Call (.Name "type" p1) [.Name x p2] [] p3) [.Is] [.Name t p4] p5) [⟨.Name x px, iter, [], 0⟩] scope gpos] [] pos)); holding [v] (truthy v)) := by intro _; rfl) :
    DT X cl W (.Call (.Name "all" p) [.GeneratorExp (.Compare (.Call (.Name "type" p1) [.Name x p2] [] p3) [.Is] [.Name t p4] p5) [⟨.Name x px, iter, [], 0⟩] scope gpos] [] pos) (sAllTy T f) :=
  PT_imp (pt_truth (pe_allT hr hg hma TB hcode S hm hmt hbt hi hs hn hd hd2 he2 he hv1 hv2) htr) fun σ H Q q => by
  obtain ⟨H0, F0, ρ, F, A, R, p⟩ := q
  refine ⟨H0, F0, ρ, F, A, R, (Post.bind (S := SD X.K) p).imp fun v H1 ⟨F1, d, _, g1, s1, p1⟩ => ?_⟩
  cases d with
  | list ds =>
    obtain ⟨l, xs, rfl, hl, hs⟩ := s1
    by_cases h : ds.all okTy = true
    · have p2 : Post SB cl W σ H1 F1 (if ds.all okTy = true then .ok (ds.all fun d => decide (tyD d = T)) else .bad) Q := p1
      rw [if_pos h] at p2
      have tk := g1.tok R.tok P hP
      refine ⟨l, xs, ds.map tyD, rfl, SqL.of (g1.fh _ _ hl), tysOf_sees g1.fh (List.all_eq_true.mp h) hs, tk.2, fun H2 ht => ⟨_, rfl, ?_⟩⟩
      have e : (ds.map tyD).all (fun T' => decide (T' = T)) = ds.all fun d => decide (tyD d = T) := List.all_map ..
      rw [e]
      exact p2 _ _ _ (Gr.tabbed g1.fh tk.1 tk.2 ht) rfl
    · have p2 : Post SB cl W σ H1 F1 (if ds.all okTy = true then .ok (ds.all fun d => decide (tyD d = T)) else .bad) Q := p1
      rw [if_neg h] at p2
      exact p2.elim
  | _ => exact p1.elim
end
section
variable {K : PySem.W.Frag} {P : Program} {w : World} {cl : Nat → Addr} {mg : Str → Option Value} {base : Heap} {x qual : Str} {st : Stmt} {f : Addr} {fd : FuncData} {N ps : List Str} {k : Nat} {g : Ev → Out}
/-- fnX, its code object known -/
theorem fnXc {n : Nat} {cdv : Value} (Fn : Fun K x qual st f fd) (hcd : fd.code = cdv) (S : FnScope N ps (defScope st)) (hn : ps.length = n)
    (hb : ∀ (A : Around) (outer : List Env) (s : Shared) (H : Hp) (E : XK), Room k (A.deeper (envOfC qual (defScope st) s.heap.objs.size f cdv)) → DSs (cxOf (L2.CX P w) P w K mg base N qual (defScope st) f cdv A outer s H E) cl (WofE E) (defBody st) g) :
    FnOk P w K mg base (L2.CX P w) (k + 1) f fd ps (spX K cl n (opX N g)) := by
  obtain ⟨oc, od, kV, doc, pm, an, cdv', ct, osl, rfl, lk, hc2⟩ := Fn.ex
  have ec : cdv' = cdv := hcd
  subst ec
  refine fn_of lk hc2 S (fun vs H Q E h => ?_) fun A outer s H vs Q E hr h => ⟨_, hb A outer s H E hr, ?_⟩
  · obtain ⟨ds, F, h1, _⟩ := h
    rw [h1, hn]
  · obtain ⟨ds, F, h1, h2, h3, h4, p⟩ := h
    refine ⟨H, F, rho0 N ds, F, _, rep_start h3 h4 h2, ?_⟩
    unfold opX at p
    show Fin K P w cl (WofE E) H F _ (g (rho0 N ds))
    cases q : g (rho0 N ds) with
    | nx ρ' =>
      rw [q] at p
      exact fun σ' H' F' A' R => p .non H' F' R.base rfl
    | rt d => rw [q] at p; exact p
    | rn d =>
      rw [q] at p
      exact postO_of (r := .ok d) p
    | rn2 d =>
      rw [q] at p
      exact postO2_of (r := .ok d) p
    | rd _ => rw [q] at p; exact p.elim
    | rs _ _ => rw [q] at p; exact p.elim
    | ex c ρ' =>
      rw [q] at p
      exact fun σ' H' F' A' R => p H' F' R.base
    | bk _ => rw [q] at p; exact p.elim
    | ct _ => rw [q] at p; exact p.elim
    | bad => rw [q] at p; exact p.elim
end
end Dn

set_option Elab.async false
set_option linter.all false
set_option maxRecDepth 100000
set_option maxHeartbeats 4000000
namespace Dn
open PySem PySem.Spec PyProof.Rows L2
/-! ### the end, where a def of the program has a generator expression -/
/-- the def named nm has an empty table -/
def NmTab (mg : Str → Option Value) (nm : Str) (h : Heap) : Prop := ∃ (a c P : Addr) (o : Obj) (fd : FuncData), mg nm = some (.ref a) ∧ h.get? a = some o ∧ o.data = .func fd ∧ fd.code = .ref c ∧ PySem.W.CodeHd h c P ∧ h.get? P = some { cls := .none, data := .fields #[] }
theorem walk_ofNm {l : PySem.W.OpenLaw} {n k : Nat} {q : Program} {loose : List Str} {XP : (Str → Option Value) → Heap → Prop} {YP : World → Heap → Prop} {d : DefRec} {K : Params → PySem.W.Frag} {CX : World → CXT} {x : Str} (nm : Str)
    (hn : l.most = some n) (hn2 : n ≤ sizeLine) (hdf : d.params.defaults = []) (hr : Room k callerA) (hrec : ((recsOf q).any fun e => e.name == nm) = true) (hY : ∀ (w : World) (h : Heap), YP w h → (K w.params).In h)
    (F : ∀ (w : World) (mg : Str → Option Value) (fa : Addr) (h : Heap), YP w h → (K w.params).In h → h.Ns mainGlobals mg → mg d.name = some (.ref fa) → NmTab mg nm h → LamX.LawAtS l w (K w.params) (CX w) k n x mg fa h)
    (hCX : ∀ (w : World) (H : Hp) (s : Shared) (e : Value) (s' : Shared), CX w [] H s (fun _ _ _ => False) e s' → False) :
    PySem.W.WalkO q loose XP YP l.row.toRowW d [] (fun f vs => PySem.call f vs) := by
  refine Att.attach_callB hn hdf fun w s₀ s₁ mg mb fa o pm cd doc a vs ns G Y ho hd hcd hmg hobj hints hlen hbits hg => ?_
  have KX := hY w _ Y
  have own : NmTab mg nm s₁.heap := by
    obtain ⟨dL, hm, e⟩ := List.any_eq_true.mp hrec
    obtain ⟨a', o', fd', c', P', h1, h2, h3, h4, h5, h6⟩ := G.T.tab dL hm
    rw [beq_iff_eq.mp e] at h1
    exact ⟨a', c', P', o', fd', h1, h2, h3, h4, .of h5 h6, h6.2⟩
  obtain ⟨fd, cs, sp, hT, nT, C, hb, hsp, hF⟩ := F w mg fa _ Y KX G.T.g hmg own
  exact LamX.law_callTs KX G.T.g G.T.b G.T.builtins G.T.nolimit hg hT nT C G.T.bmain hobj hints (Nat.le_trans hlen hn2) hr hF hb (fun H hH hS => hsp H a ns hlen hbits hH hS) fun H e s' => hCX w H s₁ e s'
/-- the generator's scope, by its names -/
theorem genT_of {env : Env} {scope : Scope} {x t : Str} (h1 : scope.kind = .function) (h2 : scope.isCoroutine = false) (h3 : scope.names = [((".0" : Str), .local), (x, .local), (("type" : Str), .globalImplicit), (t, .globalImplicit)])
    (h4 : scope.names.lookup (".0" : Str) = some NameKind.local) (h5 : scope.names.lookup x = some NameKind.local) (h6 : scope.names.lookup ("type" : Str) = some NameKind.globalImplicit) (h7 : scope.names.lookup t = some NameKind.globalImplicit) : GenT env scope x t := by
  refine ⟨⟨h1, h2, fun y hy => ?_, h4, h5, fun y hy e => ?_⟩, h6, h7⟩
  · rw [h3] at hy
    simp only [List.mem_cons, List.not_mem_nil, or_false] at hy
    rcases hy with rfl | rfl | rfl | rfl <;> exact fun z => by cases z
  · rw [h3] at hy
    simp only [List.mem_cons, List.not_mem_nil, or_false] at hy
    rcases hy with rfl | rfl | rfl | rfl <;> cases e
end Dn

set_option Elab.async false
set_option linter.all false
set_option maxRecDepth 100000
set_option maxHeartbeats 4000000
namespace Dn
open PySem PySem.Spec PyProof.Rows L2
variable [En]
section
variable {X : Cx} {cl : Nat → Addr} {W : WX} {e tg a b : Expr} {pos p : Pos} {K : PySem.W.Frag} {P' : Program} {w : World} {F F' H H' H0 F0 : Hp} {ρ ρ' : Ev} {σ : L2.St} {A : Nat → List Addr}
/-- list(range(n)): new -/
def nLrg (f : Ev → Res D) : Ev → Res (List D) := fun ρ => (f ρ).bind fun d => match d with
  | .int n => if 0 ≤ n ∧ n < 1000000 then .ok (runD 0 n.toNat) else .bad
  | _ => .bad
theorem dn_lrg {f : Ev → Res D} {p2 q : Pos} (hm : X.mg "list" = none) (hm2 : X.mg "range" = none) (hc : X.calm = true) (ha : DE X cl W a f) (hg : Gl X "list" := by rfl) (hg2 : Gl X "range" := by rfl) (na : starEach [a] X.env = (false, eval a X.env) :: starEach [] X.env := by rfl)
    (na2 : starEach [.Call (.Name "range" p2) [a] [] q] X.env = (false, eval (.Call (.Name "range" p2) [a] [] q) X.env) :: starEach [] X.env := by rfl) : DN X cl W (.Call (.Name "list" p) [.Call (.Name "range" p2) [a] [] q] [] pos) (nLrg f) :=
  PE_imp (pe_listRg hc hg hm (prg_1 hg2 hm2 ha na) na2) fun σ H Q q => by
  obtain ⟨H0, F0, ρ, F, A, R, p⟩ := q
  refine ⟨H0, F0, ρ, F, A, R, (PostO.ofBind (S := SD X.K) p).imp fun v H1 ⟨F1, d, _, g1, s1, p1⟩ => ?_⟩
  cases d with
  | int n =>
    have p2 : PostO X.K cl W σ H1 F1 (if 0 ≤ n ∧ n < 1000000 then .ok (runD 0 n.toNat) else .bad) Q := p1
    by_cases h : 0 ≤ n ∧ n < 1000000
    · rw [if_pos h] at p2
      refine ⟨n, s1, RgOk.of_le (by omega) (by omega) (by omega) (by omega), fun z hz => ?_⟩
      refine PostO.new g1.fh p2 ?_ hz
      have e := runD_sees (K := X.K) (F := F1) n.toNat 0
      unfold rgV
      rw [Int.sub_zero]
      exact e
    · rw [if_neg h] at p2
      exact p2.elim
  | _ => exact p1.elim
end
end Dn

set_option Elab.async false
set_option linter.all false
set_option maxRecDepth 100000
set_option maxHeartbeats 8000000
namespace Dn
open PySem PySem.Spec PyProof.Rows L2
variable [En]
/-! ### lists by two fors -/
theorem comp2_at {α β : Type} {bnd bnd1 : D → Ev → Option Ev} {src1 : Ev → Res (List D)} {t1 : Ev → Res Bool} {te : Ev → Res D} {vs1 : List Nat} {r : Ev} (enc : α → D) (encb : β → D) (inn : α → List β) (pb : α → β → Bool) (f : α → β → D) : ∀ xs : List α,
    (∀ x ∈ xs, ∃ r1, bnd (enc x) r = some r1 ∧ src1 r1 = .ok ((inn x).map encb) ∧ ∀ y ∈ inn x, ∃ r2, bnd1 (encb y) (wipeC r1 vs1) = some r2 ∧ t1 r2 = .ok (pb x y) ∧ (pb x y = true → te r2 = .ok (f x y))) →
    comp2 bnd bYes src1 bnd1 t1 te vs1 r (xs.map enc) = some (xs.flatMap fun x => ((inn x).filter (pb x)).map (f x))
  | [], _ => rfl
  | x :: xs, h => by
    obtain ⟨r1, e1, e2, e3⟩ := h x List.mem_cons_self
    have ih := comp2_at enc encb inn pb f xs fun y hy => h y (List.mem_cons_of_mem _ hy)
    have c1 := comp_at encb (pb x) (f x) (inn x) e3
    show comp2 bnd bYes src1 bnd1 t1 te vs1 r (enc x :: xs.map enc) = _
    unfold comp2
    rw [e1]
    show (match src1 r1 with | .ok es => (match compO bnd1 t1 te (wipeC r1 vs1) es with | some ys => (comp2 bnd bYes src1 bnd1 t1 te vs1 r (xs.map enc)).map (ys ++ ·) | none => none) | _ => none) = _
    rw [e2]
    show (match compO bnd1 t1 te (wipeC r1 vs1) ((inn x).map encb) with | some ys => (comp2 bnd bYes src1 bnd1 t1 te vs1 r (xs.map enc)).map (ys ++ ·) | none => none) = _
    rw [c1]
    show (comp2 bnd bYes src1 bnd1 t1 te vs1 r (xs.map enc)).map _ = _
    rw [ih]
    rfl
theorem ncomp22_at {src src1 : Ev → Res (List D)} {bnd bnd1 : D → Ev → Option Ev} {t t1 : Ev → Res Bool} {te : Ev → Res D} {vs vs1 : List Nat} {r : Ev} {ds es : List D} (h1 : src r = .ok ds) (h2 : comp2 bnd t src1 bnd1 t1 te vs1 (wipeC r vs) ds = some es) (h3 : es.length ≤ big) : nComp22 src bnd t src1 bnd1 t1 te vs vs1 r = .ok es := by
  unfold nComp22
  rw [h1]
  show shortO (comp2 bnd t src1 bnd1 t1 te vs1 (wipeC r vs) ds) = _
  rw [h2]
  show (if es.length ≤ big then Res.ok es else Res.bad) = _
  rw [if_pos h3]
theorem run_map : ∀ (n : Nat) (lo : Nat), runD (lo : Int) n = (List.range' lo n).map fun i : Nat => PyData.int (i : Int)
  | 0, _ => rfl
  | n + 1, lo => by
    show PyData.int (lo : Int) :: runD ((lo : Int) + 1) n = _
    rw [List.range'_succ, List.map_cons, ← run_map n (lo + 1)]
    rfl
theorem rg1_at {j : Int} (h1 : -1000000 < j) (h2 : j < 1000000) : rg1 [.int j] = .ok (runD 0 j.toNat) := if_pos ⟨h1, h2⟩
theorem rg2_at {i j : Int} (h1 : -1000000 < i) (h2 : i < 1000000) (h3 : -1000000 < j) (h4 : j < 1000000) : rg2 [.int i, .int j] = .ok (runD i (j - i).toNat) := if_pos ⟨h1, h2, h3, h4⟩
/-! ### all pairs -/
def pairs (n : Nat) : List Gm := (List.range' 0 n).flatMap fun l : Nat => (List.range' (l + 1) (n - (l + 1))).map fun h : Nat => ((l : Int), (h : Int))
def pairs2 (n : Nat) : List Gm := (List.range' 0 n).flatMap fun l : Nat => ((List.range' 0 n).filter fun h : Nat => !decide ((l : Int) = (h : Int))).map fun h : Nat => ((l : Int), (h : Int))
def incr : List Gm → Bool
  | a :: b :: r => SrtO.lexB a b && incr (b :: r)
  | _ => true
theorem lex_tr {a b c : Gm} (h1 : SrtO.lexB a b = true) (h2 : SrtO.lexB b c = true) : SrtO.lexB a c = true := by
  rw [SrtO.lexB_iff] at h1 h2 ⊢
  omega
theorem incr_all : ∀ l : List Gm, incr l = true → l.Pairwise fun x y => SrtO.lexB x y = true
  | [], _ => .nil
  | [a], _ => List.pairwise_singleton _ _
  | a :: b :: r, h => by
    have h' : (SrtO.lexB a b && incr (b :: r)) = true := h
    rw [Bool.and_eq_true] at h'
    have ih := incr_all (b :: r) h'.2
    refine List.pairwise_cons.mpr ⟨fun y hy => ?_, ih⟩
    rcases List.mem_cons.mp hy with e | hy
    · rw [e]
      exact h'.1
    · exact lex_tr h'.1 ((List.pairwise_cons.mp ih).1 y hy)
theorem incr_nodup {l : List Gm} (h : incr l = true) : l.Nodup := (incr_all l h).imp fun {x y} k e => by
  rw [e, SrtO.lexB_iff] at k
  omega
theorem incr_srt {l : List Gm} (h : incr l = true) : SrtP l := (incr_all l h).imp fun {x y} k => by
  rw [SrtO.lexB_iff] at k
  rw [Bool.eq_false_iff]
  intro z
  rw [SrtO.lexB_iff] at z
  omega
theorem pairs_all : ((List.range 21).all fun n => incr (pairs n) && incr (pairs2 n) && decide ((pairs n).length ≤ 1000) && decide ((pairs2 n).length ≤ 1000)) = true := by decide +kernel
theorem pairs_ok {n : Nat} (h : n ≤ 20) : (pairs n).Nodup ∧ SrtP (pairs n) ∧ (pairs2 n).Nodup ∧ SrtP (pairs2 n) ∧ (pairs n).length ≤ 1000 ∧ (pairs2 n).length ≤ 1000 := by
  have q := List.all_eq_true.mp pairs_all n (List.mem_range.mpr (by omega))
  rw [Bool.and_eq_true, Bool.and_eq_true, Bool.and_eq_true] at q
  exact ⟨incr_nodup q.1.1.1, incr_srt q.1.1.1, incr_nodup q.1.1.2, incr_srt q.1.1.2, of_decide_eq_true q.1.2, of_decide_eq_true q.2⟩
theorem mem_pairs {n : Nat} {a : Gm} : a ∈ pairs n ↔ 0 ≤ a.1 ∧ a.1 < a.2 ∧ a.2 < (n : Int) := by
  unfold pairs
  rw [List.mem_flatMap]
  constructor
  · rintro ⟨l, hl, ha⟩
    obtain ⟨h, hh, e⟩ := List.mem_map.mp ha
    have h1 := List.mem_range'_1.mp hl
    have h2 := List.mem_range'_1.mp hh
    rw [← e]
    show 0 ≤ (l : Int) ∧ (l : Int) < (h : Int) ∧ (h : Int) < (n : Int)
    omega
  · rintro ⟨h1, h2, h3⟩
    refine ⟨a.1.toNat, List.mem_range'_1.mpr ⟨by omega, by omega⟩, List.mem_map.mpr ⟨a.2.toNat, List.mem_range'_1.mpr ⟨by omega, by omega⟩, ?_⟩⟩
    show ((a.1.toNat : Int), (a.2.toNat : Int)) = a
    exact Prod.ext (by show (a.1.toNat : Int) = a.1; omega) (by show (a.2.toNat : Int) = a.2; omega)
theorem mem_pairs2 {n : Nat} {a : Gm} : a ∈ pairs2 n ↔ inC (n : Int) a := by
  unfold pairs2
  rw [List.mem_flatMap]
  constructor
  · rintro ⟨l, hl, ha⟩
    obtain ⟨h, hh, e⟩ := List.mem_map.mp ha
    obtain ⟨hh, hne⟩ := List.mem_filter.mp hh
    have h1 := List.mem_range'_1.mp hl
    have h2 := List.mem_range'_1.mp hh
    have h3 : ¬ (l : Int) = (h : Int) := by simpa using hne
    rw [← e]
    exact ⟨⟨by show 0 ≤ (l : Int); omega, by show (l : Int) < (n : Int); omega⟩, ⟨by show 0 ≤ (h : Int); omega, by show (h : Int) < (n : Int); omega⟩, h3⟩
  · rintro ⟨h1, h2, h3⟩
    refine ⟨a.1.toNat, List.mem_range'_1.mpr ⟨by omega, by omega⟩, List.mem_map.mpr ⟨a.2.toNat, List.mem_filter.mpr ⟨List.mem_range'_1.mpr ⟨by omega, by omega⟩, ?_⟩, ?_⟩⟩
    · rw [Bool.not_eq_true', decide_eq_false_iff_not]
      omega
    · exact Prod.ext (by show (a.1.toNat : Int) = a.1; omega) (by show (a.2.toNat : Int) = a.2; omega)
def mm (g : Gm) : Gm := (min g.1 g.2, max g.1 g.2)
theorem eqv_gs : ∀ xs ys : List Gm, PyData.eqvAll (xs.map tup2) (ys.map tup2) = decide (xs = ys)
  | [], [] => rfl
  | [], _ :: _ => by
    rw [decide_eq_false (by simp)]
    rfl
  | _ :: _, [] => by
    rw [decide_eq_false (by simp)]
    rfl
  | x :: xs, y :: ys => by
    show (PyData.eqv (tup2 x) (tup2 y) && PyData.eqvAll (xs.map tup2) (ys.map tup2)) = _
    rw [eqv_gs xs ys, eqv_tup2, ← Bool.decide_and]
    exact decide_eq_decide.mpr (by rw [List.cons.injEq])
theorem eq_gs (xs ys : List Gm) : oEq (.list (xs.map tup2)) (.list (ys.map tup2)) = .ok (.bool (decide (xs = ys))) := by
  rw [oEq_at (fine_gs 0 xs) (fine_gs 0 ys) (by decide) (by decide), ← eqv_gs]
  rfl
theorem pairs_gs : ∀ gs : List Gm, pairsO (gs.map tup2) = some gs
  | [] => rfl
  | g :: gs => by
    show (pairsO (gs.map tup2)).map (g :: ·) = _
    rw [pairs_gs gs]
    rfl
theorem sort_gs (gs : List Gm) : oSort2 [gsD gs] = .ok (.list ((sortP gs).map tup2)) := by
  show sortD (gs.map tup2) = _
  unfold sortD
  rw [pairs_gs]
theorem ret_at {f : Ev → Res D} {r : Ev} {d : D} (e : f r = .ok d) : gRet f r = .rt d := by
  unfold gRet evF
  rw [e]
  rfl
theorem flat_map {β : Type} (f : Gm → β) (R : List (List Gm)) : (R.flatMap fun gs => gs.map f) = R.flatten.map f := by
  rw [List.map_flatten, List.flatMap_def]

end Dn

set_option Elab.async false
set_option linter.all false
set_option maxRecDepth 100000
set_option maxHeartbeats 8000000
namespace Dn
open PySem PySem.Spec PyProof.Rows L2
variable [En]
/-! ### lists once round -/
/-- a club's place, or none -/
def placeO (x : Int) : List Gm → Option Int
  | [] => none
  | g :: gs => if x = g.1 then some 1 else if x = g.2 then some 0 else placeO x gs
def rowO (x : Int) (R : List (List Gm)) : List (Option Int) := R.map (placeO x)
structure Once (n : Nat) (R : List (List Gm)) : Prop where
  good : GoodRs (n : Int) R
  pm : (R.flatten.map mm).Perm (pairs n)
  len : n % 2 = 0 → R.length + 1 = n
theorem mm_rv (g : Gm) : mm (rv g) = mm g := by
  unfold mm rv
  exact Prod.ext (by show min g.2 g.1 = min g.1 g.2; omega) (by show max g.2 g.1 = max g.1 g.2; omega)
theorem mm_in {n : Nat} {g : Gm} (h : inC (n : Int) g) : mm g ∈ pairs n := mem_pairs.mpr (by
  obtain ⟨h1, h2, h3⟩ := h
  show 0 ≤ min g.1 g.2 ∧ min g.1 g.2 < max g.1 g.2 ∧ max g.1 g.2 < (n : Int)
  omega)
theorem Once.nd {n : Nat} (hn : n ≤ 20) {R : List (List Gm)} (O : Once n R) : (R.flatten.map mm).Nodup := O.pm.nodup_iff.mpr (pairs_ok hn).1
theorem Once.mem {n : Nat} {R : List (List Gm)} (O : Once n R) {x y : Int} (hx : 0 ≤ x ∧ x < n) (hy : 0 ≤ y ∧ y < n) (h : x ≠ y) : ∃ gs ∈ R, (x, y) ∈ gs ∨ (y, x) ∈ gs := by
  have m : mm (x, y) ∈ R.flatten.map mm := O.pm.mem_iff.mpr (mm_in ⟨hx, hy, h⟩)
  obtain ⟨g, hg, e⟩ := List.mem_map.mp m
  obtain ⟨gs, hgs, hgg⟩ := List.mem_flatten.mp hg
  refine ⟨gs, hgs, ?_⟩
  have e1 : min g.1 g.2 = min x y := congrArg Prod.fst e
  have e2 : max g.1 g.2 = max x y := congrArg Prod.snd e
  have e3 : (g.1 = x ∧ g.2 = y) ∨ (g.1 = y ∧ g.2 = x) := by omega
  rcases e3 with ⟨a, b⟩ | ⟨a, b⟩
  · exact .inl (by rw [← a, ← b]; exact hgg)
  · exact .inr (by rw [← a, ← b]; exact hgg)
theorem sortP_flat : ∀ Q : List (List Gm), (Q.map sortP).flatten.Perm Q.flatten
  | [] => .refl _
  | gs :: Q => by
    rw [List.map_cons, List.flatten_cons, List.flatten_cons]
    exact (sortP_perm gs).append (sortP_flat Q)
theorem good_sorted {c : Int} {Q : List (List Gm)} (G : GoodRs c Q) : GoodRs c (Q.map sortP) := by
  refine ⟨fun gs hg => ?_, (sortP_flat Q).nodup_iff.mpr G.once, by rw [List.length_map]; exact G.few⟩
  obtain ⟨hs, hh, e⟩ := List.mem_map.mp hg
  rw [← e]
  exact goodR_perm (sortP_perm hs) (G.all hs hh)
theorem good_perm {c : Int} {Q R : List (List Gm)} (p : Q.Perm R) (G : GoodRs c R) : GoodRs c Q :=
  ⟨fun gs hg => G.all gs (p.mem_iff.mp hg), p.flatten.nodup_iff.mpr G.once, by rw [p.length_eq]; exact G.few⟩
theorem once_sorted {n : Nat} {Q : List (List Gm)} (O : Once n Q) : Once n (Q.map sortP) :=
  ⟨good_sorted O.good, ((sortP_flat Q).map mm).trans O.pm, fun h => by rw [List.length_map]; exact O.len h⟩
theorem once_perm {n : Nat} {Q R : List (List Gm)} (p : Q.Perm R) (O : Once n R) : Once n Q :=
  ⟨good_perm p O.good, (p.flatten.map mm).trans O.pm, fun h => by rw [p.length_eq]; exact O.len h⟩
/-- clubs named anew, games perhaps turned -/
structure Renames (n : Nat) (t : Int → Int) (f : Gm → Gm) : Prop where
  rg : ∀ x : Int, 0 ≤ x ∧ x < n → 0 ≤ t x ∧ t x < n
  inv : ∀ x : Int, 0 ≤ x ∧ x < n → t (t x) = x
  is : ∀ g, f g = (t g.1, t g.2) ∨ f g = (t g.2, t g.1)
theorem ren_inj {n : Nat} {t : Int → Int} {f : Gm → Gm} (T : Renames n t f) {x y : Int} (hx : 0 ≤ x ∧ x < n) (hy : 0 ≤ y ∧ y < n) (e : t x = t y) : x = y := by
  rw [← T.inv x hx, ← T.inv y hy, e]
theorem ren_inC {n : Nat} {t : Int → Int} {f : Gm → Gm} (T : Renames n t f) {g : Gm} (h : inC (n : Int) g) : inC (n : Int) (f g) := by
  obtain ⟨h1, h2, h3⟩ := h
  have r1 := T.rg _ h1
  have r2 := T.rg _ h2
  have ne : t g.1 ≠ t g.2 := fun e => h3 (ren_inj T h1 h2 e)
  rcases T.is g with e | e
  · rw [e]
    exact ⟨r1, r2, ne⟩
  · rw [e]
    exact ⟨r2, r1, fun z => ne z.symm⟩
theorem ren_clubs {n : Nat} {t : Int → Int} {f : Gm → Gm} (T : Renames n t f) : ∀ gs : List Gm, (clubsOf (gs.map f)).Perm ((clubsOf gs).map t)
  | [] => .refl _
  | g :: gs => by
    have ih := ren_clubs T gs
    rw [List.map_cons, clubs_cons, clubs_cons, List.map_cons, List.map_cons]
    rcases T.is g with e | e
    · rw [e]
      exact (ih.cons _).cons _
    · rw [e]
      exact ((ih.cons _).cons _).trans (List.Perm.swap _ _ _)
theorem nodup_on {α β : Type} {f : α → β} : ∀ {l : List α}, l.Nodup → (∀ x ∈ l, ∀ y ∈ l, f x = f y → x = y) → (l.map f).Nodup
  | [], _, _ => List.nodup_nil
  | a :: l, h, hi => by
    rw [List.nodup_cons] at h
    rw [List.map_cons, List.nodup_cons]
    refine ⟨fun z => ?_, nodup_on h.2 fun x hx y hy e => hi x (List.mem_cons_of_mem _ hx) y (List.mem_cons_of_mem _ hy) e⟩
    obtain ⟨b, hb, e⟩ := List.mem_map.mp z
    rw [hi b (List.mem_cons_of_mem _ hb) a List.mem_cons_self e] at hb
    exact h.1 hb
theorem clubs_mem {v : Int} : ∀ {gs : List Gm}, v ∈ clubsOf gs → ∃ g ∈ gs, v = g.1 ∨ v = g.2
  | [], h => nomatch h
  | g :: gs, h => by
    rw [clubs_cons, List.mem_cons, List.mem_cons] at h
    rcases h with e | e | h
    · exact ⟨g, List.mem_cons_self, .inl e⟩
    · exact ⟨g, List.mem_cons_self, .inr e⟩
    · obtain ⟨g', h1, h2⟩ := clubs_mem h
      exact ⟨g', List.mem_cons_of_mem _ h1, h2⟩
theorem goodR_in {n : Nat} {gs : List Gm} (G : GoodR (n : Int) gs) {v : Int} (h : v ∈ clubsOf gs) : 0 ≤ v ∧ v < n := by
  obtain ⟨g, hg, e⟩ := clubs_mem h
  obtain ⟨h1, h2, _⟩ := G.game g hg
  rcases e with e | e
  · rw [e]; exact h1
  · rw [e]; exact h2
theorem ren_goodR {n : Nat} {t : Int → Int} {f : Gm → Gm} (T : Renames n t f) {gs : List Gm} (G : GoodR (n : Int) gs) : GoodR (n : Int) (gs.map f) := by
  refine ⟨fun g hg => ?_, (ren_clubs T gs).nodup_iff.mpr (nodup_on G.once fun x hx y hy e => ren_inj T (goodR_in G hx) (goodR_in G hy) e), by rw [List.length_map]; exact G.few⟩
  obtain ⟨h, hh, e⟩ := List.mem_map.mp hg
  rw [← e]
  exact ren_inC T (G.game h hh)
def t2 (t : Int → Int) (p : Gm) : Gm := mm (t p.1, t p.2)
theorem mm_f {n : Nat} {t : Int → Int} {f : Gm → Gm} (T : Renames n t f) (g : Gm) : mm (f g) = t2 t (mm g) := by
  have sym : ∀ a b : Int, mm (a, b) = mm (b, a) := fun a b => (mm_rv (b, a))
  have e : t2 t (mm g) = mm (t g.1, t g.2) := by
    unfold t2
    rcases Int.le_total g.1 g.2 with h | h
    · have e1 : mm g = (g.1, g.2) := Prod.ext (by show min g.1 g.2 = g.1; omega) (by show max g.1 g.2 = g.2; omega)
      rw [e1]
    · have e1 : mm g = (g.2, g.1) := Prod.ext (by show min g.1 g.2 = g.2; omega) (by show max g.1 g.2 = g.1; omega)
      rw [e1]
      exact sym _ _
  rw [e]
  rcases T.is g with q | q
  · rw [q]
  · rw [q, sym]
theorem mm_lt {p : Gm} (h : p.1 < p.2) : mm p = p := Prod.ext (by show min p.1 p.2 = p.1; omega) (by show max p.1 p.2 = p.2; omega)
theorem t2_inv {n : Nat} {t : Int → Int} {f : Gm → Gm} (T : Renames n t f) {p : Gm} (h : p ∈ pairs n) : t2 t (t2 t p) = p ∧ t2 t p ∈ pairs n := by
  obtain ⟨h1, h2, h3⟩ := mem_pairs.mp h
  have a1 : 0 ≤ p.1 ∧ p.1 < n := by omega
  have a2 : 0 ≤ p.2 ∧ p.2 < n := by omega
  have ne : t p.1 ≠ t p.2 := fun e => by
    have := ren_inj T a1 a2 e
    omega
  have m := mm_in (n := n) (g := (t p.1, t p.2)) ⟨T.rg _ a1, T.rg _ a2, ne⟩
  refine ⟨?_, m⟩
  have e := mm_f T (t p.1, t p.2)
  have e0 : t2 t (t2 t p) = mm (f (t p.1, t p.2)) := e.symm
  rw [e0]
  rcases T.is (t p.1, t p.2) with q | q
  · rw [q]
    show mm (t (t p.1), t (t p.2)) = p
    rw [T.inv _ a1, T.inv _ a2]
    exact mm_lt h2
  · rw [q]
    show mm (t (t p.2), t (t p.1)) = p
    rw [T.inv _ a1, T.inv _ a2]
    have : mm (rv p) = p := by rw [mm_rv]; exact mm_lt h2
    exact this
theorem t2_pairs {n : Nat} (hn : n ≤ 20) {t : Int → Int} {f : Gm → Gm} (T : Renames n t f) : ((pairs n).map (t2 t)).Perm (pairs n) := by
  have nd := (pairs_ok hn).1
  have nd2 : ((pairs n).map (t2 t)).Nodup := nodup_on nd fun x hx y hy e => by rw [← (t2_inv T hx).1, ← (t2_inv T hy).1, e]
  refine (List.perm_ext_iff_of_nodup nd2 nd).mpr fun p => ⟨fun h => ?_, fun h => ?_⟩
  · obtain ⟨q, hq, e⟩ := List.mem_map.mp h
    rw [← e]
    exact (t2_inv T hq).2
  · exact List.mem_map.mpr ⟨t2 t p, (t2_inv T h).2, (t2_inv T h).1⟩
theorem once_ren {n : Nat} (hn : n ≤ 20) {t : Int → Int} {f : Gm → Gm} (T : Renames n t f) {R : List (List Gm)} (O : Once n R) : Once n (R.map fun gs => gs.map f) := by
  have fl : (R.map fun gs => gs.map f).flatten = R.flatten.map f := List.map_flatten.symm
  have pm : ((R.map fun gs => gs.map f).flatten.map mm).Perm (pairs n) := by
    rw [fl, List.map_map]
    have e : (mm ∘ f) = (t2 t ∘ mm) := funext fun g => mm_f T g
    rw [e, ← List.map_map]
    exact (O.pm.map (t2 t)).trans (t2_pairs hn T)
  refine ⟨⟨fun gs hg => ?_, nodup_map (f := mm) (pm.nodup_iff.mpr (pairs_ok hn).1), by rw [List.length_map]; exact O.good.few⟩, pm, fun h => by rw [List.length_map]; exact O.len h⟩
  obtain ⟨hs, hh, e⟩ := List.mem_map.mp hg
  rw [← e]
  exact ren_goodR T (O.good.all hs hh)
end Dn

set_option Elab.async false
set_option linter.all false
set_option maxRecDepth 100000
set_option maxHeartbeats 8000000
namespace Dn
open PySem PySem.Spec PyProof.Rows L2
variable [En]
/-! ### rows and breaks of lists once round, clubs even in number -/
theorem place_out {x : Int} : ∀ {gs : List Gm}, x ∉ clubsOf gs → placeO x gs = none
  | [], _ => rfl
  | g :: gs, h => by
    rw [clubs_cons, List.mem_cons, List.mem_cons] at h
    have n1 : ¬ x = g.1 := fun e => h (.inl e)
    have n2 : ¬ x = g.2 := fun e => h (.inr (.inl e))
    unfold placeO
    rw [if_neg n1, if_neg n2]
    exact place_out fun z => h (.inr (.inr z))
theorem place_in {x : Int} : ∀ {gs : List Gm}, x ∈ clubsOf gs → ∃ v, placeO x gs = some v ∧ (v = 0 ∨ v = 1)
  | [], h => nomatch h
  | g :: gs, h => by
    unfold placeO
    by_cases e1 : x = g.1
    · rw [if_pos e1]; exact ⟨1, rfl, .inr rfl⟩
    · by_cases e2 : x = g.2
      · rw [if_neg e1, if_pos e2]; exact ⟨0, rfl, .inl rfl⟩
      · rw [if_neg e1, if_neg e2]
        rw [clubs_cons, List.mem_cons, List.mem_cons] at h
        rcases h with h | h | h
        · exact absurd h e1
        · exact absurd h e2
        · exact place_in h
theorem mem_clubs {g : Gm} : ∀ {gs : List Gm}, g ∈ gs → g.1 ∈ clubsOf gs ∧ g.2 ∈ clubsOf gs
  | [], h => nomatch h
  | a :: gs, h => by
    rw [clubs_cons]
    rcases List.mem_cons.mp h with e | h
    · rw [e]
      exact ⟨List.mem_cons_self, List.mem_cons_of_mem _ List.mem_cons_self⟩
    · obtain ⟨h1, h2⟩ := mem_clubs h
      exact ⟨List.mem_cons_of_mem _ (List.mem_cons_of_mem _ h1), List.mem_cons_of_mem _ (List.mem_cons_of_mem _ h2)⟩
theorem place_home {x y : Int} : ∀ {gs : List Gm}, (x, y) ∈ gs → (clubsOf gs).Nodup → placeO x gs = some 1 ∧ placeO y gs = some 0
  | [], h, _ => nomatch h
  | g :: gs, h, nd => by
    rw [clubs_cons, List.nodup_cons, List.nodup_cons, List.mem_cons] at nd
    obtain ⟨n1, n2, n3⟩ := nd
    have hne : g.1 ≠ g.2 := fun e => n1 (.inl e)
    unfold placeO
    rcases List.mem_cons.mp h with e | h
    · have e1 : x = g.1 := congrArg Prod.fst e
      have e2 : y = g.2 := congrArg Prod.snd e
      refine ⟨by rw [if_pos e1], ?_⟩
      rw [if_neg (fun z => hne (z.symm.trans e2)), if_pos e2]
    · obtain ⟨m1, m2⟩ := mem_clubs h
      obtain ⟨i1, i2⟩ := place_home h n3
      have a1 : ¬ x = g.1 := fun e => n1 (.inr (by rw [← e]; exact m1))
      have a2 : ¬ x = g.2 := fun e => n2 (by rw [← e]; exact m1)
      have b1 : ¬ y = g.1 := fun e => n1 (.inr (by rw [← e]; exact m2))
      have b2 : ¬ y = g.2 := fun e => n2 (by rw [← e]; exact m2)
      rw [if_neg a1, if_neg a2, if_neg b1, if_neg b2]
      exact ⟨i1, i2⟩
theorem clubs_mm : ∀ G : List Gm, (clubsOf (G.map mm)).Perm (clubsOf G)
  | [] => .refl _
  | g :: G => by
    have ih := clubs_mm G
    rw [List.map_cons, clubs_cons, clubs_cons]
    rcases Int.le_total g.1 g.2 with h | h
    · have e : mm g = (g.1, g.2) := Prod.ext (by show min g.1 g.2 = g.1; omega) (by show max g.1 g.2 = g.2; omega)
      rw [e]
      exact (ih.cons _).cons _
    · have e : mm g = (g.2, g.1) := Prod.ext (by show min g.1 g.2 = g.2; omega) (by show max g.1 g.2 = g.1; omega)
      rw [e]
      exact ((ih.cons _).cons _).trans (List.Perm.swap _ _ _)
theorem pairs_cnt : ((List.range 21).all fun n => (List.range n).all fun k => decide ((clubsOf (pairs n)).count ((k : Nat) : Int) + 1 = n)) = true := by decide +kernel
theorem cnt_flat (x : Int) : ∀ R : List (List Gm), (clubsOf R.flatten).count x = (R.map fun gs => (clubsOf gs).count x).sum
  | [] => rfl
  | gs :: R => by
    rw [List.flatten_cons, clubs_app, List.count_append, cnt_flat x R, List.map_cons, List.sum_cons]
theorem sum_ones : ∀ l : List Nat, (∀ v ∈ l, v ≤ 1) → l.sum ≤ l.length ∧ (l.sum = l.length → ∀ v ∈ l, v = 1)
  | [], _ => ⟨Nat.le_refl _, fun _ _ h => nomatch h⟩
  | a :: l, h => by
    obtain ⟨i1, i2⟩ := sum_ones l fun v hv => h v (List.mem_cons_of_mem _ hv)
    have ha := h a List.mem_cons_self
    rw [List.sum_cons, List.length_cons]
    refine ⟨by omega, fun e v hv => ?_⟩
    rcases List.mem_cons.mp hv with q | q
    · omega
    · exact i2 (by omega) v q
theorem cnt_le {x : Int} : ∀ {l : List Int}, l.Nodup → l.count x ≤ 1
  | [], _ => Nat.zero_le _
  | a :: l, h => by
    rw [List.nodup_cons] at h
    by_cases e : a = x
    · rw [e, List.count_cons_self, List.count_eq_zero_of_not_mem (by rw [← e]; exact h.1)]
      exact Nat.le_refl _
    · rw [List.count_cons_of_ne e]
      exact cnt_le h.2
theorem all_play {n : Nat} (hn : n ≤ 20) (he : n % 2 = 0) {R : List (List Gm)} (O : Once n R) {x : Int} (hx : 0 ≤ x ∧ x < n) : ∀ gs ∈ R, x ∈ clubsOf gs := by
  have q := List.all_eq_true.mp (List.all_eq_true.mp pairs_cnt n (List.mem_range.mpr (by omega))) x.toNat (List.mem_range.mpr (by omega))
  have q2 : (clubsOf (pairs n)).count ((x.toNat : Nat) : Int) + 1 = n := of_decide_eq_true q
  rw [show ((x.toNat : Nat) : Int) = x by omega] at q2
  have pm : (clubsOf R.flatten).Perm (clubsOf (pairs n)) := (clubs_mm R.flatten).symm.trans (clubs_perm O.pm)
  have c := List.perm_iff_count.mp pm x
  rw [cnt_flat] at c
  have hl := O.len he
  obtain ⟨_, h2⟩ := sum_ones (R.map fun gs => (clubsOf gs).count x) fun v hv => by
    obtain ⟨gs, hg, e⟩ := List.mem_map.mp hv
    rw [← e]
    exact cnt_le (O.good.all gs hg).once
  have h3 := h2 (by rw [List.length_map]; omega)
  intro gs hg
  have h4 := h3 _ (List.mem_map.mpr ⟨gs, hg, rfl⟩)
  exact List.count_pos_iff.mp (by show 0 < (clubsOf gs).count x; omega)
/-- a club's places, where it plays in all rounds -/
def bitsOf (x : Int) (R : List (List Gm)) : List Int := R.map fun gs => (placeO x gs).getD 0
theorem row_bits {x : Int} {R : List (List Gm)} (h : ∀ gs ∈ R, x ∈ clubsOf gs) : rowO x R = (bitsOf x R).map some := by
  unfold rowO bitsOf
  rw [List.map_map]
  refine List.map_congr_left fun gs hg => ?_
  obtain ⟨v, e, _⟩ := place_in (h gs hg)
  show placeO x gs = some ((placeO x gs).getD 0)
  rw [e]
  rfl
theorem bits_01 {x : Int} {R : List (List Gm)} (h : ∀ gs ∈ R, x ∈ clubsOf gs) : ∀ b ∈ bitsOf x R, b = 0 ∨ b = 1 := fun b hb => by
  obtain ⟨gs, hg, e⟩ := List.mem_map.mp hb
  obtain ⟨v, e2, h2⟩ := place_in (h gs hg)
  rw [e2] at e
  have e3 : v = b := e
  rw [← e3]
  exact h2
def alt (v : Int) : Nat → List Int
  | 0 => []
  | m + 1 => v :: alt (1 - v) m
theorem brk_alt : ∀ (bs : List Int) (k : Nat) (v : Int), (v = 0 ∨ v = 1) → (∀ b ∈ bs, b = 0 ∨ b = 1) → brkL k (some v) (bs.map some) = [] → bs = alt (1 - v) bs.length
  | [], _, _, _, _, _ => rfl
  | b :: bs, k, v, hv, hb, h => by
    have h' : (if some b = some v then (k : Int) :: brkL (k + 1) (some b) (bs.map some) else brkL (k + 1) (some b) (bs.map some)) = [] := h
    by_cases e : some b = some v
    · rw [if_pos e] at h'
      cases h'
    · rw [if_neg e] at h'
      have b01 := hb b List.mem_cons_self
      have ne : b ≠ v := fun z => e (congrArg some z)
      have eb : b = 1 - v := by omega
      have ih := brk_alt bs (k + 1) b b01 (fun c hc => hb c (List.mem_cons_of_mem _ hc)) h'
      rw [List.length_cons]
      show b :: bs = (1 - v) :: alt (1 - (1 - v)) bs.length
      rw [← eb]
      rw [← ih]
theorem alt_flip : ∀ (m : Nat) (v : Int), alt (1 - v) m = (alt v m).map fun b => 1 - b
  | 0, _ => rfl
  | m + 1, v => by
    show (1 - v) :: alt (1 - (1 - v)) m = (1 - v) :: (alt (1 - v) m).map fun b => 1 - b
    rw [alt_flip m (1 - v)]
/-- a club without a break -/
def NoBrk (x : Int) (R : List (List Gm)) : Prop := brkL 0 none (rowO x R) = []
theorem free_alt {n : Nat} (hn : n ≤ 20) (he : n % 2 = 0) {R : List (List Gm)} (O : Once n R) {x : Int} (hx : 0 ≤ x ∧ x < n) (h : NoBrk x R) : ∃ v, (v = 0 ∨ v = 1) ∧ bitsOf x R = alt v R.length := by
  have ap := all_play hn he O hx
  have b01 := bits_01 ap
  unfold NoBrk at h
  rw [row_bits ap] at h
  have hl : (bitsOf x R).length = R.length := List.length_map ..
  cases q : bitsOf x R with
  | nil =>
    rw [q] at hl
    exact ⟨0, .inl rfl, by rw [← hl]; rfl⟩
  | cons b bs =>
    rw [q] at h hl b01
    have h' : (if some b = none then ((0 : Nat) : Int) :: brkL 1 (some b) (bs.map some) else brkL 1 (some b) (bs.map some)) = [] := h
    rw [if_neg (by simp)] at h'
    have ih := brk_alt bs 1 b (b01 b List.mem_cons_self) (fun c hc => b01 c (List.mem_cons_of_mem _ hc)) h'
    refine ⟨b, b01 b List.mem_cons_self, ?_⟩
    rw [← hl, List.length_cons]
    show b :: bs = b :: alt (1 - b) bs.length
    rw [← ih]
theorem bits_ne {n : Nat} {R : List (List Gm)} (O : Once n R) {x y : Int} (hx : 0 ≤ x ∧ x < n) (hy : 0 ≤ y ∧ y < n) (h : x ≠ y) : bitsOf x R ≠ bitsOf y R := fun e => by
  obtain ⟨gs, hg, hm⟩ := O.mem hx hy h
  have z := List.map_inj_left.mp e gs hg
  rcases hm with hm | hm
  · obtain ⟨e1, e2⟩ := place_home hm (O.good.all gs hg).once
    rw [e1, e2] at z
    cases z
  · obtain ⟨e1, e2⟩ := place_home hm (O.good.all gs hg).once
    rw [e1, e2] at z
    cases z
theorem free_two {n : Nat} (hn : n ≤ 20) (he : n % 2 = 0) {R : List (List Gm)} (O : Once n R) {x y : Int} (hx : 0 ≤ x ∧ x < n) (hy : 0 ≤ y ∧ y < n) (h : x ≠ y) (fx : NoBrk x R) (fy : NoBrk y R) : bitsOf x R = (bitsOf y R).map fun b => 1 - b := by
  obtain ⟨v, v1, v2⟩ := free_alt hn he O hx fx
  obtain ⟨u, u1, u2⟩ := free_alt hn he O hy fy
  have ne : v ≠ u := fun e => bits_ne O hx hy h (by rw [v2, u2, e])
  rw [v2, u2, ← alt_flip, show v = 1 - u by omega]
theorem free_three {n : Nat} (hn : n ≤ 20) (he : n % 2 = 0) {R : List (List Gm)} (O : Once n R) {x y z : Int} (hx : 0 ≤ x ∧ x < n) (hy : 0 ≤ y ∧ y < n) (hz : 0 ≤ z ∧ z < n) (h1 : x ≠ y) (h2 : y ≠ z) (h3 : x ≠ z) (fx : NoBrk x R) (fy : NoBrk y R) (fz : NoBrk z R) : False := by
  obtain ⟨v, v1, v2⟩ := free_alt hn he O hx fx
  obtain ⟨u, u1, u2⟩ := free_alt hn he O hy fy
  obtain ⟨t, t1, t2⟩ := free_alt hn he O hz fz
  have a : v ≠ u := fun e => bits_ne O hx hy h1 (by rw [v2, u2, e])
  have b : u ≠ t := fun e => bits_ne O hy hz h2 (by rw [u2, t2, e])
  have c : v ≠ t := fun e => bits_ne O hx hz h3 (by rw [v2, t2, e])
  omega
def brksOf (x : Int) (R : List (List Gm)) : List Int := brkL 0 none (rowO x R)
/-- the clubs without a break -/
def frees (n : Nat) (R : List (List Gm)) : List Nat := (List.range' 0 n).filter fun k => decide (brksOf (k : Int) R = [])
theorem frees_mem {n : Nat} {R : List (List Gm)} {k : Nat} (h : k ∈ frees n R) : k < n ∧ NoBrk (k : Int) R := by
  obtain ⟨h1, h2⟩ := List.mem_filter.mp h
  have := List.mem_range'_1.mp h1
  exact ⟨by omega, of_decide_eq_true (p := brksOf (k : Int) R = []) h2⟩
theorem frees_nodup (n : Nat) (R : List (List Gm)) : (frees n R).Nodup := List.Pairwise.filter _ List.nodup_range'
theorem frees_len {n : Nat} (hn : n ≤ 20) (he : n % 2 = 0) {R : List (List Gm)} (O : Once n R) : (frees n R).length ≤ 2 := by
  have nd := frees_nodup n R
  have mem := fun k (h : k ∈ frees n R) => frees_mem h
  cases q : frees n R with
  | nil => exact Nat.zero_le _
  | cons a l =>
    cases q2 : l with
    | nil => show 1 ≤ 2; decide
    | cons b l2 =>
      cases q3 : l2 with
      | nil => exact Nat.le_refl 2
      | cons d l3 =>
        exfalso
        subst q3 q2
        rw [q] at nd
        simp only [List.nodup_cons, List.mem_cons, not_or] at nd
        obtain ⟨a1, a2⟩ := mem a (by rw [q]; simp)
        obtain ⟨b1, b2⟩ := mem b (by rw [q]; simp)
        obtain ⟨d1, d2⟩ := mem d (by rw [q]; simp)
        exact free_three (x := (a : Int)) (y := (b : Int)) (z := (d : Int)) hn he O (by omega) (by omega) (by omega) (by omega) (by omega) (by omega) a2 b2 d2
theorem sum_free (f : Nat → List Int) : ∀ l : List Nat, l.length ≤ (l.map fun k => (f k).length).sum + (l.filter fun k => decide (f k = [])).length
  | [] => Nat.le_refl _
  | a :: l => by
    have ih := sum_free f l
    rw [List.map_cons, List.sum_cons, List.length_cons, List.filter_cons]
    by_cases e : f a = []
    · rw [if_pos (decide_eq_true e), List.length_cons]
      omega
    · rw [if_neg (by simpa using e)]
      have : 0 < (f a).length := List.length_pos_iff.mpr e
      omega
theorem brks_sum {n : Nat} (hn : n ≤ 20) (he : n % 2 = 0) {R : List (List Gm)} (O : Once n R) : n ≤ ((List.range' 0 n).map fun k : Nat => (brksOf (k : Int) R).length).sum + 2 := by
  have h1 := sum_free (fun k : Nat => brksOf (k : Int) R) (List.range' 0 n)
  have h2 := frees_len hn he O
  rw [List.length_range'] at h1
  unfold frees at h2
  omega
/-! ### the made list -/
def ringP (m : Nat) (t : Nat) : List Gm := (List.range' 1 (m / 2)).map fun s : Nat =>
  let a : Int := ((t : Int) + s) % m
  let b : Int := ((t : Int) - s) % m
  if s % 2 = 0 then (b, a) else (a, b)
def madeP (n : Nat) : List (List Gm) := if n % 2 = 0 then (List.range' 0 (n - 1)).map fun t => sortP (ringP (n - 1) t ++ [if t % 2 = 0 then ((t : Int), ((n - 1 : Nat) : Int)) else (((n - 1 : Nat) : Int), (t : Int))]) else (List.range' 0 n).map fun t => sortP (ringP n t)
def goodRB (n : Nat) (gs : List Gm) : Bool := gs.all (fun g => decide (0 ≤ g.1) && decide (g.1 < (n : Int)) && decide (0 ≤ g.2) && decide (g.2 < (n : Int))) && decide ((clubsOf gs).Nodup) && decide (gs.length ≤ 10)
def onceB (n : Nat) (R : List (List Gm)) : Bool := R.all (goodRB n) && decide (sortP (R.flatten.map mm) = pairs n) && decide (R.length ≤ 40) && (decide (n % 2 = 1) || decide (R.length + 1 = n))
theorem once_of {n : Nat} (hn : n ≤ 20) {R : List (List Gm)} (h : onceB n R = true) : Once n R := by
  unfold onceB at h
  simp only [Bool.and_eq_true, Bool.or_eq_true, List.all_eq_true, decide_eq_true_eq] at h
  obtain ⟨⟨⟨h1, h2⟩, h3⟩, h4⟩ := h
  have pm : (R.flatten.map mm).Perm (pairs n) := by
    rw [← h2]
    exact (sortP_perm _).symm
  refine ⟨⟨fun gs hg => ?_, nodup_map (f := mm) (pm.nodup_iff.mpr (pairs_ok hn).1), h3⟩, pm, fun e => by omega⟩
  have q := h1 gs hg
  unfold goodRB at q
  simp only [Bool.and_eq_true, List.all_eq_true, decide_eq_true_eq] at q
  obtain ⟨⟨q1, q2⟩, q3⟩ := q
  refine ⟨fun g hg => ?_, q2, q3⟩
  obtain ⟨⟨⟨a, b⟩, c⟩, d⟩ := q1 g hg
  refine ⟨⟨a, b⟩, ⟨c, d⟩, fun e => ?_⟩
  have m := (List.mem_map (f := mm)).mpr ⟨g, List.mem_flatten.mpr ⟨gs, ‹gs ∈ R›, hg⟩, rfl⟩
  have m2 := mem_pairs.mp (pm.mem_iff.mp m)
  have : min g.1 g.2 < max g.1 g.2 := m2.2.1
  omega
theorem made_all : ((List.range 21).all fun n => decide (n < 2) || onceB n (madeP n)) = true := by decide +kernel
theorem made_sum : ((List.range 21).all fun n => decide (n < 2) || decide (((List.range' 0 n).map fun k : Nat => (brksOf (k : Int) (madeP n)).length).sum = if n % 2 = 0 then n - 2 else 0)) = true := by decide +kernel
theorem made_once {n : Nat} (h : 2 ≤ n ∧ n ≤ 20) : Once n (madeP n) := once_of h.2 (by
  have q := List.all_eq_true.mp made_all n (List.mem_range.mpr (by omega))
  rw [decide_eq_false (by omega)] at q
  exact q)
end Dn

set_option Elab.async false
set_option linter.all false
set_option maxRecDepth 100000
set_option maxHeartbeats 8000000
namespace Dn
open PySem PySem.Spec PyProof.Rows L2
variable [En]
/-! ### comprehensions of lists -/
theorem compB_at {α β : Type} {bnd : D → Ev → Option Ev} {t : Ev → Res Bool} {e : Ev → Res β} {r : Ev} (enc : α → D) (p : α → Bool) (f : α → β) : ∀ xs : List α,
    (∀ x ∈ xs, ∃ r', bnd (enc x) r = some r' ∧ t r' = .ok (p x) ∧ (p x = true → e r' = .ok (f x))) → compO bnd t e r (xs.map enc) = some ((xs.filter p).map f)
  | [], _ => rfl
  | x :: xs, h => by
    obtain ⟨r', e1, e2, e3⟩ := h x List.mem_cons_self
    have ih := compB_at enc p f xs fun y hy => h y (List.mem_cons_of_mem _ hy)
    show compO bnd t e r (enc x :: xs.map enc) = _
    unfold compO
    rw [e1]
    simp only [e2]
    cases hp : p x with
    | true =>
      simp only [e3 hp, ih, List.filter_cons, hp]
      rfl
    | false =>
      simp only [ih, List.filter_cons, hp]
      rfl
theorem compB_all {α β : Type} {bnd : D → Ev → Option Ev} {e : Ev → Res β} {r : Ev} (enc : α → D) (f : α → β) (xs : List α)
    (h : ∀ x ∈ xs, ∃ r', bnd (enc x) r = some r' ∧ e r' = .ok (f x)) : compO bnd bYes e r (xs.map enc) = some (xs.map f) := by
  have q := compB_at (t := bYes) enc (fun _ => true) f xs fun x hx => by
    obtain ⟨r', e1, e2⟩ := h x hx
    exact ⟨r', e1, rfl, fun _ => e2⟩
  rw [q, List.filter_eq_self.mpr fun _ _ => rfl]
theorem ncomp2_at {src : Ev → Res (List D)} {bnd : D → Ev → Option Ev} {t : Ev → Res Bool} {e : Ev → Res (List D)} {vs : List Nat} {r : Ev} {ds : List D} {es : List (List D)} (h1 : src r = .ok ds) (h2 : ds.length ≤ big)
    (h3 : compO bnd t e (wipeC r vs) ds = some es) : nComp2 src bnd t e vs r = .ok es := by
  unfold nComp2
  rw [h1]
  show (if ds.length ≤ big then _ else _) = _
  rw [if_pos h2, h3]
  rfl
theorem nsort_at {f : Ev → Res D} {r : Ev} {gs : List Gm} (h : f r = .ok (gsD gs)) : nCall nSort (aCons f aNil) r = .ok ((sortP gs).map tup2) := by
  unfold nCall aCons
  rw [h]
  show nSort [gsD gs] = _
  show (match pairsO (gs.map tup2) with | some ps => Res.ok ((sortP ps).map tup2) | none => _) = _
  rw [pairs_gs]
theorem retN2_at {f : Ev → Res (List (List D))} {r : Ev} {dss : List (List D)} (h : f r = .ok dss) : gRetN2 f r = .rn2 dss := by
  unfold gRetN2
  rw [h]
  rfl
theorem lst2_rs (R : List (List Gm)) : lstR2 (.ok (R.map fun gs => gs.map tup2)) = .ok (rsD R) := by
  show Res.ok (PyData.list ((R.map fun gs => gs.map tup2).map .list)) = Res.ok (PyData.list (R.map gsD))
  rw [List.map_map]
  rfl
theorem ints_run (n : Nat) : runD 0 n = ((List.range' 0 n).map fun i : Nat => (i : Int)).map PyData.int := by
  rw [List.map_map]
  exact run_map n 0
theorem sortI_of {l : List Int} {n : Nat} (p : l.Perm ((List.range' 0 n).map fun i : Nat => (i : Int))) : sortI l = (List.range' 0 n).map fun i : Nat => (i : Int) := by
  refine srtI_uniq ((sortI_perm l).trans p) (sortI_srt l) ?_
  rw [List.pairwise_map]
  exact (List.pairwise_lt_range' (s := 0) (n := n)).imp fun {a b} h => by
    show (a : Int) ≤ (b : Int)
    omega
theorem eq_ints (xs ys : List Int) : oEq (.list (xs.map .int)) (.list (ys.map .int)) = .ok (.bool (decide (xs = ys))) := by
  have f : ∀ zs : List Int, Fine 1 (.list (zs.map .int)) := fun zs => fine_list fun d hd => by
    obtain ⟨i, _, e⟩ := List.mem_map.mp hd
    rw [← e]
    exact fine_int _ _
  rw [oEq_at (f xs) (f ys) (by decide) (by decide), ← eqv_ints]
  rfl
theorem ne_ints (xs ys : List Int) : oNe (.list (xs.map .int)) (.list (ys.map .int)) = .ok (.bool (!decide (xs = ys))) := by
  have f : ∀ zs : List Int, Fine 1 (.list (zs.map .int)) := fun zs => fine_list fun d hd => by
    obtain ⟨i, _, e⟩ := List.mem_map.mp hd
    rw [← e]
    exact fine_int _ _
  rw [oNe_at (f xs) (f ys) (by decide) (by decide), ← eqv_ints]
  rfl
theorem ty_ints {f : Ev → Res D} {r : Ev} {xs : List Int} (h : f r = .ok (.list (xs.map .int))) : sTyNot "list" f r = .ok false := by
  unfold sTyNot
  rw [h]
  have e : Dn.plain (.list (xs.map .int)) = true := (fine_list (n := 0) fun d hd => by
    obtain ⟨i, _, e⟩ := List.mem_map.mp hd
    rw [← e]
    exact fine_int _ _).pl
  show (if Dn.plain (.list (xs.map PyData.int)) = true then Res.ok (tyD (.list (xs.map PyData.int)) != "list") else _) = _
  rw [if_pos e]
  rfl
theorem pairs_ints : ∀ xs : List Int, xs ≠ [] → pairsO (xs.map .int) = none
  | [], h => absurd rfl h
  | x :: xs, _ => rfl
theorem ints_ints : ∀ xs : List Int, intsO (xs.map .int) = some xs
  | [] => rfl
  | x :: xs => by
    show (intsO (xs.map .int)).map (x :: ·) = _
    rw [ints_ints xs]
    rfl
theorem sort2_ints (xs : List Int) : oSort2 [.list (xs.map .int)] = .ok (.list ((sortI xs).map .int)) := by
  show sortD (xs.map .int) = _
  unfold sortD
  by_cases h : xs = []
  · rw [h]
    rfl
  · rw [pairs_ints xs h, ints_ints]
theorem alltyI {f : Ev → Res D} {r : Ev} {xs : List Int} (h : f r = .ok (.list (xs.map .int))) : sAllTy "int" f r = .ok true := by
  unfold sAllTy
  rw [h]
  show (if (xs.map PyData.int).all okTy = true then Res.ok ((xs.map PyData.int).all fun d => decide (tyD d = "int")) else .bad) = _
  have e1 : (xs.map PyData.int).all okTy = true := by
    rw [List.all_map, List.all_eq_true]
    intro x _
    rfl
  have e2 : ((xs.map PyData.int).all fun d => decide (tyD d = "int")) = true := by
    rw [List.all_map, List.all_eq_true]
    intro x _
    show decide (tyD (PyData.int x) = "int") = true
    exact decide_eq_true rfl
  rw [if_pos e1, e2]
theorem lrg_at {f : Ev → Res D} {r : Ev} {n : Int} (h : f r = .ok (.int n)) (h1 : 0 ≤ n) (h2 : n < 1000000) : sLrg f r = .ok (.list (runD 0 n.toNat)) := by
  unfold sLrg
  rw [h]
  exact if_pos ⟨h1, h2⟩
theorem nlrg_at {f : Ev → Res D} {r : Ev} {n : Int} (h : f r = .ok (.int n)) (h1 : 0 ≤ n) (h2 : n < 1000000) : nLrg f r = .ok (runD 0 n.toNat) := by
  unfold nLrg
  rw [h]
  exact if_pos ⟨h1, h2⟩
theorem atI_map_nat {α β : Type} {f : α → β} {xs : List α} {i : Nat} {x : α} (h : xs[i]? = some x) : L2.atI (xs.map f) (i : Int) = some (f x) := by
  rw [Dn.atI_map, L2.atI_nat (j := i) h]
  rfl
/-- two clubs' games turned -/
def turnG (a b : Int) (g : Gm) : Gm := if (a = g.1 ∨ a = g.2) ∧ (b = g.1 ∨ b = g.2) then rv g else g
def swapC (a b x : Int) : Int := if x = a then b else if x = b then a else x
theorem ren_turn (n : Nat) (a b : Int) : Renames n (fun x => x) (turnG a b) := ⟨fun _ h => h, fun _ _ => rfl, fun g => by
  unfold turnG
  by_cases h : (a = g.1 ∨ a = g.2) ∧ (b = g.1 ∨ b = g.2)
  · rw [if_pos h]; exact .inr rfl
  · rw [if_neg h]; exact .inl rfl⟩
theorem ren_swap {n : Nat} {a b : Int} (ha : 0 ≤ a ∧ a < n) (hb : 0 ≤ b ∧ b < n) (h : a ≠ b) : Renames n (swapC a b) (fun g => (swapC a b g.1, swapC a b g.2)) := by
  refine ⟨fun x hx => ?_, fun x hx => ?_, fun g => .inl rfl⟩
  · unfold swapC
    split
    · exact hb
    · split
      · exact ha
      · exact hx
  · unfold swapC
    by_cases h1 : x = a
    · rw [if_pos h1, if_neg (fun e => h e.symm), if_pos rfl, h1]
    · rw [if_neg h1]
      by_cases h2 : x = b
      · rw [if_pos h2, if_pos rfl, h2]
      · rw [if_neg h2, if_neg h1, if_neg h2]
theorem sF1_at {α : Type} {o : List D → Res α} {f1 : Ev → Res D} {r : Ev} {a : D} {v : Res α} (h1 : f1 r = .ok a) (h : o [a] = v) : sF 1 o (aCons f1 aNil) r = v := by
  unfold sF aCons
  rw [h1]
  exact h
theorem sF2_at {α : Type} {o : List D → Res α} {f1 f2 : Ev → Res D} {r : Ev} {a b : D} {v : Res α} (h1 : f1 r = .ok a) (h2 : f2 r = .ok b) (h : o [a, b] = v) : sF 2 o (aCons f1 (aCons f2 aNil)) r = v := by
  unfold sF aCons
  rw [h1]
  show Res.bind (Res.bind (Res.bind (f2 r) _) _) _ = _
  rw [h2]
  exact h
theorem sF3_at {α : Type} {o : List D → Res α} {f1 f2 f3 : Ev → Res D} {r : Ev} {a b c : D} {v : Res α} (h1 : f1 r = .ok a) (h2 : f2 r = .ok b) (h3 : f3 r = .ok c) (h : o [a, b, c] = v) : sF 3 o (aCons f1 (aCons f2 (aCons f3 aNil))) r = v := by
  unfold sF aCons
  rw [h1]
  show Res.bind (Res.bind (Res.bind (f2 r) _) _) _ = _
  rw [h2]
  show Res.bind (Res.bind (Res.bind (Res.bind (f3 r) _) _) _) _ = _
  rw [h3]
  exact h
theorem sF4_at {α : Type} {o : List D → Res α} {f1 f2 f3 f4 : Ev → Res D} {r : Ev} {a b c d : D} {v : Res α} (h1 : f1 r = .ok a) (h2 : f2 r = .ok b) (h3 : f3 r = .ok c) (h4 : f4 r = .ok d) (h : o [a, b, c, d] = v) : sF 4 o (aCons f1 (aCons f2 (aCons f3 (aCons f4 aNil)))) r = v := by
  unfold sF aCons
  rw [h1]
  show Res.bind (Res.bind (Res.bind (f2 r) _) _) _ = _
  rw [h2]
  show Res.bind (Res.bind (Res.bind (Res.bind (f3 r) _) _) _) _ = _
  rw [h3]
  show Res.bind (Res.bind (Res.bind (Res.bind (Res.bind (f4 r) _) _) _) _) _ = _
  rw [h4]
  exact h
theorem s2_at {o : D → D → Res D} {f g : Ev → Res D} {r : Ev} {a b : D} {v : Res D} (h1 : f r = .ok a) (h2 : g r = .ok b) (h : o a b = v) : s2 o f g r = v := by
  unfold s2
  rw [h1]
  show Res.bind (g r) _ = _
  rw [h2]
  exact h
theorem iL_at {f : Ev → Res D} {r : Ev} {ds : List D} (h : f r = .ok (.list ds)) : iL f r = .ok ds := by
  unfold iL
  rw [h]
  rfl
theorem iT_at {f : Ev → Res D} {r : Ev} {ds : List D} (h : f r = .ok (.tuple ds)) : iT f r = .ok ds := by
  unfold iT
  rw [h]
  rfl
theorem sT_at {f : Ev → Res D} {r : Ev} {b : Bool} (h : f r = .ok (.bool b)) : sT f r = .ok b := by
  unfold sT
  rw [h]
  rfl
theorem sTru_at {f : Ev → Res D} {r : Ev} {b : Bool} (h : f r = .ok (.bool b)) : sTru f r = .ok b := by
  unfold sTru
  rw [h]
  rfl
theorem bNot_at {f : Ev → Res Bool} {r : Ev} {b : Bool} (h : f r = .ok b) : bNot f r = .ok (!b) := by
  unfold bNot
  rw [h]
  rfl
theorem bOr_f {f g : Ev → Res Bool} {r : Ev} {b : Res Bool} (h : f r = .ok false) (h2 : g r = b) : bOr f g r = b := by
  unfold bOr
  rw [h]
  exact h2
theorem bOr_t {f g : Ev → Res Bool} {r : Ev} (h : f r = .ok true) : bOr f g r = .ok true := by
  unfold bOr
  rw [h]
  rfl
theorem bAnd_t {f g : Ev → Res Bool} {r : Ev} {b : Res Bool} (h : f r = .ok true) (h2 : g r = b) : bAnd f g r = b := by
  unfold bAnd
  rw [h]
  exact h2
theorem bAnd_f {f g : Ev → Res Bool} {r : Ev} (h : f r = .ok false) : bAnd f g r = .ok false := by
  unfold bAnd
  rw [h]
  rfl
theorem call1_at {o : List D → Res D} {f : Ev → Res D} {r : Ev} {a : D} {v : Res D} (h : f r = .ok a) (h2 : o [a] = v) : sCall o (aCons f aNil) r = v := by
  unfold sCall aCons
  rw [h]
  exact h2
theorem other_ne {c x t : Int} (hx : 0 ≤ x ∧ x < c) (ht : 0 ≤ t ∧ t < c - 1) : (0 ≤ (x + 1 + t) % c ∧ (x + 1 + t) % c < c) ∧ x ≠ (x + 1 + t) % c := by
  have h1 := Int.emod_nonneg (x + 1 + t) (show c ≠ 0 by omega)
  have h2 := Int.emod_lt_of_pos (x + 1 + t) (show 0 < c by omega)
  refine ⟨⟨h1, h2⟩, ?_⟩
  by_cases h : x + 1 + t < c
  · rw [Int.emod_eq_of_lt (by omega) h]
    omega
  · have e : (x + 1 + t) % c = x + 1 + t - c := by
      rw [← Int.sub_emod_right (x + 1 + t) c, Int.emod_eq_of_lt (by omega) (by omega)]
    rw [e]
    omega
theorem sDraw_at {o : List D → Res D} (ns : List Int) {f g : Ev → Res D} {r : Ev} {k : Int} (ho : o = drawO) (h1 : f r = .ok (scrD ns)) (h2 : g r = .ok (.int k)) (h : 0 ≤ k ∧ k < 1000000) : sF 2 o (aCons f (aCons g aNil)) r = .ok (.int (drawI ns k)) := by
  subst ho
  exact sF2_at h1 h2 (drawO_eq ns h)
theorem mod_at {f g : Ev → Res D} {r : Ev} {i j : Int} (h1 : f r = .ok (.int i)) (h2 : g r = .ok (.int j)) (h : 0 < j) : s2 oMod f g r = .ok (.int (i % j)) := s2_at h1 h2 (modOk h)
theorem div_at {f g : Ev → Res D} {r : Ev} {i j : Int} (h1 : f r = .ok (.int i)) (h2 : g r = .ok (.int j)) (h : 0 < j) (h3 : j < 1073741824) : s2 oDiv f g r = .ok (.int (i / j)) := s2_at h1 h2 (divOk h h3)
theorem add_at {f g : Ev → Res D} {r : Ev} {i j : Int} (h1 : f r = .ok (.int i)) (h2 : g r = .ok (.int j)) : s2 oAdd f g r = .ok (.int (i + j)) := s2_at h1 h2 rfl
theorem sub_at {f g : Ev → Res D} {r : Ev} {i j : Int} (h1 : f r = .ok (.int i)) (h2 : g r = .ok (.int j)) : s2 oSub f g r = .ok (.int (i - j)) := s2_at h1 h2 rfl
theorem mul_at {f g : Ev → Res D} {r : Ev} {i j : Int} (h1 : f r = .ok (.int i)) (h2 : g r = .ok (.int j)) (h : (-(2 ^ 64) < i ∧ i < 2 ^ 64) ∨ (-(2 ^ 64) < j ∧ j < 2 ^ 64)) : s2 oMul f g r = .ok (.int (i * j)) := s2_at h1 h2 (mulOk (decide_eq_true h))
theorem eqI_at {f g : Ev → Res D} {r : Ev} {i j : Int} (h1 : f r = .ok (.int i)) (h2 : g r = .ok (.int j)) : sT (s2 oEq f g) r = .ok (decide (i = j)) := sT_at (s2_at h1 h2 (Dn.eq_int i j))
theorem neI_at {f g : Ev → Res D} {r : Ev} {i j : Int} (h1 : f r = .ok (.int i)) (h2 : g r = .ok (.int j)) : sT (s2 oNe f g) r = .ok (!decide (i = j)) := sT_at (s2_at h1 h2 (Dn.ne_int i j))
theorem range_at {f : Ev → Res D} {r : Ev} {j : Int} (h : f r = .ok (.int j)) (h1 : -1000000 < j) (h2 : j < 1000000) : iR rg1 (aCons f aNil) r = .ok (runD 0 j.toNat) := by
  unfold iR aCons
  rw [h]
  exact rg1_at h1 h2
/-- a for over a range, its own invariant -/
theorem for_run {bnd : D → Ev → Option Ev} {g : Ev → Out} (Iv : Ev → Prop) (n : Nat) (r : Ev) (st : ∀ (k : Nat) (r : Ev), k < n → Iv r → ∃ r1 r2, bnd (.int (k : Int)) r = some r1 ∧ (g r1 = .nx r2 ∨ g r1 = .ct r2) ∧ Iv r2) (h : Iv r) :
    ∃ r', forO bnd g (runD 0 n) r = .nx r' ∧ Iv r' := by
  rw [show runD 0 n = (List.range' 0 n).map fun i : Nat => PyData.int (i : Int) from run_map n 0]
  obtain ⟨r', e, h'⟩ := for_inv (bnd := bnd) (g := g) (fun i : Nat => PyData.int (i : Int)) (fun _ r => Iv r) (List.range' 0 n) [] r (fun dn k rest r q h => by
    have m : k ∈ List.range' 0 n := by
      have q' : List.range' 0 n = dn ++ k :: rest := q
      rw [q']
      exact List.mem_append_right _ List.mem_cons_self
    exact st k r (by have := List.mem_range'_1.mp m; omega) h) h
  exact ⟨r', e, h'⟩
end Dn

set_option Elab.async false
set_option linter.all false
set_option maxRecDepth 100000
set_option maxHeartbeats 4000000
namespace Dn
open PySem PySem.Spec PyProof.Rows L2
/-! ### a law's beginning, where tables are known -/
theorem seqL_del {K : PySem.W.Frag} {H : Hp} {a P : Addr} {xs : List V} {ps : Array Value} (h : SqL K H a xs) (hP : H P = some (.tbl ps)) : SqL K (delH H P) a xs := by
  rcases h with h | h
  · left
    have ne : a ≠ P := fun e => by
      rcases h with z | ⟨o, z⟩
      · rw [e, hP] at z; cases z
      · rw [e, hP] at z; cases z
    rcases h with z | ⟨o, z⟩
    · exact .inl (by rw [delH_ne ne]; exact z)
    · exact .inr ⟨o, by rw [delH_ne ne]; exact z⟩
  · exact .inr h
theorem law_start [En] {K : PySem.W.Frag} {cl : Nat → Addr} {H : Hp} {a P : Addr} {ns : List Int} {o : List D → Res D} (ht : ∀ p, En.tb p → p = P) (hP : H P = some (.tbl #[])) (hS : SqL K H a (ns.map V.int)) (h : o [scrD ns] = .ok (.bool true)) :
    spX K cl 1 o [.ref a] H (fun v _ => v = .bl true) fun _ _ _ => False := by
  refine ⟨[scrD ns], delH H P, rfl, ⟨⟨a, rfl, .inr (.inl ⟨ns, rfl, seqL_del hS hP⟩)⟩, True.intro⟩, fun x u e => ?_, fun p hp => ?_, by rw [h]; exact fun v H' F' _ s => s⟩
  · by_cases c : x = P
    · rw [c, delH_same] at e; cases e
    · rw [delH_ne c] at e; exact e
  · rw [ht p hp]
    exact ⟨delH_same, #[], hP, by show TriplesOk []; exact trivial⟩
theorem tab_of {base : Heap} {mg : Str → Option Value} {c P : Addr} (h : LamX.TabB base mg c P) : GxR.TabB base mg c P := ⟨h.code, h.bm, h.gP⟩
/-- what the heap tells of a def's table, by the written part -/
theorem nm_at {K : PySem.W.Frag} {h : Heap} {mg : Str → Option Value} {nm : Str} {f c P : Addr} {oc e : Value} {od dd : Option Addr} {fd : FuncData} {osl sl : Array (Option Value)} {vs : Array Value} (T : NmTab mg nm h) (KX : K.In h) (hm : mg nm = some (.ref f)) (lk : K.lookup f = some ⟨oc, od, .func fd, osl⟩) (ec : fd.code = .ref c)
    (kc : K.lookup c = some ⟨e, dd, .fields vs, sl⟩) (kv : vs[11]? = some (.ref P)) : PySem.W.CodeHd h c P ∧ h.get? P = some { cls := .none, data := .fields #[] } := by
  obtain ⟨a', c', P', o', fd', h1, h2, h3, h4, h5, h6⟩ := T
  rw [hm] at h1
  cases h1
  rw [KX _ _ lk] at h2
  cases h2
  cases h3
  rw [ec] at h4
  cases h4
  obtain ⟨o, us, file, tf, flags, tg, inF, text, tt, e1, r1, r2, r3, rest⟩ := id h5
  rw [KX _ _ kc] at e1
  cases e1
  cases r2
  rw [kv] at r3
  cases r3
  exact ⟨h5, h6⟩
end Dn

set_option Elab.async false
set_option linter.all false
set_option maxRecDepth 100000
set_option maxHeartbeats 4000000
namespace Dn
open PySem PySem.Spec PyProof.Rows L2
variable [En]
section
variable {X : Cx} {cl : Nat → Addr} {W : WX} {e tg a b c : Expr} {pos p : Pos} {K : PySem.W.Frag} {P : Program} {w : World} {F F' H H' H0 F0 : Hp} {ρ ρ' : Ev} {σ : L2.St} {A : Nat → List Addr}
/-! ### x.get(k, e), x a dict of the frame's own; x = {k1: v1, k2: v2} -/
def sGet2 (i : Nat) (f g : Ev → Res D) : Ev → Res D := fun ρ => match ρ[i]? with
  | some (.dk kvs) => (f ρ).bind fun k => (g ρ).bind fun d => (match keyO k with
    | some q => .ok ((valD kvs q).getD d)
    | none => .bad)
  | _ => .bad
theorem de_get2 {i : Nat} {o : Expr} {f g : Ev → Res D} {apos cpos : Pos} (hu : X.A.units + 1 < cLine) (ho : PE X o (tVar i)) (ha : DE X cl W a f) (hb : DE X cl W b g) (m : M2 X o "get" apos a b cpos) : DE X cl W (.Call (.Attribute o "get" apos) [a, b] [] cpos) (sGet2 i f g) :=
  PE_imp (pe_dget2 hu ho ha hb m) fun σ H Q q => by
  obtain ⟨H0, F0, ρ, F, A, R, p⟩ := q
  unfold sGet2 at p
  cases q : ρ[i]? with
  | none => rw [q] at p; exact p.elim
  | some c =>
    rw [q] at p
    cases c with
    | dk kvs =>
      obtain ⟨a, kws, h1, h2, h3, h4⟩ := R.cel i _ q
      refine ⟨.ref a, R.get h2, a, rfl, .inl ⟨kws, .inl h3⟩, H0, F0, ρ, F, A, R, (Post.bind (S := SD X.K) p).imp fun v H1 ⟨F1, kd, _, g1, s1, p1⟩ => ?_⟩
      have R1 := R.grow g1
      refine ⟨H0, F0, ρ, F1, A, R1, (Post.bind (S := SD X.K) p1).imp fun u H2 ⟨F2, d, _, g2, s2, p2⟩ => ?_⟩
      have R2 := R1.grow g2
      obtain ⟨a2, kws2, y1, y2, y3, y4⟩ := R2.cel i _ q
      have ea : a2 = a := by
        have z := y2.symm.trans h2
        injection z with z; injection z
      subst ea
      cases hk : keyO kd with
      | none => rw [hk] at p2; exact p2.elim
      | some k =>
        rw [hk] at p2
        have p3 : Post (SD X.K) cl W σ H2 F2 (.ok ((valD kvs k).getD d)) Q := p2
        refine ⟨valV kws2 k, by rw [keyO_sees hk s1]; exact DGet.k y3, ?_⟩
        refine Post.now (S := SD X.K) g2.fh p3 ?_
        rcases seesKV_val k y4 with ⟨z1, z2⟩ | ⟨d', v', z1, z2, z3⟩
        · rw [z1, z2]; exact s2
        · rw [z1, z2]; exact z3
    | _ => exact p.elim
def gDisp2 (i : Nat) (f1 g1 f2 g2 : Ev → Res D) : Ev → Out := fun ρ => thenO (f1 ρ) ρ fun k1 => thenO (g1 ρ) ρ fun v1 => thenO (f2 ρ) ρ fun k2 => thenO (g2 ρ) ρ fun v2 => match keyO k1, keyO k2 with
  | some q1, some q2 => .nx (ρ.set i (.dk (mergeD [] [(q1, v1), (q2, v2)])))
  | _, _ => .bad
theorem ds_disp2 {st : Stmt} {i : Nat} {f1 g1 f2 g2 : Ev → Res D} (h : PS X st (tAsg (tDisp [(tX X.K X.prog X.w (SD X.K) cl W f1, tX X.K X.prog X.w (SD X.K) cl W g1), (tX X.K X.prog X.w (SD X.K) cl W f2, tX X.K X.prog X.w (SD X.K) cl W g2)]) (gName i))) : DS X cl W st (gDisp2 i f1 g1 f2 g2) := PS_imp h fun D σ H q => by
  obtain ⟨H0, F0, ρ, F, A, R, p⟩ := q
  intro b hb
  have gb := Gr.out (o := .dK []) R.sub hb
  have R0 := R.grow gb
  refine ⟨H0, F0, ρ, F, A, R0, fin_ex (S := SD X.K) R0 p fun x1 w1 H1 F1 _ y1 s1 p1 => ?_⟩
  have R1 := R0.grow y1
  refine ⟨H0, F0, ρ, F1, A, R1, fin_ex (S := SD X.K) R1 p1 fun x2 w2 H2 F2 _ y2 s2 p2 => ?_⟩
  have R2 := R1.grow y2
  refine ⟨H0, F0, ρ, F2, A, R2, fin_ex (S := SD X.K) R2 p2 fun x3 w3 H3 F3 _ y3 s3 p3 => ?_⟩
  have R3 := R2.grow y3
  refine ⟨H0, F0, ρ, F3, A, R3, fin_ex (S := SD X.K) R3 p3 fun x4 w4 H4 F4 _ y4 s4 p4 => ?_⟩
  have R4 := R3.grow y4
  have gy := ((y1.trans y2).trans y3).trans y4
  have hn2 : H4 b = some (.dK []) := gy.hh.get upd_same
  have hn1 : F4 b = none := by
    cases r : F4 b with
    | none => rfl
    | some o =>
      rcases gy.nw b (by rw [r]; exact fun z => by cases z) with z | z | z
      · exact absurd (R.sub.free hb) z
      · rw [upd_same] at z; cases z
      · rw [upd_same] at z; exact z.elim
  refine ⟨hn2, ?_⟩
  cases k1' : keyO x1 with
  | none => rw [k1'] at p4; exact p4.elim
  | some q1 =>
    cases k2' : keyO x3 with
    | none => rw [k1', k2'] at p4; exact p4.elim
    | some q2 =>
      rw [k1', k2'] at p4
      have p5 : Fin X.K X.prog X.w cl W H0 F0 D (.nx (ρ.set i (.dk (mergeD [] [(q1, x2), (q2, x4)])))) := p4
      refine ⟨[(q1, w2), (q2, w4)], by rw [keyO_sees k1' s1, keyO_sees k2' s3]; rfl, (by show 2 ≤ 15; decide), ?_⟩
      have sm : SeesKV X.K F4 (mergeD [] [(q1, x2), (q2, x4)]) (mergeK [] [(q1, w2), (q2, w4)]) := seesKV_merge (kvs := []) (kws := []) True.intro ⟨⟨rfl, s2.mono (y3.ff.trans y4.ff)⟩, ⟨rfl, s4⟩, True.intro⟩
      have h0b : H0 b = none := R.base.hh.free hb
      have R5 := R4.upd (p := b) (o := .dK (mergeK [] [(q1, w2), (q2, w4)])) hn1 h0b (R.notA hb)
      refine p5 _ _ _ _ (R5.store (as := [b]) ⟨b, _, List.mem_cons_self, rfl, upd_same, sm⟩ (fun x hx => ?_) fun j x hx hj => ?_)
      · rw [List.mem_singleton.mp hx]
        exact ⟨hn1, h0b, (by rw [upd_same]; exact fun z => (by cases z)), by rw [upd_same]; exact fun z => z⟩
      · rw [List.mem_singleton.mp hx] at hj
        exact absurd hj (R.notA hb j)
/-! ### trees -/
mutual
theorem own_thereT : ∀ (t : OT) (v : V) (as : List Addr), OwnT K F H t v as → ∀ x ∈ as, H x ≠ none ∧ ¬ isTT (H x)
  | .dat d, v, as, h, x, hx => by
    rw [h.1] at hx
    exact nomatch hx
  | .lst ts, v, as, h, x, hx => by
    obtain ⟨a, vs, bs, h1, rfl, h3, h4⟩ := h
    rcases List.mem_cons.mp hx with e | hx
    · rw [e, h3]
      exact ⟨fun z => (by cases z), fun z => z⟩
    · exact own_thereTs ts vs bs h4 x hx
  | .tup ts, v, as, h, x, hx => by
    obtain ⟨a, vs, h1, h3, h4⟩ := h
    exact own_thereTs ts vs as h4 x hx
  | .ins0, v, as, h, x, hx => by
    obtain ⟨p, dx, h1, rfl, h3, h4⟩ := h
    simp only [List.mem_cons, List.not_mem_nil, or_false] at hx
    rcases hx with rfl | rfl
    · rw [h3]; exact ⟨fun z => (by cases z), fun z => z⟩
    · rw [h4]; exact ⟨fun z => (by cases z), fun z => z⟩
  | .ins1 c, v, as, h, x, hx => by
    obtain ⟨p, dx, h1, rfl, h3, h4⟩ := h
    simp only [List.mem_cons, List.not_mem_nil, or_false] at hx
    rcases hx with rfl | rfl
    · rw [h3]; exact ⟨fun z => (by cases z), fun z => z⟩
    · rw [h4]; exact ⟨fun z => (by cases z), fun z => z⟩
  | .ssn c ds, v, as, h, x, hx => by
    obtain ⟨p, dx, l, vs, h1, rfl, h3, h4, h5, h6⟩ := h
    simp only [List.mem_cons, List.not_mem_nil, or_false] at hx
    rcases hx with rfl | rfl | rfl
    · rw [h3]; exact ⟨fun z => (by cases z), fun z => z⟩
    · rw [h4]; exact ⟨fun z => (by cases z), fun z => z⟩
    · rw [h5]; exact ⟨fun z => (by cases z), fun z => z⟩
  | .gone, v, as, h, x, hx => by
    have h' : as = [] := h
    rw [h'] at hx
    exact nomatch hx
theorem own_thereTs : ∀ (ts : List OT) (vs : List V) (as : List Addr), OwnTs K F H ts vs as → ∀ x ∈ as, H x ≠ none ∧ ¬ isTT (H x)
  | [], [], as, h, x, hx => by
    have h' : as = [] := h
    rw [h'] at hx
    exact nomatch hx
  | [], _ :: _, _, h, _, _ => h.elim
  | _ :: _, [], _, h, _, _ => h.elim
  | t :: ts, v :: vs, as, h, x, hx => by
    obtain ⟨xs, ys, rfl, h2, h3⟩ := h
    rcases List.mem_append.mp hx with hx | hx
    · exact own_thereT t v xs h2 x hx
    · exact own_thereTs ts vs ys h3 x hx
end
theorem own_there {t : OT} {v : V} {as : List Addr} (h : OwnT K F H t v as) : ∀ x ∈ as, H x ≠ none ∧ ¬ isTT (H x) := own_thereT t v as h
theorem owns_there {ts : List OT} {vs : List V} {as : List Addr} (h : OwnTs K F H ts vs as) : ∀ x ∈ as, H x ≠ none ∧ ¬ isTT (H x) := own_thereTs ts vs as h
theorem own_stay {t : OT} {v : V} {as : List Addr} (g : Gr H F H' F') (h : OwnT K F H t v as) : OwnT K F' H' t v as := OwnT.mono g.ff t v as (fun x hx => by
  obtain ⟨h1, h2⟩ := own_there h x hx
  cases q : H x with
  | none => exact absurd q h1
  | some o =>
    rw [q] at h2
    exact g.hh.get q fun z => h2 z.tt) h
theorem owns_stay {t : List OT} {v : List V} {as : List Addr} (g : Gr H F H' F') (h : OwnTs K F H t v as) : OwnTs K F' H' t v as := OwnTs.mono g.ff t v as (fun x hx => by
  obtain ⟨h1, h2⟩ := owns_there h x hx
  cases q : H x with
  | none => exact absurd q h1
  | some o =>
    rw [q] at h2
    exact g.hh.get q fun z => h2 z.tt) h
/-- what stands apart stays apart -/
theorem Gr.keepX {p : Addr} (g : Gr H F H' F') (h : F p = none) (e : H p ≠ none) (n : ¬ isTT (H p)) : F' p = none := by
  cases q : F' p with
  | none => rfl
  | some o =>
    rcases g.nw p (by rw [q]; exact fun z => by cases z) with z | z | z
    · exact absurd h z
    · exact absurd z e
    · exact absurd z.tt n
theorem owns_len : ∀ {ts : List OT} {vs : List V} {as : List Addr}, OwnTs K F H ts vs as → ts.length = vs.length
  | [], [], _, _ => rfl
  | [], _ :: _, _, h => h.elim
  | _ :: _, [], _, h => h.elim
  | t :: ts, v :: vs, as, h => by
    obtain ⟨xs, ys, _, _, h3⟩ := h
    rw [List.length_cons, List.length_cons, owns_len h3]
theorem owns_app : ∀ {ts us : List OT} {vs ws : List V} {as bs : List Addr}, OwnTs K F H ts vs as → OwnTs K F H us ws bs → OwnTs K F H (ts ++ us) (vs ++ ws) (as ++ bs)
  | [], _, [], _, as, _, h, h' => by
    have e : as = [] := h
    rw [e]
    exact h'
  | [], _, _ :: _, _, _, _, h, _ => h.elim
  | _ :: _, _, [], _, _, _, h, _ => h.elim
  | t :: ts, us, v :: vs, ws, as, bs, h, h' => by
    obtain ⟨xs, ys, rfl, h2, h3⟩ := h
    exact ⟨xs, ys ++ bs, List.append_assoc .., h2, owns_app h3 h'⟩
/-- a list of lists as a tree, and back -/
def otL (ds : List D) : OT := .lst (ds.map .dat)
def ot2 (dss : List (List D)) : OT := .lst (dss.map otL)
theorem dats_own : ∀ {ds : List D} {vs : List V}, SeesL K F ds vs → OwnTs K F H (ds.map .dat) vs []
  | [], [], _ => rfl
  | [], _ :: _, h => h.elim
  | _ :: _, [], h => h.elim
  | d :: ds, v :: vs, h => ⟨[], [], rfl, ⟨rfl, h.1⟩, dats_own h.2⟩
theorem own_dats : ∀ {ds : List D} {vs : List V} {as : List Addr}, OwnTs K F H (ds.map .dat) vs as → as = [] ∧ SeesL K F ds vs
  | [], [], _, h => ⟨h, trivial⟩
  | [], _ :: _, _, h => h.elim
  | _ :: _, [], _, h => h.elim
  | d :: ds, v :: vs, as, h => by
    obtain ⟨xs, ys, rfl, h2, h3⟩ := h
    obtain ⟨e, s⟩ := own_dats h3
    have e1 : xs = [] := h2.1
    rw [e1, e]
    exact ⟨rfl, h2.2, s⟩
theorem own2_ots : ∀ {dss : List (List D)} {bs : List Addr}, Own2 K F H dss bs → OwnTs K F H (dss.map otL) (bs.map V.ref) bs
  | [], [], _ => rfl
  | [], _ :: _, h => h.elim
  | _ :: _, [], h => h.elim
  | ds :: dss, b :: bs, h => by
    obtain ⟨⟨xs, h1, h2⟩, h3⟩ := h
    exact ⟨[b], bs, rfl, ⟨b, xs, [], rfl, rfl, h1, dats_own h2⟩, own2_ots h3⟩
theorem ots_own2 : ∀ {dss : List (List D)} {vs : List V} {bs : List Addr}, OwnTs K F H (dss.map otL) vs bs → vs = bs.map V.ref ∧ Own2 K F H dss bs
  | [], [], bs, h => by
    have e : bs = [] := h
    rw [e]
    exact ⟨rfl, trivial⟩
  | [], _ :: _, _, h => h.elim
  | _ :: _, [], _, h => h.elim
  | ds :: dss, v :: vs, as, h => by
    obtain ⟨xs, ys, rfl, ⟨a, us, bs, rfl, rfl, h3, h4⟩, h5⟩ := h
    obtain ⟨e1, s1⟩ := own_dats h4
    obtain ⟨e2, s2⟩ := ots_own2 h5
    rw [e1, e2]
    exact ⟨rfl, ⟨us, h3, s1⟩, s2⟩
def PostTr (K : PySem.W.Frag) (cl : Nat → Addr) (W : WX) (σ : L2.St) (H F : Hp) (r : Res OT) (Q : VK) : Prop := match r with
  | .ok t => ∀ v as H' F', Gr H F H' F' → as.Nodup → (∀ x ∈ as, H x = none ∧ F' x = none) → OwnT K F' H' t v as → Q v H'
  | .ex c => ∀ H' F', Gr H F H' F' → W (.ref (cl c)) none σ H'
  | .bad => False
def PostTrs (K : PySem.W.Frag) (cl : Nat → Addr) (W : WX) (σ : L2.St) (H F : Hp) (r : Res (List OT)) (Q : List V → Hp → Prop) : Prop := match r with
  | .ok ts => ∀ vs as H' F', Gr H F H' F' → as.Nodup → (∀ x ∈ as, H x = none ∧ F' x = none) → OwnTs K F' H' ts vs as → Q vs H'
  | .ex c => ∀ H' F', Gr H F H' F' → W (.ref (cl c)) none σ H'
  | .bad => False
theorem PostOT.grow {r : Res OT} {Q : VK} (g : Gr H F H' F') (p : PostTr K cl W σ H F r Q) : PostTr K cl W σ H' F' r Q := by
  cases r with
  | ok d => exact fun v as H2 F2 g2 nd h => p v as H2 F2 (g.trans g2) nd fun x hx => ⟨g.hh.free (h x hx).1, (h x hx).2⟩
  | ex c => exact fun H2 F2 g2 => p H2 F2 (g.trans g2)
  | bad => exact p
theorem PostTrs.grow {r : Res (List OT)} {Q : List V → Hp → Prop} (g : Gr H F H' F') (p : PostTrs K cl W σ H F r Q) : PostTrs K cl W σ H' F' r Q := by
  cases r with
  | ok d => exact fun v as H2 F2 g2 nd h => p v as H2 F2 (g.trans g2) nd fun x hx => ⟨g.hh.free (h x hx).1, (h x hx).2⟩
  | ex c => exact fun H2 F2 g2 => p H2 F2 (g.trans g2)
  | bad => exact p
def tTr (K : PySem.W.Frag) (P : Program) (w : World) (cl : Nat → Addr) (W : WX) (f : Ev → Res OT) : TE := fun σ H Q => ∃ H0 F0 ρ F A, Rep K P w H0 F0 ρ σ H F A ∧ PostTr K cl W σ H F (f ρ) Q
def tTrs (K : PySem.W.Frag) (P : Program) (w : World) (cl : Nat → Addr) (W : WX) (f : Ev → Res (List OT)) : TA := fun σ H Q => ∃ H0 F0 ρ F A, Rep K P w H0 F0 ρ σ H F A ∧ PostTrs K cl W σ H F (f ρ) Q
/-- a new tree; a list of such -/
abbrev DNT (X : Cx) (cl : Nat → Addr) (W : WX) (e : Expr) (f : Ev → Res OT) : Prop := PE X e (tTr X.K X.prog X.w cl W f)
abbrev DATs (X : Cx) (cl : Nat → Addr) (W : WX) (es : List Expr) (f : Ev → Res (List OT)) : Prop := PA X es (tTrs X.K X.prog X.w cl W f)
def mapR {α β : Type} (f : α → β) : Res α → Res β
  | .ok a => .ok (f a)
  | .ex c => .ex c
  | .bad => .bad
theorem dnt_2 {f : Ev → Res (List (List D))} (h : DN2 X cl W e f) : DNT X cl W e (fun ρ => mapR ot2 (f ρ)) := PE_imp h fun σ H Q q => by
  obtain ⟨H0, F0, ρ, F, A, R, p⟩ := q
  refine ⟨H0, F0, ρ, F, A, R, ?_⟩
  dsimp only at p
  cases r : f ρ with
  | ok dss =>
    rw [r] at p
    exact fun a bs H' F' g nd h e o => p (.ref a) (a :: bs) H' F' g nd h ⟨a, bs.map V.ref, bs, rfl, rfl, e, own2_ots o⟩
  | ex c => rw [r] at p; exact p
  | bad => rw [r] at p; exact p
theorem dnt_1 {f : Ev → Res (List D)} (h : DN X cl W e f) : DNT X cl W e (fun ρ => mapR otL (f ρ)) := PE_imp h fun σ H Q q => by
  obtain ⟨H0, F0, ρ, F, A, R, p⟩ := q
  refine ⟨H0, F0, ρ, F, A, R, ?_⟩
  dsimp only at p
  cases r : f ρ with
  | ok ds =>
    rw [r] at p
    exact fun a xs H' F' g h h' e s => p (.ref a) [a] H' F' g (by simp) (fun x hx => by rw [List.mem_singleton.mp hx]; exact ⟨h, h'⟩) ⟨a, xs, [], rfl, rfl, e, dats_own s⟩
  | ex c => rw [r] at p; exact p
  | bad => rw [r] at p; exact p
theorem dnt_d {f : Ev → Res D} (h : DE X cl W e f) : DNT X cl W e (fun ρ => mapR OT.dat (f ρ)) := PE_imp h fun σ H Q q => by
  obtain ⟨H0, F0, ρ, F, A, R, p⟩ := q
  refine ⟨H0, F0, ρ, F, A, R, ?_⟩
  dsimp only at p
  cases r : f ρ with
  | ok d =>
    rw [r] at p
    exact fun v H' F' g s => p v [] H' F' g List.nodup_nil (fun x hx => (nomatch hx)) ⟨rfl, s⟩
  | ex c => rw [r] at p; exact p
  | bad => rw [r] at p; exact p
def oNil : Ev → Res (List OT) := fun _ => .ok []
def oCons (f : Ev → Res OT) (g : Ev → Res (List OT)) : Ev → Res (List OT) := fun ρ => (f ρ).bind fun t => (g ρ).bind fun ts => .ok (t :: ts)
theorem dats_nil : DATs X cl W [] oNil := PA_imp pa_nil fun σ H Q q => by
  obtain ⟨H0, F0, ρ, F, A, R, p⟩ := q
  exact p [] [] H F (Gr.refl R.sub) List.nodup_nil (fun x hx => (nomatch hx)) rfl
theorem dats_cons {es : List Expr} {f : Ev → Res OT} {g : Ev → Res (List OT)} (h1 : DNT X cl W e f) (h2 : DATs X cl W es g) (hs : starEach (e :: es) X.env = (false, eval e X.env) :: starEach es X.env := by rfl) : DATs X cl W (e :: es) (oCons f g) := PA_imp (pa_cons h1 h2 hs) fun σ H Q q => by
  obtain ⟨H0, F0, ρ, F, A, R, p⟩ := q
  refine ⟨H0, F0, ρ, F, A, R, ?_⟩
  unfold oCons at p
  cases r : f ρ with
  | bad => rw [r] at p; exact p
  | ex c => rw [r] at p; exact p
  | ok t =>
    rw [r] at p
    refine fun v as H1 F1 g1 nd1 h1 o1 => ⟨H0, F0, ρ, F1, A, R.grow g1, ?_⟩
    have p1 : PostTrs X.K cl W σ H F ((g ρ).bind fun ts => .ok (t :: ts)) Q := p
    cases r2 : g ρ with
    | bad => rw [r2] at p1; exact p1
    | ex c => rw [r2] at p1; exact fun H2 F2 g2 => p1 H2 F2 (g1.trans g2)
    | ok ts =>
      rw [r2] at p1
      refine fun vs bs H2 F2 g2 nd2 h2 o2 => p1 (v :: vs) (as ++ bs) H2 F2 (g1.trans g2) (List.nodup_append.mpr ⟨nd1, nd2, fun x hx y hy exy => ?_⟩) (fun x hx => ?_) ⟨as, bs, rfl, own_stay g2 o1, o2⟩
      · rw [exy] at hx
        exact (own_there o1 y hx).1 (h2 y hy).1
      · rcases List.mem_append.mp hx with hx | hx
        · obtain ⟨a1, a2⟩ := own_there o1 x hx
          exact ⟨(h1 x hx).1, g2.keepX (h1 x hx).2 a1 a2⟩
        · exact ⟨g1.hh.free (h2 x hx).1, (h2 x hx).2⟩
def oLst (f : Ev → Res (List OT)) : Ev → Res OT := fun ρ => (f ρ).bind fun ts => if ts.length ≤ big then .ok (.lst ts) else .bad
theorem dnt_lst {es : List Expr} {f : Ev → Res (List OT)} (h : DATs X cl W es f) : DNT X cl W (.List es pos) (oLst f) := PE_imp (pe_lst h) fun σ H Q q => by
  obtain ⟨H0, F0, ρ, F, A, R, p⟩ := q
  refine ⟨H0, F0, ρ, F, A, R, ?_⟩
  unfold oLst at p
  cases r : f ρ with
  | bad => rw [r] at p; exact p
  | ex c => rw [r] at p; exact p
  | ok ts =>
    rw [r] at p
    have p1 : PostTr X.K cl W σ H F (if ts.length ≤ big then .ok (.lst ts) else .bad) Q := p
    by_cases hb : ts.length ≤ big
    · rw [if_pos hb] at p1
      refine fun vs as H1 F1 g1 nd h1 o1 => ⟨big_le (by rw [← owns_len o1]; exact hb), fun q hq => ?_⟩
      have g2 := g1.trans (Gr.out (o := .lst vs) g1.fh hq)
      have nq : ∀ x ∈ as, x ≠ q := fun x hx e => (owns_there o1 x hx).1 (by rw [e]; exact hq)
      refine p1 (.ref q) (q :: as) _ F1 g2 (List.nodup_cons.mpr ⟨fun z => nq q z rfl, nd⟩) (fun x hx => ?_) ⟨q, vs, as, rfl, rfl, upd_same, OwnTs.mono (Same.refl _) ts vs as (fun x hx => upd_ne (nq x hx)) o1⟩
      rcases List.mem_cons.mp hx with e | hx
      · rw [e]
        exact ⟨g1.hh.free hq, g1.fh.free hq⟩
      · exact h1 x hx
    · rw [if_neg hb] at p1
      exact p1.elim
def gSetTr (i : Nat) (f : Ev → Res OT) : Ev → Out := fun ρ => thenO (f ρ) ρ fun t => .nx (ρ.set i (.ot t))
theorem fin_exOT {r : Res OT} {k : OT → Out} {Dn : Ends} {Q : VK} (R : Rep K P w H0 F0 ρ σ H F A) (p : Fin K P w cl W H0 F0 Dn (thenO r ρ k)) (q : ∀ t v as H1 F1, r = .ok t → Gr H F H1 F1 → as.Nodup → (∀ x ∈ as, H x = none ∧ F1 x = none) → OwnT K F1 H1 t v as → Fin K P w cl W H0 F0 Dn (k t) → Q v H1) : PostTr K cl W σ H F r Q := by
  cases r with
  | ok t => exact fun v as H1 F1 g nd h o => q t v as H1 F1 rfl g nd h o p
  | ex c => exact fun H' F' g => p σ H' F' A (R.grow g)
  | bad => exact p
theorem Rep.setT {i : Nat} {t : OT} {v : V} {as : List Addr} (R : Rep K P w H0 F0 ρ σ H F A) (nd : as.Nodup) (h0 : ∀ x ∈ as, H0 x = none ∧ F x = none) (hd : ∀ j x, x ∈ as → x ∈ A j → j = i) (o : OwnT K F H t v as) : Rep K P w H0 F0 (ρ.set i (.ot t)) (σ.set i (some v)) H F (setA A i as) :=
  R.store ⟨v, as, fun _ h => h, nd, rfl, o⟩ (fun x hx => ⟨(h0 x hx).2, (h0 x hx).1, own_there o x hx⟩) hd
theorem ds_setTr {st : Stmt} {i : Nat} {t : TE} {f : Ev → Res OT} (h : PS X st (tAsg t (gName i))) (k : ∀ σ H Q, tTr X.K X.prog X.w cl W f σ H Q → t σ H Q) : DS X cl W st (gSetTr i f) := PS_imp h fun D σ H q => by
  obtain ⟨H0, F0, ρ, F, A, R, p⟩ := q
  refine k _ _ _ ⟨H0, F0, ρ, F, A, R, fin_exOT R p fun t v as H1 F1 _ g nd h o q => ?_⟩
  exact q _ _ _ _ ((R.grow g).setT nd (fun x hx => ⟨R.base.hh.free (h x hx).1, (h x hx).2⟩) (fun j x hx hj => absurd hj (R.notA (h x hx).1 j)) o)
/-- x + e, x a list of the frame's own trees that is given up, e a new one -/
def oCatV (i : Nat) (f : Ev → Res OT) : Ev → Out := fun ρ => match ρ[i]? with
  | some (.ot (.lst ts)) => thenO (f ρ) ρ fun u => (match u with
    | .lst us => if ts.length + us.length ≤ big then .nx (ρ.set i (.ot (.lst (ts ++ us)))) else .bad
    | _ => .bad)
  | _ => .bad
theorem ds_catV {st : Stmt} {i : Nat} {f : Ev → Res OT} (h : PS X st (tAsg (tOp rCat (tVar i) (tTr X.K X.prog X.w cl W f)) (gName i))) : DS X cl W st (oCatV i f) := PS_imp h fun D σ H q => by
  obtain ⟨H0, F0, ρ, F, A, R, p⟩ := q
  unfold oCatV at p
  split at p
  · rename_i ts hq
    obtain ⟨v0, bs, h1, h2, h3, a, vs, cs, rfl, rfl, h5, h6⟩ := R.cel i _ hq
    refine ⟨.ref a, R.get h3, H0, F0, ρ, F, A, R, fin_exOT R p fun u v as H1 F1 _ g nd hn o q => ?_⟩
    have R1 := R.grow g
    cases u with
    | lst us =>
      have q2 : Fin X.K X.prog X.w cl W H0 F0 D (if ts.length + us.length ≤ big then .nx (ρ.set i (.ot (.lst (ts ++ us)))) else .bad) := q
      by_cases hl : ts.length + us.length ≤ big
      · rw [if_pos hl] at q2
        obtain ⟨b, ws, ds, rfl, rfl, o3, o4⟩ := o
        have e1 : H1 a = some (.lst vs) := g.hh.get h5
        have h6' := owns_stay g h6
        have nd2 := List.nodup_cons.mp h2
        have nd3 := List.nodup_cons.mp nd
        refine ⟨a, b, vs, ws, rfl, rfl, e1, o3, big_le (by rw [← owns_len h6, ← owns_len o4]; exact hl), fun z hz => ?_⟩
        have R2 := R1.grow (Gr.out (o := .lst (vs ++ ws)) g.fh hz)
        have hz0 : H0 z = none := (R.base.hh.trans g.hh).free hz
        have nz1 : ∀ x ∈ cs, x ≠ z := fun x hx e => (owns_there h6' x hx).1 (by rw [e]; exact hz)
        have nz2 : ∀ x ∈ ds, x ≠ z := fun x hx e => (owns_there o4 x hx).1 (by rw [e]; exact hz)
        have inA : ∀ x ∈ cs, x ∈ A i := fun x hx => h1 x (List.mem_cons_of_mem _ hx)
        have hy : ∀ x ∈ ds, H x = none := fun x hx => (hn x (List.mem_cons_of_mem _ hx)).1
        refine q2 _ _ _ _ (R2.setT (t := .lst (ts ++ us)) (as := z :: (cs ++ ds)) (List.nodup_cons.mpr ⟨fun hm => ?_, List.nodup_append.mpr ⟨nd2.2, nd3.2, fun x hx y hyy exy => ?_⟩⟩) (fun x hx => ?_) (fun j x hx hj => ?_) ⟨z, vs ++ ws, cs ++ ds, rfl, rfl, upd_same, OwnTs.mono (Same.refl _) _ _ _ (fun x hx => upd_ne ?_) (owns_app h6' o4)⟩)
        · rcases List.mem_append.mp hm with hm | hm
          · exact nz1 z hm rfl
          · exact nz2 z hm rfl
        · rw [exy] at hx
          exact (R.fr i y (inA y hx)).2.2.1 (hy y hyy)
        · rcases List.mem_cons.mp hx with e | hx
          · rw [e]
            exact ⟨hz0, g.fh.free hz⟩
          · rcases List.mem_append.mp hx with hx | hx
            · obtain ⟨f1, f2, _⟩ := R1.fr i x (inA x hx)
              exact ⟨f2, f1⟩
            · exact ⟨R.base.hh.free (hy x hx), (hn x (List.mem_cons_of_mem _ hx)).2⟩
        · rcases List.mem_cons.mp hx with e | hx
          · rw [e] at hj
            exact absurd hj (R1.notA hz j)
          · rcases List.mem_append.mp hx with hx | hx
            · exact R.dj j i x hj (inA x hx)
            · exact absurd hj (R.notA (hy x hx) j)
        · rcases List.mem_append.mp hx with hx | hx
          · exact nz1 x hx
          · exact nz2 x hx
      · rw [if_neg hl] at q2
        exact q2.elim
    | _ => exact q.elim
  · exact p.elim
end
end Dn

set_option Elab.async false
set_option linter.all false
set_option maxRecDepth 100000
set_option maxHeartbeats 4000000
namespace Dn
open PySem PySem.Spec PyProof.Rows L2
variable [En]
section
variable {X : Cx} {cl : Nat → Addr} {W : WX} {e tg a b c : Expr} {pos p : Pos} {K : PySem.W.Frag} {P : Program} {w : World} {F F' H H' H0 F0 : Hp} {ρ ρ' : Ev} {σ : L2.St} {A : Nat → List Addr}
theorem set_same {α : Type} : ∀ {l : List α} {i : Nat} {x : α}, l[i]? = some x → l.set i x = l
  | [], _, _, h => by simp at h
  | y :: l, 0, x, h => by rw [Option.some.inj h]; rfl
  | y :: l, i + 1, x, h => congrArg (y :: ·) (set_same (l := l) (i := i) h)
theorem st_same : ∀ {l : L2.St} {i : Nat}, l.set i (l[i]?.join) = l
  | [], _ => rfl
  | none :: l, 0 => rfl
  | some v :: l, 0 => rfl
  | y :: l, i + 1 => congrArg (y :: ·) (st_same (l := l) (i := i))
theorem Rep.junk0 (R : Rep K P w H0 F0 ρ σ H F A) (i : Nat) : Rep K P w H0 F0 (ρ.set i .no) σ H F (setA A i []) := by
  have h := R.junk (i := i) (ov := σ[i]?.join)
  rw [st_same] at h
  exact h
theorem own2_get : ∀ {dss : List (List D)} {bs : List Addr} {k : Nat} {b : Addr}, Own2 K F H dss bs → bs[k]? = some b → ∃ ds xs, dss[k]? = some ds ∧ H b = some (.lst xs) ∧ SeesL K F ds xs
  | [], [], _, _, _, h => by simp at h
  | [], _ :: _, _, _, h, _ => h.elim
  | _ :: _, [], _, _, h, _ => h.elim
  | ds :: dss, b' :: bs, 0, b, h, e => by
    have e' := Option.some.inj e
    subst e'
    obtain ⟨⟨xs, h1, h2⟩, _⟩ := h
    exact ⟨ds, xs, rfl, h1, h2⟩
  | _ :: _, _ :: _, k + 1, b, h, e => own2_get (k := k) h.2 e
theorem own2_put {d : D} {v : V} (s : Sees K F d v) : ∀ {dss : List (List D)} {bs : List Addr} {k : Nat} {b : Addr} {ds : List D} {xs : List V}, Own2 K F H dss bs → bs.Nodup → bs[k]? = some b → dss[k]? = some ds → H b = some (.lst xs) → Own2 K F (L2.upd H b (.lst (xs ++ [v]))) (dss.set k (ds ++ [d])) bs
  | [], [], _, _, _, _, _, _, h, _, _ => by simp at h
  | [], _ :: _, _, _, _, _, h, _, _, _, _ => h.elim
  | _ :: _, [], _, _, _, _, h, _, _, _, _ => h.elim
  | ds' :: dss, b' :: bs, 0, b, ds, xs, h, nd, e, e2, hx => by
    have e' := Option.some.inj e
    have e2' := Option.some.inj e2
    subst e' e2'
    obtain ⟨⟨ys, h1, h2⟩, h3⟩ := h
    rw [hx] at h1
    injection h1 with h1
    injection h1 with h1
    subst h1
    exact ⟨⟨xs ++ [v], upd_same, h2.app (SeesL.one s)⟩, h3.mono (Same.refl _) fun c hc => upd_ne fun z => (List.nodup_cons.mp nd).1 (by rw [← z]; exact hc)⟩
  | ds' :: dss, b' :: bs, k + 1, b, ds, xs, h, nd, e, e2, hx => by
    obtain ⟨⟨ys, h1, h2⟩, h3⟩ := h
    have nd' := List.nodup_cons.mp nd
    have ne : b' ≠ b := fun z => nd'.1 (by rw [z]; exact List.mem_of_getElem? (show bs[k]? = some b from e))
    exact ⟨⟨ys, by rw [upd_ne ne]; exact h1, h2⟩, own2_put s (k := k) h3 nd'.2 e e2 hx⟩
theorem step_map {α : Type} (f : α → α) : ∀ (l : List α) (k : Nat) (x : α), l[k]? = some x → ((l.take k).map f ++ l.drop k).set k (f x) = (l.take (k + 1)).map f ++ l.drop (k + 1)
  | [], _, _, h => by simp at h
  | y :: l, 0, x, h => by
    rw [← Option.some.inj h]
    rfl
  | y :: l, k + 1, x, h => congrArg (f y :: ·) (step_map f l k x h)
/-- for x in y: x.append(v), y a list of lists of the frame's own -/
def gForApp (i j : Nat) (d : D) : Ev → Out := fun ρ => match ρ[i]? with
  | some (.own2 dss) => if (dss.all (fun ds => decide (ds.length < big)) && decide (j < ρ.length) && decide (j ≠ i)) = true then .nx ((ρ.set j .no).set i (.own2 (dss.map fun ds => ds ++ [d]))) else .bad
  | _ => .bad
theorem ds_forApp {i j : Nat} {d : D} {v : V} {x it : Expr} {st : Stmt} (hv : ∀ F, Sees X.K F d v) (hp : PassesOwn (model X.prog X.w) X.A X.env X.xe) (hc : X.calm = true) (hi : PE X it (tVar i)) (hg : PG X x (gName j))
    (hb : PS X st (fun De σ H => tBM X.K "list" rAppend (tVar j) (tCons (tC v) tNil) σ H fun _ H1 => De.nx σ H1)) (hs : ∀ x, foldedSetIterable it X.env x = pure x := by intro _; rfl) : DS X cl W (.For x it [st] [] pos) (gForApp i j d) := PS_imp (ps_for hp hc (pi_list hi) hg (pss_one hb) hs) fun De σ H q => by
  obtain ⟨H0, F0, ρ, F, A, R, p⟩ := q
  unfold gForApp at p
  cases q : ρ[i]? with
  | none => rw [q] at p; exact p.elim
  | some cc =>
    rw [q] at p
    cases cc with
    | own2 dss =>
      have p0 : Fin X.K X.prog X.w cl W H0 F0 De (if (dss.all (fun ds => decide (ds.length < big)) && decide (j < ρ.length) && decide (j ≠ i)) = true then .nx ((ρ.set j .no).set i (.own2 (dss.map fun ds => ds ++ [d]))) else .bad) := p
      by_cases hk : (dss.all (fun ds => decide (ds.length < big)) && decide (j < ρ.length) && decide (j ≠ i)) = true
      case neg => rw [if_neg hk] at p0; exact p0.elim
      rw [if_pos hk] at p0
      rw [Bool.and_eq_true, Bool.and_eq_true, decide_eq_true_eq, decide_eq_true_eq, List.all_eq_true] at hk
      obtain ⟨⟨k1, k2⟩, k3⟩ := hk
      obtain ⟨a, bs, h1, h2, h3, h4, h5, h6⟩ := R.cel i _ q
      have hil : i < ρ.length := (List.getElem?_eq_some_iff.mp q).1
      have nd := List.nodup_cons.mp h3
      have hlen := own2_length h6
      let dk : Nat → List (List D) := fun k => (dss.take k).map (fun ds => ds ++ [d]) ++ dss.drop k
      let Pv : Nat → L2.St → Hp → Prop := fun k σ' H' => ∃ A', Rep X.K X.prog X.w H0 F0 ((ρ.set j .no).set i (.own2 (dk k))) σ' H' F A' ∧ A' i = A i ∧ σ'[i]?.join = some (.ref a) ∧ H' a = some (.lst (bs.map V.ref)) ∧ Own2 X.K F H' (dk k) bs
      refine ⟨.ref a, R.get h4, a, rfl, ⟨_, SqL.of h5⟩, fun k m σ' H' => m = dss.length - k ∧ k ≤ dss.length ∧ Pv k σ' H', ⟨dss.length, by omega, Nat.zero_le _, setA A j [], ?_, ?_, h4, h5, h6⟩, fun k m σ' H' hw => ?_⟩
      · have R0 := R.junk0 j
        have e : (ρ.set j .no).set i (.own2 (dk 0)) = ρ.set j .no := set_same (by rw [List.getElem?_set_ne k3]; exact q)
        rw [e]
        exact R0
      · unfold setA
        rw [if_neg fun z => k3 z.symm]
      · obtain ⟨em, hkl, A', R', a1, a2, a3, a4⟩ := hw
        by_cases hlt : k < dss.length
        · have hb' : bs[k]? = some (bs[k]'(by omega)) := List.getElem?_eq_getElem (by omega)
          obtain ⟨b, eb⟩ : ∃ b, b = bs[k]'(by omega) := ⟨_, rfl⟩
          rw [← eb] at hb'
          have hbm : b ∈ bs := List.mem_of_getElem? hb'
          obtain ⟨ds, xs, e1, e2, e3⟩ := own2_get a4 hb'
          have hdk : dss[k]? = some ds := by
            have e1' : ((dss.take k).map (fun ds => ds ++ [d]) ++ dss.drop k)[k]? = some ds := e1
            rw [List.getElem?_append_right (by rw [List.length_map, List.length_take]; omega), List.length_map, List.length_take, Nat.min_eq_left (by omega), Nat.sub_self, List.getElem?_drop] at e1'
            exact e1'
          refine .inr ⟨⟨bs.map V.ref, .ref b, SqL.of a3, by rw [List.getElem?_map, hb']; rfl⟩, Pv (k + 1), fun σ2 H2 pw => ⟨dss.length - (k + 1), by omega, rfl, by omega, pw⟩, fun y H2 hy => ?_⟩
          obtain ⟨eH, hy⟩ := hy
          subst eH
          have ey := hy _ (SqL.of a3)
          rw [List.getElem?_map, hb'] at ey
          have ey' : V.ref b = y := Option.some.inj ey
          subst ey'
          have lj : j < σ'.length := by
            rw [R'.len, List.length_set, List.length_set]
            exact k2
          have dsl : ds.length < big := of_decide_eq_true (k1 ds (List.mem_of_getElem? hdk))
          refine ⟨.ref b, by rw [List.getElem?_set_self lj], .inl ⟨rfl, xs, SqL.of e2⟩, b, xs, v, rfl, rfl, e2, big_lt (by rw [← e3.length]; exact dsl), ?_⟩
          have nab : a ≠ b := fun z => nd.1 (by rw [z]; exact hbm)
          have RJ := R'.junk (i := j) (ov := some (.ref b))
          have eI : setA A' j [] i = A i := by
            unfold setA
            rw [if_neg fun z => k3 z.symm, a1]
          have o2 := own2_put (hv F) a4 nd.2 hb' e1 e2
          have ek : (dk k).set k (ds ++ [d]) = dk (k + 1) := step_map (fun ds => ds ++ [d]) dss k ds hdk
          rw [ek] at o2
          have RC := RJ.change (i := i) (c' := .own2 (dk (k + 1))) (p := b) (o := .lst (xs ++ [v])) (by rw [eI]; exact h2 b hbm) (fun z => z) ⟨a, bs, by rw [eI]; exact h1, fun c hc => by rw [eI]; exact h2 c hc, h3, by rw [List.getElem?_set_ne k3]; exact a2, by rw [upd_ne nab]; exact a3, o2⟩
          refine ⟨setA A' j [], ?_, eI, by rw [List.getElem?_set_ne k3]; exact a2, by rw [upd_ne nab]; exact a3, o2⟩
          have es : (((ρ.set j .no).set i (.own2 (dk k))).set j .no).set i (.own2 (dk (k + 1))) = (ρ.set j .no).set i (.own2 (dk (k + 1))) := by
            rw [List.set_comm _ _ (fun z => k3 z.symm), List.set_set, List.set_set]
          rw [es] at RC
          exact RC
        · have ek : k = dss.length := by omega
          have ed : dk k = dss.map fun ds => ds ++ [d] := by
            show (dss.take k).map _ ++ dss.drop k = _
            rw [ek, List.take_length, List.drop_length, List.append_nil]
          rw [ed] at R'
          exact .inl ⟨⟨bs.map V.ref, SqL.of a3, by rw [List.length_map]; omega⟩, p0 _ _ _ A' R'⟩
    | _ => exact p.elim
/-! ### what stands apart, kept while a body runs -/
def mrgS (H0 F H : Hp) (S : List Addr) : Hp := fun x => match F x with
  | some o => some o
  | none => if x ∈ S then H x else H0 x
/-- x stands apart from F, the base and the slots -/
def Apart (H0 H F : Hp) (A : Nat → List Addr) (x : Addr) : Prop := F x = none ∧ H0 x = none ∧ H x ≠ none ∧ ¬ isTT (H x) ∧ ∀ i, x ∉ A i
theorem Rep.keepS (R : Rep K P w H0 F0 ρ σ H F A) {S : List Addr} (hS : ∀ x ∈ S, Apart H0 H F A x) : Rep K P w (mrgS H0 F H S) F ρ σ H F A ∧ Gr H0 F0 (mrgS H0 F H S) F := by
  have m1 : ∀ {a : Addr} {o : HO}, F a = some o → mrgS H0 F H S a = some o := fun {a o} q => by
    unfold mrgS
    rw [q]
  have m2 : ∀ {a : Addr}, F a = none → a ∉ S → mrgS H0 F H S a = H0 a := fun {a} q n => by
    unfold mrgS
    rw [q]
    exact if_neg n
  have m3 : ∀ {a : Addr}, F a = none → a ∈ S → mrgS H0 F H S a = H a := fun {a} q n => by
    unfold mrgS
    rw [q]
    exact if_pos n
  have e1 : SameT (mrgS H0 F H S) H := fun a o q => by
    cases r : F a with
    | some u => rw [m1 r] at q; rw [← q]; exact .inl (R.sub _ _ r)
    | none =>
      by_cases n : a ∈ S
      · rw [m3 r n] at q; exact .inl q
      rw [m2 r n] at q
      rcases R.base.hh _ _ q with z | ⟨⟨ps, z1, z2⟩, z3⟩
      · exact .inl z
      · exact .inr ⟨⟨ps, by rw [m2 r n]; exact z1, z2⟩, z3⟩
  have e2 : Same F (mrgS H0 F H S) := fun a o q => m1 q
  refine ⟨⟨⟨Same.refl _, e1, R.sub, fun x q => .inl q⟩, R.len, R.cel, fun i x hx => ?_, R.dj, fun p hp => ?_⟩, ⟨R.base.ff, fun a o q => ?_, e2, R.base.nw⟩⟩
  · obtain ⟨f1, f2, f3, f4⟩ := R.fr i x hx
    exact ⟨f1, by rw [m2 f1 fun z => (hS x z).2.2.2.2 i hx]; exact f2, f3, f4⟩
  · obtain ⟨h1, h2⟩ := (R.base.tok R.tk) p hp
    obtain ⟨ps, h3, h4⟩ := (R.tk p hp).2
    obtain ⟨ps', h3', h4'⟩ := h2
    refine ⟨h1, ps, by rw [m2 h1 fun z => (hS p z).2.2.2.1 (by rw [h3']; exact True.intro)]; exact h3, h4⟩
  · cases r : F a with
    | none =>
      refine .inl ?_
      rw [m2 r fun z => ?_]
      · exact q
      · rw [(hS a z).2.1] at q
        cases q
    | some u =>
      rcases R.base.hh _ _ q with z | ⟨z1, ps, z2, z3⟩
      · rw [R.sub _ _ r] at z
        exact .inl (by rw [m1 r]; exact z)
      · rw [R.sub _ _ r] at z2
        exact .inr ⟨z1, ps, by rw [m1 r]; exact z2, z3⟩
theorem Rep.keptS {S : List Addr} {ρ2 : Ev} {σ2 : L2.St} {H2 F2 : Hp} {A2 : Nat → List Addr} (hS : ∀ x ∈ S, Apart H0 H F A x) (R2 : Rep K P w (mrgS H0 F H S) F ρ2 σ2 H2 F2 A2) : (∀ x ∈ S, H2 x = H x) ∧ ∀ x ∈ S, Apart H0 H2 F2 A2 x := by
  have k : ∀ x ∈ S, mrgS H0 F H S x = H x := fun x hx => by
    unfold mrgS
    rw [(hS x hx).1]
    exact if_pos hx
  have kk : ∀ x ∈ S, H2 x = H x := fun x hx => by
    obtain ⟨a1, a2, a3, a4, a5⟩ := hS x hx
    cases q : H x with
    | none => exact absurd q a3
    | some o =>
      rw [q] at a4
      exact R2.base.hh.get (by rw [k x hx]; exact q) fun z => a4 z.tt
  refine ⟨kk, fun x hx => ?_⟩
  obtain ⟨a1, a2, a3, a4, a5⟩ := hS x hx
  refine ⟨R2.base.keepX a1 (by rw [k x hx]; exact a3) (by rw [k x hx]; exact a4), a2, by rw [kk x hx]; exact a3, by rw [kk x hx]; exact a4, fun i hi => ?_⟩
  have z := (R2.fr i x hi).2.1
  rw [k x hx] at z
  exact a3 z
theorem Apart.grow {x : Addr} (a : Apart H0 H F A x) (g : Gr H F H' F') : Apart H0 H' F' A x := by
  obtain ⟨a1, a2, a3, a4, a5⟩ := a
  have e : H' x = H x := by
    cases q : H x with
    | none => exact absurd q a3
    | some o =>
      rw [q] at a4
      exact g.hh.get q fun z => a4 z.tt
  exact ⟨g.keepX a1 a3 a4, a2, by rw [e]; exact a3, by rw [e]; exact a4, a5⟩
theorem Apart.keep {x : Addr} (a : Apart H0 H F A x) (g : Gr H F H' F') : H' x = H x := by
  obtain ⟨a1, a2, a3, a4, a5⟩ := a
  cases q : H x with
  | none => exact absurd q a3
  | some o =>
    rw [q] at a4
    exact g.hh.get q fun z => a4 z.tt
def un1 : OT → Option (List D)
  | .lst ts => ts.mapM fun t => match t with
    | .dat d => some d
    | _ => none
  | _ => none
def un2 : OT → Option (List (List D))
  | .lst ts => ts.mapM un1
  | _ => none
theorem un1_of {t : OT} {ds : List D} (h : un1 t = some ds) : t = otL ds := by
  cases t with
  | lst ts =>
    have h' : (ts.mapM fun t => match t with | OT.dat d => some d | _ => none) = some ds := h
    clear h
    show OT.lst ts = OT.lst _
    refine congrArg OT.lst ?_
    induction ts generalizing ds with
    | nil =>
      have e : [] = ds := by simpa using h'
      rw [← e]; rfl
    | cons t ts ih =>
      rw [List.mapM_cons] at h'
      cases t with
      | dat d =>
        cases r : (ts.mapM fun t => match t with | OT.dat d => some d | _ => none) with
        | none => rw [r] at h'; cases h'
        | some es =>
          rw [r] at h'
          have e : d :: es = ds := Option.some.inj h'
          rw [ih r, ← e]; rfl
      | _ => cases h'
  | _ => cases h
theorem un2_of {t : OT} {dss : List (List D)} (h : un2 t = some dss) : t = ot2 dss := by
  cases t with
  | lst ts =>
    have h' : ts.mapM un1 = some dss := h
    clear h
    show OT.lst ts = OT.lst _
    refine congrArg OT.lst ?_
    induction ts generalizing dss with
    | nil =>
      have e : [] = dss := by simpa using h'
      rw [← e]; rfl
    | cons t ts ih =>
      rw [List.mapM_cons] at h'
      cases r0 : un1 t with
      | none => rw [r0] at h'; cases h'
      | some d =>
        cases r : ts.mapM un1 with
        | none => rw [r0, r] at h'; cases h'
        | some es =>
          rw [r0, r] at h'
          have e : d :: es = dss := Option.some.inj h'
          rw [ih r, ← e, un1_of r0]; rfl
  | _ => cases h
theorem un1_ot (ds : List D) : un1 (otL ds) = some ds := by
  show ((ds.map OT.dat).mapM fun t => match t with | OT.dat d => some d | _ => none) = some ds
  induction ds with
  | nil => rfl
  | cons d ds ih =>
    rw [List.map_cons, List.mapM_cons, ih]
    rfl
theorem un2_ot (dss : List (List D)) : un2 (ot2 dss) = some dss := by
  show (dss.map otL).mapM un1 = some dss
  induction dss with
  | nil => rfl
  | cons d ds ih =>
    rw [List.map_cons, List.mapM_cons, un1_ot, ih]
    rfl
/-- for (x, y) in zip(ts, e): ts a list of lists of lists of the frame's own that is given up -/
def forZ (i j : Nat) (g : Ev → Out) : List OT → List D → Ev → Out
  | t :: ts, d :: es, ρ => match un2 t with
    | some dss => match g ((ρ.set i (.own2 dss)).set j (.d d)) with
      | .nx ρ2 => forZ i j g ts es ρ2
      | .ct ρ2 => forZ i j g ts es ρ2
      | .bk ρ2 => .nx ρ2
      | o => o
    | none => .bad
  | _, _, ρ => .nx ρ
def gForZ (ix i j : Nat) (f : Ev → Res D) (g : Ev → Out) : Ev → Out := fun ρ => match ρ[ix]? with
  | some (.ot (.lst ts)) => thenO (f ρ) ρ fun d => (match d with
    | .list es => forZ i j g ts es (ρ.set ix .no)
    | _ => .bad)
  | _ => .bad
theorem owns_get {ts : List OT} {vs : List V} {as : List Addr} {t : OT} {r : List OT} (h : OwnTs K F H ts vs as) (e : ts = t :: r) : ∃ v vr xs ys, vs = v :: vr ∧ as = xs ++ ys ∧ OwnT K F H t v xs ∧ OwnTs K F H r vr ys := by
  subst e
  cases vs with
  | nil => exact h.elim
  | cons v vr =>
    obtain ⟨xs, ys, e, h1, h2⟩ := h
    exact ⟨v, vr, xs, ys, rfl, e, h1, h2⟩
theorem forZ_stop {i j : Nat} {g : Ev → Out} {ts : List OT} {es : List D} {ρ : Ev} (h : ts = [] ∨ es = []) : forZ i j g ts es ρ = .nx ρ := by
  rcases h with h | h
  · rw [h]
    unfold forZ
    rfl
  · rw [h]
    cases ts <;> (unfold forZ; rfl)
theorem ds_forZ {ix i j : Nat} {f : Ev → Res D} {g : Ev → Out} {it tg : Expr} {body : List Stmt} (hp : PassesOwn (model X.prog X.w) X.A X.env X.xe) (hc : X.calm = true)
    (hi : PI X tg it (iZip X.K (tCons (tVar ix) (tCons (tX X.K X.prog X.w (SD X.K) cl W f) tNil)))) (hg : PG X tg (gTup X.K 2 (gCons (gName i) (gCons (gName j) L2.gNil)))) (hb : DSs X cl W body g)
    (hs : ∀ x, foldedSetIterable it X.env x = pure x := by intro _; rfl) : DS X cl W (.For tg it body [] pos) (gForZ ix i j f g) := PS_imp (ps_for hp hc hi hg hb hs) fun De σ H q => by
  obtain ⟨H0, F0, ρ, F, A, R, p⟩ := q
  unfold gForZ at p
  split at p
  · rename_i ts hq
    obtain ⟨v0, as0, h1, h2, h3, a, vs, as, rfl, rfl, h5, h6⟩ := R.cel ix _ hq
    refine ⟨.ref a, R.get h3, H0, F0, ρ, F, A, R, fin_ex (S := SD X.K) R p fun d v H1 F1 _ g1 s1 q => ?_⟩
    cases d with
    | list es =>
      obtain ⟨b, ys, rfl, hb1, hb2⟩ := s1
      have R1 := R.grow g1
      have A1 : ∀ x ∈ a :: as, Apart H0 H F (setA A ix []) x := fun x hx => by
        obtain ⟨f1, f2, f3, f4⟩ := R.fr ix x (h1 x hx)
        refine ⟨f1, f2, f3, f4, fun k hk => ?_⟩
        unfold setA at hk
        by_cases e : k = ix
        · rw [if_pos e] at hk
          exact nomatch hk
        · rw [if_neg e] at hk
          exact e (R.dj k ix x hk (h1 x hx))
      have q0 : Fin X.K X.prog X.w cl W H0 F0 De (forZ i j g ts es (ρ.set ix .no)) := q
      let Pv : Nat → L2.St → Hp → Prop := fun k σ' H' => ∃ ρ' F' A' cs, Rep X.K X.prog X.w H0 F0 ρ' σ' H' F' A' ∧ Same F1 F' ∧ H' a = some (.lst vs) ∧ OwnTs X.K F' H' (ts.drop k) (vs.drop k) cs ∧ (a :: cs).Nodup ∧ (∀ x ∈ a :: cs, Apart H0 H' F' A' x) ∧ Fin X.K X.prog X.w cl W H0 F0 De (forZ i j g (ts.drop k) (es.drop k) ρ')
      refine ⟨a, b, vs, ys, rfl, SqL.of (g1.hh.get h5), SqL.of (g1.fh _ _ hb1), fun k m σ' H' => m = ts.length - k ∧ k ≤ ts.length ∧ Pv k σ' H', ⟨ts.length, by omega, Nat.zero_le _, _, F1, _, as, R1.junk0 ix, Same.refl _, g1.hh.get h5, owns_stay g1 h6, h2, fun x hx => (A1 x hx).grow g1, q0⟩, fun k m σ' H' hw => ?_⟩
      obtain ⟨em, hkl, ρ', F', A', cs, R', sf, ha', ho', nd', ap', fin⟩ := hw
      have lv : ts.length = vs.length := owns_len h6
      have le : es.length = ys.length := hb2.length
      have hb' : SqL X.K H' b ys := SqL.of (R'.sub _ _ (sf _ _ hb1))
      have hy' : SeesL X.K F' es ys := hb2.mono sf
      by_cases hlt : k < ts.length ∧ k < es.length
      · obtain ⟨hk1, hk2⟩ := hlt
        obtain ⟨t, et⟩ : ∃ t, ts[k]? = some t := ⟨_, List.getElem?_eq_getElem hk1⟩
        obtain ⟨d, ed⟩ : ∃ d, es[k]? = some d := ⟨_, List.getElem?_eq_getElem hk2⟩
        obtain ⟨x, exv⟩ : ∃ x, vs[k]? = some x := ⟨_, List.getElem?_eq_getElem (by omega)⟩
        obtain ⟨y, eyv, sy⟩ := hy'.get ed
        refine .inr ⟨⟨vs, ys, x, y, SqL.of ha', hb', exv, eyv⟩, Pv (k + 1), fun σ2 H2 pw => ⟨ts.length - (k + 1), by omega, rfl, by omega, pw⟩, fun z H2 hz => ?_⟩
        obtain ⟨T, x', y', rfl, nT, rfl, hx', hy2⟩ := hz
        have e1 := hx' vs (SqL.of ha')
        rw [exv] at e1
        have e1' := Option.some.inj e1
        subst e1'
        have e2 := hy2 ys hb'
        rw [eyv] at e2
        have e2' := Option.some.inj e2
        subst e2'
        rw [drop_cons et, drop_cons exv] at ho'
        rw [drop_cons et, drop_cons ed] at fin
        obtain ⟨xs1, ys1, rfl, o1, o2⟩ := ho'
        unfold forZ at fin
        cases hu : un2 t with
        | none => rw [hu] at fin; exact fin.elim
        | some dss =>
          rw [hu] at fin
          dsimp only at fin
          rw [un2_of hu] at o1
          have gT := Gr.out (o := .tup [x, y]) R'.sub nT
          have o1' := own_stay gT o1
          obtain ⟨a', us, bs', rfl, rfl, o3, o4⟩ := o1'
          obtain ⟨rfl, o5⟩ := ots_own2 o4
          have nd1 := List.nodup_cons.mp nd'
          have nd2 := List.nodup_append.mp nd1.2
          have R2 := R'.grow gT
          have inC : ∀ x ∈ a' :: bs', x ∈ a :: (a' :: bs' ++ ys1) := fun x hx => List.mem_cons_of_mem _ (List.mem_append_left _ hx)
          have R3 := R2.store (i := i) (c := .own2 dss) (as := a' :: bs') ⟨a', bs', List.mem_cons_self, fun b hb => List.mem_cons_of_mem _ hb, nd2.1, rfl, o3, o5⟩ (fun x hx => by
            obtain ⟨z1, z2, z3, z4, _⟩ := (ap' x (inC x hx)).grow gT
            exact ⟨z1, z2, z3, z4⟩) (fun k x hx hk => absurd hk ((ap' x (inC x hx)).2.2.2.2 k))
          have R4 := R3.setD (i := j) sy
          have hS : ∀ x ∈ a :: ys1, Apart H0 (upd H' T (.tup [.ref a', y])) F' (setA (setA A' i (a' :: bs')) j []) x := fun x hx => by
            have inx : x ∈ a :: (a' :: bs' ++ ys1) := by
              rcases List.mem_cons.mp hx with e | hx
              · rw [e]; exact List.mem_cons_self
              · exact List.mem_cons_of_mem _ (List.mem_append_right _ hx)
            obtain ⟨z1, z2, z3, z4, z5⟩ := (ap' x inx).grow gT
            refine ⟨z1, z2, z3, z4, fun k hk => ?_⟩
            unfold setA at hk
            by_cases e : k = j
            · rw [if_pos e] at hk
              exact nomatch hk
            · rw [if_neg e] at hk
              by_cases e' : k = i
              · rw [if_pos e'] at hk
                rcases List.mem_cons.mp hx with e3 | hx
                · rw [e3] at hk
                  exact nd1.1 (List.mem_append_left _ hk)
                · exact nd2.2.2 x hk x hx rfl
              · rw [if_neg e'] at hk
                exact z5 k hk
          obtain ⟨Rb, gb⟩ := R4.keepS hS
          refine ⟨T, [.ref a', y], rfl, SqT.of upd_same, rfl, .ref a', [y], rfl, y, [], rfl, rfl, _, _, _, F', _, Rb, ?_⟩
          have nxt : ∀ ρ5, Fin X.K X.prog X.w cl W H0 F0 De (forZ i j g (ts.drop (k + 1)) (es.drop (k + 1)) ρ5) → ∀ σ6 H6 F6 A6, Rep X.K X.prog X.w (mrgS H0 F' (upd H' T (.tup [.ref a', y])) (a :: ys1)) F' ρ5 σ6 H6 F6 A6 → Pv (k + 1) σ6 H6 := fun ρ5 fin5 σ6 H6 F6 A6 R6 => by
            obtain ⟨kk, ap6⟩ := Rep.keptS hS R6
            have kT : ∀ x ∈ a :: ys1, (upd H' T (.tup [.ref a', y])) x = H' x := fun x hx => by
              have inx : x ∈ a :: (a' :: bs' ++ ys1) := by
                rcases List.mem_cons.mp hx with e | hx
                · rw [e]; exact List.mem_cons_self
                · exact List.mem_cons_of_mem _ (List.mem_append_right _ hx)
              exact (ap' x inx).keep gT
            have k6 : ∀ x ∈ a :: ys1, H6 x = H' x := fun x hx => by rw [kk x hx, kT x hx]
            refine ⟨ρ5, F6, A6, ys1, R6.unbase gb R.tk, sf.trans R6.base.ff, by rw [k6 a List.mem_cons_self]; exact ha', OwnTs.mono R6.base.ff _ _ _ (fun x hx => k6 x (List.mem_cons_of_mem _ hx)) o2, List.nodup_cons.mpr ⟨fun z => nd1.1 (List.mem_append_right _ z), nd2.2.1⟩, ap6, fin5⟩
          cases hgo : g ((ρ'.set i (.own2 dss)).set j (.d d)) with
          | nx ρ5 => rw [hgo] at fin; exact nxt ρ5 fin
          | ct ρ5 => rw [hgo] at fin; exact nxt ρ5 fin
          | bk ρ5 =>
            rw [hgo] at fin
            exact fun σ4 H4 F4 A4 R4 => fin σ4 H4 F4 A4 (R4.unbase gb R.tk)
          | rt d => rw [hgo] at fin; exact Fin.rebase (o := .rt d) gb R.tk fin
          | rn d => rw [hgo] at fin; exact Fin.rebase (o := .rn d) gb R.tk fin
          | rn2 d => rw [hgo] at fin; exact Fin.rebase (o := .rn2 d) gb R.tk fin
          | rd d => rw [hgo] at fin; exact Fin.rebase (o := .rd d) gb R.tk fin
          | rs d r => rw [hgo] at fin; exact Fin.rebase (o := .rs d r) gb R.tk fin
          | ex c d => rw [hgo] at fin; exact Fin.rebase (o := .ex c d) gb R.tk fin
          | bad => rw [hgo] at fin; exact fin
      · have hst : ts.drop k = [] ∨ es.drop k = [] := by
          rw [List.drop_eq_nil_iff, List.drop_eq_nil_iff]
          omega
        rw [forZ_stop hst] at fin
        exact .inl ⟨⟨vs, ys, SqL.of ha', hb', by omega⟩, fin _ _ _ _ R'⟩
    | _ => exact q.elim
  · exact p.elim
end
end Dn

set_option Elab.async false
set_option linter.all false
set_option maxRecDepth 100000
set_option maxHeartbeats 8000000
namespace Dn
open PySem PySem.Spec PyProof.Rows L2
variable [En]
theorem evT_at {f : Ev → Res Bool} {r : Ev} {b : Bool} (h1 : f r = .bad) (h2 : f (frz r) = .ok b) : evT f r = .ok b := by
  unfold evT
  rw [h1]
  exact h2
theorem isl_at {n : Nat} {ds : List D} (h : Fine n (.list ds)) : oIsi "list" (.list ds) = .ok (.bool true) := by
  unfold oIsi
  rw [if_pos h.pl]
  rfl
theorem all_true {α : Type} (xs : List α) : oAll [.list (xs.map fun _ => .bool true)] = .ok (.bool true) := by
  have e : blsO (xs.map fun _ => PyData.bool true) = some (xs.map fun _ => true) := by
    induction xs with
    | nil => rfl
    | cons x xs ih =>
      show (blsO (xs.map fun _ => PyData.bool true)).map (true :: ·) = _
      rw [ih]
      rfl
  show ofO ((blsO (xs.map fun _ => PyData.bool true)).map fun ns => PyData.bool (ns.all id)) = _
  rw [e]
  show Res.ok (PyData.bool ((xs.map fun _ => true).all id)) = _
  congr 2
  rw [List.all_eq_true]
  intro b hb
  obtain ⟨_, _, e⟩ := List.mem_map.mp hb
  exact e.symm
theorem fine_ints (n : Nat) (xs : List Int) : Fine (n + 1) (.list (xs.map .int)) := fine_list fun d hd => by
  obtain ⟨i, _, e⟩ := List.mem_map.mp hd
  rw [← e]
  exact fine_int _ _
theorem fine_row (n : Nat) (xs : List (Option Int)) : Fine (n + 1) (.list (xs.map oD)) := fine_list fun d hd => by
  obtain ⟨i, _, e⟩ := List.mem_map.mp hd
  rw [← e]
  exact fine_oD _ _
theorem ext_at {i : Nat} {f : Ev → Res D} {r : Ev} {ds es : List D} (h1 : r[i]? = some (.own ds)) (h2 : f r = .ok (.list es)) (h3 : ds.length + es.length ≤ big) : gOwn i (gExt i f) r = .nx (r.set i (.own (ds ++ es))) := by
  unfold gOwn hasOwn gExt
  rw [h1, h2]
  show (if ds.length + es.length ≤ big then Out.nx _ else .bad) = _
  rw [if_pos h3]
theorem app_at {i : Nat} {f : Ev → Res D} {r : Ev} {ds : List D} {d : D} (h1 : r[i]? = some (.own ds)) (h2 : f r = .ok d) (h3 : ds.length < big) : gOwn i (gApp i f) r = .nx (r.set i (.own (ds ++ [d]))) := by
  unfold gOwn hasOwn gApp
  rw [h1, h2]
  show (if ds.length < big then Out.nx _ else .bad) = _
  rw [if_pos h3]
theorem cat_at {xs ys : List D} (h : xs.length + ys.length ≤ big) : oAdd (.list xs) (.list ys) = .ok (.list (xs ++ ys)) := by
  show (if xs.length + ys.length ≤ big then Res.ok (PyData.list (xs ++ ys)) else Res.bad) = _
  rw [if_pos h]
def roundsO : List D → Option (List (List Gm))
  | [] => some []
  | .list es :: r => match pairsO es, roundsO r with
    | some gs, some C => some (gs :: C)
    | _, _ => none
  | _ :: _ => none
theorem roundsO_eq : ∀ {ds : List D} {C : List (List Gm)}, roundsO ds = some C → ds = C.map gsD
  | [], C, h => by
    cases h
    rfl
  | .list es :: r, C, h => by
    have h' : (match pairsO es, roundsO r with | some gs, some C => some (gs :: C) | _, _ => none) = some C := h
    cases q1 : pairsO es with
    | none => rw [q1] at h'; cases h'
    | some gs =>
      cases q2 : roundsO r with
      | none => rw [q1, q2] at h'; cases h'
      | some C' =>
        rw [q1, q2] at h'
        cases h'
        rw [roundsO_eq q2, pairsO_eq q1]
        rfl
def goodCB (c : Int) (C : List (List Gm)) : Bool := C.all (fun gs => gs.all (fun g => decide (inC c g)) && decide (clubsOf gs).Nodup && decide (gs.length ≤ 10) && decide (gs ≠ [])) && decide (C.flatten.map srt).Nodup && decide (C.length ≤ 20)
theorem goodCB_of {c : Int} {C : List (List Gm)} (h : goodCB c C = true) : GoodC c C := by
  unfold goodCB at h
  rw [Bool.and_eq_true, Bool.and_eq_true, List.all_eq_true] at h
  refine ⟨fun gs hg => ?_, of_decide_eq_true h.1.2, of_decide_eq_true h.2⟩
  have q := h.1.1 gs hg
  rw [Bool.and_eq_true, Bool.and_eq_true, Bool.and_eq_true, List.all_eq_true] at q
  exact ⟨fun g hg => of_decide_eq_true (q.1.1.1 g hg), of_decide_eq_true q.1.1.2, of_decide_eq_true q.1.2⟩
theorem numF_snd {α : Type} : ∀ (xs : List α) (n : Nat), (numF n xs).map (fun q => q.2) = xs
  | [], _ => rfl
  | x :: xs, n => congrArg (x :: ·) (numF_snd xs (n + 1))
theorem numF_lt {α : Type} : ∀ (xs : List α) (n : Nat) (q : Nat × α), q ∈ numF n xs → q.1 < n + xs.length
  | [], _, _, h => nomatch h
  | x :: xs, n, q, h => by
    rw [List.length_cons]
    rcases List.mem_cons.mp h with e | h
    · rw [e]
      show n < _
      omega
    · have := numF_lt xs (n + 1) q h
      omega
theorem rot_at {m : Int} {own : List Gm} (h : own ≠ []) (hl : own.length ≤ 50) (r : Ev) (h7 : r[7]? = some (.d (gsD own))) (h10 : r[10]? = some (.d (.int m))) :
    ∃ own2, (s2 oAdd (sSl (sVar 7) (pSo (s2 oMod (sVar 10) (sCall oLen (aCons (sVar 7) aNil)))) pNo) (sSl (sVar 7) pNo (pSo (s2 oMod (sVar 10) (sCall oLen (aCons (sVar 7) aNil)))))) r = .ok (gsD own2) ∧ own2.Perm own := by
  have hp : 0 < own.length := List.length_pos_iff.mpr h
  have v7 : sVar 7 r = .ok (gsD own) := by unfold sVar; rw [h7]
  have v10 : sVar 10 r = .ok (.int m) := by unfold sVar; rw [h10]
  obtain ⟨i, hi⟩ : ∃ i : Nat, m % (own.length : Int) = (i : Int) := ⟨(m % (own.length : Int)).toNat, by
    have := Int.emod_nonneg m (show (own.length : Int) ≠ 0 by omega)
    omega⟩
  have ix : (s2 oMod (sVar 10) (sCall oLen (aCons (sVar 7) aNil))) r = .ok (.int (i : Int)) := by
    show ((sVar 10 r).bind fun x => (((sVar 7 r).bind fun d => Res.ok [d]).bind oLen).bind fun y => oMod x y) = _
    rw [v7, v10]
    show (if decide (0 < (((own.map tup2).length : Nat) : Int)) = true then Res.ok (PyData.int (m % (((own.map tup2).length : Nat) : Int))) else Res.bad) = _
    rw [List.length_map, if_pos (decide_eq_true (by omega)), hi]
  refine ⟨own.drop i ++ own.take i, ?_, rot_perm own i⟩
  show ((((sVar 7 r).bind fun x => (((s2 oMod (sVar 10) (sCall oLen (aCons (sVar 7) aNil))) r).bind fun z => (asI z).bind fun j => Res.ok (some j)).bind fun l => match x with | .list ds => Res.ok (PyData.list (cutD ds l none)) | _ => Res.bad).bind fun x => ((sVar 7 r).bind fun x => (((s2 oMod (sVar 10) (sCall oLen (aCons (sVar 7) aNil))) r).bind fun z => (asI z).bind fun j => Res.ok (some j)).bind fun l => match x with | .list ds => Res.ok (PyData.list (cutD ds none l)) | _ => Res.bad).bind fun y => oAdd x y)) = _
  rw [v7, ix]
  show oAdd (.list (cutD (own.map tup2) (some (i : Int)) none)) (.list (cutD (own.map tup2) none (some (i : Int)))) = _
  rw [cut_from, cut_to, cat_at (by rw [List.length_drop, List.length_take, List.length_map]; unfold big; omega), ← List.map_drop, ← List.map_take, ← List.map_append]
  rfl

theorem flat_snoc {α : Type} (F : List (List α)) (x : List α) : (F ++ [x]).flatten = F.flatten ++ x := by
  rw [List.flatten_append, List.flatten_cons, List.flatten_nil, List.append_nil]
theorem sl_at {f : Ev → Res D} {lo hi : Ev → Res (Option Int)} {r : Ev} {ds : List D} {l h : Option Int} (h1 : f r = .ok (.list ds)) (h2 : lo r = .ok l) (h3 : hi r = .ok h) : sSl f lo hi r = .ok (.list (cutD ds l h)) := by
  unfold sSl
  rw [h1]
  show (lo r).bind _ = _
  rw [h2]
  show (hi r).bind _ = _
  rw [h3]
  rfl
theorem sum_ok {ds es : List D} {r : Ev} {f g : Ev → Res D} (h1 : f r = .ok (.list ds)) (h2 : g r = .ok (.list es)) (h : ds.length + es.length ≤ big) : s2 oAdd f g r = .ok (.list (ds ++ es)) := by
  unfold s2
  rw [h1]
  show (g r).bind _ = _
  rw [h2]
  exact cat_at h
theorem iR_at {o : List D → Res (List D)} {f : Ev → Res (List D)} {r : Ev} {ds : List D} (h : f r = .ok ds) : iR o f r = o ds := by
  unfold iR
  rw [h]
  rfl
end Dn

set_option Elab.async false
set_option linter.all false
set_option maxRecDepth 100000
set_option maxHeartbeats 4000000
namespace Dn
open PySem PySem.Spec PyProof.Rows L2
variable [En]
/-! ### classes of errors -/
def errC (K : PySem.W.Frag) (C : Addr) : Bool :=
  PySem.W.excIn K C HandSPX.veTail "ValueError.__new__" && PySem.W.keepIn K (.ref C) && (PySem.W.subIn K (.ref C) (.type "BaseException") == some true) && (PySem.W.typeIn K (.ref C) == some (.type "type")) &&
  (PySem.W.findIn K (.ref C) "__getattribute__" == some (some (.builtin "BaseException.__getattribute__"))) && (PySem.W.findIn K (.ref C) "__getattr__" == some none) && PySem.W.hasDictIn K C &&
  (PySem.W.findIn K (.ref C) "__class__" == some (some (.builtin "object.__class__"))) && (PySem.W.mroIn K C (.type "object") == some true) && (PySem.W.subIn K (.ref C) (.type "ValueError") == some true) && (PySem.W.subIn K (.type "NoneType") (.ref C) == some false)
def errB (K : PySem.W.Frag) : Bool := (PySem.W.specialIn K (.builtin "object.__class__") "__get__" == some (some (.builtin "getset_descriptor.__get__"))) && (PySem.W.takesIn K (.builtin "object.__class__") == some true)
/-- class number 0 is the one over all others -/
def errT (K : PySem.W.Frag) (cl : Nat → Addr) (n : Nat) : Bool := errB K && (List.range n).all fun c => errC K (cl c) && (List.range n).all fun d => PySem.W.subIn K (.ref (cl c)) (.ref (cl d)) == some (decide (c = d) || decide (d = 0))
structure ErrOk (K : PySem.W.Frag) (cl : Nat → Addr) (n : Nat) : Prop where
  ex : ∀ c, c < n → PySem.W.excIn K (cl c) HandSPX.veTail "ValueError.__new__" = true
  kp : ∀ c, c < n → PySem.W.keepIn K (.ref (cl c)) = true
  bs : ∀ c, c < n → PySem.W.subIn K (.ref (cl c)) (.type "BaseException") = some true
  ty : ∀ c, c < n → PySem.W.typeIn K (.ref (cl c)) = some (.type "type")
  ve : ∀ c, c < n → PySem.W.subIn K (.ref (cl c)) (.type "ValueError") = some true
  no : ∀ c, c < n → PySem.W.subIn K (.type "NoneType") (.ref (cl c)) = some false
  is : ∀ c, c < n → ExcC K (cl c)
  sb : ∀ c, c < n → ∀ d, d < n → PySem.W.subIn K (.ref (cl c)) (.ref (cl d)) = some (decide (c = d) || decide (d = 0))
section
variable {K : PySem.W.Frag} {cl : Nat → Addr} {n : Nat}
theorem errOk (h : errT K cl n = true) : ErrOk K cl n := by
  unfold errT errB at h
  rw [Bool.and_eq_true, Bool.and_eq_true, List.all_eq_true, beq_iff_eq, beq_iff_eq] at h
  obtain ⟨⟨b1, b2⟩, h⟩ := h
  have q : ∀ c, c < n → errC K (cl c) = true ∧ ∀ d, d < n → PySem.W.subIn K (.ref (cl c)) (.ref (cl d)) = some (decide (c = d) || decide (d = 0)) := fun c hc => by
    have z := h c (List.mem_range.mpr hc)
    rw [Bool.and_eq_true, List.all_eq_true] at z
    exact ⟨z.1, fun d hd => beq_iff_eq.mp (z.2 d (List.mem_range.mpr hd))⟩
  have q1 := fun c hc => (q c hc).1
  unfold errC at q1
  simp only [Bool.and_eq_true, beq_iff_eq] at q1
  refine ⟨fun c hc => ?_, fun c hc => ?_, fun c hc => ?_, fun c hc => ?_, fun c hc => ?_, fun c hc => ?_, fun c hc => ?_, fun c hc => (q c hc).2⟩
  all_goals obtain ⟨⟨⟨⟨⟨⟨⟨⟨⟨⟨a1, a2⟩, a3⟩, a4⟩, a5⟩, a6⟩, a7⟩, a8⟩, a9⟩, a10⟩, a11⟩ := q1 c hc
  · exact a1
  · exact a2
  · exact a3
  · exact a4
  · exact a10
  · exact a11
  · exact ⟨a5, a6, a3, a7, a8, b1, b2, a9⟩
theorem ErrOk.caught (E : ErrOk K cl n) {c : Nat} (hc : c < n) : PySem.W.exmOne K (.ref (cl c)) (.ref (cl 0)) = some true := by
  have h0 : 0 < n := by omega
  refine PySem.W.exm_ref (E.bs 0 h0) (E.is 0 h0).hd (E.ty 0 h0) ?_
  rw [E.sb c hc 0 h0]
  simp
theorem clsIn_some {C : Addr} (h : PySem.W.hasDictIn K C = true) : (PySem.W.clsIn K C).isSome = true := by
  obtain ⟨cd, hc, _⟩ := PySem.W.any_some h
  rw [hc]
  rfl
theorem ErrOk.kit (E : ErrOk K cl n) {c d : Nat} (hc : c < n) (hd : d < n) : PySem.W.kitOne K (.ref (cl c)) (.ref (cl d)) = some (decide (c = d) || decide (d = 0)) := by
  unfold PySem.W.kitOne
  by_cases e : (Value.ref (cl c) == Value.ref (cl d)) = true
  · rw [if_pos e]
    have e1 : cl c = cl d := Value.ref.inj (beq_iff_eq.mp e)
    have s1 := E.sb c hc d hd
    have s2 := E.sb c hc c hc
    rw [← e1, s2] at s1
    have s3 := Option.some.inj s1
    rw [← s3]
    simp
  · rw [if_neg e]
    show (if ((PySem.W.clsIn K (cl d)).isSome && PySem.W.typeIn K (.ref (cl d)) == some (.type "type")) = true then _ else _) = _
    rw [if_pos (by rw [clsIn_some (E.is d hd).hd, E.ty d hd]; rfl)]
    exact E.sb c hc d hd
theorem ErrOk.kitN (E : ErrOk K cl n) {d : Nat} (hd : d < n) : PySem.W.kitOne K (.type "NoneType") (.ref (cl d)) = some false := by
  unfold PySem.W.kitOne
  rw [if_neg (by intro z; exact nomatch (beq_iff_eq.mp z))]
  show (if ((PySem.W.clsIn K (cl d)).isSome && PySem.W.typeIn K (.ref (cl d)) == some (.type "type")) = true then _ else _) = _
  rw [if_pos (by rw [clsIn_some (E.is d hd).hd, E.ty d hd]; rfl)]
  exact E.no d hd
theorem ErrOk.kitV (E : ErrOk K cl n) {c : Nat} (hc : c < n) : PySem.W.kitOne K (.ref (cl c)) (.type "ValueError") = some true := by
  unfold PySem.W.kitOne
  rw [if_neg (by intro z; exact nomatch (beq_iff_eq.mp z))]
  show (if PySem.W.kitMeta "ValueError" = true then PySem.W.subIn K (.ref (cl c)) (.type "ValueError") else none) = _
  rw [if_pos (by decide +kernel)]
  exact E.ve c hc
end
/-- the number of an error, as data -/
def errN : D → Option Nat
  | .dict [(.int i, .none)] => if 0 ≤ i then some i.toNat else none
  | _ => none
theorem errN_exc (c : Nat) : errN (excD c) = some c := by
  show (if 0 ≤ (c : Int) then some (c : Int).toNat else none) = _
  rw [if_pos (by omega), Int.toNat_natCast]
theorem errN_eq {d : D} {c : Nat} (h : errN d = some c) : d = excD c := by
  unfold errN at h
  split at h
  · rename_i i
    split at h
    · have e := Option.some.inj h
      subst e
      unfold excD
      rw [Int.toNat_of_nonneg (by assumption)]
    · cases h
  · cases h
theorem sees_exc {K : PySem.W.Frag} {F : Hp} {c : Nat} {v : V} (h : Sees K F (excD c) v) : ∃ a, v = .ref a ∧ F a = some (ExE (En.cl c) a) := by
  obtain ⟨a, h1, h2⟩ := h
  rcases h2 with ⟨h3, h4⟩ | ⟨ns, h3, h4⟩ | ⟨c', h3, h4⟩ | ⟨c', Rs, h3, h4⟩
  · cases h3
  · injection h3 with h3 _
    injection h3 with h3 _
    cases h3
  · injection h3 with h3 _
    injection h3 with h3 _
    injection h3 with h3
    have e : c = c' := by omega
    subst e
    exact ⟨a, h1, h4⟩
  · injection h3 with h3 _
    injection h3 with h3 _
    injection h3 with h3
    omega
section
variable {X : Cx} {cl : Nat → Addr} {W : WX} {e tg a b c : Expr} {pos p : Pos} {n : Nat}
theorem call_isX (E : ErrOk X.K En.cl n) : CallR X (.builtin "isinstance") (fun xs H Q => ∃ (a : Addr) (c : Nat) (cv : V) (u : Value) (b : Bool), xs = [.ref a, cv] ∧ ClsV cv u ∧ c < n ∧ H a = some (ExE (En.cl c) a) ∧ PySem.W.kitOne X.K (.ref (En.cl c)) u = some b ∧ Q (.bl b) H) := by
  intro pins s σ H xs us Q I r h
  obtain ⟨a, c, cv, u, b, rfl, k, hc, hH, e, q⟩ := h
  obtain ⟨u1, u2, rfl, r1, r2⟩ := vals2 r
  have e2 := k.eq r2
  subst e2
  cases (show u1 = Value.ref a from r1)
  obtain ⟨⟨oe, vs, g1, ⟨g2, g4⟩, g3⟩, _, _⟩ := (show ObjOk X.prog X.w H s.heap a (ExE (En.cl c) a) from I.hok a _ hH)
  have C := E.is c hc
  have J : PySem.W.InstAt s.heap a oe (En.cl c) none := by
    obtain ⟨oc, od, oda, osl⟩ := oe
    dsimp only at g2 g3 g4
    subst g2 g3 g4
    exact ⟨g1, rfl, rfl, trivial⟩
  exact PySem.W.kia_one (PySem.W.handS_kitx_exc C.hg C.hk C.hs C.hd C.ha C.hn C.ht C.hm) I.kIn J e (fun z => nomatch z) fun tk => ⟨.bl b, H, I.tok tk, rfl, q⟩
/-- isinstance(e, C), e None or a caught error, C the class number d -/
def oIsE (n d : Nat) : D → Res D := fun x => match x with
  | .none => .ok (.bool false)
  | x => match errN x with
    | some c => if c < n then .ok (.bool (decide (c = d) || decide (d = 0))) else .bad
    | none => .bad
def sIsE (n d : Nat) (f : Ev → Res D) : Ev → Res D := fun ρ => (f ρ).bind (oIsE n d)
theorem oIsE_cases {n d : Nat} {x y : D} (h : oIsE n d x = .ok y) : (x = .none ∧ y = .bool false) ∨ ∃ c, x = excD c ∧ c < n ∧ y = .bool (decide (c = d) || decide (d = 0)) := by
  unfold oIsE at h
  split at h
  · injection h with h
    exact .inl ⟨rfl, h.symm⟩
  · split at h
    · rename_i c hc
      split at h
      · injection h with h
        exact .inr ⟨c, errN_eq hc, by assumption, h.symm⟩
      · cases h
    · cases h
theorem de_isE {t : Str} {d : Nat} {f : Ev → Res D} {p pT : Pos} (E : ErrOk X.K En.cl n) (hd : d < n) (hm : X.mg "isinstance" = none) (hT : X.mg t = some (.ref (En.cl d))) (ha : DE X cl W e f)
    (hg : Gl X "isinstance" := by rfl) (hg2 : Gl X t := by rfl) (hdb : (t == ("__debug__" : Str)) = false := by decide) (hs : starEach [e, .Name t pT] X.env = (false, eval e X.env) :: starEach [.Name t pT] X.env := by rfl)
    (hv : bootBuiltins "isinstance" = some (.builtin "isinstance") := by decide +kernel) : DE X cl W (.Call (.Name "isinstance" p) [e, .Name t pT] [] pos) (sIsE n d f) := by
  have hc : PE X (.Name t pT) (tC (.ref (En.cl d))) := pe_glob hg2 hT rfl hdb
  refine PE_imp (pe_callB (CallR.or call_isi (call_isX E)) hg hm hv (pa_cons ha (pa_cons hc pa_nil) hs) (he := hs)) fun σ H Q h => ?_
  obtain ⟨H0, F0, ρ, F, A, R, p⟩ := h
  refine ⟨H0, F0, ρ, F, A, R, (Post.bind (S := SD X.K) p).imp fun v H1 ⟨F1, x, _, g1, s1, p1⟩ => ?_⟩
  cases r : oIsE n d x with
  | bad => rw [r] at p1; exact p1.elim
  | ex c => 
    unfold oIsE at r
    split at r
    · cases r
    · split at r
      · split at r <;> cases r
      · cases r
  | ok y =>
    rw [r] at p1
    rcases oIsE_cases r with ⟨rfl, rfl⟩ | ⟨c, rfl, hc, rfl⟩
    · refine .inl ⟨v, .ref (En.cl d), .type "NoneType", _, _, rfl, .own _, ?_, E.kitN hd, Post.now (S := SD X.K) g1.fh p1 rfl⟩
      rw [show v = V.non from s1]
      exact .base .non
    · obtain ⟨a, rfl, ha⟩ := sees_exc s1
      exact .inr ⟨a, c, .ref (En.cl d), _, _, rfl, .own _, hc, g1.fh _ _ ha, E.kit hc hd, Post.now (S := SD X.K) g1.fh p1 rfl⟩
/-- isinstance(e, ValueError), e a caught error -/
def oIsV (n : Nat) : D → Res D := fun x => match errN x with
  | some c => if c < n then .ok (.bool true) else .bad
  | none => .bad
def sIsV (n : Nat) (f : Ev → Res D) : Ev → Res D := fun ρ => (f ρ).bind (oIsV n)
theorem de_isV {f : Ev → Res D} {p pT : Pos} (E : ErrOk X.K En.cl n) (hm : X.mg "isinstance" = none) (hT : X.mg "ValueError" = none) (ha : DE X cl W e f)
    (hg : Gl X "isinstance" := by rfl) (hg2 : Gl X "ValueError" := by rfl) (hs : starEach [e, .Name "ValueError" pT] X.env = (false, eval e X.env) :: starEach [.Name "ValueError" pT] X.env := by rfl)
    (hv : bootBuiltins "isinstance" = some (.builtin "isinstance") := by decide +kernel) (hb : bootBuiltins "ValueError" = some (.type "ValueError") := by decide +kernel) : DE X cl W (.Call (.Name "isinstance" p) [e, .Name "ValueError" pT] [] pos) (sIsV n f) := by
  have hc : PE X (.Name "ValueError" pT) (tC (.ty "ValueError")) := pe_bltn hg2 hT hb rfl (by decide) (by decide)
  refine PE_imp (pe_callB (call_isX E) hg hm hv (pa_cons ha (pa_cons hc pa_nil) hs) (he := hs)) fun σ H Q h => ?_
  obtain ⟨H0, F0, ρ, F, A, R, p⟩ := h
  refine ⟨H0, F0, ρ, F, A, R, (Post.bind (S := SD X.K) p).imp fun v H1 ⟨F1, x, _, g1, s1, p1⟩ => ?_⟩
  unfold oIsV at p1
  split at p1
  · rename_i c hc
    split at p1
    · rename_i hn
      rw [errN_eq hc] at s1
      obtain ⟨a, rfl, ha⟩ := sees_exc s1
      exact ⟨a, c, .ty "ValueError", _, _, rfl, .ty _, hn, g1.fh _ _ ha, E.kitV hn, Post.now (S := SD X.K) g1.fh p1 rfl⟩
    · exact p1.elim
  · exact p1.elim
/-- raise C('..') -/
theorem ds_raiseS {x m : Str} {j c : Nat} {p p2 q q2 : Pos} (E : ErrOk X.K En.cl n) (hcl : cl = En.cl) (hn : c < n) (hc : X.calm = true) (tk : Takes X W) (gC : X.mg x = some (.ref (En.cl c))) (hg : Gl X x := by rfl) (hdb : (x == ("__debug__" : Str)) = false := by decide) : DS X cl W (.Raise (some (.Call (.Name x p) [.Constant (.str m) j p2] [] q)) none q2) (gEx c) := by
  subst hcl
  exact ds_raise (ps_raise hc tk (pmk_own PySem.F.excBase_ValueError (E.ex c hn) gC (E.kp c hn) (raises_own (E.bs c hn) (E.ty c hn)) hg hdb))
end
end Dn

set_option Elab.async false
set_option linter.all false
set_option maxRecDepth 100000
set_option maxHeartbeats 4000000
namespace Dn
open PySem PySem.Spec PyProof.Rows L2
variable [En]
/-! ### try: .. except C as n: x = n; the caught error stays known -/
def exS (cls : Value) (d : Option Addr) (a : Addr) : HO := .ext fun h => ∃ (oe : Obj) (vs : Array Value), h.get? a = some oe ∧ Zc cls d oe ∧ oe.data = .fields vs
section
variable {X : Cx} {ps : List (Addr × Obj)} {σ : L2.St} {H : Hp} {z : Shared} {a : Addr}
/-- an object that stands in the heap unknown is taken to be known -/
theorem adopt {o : HO} (J : Inv X ps σ H z) (ha : H a = none) (f0 : X.s_0.heap.get? a = none) (nl : a ≠ X.env.locals) (np : ∀ q ∈ X.pn ++ ps, q.1 ≠ a) (nc : ∀ y c, X.env.cells.lookup y = some c → c ≠ a) (new : ObjOk X.prog X.w (upd H a o) z.heap a o) : Inv X ps σ (upd H a o) z := by
  have old : ∀ {b u}, H b = some u → upd H a o b = some u := fun {b u} e => by rw [upd_ne (ne_of_none e ha)]; exact e
  constructor
  · exact J.ok
  · exact J.os
  · exact J.bare
  · constructor
    · exact J.base.keep
    · exact J.base.slot
    · intro b u e n x
      rw [upd_ne fun q => by rw [q, f0] at e; cases e]
      exact J.base.free b u e n x
    · exact J.base.there
    · exact fun b xs e => old (J.base.tups b xs e)
    · exact fun b u v e => old (J.base.frzs b u v e)
    · intro b qs e
      obtain ⟨m, q⟩ := J.base.tbls b qs e
      exact ⟨m, old q⟩
  · exact J.loc
  · exact J.cell
  · rw [upd_ne nl.symm]; exact J.free
  · intro y c e
    rw [upd_ne (nc y c e)]
    exact J.freeC y c e
  · intro q hq
    obtain ⟨q1, q2, q3⟩ := J.pin q hq
    exact ⟨q1, by rw [upd_ne (np q hq)]; exact q2, q3⟩
  · exact J.hok.laidN (fun _ _ q => q) ha new
  · exact J.len
/-- what the clause wishes -/
def wK (K : PySem.W.Frag) (c : Value) (i : Nat) (ts : Addr → Value → Option Addr → TS) (D : Ends) : WX := fun cls d σ H =>
  PySem.W.exmOne K cls c = some true ∧ ∀ a, H a = none → ts a cls d ⟨fun σ' H' => D.nx (σ'.set i none) (upd H' a (exS cls d a)), fun _ _ => False, fun _ _ => False, fun _ _ => False⟩ (σ.set i (some (.ref a))) H
end
section
variable {X : Cx} {x nm : Str} {c : Value} {i : Nat} {body more : List Stmt} {b1 : Stmt} {np pos pos' : Pos} {tb : WX → TS} {ts : Addr → Value → Option Addr → TS}
theorem ps_tryK (hs : X.stack = X.env :: X.outer) (hf : X.env.frame = some X.env.locals) (hex : X.ex = []) (hN : X.N.Nodup) (hi : X.N[i]? = some nm) (hln : X.env.kindOf nm = some .local) (hc : Names X x c)
    (hb : ∀ (W : WX) (pn : List (Addr × Obj)) (xe : Value → Shared → Prop), Takes (X.tr pn xe) W → PassesOwn (model X.prog X.w) X.A X.env xe → PSs (X.tr pn xe) body (tb W))
    (hsu : ∀ (a : Addr) (oe : Obj) (cls : Value) (d : Option Addr) (pn : List (Addr × Obj)), Zc cls d oe → (∃ vs, oe.data = .fields vs) → PSs (X.suite a ((a, oe) :: pn)) (b1 :: more) (ts a cls d)) :
    PS X (.Try body [.ExceptHandler (some (.Name x np)) (some nm) (b1 :: more) pos'] [] [] pos) (fun D σ H => tb (wK X.K c i ts D) D σ H) := by
  constructor
  intro ps s σ H D I h
  have okX := I.ok
  have frames : X.A.frames = some (X.env :: X.outer) := okX.frames.trans (congrArg some hs)
  apply wpAny_Try_except
  let clause : List ExceptHandler := [.ExceptHandler (some (.Name x np)) (some nm) (b1 :: more) pos']
  let way : Value → Shared → Prop := fun er s₁ => wpAny (model X.prog X.w) X.A (noteFrame er X.env) (fun _ s₂ => wpAny (model X.prog X.w) X.A (setFlight er none) (fun _ s₃ => wpAny (model X.prog X.w) X.A (handleBy er X.env clause) (SP X ps D) X.xe s₃) X.xe s₂) X.xe s₁
  have caught : Takes (X.tr (X.pn ++ ps) way) (wK X.K c i ts D) := by
    intro er s1 air
    obtain ⟨a, B, s0, ps1, σ1, H1, cls, d, rfl, J0, ground, up, sky, free, os, gens, yes, go⟩ := air
    have J1 : Inv X ps σ1 H1 s0 := J0.ofTry okX
    have sky2 : Sky B (X.env :: X.outer) a (Zc cls d) X.env.locals s1.heap := by rw [← hs]; exact sky
    apply Sky.land Zc.steady frames hf sky2
    intro h2 fl2 up2
    have J2 : Inv X ps σ1 H1 { s1 with heap := h2 } := J1.landed ground fl2.1 (up.trans up2) os gens
    obtain ⟨oe2, vs2, at2, z2, d2⟩ := fl2.there
    have apart : a ∉ frs (X.env :: X.outer) := by
      intro m
      obtain ⟨_, u, at3, no⟩ := fl2.2.2.1.mem m
      rw [at2] at at3
      cases at3
      exact no _ d2
    have nl : a ≠ X.env.locals := by
      intro e
      apply apart
      rw [e]
      exact List.mem_filterMap.mpr ⟨_, List.mem_cons_self, hf⟩
    have nf : a ∉ X.fs := by
      intro m
      apply apart
      obtain ⟨en, hen, q⟩ := List.mem_filterMap.mp m
      exact List.mem_filterMap.mpr ⟨en, List.mem_cons_of_mem _ hen, q⟩
    -- nothing that stood before is at a
    have before : ∀ b u, s0.heap.get? b = some u → b ≠ a := by
      intro b u e q
      subst q
      have z := ground _ _ e (by rw [hs]; exact apart)
      rw [fl2.2.1] at z
      cases z
    have S2 := J2.suite at2 d2 free nl nf
    apply wpAny_handleBy_cons (codeAny_handlers_test ?_) (by intro q; cases q)
    have T2 : PySem.W.Looks (model X.prog X.w) h2 (typeOf (.ref a)) cls := by
      intro A' Q' E' s' k q
      apply wpAny_typeOf_ref (k _ _ at2)
      rw [z2.1]
      exact q
    have M2 := PySem.W.exm_one (M := model X.prog X.w) J2.kIn T2 yes
    have name : ∀ {Q : Value → Shared → Prop} {E : Value → Shared → Prop}, Q c { s1 with heap := h2 } → wpAny (model X.prog X.w) (X.A.mark (some (.ref a))) (eval (.Name x np) X.env) Q E { s1 with heap := h2 } := by
      intro Q E q
      obtain ⟨w1, w2, w3 | ⟨w3, w4, w5⟩⟩ := hc
      · exact ld_glob (X := X.suite a ((a, oe2) :: (X.pn ++ ps))) S2 w1 w3 q w2
      · exact ld_blt (X := X.suite a ((a, oe2) :: (X.pn ++ ps))) S2 w1 w3 w4 q w5 w2
    apply name
    apply M2.here
    apply codeAny_handlers_suite_as
    apply HandSPX.lands_againZ fl2
    intro h3 fl3 up3
    have J3 : Inv X ps σ1 H1 { s1 with heap := h3 } := J1.landed ground fl3.1 ((up.trans up2).trans up3) os gens
    obtain ⟨oe3, vs3, at3, z3, d3⟩ := fl3.there
    have S3 := J3.suite at3 d3 free nl nf
    apply store_ok (X := X.suite a ((a, oe3) :: (X.pn ++ ps))) (v := .ref a) S3 hN hi (.inl hln) rfl _ (.inr hln)
    intro s4 S4
    have run := (hsu a oe3 cls d (X.pn ++ ps) z3 ⟨_, d3⟩).run [] s4 _ H1 _ S4 (go a free)
    refine wpAny_mono run (fun f s5 out => ?_) fun _ _ q => False.elim q
    cases f with
    | next =>
      obtain ⟨σ5, H5, S5, q5⟩ := out
      apply gone_ok (X := X.suite a ((a, oe3) :: (X.pn ++ ps))) S5 hN hi hln
      intro s6 S6
      obtain ⟨at6, free6, _⟩ := S6.pin (a, oe3) (List.mem_append_left _ List.mem_cons_self)
      refine ⟨_, _, adopt (a := a) (o := exS cls d a) (S6.unsuite okX) free6 ?_ nl (fun q hq => ?_) (fun y cc e => ?_) ⟨⟨oe3, vs3, at6, z3, d3⟩, ⟨_, at6⟩, fun h1 h2 ⟨u, vs, e1, e2, e3⟩ k => ⟨u, vs, k _ e1, e2, e3⟩⟩, q5⟩
      · cases e : X.s_0.heap.get? a with
        | none => rfl
        | some u =>
          obtain ⟨u', e'⟩ := J1.base.there a u e (by rw [hex]; exact List.not_mem_nil)
          exact absurd rfl (before a u' e')
      · exact before _ _ (J1.pin q hq).1
      · obtain ⟨v, u, e1, e2⟩ := J1.cell y cc e
        exact before _ _ e1
    | brk =>
      obtain ⟨σ5, H5, S5, q5⟩ := out
      exact q5.elim
    | cont =>
      obtain ⟨σ5, H5, S5, q5⟩ := out
      exact q5.elim
    | ret u =>
      obtain ⟨v5, σ5, H5, S5, _, q5⟩ := out
      exact q5.elim
  have ran := (hb (wK X.K c i ts D) (X.pn ++ ps) way caught PassesOwn.looking).run [] s σ H D (I.toTry way) h
  refine wpAny_mono ran (fun f s1 out => ?_) fun _ _ q => q
  cases f with
  | next =>
    obtain ⟨σ1, H1, J1, q1⟩ := out
    exact wpAny_execs_nil ⟨_, _, J1.ofTry okX, q1⟩
  | brk =>
    obtain ⟨σ1, H1, J1, q1⟩ := out
    exact ⟨_, _, J1.ofTry okX, q1⟩
  | cont =>
    obtain ⟨σ1, H1, J1, q1⟩ := out
    exact ⟨_, _, J1.ofTry okX, q1⟩
  | ret u =>
    obtain ⟨v1, σ1, H1, J1, r1, q1⟩ := out
    exact ⟨_, _, _, J1.ofTry okX, r1, q1⟩
end
/-- try: body / except E as n (slot i): x = n (slot j) -/
def gTry (n i j : Nat) (g : Ev → Out) : Ev → Out := fun ρ => match g ρ with
  | .ex c ρ' => if c < n ∧ i < ρ'.length ∧ j ≠ i then .nx (((ρ'.set i .no).set j (.d (excD c))).set i .no) else .bad
  | o => o
section
variable {X : Cx} {cl : Nat → Addr} {W : WX} {x nm : Str} {i j n : Nat} {body : List Stmt} {b1 : Stmt} {np pos pos' : Pos} {g : Ev → Out}
theorem ds_tryK (hcl : cl = En.cl) (E : ErrOk X.K En.cl n) (hs : X.stack = X.env :: X.outer) (hf : X.env.frame = some X.env.locals) (hex : X.ex = []) (hN : X.N.Nodup) (hi : X.N[i]? = some nm) (hln : X.env.kindOf nm = some .local) (hc : Names X x (.ref (En.cl 0)))
    (hb : ∀ (V : WX) (pn : List (Addr × Obj)) (xe : Value → Shared → Prop), Takes (X.tr pn xe) V → PassesOwn (model X.prog X.w) X.A X.env xe → DSs (X.tr pn xe) cl V body g)
    (hsu : ∀ (a : Addr) (oe : Obj) (pn : List (Addr × Obj)), PS (X.suite a ((a, oe) :: pn)) b1 (tAsg (tVar i) (gName j))) : DS X cl W (.Try body [.ExceptHandler (some (.Name x np)) (some nm) [b1] pos'] [] [] pos) (gTry n i j g) := by
  subst hcl
  refine PS_imp (ps_tryK (tb := fun V => tS X.K X.prog X.w En.cl V g) (ts := fun _ _ _ => tAsg (tVar i) (gName j)) hs hf hex hN hi hln hc hb fun a oe cls d pn _ _ => pss_one (hsu a oe pn)) fun D σ H q => ?_
  obtain ⟨H0, F0, ρ, F, A, R, p⟩ := q
  refine ⟨H0, F0, ρ, F, A, R, ?_⟩
  unfold gTry at p
  cases r : g ρ with
  | ex c ρ' =>
    rw [r] at p
    have p1 : Fin X.K X.prog X.w En.cl W H0 F0 D (if c < n ∧ i < ρ'.length ∧ j ≠ i then .nx (((ρ'.set i .no).set j (.d (excD c))).set i .no) else .bad) := p
    by_cases hk : c < n ∧ i < ρ'.length ∧ j ≠ i
    · rw [if_pos hk] at p1
      obtain ⟨k1, k2, k3⟩ := hk
      intro σ' H' F' A' R'
      refine ⟨E.caught k1, fun a ha => ?_⟩
      have li : i < σ'.length := by rw [R'.len]; exact k2
      refine ⟨.ref a, by rw [List.getElem?_set_self li], ?_⟩
      have R1 := R'.grow (Gr.new (o := ExE (En.cl c) a) R'.sub ha)
      have R2 := (R1.junk (i := i) (ov := some (.ref a))).setD (i := j) (d := excD c) (v := .ref a) ⟨a, rfl, .inr (.inr (.inl ⟨c, rfl, upd_same⟩))⟩
      exact p1 _ _ _ _ (R2.junk (i := i) (ov := none))
    · rw [if_neg hk] at p1
      exact p1.elim
  | nx d => rw [r] at p; exact p
  | rt d => rw [r] at p; exact p
  | rn d => rw [r] at p; exact p
  | rn2 d => rw [r] at p; exact p
  | rd d => rw [r] at p; exact p
  | rs d _ => rw [r] at p; exact p
  | bk d => rw [r] at p; exact p
  | ct d => rw [r] at p; exact p
  | bad => rw [r] at p; exact p
end
section
variable {X : Cx} {cl : Nat → Addr} {W : WX} {n : Nat}
/-- raise C(f'..') -/
theorem ds_raiseF {x : Str} {c : Nat} {e : Expr} {te : TE} {p q q2 : Pos} (E : ErrOk X.K En.cl n) (hcl : cl = En.cl) (hn : c < n) (hc : X.calm = true) (tk : Takes X W) (gC : X.mg x = some (.ref (En.cl c))) (he : PE X e te) (ht : ∀ σ H (Q : VK), (∀ v, Q v H) → te σ H Q) (hg : Gl X x := by rfl) (hs : starEach [e] X.env = (false, eval e X.env) :: starEach [] X.env := by rfl) (hdb : (x == ("__debug__" : Str)) = false := by decide) : DS X cl W (.Raise (some (.Call (.Name x p) [e] [] q)) none q2) (gEx c) := by
  subst hcl
  exact ds_raise (PS_imp (ps_raise hc tk (SkE.pmk_own1 PySem.F.excBase_ValueError (E.ex c hn) gC (E.kp c hn) (raises_own (E.bs c hn) (E.ty c hn)) hg he hs hdb)) fun D σ H h => ht σ H _ fun _ => h)
end
end Dn

set_option Elab.async false
set_option linter.all false
set_option maxRecDepth 100000
set_option maxHeartbeats 4000000
namespace Dn
open PySem PySem.Spec PyProof.Rows L2
variable [En]
section
variable {X : Cx} {cl : Nat → Addr} {W : WX} {e a b : Expr} {pos : Pos} {K : PySem.W.Frag}
/-! ### int(x), x ** y, {}, tuple(x) -/
def oInt : D → Res D
  | .int i => .ok (.int i)
  | .bool b => .ok (.int (if b then 1 else 0))
  | _ => .bad
def oIntL : List D → Res D
  | [d] => oInt d
  | _ => .bad
theorem cd_int : CallD K (fun xs H Q => (∃ i, xs = [V.int i] ∧ Q (.int i) H) ∨ ∃ k, xs = [V.bl k] ∧ Q (.int (if k then 1 else 0)) H) oIntL := cd_one (fun cl W σ d v H F Q e s p => by
  cases d with
  | int i => exact .inl ⟨i, by rw [show v = V.int i from s], Post.now (S := SD K) e p rfl⟩
  | bool k => exact .inr ⟨k, by rw [show v = V.bl k from s], Post.now (S := SD K) e p rfl⟩
  | _ => exact p.elim) rfl fun x y z => rfl
def oPow : D → D → Res D := oI (fun i j => decide (0 ≤ j) && decide (j ≤ 1000000) && decide (i.natAbs < 2 ^ 64)) fun i j => .int (i ^ j.toNat)
theorem de_pow {f g : Ev → Res D} (ha : DE X cl W a f) (hb : DE X cl W b g) : DE X cl W (.BinOp a .Pow b pos) (s2 oPow f g) := de_op op_pow (od_I (fun i j h => by
  rw [Bool.and_eq_true, Bool.and_eq_true] at h
  exact ⟨of_decide_eq_true h.1.1, of_decide_eq_true h.1.2, of_decide_eq_true h.2⟩) fun _ _ _ => rfl) ha hb
theorem de_dict0 : DE X cl W (.Dict [] [] pos) (sC (.dict [])) := PE_imp pe_dnewK fun σ H Q q => by
  obtain ⟨H0, F0, ρ, F, A, R, p⟩ := q
  intro b hb
  exact p _ _ _ (Gr.new R.sub hb) ⟨b, rfl, .inl ⟨rfl, upd_same⟩⟩
def oTupl : List D → Res D
  | [.list ds] => .ok (.tuple ds)
  | [.tuple ds] => .ok (.tuple ds)
  | _ => .bad
theorem cd_tupl : CallD K (fun xs H Q => ∃ p ys, xs = [V.ref p] ∧ ((SqL K H p ys ∧ ∀ l, H l = none → Q (.ref l) (upd H l (.tup ys))) ∨ (SqT K H p ys ∧ Q (.ref p) H))) oTupl := cd_one (fun cl W σ d v H F Q e s p => by
  cases d with
  | list ds =>
    obtain ⟨a, xs, rfl, ha, hs⟩ := s
    refine ⟨a, xs, rfl, .inl ⟨SqL.of (e _ _ ha), fun q hq => ?_⟩⟩
    exact p _ _ _ (Gr.new e hq) ⟨q, xs, rfl, upd_same, hs.mono (Gr.new e hq).ff⟩
  | tuple ds =>
    obtain ⟨a, xs, rfl, ha, hs⟩ := s
    exact ⟨a, xs, rfl, .inr ⟨SqT.of (e _ _ ha), Post.now (S := SD K) e p ⟨a, xs, rfl, ha, hs⟩⟩⟩
  | _ => exact p.elim) rfl fun x y z => by cases x <;> rfl
end
end Dn

set_option Elab.async false
set_option linter.all false
set_option maxRecDepth 100000
set_option maxHeartbeats 8000000
namespace Dn
open PySem PySem.Spec PyProof.Rows L2
variable [En]
/-! ### raising, walked -/
theorem seq_ex {g h : Ev → Out} {r r' : Ev} {c : Nat} (e : g r = .ex c r') : gSeq g h r = .ex c r' := by
  unfold gSeq
  rw [e]
theorem drop_ex {f : Ev → Res D} {r : Ev} {c : Nat} (e : f r = .ex c) : gDrop f r = .ex c r := by
  unfold gDrop
  rw [e]
  rfl
theorem set_ex {f : Ev → Res D} {r : Ev} {i c : Nat} (e : f r = .ex c) : gSet i f r = .ex c r := by
  unfold gSet
  rw [e]
  rfl
theorem for_ex {src : Ev → Res (List D)} {bnd : D → Ev → Option Ev} {g : Ev → Out} {r : Ev} {c : Nat} (e : src r = .ex c) : gFor src bnd g r = .ex c r := by
  unfold gFor
  rw [e]
  rfl
theorem forO_nx {bnd : D → Ev → Option Ev} {g : Ev → Out} {d : D} {ds : List D} {r r1 r2 : Ev} (h1 : bnd d r = some r1) (h2 : g r1 = .nx r2) : forO bnd g (d :: ds) r = forO bnd g ds r2 := by
  show (match bnd d r with | none => Out.bad | some r1 => _) = _
  rw [h1]
  show (match g r1 with | .nx r2 => forO bnd g ds r2 | .ct r2 => forO bnd g ds r2 | .bk r2 => .nx r2 | o => o) = _
  rw [h2]
theorem forO_ex {bnd : D → Ev → Option Ev} {g : Ev → Out} {d : D} {ds : List D} {r r1 r2 : Ev} {c : Nat} (h1 : bnd d r = some r1) (h2 : g r1 = .ex c r2) : forO bnd g (d :: ds) r = .ex c r2 := by
  show (match bnd d r with | none => Out.bad | some r1 => _) = _
  rw [h1]
  show (match g r1 with | .nx r2 => forO bnd g ds r2 | .ct r2 => forO bnd g ds r2 | .bk r2 => .nx r2 | o => o) = _
  rw [h2]
theorem sF1_ex {α : Type} {o : List D → Res α} {f1 : Ev → Res D} {r : Ev} {c : Nat} (h : f1 r = .ex c) : sF 1 o (aCons f1 aNil) r = .ex c := by
  unfold sF aCons
  rw [h]
  rfl
/-! ### any data for rounds -/
def clubB (c : Int) : D → Bool
  | .int i => decide (0 ≤ i) && decide (i < c)
  | _ => false
def gameO (c : Int) : D → Option Gm
  | .tuple [.int a, .int b] => if (0 ≤ a ∧ a < c) ∧ (0 ≤ b ∧ b < c) ∧ a ≠ b then some (a, b) else none
  | _ => none
theorem gameO_len {c : Int} {ds : List D} (h : ds.length ≠ 2) : gameO c (.tuple ds) = none := by
  unfold gameO
  split
  · rename_i a b e
    injection e with e
    rw [e] at h
    exact absurd rfl h
  · rfl
theorem gameO_tup {c : Int} {g : Gm} (h : inC c g) : gameO c (tup2 g) = some g := if_pos h
theorem gameO_eq {c : Int} {d : D} {g : Gm} (h : gameO c d = some g) : d = tup2 g ∧ inC c g := by
  unfold gameO at h
  split at h
  · rename_i a b
    split at h
    · rename_i k
      have e := Option.some.inj h
      subst e
      exact ⟨rfl, k⟩
    · cases h
  · cases h
/-- a round walked, the clubs that are busy already -/
def runG (c : Int) : List D → List Int → Option (List Gm)
  | [], _ => some []
  | d :: ds, ks => match gameO c d with
    | none => none
    | some g => if g.1 ∈ ks ∨ g.2 ∈ ks then none else (runG c ds (g.2 :: g.1 :: ks)).map (g :: ·)
def roundO (c : Int) : D → Option (List Gm)
  | .list ds => runG c ds []
  | _ => none
/-- a round's games, the games that are played already -/
def putG : List Gm → List (List Int) → Option (List (List Int))
  | [], ks => some ks
  | g :: gs, ks => if key g ∈ ks then none else putG gs (key g :: ks)
def runR (c : Int) : List D → List (List Int) → Bool
  | [], _ => true
  | d :: ds, ks => match roundO c d with
    | none => false
    | some gs => match putG gs ks with
      | none => false
      | some ks' => runR c ds ks'
def roundsB (c : Int) : D → Bool
  | .list ds => decide (ds.length ≤ 40) && runR c ds []
  | _ => false
theorem runG_eq {c : Int} : ∀ {ds : List D} {ks : List Int} {gs : List Gm}, runG c ds ks = some gs → ds = gs.map tup2 ∧ ∀ g ∈ gs, inC c g
  | [], _, gs, h => by
    have e : [] = gs := Option.some.inj h
    subst e
    exact ⟨rfl, fun _ z => nomatch z⟩
  | d :: ds, ks, gs, h => by
    unfold runG at h
    cases q : gameO c d with
    | none => rw [q] at h; cases h
    | some g =>
      rw [q] at h
      have h' : (if g.1 ∈ ks ∨ g.2 ∈ ks then none else (runG c ds (g.2 :: g.1 :: ks)).map (g :: ·)) = some gs := h
      split at h'
      · cases h'
      · cases q2 : runG c ds (g.2 :: g.1 :: ks) with
        | none => rw [q2] at h'; cases h'
        | some gs' =>
          rw [q2] at h'
          have e : g :: gs' = gs := Option.some.inj h'
          subst e
          obtain ⟨e1, k1⟩ := gameO_eq q
          obtain ⟨e2, k2⟩ := runG_eq q2
          refine ⟨by rw [e1, e2]; rfl, fun x hx => ?_⟩
          rcases List.mem_cons.mp hx with e | hx
          · rw [e]; exact k1
          · exact k2 x hx
theorem runG_bad {c : Int} {d : D} (hd : gameO c d = none) : ∀ {ds : List D} {ks : List Int}, d ∈ ds → runG c ds ks = none
  | [], _, h => nomatch h
  | x :: ds, ks, h => by
    unfold runG
    cases q : gameO c x with
    | none => rfl
    | some g =>
      show (if g.1 ∈ ks ∨ g.2 ∈ ks then none else (runG c ds (g.2 :: g.1 :: ks)).map (g :: ·)) = none
      split
      · rfl
      · rcases List.mem_cons.mp h with e | h
        · rw [← e, hd] at q; cases q
        · rw [runG_bad hd h]; rfl
theorem runG_of {c : Int} : ∀ {gs : List Gm} {ks : List Int}, (∀ g ∈ gs, inC c g) → (clubsOf gs).Nodup → (∀ k ∈ clubsOf gs, k ∉ ks) → runG c (gs.map tup2) ks = some gs
  | [], _, _, _, _ => rfl
  | g :: gs, ks, h, nd, hk => by
    rw [clubs_cons] at nd hk
    obtain ⟨n1, nd1⟩ := List.nodup_cons.mp nd
    obtain ⟨n2, nd2⟩ := List.nodup_cons.mp nd1
    show (match gameO c (tup2 g) with | none => none | some g => if g.1 ∈ ks ∨ g.2 ∈ ks then none else (runG c (gs.map tup2) (g.2 :: g.1 :: ks)).map (g :: ·)) = _
    rw [gameO_tup (h g List.mem_cons_self)]
    show (if g.1 ∈ ks ∨ g.2 ∈ ks then none else (runG c (gs.map tup2) (g.2 :: g.1 :: ks)).map (g :: ·)) = _
    rw [if_neg fun z => z.elim (hk _ List.mem_cons_self) (hk _ (List.mem_cons_of_mem _ List.mem_cons_self)), runG_of (fun x hx => h x (List.mem_cons_of_mem _ hx)) nd2 fun k hm z => ?_]
    · rfl
    · rcases List.mem_cons.mp z with e | z
      · rw [e] at hm; exact n2 hm
      · rcases List.mem_cons.mp z with e | z
        · rw [e] at hm; exact n1 (List.mem_cons_of_mem _ hm)
        · exact hk k (List.mem_cons_of_mem _ (List.mem_cons_of_mem _ hm)) z
theorem roundO_gs {c : Int} {gs : List Gm} (G : GoodR c gs) : roundO c (gsD gs) = some gs := runG_of (fun g hg => G.game g hg) G.once fun _ _ z => nomatch z
theorem putG_some : ∀ {gs : List Gm} {ks ks' : List (List Int)}, putG gs ks = some ks' → (gs.map key).Nodup ∧ (∀ g ∈ gs, key g ∉ ks) ∧ ∀ k, k ∈ ks' ↔ k ∈ gs.map key ∨ k ∈ ks
  | [], ks, ks', h => by
    have e : ks = ks' := Option.some.inj h
    subst e
    refine ⟨List.nodup_nil, ?_, ?_⟩
    · intro g z
      cases z
    · intro k
      simp
  | g :: gs, ks, ks', h => by
    unfold putG at h
    split at h
    · cases h
    · rename_i n
      obtain ⟨a, b, c⟩ := putG_some h
      refine ⟨?_, fun x hx => ?_, fun k => ?_⟩
      · rw [List.map_cons]
        refine List.nodup_cons.mpr ⟨fun z => ?_, a⟩
        obtain ⟨x, hx, e⟩ := List.mem_map.mp z
        exact b x hx (by rw [e]; exact List.mem_cons_self)
      · rcases List.mem_cons.mp hx with e | hx
        · rw [e]; exact n
        · exact fun z => b x hx (List.mem_cons_of_mem _ z)
      · rw [c k, List.map_cons, List.mem_cons, List.mem_cons]
        constructor
        · rintro (z | z | z)
          · exact .inl (.inr z)
          · exact .inl (.inl z)
          · exact .inr z
        · rintro ((z | z) | z)
          · exact .inr (.inl z)
          · exact .inl z
          · exact .inr (.inr z)
theorem putG_of : ∀ {gs : List Gm} {ks : List (List Int)}, (gs.map key).Nodup → (∀ g ∈ gs, key g ∉ ks) → ∃ ks', putG gs ks = some ks'
  | [], ks, _, _ => ⟨ks, rfl⟩
  | g :: gs, ks, nd, h => by
    rw [List.map_cons] at nd
    obtain ⟨n1, n2⟩ := List.nodup_cons.mp nd
    obtain ⟨ks', e⟩ := putG_of (ks := key g :: ks) n2 fun x hx z => by
      rcases List.mem_cons.mp z with e | z
      · exact n1 (by rw [← e]; exact List.mem_map_of_mem hx)
      · exact h x (List.mem_cons_of_mem _ hx) z
    refine ⟨ks', ?_⟩
    unfold putG
    rw [if_neg (h g List.mem_cons_self)]
    exact e
theorem runR_bad {c : Int} {d : D} (hd : roundO c d = none) : ∀ {ds : List D} {ks : List (List Int)}, d ∈ ds → runR c ds ks = false
  | [], _, h => nomatch h
  | x :: ds, ks, h => by
    unfold runR
    cases q : roundO c x with
    | none => rfl
    | some gs =>
      dsimp only
      cases putG gs ks with
      | none => rfl
      | some ks' =>
        rcases List.mem_cons.mp h with e | h
        · rw [← e, hd] at q; cases q
        · exact runR_bad hd h
/-- good as walked: no game twice -/
theorem runR_nd {c : Int} : ∀ {R : List (List Gm)} {ks : List (List Int)}, runR c (R.map gsD) ks = true → (R.flatten.map key).Nodup ∧ ∀ g ∈ R.flatten, key g ∉ ks
  | [], _, _ => ⟨List.nodup_nil, fun _ z => nomatch z⟩
  | gs :: R, ks, h => by
    rw [List.map_cons] at h
    unfold runR at h
    cases q : roundO c (gsD gs) with
    | none => rw [q] at h; cases h
    | some gs' =>
      rw [q] at h
      have e : gs = gs' := by
        have z := (runG_eq (show runG c (gs.map tup2) [] = some gs' from q)).1
        have w := pairs_gs gs
        rw [z, pairs_gs] at w
        exact (Option.some.inj w).symm
      subst e
      dsimp only at h
      cases q2 : putG gs ks with
      | none => rw [q2] at h; cases h
      | some ks' =>
        rw [q2] at h
        obtain ⟨a, b, c'⟩ := putG_some q2
        obtain ⟨d1, d2⟩ := runR_nd (R := R) h
        rw [List.flatten_cons, List.map_append]
        refine ⟨List.nodup_append.mpr ⟨a, d1, fun x hx y hy exy => ?_⟩, fun g hg => ?_⟩
        · obtain ⟨g, hg, rfl⟩ := List.mem_map.mp hy
          exact d2 g hg ((c' _).mpr (.inl (by rw [← exy]; exact hx)))
        · rcases List.mem_append.mp hg with hg | hg
          · exact b g hg
          · exact fun z => d2 g hg ((c' _).mpr (.inr z))
theorem key_nd : ∀ {gs : List Gm}, gs.Nodup → (gs.map key).Nodup
  | [], _ => List.nodup_nil
  | g :: gs, h => by
    obtain ⟨a, b⟩ := List.nodup_cons.mp h
    rw [List.map_cons]
    refine List.nodup_cons.mpr ⟨fun z => ?_, key_nd b⟩
    obtain ⟨x, hx, e⟩ := List.mem_map.mp z
    rw [← key_inj e] at a
    exact a hx
theorem runR_of {c : Int} : ∀ {R : List (List Gm)} {ks : List (List Int)}, (∀ gs ∈ R, GoodR c gs) → R.flatten.Nodup → (∀ g ∈ R.flatten, key g ∉ ks) → runR c (R.map gsD) ks = true
  | [], _, _, _, _ => rfl
  | gs :: R, ks, h, nd, hk => by
    rw [List.flatten_cons] at nd hk
    obtain ⟨n1, n2, n3⟩ := List.nodup_append.mp nd
    obtain ⟨ks', e⟩ := putG_of (key_nd n1) fun g hg => hk g (List.mem_append_left _ hg)
    rw [List.map_cons]
    unfold runR
    rw [roundO_gs (h gs List.mem_cons_self)]
    dsimp only
    rw [e]
    refine runR_of (fun x hx => h x (List.mem_cons_of_mem _ hx)) n2 fun g hg z => ?_
    rcases ((putG_some e).2.2 _).mp z with z | z
    · obtain ⟨x, hx, e⟩ := List.mem_map.mp z
      exact n3 x hx g hg (key_inj e)
    · exact hk g (List.mem_append_right _ hg) z
theorem roundsB_good {c : Int} {R : List (List Gm)} (G : GoodRs c R) : roundsB c (rsD R) = true := by
  show (decide ((R.map gsD).length ≤ 40) && runR c (R.map gsD) []) = true
  rw [List.length_map, decide_eq_true G.few, runR_of G.all G.once (fun _ _ z => by cases z)]
  rfl
/-! ### types of any data -/
def tkD (x : D) : Prop := plain x = true ∨ x = .dict []
theorem tyIs_at {T : String} {f : Ev → Res D} {r : Ev} {x : D} (h : f r = .ok x) (hp : tkD x) : sTyIs T f r = .ok (.bool (decide (tyD x = T))) := by
  unfold sTyIs
  rw [h]
  rcases hp with hp | rfl
  · show (if plain x = true then _ else _) = _
    exact if_pos hp
  · rfl
theorem tyNot_at {T : String} {f : Ev → Res D} {r : Ev} {x : D} (h : f r = .ok x) (hp : tkD x) : sTyNot T f r = .ok (tyD x != T) := by
  unfold sTyNot
  rw [h]
  rcases hp with hp | rfl
  · show (if plain x = true then _ else _) = _
    exact if_pos hp
  · rfl
theorem tkD.pl2 {x y : D} (h : tkD (.tuple [x, y])) : tkD x ∧ tkD y := by
  rcases h with h | h
  · have h' : (plain x && (plain y && true)) = true := h
    rw [Bool.and_eq_true, Bool.and_eq_true] at h'
    exact ⟨.inl h'.1, .inl h'.2.1⟩
  · cases h
theorem tkD.list {ds : List D} (h : tkD (.list ds)) : ∀ d ∈ ds, tkD d := by
  rcases h with h | h
  · have h' : plainL ds = true := h
    clear h
    induction ds with
    | nil => exact fun _ z => nomatch z
    | cons d ds ih =>
      have h2 : (plain d && plainL ds) = true := h'
      rw [Bool.and_eq_true] at h2
      intro x hx
      rcases List.mem_cons.mp hx with e | hx
      · rw [e]; exact .inl h2.1
      · exact ih h2.2 x hx
  · cases h
end Dn

set_option Elab.async false
set_option linter.all false
set_option maxRecDepth 100000
set_option maxHeartbeats 4000000
namespace Dn
open PySem PySem.Spec PyProof.Rows L2
/-- a law's beginning, no table known -/
theorem law_start0 [En] {K : PySem.W.Frag} {cl : Nat → Addr} {H : Hp} {a : Addr} {ns : List Int} {o : List D → Res D} (ht : ∀ p, ¬ En.tb p) (hS : SqL K H a (ns.map V.int)) (h : o [scrD ns] = .ok (.bool true)) :
    spX K cl 1 o [.ref a] H (fun v _ => v = .bl true) fun _ _ _ => False := by
  refine ⟨[scrD ns], H, rfl, ⟨⟨a, rfl, .inr (.inl ⟨ns, rfl, hS⟩)⟩, True.intro⟩, Same.refl H, fun p hp => absurd hp (ht p), by rw [h]; exact fun v H' F' _ s => s⟩
end Dn

set_option Elab.async false
set_option linter.all false
set_option maxRecDepth 100000
set_option maxHeartbeats 4000000
namespace Dn
open PySem PySem.Spec PyProof.Rows L2
variable [En]
/-! ### texts -/
def strsO : List D → Option (List Str)
  | [] => some []
  | .str x :: r => (strsO r).map (x :: ·)
  | _ :: _ => none
theorem strsO_eq : ∀ {ds : List D} {xs : List Str}, strsO ds = some xs → ds = xs.map .str
  | [], xs, h => by
    have e : [] = xs := Option.some.inj h
    rw [← e]; rfl
  | .str x :: r, xs, h => by
    have h' : (strsO r).map (x :: ·) = some xs := h
    cases q : strsO r with
    | none => rw [q] at h'; cases h'
    | some ys =>
      rw [q] at h'
      have e : x :: ys = xs := Option.some.inj h'
      rw [← e, strsO_eq q]; rfl
theorem strsO_map : ∀ xs : List Str, strsO (xs.map .str) = some xs
  | [] => rfl
  | x :: xs => by
    show (strsO (xs.map .str)).map (x :: ·) = _
    rw [strsO_map xs]; rfl
theorem sees_strs {K : PySem.W.Frag} {F : Hp} : ∀ {xs : List Str} {vs : List V}, SeesL K F (xs.map .str) vs → vs = xs.map V.str
  | [], [], _ => rfl
  | [], _ :: _, h => h.elim
  | _ :: _, [], h => h.elim
  | x :: xs, v :: vs, h => by
    have e : v = V.str x := h.1
    rw [e, sees_strs h.2]
    rfl
def oJoin : D → D → Res D
  | .str a, .list ds => match strsO ds with
    | some ys => if (ys.map (·.length)).sum + ys.length * a.length ≤ 1000000 then .ok (.str (Txt.join a ys)) else .bad
    | none => .bad
  | _, _ => .bad
section
variable {X : Cx} {cl : Nat → Addr} {W : WX} {e o a b : Expr} {pos apos : Pos} {K : PySem.W.Frag}
theorem de_join {s : Str} {j : Nat} {p0 : Pos} {g : Ev → Res D} (he : DE X cl W e g) (hs : starEach [e] X.env = [(false, eval e X.env)] := by rfl) (hbase : attributeBase (.Constant (.str s) j p0) "join" X.env (eval (.Constant (.str s) j p0) X.env) = eval (.Constant (.str s) j p0) X.env := by rfl) (hline : (apos.endLine == pos.line) = true := by rfl) :
    DE X cl W (.Call (.Attribute (.Constant (.str s) j p0) "join" apos) [e] [] pos) (s2 oJoin (sC (.str s)) g) := PE_imp (pe_join pe_str he hs hbase hline) fun σ H Q q => by
  obtain ⟨H0, F0, ρ, F, A, R, p⟩ := q
  refine ⟨⟨s, rfl⟩, ⟨H0, F0, ρ, F, A, R, ?_⟩⟩
  have p0 : Post (SD X.K) cl W σ H F ((g ρ).bind fun y => oJoin (.str s) y) Q := p
  refine (Post.bind (S := SD X.K) p0).imp fun v H1 ⟨F1, y, _, g1, s1, p1⟩ => ?_
  cases y with
  | list ds =>
    have p2 : Post (SD X.K) cl W σ H1 F1 (match strsO ds with | some ys => if (ys.map (·.length)).sum + ys.length * s.length ≤ 1000000 then .ok (.str (Txt.join s ys)) else .bad | none => .bad) Q := p1
    cases r : strsO ds with
    | none => rw [r] at p2; exact p2.elim
    | some ys =>
      rw [r] at p2
      dsimp only at p2
      by_cases hl : (ys.map (·.length)).sum + ys.length * s.length ≤ 1000000
      · rw [if_pos hl] at p2
        rw [strsO_eq r] at s1
        obtain ⟨l, xs, rfl, hl1, hs1⟩ := s1
        have e := sees_strs hs1
        subst e
        exact ⟨s, l, ys, rfl, rfl, .inl (SqL.of (g1.fh _ _ hl1)), by omega, Post.now (S := SD X.K) g1.fh p2 rfl⟩
      · rw [if_neg hl] at p2
        exact p2.elim
  | _ => exact p1.elim
/-- f'{a}s{b}', a, b whole numbers -/
def fs3 (i : Int) (s : Str) (j : Int) : Str := Str.empty ++ (toString i : String) ++ s ++ (toString j : String)
def oFsA (s : Str) (i : Int) : Bool := decide (i.natAbs.log2 < 1920) && decide ((Str.empty ++ ((toString i : String) : Str)).length ≤ 1000) && decide ((Str.empty ++ ((toString i : String) : Str) ++ s).length ≤ 1000)
def oFsB (s : Str) (i : Int) : D → Res D
  | .int k => if k.natAbs.log2 < 1920 ∧ (fs3 i s k).length ≤ 1000 then .ok (.str (fs3 i s k)) else .bad
  | _ => .bad
def sFs3 (s : Str) (f g : Ev → Res D) : Ev → Res D := fun ρ => (f ρ).bind fun x => match x with
  | .int i => if oFsA s i = true then (g ρ).bind (oFsB s i) else .bad
  | _ => .bad
theorem line1000 {n : Nat} (h : n ≤ 1000) : n ≤ sizeLine := by
  rw [sizeLine_eq]
  omega
theorem de_fs3 {s : Str} {j : Nat} {p1 p2 p3 : Pos} {f g : Ev → Res D} (ha : DE X cl W a f) (hb : DE X cl W b g) : DE X cl W (.JoinedStr [.FormattedValue a (-1) none p1, .Constant (.str s) j p2, .FormattedValue b (-1) none p3] pos) (sFs3 s f g) := PE_imp (pe_joined (PJ.cons (pe_fmt ha) (PJ.cons pe_str (PJ.cons (pe_fmt hb) PJ.nil)))) fun σ H Q q => by
  obtain ⟨H0, F0, ρ, F, A, R, p⟩ := q
  refine ⟨H0, F0, ρ, F, A, R, (Post.bind (S := SD X.K) p).imp fun v H1 ⟨F1, x, _, g1, s1, p1⟩ => ?_⟩
  cases x with
  | int i =>
    have p0 : Post (SD X.K) cl W σ H1 F1 (if oFsA s i = true then (g ρ).bind (oFsB s i) else .bad) Q := p1
    by_cases hi : oFsA s i = true
    · rw [if_pos hi] at p0
      unfold oFsA at hi
      rw [Bool.and_eq_true, Bool.and_eq_true, decide_eq_true_eq, decide_eq_true_eq, decide_eq_true_eq] at hi
      obtain ⟨⟨h1, h2⟩, h3⟩ := hi
      refine .inr ⟨i, s1, h1, _, rfl, line1000 h2, _, rfl, line1000 h3, H0, F0, ρ, F1, A, R.grow g1, (Post.bind (S := SD X.K) p0).imp fun u H2 ⟨F2, y, _, g2, s2, p2⟩ => ?_⟩
      cases y with
      | int k =>
        have p3 : Post (SD X.K) cl W σ H2 F2 (if k.natAbs.log2 < 1920 ∧ (fs3 i s k).length ≤ 1000 then .ok (.str (fs3 i s k)) else .bad) Q := p2
        by_cases hk : k.natAbs.log2 < 1920 ∧ (fs3 i s k).length ≤ 1000
        · rw [if_pos hk] at p3
          exact .inr ⟨k, s2, hk.1, _, rfl, line1000 hk.2, Post.now (S := SD X.K) g2.fh p3 rfl⟩
        · rw [if_neg hk] at p3
          exact p3.elim
      | _ => exact p2.elim
    · rw [if_neg hi] at p0
      exact p0.elim
  | _ => exact p1.elim
end
end Dn

set_option Elab.async false
set_option linter.all false
set_option maxRecDepth 100000
set_option maxHeartbeats 4000000
namespace Dn
open PySem PySem.Spec PyProof.Rows L2
variable [En]
/-! ### defs that are given a tree, and change it -/
def hideL (H : Hp) (as : List Addr) : Hp := fun x => if x ∈ as then none else H x
inductive MRes where
  | ok (t : OT) (d : D)
  | ex (c : Nat) (t : OT)
  | bad
def PostM (K : PySem.W.Frag) (cl : Nat → Addr) (E : XK) (a : Addr) (H0 F : Hp) (r : MRes) (Q : VK) : Prop := match r with
  | .ok t d => ∀ u as H' F', Gr H0 F H' F' → OwnT K F' H' t (.ref a) as → as.Nodup → (∀ x ∈ as, H0 x = none ∧ F' x = none) → Sees K F' d u → Q u H'
  | .ex c t => ∀ as H' F', Gr H0 F H' F' → OwnT K F' H' t (.ref a) as → as.Nodup → (∀ x ∈ as, H0 x = none ∧ F' x = none) → E (.ref (cl c)) none H'
  | .bad => False
/-- the tree stands in the place i of the arguments -/
def spM (K : PySem.W.Frag) (cl : Nat → Addr) (n i : Nat) (o : Addr → OT → List D → MRes) : Sp := fun vs H Q E => ∃ ds F t a as, vs.length = n ∧ vs[i]? = some (.ref a) ∧ OwnT K F H t (.ref a) as ∧ as.Nodup ∧ (∀ x ∈ as, F x = none) ∧ SeesL K F ds (vs.set i .non) ∧ Same F H ∧ TOk H F ∧ PostM K cl E a (hideL H as) F (o a t ds) Q
def cellT : Option C → Option (Addr × OT)
  | some (.at a t) => some (a, t)
  | _ => none
def opM (N : List Str) (i : Nat) (g : Ev → Out) (a : Addr) (t : OT) (ds : List D) : MRes := match g ((rho0 N ds).set i (.at a t)) with
  | .nx ρ' => (match cellT ρ'[i]? with
    | some (a', t') => if a' = a then .ok t' .none else .bad
    | none => .bad)
  | .rs d ρ' => (match cellT ρ'[i]? with
    | some (a', t') => if a' = a then .ok t' d else .bad
    | none => .bad)
  | .ex c ρ' => (match cellT ρ'[i]? with
    | some (a', t') => if a' = a then .ex c t' else .bad
    | none => .bad)
  | _ => .bad
section
variable {K : PySem.W.Frag} {P : Program} {w : World} {cl : Nat → Addr} {F F' H H' H0 F0 : Hp} {σ : L2.St} {A : Nat → List Addr} {ρ : Ev}
theorem cellT_eq {c : Option C} {a : Addr} {t : OT} (h : cellT c = some (a, t)) : c = some (.at a t) := by
  unfold cellT at h
  split at h
  · cases h
    rfl
  · cases h
theorem hide_in {as : List Addr} {x : Addr} (h : x ∈ as) : hideL H as x = none := if_pos h
theorem hide_out {as : List Addr} {x : Addr} (h : x ∉ as) : hideL H as x = H x := if_neg h
theorem hide_same {as : List Addr} (e : Same F H) (h : ∀ x ∈ as, F x = none) : Same F (hideL H as) := fun a o q => by
  rw [hide_out fun z => by rw [h a z] at q; cases q]
  exact e _ _ q
theorem hide_t {as : List Addr} : SameT (hideL H as) H := fun a o q => by
  by_cases h : a ∈ as
  · rw [hide_in h] at q; cases q
  · rw [hide_out h] at q; exact .inl q
theorem Rep.at_cell {i : Nat} {a : Addr} {t : OT} (R : Rep K P w H0 F0 ρ σ H F A) (h : ρ[i]? = some (.at a t)) : ∃ bs, OwnT K F H t (.ref a) bs ∧ bs.Nodup ∧ (∀ x ∈ bs, x ∈ A i) ∧ ∀ x ∈ bs, H0 x = none ∧ F x = none := by
  obtain ⟨bs, h1, h2, _, h4⟩ := R.cel i _ h
  exact ⟨bs, h4, h2, h1, fun x hx => ⟨(R.fr i x (h1 x hx)).2.1, (R.fr i x (h1 x hx)).1⟩⟩
theorem start_set {N : List Str} {vs : List V} {i : Nat} {v : V} (h : i < vs.length) : L2.start N (vs.set i v) = (L2.start N vs).set i (some v) := by
  unfold L2.start
  rw [List.length_set, List.map_set, List.set_append_left _ _ (by rw [List.length_map]; exact h)]
theorem rep_startM {N : List Str} {ds : List D} {vs : List V} {i : Nat} {a : Addr} {t : OT} {as : List Addr} (e : Same F H) (tk : TOk H F) (s : SeesL K F ds (vs.set i .non)) (hi : vs[i]? = some (.ref a)) (o : OwnT K F H t (.ref a) as) (nd : as.Nodup) (hF : ∀ x ∈ as, F x = none) :
    Rep K P w (hideL H as) F ((rho0 N ds).set i (.at a t)) (L2.start N vs) H F (setA (fun _ => []) i as) := by
  have tk2 : TOk (hideL H as) F := fun p hp => by
    obtain ⟨h1, ps, h2, h3⟩ := tk p hp
    refine ⟨h1, ps, ?_, h3⟩
    rw [hide_out fun z => ?_]
    · exact h2
    · exact (own_there o p z).2 (by rw [h2]; exact True.intro)
  have li : i < vs.length := (List.getElem?_eq_some_iff.mp hi).1
  have R0 := rep_start (P := P) (w := w) (N := N) e tk s
  have R1 : Rep K P w (hideL H as) F (rho0 N ds) (L2.start N (vs.set i .non)) H F (fun _ => []) := ⟨⟨Same.refl _, hide_t, e, fun x h => .inl h⟩, R0.len, R0.cel, fun _ _ z => (nomatch z), fun _ _ _ z => (nomatch z), tk2⟩
  have R2 := R1.store (i := i) (c := .at a t) (v := .ref a) (as := as) ⟨as, fun _ h => h, nd, rfl, o⟩ (fun x hx => ⟨hF x hx, hide_in hx, own_there o x hx⟩) (fun j x _ z => (nomatch z))
  rw [start_set li, List.set_set] at R2
  have e2 : (L2.start N vs).set i (some (.ref a)) = L2.start N vs := by
    refine set_same ?_
    unfold L2.start
    rw [List.getElem?_append_left (by rw [List.length_map]; exact li), List.getElem?_map, hi]
    rfl
  rw [e2] at R2
  exact R2
variable {mg : Str → Option Value} {base : Heap} {x qual : Str} {st : Stmt} {f : Addr} {fd : FuncData} {N ps : List Str} {k : Nat} {g : Ev → Out}
/-- a def whose argument i is a tree, by its body's judgement -/
theorem fnM {n i : Nat} (Fn : Fun K x qual st f fd) (S : FnScope N ps (defScope st)) (hn : ps.length = n)
    (hb : ∀ (cdv : Value) (A : Around) (outer : List Env) (s : Shared) (H : Hp) (E : XK), Room k (A.deeper (envOfC qual (defScope st) s.heap.objs.size f cdv)) → DSs (cxOf (L2.CX P w) P w K mg base N qual (defScope st) f cdv A outer s H E) cl (WofE E) (defBody st) g) :
    FnOk P w K mg base (L2.CX P w) (k + 1) f fd ps (spM K cl n i (opM N i g)) := by
  refine Fn.okX S (fun vs H Q E h => ?_) fun cdv A outer s H vs Q E hr h => ⟨_, hb cdv A outer s H E hr, ?_⟩
  · obtain ⟨ds, F, t, a, as, h1, _⟩ := h
    rw [h1, hn]
  · obtain ⟨ds, F, t, a, as, h1, h2, h3, h4, h5, h6, h7, h8, p⟩ := h
    refine ⟨hideL H as, F, _, F, _, rep_startM h7 h8 h6 h2 h3 h4 h5, ?_⟩
    unfold opM at p
    show Fin K P w cl (WofE E) (hideL H as) F _ (g ((rho0 N ds).set i (.at a t)))
    cases q : g ((rho0 N ds).set i (.at a t)) with
    | nx ρ' =>
      rw [q] at p
      intro σ' H' F' A' R
      cases r : cellT ρ'[i]? with
      | none => 
        have p' : PostM K cl E a (hideL H as) F (match cellT ρ'[i]? with | some (a', t') => if a' = a then .ok t' .none else .bad | none => .bad) Q := p
        rw [r] at p'
        exact p'.elim
      | some at' =>
        obtain ⟨a', t'⟩ := at'
        have p' : PostM K cl E a (hideL H as) F (match cellT ρ'[i]? with | some (a', t') => if a' = a then .ok t' .none else .bad | none => .bad) Q := p
        rw [r] at p'
        have p2 : PostM K cl E a (hideL H as) F (if a' = a then .ok t' .none else .bad) Q := p'
        by_cases ea : a' = a
        · rw [if_pos ea] at p2
          subst ea
          obtain ⟨bs, b1, b2, _, b3⟩ := R.at_cell (cellT_eq r)
          exact p2 .non bs H' F' R.base b1 b2 b3 rfl
        · rw [if_neg ea] at p2
          exact p2.elim
    | rs d ρ' =>
      rw [q] at p
      intro v σ' H' F' A' R sv
      have p' : PostM K cl E a (hideL H as) F (match cellT ρ'[i]? with | some (a', t') => if a' = a then .ok t' d else .bad | none => .bad) Q := p
      cases r : cellT ρ'[i]? with
      | none => rw [r] at p'; exact p'.elim
      | some at' =>
        obtain ⟨a', t'⟩ := at'
        rw [r] at p'
        have p2 : PostM K cl E a (hideL H as) F (if a' = a then .ok t' d else .bad) Q := p'
        by_cases ea : a' = a
        · rw [if_pos ea] at p2
          subst ea
          obtain ⟨bs, b1, b2, _, b3⟩ := R.at_cell (cellT_eq r)
          exact p2 v bs H' F' R.base b1 b2 b3 sv
        · rw [if_neg ea] at p2
          exact p2.elim
    | ex c ρ' =>
      rw [q] at p
      intro σ' H' F' A' R
      have p' : PostM K cl E a (hideL H as) F (match cellT ρ'[i]? with | some (a', t') => if a' = a then .ex c t' else .bad | none => .bad) Q := p
      cases r : cellT ρ'[i]? with
      | none => rw [r] at p'; exact p'.elim
      | some at' =>
        obtain ⟨a', t'⟩ := at'
        rw [r] at p'
        have p2 : PostM K cl E a (hideL H as) F (if a' = a then .ex c t' else .bad) Q := p'
        by_cases ea : a' = a
        · rw [if_pos ea] at p2
          subst ea
          obtain ⟨bs, b1, b2, _, b3⟩ := R.at_cell (cellT_eq r)
          exact p2 bs H' F' R.base b1 b2 b3
        · rw [if_neg ea] at p2
          exact p2.elim
    | rt d => rw [q] at p; exact p.elim
    | rn d => rw [q] at p; exact p.elim
    | rn2 d => rw [q] at p; exact p.elim
    | rd _ => rw [q] at p; exact p.elim
    | bk _ => rw [q] at p; exact p.elim
    | ct _ => rw [q] at p; exact p.elim
    | bad => rw [q] at p; exact p.elim
end
/-! ### a season's fields -/
def pairA : D → Option (Int × Int)
  | .tuple [.int a, .int b] => some (a, b)
  | _ => none
def mapO {α β : Type} (f : α → Option β) : List α → Option (List β)
  | [] => some []
  | x :: xs => match f x, mapO f xs with
    | some y, some ys => some (y :: ys)
    | _, _ => none
def roundO' : D → Option (List (Int × Int))
  | .list ds => mapO pairA ds
  | _ => none
def stageO : D → Option (List (List (Int × Int)))
  | .list ds => mapO roundO' ds
  | _ => none
theorem mapO_eq {α β : Type} {f : α → Option β} {g : β → α} (h : ∀ x y, f x = some y → x = g y) : ∀ {xs : List α} {ys : List β}, mapO f xs = some ys → xs = ys.map g
  | [], ys, e => by
    have e : [] = ys := Option.some.inj e
    rw [← e]; rfl
  | x :: xs, ys, e => by
    have e' : (match f x, mapO f xs with | some y, some ys => some (y :: ys) | _, _ => none) = some ys := e
    cases q : f x with
    | none => rw [q] at e'; cases e'
    | some y =>
      cases q2 : mapO f xs with
      | none => rw [q, q2] at e'; cases e'
      | some zs =>
        rw [q, q2] at e'
        have e2 : y :: zs = ys := Option.some.inj e'
        rw [← e2, h x y q, mapO_eq h q2]
        rfl
theorem mapO_map {α β : Type} {f : α → Option β} {g : β → α} (h : ∀ y, f (g y) = some y) : ∀ ys : List β, mapO f (ys.map g) = some ys
  | [] => rfl
  | y :: ys => by
    show (match f (g y), mapO f (ys.map g) with | some y, some ys => some (y :: ys) | _, _ => none) = _
    rw [h, mapO_map h ys]
theorem pairA_eq {d : D} {g : Int × Int} (h : pairA d = some g) : d = gmA g := by
  unfold pairA at h
  split at h
  · have e := Option.some.inj h
    rw [← e]; rfl
  · cases h
theorem roundO'_eq {d : D} {g : List (Int × Int)} (h : roundO' d = some g) : d = rdA g := by
  cases d with
  | list ds =>
    show PyData.list ds = PyData.list _
    rw [mapO_eq (fun _ _ => pairA_eq) (show mapO pairA ds = some g from h)]
  | _ => cases h
theorem stageO_eq {d : D} {g : List (List (Int × Int))} (h : stageO d = some g) : d = stA g := by
  cases d with
  | list ds =>
    show PyData.list ds = PyData.list _
    rw [mapO_eq (fun _ _ => roundO'_eq) (show mapO roundO' ds = some g from h)]
  | _ => cases h
theorem stageO_st (R : List (List (Int × Int))) : stageO (stA R) = some R := mapO_map (f := roundO') (g := rdA) (fun gs => mapO_map (f := pairA) (g := gmA) (fun _ => rfl) gs) R
section
variable {K : PySem.W.Frag} {F : Hp}
theorem gs_of : ∀ {gs : List (Int × Int)} {vs : List V}, SeesL K F (gs.map gmA) vs → SeesGs F gs vs
  | [], [], _ => True.intro
  | [], _ :: _, h => h.elim
  | _ :: _, [], h => h.elim
  | g :: gs, v :: vs, h => by
    obtain ⟨⟨a, xs, e1, e2, e3⟩, h2⟩ := h
    exact ⟨⟨a, e1, by rw [e2, two_of e3 rfl]⟩, gs_of h2⟩
theorem of_gs : ∀ {gs : List (Int × Int)} {vs : List V}, SeesGs F gs vs → SeesL K F (gs.map gmA) vs
  | [], [], _ => True.intro
  | [], _ :: _, h => h.elim
  | _ :: _, [], h => h.elim
  | g :: gs, v :: vs, h => by
    obtain ⟨⟨a, e1, e2⟩, h2⟩ := h
    exact ⟨⟨a, _, e1, e2, rfl, rfl, True.intro⟩, of_gs h2⟩
theorem rds_of : ∀ {gs : List (List (Int × Int))} {vs : List V}, SeesL K F (gs.map rdA) vs → SeesRds F gs vs
  | [], [], _ => True.intro
  | [], _ :: _, h => h.elim
  | _ :: _, [], h => h.elim
  | g :: gs, v :: vs, h => by
    obtain ⟨⟨a, xs, e1, e2, e3⟩, h2⟩ := h
    exact ⟨⟨a, xs, e1, e2, gs_of e3⟩, rds_of h2⟩
theorem of_rds : ∀ {gs : List (List (Int × Int))} {vs : List V}, SeesRds F gs vs → SeesL K F (gs.map rdA) vs
  | [], [], _ => True.intro
  | [], _ :: _, h => h.elim
  | _ :: _, [], h => h.elim
  | g :: gs, v :: vs, h => by
    obtain ⟨⟨a, xs, e1, e2, e3⟩, h2⟩ := h
    exact ⟨⟨a, xs, e1, e2, of_gs e3⟩, of_rds h2⟩
theorem st_of {R : List (List (Int × Int))} {v : V} (h : Sees K F (stA R) v) : SeesSt F R v := by
  obtain ⟨a, xs, e1, e2, e3⟩ := h
  exact ⟨a, xs, e1, e2, rds_of e3⟩
theorem of_st {R : List (List (Int × Int))} {v : V} (h : SeesSt F R v) : Sees K F (stA R) v := by
  obtain ⟨a, xs, e1, e2, e3⟩ := h
  exact ⟨a, xs, e1, e2, of_rds e3⟩
theorem of_sts : ∀ {Rs : List (List (List (Int × Int)))} {vs : List V}, SeesSts F Rs vs → SeesL K F (Rs.map stA) vs
  | [], [], _ => True.intro
  | [], _ :: _, h => h.elim
  | _ :: _, [], h => h.elim
  | R :: Rs, v :: vs, h => ⟨of_st h.1, of_sts h.2⟩
theorem sts_app : ∀ {Rs Ss : List (List (List (Int × Int)))} {vs ws : List V}, SeesSts F Rs vs → SeesSts F Ss ws → SeesSts F (Rs ++ Ss) (vs ++ ws)
  | [], _, [], _, _, h => h
  | [], _, _ :: _, _, h, _ => h.elim
  | _ :: _, _, [], _, h, _ => h.elim
  | _ :: _, _, _ :: _, _, h, h' => ⟨h.1, sts_app h.2 h'⟩
end
/-- self._clubs = e -/
def gFld0 (i : Nat) (f : Ev → Res D) : Ev → Out := fun ρ => thenO (f ρ) ρ fun d => match ρ[i]?, d with
  | some (.at a .ins0), .int c => .nx (ρ.set i (.at a (.ins1 c)))
  | _, _ => .bad
/-- self._stages = [e] -/
def gFld1 (i : Nat) (f : Ev → Res (List D)) : Ev → Out := fun ρ => thenO (f ρ) ρ fun ds => match ρ[i]?, ds with
  | some (.at a (.ins1 c)), [d] => (match stageO d with
    | some R => if 0 ≤ c then .nx (ρ.set i (.at a (.ssn c.toNat [R]))) else .bad
    | none => .bad)
  | _, _ => .bad
section
variable {X : Cx} {cl : Nat → Addr} {W : WX} {e o : Expr} {pos pos' : Pos}
theorem ds_fld0 {i : Nat} {f : Ev → Res D} (hC : Cls X.K En.sc) (hA : NoAttr X.K En.sc "_clubs") (ho : PE X o (tVar i)) (he : DE X cl W e f) (hs : swapsWith e (some (.Attribute o "_clubs" pos')) pos.line X.env = pure false := by rfl) : DS X cl W (.Assign [.Attribute o "_clubs" pos'] e pos) (gFld0 i f) := PS_imp (ps_fld ho he hs) fun De σ H q => by
  obtain ⟨H0, F0, ρ, F, A, R, p⟩ := q
  refine ⟨H0, F0, ρ, F, A, R, fin_ex (S := SD X.K) R p fun d v H1 F1 hfr g s q => ?_⟩
  have R1 := R.grow g
  split at q
  · rename_i a c hq
    obtain ⟨bs, h1, h2, h3, p', dx, e1, rfl, h5, h6⟩ := R1.cel i _ hq
    injection e1 with e1
    subst e1
    have e3 : v = V.int c := s
    subst e3
    refine ⟨.ref a, R1.get h3, a, En.sc, dx, [], rfl, h5, hC, hA, by decide, ?_⟩
    have nd := (List.nodup_cons.mp h2).1
    have ne : dx ≠ a := fun z => nd (by rw [z]; exact List.mem_cons_self)
    exact q _ _ _ _ (R1.change (c' := .at a (.ins1 c)) (p := a) (h1 a List.mem_cons_self) (fun z => z) ⟨[a, dx], h1, h2, h3, a, dx, rfl, rfl, upd_same, by rw [upd_ne ne]; exact h6⟩)
  · exact q.elim
theorem ds_fld1 {i : Nat} {f : Ev → Res (List D)} (hC : Cls X.K En.sc) (hA : NoAttr X.K En.sc "_stages") (ho : PE X o (tVar i)) (he : DN X cl W e f) (hs : swapsWith e (some (.Attribute o "_stages" pos')) pos.line X.env = pure false := by rfl) : DS X cl W (.Assign [.Attribute o "_stages" pos'] e pos) (gFld1 i f) := PS_imp (ps_fld ho he hs) fun De σ H q => by
  obtain ⟨H0, F0, ρ, F, A, R, p⟩ := q
  refine ⟨H0, F0, ρ, F, A, R, fin_exO R p fun ds l xs H1 F1 hfr g hl1 hl2 hl3 s q => ?_⟩
  have R1 := R.grow g
  split at q
  · rename_i a c d hq
    cases r : stageO d with
    | none => rw [r] at q; exact q.elim
    | some Rr =>
      rw [r] at q
      have q2 : Fin X.K X.prog X.w cl W H0 F0 De (if 0 ≤ c then .nx (ρ.set i (.at a (.ssn c.toNat [Rr]))) else .bad) := q
      by_cases hc : 0 ≤ c
      · rw [if_pos hc] at q2
        obtain ⟨bs, h1, h2, h3, p', dx, e1, rfl, h5, h6⟩ := R1.cel i _ hq
        injection e1 with e1
        subst e1
        refine ⟨.ref a, R1.get h3, a, En.sc, dx, [("_clubs", .int c)], rfl, h5, hC, hA, by show 1 < 1000; decide, ?_⟩
        have nd := (List.nodup_cons.mp h2).1
        have ne : dx ≠ a := fun z => nd (by rw [z]; exact List.mem_cons_self)
        have la : l ≠ a := fun z => by rw [z] at hl3; rw [hl3] at h5; cases h5
        have ldx : l ≠ dx := fun z => by rw [z] at hl3; rw [hl3] at h6; cases h6
        rw [stageO_eq r] at s
        have s' : SeesSts F1 [Rr] xs := by
          cases xs with
          | nil => exact s.elim
          | cons v vs =>
            cases vs with
            | nil => exact ⟨st_of s.1, True.intro⟩
            | cons _ _ => exact s.2.elim
        -- the change of the instance, then the list is taken in
        have R2 := R1.change (i := i) (c' := .no) (p := a) (o := .ins En.sc dx [("_clubs", .int c), ("_stages", .ref l)]) (h1 a List.mem_cons_self) (fun z => z) True.intro
        have hl0 : H0 l = none := R.base.hh.free hl1
        have R3 := R2.store (i := i) (c := .at a (.ssn c.toNat [Rr])) (v := .ref a) (as := [a, dx, l]) ⟨[a, dx, l], fun _ h => h, by
          rw [List.nodup_cons, List.nodup_cons]
          refine ⟨fun z => ?_, fun z => ?_, by simp⟩
          · simp only [List.mem_cons, List.not_mem_nil, or_false] at z
            rcases z with z | z
            · exact ne z.symm
            · exact la z.symm
          · rw [List.mem_singleton] at z
            exact ldx z.symm, rfl, a, dx, l, xs, rfl, rfl, by rw [upd_same, Int.toNat_of_nonneg hc], by rw [upd_ne ne]; exact h6, by rw [upd_ne la]; exact hl3, s'⟩ (fun x hx => by
          simp only [List.mem_cons, List.not_mem_nil, or_false] at hx
          rcases hx with rfl | rfl | rfl
          · obtain ⟨f1, f2, _⟩ := R1.fr i x (h1 x List.mem_cons_self)
            exact ⟨f1, f2, by rw [upd_same]; exact fun z => (by cases z), by rw [upd_same]; exact fun z => z⟩
          · obtain ⟨f1, f2, f3, f4⟩ := R1.fr i x (h1 x (List.mem_cons_of_mem _ List.mem_cons_self))
            exact ⟨f1, f2, by rw [upd_ne ne]; exact f3, by rw [upd_ne ne]; exact f4⟩
          · exact ⟨hl2, hl0, by rw [upd_ne la, hl3]; exact fun z => (by cases z), by rw [upd_ne la, hl3]; exact fun z => z⟩) (fun j x hx hj => by
          simp only [List.mem_cons, List.not_mem_nil, or_false] at hx
          rcases hx with rfl | rfl | rfl
          · exact R1.dj j i x hj (h1 x List.mem_cons_self)
          · exact R1.dj j i x hj (h1 x (List.mem_cons_of_mem _ List.mem_cons_self))
          · exact absurd hj (R.notA hl1 j))
        rw [List.set_set] at R3
        have e2 : σ.set i (some (.ref a)) = σ := set_same (R1.get h3)
        rw [e2] at R3
        exact q2 _ _ _ _ R3
      · rw [if_neg hc] at q2
        exact q2.elim
  · exact q.elim
end
end Dn

set_option Elab.async false
set_option linter.all false
set_option maxRecDepth 100000
set_option maxHeartbeats 4000000
namespace Dn
open PySem PySem.Spec PyProof.Rows L2
variable [En]
/-! ### C(..), where C's __init__ may raise -/
section
variable {X : Cx} {k n : Nat} {f C : Addr} {fd : FuncData} {ps : List Str} {sp : Sp} {E : L2.St → XK} {x : Str} {p pos : Pos} {e : Expr} {es : List Expr} {t : TA} {cl : Nat → Addr} {W : WX}
theorem runMk {pins : List (Addr × Obj)} {σ : L2.St} {H : Hp} {s : Shared} {Q : VK} {us : List Value} {vs : List V} (m : Mk X.K C f) (G : FnOk X.prog X.w X.K X.mg X.base (L2.CX X.prog X.w) k f fd ps sp) (room : Room (k + 1) X.A) (hb : Binds X.K fd ps []) (hx : PassesAt (L2.CX X.prog X.w) X σ (E σ)) (J : Inv X pins σ H s) (rel : Vals vs us)
    (h : ∀ y dy, H y = none → H dy = none → dy ≠ y → sp (.ref y :: vs) (upd (upd H dy (.own y)) y (.ins C dy [])) (fun v H2 => v = .non ∧ Q (.ref y) H2) (E σ)) : wpAny (model X.prog X.w) X.A (call (.ref C) us) (EP X pins σ Q) X.xe s := by
  obtain ⟨y, hy⟩ : ∃ y, y = s.heap.objs.size + 1 := ⟨_, rfl⟩
  have q := h (s.heap.objs.size + 1) s.heap.objs.size (J.hok.fresh (Nat.le_succ _)) (J.hok.fresh (Nat.le_refl _)) (Nat.ne_of_lt (Nat.lt_succ_self _))
  have made := Inv.made (C := C) J
  have rel2 : Vals (V.ref (s.heap.objs.size + 1) :: vs) (Value.ref (s.heap.objs.size + 1) :: us) := .cons rfl rel
  have len : (Value.ref (s.heap.objs.size + 1) :: us).length = ps.length := rel2.length.symm.trans (G.len _ _ _ _ q)
  have bd := hb _ (Value.ref (s.heap.objs.size + 1) :: us) made.kIn (by rw [List.append_nil]; exact len)
  rw [List.append_nil] at bd
  have ran := G.run _ X.stack _ _ ⟨Value.ref (s.heap.objs.size + 1) :: us, []⟩ (Value.ref (s.heap.objs.size + 1) :: us) _ _ (E σ) (room.make C us []) (made.env0.make C us []) bd rel2 q
  apply wpAny_call
  apply make_map (f := f) J.kIn m.makes m.init (beq_iff_eq.mp m.fn)
  refine codeAny_mono ran fun r s2 out => ?_
  match r, out with
  | .error er, out => exact hx pins _ _ er s2 made out
  | .ok (.ret u), out =>
    obtain ⟨v, H3, J3, rv, ev, w⟩ := made.after out
    subst ev
    exact ⟨rv, ⟨V.ref (s.heap.objs.size + 1), H3, J3, rfl, w⟩⟩
  | .ok .next, out => exact out.elim
  | .ok .brk, out => exact out.elim
  | .ok .cont, out => exact out.elim
def tMakeS (C : Addr) (sp : Sp) (E : L2.St → XK) (t : TA) : TE := fun σ H Q => t σ H fun vs H1 => ∀ y dy, H1 y = none → H1 dy = none → dy ≠ y → sp (.ref y :: vs) (upd (upd H1 dy (.own y)) y (.ins C dy [])) (fun v H2 => v = .non ∧ Q (.ref y) H2) (E σ)
theorem pe_makeS (m : Mk X.K C f) (G : FnOk X.prog X.w X.K X.mg X.base (L2.CX X.prog X.w) k f fd ps sp) (room : Room (k + 1) X.A) (hg : Gl X x) (hm : X.mg x = some (.ref C)) (hb : Binds X.K fd ps []) (hx : ∀ σ, PassesAt (L2.CX X.prog X.w) X σ (E σ))
    (ha : PA X (e :: es) t) (hdb : (x == ("__debug__" : Str)) = false := by decide) (he : starEach (e :: es) X.env = (false, eval e X.env) :: starEach es X.env := by rfl) (hpl : (backTo pos (starEach es X.env)).any (·.1) = false := by rfl) :
    PE X (.Call (.Name x p) (e :: es) [] pos) (tMakeS C sp E t) := by
  constructor
  intro pins s σ H Q J h
  apply wpAny_Call_Name_kw (ld_glob J hg hm _ hdb)
  refine PySem.W.callWith_K (h₀ := X.base) J.ok.mod.kin m.kp (thn (ha.run pos pins s σ H _ J h) ?_) he hpl
  rintro us s1 ⟨vs, H1, J1, rel, q⟩
  exact ⟨J1.kIn, runMk m G room hb (hx σ) J1 rel q⟩
/-- a class of the program, its __init__ a def that is given the new instance -/
structure Mks (P : Program) (w : World) (K : PySem.W.Frag) (mg : Str → Option Value) (base : Heap) (k : Nat) (x : Str) (C : Addr) (sp : Sp) : Prop where
  ex : ∃ f fd ps, FnOk P w K mg base (L2.CX P w) k f fd ps sp ∧ Mk K C f ∧ mg x = some (.ref C) ∧ Binds K fd ps []
def newO (n : Nat) (o : Addr → OT → List D → MRes) (ds : List D) : Res OT := if ds.length + 1 = n then (match o 0 .ins0 (.none :: ds) with
  | .ok t .none => .ok t
  | .ex c _ => .ex c
  | _ => .bad) else .bad
theorem hide_made {H : Hp} {y dy : Addr} {o1 o2 : HO} (h1 : H y = none) (h2 : H dy = none) : hideL (upd (upd H dy o1) y o2) [y, dy] = H := by
  funext b
  by_cases hb : b ∈ [y, dy]
  · rw [hide_in hb]
    simp only [List.mem_cons, List.not_mem_nil, or_false] at hb
    rcases hb with rfl | rfl
    · exact h1.symm
    · exact h2.symm
  · rw [hide_out hb]
    simp only [List.mem_cons, List.not_mem_nil, or_false, not_or] at hb
    rw [upd_ne hb.1, upd_ne hb.2]
/-- a new season -/
theorem dnt_make {j : Nat} {o : Addr → OT → List D → MRes} {g : Ev → Res (List D)} (tk : Takes X W) (c : Mks X.prog X.w X.K X.mg X.base k x En.sc (spM X.K cl n 0 o)) (hind : ∀ a ds, ds.length + 1 = n → o a .ins0 (.none :: ds) = o 0 .ins0 (.none :: ds)) (hr : Room j X.A) (hk : k + 1 ≤ j) (ha : DA X cl W (e :: es) g)
    (hg : Gl X x := by rfl) (hdb : (x == ("__debug__" : Str)) = false := by decide) (he : starEach (e :: es) X.env = (false, eval e X.env) :: starEach es X.env := by rfl) (hpl : (backTo pos (starEach es X.env)).any (·.1) = false := by rfl) :
    DNT X cl W (.Call (.Name x p) (e :: es) [] pos) (fun ρ => (g ρ).bind (newO n o)) := by
  obtain ⟨f, fd, ps, G, m, hm, hb⟩ := c.ex
  refine PE_imp (pe_makeS (E := WE W) m G (hr.mono hk) hg hm hb (fun σ => passAt tk σ) ha hdb he hpl) fun σ H Q q => ?_
  obtain ⟨H0, F0, ρ, F, A, R, p⟩ := q
  refine ⟨H0, F0, ρ, F, A, R, ?_⟩
  dsimp only at p
  cases r : g ρ with
  | bad => rw [r] at p; exact p.elim
  | ex c => rw [r] at p; exact p
  | ok ds =>
    rw [r] at p
    have p1 : PostTr X.K cl W σ H F (newO n o ds) Q := p
    intro vs H1 F1 g1 s1 y dy hy hdy hne
    have hnb : ds.length + 1 = n := by
      unfold newO at p1
      split at p1
      · assumption
      · exact p1.elim
    have F1y : F1 y = none := g1.fh.free hy
    have F1d : F1 dy = none := g1.fh.free hdy
    have sm : Same F1 (upd (upd H1 dy (.own y)) y (.ins En.sc dy [])) := fun b u q => by
      rw [upd_ne (ne_of_none q F1y), upd_ne (ne_of_none q F1d)]
      exact g1.fh _ _ q
    refine ⟨.none :: ds, F1, .ins0, y, [y, dy], ?_, rfl, ⟨y, dy, rfl, rfl, upd_same, by rw [upd_ne hne]; exact upd_same⟩, by simp [hne.symm], fun b hb => ?_, ⟨rfl, s1⟩, sm, fun t ht => ?_, ?_⟩
    · rw [List.length_cons, ← SeesL.length s1]
      exact hnb
    · simp only [List.mem_cons, List.not_mem_nil, or_false] at hb
      rcases hb with rfl | rfl
      · exact F1y
      · exact F1d
    · obtain ⟨h1, us, h2, h3⟩ := g1.tok R.tok t ht
      exact ⟨h1, us, by rw [upd_ne (ne_of_none h2 hy), upd_ne (ne_of_none h2 hdy)]; exact h2, h3⟩
    · rw [hide_made hy hdy, hind _ _ hnb]
      unfold newO at p1
      rw [if_pos hnb] at p1
      cases q : o 0 .ins0 (.none :: ds) with
      | bad => rw [q] at p1; exact p1.elim
      | ex c t =>
        rw [q] at p1
        exact fun as H' F' g2 _ _ _ => p1 H' F' (g1.trans g2)
      | ok t d =>
        rw [q] at p1
        cases d with
        | none =>
          intro u as H' F' g2 ot nd fr su
          exact ⟨su, p1 (.ref y) as H' F' (g1.trans g2) nd (fun b hb => ⟨g1.hh.free (fr b hb).1, (fr b hb).2⟩) ot⟩
        | _ => exact p1.elim
/-- a new tree, dropped -/
def gDropT (f : Ev → Res OT) : Ev → Out := fun ρ => thenO (f ρ) ρ fun _ => .nx ρ
theorem ds_dropT {f : Ev → Res OT} (h : DNT X cl W e f) (hs : swapsWith e none pos.line X.env = pure false := by rfl) : DS X cl W (.Expr e pos) (gDropT f) := PS_imp (ps_expr h hs) fun D σ H q => by
  obtain ⟨H0, F0, ρ, F, A, R, p⟩ := q
  exact ⟨H0, F0, ρ, F, A, R, fin_exOT R p fun t v as H1 F1 _ g nd hn o q => q _ _ _ _ (R.grow g)⟩
end
end Dn

set_option Elab.async false
set_option linter.all false
set_option maxRecDepth 100000
set_option maxHeartbeats 4000000
namespace Dn
open PySem PySem.Spec PyProof.Rows L2
variable [En]
theorem SeesL.rev {K : PySem.W.Frag} {F : Hp} {ds : List D} {vs : List V} (h : SeesL K F ds vs) : SeesL K F ds.reverse vs.reverse := h.reverse
def oRevL : D → Res D
  | .list ds => .ok (.list ds.reverse)
  | _ => .bad
def sRevL (f : Ev → Res D) : Ev → Res D := fun ρ => (f ρ).bind oRevL
section
variable {X : Cx} {cl : Nat → Addr} {W : WX} {e : Expr} {pos : Pos}
theorem de_revL {f : Ev → Res D} {k : Nat} {p1 p2 p3 : Pos} (he : DE X cl W e f) : DE X cl W (.Subscript e (.Slice none none (some (.UnaryOp .USub (.Constant (.int 1) k p1) p2)) p3) pos) (sRevL f) := PE_imp (pe_revL he) fun σ H Q h => by
  obtain ⟨H0, F0, ρ, F, A, R, p⟩ := h
  refine ⟨H0, F0, ρ, F, A, R, (Post.bind (S := SD X.K) p).imp fun v H1 ⟨F1, x, _, g1, s1, p1⟩ => ?_⟩
  cases x with
  | list ds =>
    obtain ⟨a, xs, rfl, ha, hs⟩ := s1
    exact ⟨a, xs, rfl, SqL.of (g1.fh _ _ ha), fun q hq => Post.newL g1.fh p1 hs.reverse hq⟩
  | _ => exact p1.elim
end
end Dn

set_option Elab.async false
set_option linter.all false
set_option maxRecDepth 100000
set_option maxHeartbeats 4000000
namespace Dn
open PySem PySem.Spec PyProof.Rows L2
variable [En]
/-! ### a season as data: its fields, its methods that only read -/
def ssnO : D → Option (Int × List D)
  | .dict [(.int n, .list ds)] => some (-n - 1, ds)
  | _ => none
theorem ssnO_ssn (c : Nat) (Rs : List (List (List (Int × Int)))) : ssnO (ssnD c Rs) = some ((c : Int), Rs.map stA) := by
  show some (-(-(c : Int) - 1) - 1, Rs.map stA) = _
  congr 2
  omega
theorem sees_ssn {K : PySem.W.Frag} {F : Hp} {d : D} {v : V} {c : Int} {ds : List D} (h : ssnO d = some (c, ds)) (s : Sees K F d v) : ∃ a dx l vs, v = .ref a ∧ F a = some (.ins En.sc dx [("_clubs", .int c), ("_stages", .ref l)]) ∧ F l = some (.lst vs) ∧ SeesL K F ds vs := by
  unfold ssnO at h
  split at h
  · rename_i n ds'
    injection h with h
    injection h with h1 h2
    subst h2
    obtain ⟨a, rfl, h2⟩ := s
    rcases h2 with ⟨h3, _⟩ | ⟨ns, h3, _⟩ | ⟨cc, h3, _⟩ | ⟨cc, Rs, h3, dx, l, vs, e1, e2, e3, e4⟩
    · cases h3
    · injection h3 with h3
      injection h3 with h3
      cases h3
    · injection h3 with h3
      injection h3 with _ h3
      cases h3
    · injection h3 with h3
      injection h3 with h4 h5
      injection h4 with h4
      injection h5 with h5
      subst h5
      have ec : (cc : Int) = c := by omega
      exact ⟨a, dx, l, vs, rfl, by rw [e1, ec], e3, of_sts e4⟩
  · cases h
/-- x._clubs, x._stages -/
def sClubs (i : Nat) : Ev → Res D := fun ρ => match ρ[i]? with
  | some (.d d) => (match ssnO d with
    | some (c, _) => .ok (.int c)
    | none => .bad)
  | some (.at _ (.ssn c _)) => .ok (.int (c : Int))
  | _ => .bad
def sStages (i : Nat) : Ev → Res D := fun ρ => match ρ[i]? with
  | some (.d d) => (match ssnO d with
    | some (_, ds) => .ok (.list ds)
    | none => .bad)
  | _ => .bad
/-- x._stages[-1], x at hand -/
def sStLast (i : Nat) : Ev → Res D := fun ρ => match ρ[i]? with
  | some (.at _ (.ssn _ Rs)) => ofO (L2.atI (Rs.map stA) (-1))
  | _ => .bad
section
variable {X : Cx} {cl : Nat → Addr} {W : WX} {e o : Expr} {pos pos' apos : Pos} {K : PySem.W.Frag}
theorem de_clubs {i : Nat} (hC : Cls X.K En.sc) (hA : NoAttr X.K En.sc "_clubs") (ho : PE X o (tVar i)) (hb : attributeBase o "_clubs" X.env (eval o X.env) = eval o X.env := by rfl) : DE X cl W (.Attribute o "_clubs" pos) (sClubs i) := PE_imp (pe_fld ho hb) fun σ H Q q => by
  obtain ⟨H0, F0, ρ, F, A, R, p⟩ := q
  unfold sClubs at p
  cases q : ρ[i]? with
  | none => rw [q] at p; exact p.elim
  | some c0 =>
    rw [q] at p
    have h := R.cel i c0 q
    cases c0 with
    | d d =>
      obtain ⟨v, h1, h2⟩ := h
      dsimp only at p
      cases r : ssnO d with
      | none => rw [r] at p; exact p.elim
      | some cd =>
        obtain ⟨c, ds⟩ := cd
        rw [r] at p
        obtain ⟨a, dx, l, vs, rfl, e1, _, _⟩ := sees_ssn r h2
        exact ⟨.ref a, R.get h1, a, En.sc, dx, _, .int c, rfl, R.sub _ _ e1, hC, hA, rfl, Post.now (S := SD X.K) R.sub p rfl⟩
    | «at» a t =>
      cases t with
      | ssn c Rs =>
        obtain ⟨bs, h1, h2, h3, p', dx, l, vs, e1, rfl, h5, h6, h7, h8⟩ := h
        injection e1 with e1
        subst e1
        exact ⟨.ref a, R.get h3, a, En.sc, dx, _, .int c, rfl, h5, hC, hA, rfl, Post.now (S := SD X.K) R.sub p rfl⟩
      | _ => exact p.elim
    | _ => exact p.elim
theorem de_stages {i : Nat} (hC : Cls X.K En.sc) (hA : NoAttr X.K En.sc "_stages") (ho : PE X o (tVar i)) (hb : attributeBase o "_stages" X.env (eval o X.env) = eval o X.env := by rfl) : DE X cl W (.Attribute o "_stages" pos) (sStages i) := PE_imp (pe_fld ho hb) fun σ H Q q => by
  obtain ⟨H0, F0, ρ, F, A, R, p⟩ := q
  unfold sStages at p
  cases q : ρ[i]? with
  | none => rw [q] at p; exact p.elim
  | some c0 =>
    rw [q] at p
    have h := R.cel i c0 q
    cases c0 with
    | d d =>
      obtain ⟨v, h1, h2⟩ := h
      dsimp only at p
      cases r : ssnO d with
      | none => rw [r] at p; exact p.elim
      | some cd =>
        obtain ⟨c, ds⟩ := cd
        rw [r] at p
        obtain ⟨a, dx, l, vs, rfl, e1, e2, e3⟩ := sees_ssn r h2
        exact ⟨.ref a, R.get h1, a, En.sc, dx, _, .ref l, rfl, R.sub _ _ e1, hC, hA, rfl, Post.now (S := SD X.K) R.sub p ⟨l, vs, rfl, e2, e3⟩⟩
    | _ => exact p.elim
theorem de_stLast {i k : Nat} {p1 p2 : Pos} (hC : Cls X.K En.sc) (hA : NoAttr X.K En.sc "_stages") (ho : PE X o (tVar i)) (hb : attributeBase o "_stages" X.env (eval o X.env) = eval o X.env := by rfl) :
    DE X cl W (.Subscript (.Attribute o "_stages" pos') (.UnaryOp .USub (.Constant (.int 1) k p1) p2) pos) (sStLast i) := PE_imp (pe_ix ix_seq (pe_fld ho hb) (de_neg (cl := cl) (W := W) de_int) (fun _ _ => rfl)) fun σ H Q q => by
  obtain ⟨H0, F0, ρ, F, A, R, p⟩ := q
  unfold sStLast at p
  cases q : ρ[i]? with
  | none => rw [q] at p; exact p.elim
  | some c0 =>
    rw [q] at p
    have h := R.cel i c0 q
    cases c0 with
    | «at» a t =>
      cases t with
      | ssn c Rs =>
        obtain ⟨bs, h1, h2, h3, p', dx, l, vs, e1, rfl, h5, h6, h7, h8⟩ := h
        injection e1 with e1
        subst e1
        refine ⟨.ref a, R.get h3, a, En.sc, dx, _, .ref l, rfl, h5, hC, hA, rfl, H0, F0, ρ, F, A, R, fun v H1 F1 g1 s1 => ?_⟩
        have s1' : v = V.int (-1) := s1
        have p2 : Post (SD X.K) cl W σ H F (ofO (L2.atI (Rs.map stA) (-1))) Q := p
        cases r : L2.atI (Rs.map stA) (-1) with
        | none => rw [r] at p2; exact p2.elim
        | some d =>
          rw [r] at p2
          have gl : H1 l = some (.lst vs) := g1.hh.get h7
          obtain ⟨z, y1, y2⟩ := ((of_sts (K := X.K) h8).mono g1.ff).atI r
          exact .inl ⟨l, vs, -1, z, rfl, s1', SqL.of gl, y1, p2 z H1 F1 g1 y2⟩
      | _ => exact p.elim
    | _ => exact p.elim
/-! ### x.m(..) -/
def tOn (C : Addr) (m : Str) (sp : Sp) (E : L2.St → XK) (ta : TE) (t : TA) : TE := fun σ H Q => ta σ H fun x H1 => ∃ a dx fs, x = .ref a ∧ H1 a = some (.ins C dx fs) ∧ fs.lookup m = none ∧ t σ H1 fun vs H2 => sp (x :: vs) H2 Q (E σ)
variable {C f : Addr} {m : Str} {fd : FuncData} {ps : List Str} {sp : Sp} {E : L2.St → XK} {k : Nat} {es : List Expr} {ta : TE} {t : TA}
theorem pe_on {pl : Sem Bool} (he : PE X o ta) (c : Cls X.K C) (hm : Meth X.K C m f) (G : FnOk X.prog X.w X.K X.mg X.base (L2.CX X.prog X.w) k f fd ps sp) (hr : Room k X.A) (hb : Binds X.K fd ps []) (hx : ∀ σ, PassesAt (L2.CX X.prog X.w) X σ (E σ)) (ha : PA X (e :: es) t)
    (hst : starEach (e :: es) X.env = (false, eval e X.env) :: starEach es X.env := by rfl) (hpl : (backTo pos (starEach es X.env)).any (·.1) = false := by rfl)
    (ht : eval (.Call (.Attribute o m apos) (e :: es) [] pos) X.env = (do
      let ov ← eval o X.env
      standAt apos.atName
      let (f, first) ← holding [ov] (getMethod ov m pl)
      callWith pos f first (backTo pos (starEach (e :: es) X.env)) (backToKw pos (keywordEach [] X.env))) := by rfl) :
    PE X (.Call (.Attribute o m apos) (e :: es) [] pos) (tOn C m sp E ta t) := by
  constructor
  intro pins s σ H Q J h
  apply PySem.W.methodCall_KW (pl := pl) _ ht
  refine thn (he.run pins s σ H _ J h) ?_
  rintro u s1 ⟨x, H1, J1, rx, a, dx, fs, rfl, ea, l, q⟩
  cases rx
  apply getmeth_ok J1 ea c hm l
  refine PySem.W.callWith_K (first := [.ref a]) (h₀ := X.base) J1.ok.mod.kin hm.kp (thn (ha.run pos pins s1 σ H1 _ J1 q) ?_) hst hpl
  rintro us s2 ⟨vs, H2, J2, rel, q2⟩
  exact ⟨J2.kIn, run_fnS (us := .ref a :: us) (vs := .ref a :: vs) G hr hb (hx σ) J2 (.cons rfl rel) q2⟩
theorem pe_on0 {pl : Sem Bool} (he : PE X o ta) (c : Cls X.K C) (hm : Meth X.K C m f) (G : FnOk X.prog X.w X.K X.mg X.base (L2.CX X.prog X.w) k f fd ps sp) (hr : Room k X.A) (hb : Binds X.K fd ps []) (hx : ∀ σ, PassesAt (L2.CX X.prog X.w) X σ (E σ))
    (ht : eval (.Call (.Attribute o m apos) [] [] pos) X.env = (do
      let ov ← eval o X.env
      standAt apos.atName
      let (f, first) ← holding [ov] (getMethod ov m pl)
      callWith pos f first (backTo pos (starEach [] X.env)) (backToKw pos (keywordEach [] X.env))) := by rfl) :
    PE X (.Call (.Attribute o m apos) [] [] pos) (tOn C m sp E ta tNil) := by
  constructor
  intro pins s σ H Q J h
  apply PySem.W.methodCall_KW (pl := pl) _ ht
  refine thn (he.run pins s σ H _ J h) ?_
  rintro u s1 ⟨x, H1, J1, rx, a, dx, fs, rfl, ea, l, q⟩
  cases rx
  apply getmeth_ok J1 ea c hm l
  exact PySem.W.callWith_K0 (first := [.ref a]) J1.kIn hm.kp (run_fnS (us := [.ref a]) (vs := [.ref a]) G hr hb (hx σ) J1 (.cons rfl .nil) q)
/-- a method of a season -/
structure Cam (P : Program) (w : World) (K : PySem.W.Frag) (mg : Str → Option Value) (base : Heap) (k : Nat) (m : Str) (sp : Sp) : Prop where
  ex : ∃ f fd ps, FnOk P w K mg base (L2.CX P w) k f fd ps sp ∧ Meth K En.sc m f ∧ Binds K fd ps []
/-- x.m(), x a season as data -/
def sOn0 {α : Type} (i : Nat) (o : List D → Res α) : Ev → Res α := fun ρ => match ρ[i]? with
  | some (.d d) => (match ssnO d with
    | some _ => o [d]
    | none => .bad)
  | _ => .bad
def offM (m : Str) : Bool := m != PySem.Str.ofString "_clubs" && m != PySem.Str.ofString "_stages"
theorem off_look {m : Str} {x y : V} (h : offM m = true) : ([("_clubs", x), ("_stages", y)] : List (Str × V)).lookup m = none := by
  unfold offM at h
  rw [Bool.and_eq_true, bne_iff_ne, bne_iff_ne] at h
  have h1 : (m == ("_clubs" : Str)) = false := beq_eq_false_iff_ne.mpr h.1
  have h2 : (m == ("_stages" : Str)) = false := beq_eq_false_iff_ne.mpr h.2
  simp only [List.lookup, h1, h2]
theorem de_on0 {i j : Nat} {o' : List D → Res D} {pl : Sem Bool} (tk : Takes X W) (c : Cam X.prog X.w X.K X.mg X.base k m (spX X.K cl 1 o')) (hm : offM m = true) (hC : Cls X.K En.sc) (hr : Room j X.A) (hk : k ≤ j) (ho : PE X o (tVar i))
    (ht : eval (.Call (.Attribute o m apos) [] [] pos) X.env = (do
      let ov ← eval o X.env
      standAt apos.atName
      let (f, first) ← holding [ov] (getMethod ov m pl)
      callWith pos f first (backTo pos (starEach [] X.env)) (backToKw pos (keywordEach [] X.env))) := by rfl) : DE X cl W (.Call (.Attribute o m apos) [] [] pos) (sOn0 i o') := by
  obtain ⟨f, fd, ps, G, hme, hb⟩ := c.ex
  refine PE_imp (pe_on0 (E := WE W) ho hC hme G (hr.mono hk) hb (fun σ => passAt tk σ) ht) fun σ H Q q => ?_
  obtain ⟨H0, F0, ρ, F, A, R, p⟩ := q
  unfold sOn0 at p
  cases q : ρ[i]? with
  | none => rw [q] at p; exact p.elim
  | some c0 =>
    rw [q] at p
    have h := R.cel i c0 q
    cases c0 with
    | d d =>
      obtain ⟨v, h1, h2⟩ := h
      dsimp only at p
      cases r : ssnO d with
      | none => rw [r] at p; exact p.elim
      | some cd =>
        obtain ⟨c, ds⟩ := cd
        rw [r] at p
        obtain ⟨a, dx, l, vs, rfl, e1, _, _⟩ := sees_ssn r h2
        exact ⟨.ref a, R.get h1, a, dx, _, rfl, R.sub _ _ e1, off_look hm, [d], F, rfl, SeesL.one h2, R.sub, R.tok, p.toE⟩
    | _ => exact p.elim
theorem dn2_on0 {i j : Nat} {o' : List D → Res (List (List D))} {pl : Sem Bool} (tk : Takes X W) (c : Cam X.prog X.w X.K X.mg X.base k m (spN2 X.K cl 1 o')) (hm : offM m = true) (hC : Cls X.K En.sc) (hr : Room j X.A) (hk : k ≤ j) (ho : PE X o (tVar i))
    (ht : eval (.Call (.Attribute o m apos) [] [] pos) X.env = (do
      let ov ← eval o X.env
      standAt apos.atName
      let (f, first) ← holding [ov] (getMethod ov m pl)
      callWith pos f first (backTo pos (starEach [] X.env)) (backToKw pos (keywordEach [] X.env))) := by rfl) : DN2 X cl W (.Call (.Attribute o m apos) [] [] pos) (sOn0 i o') := by
  obtain ⟨f, fd, ps, G, hme, hb⟩ := c.ex
  refine PE_imp (pe_on0 (E := WE W) ho hC hme G (hr.mono hk) hb (fun σ => passAt tk σ) ht) fun σ H Q q => ?_
  obtain ⟨H0, F0, ρ, F, A, R, p⟩ := q
  unfold sOn0 at p
  cases q : ρ[i]? with
  | none => rw [q] at p; exact p.elim
  | some c0 =>
    rw [q] at p
    have h := R.cel i c0 q
    cases c0 with
    | d d =>
      obtain ⟨v, h1, h2⟩ := h
      dsimp only at p
      cases r : ssnO d with
      | none => rw [r] at p; exact p.elim
      | some cd =>
        obtain ⟨c, ds⟩ := cd
        rw [r] at p
        obtain ⟨a, dx, l, vs, rfl, e1, _, _⟩ := sees_ssn r h2
        exact ⟨.ref a, R.get h1, a, dx, _, rfl, R.sub _ _ e1, off_look hm, [d], F, rfl, SeesL.one h2, R.sub, R.tok, p.toE⟩
    | _ => exact p.elim
end
end Dn

set_option Elab.async false
set_option linter.all false
set_option maxRecDepth 100000
set_option maxHeartbeats 4000000
namespace Dn
open PySem PySem.Spec PyProof.Rows L2
variable [En]
/-! ### a tree at hand, changed -/
/-- x._stages.append(e) -/
def gStApp (i : Nat) (f : Ev → Res D) : Ev → Out := fun ρ => match ρ[i]? with
  | some (.at a (.ssn c Rs)) => thenO (f ρ) ρ fun d => (match stageO d with
    | some R => if Rs.length < big then .nx (ρ.set i (.at a (.ssn c (Rs ++ [R])))) else .bad
    | none => .bad)
  | _ => .bad
/-- x._stages.pop() -/
def gStPop (i : Nat) : Ev → Out := fun ρ => match ρ[i]? with
  | some (.at a (.ssn c Rs)) => if Rs.isEmpty = true then .bad else .nx (ρ.set i (.at a (.ssn c Rs.dropLast)))
  | _ => .bad
/-- x.append(e), x a list at hand -/
def gAtApp (i : Nat) (f : Ev → Res D) : Ev → Out := fun ρ => match ρ[i]? with
  | some (.at a (.lst ts)) => thenO (f ρ) ρ fun d => if ts.length < big then .nx (ρ.set i (.at a (.lst (ts ++ [.dat d])))) else .bad
  | _ => .bad
/-- x.pop() -/
def gAtPop (i : Nat) : Ev → Out := fun ρ => match ρ[i]? with
  | some (.at a t) => (match un1 t with
    | some ds => if ds.isEmpty = true then .bad else .nx (ρ.set i (.at a (otL ds.dropLast)))
    | none => .bad)
  | _ => .bad
/-- x[-1] -/
def sAtLast (i : Nat) : Ev → Res D := fun ρ => match ρ[i]? with
  | some (.at a t) => (match un1 t with
    | some ds => ofO (L2.atI ds (-1))
    | none => .bad)
  | _ => .bad
/-- return e, the frame still known -/
def gRetS (f : Ev → Res D) : Ev → Out := fun ρ => thenO (f ρ) ρ fun d => .rs d ρ
section
variable {K : PySem.W.Frag} {F : Hp}
theorem sts_len : ∀ {Rs : List (List (List (Int × Int)))} {vs : List V}, SeesSts F Rs vs → Rs.length = vs.length
  | [], [], _ => rfl
  | [], _ :: _, h => h.elim
  | _ :: _, [], h => h.elim
  | _ :: _, _ :: _, h => by rw [List.length_cons, List.length_cons, sts_len h.2]
theorem sts_drop : ∀ {Rs : List (List (List (Int × Int)))} {vs : List V}, SeesSts F Rs vs → SeesSts F Rs.dropLast vs.dropLast
  | [], [], _ => True.intro
  | [], _ :: _, h => h.elim
  | _ :: _, [], h => h.elim
  | [_], [_], _ => True.intro
  | [_], _ :: _ :: _, h => h.2.elim
  | _ :: _ :: _, [_], h => h.2.elim
  | R :: S :: Rs, v :: u :: vs, h => ⟨h.1, sts_drop (Rs := S :: Rs) (vs := u :: vs) h.2⟩
theorem SeesL.dropLast : ∀ {ds : List D} {vs : List V}, SeesL K F ds vs → SeesL K F ds.dropLast vs.dropLast
  | [], [], _ => True.intro
  | [], _ :: _, h => h.elim
  | _ :: _, [], h => h.elim
  | [_], [_], _ => True.intro
  | [_], _ :: _ :: _, h => h.2.elim
  | _ :: _ :: _, [_], h => h.2.elim
  | d :: e :: ds, v :: u :: vs, h => ⟨h.1, SeesL.dropLast (ds := e :: ds) (vs := u :: vs) h.2⟩
theorem last_at {α : Type} : ∀ {l : List α}, l ≠ [] → ∃ y, l[l.length - 1]? = some y
  | [], h => absurd rfl h
  | x :: l, _ => ⟨(x :: l)[l.length]'(by simp), List.getElem?_eq_getElem _⟩
variable {X : Cx} {cl : Nat → Addr} {W : WX} {e o : Expr} {pos pos' apos cpos : Pos}
theorem ds_stApp {i : Nat} {f : Ev → Res D} (hC : Cls X.K En.sc) (hA : NoAttr X.K En.sc "_stages") (h : PE X (.Call (.Attribute o "append" apos) [e] [] cpos) (tBM X.K "list" rAppend (tFld X.K (tVar i) "_stages") (tCons (tX X.K X.prog X.w (SD X.K) cl W f) tNil)))
    (hs : swapsWith (.Call (.Attribute o "append" apos) [e] [] cpos) none pos.line X.env = pure false := by rfl) : DS X cl W (.Expr (.Call (.Attribute o "append" apos) [e] [] cpos) pos) (gStApp i f) := PS_imp (ps_expr h hs) fun De σ H q => by
  obtain ⟨H0, F0, ρ, F, A, R, p⟩ := q
  unfold gStApp at p
  split at p
  · rename_i a c Rs hq
    obtain ⟨bs, h1, h2, h3, p', dx, l, vs, e1, rfl, h5, h6, h7, h8⟩ := R.cel i _ hq
    injection e1 with e1
    subst e1
    refine ⟨.ref a, R.get h3, a, En.sc, dx, _, .ref l, rfl, h5, hC, hA, rfl, .inl ⟨rfl, vs, SqL.of h7⟩, H0, F0, ρ, F, A, R, fin_ex (S := SD X.K) R p fun d v H1 F1 _ g s q => ?_⟩
    cases r : stageO d with
    | none => rw [r] at q; exact q.elim
    | some Rr =>
      rw [r] at q
      have q2 : Fin X.K X.prog X.w cl W H0 F0 De (if Rs.length < big then .nx (ρ.set i (.at a (.ssn c (Rs ++ [Rr])))) else .bad) := q
      by_cases hl : Rs.length < big
      · rw [if_pos hl] at q2
        have R1 := R.grow g
        rw [stageO_eq r] at s
        have e5 := g.hh.get h5
        have e6 := g.hh.get h6
        have e7 := g.hh.get h7
        have nal : l ≠ a := fun z => by rw [z, h5] at h7; cases h7
        have ndl : l ≠ dx := fun z => by rw [z, h6] at h7; cases h7
        refine ⟨l, vs, v, rfl, rfl, e7, big_lt (by rw [← sts_len h8]; exact hl), q2 _ _ _ _ (R1.change (c' := .at a (.ssn c (Rs ++ [Rr]))) (h1 l (by simp)) (fun z => z) ⟨[a, dx, l], h1, h2, h3, a, dx, l, vs ++ [v], rfl, rfl, by rw [upd_ne (fun z => nal z.symm)]; exact e5, by rw [upd_ne (fun z => ndl z.symm)]; exact e6, upd_same, sts_app (h8.mono g.ff) ⟨st_of s, True.intro⟩⟩)⟩
      · rw [if_neg hl] at q2
        exact q2.elim
  · exact p.elim
theorem ds_stPop {i : Nat} (hC : Cls X.K En.sc) (hA : NoAttr X.K En.sc "_stages") (h : PE X (.Call (.Attribute o "pop" apos) [] [] cpos) (tBM0 X.K "list" rPop (tFld X.K (tVar i) "_stages")))
    (hs : swapsWith (.Call (.Attribute o "pop" apos) [] [] cpos) none pos.line X.env = pure false := by rfl) : DS X cl W (.Expr (.Call (.Attribute o "pop" apos) [] [] cpos) pos) (gStPop i) := PS_imp (ps_expr h hs) fun De σ H q => by
  obtain ⟨H0, F0, ρ, F, A, R, p⟩ := q
  unfold gStPop at p
  split at p
  · rename_i a c Rs hq
    obtain ⟨bs, h1, h2, h3, p', dx, l, vs, e1, rfl, h5, h6, h7, h8⟩ := R.cel i _ hq
    injection e1 with e1
    subst e1
    by_cases he : Rs.isEmpty = true
    · rw [if_pos he] at p; exact p.elim
    rw [if_neg he] at p
    have nal : l ≠ a := fun z => by rw [z, h5] at h7; cases h7
    have ndl : l ≠ dx := fun z => by rw [z, h6] at h7; cases h7
    have nv : vs ≠ [] := fun z => by
      have := sts_len h8
      rw [z] at this
      exact he (List.isEmpty_iff.mpr (List.length_eq_zero_iff.mp this))
    obtain ⟨y, hy⟩ := last_at nv
    exact ⟨.ref a, R.get h3, a, En.sc, dx, _, .ref l, rfl, h5, hC, hA, rfl, .inl ⟨rfl, vs, SqL.of h7⟩, l, vs, y, rfl, rfl, h7, hy, p _ _ _ _ (R.change (c' := .at a (.ssn c Rs.dropLast)) (h1 l (by simp)) (fun z => z) ⟨[a, dx, l], h1, h2, h3, a, dx, l, vs.dropLast, rfl, rfl, by rw [upd_ne (fun z => nal z.symm)]; exact h5, by rw [upd_ne (fun z => ndl z.symm)]; exact h6, upd_same, sts_drop h8⟩)⟩
  · exact p.elim
theorem ds_atApp {i : Nat} {f : Ev → Res D} (h : PE X (.Call (.Attribute o "append" apos) [e] [] cpos) (tBM X.K "list" rAppend (tVar i) (tCons (tX X.K X.prog X.w (SD X.K) cl W f) tNil)))
    (hs : swapsWith (.Call (.Attribute o "append" apos) [e] [] cpos) none pos.line X.env = pure false := by rfl) : DS X cl W (.Expr (.Call (.Attribute o "append" apos) [e] [] cpos) pos) (gAtApp i f) := PS_imp (ps_expr h hs) fun De σ H q => by
  obtain ⟨H0, F0, ρ, F, A, R, p⟩ := q
  unfold gAtApp at p
  split at p
  · rename_i a ts hq
    obtain ⟨bs, h1, h2, h3, a', vs, cs, e1, rfl, h5, h6⟩ := R.cel i _ hq
    injection e1 with e1
    subst e1
    refine ⟨.ref a, R.get h3, .inl ⟨rfl, vs, SqL.of h5⟩, H0, F0, ρ, F, A, R, fin_ex (S := SD X.K) R p fun d v H1 F1 _ g s q => ?_⟩
    have q2 : Fin X.K X.prog X.w cl W H0 F0 De (if ts.length < big then .nx (ρ.set i (.at a (.lst (ts ++ [.dat d])))) else .bad) := q
    by_cases hl : ts.length < big
    · rw [if_pos hl] at q2
      have R1 := R.grow g
      have e5 := g.hh.get h5
      have nd := List.nodup_cons.mp h2
      have o1 : OwnTs X.K F1 (L2.upd H1 a (.lst (vs ++ [v]))) ts vs cs := OwnTs.mono (Same.refl _) _ _ _ (fun x hx => upd_ne fun z => nd.1 (by rw [← z]; exact hx)) (owns_stay g h6)
      have o2 := owns_app (us := [.dat d]) (ws := [v]) (bs := []) o1 ⟨[], [], rfl, ⟨rfl, s⟩, rfl⟩
      rw [List.append_nil] at o2
      exact ⟨a, vs, v, rfl, rfl, e5, big_lt (by rw [← owns_len h6]; exact hl), q2 _ _ _ _ (R1.change (o := .lst (vs ++ [v])) (c' := .at a (.lst (ts ++ [.dat d]))) (h1 a List.mem_cons_self) (fun z => z) ⟨a :: cs, h1, h2, h3, a, vs ++ [v], cs, rfl, rfl, upd_same, o2⟩)⟩
    · rw [if_neg hl] at q2
      exact q2.elim
  · exact p.elim
theorem ds_atPop {i : Nat} (h : PE X (.Call (.Attribute o "pop" apos) [] [] cpos) (tBM0 X.K "list" rPop (tVar i)))
    (hs : swapsWith (.Call (.Attribute o "pop" apos) [] [] cpos) none pos.line X.env = pure false := by rfl) : DS X cl W (.Expr (.Call (.Attribute o "pop" apos) [] [] cpos) pos) (gAtPop i) := PS_imp (ps_expr h hs) fun De σ H q => by
  obtain ⟨H0, F0, ρ, F, A, R, p⟩ := q
  unfold gAtPop at p
  split at p
  · rename_i a t hq
    cases r : un1 t with
    | none => rw [r] at p; exact p.elim
    | some ds =>
      rw [r] at p
      rw [un1_of r] at hq
      obtain ⟨bs, h1, h2, h3, a', vs, cs, e1, rfl, h5, h6⟩ := R.cel i _ hq
      injection e1 with e1
      subst e1
      obtain ⟨rfl, s⟩ := own_dats h6
      have p2 : Fin X.K X.prog X.w cl W H0 F0 De (if ds.isEmpty = true then .bad else .nx (ρ.set i (.at a (otL ds.dropLast)))) := p
      by_cases he : ds.isEmpty = true
      · rw [if_pos he] at p2; exact p2.elim
      rw [if_neg he] at p2
      have nv : vs ≠ [] := fun z => by
        have := s.length
        rw [z] at this
        exact he (List.isEmpty_iff.mpr (List.length_eq_zero_iff.mp this))
      obtain ⟨y, hy⟩ := last_at nv
      exact ⟨.ref a, R.get h3, .inl ⟨rfl, vs, SqL.of h5⟩, a, vs, y, rfl, rfl, h5, hy, p2 _ _ _ _ (R.change (c' := .at a (otL ds.dropLast)) (o := .lst vs.dropLast) (h1 a List.mem_cons_self) (fun z => z) ⟨[a], h1, h2, h3, a, vs.dropLast, [], rfl, rfl, upd_same, dats_own s.dropLast⟩)⟩
  · exact p.elim
theorem de_atLast {i k : Nat} {p1 p2 : Pos} (ho : PE X o (tVar i)) : DE X cl W (.Subscript o (.UnaryOp .USub (.Constant (.int 1) k p1) p2) pos) (sAtLast i) := PE_imp (pe_ix ix_seq ho (de_neg (cl := cl) (W := W) de_int) (fun _ _ => rfl)) fun σ H Q q => by
  obtain ⟨H0, F0, ρ, F, A, R, p⟩ := q
  unfold sAtLast at p
  split at p
  · rename_i a t hq
    cases r : un1 t with
    | none => rw [r] at p; exact p.elim
    | some ds =>
      rw [r] at p
      rw [un1_of r] at hq
      obtain ⟨bs, h1, h2, h3, a', vs, cs, e1, rfl, h5, h6⟩ := R.cel i _ hq
      injection e1 with e1
      subst e1
      obtain ⟨rfl, s⟩ := own_dats h6
      refine ⟨.ref a, R.get h3, H0, F0, ρ, F, A, R, fun v H1 F1 g1 s1 => ?_⟩
      have s1' : v = V.int (-1) := s1
      have p2 : Post (SD X.K) cl W σ H F (ofO (L2.atI ds (-1))) Q := p
      cases r : L2.atI ds (-1) with
      | none => rw [r] at p2; exact p2.elim
      | some d =>
        rw [r] at p2
        obtain ⟨z, y1, y2⟩ := (s.mono g1.ff).atI r
        exact .inl ⟨a, vs, -1, z, rfl, s1', SqL.of (g1.hh.get h5), y1, p2 z H1 F1 g1 y2⟩
  · exact p.elim
theorem ds_retS {f : Ev → Res D} (he : DE X cl W e f) : DS X cl W (.Return (some e) pos) (gRetS f) := PS_imp (ps_ret he) fun De σ H q => by
  obtain ⟨H0, F0, ρ, F, A, R, p⟩ := q
  exact ⟨H0, F0, ρ, F, A, R, fin_ex (S := SD X.K) R p fun d v H1 F1 _ g s q => q v σ H1 F1 A (R.grow g) s⟩
/-! ### x = y.m(..), y a tree at hand that m changes -/
/-- a part of a slot's addresses taken out of the heap -/
theorem Rep.hide {P : Program} {w : World} {H H0 F0 : Hp} {ρ : Ev} {σ : L2.St} {A : Nat → List Addr} (R : Rep K P w H0 F0 ρ σ H F A) {i : Nat} {bs : List Addr} (hb : ∀ x ∈ bs, x ∈ A i) : Rep K P w H0 F0 (ρ.set i .no) σ (hideL H bs) F (setA A i []) := by
  have R0 := R.junk0 i
  have keep : ∀ j x, x ∈ setA A i [] j → hideL H bs x = H x := fun j x hx => hide_out fun z => by
    unfold setA at hx
    by_cases e : j = i
    · rw [if_pos e] at hx
      exact nomatch hx
    · rw [if_neg e] at hx
      exact e (R.dj j i x hx (hb x z))
  refine ⟨⟨R.base.ff, fun a u q => ?_, hide_same R.sub (fun x hx => (R.fr i x (hb x hx)).1), R.base.nw⟩, R0.len, fun j c hc => (R0.cel j c hc).mono (Same.refl _) (keep j), fun j x hx => ?_, R0.dj, R.tk⟩
  · have na : a ∉ bs := fun z => by rw [(R.fr i a (hb a z)).2.1] at q; cases q
    rcases R.base.hh a u q with z | ⟨z1, ps, z2, z3⟩
    · exact .inl (by rw [hide_out na]; exact z)
    · exact .inr ⟨z1, ps, by rw [hide_out na]; exact z2, z3⟩
  · obtain ⟨f1, f2, f3, f4⟩ := R0.fr j x hx
    exact ⟨f1, f2, by rw [keep j x hx]; exact f3, by rw [keep j x hx]; exact f4⟩
def gSetOn (j i : Nat) (n : Nat) (o : Addr → OT → List D → MRes) (f : Ev → Res (List D)) : Ev → Out := fun ρ => match ρ[i]? with
  | some (.at a (.ssn c Rs)) => thenO (f ρ) ρ fun ds => if ds.length + 1 = n then (match o a (.ssn c Rs) (.none :: ds) with
    | .ok t d => .nx ((ρ.set i (.at a t)).set j (.d d))
    | .ex k t => .ex k (ρ.set i (.at a t))
    | .bad => .bad) else .bad
  | _ => .bad
/-- a slot told anew, behind a call that was given a part of it -/
theorem Rep.swap {P : Program} {w : World} {H H' F' H0 F0 : Hp} {ρ : Ev} {σ : L2.St} {A : Nat → List Addr} (R : Rep K P w H0 F0 ρ σ H F A) {i : Nat} {bs as : List Addr} {c : C} {v : V} (hv : σ[i]?.join = some v) (hb : ∀ x ∈ bs, x ∈ A i) (g : Gr (hideL H bs) F H' F')
    (hc : CR K P w F' H' as c (some v)) (hf : ∀ x ∈ as, F' x = none ∧ H0 x = none ∧ H' x ≠ none ∧ ¬ isTT (H' x)) (hd : ∀ j x, x ∈ as → x ∈ A j → j = i) : Rep K P w H0 F0 (ρ.set i c) σ H' F' (setA A i as) := by
  have R1 := ((R.hide hb).grow g).store (i := i) hc hf fun j x hx hj => by
    unfold setA at hj
    by_cases e : j = i
    · exact e
    · rw [if_neg e] at hj
      exact hd j x hx hj
  rw [List.set_set, set_same (R.get hv)] at R1
  have e : setA (setA A i []) i as = setA A i as := by
    funext j
    unfold setA
    by_cases e : j = i
    · rw [if_pos e, if_pos e]
    · rw [if_neg e, if_neg e, if_neg e]
  rw [e] at R1
  exact R1
/-- a new address is in no slot but the one that was taken out -/
theorem Rep.newA {P : Program} {w : World} {H H0 F0 : Hp} {ρ : Ev} {σ : L2.St} {A : Nat → List Addr} (R : Rep K P w H0 F0 ρ σ H F A) {i : Nat} {bs : List Addr} (hb : ∀ x ∈ bs, x ∈ A i) {x : Addr} (hx : hideL H bs x = none) : H0 x = none ∧ ∀ j, x ∈ A j → j = i := by
  refine ⟨(R.hide hb).base.hh.free hx, fun j hj => ?_⟩
  by_cases z : x ∈ bs
  · exact R.dj j i x hj (hb x z)
  · rw [hide_out z] at hx
    exact absurd hx (R.fr j x hj).2.2.1
theorem ds_setOn {st : Stmt} {m : Str} {i j n : Nat} {o : Addr → OT → List D → MRes} {f : Ev → Res (List D)} (hm : offM m = true) (hn : n ≠ 0) (h : PS X st (tAsg (tOn En.sc m (spM X.K cl n 0 o) (WE W) (tVar i) (tX X.K X.prog X.w (SL X.K) cl W f)) (gName j))) : DS X cl W st (gSetOn j i n o f) := PS_imp h fun De σ H q => by
  obtain ⟨H0, F0, ρ, F, A, R, p⟩ := q
  unfold gSetOn at p
  split at p
  · rename_i a c Rs hq
    obtain ⟨bs, h1, h2, h3, p', dx, l, vs, e1, eb, h5, h6, h7, h8⟩ := R.cel i _ hq
    injection e1 with e1
    subst e1
    refine ⟨.ref a, R.get h3, a, dx, _, rfl, h5, off_look hm, H0, F0, ρ, F, A, R, fin_ex (S := SL X.K) R p fun ds us H1 F1 _ g s q => ?_⟩
    have R1 := R.grow g
    by_cases hl : ds.length + 1 = n
    case neg => rw [if_neg hl] at q; exact q.elim
    rw [if_pos hl] at q
    have ot := own_stay g (show OwnT X.K F H (.ssn c Rs) (.ref a) bs from ⟨a, dx, l, vs, rfl, eb, h5, h6, h7, h8⟩)
    refine ⟨.none :: ds, F1, .ssn c Rs, a, bs, by rw [List.length_cons, ← SeesL.length s]; exact hl, rfl, ot, h2, fun x hx => (R1.fr i x (h1 x hx)).1, ⟨rfl, s⟩, R1.sub, R1.tok, ?_⟩
    cases r : o a (.ssn c Rs) (.none :: ds) with
    | bad => rw [r] at q; exact q.elim
    | ok t d =>
      rw [r] at q
      intro u as H' F' g2 ot2 nd fr su
      have R2 := R1.swap (as := as) (c := .at a t) h3 h1 g2 ⟨as, fun _ h => h, nd, rfl, ot2⟩ (fun x hx => ⟨(fr x hx).2, (R1.newA h1 (fr x hx).1).1, own_there ot2 x hx⟩) (fun k x hx hk => (R1.newA h1 (fr x hx).1).2 k hk)
      exact q _ _ _ _ (R2.setD su)
    | ex k t =>
      rw [r] at q
      intro as H' F' g2 ot2 nd fr
      exact q _ _ _ _ (R1.swap (as := as) (c := .at a t) h3 h1 g2 ⟨as, fun _ h => h, nd, rfl, ot2⟩ (fun x hx => ⟨(fr x hx).2, (R1.newA h1 (fr x hx).1).1, own_there ot2 x hx⟩) (fun k x hx hk => (R1.newA h1 (fr x hx).1).2 k hk))
  · exact p.elim
end
end Dn

set_option Elab.async false
set_option linter.all false
set_option maxRecDepth 100000
set_option maxHeartbeats 4000000
namespace Dn
open PySem PySem.Spec PyProof.Rows L2
variable [En]
/-! ### a tree out of a list of trees, given to a def that changes it -/
section
variable {K : PySem.W.Frag} {P : Program} {w : World} {F F' H H' H0 F0 : Hp} {ρ ρ' : Ev} {σ : L2.St} {A : Nat → List Addr}
theorem owns_put : ∀ {ts : List OT} {vs : List V} {as : List Addr} {k : Nat} {t : OT}, OwnTs K F H ts vs as → ts[k]? = some t → ∃ v l xs r, as = l ++ (xs ++ r) ∧ vs[k]? = some v ∧ OwnT K F H t v xs ∧
    ∀ {F' H' : Hp} {t' : OT} {xs' : List Addr}, Same F F' → (∀ a, (a ∈ l ∨ a ∈ r) → H' a = H a) → OwnT K F' H' t' v xs' → OwnTs K F' H' (ts.set k t') vs (l ++ (xs' ++ r))
  | [], _, _, _, _, _, h => by simp at h
  | _ :: _, [], _, _, _, h, _ => h.elim
  | t0 :: ts, v :: vs, as, 0, t, h, e => by
    have e' := Option.some.inj e
    subst e'
    obtain ⟨xs, ys, rfl, h2, h3⟩ := h
    exact ⟨v, [], xs, ys, rfl, rfl, h2, fun {F' H' t' xs'} sm q o => ⟨xs', ys, rfl, o, OwnTs.mono sm ts vs ys (fun a ha => q a (.inr ha)) h3⟩⟩
  | t0 :: ts, v :: vs, as, k + 1, t, h, e => by
    obtain ⟨xs, ys, rfl, h2, h3⟩ := h
    obtain ⟨u, l, zs, r, rfl, e1, o1, put⟩ := owns_put (k := k) h3 e
    refine ⟨u, xs ++ l, zs, r, by rw [List.append_assoc], e1, o1, fun {F' H' t' xs'} sm q o => ?_⟩
    rw [List.append_assoc]
    exact ⟨xs, _, rfl, OwnT.mono sm t0 v xs (fun a ha => q a (.inl (List.mem_append_left _ ha))) h2, put sm (fun a ha => q a (by
      rcases ha with ha | ha
      · exact .inl (List.mem_append_right _ ha)
      · exact .inr ha)) o⟩
theorem Rep.swapK (R : Rep K P w H0 F0 ρ σ H F A) {i k : Nat} {ts : List OT} {t : OT} (hi : ρ[i]? = some (.ot (.lst ts))) (hk : ts[k]? = some t) : ∃ a vs v xs, σ[i]? = some (some (.ref a)) ∧ H a = some (.lst vs) ∧ vs[k]? = some v ∧ OwnT K F H t v xs ∧ xs.Nodup ∧ (∀ x ∈ xs, x ∈ A i) ∧
    ∀ {H' F' : Hp} {t' : OT} {xs' : List Addr}, Gr (hideL H xs) F H' F' → OwnT K F' H' t' v xs' → xs'.Nodup → (∀ x ∈ xs', hideL H xs x = none ∧ F' x = none) →
      ∃ A', Rep K P w H0 F0 (ρ.set i (.ot (.lst (ts.set k t')))) σ H' F' A' ∧ (∀ j, j ≠ i → A' j = A j) ∧ ∀ j, j ≠ i → ∀ x ∈ A j, H' x = H x := by
  obtain ⟨v0, bs, h1, h2, h3, a, vs, cs, rfl, rfl, h5, h6⟩ := R.cel i _ hi
  obtain ⟨v, l, xs, r, rfl, e1, o1, put⟩ := owns_put h6 hk
  have nd1 := List.nodup_cons.mp h2
  have nd2 := List.nodup_append.mp nd1.2
  have nd3 := List.nodup_append.mp nd2.2.1
  have inX : ∀ x ∈ xs, x ∈ A i := fun x hx => h1 x (List.mem_cons_of_mem _ (List.mem_append_right _ (List.mem_append_left _ hx)))
  refine ⟨a, vs, v, xs, R.get h3, h5, e1, o1, nd3.1, inX, fun {H' F' t' xs'} g o' nd' fr => ?_⟩
  have nxa : a ∉ xs := fun z => nd1.1 (List.mem_append_right _ (List.mem_append_left _ z))
  have nxl : ∀ x ∈ l, x ∉ xs := fun x hx z => nd2.2.2 x hx x (List.mem_append_left _ z) rfl
  have nxr : ∀ x ∈ r, x ∉ xs := fun x hx z => nd3.2.2 x z x hx rfl
  have inl : ∀ x ∈ l, x ∈ A i := fun x hx => h1 x (List.mem_cons_of_mem _ (List.mem_append_left _ hx))
  have inr : ∀ x ∈ r, x ∈ A i := fun x hx => h1 x (List.mem_cons_of_mem _ (List.mem_append_right _ (List.mem_append_right _ hx)))
  have keep : ∀ j x, x ∈ A j → x ∉ xs → H' x = H x ∧ F' x = none := fun j x hx nx => by
    obtain ⟨f1, f2, f3, f4⟩ := R.fr j x hx
    have eh : hideL H xs x = H x := hide_out nx
    constructor
    · cases q : H x with
      | none => exact absurd q f3
      | some o =>
        rw [q] at f4
        exact g.hh.get (by rw [eh]; exact q) fun z => f4 z.tt
    · exact g.keepX f1 (by rw [eh]; exact f3) (by rw [eh]; exact f4)
  have ow := put (H' := H') g.ff (fun x hx => by
    rcases hx with hx | hx
    · exact (keep i x (inl x hx) (nxl x hx)).1
    · exact (keep i x (inr x hx) (nxr x hx)).1) o'
  have ha' : H' a = some (.lst vs) := by rw [(keep i a (h1 a List.mem_cons_self) nxa).1]; exact h5
  have nin : ∀ x ∈ xs', x ∉ l ∧ x ∉ r ∧ x ≠ a := fun x hx => by
    have hz := (fr x hx).1
    refine ⟨fun z => ?_, fun z => ?_, fun z => ?_⟩
    · rw [hide_out (nxl x z)] at hz
      exact (R.fr i x (inl x z)).2.2.1 hz
    · rw [hide_out (nxr x z)] at hz
      exact (R.fr i x (inr x z)).2.2.1 hz
    · rw [z, hide_out nxa, h5] at hz
      cases hz
  have nd4 : (a :: (l ++ (xs' ++ r))).Nodup := by
    refine List.nodup_cons.mpr ⟨fun z => ?_, List.nodup_append.mpr ⟨nd2.1, List.nodup_append.mpr ⟨nd', nd3.2.1, fun x hx y hy e => ?_⟩, fun x hx y hy e => ?_⟩⟩
    · rcases List.mem_append.mp z with z | z
      · exact nd1.1 (List.mem_append_left _ z)
      · rcases List.mem_append.mp z with z | z
        · exact (nin a z).2.2 rfl
        · exact nd1.1 (List.mem_append_right _ (List.mem_append_right _ z))
    · rw [← e] at hy
      exact (nin x hx).2.1 hy
    · rw [← e] at hy
      rcases List.mem_append.mp hy with hy | hy
      · exact (nin x hy).1 hx
      · exact nd2.2.2 x hx x (List.mem_append_right _ hy) rfl
  refine ⟨_, R.swap (i := i) (bs := xs) (as := a :: (l ++ (xs' ++ r))) (c := .ot (.lst (ts.set k t'))) (v := .ref a) h3 inX g ⟨.ref a, _, fun _ h => h, nd4, rfl, a, vs, _, rfl, rfl, ha', ow⟩ (fun x hx => ?_) (fun j x hx hj => ?_), fun j hj => if_neg hj, fun j hj x hx => (keep j x hx fun z => hj (R.dj j i x hx (inX x z))).1⟩
  · have old : ∀ x ∈ A i, x ∉ xs → F' x = none ∧ H0 x = none ∧ H' x ≠ none ∧ ¬ isTT (H' x) := fun x hx nx => by
      obtain ⟨f1, f2, f3, f4⟩ := R.fr i x hx
      obtain ⟨k1, k2⟩ := keep i x hx nx
      exact ⟨k2, f2, by rw [k1]; exact f3, by rw [k1]; exact f4⟩
    rcases List.mem_cons.mp hx with e | hx
    · rw [e]
      exact old a (h1 a List.mem_cons_self) nxa
    · rcases List.mem_append.mp hx with hx | hx
      · exact old x (inl x hx) (nxl x hx)
      · rcases List.mem_append.mp hx with hx | hx
        · exact ⟨(fr x hx).2, (R.newA inX (fr x hx).1).1, own_there o' x hx⟩
        · exact old x (inr x hx) (nxr x hx)
  · rcases List.mem_cons.mp hx with e | hx
    · rw [e] at hj
      exact R.dj j i a hj (h1 a List.mem_cons_self)
    · rcases List.mem_append.mp hx with hx | hx
      · exact R.dj j i x hj (inl x hx)
      · rcases List.mem_append.mp hx with hx | hx
        · exact (R.newA inX (fr x hx).1).2 j hj
        · exact R.dj j i x hj (inr x hx)
/-! ### a tree taken as data for a while -/
theorem Rep.frzAt (R : Rep K P w H0 F0 ρ σ H F A) {i : Nat} {t : OT} {d : D} (hi : ρ[i]? = some (.ot t)) (hd : dOT t = some d) : ∃ v bs, σ[i]? = some (some v) ∧ OwnT K F H t v bs ∧ (∀ x ∈ bs, x ∈ A i) ∧ bs.Nodup ∧ Same F (updL F H bs) ∧ (∀ x ∈ bs, updL F H bs x = H x) ∧ Sees K (updL F H bs) d v ∧ Rep K P w H0 F0 (ρ.set i (.d d)) σ H (updL F H bs) (setA A i []) := by
  have hil : i < ρ.length := (List.getElem?_eq_some_iff.mp hi).1
  obtain ⟨v, as, hA, nd, hv, o⟩ := R.cel i _ hi
  have e1 : Same F (updL F H as) := fun x o h => by
    rw [updL_out fun z => by rw [(R.fr i x (hA x z)).1] at h; cases h]
    exact h
  have e0 : ∀ x ∈ as, updL F H as x = H x := fun x hx => updL_in hx (R.fr i x (hA x hx)).2.2.1
  have e2 : Same (updL F H as) H := fun x o h => by
    by_cases hx : x ∈ as
    · rw [e0 x hx] at h
      exact h
    · rw [updL_out hx] at h
      exact R.sub _ _ h
  have sd := OwnT.sees e1 t v as d e0 hd o
  refine ⟨v, as, R.get hv, o, hA, nd, e1, e0, sd, ⟨⟨R.base.ff.trans e1, R.base.hh, e2, fun x h => ?_⟩, by rw [List.length_set]; exact R.len, fun j c' hj => ?_, fun j x hx => ?_, fun j k x hj hk => ?_, R.tk⟩⟩
  · by_cases hx : x ∈ as
    · exact .inr (.inl (R.fr i x (hA x hx)).2.1)
    · rw [updL_out hx] at h
      exact R.base.nw x h
  · by_cases e : j = i
    · subst e
      rw [List.getElem?_set_self hil] at hj
      have e3 := Option.some.inj hj
      subst e3
      exact ⟨v, hv, sd⟩
    · rw [List.getElem?_set_ne (fun z => e z.symm)] at hj
      unfold setA
      rw [if_neg e]
      exact (R.cel j c' hj).mono e1 fun a _ => rfl
  · unfold setA at hx
    by_cases e : j = i
    · rw [if_pos e] at hx
      cases hx
    · rw [if_neg e] at hx
      obtain ⟨f1, f2, f3, f4⟩ := R.fr j x hx
      refine ⟨?_, f2, f3, f4⟩
      rw [updL_out fun z => e (R.dj j i x hx (hA x z))]
      exact f1
  · unfold setA at hj hk
    by_cases e : j = i
    · rw [if_pos e] at hj
      cases hj
    · rw [if_neg e] at hj
      by_cases e' : k = i
      · rw [if_pos e'] at hk
        cases hk
      · rw [if_neg e'] at hk
        exact R.dj j k x hj hk
/-! what begins with no reference is no stage -/
def Odd (F : Hp) (S : List Addr) : Prop := ∀ x ∈ S, ∃ y ys, F x = some (.lst (y :: ys)) ∧ ∀ b, y ≠ .ref b
theorem gs_cut {S : List Addr} (od : Odd F S) : ∀ {gs : List (Int × Int)} {vs : List V}, SeesGs F gs vs → SeesGs (hideL F S) gs vs
  | [], [], h => h
  | [], _ :: _, h => h.elim
  | _ :: _, [], h => h.elim
  | g :: gs, v :: vs, h => by
    obtain ⟨a, e1, e2⟩ := h.1
    refine ⟨⟨a, e1, ?_⟩, gs_cut od h.2⟩
    rw [hide_out fun z => ?_]
    · exact e2
    · obtain ⟨y, ys, q, _⟩ := od a z
      rw [e2] at q
      cases q
theorem rds_cut {S : List Addr} (od : Odd F S) : ∀ {gs : List (List (Int × Int))} {vs : List V}, SeesRds F gs vs → SeesRds (hideL F S) gs vs
  | [], [], h => h
  | [], _ :: _, h => h.elim
  | _ :: _, [], h => h.elim
  | g :: gs, v :: vs, h => by
    obtain ⟨a, xs, e1, e2, e3⟩ := h.1
    refine ⟨⟨a, xs, e1, ?_, gs_cut od e3⟩, rds_cut od h.2⟩
    rw [hide_out fun z => ?_]
    · exact e2
    · obtain ⟨y, ys, q, n⟩ := od a z
      rw [e2] at q
      injection q with q
      injection q with q
      rw [q] at e3
      cases g with
      | nil => exact e3
      | cons g0 g => 
        obtain ⟨b, e4, _⟩ := e3.1
        exact n b e4
theorem st_cut {S : List Addr} (od : Odd F S) {g : List (List (Int × Int))} {v : V} (h : SeesSt F g v) : SeesSt (hideL F S) g v := by
  obtain ⟨a, xs, e1, e2, e3⟩ := h
  refine ⟨a, xs, e1, ?_, rds_cut od e3⟩
  rw [hide_out fun z => ?_]
  · exact e2
  · obtain ⟨y, ys, q, n⟩ := od a z
    rw [e2] at q
    injection q with q
    injection q with q
    rw [q] at e3
    cases g with
    | nil => exact e3
    | cons g0 g => 
      obtain ⟨b, _, e4, _⟩ := e3.1
      exact n b e4
theorem sts_cut {S : List Addr} (od : Odd F S) : ∀ {gs : List (List (List (Int × Int)))} {vs : List V}, SeesSts F gs vs → SeesSts (hideL F S) gs vs
  | [], [], h => h
  | [], _ :: _, h => h.elim
  | _ :: _, [], h => h.elim
  | g :: gs, v :: vs, h => ⟨st_cut od h.1, sts_cut od h.2⟩
def okS : OT → Bool
  | .ssn _ _ => true
  | _ => false
def okP (t : OT) : Bool := match un1 t with
  | some ds => ds.all fun d => (stageO d).isSome
  | none => false
theorem okS_cut {S : List Addr} (od : Odd F S) : ∀ {ts : List OT} {vs : List V} {as : List Addr}, ts.all okS = true → OwnTs K F H ts vs as → OwnTs K (hideL F S) H ts vs as
  | [], [], _, _, h => h
  | [], _ :: _, _, _, h => h.elim
  | _ :: _, [], _, _, h => h.elim
  | t :: ts, v :: vs, as, e, h => by
    rw [List.all_cons, Bool.and_eq_true] at e
    obtain ⟨xs, ys, rfl, h2, h3⟩ := h
    refine ⟨xs, ys, rfl, ?_, okS_cut od e.2 h3⟩
    cases t with
    | ssn c Rs =>
      obtain ⟨p, dx, l, us, z1, z2, z3, z4, z5, z6⟩ := h2
      exact ⟨p, dx, l, us, z1, z2, z3, z4, z5, sts_cut od z6⟩
    | _ => exact absurd e.1 Bool.false_ne_true
theorem stages_cut {S : List Addr} (od : Odd F S) : ∀ {ds : List D} {vs : List V}, (ds.all fun d => (stageO d).isSome) = true → SeesL K F ds vs → SeesL K (hideL F S) ds vs
  | [], [], _, h => h
  | [], _ :: _, _, h => h.elim
  | _ :: _, [], _, h => h.elim
  | d :: ds, v :: vs, e, h => by
    rw [List.all_cons, Bool.and_eq_true] at e
    refine ⟨?_, stages_cut od e.2 h.2⟩
    obtain ⟨R, hR⟩ := Option.isSome_iff_exists.mp e.1
    have h1 := h.1
    rw [stageO_eq hR] at h1 ⊢
    exact of_st (st_cut od (st_of h1))
theorem okP_cut {S : List Addr} (od : Odd F S) : ∀ {ts : List OT} {vs : List V} {as : List Addr}, ts.all okP = true → OwnTs K F H ts vs as → OwnTs K (hideL F S) H ts vs as
  | [], [], _, _, h => h
  | [], _ :: _, _, _, h => h.elim
  | _ :: _, [], _, _, h => h.elim
  | t :: ts, v :: vs, as, e, h => by
    rw [List.all_cons, Bool.and_eq_true] at e
    obtain ⟨xs, ys, rfl, h2, h3⟩ := h
    refine ⟨xs, ys, rfl, ?_, okP_cut od e.2 h3⟩
    have e1 := e.1
    unfold okP at e1
    cases r : un1 t with
    | none => rw [r] at e1; exact absurd e1 Bool.false_ne_true
    | some ds =>
      rw [r] at e1
      rw [un1_of r] at h2 ⊢
      obtain ⟨a, us, bs, z1, z2, z3, z4⟩ := h2
      obtain ⟨rfl, s⟩ := own_dats z4
      exact ⟨a, us, [], z1, z2, z3, dats_own (stages_cut od e1 s)⟩
end
end Dn

set_option Elab.async false
set_option linter.all false
set_option maxRecDepth 100000
set_option maxHeartbeats 4000000
namespace Dn
open PySem PySem.Spec PyProof.Rows L2
variable [En]
/-! ### if done(x[k], handed) != due(c, y[k], deed): .. -/
def flatV : D → Bool
  | .int _ => true
  | .bool _ => true
  | _ => false
def handK : OT → Bool
  | .tup [.dat _, .dat _, .dat _] => true
  | .tup [.dat _, .lst us, .dat _] => (match un1 (.lst us) with
    | some (x :: _) => flatV x
    | _ => false)
  | _ => false
/-- what a def answers wherever the tree lies -/
noncomputable def resA (o : Addr → OT → List D → MRes) (t : OT) (ds : List D) : MRes := by
  classical
  exact if ∀ a, o a t ds = o 0 t ds then o 0 t ds else .bad
theorem resA_of {o : Addr → OT → List D → MRes} {t : OT} {ds : List D} {r : MRes} (h : ∀ a, o a t ds = r) : resA o t ds = r := by
  unfold resA
  rw [if_pos fun a => by rw [h a, h 0]]
  exact h 0
theorem resA_eq {o : Addr → OT → List D → MRes} {t : OT} {ds : List D} {r : MRes} (h : resA o t ds = r) (hb : r ≠ .bad) (a : Addr) : o a t ds = r := by
  unfold resA at h
  split at h
  · rename_i q
    rw [q a, h]
  · exact absurd h.symm hb
noncomputable def gStep (ix jx hx kx cx dx : Nat) (oD oU : Addr → OT → List D → MRes) (g : Ev → Out) : Ev → Out := fun ρ =>
  match ρ[ix]?, ρ[jx]?, ρ[hx]?, ρ[kx]?, ρ[cx]?, ρ[dx]? with
  | some (.ot (.lst ts)), some (.ot (.lst us)), some (.ot th), some (.d (.int (.ofNat k))), some (.d c), some (.d de) =>
    (match ts[k]?, us[k]?, dOT th with
    | some t, some u, some hd =>
      (match resA oD t [.none, hd], resA oU u [c, .none, de] with
      | .ok t' d1, .ok u' d2 =>
        (match (oNe d1 d2).bind asB with
        | .ok b => if ((okS t && okP u) && ((ts.set k t').all okS && (us.set k u').all okP)) = true then
            (let ρ3 := ((ρ.set hx (.d hd)).set ix (.ot (.lst (ts.set k t')))).set jx (.ot (.lst (us.set k u')))
            let ρ4 := if handK th = true then ρ3.set hx (.ot th) else ρ3
            if b = true then g ρ4 else .nx ρ4) else .bad
        | _ => .bad)
      | _, _ => .bad)
    | _, _, _ => .bad)
  | _, _, _, _, _, _ => .bad
section
variable {K : PySem.W.Frag} {P : Program} {w : World} {F F' H H' H0 F0 : Hp} {ρ ρ' : Ev} {σ : L2.St} {A : Nat → List Addr}
theorem hand_odd {th : OT} {v : V} {bs : List Addr} {F2 : Hp} (h : handK th = true) (o : OwnT K F H th v bs) (e : ∀ x ∈ bs, F2 x = H x) : Odd F2 bs := by
  unfold handK at h
  split at h
  · obtain ⟨a, vs, _, _, o⟩ := o
    have z := (own_dats (ds := [_, _, _]) o).1
    rw [z]
    exact fun x hx => nomatch hx
  · rename_i d1 us d2
    obtain ⟨a, vs, _, _, o⟩ := o
    cases q : un1 (.lst us) with
    | none => rw [q] at h; cases h
    | some ds =>
      cases ds with
      | nil => rw [q] at h; cases h
      | cons x ds =>
        rw [q] at h
        rw [un1_of q] at o
        cases vs with
        | nil => exact o.elim
        | cons v1 vs =>
          obtain ⟨xs, ys, rfl, o1, o2⟩ := o
          have e1 : xs = [] := o1.1
          subst e1
          cases vs with
          | nil => exact o2.elim
          | cons v2 vs =>
            obtain ⟨xs, zs, rfl, o3, o4⟩ := o2
            have e2 := (own_dats (ds := [d2]) o4).1
            subst e2
            obtain ⟨l, us', ws, rfl, rfl, h3, o5⟩ := o3
            obtain ⟨rfl, s5⟩ := own_dats o5
            cases us' with
            | nil => exact s5.elim
            | cons u0 us' =>
              intro y hy
              have ey : y = l := by simpa using hy
              subst ey
              refine ⟨u0, us', ?_, fun b hb => ?_⟩
              · rw [e y hy, h3]
              · have s6 := s5.1
                rw [hb] at s6
                have h' : flatV x = true := h
                cases x with
                | int i => cases (show V.ref b = V.int i from s6)
                | bool i => cases (show V.ref b = V.bl i from s6)
                | _ => cases h'
  · cases h
/-- what was taken as data is the frame's own again -/
theorem Rep.thaw {ρ3 : Ev} {H2 F2 : Hp} {A3 : Nat → List Addr} {hx ix jx : Nat} {th : OT} {v : V} {bs : List Addr} {ts us : List OT} (R : Rep K P w H0 F0 ρ σ H F A) (R3 : Rep K P w H0 F0 ρ3 σ H2 F2 A3) (ev : σ[hx]? = some (some v)) (o : OwnT K F H th v bs) (hA : ∀ x ∈ bs, x ∈ A hx) (nd : bs.Nodup)
    (e0 : ∀ x ∈ bs, F2 x = H x) (sf : Same F F2) (od : Odd F2 bs) (kx : ∀ j, j ≠ hx → j ≠ ix → j ≠ jx → ρ3[j]? = ρ[j]? ∧ A3 j = A j ∧ ∀ x ∈ A j, H2 x = H x) (hi : ρ3[ix]? = some (.ot (.lst ts))) (hj : ρ3[jx]? = some (.ot (.lst us))) (hts : ts.all okS = true) (hus : us.all okP = true) (n1 : hx ≠ ix) (n2 : hx ≠ jx) :
    ∃ A4, Rep K P w H0 F0 (ρ3.set hx (.ot th)) σ H2 (hideL F2 bs) A4 := by
  have hl : hx < ρ3.length := by
    have := (List.getElem?_eq_some_iff.mp ev).1
    rw [R3.len] at this
    exact this
  have nF : ∀ x ∈ bs, F x = none := fun x hx' => (R.fr hx x (hA x hx')).1
  have sm : Same F (hideL F2 bs) := fun a u q => by
    rw [hide_out fun z => by rw [nF a z] at q; cases q]
    exact sf _ _ q
  have eb : ∀ x ∈ bs, H2 x = H x := fun x hx' => by
    cases q : H x with
    | none => exact absurd q (R.fr hx x (hA x hx')).2.2.1
    | some u => exact R3.sub _ _ (by rw [e0 x hx', q])
  refine ⟨setA A3 hx bs, ⟨⟨fun a u q => sm _ _ (R.base.ff _ _ q), R3.base.hh, fun a u q => ?_, fun x q => ?_⟩, by rw [List.length_set]; exact R3.len, fun j c hc => ?_, fun j x hx' => ?_, fun j k x hj' hk => ?_, R3.tk⟩⟩
  · by_cases z : a ∈ bs
    · rw [hide_in z] at q; cases q
    · rw [hide_out z] at q
      exact R3.sub _ _ q
  · by_cases z : x ∈ bs
    · rw [hide_in z] at q; exact absurd rfl q
    · rw [hide_out z] at q
      exact R3.base.nw x q
  · by_cases e : j = hx
    · subst e
      rw [List.getElem?_set_self hl] at hc
      have e3 := Option.some.inj hc
      subst e3
      unfold setA
      rw [if_pos rfl]
      exact ⟨v, bs, fun _ h => h, nd, by rw [ev]; rfl, OwnT.mono sm th v bs eb o⟩
    · rw [List.getElem?_set_ne (fun z => e z.symm)] at hc
      unfold setA
      rw [if_neg e]
      by_cases e1 : j = ix
      · subst e1
        rw [hi] at hc
        have e3 := Option.some.inj hc
        subst e3
        obtain ⟨v', cs, c1, c2, c3, a, vs, ds, rfl, rfl, c4, c5⟩ := R3.cel j _ hi
        exact ⟨.ref a, a :: ds, c1, c2, c3, a, vs, ds, rfl, rfl, c4, okS_cut od hts c5⟩
      · by_cases e2 : j = jx
        · subst e2
          rw [hj] at hc
          have e3 := Option.some.inj hc
          subst e3
          obtain ⟨v', cs, c1, c2, c3, a, vs, ds, rfl, rfl, c4, c5⟩ := R3.cel j _ hj
          exact ⟨.ref a, a :: ds, c1, c2, c3, a, vs, ds, rfl, rfl, c4, okP_cut od hus c5⟩
        · obtain ⟨k1, k2, k3⟩ := kx j e e1 e2
          rw [k1] at hc
          rw [k2]
          exact (R.cel j c hc).mono sm k3
  · unfold setA at hx'
    by_cases e : j = hx
    · rw [if_pos e] at hx'
      obtain ⟨f1, f2, f3, f4⟩ := R.fr hx x (hA x hx')
      exact ⟨hide_in hx', f2, by rw [eb x hx']; exact f3, by rw [eb x hx']; exact f4⟩
    · rw [if_neg e] at hx'
      obtain ⟨f1, f2, f3, f4⟩ := R3.fr j x hx'
      refine ⟨?_, f2, f3, f4⟩
      by_cases z : x ∈ bs
      · exact hide_in z
      · rw [hide_out z]; exact f1
  · have no : ∀ x j, x ∈ bs → x ∈ A3 j → False := fun x j h1 h2 => by
      have z := (R3.fr j x h2).1
      rw [e0 x h1] at z
      exact (R.fr hx x (hA x h1)).2.2.1 z
    unfold setA at hj' hk
    by_cases e : j = hx
    · rw [if_pos e] at hj'
      by_cases e' : k = hx
      · rw [e, e']
      · rw [if_neg e'] at hk
        exact (no x k hj' hk).elim
    · rw [if_neg e] at hj'
      by_cases e' : k = hx
      · rw [if_pos e'] at hk
        exact (no x j hk hj').elim
      · rw [if_neg e'] at hk
        exact R3.dj j k x hj' hk
theorem okS_ref {t : OT} {v : V} {as : List Addr} (h : okS t = true) (o : OwnT K F H t v as) : ∃ a, v = .ref a := by
  cases t with
  | ssn c Rs =>
    obtain ⟨a, _, _, _, e, _⟩ := o
    exact ⟨a, e⟩
  | _ => cases h
theorem okP_ref {t : OT} {v : V} {as : List Addr} (h : okP t = true) (o : OwnT K F H t v as) : ∃ a, v = .ref a := by
  unfold okP at h
  cases r : un1 t with
  | none => rw [r] at h; cases h
  | some ds =>
    rw [un1_of r] at o
    obtain ⟨a, _, _, e, _⟩ := o
    exact ⟨a, e⟩
variable {X : Cx} {cl : Nat → Addr} {W : WX} {c : Expr} {pos : Pos}
theorem ds_step {ix jx hx kx cx dx : Nat} {oD oU : Addr → OT → List D → MRes} {s1 : List Stmt} {g : Ev → Out}
    (h : PT X c (tTest (tOp (rNeD X.K) (tCallS (spM X.K cl 2 0 oD) (WE W) (tCons (tOp (rIx X.K) (tVar ix) (tVar kx)) (tCons (tVar hx) tNil))) (tCallS (spM X.K cl 3 1 oU) (WE W) (tCons (tVar cx) (tCons (tOp (rIx X.K) (tVar jx) (tVar kx)) (tCons (tVar dx) tNil)))))))
    (hg : DSs X cl W s1 g) (n1 : hx ≠ ix) (n2 : hx ≠ jx) (n3 : ix ≠ jx) : DS X cl W (.If c s1 [] pos) (gStep ix jx hx kx cx dx oD oU g) := PS_imp (ps_if h hg (dss_nil (cl := cl) (W := W))) fun De σ H q => by
  obtain ⟨H0, F0, ρ, F, A, R, p⟩ := q
  unfold gStep at p
  split at p
  case h_2 => exact p.elim
  rename_i ts us th k c de q1 q2 q3 q4 q5 q6
  split at p
  case h_2 => exact p.elim
  rename_i t u hd r1 r2 r3
  split at p
  case h_2 => exact p.elim
  rename_i t' d1 u' d2 a1 a2
  split at p
  case h_2 => exact p.elim
  rename_i b hb
  by_cases hk : ((okS t && okP u) && ((ts.set k t').all okS && (us.set k u').all okP)) = true
  case neg => rw [if_neg hk] at p; exact p.elim
  rw [if_pos hk] at p
  rw [Bool.and_eq_true, Bool.and_eq_true, Bool.and_eq_true] at hk
  obtain ⟨⟨k1, k2⟩, k3, k4⟩ := hk
  have hil : ix < ρ.length := (List.getElem?_eq_some_iff.mp q1).1
  have hjl : jx < ρ.length := (List.getElem?_eq_some_iff.mp q2).1
  -- handed, as data
  obtain ⟨hv, bs, ehv, oth, hbA, hbn, sF, eF, shd, Rf⟩ := R.frzAt q3 r3
  have q1f : (ρ.set hx (.d hd))[ix]? = some (.ot (.lst ts)) := by rw [List.getElem?_set_ne n1]; exact q1
  obtain ⟨a, vs, v, xs, e1, e2, e3, e4, e5, e6, sw⟩ := Rf.swapK q1f r1
  obtain ⟨va, rfl⟩ := okS_ref k1 e4
  obtain ⟨kv, ek1, ek2⟩ := R.cel kx _ q4
  have ek3 : kv = V.int (k : Int) := ek2
  subst ek3
  obtain ⟨cv, ec1, ec2⟩ := R.cel cx _ q5
  obtain ⟨dv, ed1, ed2⟩ := R.cel dx _ q6
  refine ⟨.ref a, e1, .int (k : Int), R.get ek1, .inl ⟨a, vs, (k : Int), .ref va, rfl, rfl, SqL.of e2, atI_nat e3, hv, ehv, ?_⟩⟩
  have Fn : ∀ x ∈ xs, updL F H bs x = none := fun x hx' => (Rf.fr ix x (e6 x hx')).1
  refine ⟨[.none, hd], updL F H bs, t, va, xs, rfl, rfl, e4, e5, Fn, ⟨rfl, shd, True.intro⟩, Rf.sub, Rf.tok, ?_⟩
  rw [resA_eq a1 (fun z => by cases z) va]
  intro w1 xs' H1 F1 g1 o1 nd1 fr1 s1
  obtain ⟨A1, R1, ja1, jh1⟩ := sw g1 o1 nd1 fr1
  have q2f : ((ρ.set hx (.d hd)).set ix (.ot (.lst (ts.set k t'))))[jx]? = some (.ot (.lst us)) := by
    rw [List.getElem?_set_ne n3, List.getElem?_set_ne n2]; exact q2
  obtain ⟨a', vs', v', ys, e1', e2', e3', e4', e5', e6', sw'⟩ := R1.swapK q2f r2
  obtain ⟨va', rfl⟩ := okP_ref k2 e4'
  refine ⟨cv, R.get ec1, .ref a', e1', .int (k : Int), R.get ek1, .inl ⟨a', vs', (k : Int), .ref va', rfl, rfl, SqL.of e2', atI_nat e3', dv, R.get ed1, ?_⟩⟩
  have sF1 : Same F F1 := sF.trans g1.ff
  refine ⟨[c, .none, de], F1, u, va', ys, rfl, rfl, e4', e5', fun x hx' => (R1.fr jx x (e6' x hx')).1, ⟨ec2.mono sF1, rfl, ed2.mono sF1, True.intro⟩, R1.sub, R1.tok, ?_⟩
  rw [resA_eq a2 (fun z => by cases z) va']
  intro w2 ys' H2 F2 g2 o2 nd2 fr2 s2
  obtain ⟨A2, R2, ja2, jh2⟩ := sw' g2 o2 nd2 fr2
  refine od_ne (K := X.K) cl W σ d1 d2 w1 w2 H2 F2 _ R2.sub (s1.mono g2.ff) s2 ?_
  cases hn : oNe d1 d2 with
  | bad => rw [hn] at hb; cases hb
  | ex _ => rw [hn] at hb; cases hb
  | ok bd =>
    rw [hn] at hb
    cases bd with
    | bool b' =>
      have eb : b' = b := by
        have : Res.ok b' = Res.ok b := hb
        injection this
      subst eb
      intro z H3 F3 g3 sz
      refine ⟨b', sz, ?_⟩
      have R3 := R2.grow g3
      have fin : ∀ ρ4 F4 A4, Rep X.K X.prog X.w H0 F0 ρ4 σ H3 F4 A4 → Fin X.K X.prog X.w cl W H0 F0 De (if b' = true then g ρ4 else .nx ρ4) → if b' = true then tS X.K X.prog X.w cl W g De σ H3 else tS X.K X.prog X.w cl W gNil De σ H3 := fun ρ4 F4 A4 R4 p4 => by
        cases b' with
        | true => exact ⟨H0, F0, ρ4, F4, A4, R4, p4⟩
        | false => exact ⟨H0, F0, ρ4, F4, A4, R4, p4⟩
      by_cases ht : handK th = true
      · have p4 : Fin X.K X.prog X.w cl W H0 F0 De (if b' = true then g ((((ρ.set hx (.d hd)).set ix (.ot (.lst (ts.set k t')))).set jx (.ot (.lst (us.set k u')))).set hx (.ot th)) else .nx ((((ρ.set hx (.d hd)).set ix (.ot (.lst (ts.set k t')))).set jx (.ot (.lst (us.set k u')))).set hx (.ot th))) := by
          have p' := p
          dsimp only at p'
          rw [if_pos ht] at p'
          exact p'
        have sF3 : Same (updL F H bs) F3 := (g1.ff.trans g2.ff).trans g3.ff
        have e0 : ∀ x ∈ bs, F3 x = H x := fun x hx' => by
          cases q : H x with
          | none => exact absurd q (R.fr hx x (hbA x hx')).2.2.1
          | some o => exact sF3 _ _ (by rw [eF x hx', q])
        have l1 : ix < ((ρ.set hx (.d hd))).length := by rw [List.length_set]; exact hil
        have keep : ∀ j, j ≠ hx → j ≠ ix → j ≠ jx → ∀ x ∈ A j, H3 x = H x := fun j h1 h2 h3 x hx' => by
          have hx1 : x ∈ setA A hx [] j := by
            unfold setA
            rw [if_neg h1]
            exact hx'
          have hx2 : x ∈ A1 j := by rw [ja1 j h2]; exact hx1
          have hx3 : x ∈ A2 j := by rw [ja2 j h3]; exact hx2
          have y1 := jh1 j h2 x hx1
          have y2 := jh2 j h3 x hx2
          obtain ⟨f1, f2, f3, f4⟩ := R2.fr j x hx3
          have y3 : H3 x = H2 x := by
            cases q : H2 x with
            | none => exact absurd q f3
            | some o =>
              rw [q] at f4
              exact g3.hh.get q fun z => f4 z.tt
          rw [y3, y2, y1]
        obtain ⟨A4, R4⟩ := R.thaw (hx := hx) (ix := ix) (jx := jx) (th := th) (ts := ts.set k t') (us := us.set k u') R3 ehv oth hbA hbn e0 (sF.trans sF3) (hand_odd ht oth e0) (fun j h1 h2 h3 => ⟨by
            rw [List.getElem?_set_ne (fun z => h3 z.symm), List.getElem?_set_ne (fun z => h2 z.symm), List.getElem?_set_ne (fun z => h1 z.symm)], by
            rw [ja2 j h3, ja1 j h2]
            exact if_neg h1, keep j h1 h2 h3⟩) (by
            rw [List.getElem?_set_ne (fun z => n3 z.symm)]
            exact List.getElem?_set_self l1) (List.getElem?_set_self (by rw [List.length_set, List.length_set]; exact hjl)) k3 k4 n1 n2
        exact fin _ _ _ R4 p4
      · have p4 : Fin X.K X.prog X.w cl W H0 F0 De (if b' = true then g (((ρ.set hx (.d hd)).set ix (.ot (.lst (ts.set k t')))).set jx (.ot (.lst (us.set k u')))) else .nx (((ρ.set hx (.d hd)).set ix (.ot (.lst (ts.set k t')))).set jx (.ot (.lst (us.set k u'))))) := by
          have p' := p
          dsimp only at p'
          rw [if_neg ht] at p'
          exact p'
        exact fin _ _ _ R3 p4
    | _ => cases hb
end
end Dn

set_option Elab.async false
set_option linter.all false
set_option maxRecDepth 100000
set_option maxHeartbeats 4000000
namespace Dn
open PySem PySem.Spec PyProof.Rows L2
variable [En]
section
variable {X : Cx} {cl : Nat → Addr} {W : WX} {e tg a b c : Expr} {pos : Pos} {K : PySem.W.Frag} {P : Program} {w : World} {F F' H H' H0 F0 : Hp} {ρ ρ' : Ev} {σ : L2.St} {A : Nat → List Addr}
/-! ### a if c else b, (a, b): new trees -/
def oIfT (t : Ev → Res Bool) (f g : Ev → Res OT) : Ev → Res OT := fun ρ => (t ρ).bind fun k => if k = true then f ρ else g ρ
theorem PostTr.bind {β γ : Type} {S : Hp → β → γ → Prop} {r : Res β} {k : β → Res OT} {Q : VK} (p : PostTr K cl W σ H F (r.bind k) Q) : Post S cl W σ H F r (fun v H1 => ∃ F1 x, r = .ok x ∧ Gr H F H1 F1 ∧ S F1 x v ∧ PostTr K cl W σ H1 F1 (k x) Q) := by
  cases r with
  | ok x => exact fun v H1 F1 g s => ⟨F1, x, rfl, g, s, PostOT.grow g p⟩
  | ex c => exact p
  | bad => exact p
theorem dnt_if {t : Ev → Res Bool} {f g : Ev → Res OT} (hc : DT X cl W c t) (ha : DNT X cl W a f) (hb : DNT X cl W b g) : DNT X cl W (.IfExp c a b pos) (oIfT t f g) := PE_imp (pe_ifExp hc ha hb) fun σ H Q h => by
  obtain ⟨H0, F0, ρ, F, A, R, p⟩ := h
  refine ⟨H0, F0, ρ, F, A, R, (PostTr.bind (S := SB) p).imp fun v H1 ⟨F1, x, _, g1, s1, p1⟩ => ?_⟩
  have s1' : x = v := s1
  subst s1'
  cases x with
  | true => exact ⟨H0, F0, ρ, F1, A, R.grow g1, p1⟩
  | false => exact ⟨H0, F0, ρ, F1, A, R.grow g1, p1⟩
def oTupT (f : Ev → Res (List OT)) : Ev → Res OT := fun ρ => (f ρ).bind fun ts => if ts.length ≤ big then .ok (.tup ts) else .bad
theorem dnt_tup {es : List Expr} {kt : Nat} {f : Ev → Res (List OT)} (h : DATs X cl W es f) : DNT X cl W (.Tuple es kt pos) (oTupT f) := PE_imp (pe_tup h) fun σ H Q q => by
  obtain ⟨H0, F0, ρ, F, A, R, p⟩ := q
  refine ⟨H0, F0, ρ, F, A, R, ?_⟩
  unfold oTupT at p
  cases r : f ρ with
  | bad => rw [r] at p; exact p
  | ex c => rw [r] at p; exact p
  | ok ts =>
    rw [r] at p
    have p1 : PostTr X.K cl W σ H F (if ts.length ≤ big then .ok (.tup ts) else .bad) Q := p
    by_cases hb : ts.length ≤ big
    · rw [if_pos hb] at p1
      refine fun vs as H1 F1 g1 nd h1 o1 => ⟨big_le (by rw [← owns_len o1]; exact hb), fun q hq => ?_⟩
      have gn := Gr.new (o := .tup vs) g1.fh hq
      have g2 := g1.trans gn
      have nq : ∀ x ∈ as, x ≠ q := fun x hx e => (owns_there o1 x hx).1 (by rw [e]; exact hq)
      refine p1 (.ref q) as _ _ g2 nd (fun x hx => ⟨(h1 x hx).1, ?_⟩) ⟨q, vs, rfl, upd_same, owns_stay gn o1⟩
      rw [upd_ne (nq x hx)]
      exact (h1 x hx).2
    · rw [if_neg hb] at p1
      exact p1.elim
/-! ### a list of trees, by a comprehension -/
def nCompT (src : Ev → Res (List D)) (bnd : D → Ev → Option Ev) (t : Ev → Res Bool) (e : Ev → Res OT) (vs : List Nat) : Ev → Res OT := fun ρ => (src ρ).bind fun ds => if ds.length ≤ big then ofO ((compO bnd t e (wipeC ρ vs) ds).map OT.lst) else .bad
theorem tx_lcT {src : Ev → Res (List D)} {bnd : D → Ev → Option Ev} {t : Ev → Res Bool} {te : Ev → Res OT} {vs js : List Nat} (hj : ∀ j ∈ js, j ∈ vs) : ∀ σ H Q, tTr K P w cl W (nCompT src bnd t te vs) σ H Q →
    tLc (tX K P w (SW K) cl W src) (tG K P w bnd js) (tX K P w SB cl W0 t) (tTr K P w cl W0 te) vs σ H Q := fun σ H Q h => by
  obtain ⟨H0, F0, ρ, F, A, R, p⟩ := h
  refine ⟨H0, F0, ρ, F, A, R, (PostTr.bind (S := SW K) p).imp fun J H1 ⟨F1, ds, _, g1, wk, p1⟩ => fun Dl hD => ?_⟩
  have R1 := R.grow g1
  by_cases hb : ds.length ≤ big
  case neg => rw [if_neg hb] at p1; exact p1.elim
  rw [if_pos hb] at p1
  cases hc : compO bnd t te (wipeC ρ vs) ds with
  | none => rw [hc] at p1; exact p1.elim
  | some ys =>
    rw [hc] at p1
    have hF1 : F1 Dl = none := g1.fh.free hD
    let Pv : Nat → Hp → Prop := fun i H' => ∃ F' us bs ys1 ys2, Gr H1 F1 H' F' ∧ (Dl :: bs).Nodup ∧ (∀ x ∈ Dl :: bs, H1 x = none ∧ F' x = none) ∧ H' Dl = some (.lst us) ∧ OwnTs K F' H' ys1 us bs ∧ compO bnd t te (wipeC ρ vs) (ds.drop i) = some ys2 ∧ ys = ys1 ++ ys2 ∧ ys1.length ≤ i
    refine ⟨fun i m H' => m = ds.length - i ∧ i ≤ ds.length ∧ Pv i H', ⟨ds.length, by omega, Nat.zero_le _, F1, [], [], [], ys, Gr.out g1.fh hD, by simp, (fun x hx => by
      rw [List.mem_singleton.mp hx]
      exact ⟨hD, hF1⟩), upd_same, rfl, hc, rfl, Nat.le_refl _⟩, fun i m H' hw => ?_⟩
    obtain ⟨em, hi, F', us, bs, ys1, ys2, g, nd, hx, hH, hs, hcd, ey, hl⟩ := hw
    by_cases hlt : i < ds.length
    · refine .inr ⟨wk.go i H' F' g.ff g.fh hlt, Pv (i + 1), fun H'' pw => ⟨ds.length - (i + 1), by omega, rfl, by omega, pw⟩, fun x H2 y => ?_⟩
      obtain ⟨F2, d, hd, g2, sx⟩ := wk.yld i H' F' x H2 g.ff g.fh hlt y
      have keep : ∀ {H3 F3 : Hp}, Gr H' F' H3 F3 → (∀ x ∈ Dl :: bs, H1 x = none ∧ F3 x = none) ∧ H3 Dl = some (.lst us) ∧ OwnTs K F3 H3 ys1 us bs := fun {H3 F3} g3 => by
        refine ⟨fun x hx' => ⟨(hx x hx').1, ?_⟩, g3.hh.get hH, owns_stay g3 hs⟩
        rcases List.mem_cons.mp hx' with z | z
        · rw [z]
          exact g3.keepN (hx Dl List.mem_cons_self).2 hH
        · obtain ⟨z1, z2⟩ := owns_there hs x z
          exact g3.keepX (hx x hx').2 z1 z2
      obtain ⟨Aw, Rw, _⟩ := ((R1.grow g).grow g2).wipe vs
      rw [drop_cons hd] at hcd
      unfold compO at hcd
      cases hbd : bnd d (wipeC ρ vs) with
      | none => rw [hbd] at hcd; cases hcd
      | some ρ1 =>
        rw [hbd] at hcd
        refine ⟨H0, F0, wipeC ρ vs, F2, Aw, d, ρ1, Rw, sx, hbd, fun σ3 A3 R3 w3 => ⟨?_, ?_⟩⟩
        · rw [w3 vs hj, wipe_wipe]
        · have hcd' := hcd
          dsimp only at hcd'
          cases ht : t ρ1 with
          | bad => rw [ht] at hcd'; cases hcd'
          | ex c => rw [ht] at hcd'; cases hcd'
          | ok bb =>
            rw [ht] at hcd'
            refine ⟨H0, F0, ρ1, F2, A3, R3, ?_⟩
            rw [ht]
            refine fun b H3 F3 g3 sb => ?_
            have eb : bb = b := sb
            subst eb
            cases bb with
            | false =>
              have hcd2 : compO bnd t te (wipeC ρ vs) (ds.drop (i + 1)) = some ys2 := hcd'
              obtain ⟨k1, k2, k3⟩ := keep (g2.trans g3)
              exact ⟨F3, us, bs, ys1, ys2, (g.trans g2).trans g3, nd, k1, k2, k3, hcd2, ey, by omega⟩
            | true =>
              have hcd2 := hcd'
              dsimp only at hcd2
              refine ⟨H0, F0, ρ1, F3, A3, R3.grow g3, ?_⟩
              cases hte : te ρ1 with
              | bad => rw [hte] at hcd2; cases hcd2
              | ex c => rw [hte] at hcd2; cases hcd2
              | ok y =>
                rw [hte] at hcd2
                refine fun v as H4 F4 g4 nda ha ov => ?_
                obtain ⟨k1, k2, k3⟩ := keep ((g2.trans g3).trans g4)
                obtain ⟨_, k2', k3'⟩ := keep (g2.trans g3)
                cases hcr : compO bnd t te (wipeC ρ vs) (ds.drop (i + 1)) with
                | none => rw [hcr] at hcd2; cases hcd2
                | some ys3 =>
                  rw [hcr] at hcd2
                  have e2 : y :: ys3 = ys2 := Option.some.inj hcd2
                  have hna : ∀ x ∈ as, x ∉ Dl :: bs := fun x hx z => by
                    have h3 := (ha x hx).1
                    rcases List.mem_cons.mp z with z | z
                    · rw [z, k2'] at h3; cases h3
                    · exact (owns_there k3' x z).1 h3
                  have h1a : ∀ x ∈ as, H1 x = none := fun x hx => ((g.trans g2).trans g3).hh.free (ha x hx).1
                  have nd' := List.nodup_cons.mp nd
                  have o1 : OwnTs K F4 (L2.upd H4 Dl (.lst (us ++ [v]))) ys1 us bs := OwnTs.mono (Same.refl _) _ _ _ (fun x hx => upd_ne fun z => nd'.1 (by rw [← z]; exact hx)) k3
                  have o2 : OwnT K F4 (L2.upd H4 Dl (.lst (us ++ [v]))) y v as := OwnT.mono (Same.refl _) _ _ _ (fun x hx => upd_ne fun z => hna x hx (by rw [z]; exact List.mem_cons_self)) ov
                  have o3 := owns_app (us := [y]) (ws := [v]) (bs := as) o1 ⟨as, [], by rw [List.append_nil], o2, rfl⟩
                  refine ⟨us, k2, big_lt (by rw [← owns_len k3]; omega), F4, us ++ [v], bs ++ as, ys1 ++ [y], ys3, (((g.trans g2).trans g3).trans g4).upd hD (k1 Dl List.mem_cons_self).2, ?_, fun x hx' => ?_, upd_same, o3, hcr, ?_, ?_⟩
                  · refine List.nodup_cons.mpr ⟨fun z => ?_, List.nodup_append.mpr ⟨nd'.2, nda, fun x hx1 y hy e => ?_⟩⟩
                    · rcases List.mem_append.mp z with z | z
                      · exact nd'.1 z
                      · exact hna Dl z List.mem_cons_self
                    · rw [← e] at hy
                      exact hna x hy (List.mem_cons_of_mem _ hx1)
                  · rcases List.mem_cons.mp hx' with z | z
                    · rw [z]; exact k1 Dl List.mem_cons_self
                    · rcases List.mem_append.mp z with z | z
                      · exact k1 x (List.mem_cons_of_mem _ z)
                      · exact ⟨h1a x z, (ha x z).2⟩
                  · rw [ey, ← e2, List.append_assoc]
                    rfl
                  · rw [List.length_append]
                    show ys1.length + 1 ≤ i + 1
                    omega
    · have ei : i = ds.length := by omega
      subst ei
      refine .inl ⟨wk.stop H' F' g.ff g.fh, ?_⟩
      rw [List.drop_length] at hcd
      have e2 : [] = ys2 := Option.some.inj hcd
      rw [← e2, List.append_nil] at ey
      rw [ey] at p1
      exact p1 (.ref Dl) (Dl :: bs) H' F' g nd hx ⟨Dl, us, bs, rfl, rfl, hH, hs⟩
theorem dnt_lc {elt iter : Expr} {ifs : List Expr} {scope : Scope} {own : List (Str × Nat)} {src : Ev → Res (List D)} {bnd : D → Ev → Option Ev} {js : List Nat} {t : Ev → Res Bool} {te : Ev → Res OT} (hN : X.N.Nodup) (ok : BlkOk X.N X.env.scope scope own) (hi : DI X cl W tg iter src)
    (hg : ∀ (s : Shared) (H : Hp) (C : Addr) (cl : List (Str × Addr)) (fp : List Addr), DG (X.blk s H scope (compEnvC scope cl C X.env) fp) tg bnd js)
    (ht : ∀ (s : Shared) (H : Hp) (C : Addr) (cl' : List (Str × Addr)) (fp : List Addr), DTs (X.blk s H scope (compEnvC scope cl' C X.env) fp) cl W0 ifs t)
    (he : ∀ (s : Shared) (H : Hp) (C : Addr) (cl' : List (Str × Addr)) (fp : List Addr), DNT (X.blk s H scope (compEnvC scope cl' C X.env) fp) cl W0 elt te)
    (hj : ∀ j ∈ js, j ∈ own.map (·.2)) (hc : X.calm = true := by rfl) (hs : ∀ x, foldedSetIterable iter X.env x = pure x := by intro _; rfl) :
    DNT X cl W (.ListComp elt [⟨tg, iter, ifs, 0⟩] scope pos) (nCompT src bnd t te (own.map (·.2))) := PE_imp (pe_lc hc hN hi ok hg ht he hs) (tx_lcT hj)
/-! ### x[0].append('..'), x a list of lists of the frame's own -/
def gApp0 (i : Nat) (d : D) : Ev → Out := fun ρ => match ρ[i]? with
  | some (.own2 (ds :: r)) => if ds.length < big then .nx (ρ.set i (.own2 ((ds ++ [d]) :: r))) else .bad
  | _ => .bad
theorem ds_app0 {i : Nat} {x : Expr} {y : Str} {apos cpos spos ipos ypos : Pos} {k k' : Nat} (h : PE X (.Call (.Attribute (.Subscript x (.Constant (.int 0) k ipos) spos) "append" apos) [.Constant (.str y) k' ypos] [] cpos) (tBM X.K "list" rAppend (tOp (rIx X.K) (tVar i) (tC (.int 0))) (tCons (tC (.str y)) tNil)))
    (hs : swapsWith (.Call (.Attribute (.Subscript x (.Constant (.int 0) k ipos) spos) "append" apos) [.Constant (.str y) k' ypos] [] cpos) none pos.line X.env = pure false := by rfl) :
    DS X cl W (.Expr (.Call (.Attribute (.Subscript x (.Constant (.int 0) k ipos) spos) "append" apos) [.Constant (.str y) k' ypos] [] cpos) pos) (gApp0 i (.str y)) := PS_imp (ps_expr h hs) fun De σ H q => by
  obtain ⟨H0, F0, ρ, F, A, R, p⟩ := q
  unfold gApp0 at p
  split at p
  · rename_i ds r hq
    by_cases hl : ds.length < big
    case neg => rw [if_neg hl] at p; exact p.elim
    rw [if_pos hl] at p
    obtain ⟨a, bs, h1, h2, h3, h4, h5, h6⟩ := R.cel i _ hq
    cases bs with
    | nil => exact h6.elim
    | cons b bs =>
      obtain ⟨⟨xs, hb, hs⟩, ho⟩ := h6
      have nab : a ≠ b := fun z => (List.nodup_cons.mp h3).1 (by rw [z]; exact List.mem_cons_self)
      have nb : b ∉ bs := (List.nodup_cons.mp (List.nodup_cons.mp h3).2).1
      refine ⟨.ref a, R.get h4, .inl ⟨a, _, 0, .ref b, rfl, rfl, SqL.of h5, atI_nat (j := 0) rfl, .inl ⟨rfl, xs, SqL.of hb⟩, b, xs, .str y, rfl, rfl, hb, big_lt (by rw [← hs.length]; exact hl), ?_⟩⟩
      refine p _ _ _ _ (R.change (c' := .own2 ((ds ++ [.str y]) :: r)) (o := .lst (xs ++ [.str y])) (h2 b List.mem_cons_self) (fun z => z) ⟨a, b :: bs, h1, h2, h3, h4, by rw [upd_ne nab]; exact h5, ⟨xs ++ [.str y], upd_same, hs.app (SeesL.one (d := .str y) (v := .str y) rfl)⟩, ho.mono (Same.refl _) fun c hc => upd_ne fun z => nb (by rw [← z]; exact hc)⟩)
  · exact p.elim
/-! ### x[1].clear(), x a tuple that holds a list, and is not asked again -/
def gClr1 (i : Nat) : Ev → Out := fun ρ => match ρ[i]? with
  | some (.d (.tuple [_, .list [], _])) => .nx ρ
  | some (.ot (.tup [.dat _, .lst _, .dat _])) => .nx (ρ.set i .no)
  | _ => .bad
theorem ds_clr1 {i : Nat} {x : Expr} {apos cpos spos ipos : Pos} {k : Nat} (h : PE X (.Call (.Attribute (.Subscript x (.Constant (.int 1) k ipos) spos) "clear" apos) [] [] cpos) (tBM0 X.K "list" rClear (tOp (rIx X.K) (tVar i) (tC (.int 1)))))
    (hs : swapsWith (.Call (.Attribute (.Subscript x (.Constant (.int 1) k ipos) spos) "clear" apos) [] [] cpos) none pos.line X.env = pure false := by rfl) :
    DS X cl W (.Expr (.Call (.Attribute (.Subscript x (.Constant (.int 1) k ipos) spos) "clear" apos) [] [] cpos) pos) (gClr1 i) := PS_imp (ps_expr h hs) fun De σ H q => by
  obtain ⟨H0, F0, ρ, F, A, R, p⟩ := q
  unfold gClr1 at p
  split at p
  · rename_i d1 d2 hq
    obtain ⟨v, h1, a, vs, rfl, h2, h3⟩ := R.cel i _ hq
    obtain ⟨u, u1, l, us, rfl, l1, l2⟩ := h3.get (i := 1) (d := .list []) rfl
    cases us with
    | cons _ _ => exact l2.elim
    | nil =>
      have hl := R.sub _ _ l1
      refine ⟨.ref a, R.get h1, .inr (.inl ⟨a, vs, 1, .ref l, rfl, rfl, SqT.of (R.sub _ _ h2), atI_nat (j := 1) u1, .inl ⟨rfl, [], SqL.of hl⟩, l, [], rfl, rfl, hl, ?_⟩)⟩
      rw [upd_id hl]
      exact p _ _ _ _ R
  · rename_i d1 ts d2 hq
    obtain ⟨v, bs, h1, h2, h3, a, vs, rfl, h4, h5⟩ := R.cel i _ hq
    cases vs with
    | nil => exact h5.elim
    | cons v1 vs =>
      obtain ⟨xs, ys, rfl, o1, o2⟩ := h5
      have e1 : xs = [] := o1.1
      subst e1
      cases vs with
      | nil => exact o2.elim
      | cons v2 vs =>
        obtain ⟨xs, zs, rfl, ⟨l, us, cs, rfl, rfl, l1, l2⟩, o4⟩ := o2
        have inl : l ∈ A i := h1 l (by simp)
        refine ⟨.ref a, R.get h3, .inr (.inl ⟨a, _, 1, .ref l, rfl, rfl, SqT.of (R.sub _ _ h4), atI_nat (j := 1) rfl, .inl ⟨rfl, us, SqL.of l1⟩, l, us, rfl, rfl, l1, ?_⟩)⟩
        exact p _ _ _ _ (R.change (c' := .no) (o := .lst []) inl (fun z => z) True.intro)
  · exact p.elim
end
end Dn

set_option Elab.async false
set_option linter.all false
set_option maxRecDepth 100000
set_option maxHeartbeats 4000000
namespace Dn
open PySem PySem.Spec PyProof.Rows L2
variable [En]
/-! ### calls that change a tree, as they stand in an expression -/
section
variable {X : Cx} {cl : Nat → Addr} {W : WX} {e o : Expr} {es : List Expr} {pos p apos : Pos} {k j : Nat} {x m : Str} {sp : Sp} {t : TA} {ta : TE}
theorem pe_calM (tk : Takes X W) (C : Cal X.prog X.w X.K X.mg X.base k x sp) (hr : Room j X.A) (hk : k ≤ j) (ha : PA X (e :: es) t)
    (hg : Gl X x := by rfl) (hdb : (x == ("__debug__" : Str)) = false := by decide) (he : starEach (e :: es) X.env = (false, eval e X.env) :: starEach es X.env := by rfl) (hpl : (backTo pos (starEach es X.env)).any (·.1) = false := by rfl) :
    PE X (.Call (.Name x p) (e :: es) [] pos) (tCallS sp (WE W) t) := by
  obtain ⟨f, fd, ps, G, hm, hkp, hb⟩ := C.ex
  exact pe_callS G (hr.mono hk) hg hm hkp hb (fun σ => passAt tk σ) ha hdb he hpl
theorem pe_onC {pl : Sem Bool} (tk : Takes X W) (c : Cam X.prog X.w X.K X.mg X.base k m sp) (hC : Cls X.K En.sc) (hr : Room j X.A) (hk : k ≤ j) (ho : PE X o ta) (ha : PA X (e :: es) t)
    (hst : starEach (e :: es) X.env = (false, eval e X.env) :: starEach es X.env := by rfl) (hpl : (backTo pos (starEach es X.env)).any (·.1) = false := by rfl)
    (ht : eval (.Call (.Attribute o m apos) (e :: es) [] pos) X.env = (do
      let ov ← eval o X.env
      standAt apos.atName
      let (f, first) ← holding [ov] (getMethod ov m pl)
      callWith pos f first (backTo pos (starEach (e :: es) X.env)) (backToKw pos (keywordEach [] X.env))) := by rfl) :
    PE X (.Call (.Attribute o m apos) (e :: es) [] pos) (tOn En.sc m sp (WE W) ta t) := by
  obtain ⟨f, fd, ps, G, hme, hb⟩ := c.ex
  exact pe_on ho hC hme G (hr.mono hk) hb (fun σ => passAt tk σ) ha hst hpl ht
theorem pe_onC0 {pl : Sem Bool} {i : Nat} (tk : Takes X W) (c : Cam X.prog X.w X.K X.mg X.base k m sp) (hC : Cls X.K En.sc) (hr : Room j X.A) (hk : k ≤ j) (ho : PE X o (tVar i))
    (ht : eval (.Call (.Attribute o m apos) [] [] pos) X.env = (do
      let ov ← eval o X.env
      standAt apos.atName
      let (f, first) ← holding [ov] (getMethod ov m pl)
      callWith pos f first (backTo pos (starEach [] X.env)) (backToKw pos (keywordEach [] X.env))) := by rfl) :
    PE X (.Call (.Attribute o m apos) [] [] pos) (tOn En.sc m sp (WE W) (tVar i) (tX X.K X.prog X.w (SL X.K) cl W aNil)) := by
  obtain ⟨f, fd, ps, G, hme, hb⟩ := c.ex
  refine PE_imp (pe_on0 (E := WE W) ho hC hme G (hr.mono hk) hb (fun σ => passAt tk σ) ht) fun σ H Q q => ?_
  obtain ⟨v, hv, a, dx, fs, e1, e2, e3, H0, F0, ρ, F, A, R, p⟩ := q
  exact ⟨v, hv, a, dx, fs, e1, e2, e3, p [] H F (Gr.refl R.sub) True.intro⟩
end
end Dn

set_option Elab.async false
set_option linter.all false
set_option maxRecDepth 100000
set_option maxHeartbeats 4000000
namespace Dn
open PySem PySem.Spec PyProof.Rows L2
variable [En]
/-! ### rounds put otherwise stay good -/
abbrev Stg := List (List Gm)
def told (R : Stg) : Stg := R.map sortP
theorem sort_eq {a b : List Gm} (p : a.Perm b) : sortP a = sortP b := srtP_uniq (((sortP_perm a).trans p).trans (sortP_perm b).symm) (sortP_srt a) (sortP_srt b)
theorem sort_same (a : List Gm) : sortP (sortP a) = sortP a := sort_eq (sortP_perm a)
theorem told_told (R : Stg) : told (told R) = told R := by
  unfold told
  rw [List.map_map]
  exact List.map_congr_left fun gs _ => sort_same gs
theorem told_len (R : Stg) : (told R).length = R.length := List.length_map _
theorem told_map (f : Gm → Gm) (R : Stg) : told ((told R).map fun gs => gs.map f) = told (R.map fun gs => gs.map f) := by
  unfold told
  rw [List.map_map, List.map_map, List.map_map]
  exact List.map_congr_left fun gs _ => sort_eq ((sortP_perm gs).map f)
theorem told_filter (p : Gm → Bool) (R : Stg) : told ((told R).map fun gs => gs.filter p) = told (R.map fun gs => gs.filter p) := by
  unfold told
  rw [List.map_map, List.map_map, List.map_map]
  exact List.map_congr_left fun gs _ => sort_eq ((sortP_perm gs).filter p)
def picked (R : Stg) (l : List Int) : Stg := l.map fun i => R.getD i.toNat []
theorem told_getD (R : Stg) (n : Nat) : sortP ((told R).getD n []) = sortP (R.getD n []) := by
  unfold told
  rw [List.getD_eq_getElem?_getD, List.getD_eq_getElem?_getD, List.getElem?_map]
  cases R[n]? with
  | none => rfl
  | some gs => exact sort_same gs
theorem picked_perm {R : Stg} {l : List Int} (p : l.Perm ((List.range' 0 R.length).map fun i : Nat => (i : Int))) : (picked R l).Perm R := by
  refine (p.map fun i : Int => R.getD i.toNat []).trans (List.Perm.of_eq ?_)
  rw [List.map_map]
  refine List.ext_getElem? fun n => ?_
  rw [List.getElem?_map]
  by_cases h : n < R.length
  · rw [List.getElem?_range' h]
    show some (R.getD ((((0 + 1 * n : Nat) : Int)).toNat) []) = _
    rw [Int.toNat_natCast, show 0 + 1 * n = n by omega, List.getD_eq_getElem?_getD, List.getElem?_eq_getElem h]
    rfl
  · rw [List.getElem?_eq_none (by rw [List.length_range']; omega), List.getElem?_eq_none (by omega)]
    rfl
theorem good_picked {c : Int} {R : Stg} {l : List Int} (G : GoodRs c R) (p : l.Perm ((List.range' 0 R.length).map fun i : Nat => (i : Int))) : GoodRs c (picked R l) := good_perm (picked_perm p) G
theorem flat_in {c : Int} {R : Stg} (G : GoodRs c R) {g : Gm} (h : g ∈ R.flatten) : inC c g := by
  obtain ⟨gs, h1, h2⟩ := List.mem_flatten.mp h
  exact (G.all gs h1).game g h2
theorem good_ren {n : Nat} {t : Int → Int} {f : Gm → Gm} (T : Renames n t f) (hf : ∀ g, inC (n : Int) g → f (f g) = g) {R : Stg} (G : GoodRs (n : Int) R) : GoodRs (n : Int) (R.map fun gs => gs.map f) := by
  have fl : (R.map fun gs => gs.map f).flatten = R.flatten.map f := List.map_flatten.symm
  refine ⟨fun gs hg => ?_, ?_, by rw [List.length_map]; exact G.few⟩
  · obtain ⟨hs, hh, e⟩ := List.mem_map.mp hg
    rw [← e]
    exact ren_goodR T (G.all hs hh)
  · rw [fl]
    exact nodup_on G.once fun x hx y hy e => by rw [← hf x (flat_in G hx), ← hf y (flat_in G hy), e]
theorem turn_inv (a b : Int) (g : Gm) : turnG a b (turnG a b g) = g := by
  by_cases e : (a = g.1 ∨ a = g.2) ∧ (b = g.1 ∨ b = g.2)
  · have e1 : turnG a b g = rv g := if_pos e
    rw [e1]
    exact if_pos (show (a = g.2 ∨ a = g.1) ∧ (b = g.2 ∨ b = g.1) from ⟨e.1.symm, e.2.symm⟩)
  · have e1 : turnG a b g = g := if_neg e
    rw [e1, e1]
theorem swapC_inv (a b x : Int) : swapC a b (swapC a b x) = x := by
  unfold swapC
  by_cases h1 : x = a
  · rw [if_pos h1]
    by_cases h2 : b = a
    · rw [if_pos h2]; omega
    · rw [if_neg h2, if_pos rfl]; exact h1.symm
  · rw [if_neg h1]
    by_cases h2 : x = b
    · rw [if_pos h2, if_pos rfl]; exact h2.symm
    · rw [if_neg h2, if_neg h1, if_neg h2]
theorem good_turn {c : Int} (hc : 2 ≤ c) (a b : Int) {R : Stg} (G : GoodRs c R) : GoodRs c (R.map fun gs => gs.map (turnG a b)) := by
  have e : ((c.toNat : Nat) : Int) = c := by omega
  rw [← e] at G ⊢
  exact good_ren (ren_turn c.toNat a b) (fun g _ => turn_inv a b g) G
theorem good_swap {c a b : Int} (hc : 2 ≤ c) (ha : 0 ≤ a ∧ a < c) (hb : 0 ≤ b ∧ b < c) (h : a ≠ b) {R : Stg} (G : GoodRs c R) : GoodRs c (R.map fun gs => gs.map fun g => (swapC a b g.1, swapC a b g.2)) := by
  have e : ((c.toNat : Nat) : Int) = c := by omega
  rw [← e] at G ⊢
  exact good_ren (ren_swap (n := c.toNat) (a := a) (b := b) (by omega) (by omega) h) (fun g _ => by
    show (swapC a b (swapC a b g.1), swapC a b (swapC a b g.2)) = g
    rw [swapC_inv, swapC_inv]) G
theorem clubs_filter (p : Gm → Bool) : ∀ gs : List Gm, (clubsOf (gs.filter p)).Sublist (clubsOf gs)
  | [] => List.Sublist.slnil
  | g :: gs => by
    rw [List.filter_cons]
    by_cases h : p g = true
    · rw [if_pos h, clubs_cons, clubs_cons]
      exact ((clubs_filter p gs).cons₂ _).cons₂ _
    · rw [if_neg h, clubs_cons]
      exact ((clubs_filter p gs).cons _).cons _
theorem good_filter {c : Int} (p : Gm → Bool) {R : Stg} (G : GoodRs c R) : GoodRs c (R.map fun gs => gs.filter p) := by
  refine ⟨fun gs hg => ?_, ?_, by rw [List.length_map]; exact G.few⟩
  · obtain ⟨hs, hh, e⟩ := List.mem_map.mp hg
    rw [← e]
    have Gh := G.all hs hh
    exact ⟨fun g hg => Gh.game g ((List.mem_filter.mp hg).1), (clubs_filter p hs).nodup Gh.once, Nat.le_trans (List.length_filter_le _ _) Gh.few⟩
  · have fl : (R.map fun gs => gs.filter p).flatten = R.flatten.filter p := List.filter_flatten.symm
    rw [fl]
    exact List.Pairwise.filter _ G.once
/-! ### outs of defs that change a tree -/
theorem opM_nx {N : List Str} {i : Nat} {g : Ev → Out} {a : Addr} {t t' : OT} {ds : List D} {r r' : Ev} (hr : (rho0 N ds).set i (.at a t) = r) (h : g r = .nx r') (h2 : r'[i]? = some (.at a t')) : opM N i g a t ds = .ok t' .none := by
  unfold opM
  rw [hr, h]
  show (match cellT r'[i]? with | some (a', t') => if a' = a then MRes.ok t' .none else .bad | none => .bad) = _
  rw [h2]
  exact if_pos rfl
theorem opM_rs {N : List Str} {i : Nat} {g : Ev → Out} {a : Addr} {t t' : OT} {d : D} {ds : List D} {r r' : Ev} (hr : (rho0 N ds).set i (.at a t) = r) (h : g r = .rs d r') (h2 : r'[i]? = some (.at a t')) : opM N i g a t ds = .ok t' d := by
  unfold opM
  rw [hr, h]
  show (match cellT r'[i]? with | some (a', t') => if a' = a then MRes.ok t' d else .bad | none => .bad) = _
  rw [h2]
  exact if_pos rfl
theorem opM_ex {N : List Str} {i c : Nat} {g : Ev → Out} {a : Addr} {t t' : OT} {ds : List D} {r r' : Ev} (hr : (rho0 N ds).set i (.at a t) = r) (h : g r = .ex c r') (h2 : r'[i]? = some (.at a t')) : opM N i g a t ds = .ex c t' := by
  unfold opM
  rw [hr, h]
  show (match cellT r'[i]? with | some (a', t') => if a' = a then MRes.ex c t' else .bad | none => .bad) = _
  rw [h2]
  exact if_pos rfl
theorem seq_rs {g h : Ev → Out} {r r' : Ev} {d : D} (e : g r = .rs d r') : gSeq g h r = .rs d r' := by
  unfold gSeq
  rw [e]
theorem retS_at {f : Ev → Res D} {r : Ev} {d : D} (e : f r = .ok d) : gRetS f r = .rs d r := by
  unfold gRetS
  rw [e]
  rfl
theorem asg_at {bnd : D → Ev → Option Ev} {f : Ev → Res D} {r r' : Ev} {d : D} (e : f r = .ok d) (h : bnd d r = some r') : gAsg bnd f r = .nx r' := by
  unfold gAsg
  rw [e]
  show (match bnd d r with | some ρ' => Out.nx ρ' | none => .bad) = _
  rw [h]
theorem try_nx {n i j : Nat} {g : Ev → Out} {r r' : Ev} (h : g r = .nx r') : gTry n i j g r = .nx r' := by
  unfold gTry
  rw [h]
theorem try_ex {n i j c : Nat} {g : Ev → Out} {r r' : Ev} (h : g r = .ex c r') (hc : c < n ∧ i < r'.length ∧ j ≠ i) : gTry n i j g r = .nx (((r'.set i .no).set j (.d (excD c))).set i .no) := by
  unfold gTry
  rw [h]
  exact if_pos hc
/-! ### a season's stages -/
theorem stApp_at {i : Nat} {f : Ev → Res D} {r : Ev} {a : Addr} {c : Nat} {Rs : List Stg} {Q : Stg} (h1 : r[i]? = some (.at a (.ssn c Rs))) (h2 : f r = .ok (rsD Q)) (hl : Rs.length < big) : gStApp i f r = .nx (r.set i (.at a (.ssn c (Rs ++ [Q])))) := by
  unfold gStApp
  rw [h1]
  show thenO (f r) r _ = _
  rw [h2]
  show (match stageO (stA Q) with | some R => if Rs.length < big then Out.nx (r.set i (.at a (.ssn c (Rs ++ [R])))) else .bad | none => .bad) = _
  rw [stageO_st]
  exact if_pos hl
theorem stApp_ex {i k : Nat} {f : Ev → Res D} {r : Ev} {a : Addr} {c : Nat} {Rs : List Stg} (h1 : r[i]? = some (.at a (.ssn c Rs))) (h2 : f r = .ex k) : gStApp i f r = .ex k r := by
  unfold gStApp
  rw [h1]
  show thenO (f r) r _ = _
  rw [h2]
  rfl
theorem stLast_at {i : Nat} {r : Ev} {a : Addr} {c : Nat} {Ss : List Stg} {S : Stg} (h1 : r[i]? = some (.at a (.ssn c (Ss ++ [S])))) : sStLast i r = .ok (rsD S) := by
  unfold sStLast
  rw [h1]
  show ofO (L2.atI ((Ss ++ [S]).map stA) (-1)) = _
  rw [List.map_append]
  show ofO (L2.atI (Ss.map stA ++ [stA S]) (-1)) = _
  rw [L2.atI_last]
  rfl
theorem stPop_at {i : Nat} {r : Ev} {a : Addr} {c : Nat} {Ss : List Stg} {S : Stg} (h1 : r[i]? = some (.at a (.ssn c (Ss ++ [S])))) : gStPop i r = .nx (r.set i (.at a (.ssn c Ss))) := by
  unfold gStPop
  rw [h1]
  show (if (Ss ++ [S]).isEmpty = true then Out.bad else .nx (r.set i (.at a (.ssn c (Ss ++ [S]).dropLast)))) = _
  rw [if_neg (by rw [List.isEmpty_iff]; simp), List.dropLast_concat]
/-! ### the law's own past -/
def pastT (Us : List Stg) : OT := otL (Us.map rsD)
theorem atLast_at {i : Nat} {r : Ev} {a : Addr} {Us : List Stg} {R : Stg} (h1 : r[i]? = some (.at a (pastT (Us ++ [R])))) : sAtLast i r = .ok (rsD R) := by
  unfold sAtLast
  rw [h1]
  show (match un1 (otL ((Us ++ [R]).map rsD)) with | some ds => ofO (L2.atI ds (-1)) | none => .bad) = _
  rw [un1_ot, List.map_append]
  show ofO (L2.atI (Us.map rsD ++ [rsD R]) (-1)) = _
  rw [L2.atI_last]
  rfl
theorem atApp_at {i : Nat} {f : Ev → Res D} {r : Ev} {a : Addr} {Us : List Stg} {Q : Stg} (h1 : r[i]? = some (.at a (pastT Us))) (h2 : f r = .ok (rsD Q)) (hl : Us.length < big) : gAtApp i f r = .nx (r.set i (.at a (pastT (Us ++ [Q])))) := by
  unfold gAtApp
  rw [h1]
  show thenO (f r) r _ = _
  rw [h2]
  show (if ((Us.map rsD).map OT.dat).length < big then Out.nx (r.set i (.at a (.lst ((Us.map rsD).map OT.dat ++ [.dat (rsD Q)])))) else .bad) = _
  rw [if_pos (by rw [List.length_map, List.length_map]; exact hl)]
  show Out.nx (r.set i (.at a (.lst ((Us.map rsD).map OT.dat ++ [.dat (rsD Q)])))) = Out.nx (r.set i (.at a (.lst (((Us ++ [Q]).map rsD).map OT.dat))))
  rw [List.map_append, List.map_append]
  rfl
theorem atPop_at {i : Nat} {r : Ev} {a : Addr} {Us : List Stg} {R : Stg} (h1 : r[i]? = some (.at a (pastT (Us ++ [R])))) : gAtPop i r = .nx (r.set i (.at a (pastT Us))) := by
  unfold gAtPop
  rw [h1]
  show (match un1 (otL ((Us ++ [R]).map rsD)) with | some ds => if ds.isEmpty = true then Out.bad else .nx (r.set i (.at a (otL ds.dropLast))) | none => .bad) = _
  rw [un1_ot, List.map_append]
  show (if (Us.map rsD ++ [rsD R]).isEmpty = true then Out.bad else .nx (r.set i (.at a (otL (Us.map rsD ++ [rsD R]).dropLast)))) = _
  rw [if_neg (by rw [List.isEmpty_iff]; simp), List.dropLast_concat]
  rfl
theorem okP_past (Us : List Stg) : okP (pastT Us) = true := by
  unfold okP pastT
  rw [un1_ot]
  refine List.all_eq_true.mpr fun d hd => ?_
  obtain ⟨R, _, rfl⟩ := List.mem_map.mp hd
  show (stageO (stA R)).isSome = true
  rw [stageO_st]
  rfl
/-- a step of the law -/
theorem step_at {ix jx hx kx cx dx : Nat} {oD oU : Addr → OT → List D → MRes} {g : Ev → Out} {r : Ev} {ts us : List OT} {th t u t' u' : OT} {k : Nat} {c de hd d : D} (h1 : r[ix]? = some (.ot (.lst ts))) (h2 : r[jx]? = some (.ot (.lst us))) (h3 : r[hx]? = some (.ot th)) (h4 : r[kx]? = some (.d (.int (k : Int)))) (h5 : r[cx]? = some (.d c)) (h6 : r[dx]? = some (.d de))
    (h7 : ts[k]? = some t) (h8 : us[k]? = some u) (h9 : dOT th = some hd) (hD : ∀ a, oD a t [.none, hd] = .ok t' d) (hU : ∀ a, oU a u [c, .none, de] = .ok u' d) (hf : Fine 2 d) (k1 : okS t = true) (k2 : okP u = true) (k3 : (ts.set k t').all okS = true) (k4 : (us.set k u').all okP = true) :
    gStep ix jx hx kx cx dx oD oU g r = .nx (if handK th = true then (((r.set hx (.d hd)).set ix (.ot (.lst (ts.set k t')))).set jx (.ot (.lst (us.set k u')))).set hx (.ot th) else ((r.set hx (.d hd)).set ix (.ot (.lst (ts.set k t')))).set jx (.ot (.lst (us.set k u')))) := by
  unfold gStep
  rw [h1, h2, h3, h4, h5, h6]
  show (match ts[k]?, us[k]?, dOT th with
    | some t, some u, some hd =>
      (match resA oD t [.none, hd], resA oU u [c, .none, de] with
      | .ok t' d1, .ok u' d2 =>
        (match (oNe d1 d2).bind asB with
        | .ok b => if ((okS t && okP u) && ((ts.set k t').all okS && (us.set k u').all okP)) = true then
            (let ρ3 := ((r.set hx (.d hd)).set ix (.ot (.lst (ts.set k t')))).set jx (.ot (.lst (us.set k u')))
            let ρ4 := if handK th = true then ρ3.set hx (.ot th) else ρ3
            if b = true then g ρ4 else .nx ρ4) else .bad
        | _ => .bad)
      | _, _ => .bad)
    | _, _, _ => .bad) = _
  rw [h7, h8, h9]
  dsimp only
  rw [resA_of hD, resA_of hU]
  dsimp only
  rw [oNe_same hf (by decide)]
  show (if ((okS t && okP u) && ((ts.set k t').all okS && (us.set k u').all okP)) = true then _ else Out.bad) = _
  rw [k1, k2, k3, k4]
  rfl
end Dn

set_option Elab.async false
set_option linter.all false
set_option maxRecDepth 100000
set_option maxHeartbeats 8000000
namespace K08
open PySem PySem.Spec PyProof.Rows L2 Dn
def topS (i : Nat) : Stmt := PySem.Challenge.pw_roundlist_k08_seasons.main.body.getD i (.Pass ⟨0, 0, 0, 0⟩)
def methS (i j : Nat) : Stmt := match topS i with
  | .ClassDef _ _ _ body _ _ _ _ _ _ _ => body.getD j (.Pass ⟨0, 0, 0, 0⟩)
  | _ => .Pass ⟨0, 0, 0, 0⟩
variable [En]
structure Bl (K : PySem.W.Frag) (mg : Str → Option Value) : Prop where
  b_ValueError : mg "ValueError" = none
  b_all : mg "all" = none
  b_bool : mg "bool" = none
  b_int : mg "int" = none
  b_isinstance : mg "isinstance" = none
  b_len : mg "len" = none
  b_list : mg "list" = none
  b_range : mg "range" = none
  b_set : mg "set" = none
  b_sorted : mg "sorted" = none
  b_sum : mg "sum" = none
  b_tuple : mg "tuple" = none
  b_type : mg "type" = none
  c_FEWEST_CLUBS : ∃ t, mg "FEWEST_CLUBS" = some (.int 2 t)
  c_MOST_CLUBS : ∃ t, mg "MOST_CLUBS" = some (.int 20 t)
  c_MOST_ROUNDS : ∃ t, mg "MOST_ROUNDS" = some (.int 40 t)
  g_RoundError : mg "RoundError" = some (.ref (En.cl 0))
  g_BadClubs : mg "BadClubs" = some (.ref (En.cl 1))
  g_BadRounds : mg "BadRounds" = some (.ref (En.cl 2))
  g_BadClub : mg "BadClub" = some (.ref (En.cl 3))
  g_BadOrder : mg "BadOrder" = some (.ref (En.cl 4))
  g_BadText : mg "BadText" = some (.ref (En.cl 5))
  g_NothingDone : mg "NothingDone" = some (.ref (En.cl 6))
  er : ErrOk K En.cl 7
  sC : Cls K En.sc
  n_clubs : NoAttr K En.sc "_clubs"
  n_stages : NoAttr K En.sc "_stages"
section
variable {P : Program} {w : World} {K : PySem.W.Frag} {mg : Str → Option Value} {base : Heap}
abbrev s_need_clubs : Stmt := topS 12
abbrev n_need_clubs : List Str := ["thing"]
theorem sc_need_clubs : FnScope n_need_clubs ["thing"] (defScope s_need_clubs) := ⟨rfl, rfl, rfl, by decide +kernel, rfl, by decide +kernel, by decide +kernel⟩
def g_need_clubs : Ev → Out :=
    (gIf (bOr (sTyNot "int" (sVar 0)) (bNot (sT (sCh oLe oLe (sC (.int 2)) (sVar 0) (sC (.int 20))))))
    (gEx 1)
    gNil)
def o_need_clubs := opX n_need_clubs g_need_clubs
theorem ok_need_clubs (B : Bl K mg) {f : Addr} {fd : FuncData} (F : Fun K "need_clubs" "need_clubs" s_need_clubs f fd) : FnOk P w K mg base (L2.CX P w) 1 f fd ["thing"] (spX K En.cl 1 o_need_clubs) :=
    fnX F sc_need_clubs rfl fun cdv A outer s H E hr =>
      (dss_one
      (ds_if (dt_w (dw_or (dt_tyNot (T := "int") B.b_type B.b_int (by decide +kernel) (de_var 0 (pv 0))) (dw_or1 (dt_not (dt_chain op_le op_le od_le od_le (de_gI B.c_FEWEST_CLUBS) (de_var 0 (pv 0)) (de_gI B.c_MOST_CLUBS))))))
      (dss_one
      (ds_raiseF (c := 1) B.er rfl (by decide) rfl (takes_of rfl rfl rfl rfl) B.g_BadClubs (pe_joined (PJ.cons pe_str (PJ.cons (pe_fmt (pe_glob (v := .int 2) rfl B.c_FEWEST_CLUBS.choose_spec ⟨_, rfl⟩)) (PJ.cons pe_str (PJ.cons (pe_fmt (pe_glob (v := .int 20) rfl B.c_MOST_CLUBS.choose_spec ⟨_, rfl⟩)) PJ.nil))))) (fun σ H Q q => ⟨_, rfl, by decide +kernel, .inr ⟨2, rfl, by decide, _, rfl, by decide +kernel, ⟨_, rfl, by decide +kernel, .inr ⟨20, rfl, by decide, _, rfl, by decide +kernel, q _⟩⟩⟩⟩)))
      dss_nil))
abbrev s_is_club : Stmt := topS 16
abbrev n_is_club : List Str := ["clubs", "thing"]
theorem sc_is_club : FnScope n_is_club ["clubs", "thing"] (defScope s_is_club) := ⟨rfl, rfl, rfl, by decide +kernel, rfl, by decide +kernel, by decide +kernel⟩
def g_is_club : Ev → Out :=
    (gRet (vAnd (sTyIs "int" (sVar 1)) (sCh oLe oLt (sC (.int 0)) (sVar 1) (sVar 0))))
def o_is_club := opX n_is_club g_is_club
theorem ok_is_club (B : Bl K mg) {f : Addr} {fd : FuncData} (F : Fun K "is_club" "is_club" s_is_club f fd) : FnOk P w K mg base (L2.CX P w) 1 f fd ["clubs", "thing"] (spX K En.cl 2 o_is_club) :=
    fnX F sc_is_club rfl fun cdv A outer s H E hr =>
      (dss_one
      (ds_ret (de_and (de_tyIs (T := "int") B.b_type B.b_int (by decide +kernel) (de_var 1 (pv 1))) (de_one (de_chain op_le op_lt od_le od_lt de_int (de_var 1 (pv 1)) (de_var 0 (pv 0)))))))
abbrev s_is_game : Stmt := topS 15
abbrev n_is_game : List Str := ["clubs", "thing", "home", "away"]
theorem sc_is_game : FnScope n_is_game ["clubs", "thing"] (defScope s_is_game) := ⟨rfl, rfl, rfl, by decide +kernel, rfl, by decide +kernel, by decide +kernel⟩
def g_is_game : Ev → Out :=
    (gSeq (gIf (bOr (sTyNot "tuple" (sVar 1)) (sT (s2 oNe (sCall oLen (aCons (sVar 1) aNil)) (sC (.int 2)))))
    (gRet (sC (.bool false)))
    gNil)
    (gSeq (gAsg (bTup (bCons (bName 2) (bCons (bName 3) bNil)) 2) (sVar 1))
    (gRet (vAnd (sF 2 o_is_club (aCons (sVar 0) (aCons (sVar 2) aNil))) (vAnd (sF 2 o_is_club (aCons (sVar 0) (aCons (sVar 3) aNil))) (s2 oNe (sVar 2) (sVar 3)))))))
def o_is_game := opX n_is_game g_is_game
theorem ok_is_game (B : Bl K mg) {f : Addr} {fd : FuncData} (F : Fun K "is_game" "is_game" s_is_game f fd) (c_is_club : Cal P w K mg base 1 "is_club" (spX K En.cl 2 o_is_club)) : FnOk P w K mg base (L2.CX P w) 2 f fd ["clubs", "thing"] (spX K En.cl 2 o_is_game) :=
    fnX F sc_is_game rfl fun cdv A outer s H E hr =>
      (dss_cons
      (ds_if (dt_w (dw_or (dt_tyNot (T := "tuple") B.b_type B.b_tuple (by decide +kernel) (de_var 1 (pv 1))) (dw_or1 (dt_cmp (op_neD hr.units) od_ne (nomark _) (de_bltn call_len_seq cd_len B.b_len PySem.boot_len (da_cons (de_var 1 (pv 1)) da_nil)) de_int))))
      (dss_one
      (ds_ret de_bl))
      dss_nil)
      (dss_cons
      (ds_asg (de_var 1 (pv 1)) (dg_tup rfl (dgs_cons (dg_name (pg_name (i := 2) sc_is_game.nd rfl (by first | exact Or.inl rfl | exact Or.inr rfl))) (dgs_cons (dg_name (pg_name (i := 3) sc_is_game.nd rfl (by first | exact Or.inl rfl | exact Or.inr rfl))) dgs_nil))))
      (dss_one
      (ds_ret (de_and (de_call (takes_of rfl rfl rfl rfl) c_is_club hr (by decide) (da_cons (de_var 0 (pv 0)) (da_cons (de_var 2 (pv 2)) da_nil))) (de_and (de_call (takes_of rfl rfl rfl rfl) c_is_club hr (by decide) (da_cons (de_var 0 (pv 0)) (da_cons (de_var 3 (pv 3)) da_nil))) (de_one (de_cmp (op_neD hr.units) od_ne (nomark _) (de_var 2 (pv 2)) (de_var 3 (pv 3))))))))))
abbrev s_need_games : Stmt := topS 14
abbrev n_need_games : List Str := ["clubs", "thing", "busy", "game", "home", "away"]
theorem sc_need_games : FnScope n_need_games ["clubs", "thing"] (defScope s_need_games) := ⟨rfl, rfl, rfl, by decide +kernel, rfl, by decide +kernel, by decide +kernel⟩
def g_need_games : Ev → Out :=
    (gSeq (gIf (sTyNot "list" (sVar 1))
    (gEx 2)
    gNil)
    (gSeq (gNewSi 2)
    (gFor (iL (sVar 1)) (bName 3)
    (gSeq (gIf (bNot (sTru (sF 2 o_is_game (aCons (sVar 0) (aCons (sVar 3) aNil)))))
    (gEx 2)
    gNil)
    (gSeq (gAsg (bTup (bCons (bName 4) (bCons (bName 5) bNil)) 2) (sVar 3))
    (gSeq (gIf (bOr (sT (sInS 2 (sVar 4))) (sT (sInS 2 (sVar 5))))
    (gEx 2)
    gNil)
    (gSeq (gAddI 2 (sVar 4))
    (gAddI 2 (sVar 5)))))))))
def o_need_games := opX n_need_games g_need_games
theorem ok_need_games (B : Bl K mg) {f : Addr} {fd : FuncData} (F : Fun K "need_games" "need_games" s_need_games f fd) (c_is_game : Cal P w K mg base 2 "is_game" (spX K En.cl 2 o_is_game)) : FnOk P w K mg base (L2.CX P w) 3 f fd ["clubs", "thing"] (spX K En.cl 2 o_need_games) :=
    fnX F sc_need_games rfl fun cdv A outer s H E hr =>
      (dss_cons
      (ds_if (dt_tyNot (T := "list") B.b_type B.b_list (by decide +kernel) (de_var 1 (pv 1)))
      (dss_one
      (ds_raiseS (c := 2) B.er rfl (by decide) rfl (takes_of rfl rfl rfl rfl) B.g_BadRounds))
      dss_nil)
      (dss_cons
      (ds_newSi (ps_set (i := 2) sc_need_games.nd rfl (by first | exact Or.inl rfl | exact Or.inr rfl) (pe_callTy0 cr_set0 rfl B.b_set (by decide +kernel))))
      (dss_one
      (ds_for (passes_of rfl) rfl (di_list (de_var 1 (pv 1))) (dg_name (pg_name (i := 3) sc_need_games.nd rfl (by first | exact Or.inl rfl | exact Or.inr rfl)))
      (dss_cons
      (ds_if (dt_not (dt_tru (de_call (takes_of rfl rfl rfl rfl) c_is_game hr (by decide) (da_cons (de_var 0 (pv 0)) (da_cons (de_var 3 (pv 3)) da_nil)))))
      (dss_one
      (ds_raiseS (c := 2) B.er rfl (by decide) rfl (takes_of rfl rfl rfl rfl) B.g_BadRounds))
      dss_nil)
      (dss_cons
      (ds_asg (de_var 3 (pv 3)) (dg_tup rfl (dgs_cons (dg_name (pg_name (i := 4) sc_need_games.nd rfl (by first | exact Or.inl rfl | exact Or.inr rfl))) (dgs_cons (dg_name (pg_name (i := 5) sc_need_games.nd rfl (by first | exact Or.inl rfl | exact Or.inr rfl))) dgs_nil))))
      (dss_cons
      (ds_if (dt_w (dw_or (dt_inS (hu65 hr) (de_var 4 (pv 4)) (pv 2)) (dw_or1 (dt_inS (hu65 hr) (de_var 5 (pv 5)) (pv 2)))))
      (dss_one
      (ds_raiseS (c := 2) B.er rfl (by decide) rfl (takes_of rfl rfl rfl rfl) B.g_BadRounds))
      dss_nil)
      (dss_cons
      (ds_addI (pv 2) (de_var 4 (pv 4)) (pe_sadd (pv 2) (pa_cons (de_var 4 (pv 4)) pa_nil)))
      (dss_one
      (ds_addI (pv 2) (de_var 5 (pv 5)) (pe_sadd (pv 2) (pa_cons (de_var 5 (pv 5)) pa_nil))))))))))))
abbrev s_need_rounds : Stmt := topS 13
abbrev n_need_rounds : List Str := ["clubs", "thing", "played", "games", "game"]
theorem sc_need_rounds : FnScope n_need_rounds ["clubs", "thing"] (defScope s_need_rounds) := ⟨rfl, rfl, rfl, by decide +kernel, rfl, by decide +kernel, by decide +kernel⟩
def g_need_rounds : Ev → Out :=
    (gSeq (gDrop (sF 1 o_need_clubs (aCons (sVar 0) aNil)))
    (gSeq (gIf (bOr (sTyNot "list" (sVar 1)) (sT (s2 oGt (sCall oLen (aCons (sVar 1) aNil)) (sC (.int 40)))))
    (gEx 2)
    gNil)
    (gSeq (gNewSp 2)
    (gFor (iL (sVar 1)) (bName 3)
    (gSeq (gDrop (sF 2 o_need_games (aCons (sVar 0) (aCons (sVar 3) aNil))))
    (gFor (iL (sVar 3)) (bName 4)
    (gSeq (gIf (sT (sInS 2 (sVar 4)))
    (gEx 2)
    gNil)
    (gAddP 2 (sVar 4)))))))))
def o_need_rounds := opX n_need_rounds g_need_rounds
theorem ok_need_rounds (B : Bl K mg) {f : Addr} {fd : FuncData} (F : Fun K "need_rounds" "need_rounds" s_need_rounds f fd) (c_need_clubs : Cal P w K mg base 1 "need_clubs" (spX K En.cl 1 o_need_clubs)) (c_need_games : Cal P w K mg base 3 "need_games" (spX K En.cl 2 o_need_games)) : FnOk P w K mg base (L2.CX P w) 4 f fd ["clubs", "thing"] (spX K En.cl 2 o_need_rounds) :=
    fnX F sc_need_rounds rfl fun cdv A outer s H E hr =>
      (dss_cons
      (ds_expr (de_call (takes_of rfl rfl rfl rfl) c_need_clubs hr (by decide) (da_cons (de_var 0 (pv 0)) da_nil)))
      (dss_cons
      (ds_if (dt_w (dw_or (dt_tyNot (T := "list") B.b_type B.b_list (by decide +kernel) (de_var 1 (pv 1))) (dw_or1 (dt_cmp op_gt od_gt (nomark _) (de_bltn call_len_seq cd_len B.b_len PySem.boot_len (da_cons (de_var 1 (pv 1)) da_nil)) (de_gI B.c_MOST_ROUNDS)))))
      (dss_one
      (ds_raiseF (c := 2) B.er rfl (by decide) rfl (takes_of rfl rfl rfl rfl) B.g_BadRounds (pe_joined (PJ.cons pe_str (PJ.cons (pe_fmt (pe_glob (v := .int 40) rfl B.c_MOST_ROUNDS.choose_spec ⟨_, rfl⟩)) PJ.nil))) (fun σ H Q q => ⟨_, rfl, by decide +kernel, .inr ⟨40, rfl, by decide, _, rfl, by decide +kernel, q _⟩⟩)))
      dss_nil)
      (dss_cons
      (ds_newSp (ps_set (i := 2) sc_need_rounds.nd rfl (by first | exact Or.inl rfl | exact Or.inr rfl) (pe_callTy0 cr_set0B rfl B.b_set (by decide +kernel))))
      (dss_one
      (ds_for (passes_of rfl) rfl (di_list (de_var 1 (pv 1))) (dg_name (pg_name (i := 3) sc_need_rounds.nd rfl (by first | exact Or.inl rfl | exact Or.inr rfl)))
      (dss_cons
      (ds_expr (de_call (takes_of rfl rfl rfl rfl) c_need_games hr (by decide) (da_cons (de_var 0 (pv 0)) (da_cons (de_var 3 (pv 3)) da_nil))))
      (dss_one
      (ds_for (passes_of rfl) rfl (di_list (de_var 3 (pv 3))) (dg_name (pg_name (i := 4) sc_need_rounds.nd rfl (by first | exact Or.inl rfl | exact Or.inr rfl)))
      (dss_cons
      (ds_if (dt_inS (hu65 hr) (de_var 4 (pv 4)) (pv 2))
      (dss_one
      (ds_raiseS (c := 2) B.er rfl (by decide) rfl (takes_of rfl rfl rfl rfl) B.g_BadRounds))
      dss_nil)
      (dss_one
      (ds_addP (pv 2) (de_var 4 (pv 4)) (pe_addB (hu3 hr) (pv 2) (pa_cons (de_var 4 (pv 4)) pa_nil)))))))))))))
abbrev s_need_club : Stmt := topS 17
abbrev n_need_club : List Str := ["clubs", "thing"]
theorem sc_need_club : FnScope n_need_club ["clubs", "thing"] (defScope s_need_club) := ⟨rfl, rfl, rfl, by decide +kernel, rfl, by decide +kernel, by decide +kernel⟩
def g_need_club : Ev → Out :=
    (gIf (bNot (sTru (sF 2 o_is_club (aCons (sVar 0) (aCons (sVar 1) aNil)))))
    (gEx 3)
    gNil)
def o_need_club := opX n_need_club g_need_club
theorem ok_need_club (B : Bl K mg) {f : Addr} {fd : FuncData} (F : Fun K "need_club" "need_club" s_need_club f fd) (c_is_club : Cal P w K mg base 1 "is_club" (spX K En.cl 2 o_is_club)) : FnOk P w K mg base (L2.CX P w) 2 f fd ["clubs", "thing"] (spX K En.cl 2 o_need_club) :=
    fnX F sc_need_club rfl fun cdv A outer s H E hr =>
      (dss_one
      (ds_if (dt_not (dt_tru (de_call (takes_of rfl rfl rfl rfl) c_is_club hr (by decide) (da_cons (de_var 0 (pv 0)) (da_cons (de_var 1 (pv 1)) da_nil)))))
      (dss_one
      (ds_raiseS (c := 3) B.er rfl (by decide) rfl (takes_of rfl rfl rfl rfl) B.g_BadClub))
      dss_nil))
abbrev s_need_two_clubs : Stmt := topS 18
abbrev n_need_two_clubs : List Str := ["clubs", "one", "other"]
theorem sc_need_two_clubs : FnScope n_need_two_clubs ["clubs", "one", "other"] (defScope s_need_two_clubs) := ⟨rfl, rfl, rfl, by decide +kernel, rfl, by decide +kernel, by decide +kernel⟩
def g_need_two_clubs : Ev → Out :=
    (gSeq (gDrop (sF 2 o_need_club (aCons (sVar 0) (aCons (sVar 1) aNil))))
    (gSeq (gDrop (sF 2 o_need_club (aCons (sVar 0) (aCons (sVar 2) aNil))))
    (gIf (sT (s2 oEq (sVar 1) (sVar 2)))
    (gEx 3)
    gNil)))
def o_need_two_clubs := opX n_need_two_clubs g_need_two_clubs
theorem ok_need_two_clubs (B : Bl K mg) {f : Addr} {fd : FuncData} (F : Fun K "need_two_clubs" "need_two_clubs" s_need_two_clubs f fd) (c_need_club : Cal P w K mg base 2 "need_club" (spX K En.cl 2 o_need_club)) : FnOk P w K mg base (L2.CX P w) 3 f fd ["clubs", "one", "other"] (spX K En.cl 3 o_need_two_clubs) :=
    fnX F sc_need_two_clubs rfl fun cdv A outer s H E hr =>
      (dss_cons
      (ds_expr (de_call (takes_of rfl rfl rfl rfl) c_need_club hr (by decide) (da_cons (de_var 0 (pv 0)) (da_cons (de_var 1 (pv 1)) da_nil))))
      (dss_cons
      (ds_expr (de_call (takes_of rfl rfl rfl rfl) c_need_club hr (by decide) (da_cons (de_var 0 (pv 0)) (da_cons (de_var 2 (pv 2)) da_nil))))
      (dss_one
      (ds_if (dt_cmp (op_eqD hr.units) od_eq (nomark _) (de_var 1 (pv 1)) (de_var 2 (pv 2)))
      (dss_one
      (ds_raiseS (c := 3) B.er rfl (by decide) rfl (takes_of rfl rfl rfl rfl) B.g_BadClub))
      dss_nil))))
abbrev s_need_order : Stmt := topS 21
abbrev n_need_order : List Str := ["many", "thing", "number"]
theorem sc_need_order : FnScope n_need_order ["many", "thing"] (defScope s_need_order) := ⟨rfl, rfl, rfl, by decide +kernel, rfl, by decide +kernel, by decide +kernel⟩
def g_need_order : Ev → Out :=
    (gSeq (gIf (bOr (sTyNot "list" (sVar 1)) (sT (s2 oNe (sCall oLen (aCons (sVar 1) aNil)) (sVar 0))))
    (gEx 4)
    gNil)
    (gSeq (gIf (bNot (sAllTy "int" (sVar 1)))
    (gEx 4)
    gNil)
    (gIf (sT (s2 oNe (sCall oSort2 (aCons (sVar 1) aNil)) (sLrg (sVar 0))))
    (gEx 4)
    gNil)))
def o_need_order := opX n_need_order g_need_order
theorem ok_need_order (B : Bl K mg) {f : Addr} {fd : FuncData} (F : Fun K "need_order" "need_order" s_need_order f fd) {cc Pt : Addr} (hcd : fd.code = .ref cc) (hTb : En.tb Pt) (TB : GxR.TabB base mg cc Pt) : FnOk P w K mg base (L2.CX P w) 1 f fd ["many", "thing"] (spX K En.cl 2 o_need_order) :=
    fnXc F hcd sc_need_order rfl fun A outer s H E hr =>
      (dss_cons
      (ds_if (dt_w (dw_or (dt_tyNot (T := "list") B.b_type B.b_list (by decide +kernel) (de_var 1 (pv 1))) (dw_or1 (dt_cmp (op_neD hr.units) od_ne (nomark _) (de_bltn call_len_seq cd_len B.b_len PySem.boot_len (da_cons (de_var 1 (pv 1)) da_nil)) (de_var 0 (pv 0))))))
      (dss_one
      (ds_raiseS (c := 4) B.er rfl (by decide) rfl (takes_of rfl rfl rfl rfl) B.g_BadOrder))
      dss_nil)
      (dss_cons
      (ds_if (dt_not (dt_allTy (T := "int") hTb hr B.b_all TB rfl (genT_of rfl rfl rfl rfl rfl rfl rfl) B.b_type B.b_int (by decide +kernel) (de_var 1 (pv 1)) (by decide) (by decide) (by decide) (by decide +kernel) (by decide +kernel)))
      (dss_one
      (ds_raiseS (c := 4) B.er rfl (by decide) rfl (takes_of rfl rfl rfl rfl) B.g_BadOrder))
      dss_nil)
      (dss_one
      (ds_if (dt_cmp (op_neD hr.units) od_ne (nomark _) (de_bltn (CallR.or (CallR.or cr_sortedPO cr_sortedI) cr_sortedIT) cd_sort2 B.b_sorted (by decide +kernel) (da_cons (de_var 1 (pv 1)) da_nil)) (de_lrg B.b_list B.b_range rfl (de_var 0 (pv 0))))
      (dss_one
      (ds_raiseS (c := 4) B.er rfl (by decide) rfl (takes_of rfl rfl rfl rfl) B.g_BadOrder))
      dss_nil))))
abbrev s_moved : Stmt := topS 20
abbrev n_moved : List Str := ["clubs", "rounds", "order", "number"]
theorem sc_moved : FnScope n_moved ["clubs", "rounds", "order"] (defScope s_moved) := ⟨rfl, rfl, rfl, by decide +kernel, rfl, by decide +kernel, by decide +kernel⟩
def g_moved : Ev → Out :=
    (gSeq (gDrop (sF 2 o_need_rounds (aCons (sVar 0) (aCons (sVar 1) aNil))))
    (gSeq (gDrop (sF 2 o_need_order (aCons (sCall oLen (aCons (sVar 1) aNil)) (aCons (sVar 2) aNil))))
    (gRetN2 (nComp2 (iL (sVar 2)) (bName 3) bYes (nCall nSort (aCons (s2 oIx (sVar 1) (sVar 3)) aNil)) [3]))))
def o_moved := opN2 n_moved g_moved
theorem ok_moved (B : Bl K mg) {f : Addr} {fd : FuncData} (F : Fun K "moved" "moved" s_moved f fd) (c_need_rounds : Cal P w K mg base 4 "need_rounds" (spX K En.cl 2 o_need_rounds)) (c_need_order : Cal P w K mg base 1 "need_order" (spX K En.cl 2 o_need_order)) : FnOk P w K mg base (L2.CX P w) 5 f fd ["clubs", "rounds", "order"] (spN2 K En.cl 3 o_moved) :=
    fnN2 F sc_moved rfl fun cdv A outer s H E hr =>
      (dss_cons
      (ds_expr (de_call (takes_of rfl rfl rfl rfl) c_need_rounds hr (by decide) (da_cons (de_var 0 (pv 0)) (da_cons (de_var 1 (pv 1)) da_nil))))
      (dss_cons
      (ds_expr (de_call (takes_of rfl rfl rfl rfl) c_need_order hr (by decide) (da_cons (de_bltn call_len_seq cd_len B.b_len PySem.boot_len (da_cons (de_var 1 (pv 1)) da_nil)) (da_cons (de_var 2 (pv 2)) da_nil))))
      (dss_one
      (ds_retN2 (dn2_lc (own := [("number", 3)]) sc_moved.nd (blkOk_by (own := [("number", 3)]) (N := n_moved) (sc := defScope s_moved) (by decide +kernel)) (di_list (de_var 2 (pv 2))) (fun _ _ _ _ _ => (dg_name (pg_name (i := 3) sc_moved.nd rfl (by first | exact Or.inl rfl | exact Or.inr rfl)))) (fun _ _ _ _ _ => dts_nil) (fun _ _ _ _ _ => (dn_bltn (CallR.or cr_sortedPO cr_sortedI) cn_sort B.b_sorted (by decide +kernel) (da_cons (de_ix (de_var 1 (pv 1)) (de_var 3 (pv 3))) da_nil))) (by decide))))))
abbrev s_turned_game : Stmt := topS 23
abbrev n_turned_game : List Str := ["game", "one", "other", "home", "away"]
theorem sc_turned_game : FnScope n_turned_game ["game", "one", "other"] (defScope s_turned_game) := ⟨rfl, rfl, rfl, by decide +kernel, rfl, by decide +kernel, by decide +kernel⟩
def g_turned_game : Ev → Out :=
    (gSeq (gAsg (bTup (bCons (bName 3) (bCons (bName 4) bNil)) 2) (sVar 0))
    (gRet (sIf (bAnd (sT (s2 (oIn false) (sVar 1) (sVar 0))) (sT (s2 (oIn false) (sVar 2) (sVar 0)))) (sTup (aCons (sVar 4) (aCons (sVar 3) aNil))) (sVar 0))))
def o_turned_game := opX n_turned_game g_turned_game
theorem ok_turned_game (B : Bl K mg) {f : Addr} {fd : FuncData} (F : Fun K "turned_game" "turned_game" s_turned_game f fd) : FnOk P w K mg base (L2.CX P w) 1 f fd ["game", "one", "other"] (spX K En.cl 3 o_turned_game) :=
    fnX F sc_turned_game rfl fun cdv A outer s H E hr =>
      (dss_cons
      (ds_asg (de_var 0 (pv 0)) (dg_tup rfl (dgs_cons (dg_name (pg_name (i := 3) sc_turned_game.nd rfl (by first | exact Or.inl rfl | exact Or.inr rfl))) (dgs_cons (dg_name (pg_name (i := 4) sc_turned_game.nd rfl (by first | exact Or.inl rfl | exact Or.inr rfl))) dgs_nil))))
      (dss_one
      (ds_ret (de_if (dt_w (dw_and (dt_cmp (op_inA (hu65 hr)) (od_in (neg := false)) rfl (de_var 1 (pv 1)) (de_var 0 (pv 0))) (dw_and1 (dt_cmp (op_inA (hu65 hr)) (od_in (neg := false)) rfl (de_var 2 (pv 2)) (de_var 0 (pv 0)))))) (de_tup (da_cons (de_var 4 (pv 4)) (da_cons (de_var 3 (pv 3)) da_nil))) (de_var 0 (pv 0))))))
abbrev s_turned : Stmt := topS 22
abbrev n_turned : List Str := ["clubs", "rounds", "one", "other", "game", "games"]
theorem sc_turned : FnScope n_turned ["clubs", "rounds", "one", "other"] (defScope s_turned) := ⟨rfl, rfl, rfl, by decide +kernel, rfl, by decide +kernel, by decide +kernel⟩
def g_turned : Ev → Out :=
    (gSeq (gDrop (sF 2 o_need_rounds (aCons (sVar 0) (aCons (sVar 1) aNil))))
    (gSeq (gDrop (sF 3 o_need_two_clubs (aCons (sVar 0) (aCons (sVar 2) (aCons (sVar 3) aNil)))))
    (gRetN2 (nComp2 (iL (sVar 1)) (bName 5) bYes (nCall nSort (aCons (fun ρ => lstR ((nComp (iL (sVar 5)) (bName 4) bYes (sF 3 o_turned_game (aCons (sVar 4) (aCons (sVar 2) (aCons (sVar 3) aNil)))) [4]) ρ)) aNil)) [5]))))
def o_turned := opN2 n_turned g_turned
theorem ok_turned (B : Bl K mg) {f : Addr} {fd : FuncData} (F : Fun K "turned" "turned" s_turned f fd) (c_need_rounds : Cal P w K mg base 4 "need_rounds" (spX K En.cl 2 o_need_rounds)) (c_need_two_clubs : Cal P w K mg base 3 "need_two_clubs" (spX K En.cl 3 o_need_two_clubs)) (c_turned_game : Cal P w K mg base 1 "turned_game" (spX K En.cl 3 o_turned_game)) : FnOk P w K mg base (L2.CX P w) 5 f fd ["clubs", "rounds", "one", "other"] (spN2 K En.cl 4 o_turned) :=
    fnN2 F sc_turned rfl fun cdv A outer s H E hr =>
      (dss_cons
      (ds_expr (de_call (takes_of rfl rfl rfl rfl) c_need_rounds hr (by decide) (da_cons (de_var 0 (pv 0)) (da_cons (de_var 1 (pv 1)) da_nil))))
      (dss_cons
      (ds_expr (de_call (takes_of rfl rfl rfl rfl) c_need_two_clubs hr (by decide) (da_cons (de_var 0 (pv 0)) (da_cons (de_var 2 (pv 2)) (da_cons (de_var 3 (pv 3)) da_nil)))))
      (dss_one
      (ds_retN2 (dn2_lc (own := [("games", 5)]) sc_turned.nd (blkOk_by (own := [("games", 5)]) (N := n_turned) (sc := defScope s_turned) (by decide +kernel)) (di_list (de_var 1 (pv 1))) (fun _ _ _ _ _ => (dg_name (pg_name (i := 5) sc_turned.nd rfl (by first | exact Or.inl rfl | exact Or.inr rfl)))) (fun _ _ _ _ _ => dts_nil) (fun _ _ _ _ _ => (dn_bltn (CallR.or cr_sortedPO cr_sortedI) cn_sort B.b_sorted (by decide +kernel) (da_cons (de_dn (dn_lc (own := [("game", 4)]) sc_turned.nd (blkOk_by (own := [("game", 4)]) (by rfl)) (di_list (de_var 5 (pv 5))) (fun _ _ _ _ _ => (dg_name (pg_name (i := 4) sc_turned.nd rfl (by first | exact Or.inl rfl | exact Or.inr rfl)))) (fun _ _ _ _ _ => dts_nil) (fun _ _ _ _ _ => (de_call takes0 c_turned_game hr (by decide) (da_cons (de_var 4 (pv 4)) (da_cons (de_var 2 (pv 2)) (da_cons (de_var 3 (pv 3)) da_nil))))) (by decide))) da_nil))) (by decide))))))
abbrev s_exchanged : Stmt := topS 24
abbrev n_exchanged : List Str := ["clubs", "rounds", "one", "other", "places", "home", "away", "games"]
theorem sc_exchanged : FnScope n_exchanged ["clubs", "rounds", "one", "other"] (defScope s_exchanged) := ⟨rfl, rfl, rfl, by decide +kernel, rfl, by decide +kernel, by decide +kernel⟩
def g_exchanged : Ev → Out :=
    (gSeq (gDrop (sF 2 o_need_rounds (aCons (sVar 0) (aCons (sVar 1) aNil))))
    (gSeq (gDrop (sF 3 o_need_two_clubs (aCons (sVar 0) (aCons (sVar 2) (aCons (sVar 3) aNil)))))
    (gSeq (gSetN 4 (nLrg (sVar 0)))
    (gSeq (gStore 4 (sVar 2) (sVar 3))
    (gSeq (gStore 4 (sVar 3) (sVar 2))
    (gFrz 4 (gRetN2 (nComp2 (iL (sVar 1)) (bName 7) bYes (nCall nSort (aCons (fun ρ => lstR ((nComp (iL (sVar 7)) (bTup (bCons (bName 5) (bCons (bName 6) bNil)) 2) bYes (sTup (aCons (s2 oIx (sVar 4) (sVar 5)) (aCons (s2 oIx (sVar 4) (sVar 6)) aNil))) [5, 6]) ρ)) aNil)) [7]))))))))
def o_exchanged := opN2 n_exchanged g_exchanged
theorem ok_exchanged (B : Bl K mg) {f : Addr} {fd : FuncData} (F : Fun K "exchanged" "exchanged" s_exchanged f fd) (c_need_rounds : Cal P w K mg base 4 "need_rounds" (spX K En.cl 2 o_need_rounds)) (c_need_two_clubs : Cal P w K mg base 3 "need_two_clubs" (spX K En.cl 3 o_need_two_clubs)) : FnOk P w K mg base (L2.CX P w) 5 f fd ["clubs", "rounds", "one", "other"] (spN2 K En.cl 4 o_exchanged) :=
    fnN2 F sc_exchanged rfl fun cdv A outer s H E hr =>
      (dss_cons
      (ds_expr (de_call (takes_of rfl rfl rfl rfl) c_need_rounds hr (by decide) (da_cons (de_var 0 (pv 0)) (da_cons (de_var 1 (pv 1)) da_nil))))
      (dss_cons
      (ds_expr (de_call (takes_of rfl rfl rfl rfl) c_need_two_clubs hr (by decide) (da_cons (de_var 0 (pv 0)) (da_cons (de_var 2 (pv 2)) (da_cons (de_var 3 (pv 3)) da_nil)))))
      (dss_cons
      (ds_setN (ps_set (i := 4) sc_exchanged.nd rfl (by first | exact Or.inl rfl | exact Or.inr rfl) (dn_lrg B.b_list B.b_range rfl (de_var 0 (pv 0)))) (fun _ _ _ q => q))
      (dss_cons
      (ds_store (ps_asg (de_var 3 (pv 3)) (pg_sub (pv 4) (de_var 2 (pv 2)) set_list)))
      (dss_cons
      (ds_store (ps_asg (de_var 2 (pv 2)) (pg_sub (pv 4) (de_var 3 (pv 3)) set_list)))
      (dss_frz 4 (dss_one
      (ds_retN2 (dn2_lc (own := [("games", 7)]) sc_exchanged.nd (blkOk_by (own := [("games", 7)]) (N := n_exchanged) (sc := defScope s_exchanged) (by decide +kernel)) (di_list (de_var 1 (pv 1))) (fun _ _ _ _ _ => (dg_name (pg_name (i := 7) sc_exchanged.nd rfl (by first | exact Or.inl rfl | exact Or.inr rfl)))) (fun _ _ _ _ _ => dts_nil) (fun _ _ _ _ _ => (dn_bltn (CallR.or cr_sortedPO cr_sortedI) cn_sort B.b_sorted (by decide +kernel) (da_cons (de_dn (dn_lc (own := [("home", 5), ("away", 6)]) sc_exchanged.nd (blkOk_by (own := [("home", 5), ("away", 6)]) (by rfl)) (di_list (de_var 7 (pv 7))) (fun _ _ _ _ _ => (dg_tup rfl (dgs_cons (dg_name (pg_name (i := 5) sc_exchanged.nd rfl (by first | exact Or.inl rfl | exact Or.inr rfl))) (dgs_cons (dg_name (pg_name (i := 6) sc_exchanged.nd rfl (by first | exact Or.inl rfl | exact Or.inr rfl))) dgs_nil)))) (fun _ _ _ _ _ => dts_nil) (fun _ _ _ _ _ => (de_tup (da_cons (de_ix (de_var 4 (pv 4)) (de_var 5 (pv 5))) (da_cons (de_ix (de_var 4 (pv 4)) (de_var 6 (pv 6))) da_nil)))) (by decide))) da_nil))) (by decide))))))))))
abbrev s_without : Stmt := topS 25
abbrev n_without : List Str := ["clubs", "rounds", "club", "game", "games"]
theorem sc_without : FnScope n_without ["clubs", "rounds", "club"] (defScope s_without) := ⟨rfl, rfl, rfl, by decide +kernel, rfl, by decide +kernel, by decide +kernel⟩
def g_without : Ev → Out :=
    (gSeq (gDrop (sF 2 o_need_rounds (aCons (sVar 0) (aCons (sVar 1) aNil))))
    (gSeq (gDrop (sF 2 o_need_club (aCons (sVar 0) (aCons (sVar 2) aNil))))
    (gRetN2 (nComp2 (iL (sVar 1)) (bName 4) bYes (nCall nSort (aCons (fun ρ => lstR ((nComp (iL (sVar 4)) (bName 3) (sT (s2 (oIn true) (sVar 2) (sVar 3))) (sVar 3) [3]) ρ)) aNil)) [4]))))
def o_without := opN2 n_without g_without
theorem ok_without (B : Bl K mg) {f : Addr} {fd : FuncData} (F : Fun K "without" "without" s_without f fd) (c_need_rounds : Cal P w K mg base 4 "need_rounds" (spX K En.cl 2 o_need_rounds)) (c_need_club : Cal P w K mg base 2 "need_club" (spX K En.cl 2 o_need_club)) : FnOk P w K mg base (L2.CX P w) 5 f fd ["clubs", "rounds", "club"] (spN2 K En.cl 3 o_without) :=
    fnN2 F sc_without rfl fun cdv A outer s H E hr =>
      (dss_cons
      (ds_expr (de_call (takes_of rfl rfl rfl rfl) c_need_rounds hr (by decide) (da_cons (de_var 0 (pv 0)) (da_cons (de_var 1 (pv 1)) da_nil))))
      (dss_cons
      (ds_expr (de_call (takes_of rfl rfl rfl rfl) c_need_club hr (by decide) (da_cons (de_var 0 (pv 0)) (da_cons (de_var 2 (pv 2)) da_nil))))
      (dss_one
      (ds_retN2 (dn2_lc (own := [("games", 4)]) sc_without.nd (blkOk_by (own := [("games", 4)]) (N := n_without) (sc := defScope s_without) (by decide +kernel)) (di_list (de_var 1 (pv 1))) (fun _ _ _ _ _ => (dg_name (pg_name (i := 4) sc_without.nd rfl (by first | exact Or.inl rfl | exact Or.inr rfl)))) (fun _ _ _ _ _ => dts_nil) (fun _ _ _ _ _ => (dn_bltn (CallR.or cr_sortedPO cr_sortedI) cn_sort B.b_sorted (by decide +kernel) (da_cons (de_dn (dn_lc (own := [("game", 3)]) sc_without.nd (blkOk_by (own := [("game", 3)]) (by rfl)) (di_list (de_var 4 (pv 4))) (fun _ _ _ _ _ => (dg_name (pg_name (i := 3) sc_without.nd rfl (by first | exact Or.inl rfl | exact Or.inr rfl)))) (fun _ _ _ _ _ => (dts_one (dt_cmp (op_notInA (hu65 hr)) (od_in (neg := true)) rfl (de_var 2 (pv 2)) (de_var 3 (pv 3))))) (fun _ _ _ _ _ => (de_var 3 (pv 3))) (by decide))) da_nil))) (by decide))))))
abbrev s_is_even : Stmt := topS 28
abbrev n_is_even : List Str := ["number"]
theorem sc_is_even : FnScope n_is_even ["number"] (defScope s_is_even) := ⟨rfl, rfl, rfl, by decide +kernel, rfl, by decide +kernel, by decide +kernel⟩
def g_is_even : Ev → Out :=
    (gRet (s2 oEq (s2 oMod (sVar 0) (sC (.int 2))) (sC (.int 0))))
def o_is_even := opX n_is_even g_is_even
theorem ok_is_even (B : Bl K mg) {f : Addr} {fd : FuncData} (F : Fun K "is_even" "is_even" s_is_even f fd) : FnOk P w K mg base (L2.CX P w) 1 f fd ["number"] (spX K En.cl 1 o_is_even) :=
    fnX F sc_is_even rfl fun cdv A outer s H E hr =>
      (dss_one
      (ds_ret (de_cmp (op_eqD hr.units) od_eq (nomark _) (de_mod (de_var 0 (pv 0)) de_int) de_int)))
abbrev s_ring_games : Stmt := topS 29
abbrev n_ring_games : List Str := ["ring", "turn", "games", "step", "ahead", "behind"]
theorem sc_ring_games : FnScope n_ring_games ["ring", "turn"] (defScope s_ring_games) := ⟨rfl, rfl, rfl, by decide +kernel, rfl, by decide +kernel, by decide +kernel⟩
def g_ring_games : Ev → Out :=
    (gSeq (gSetN 2 (nLst aNil))
    (gSeq (gFor (iR rg2 (aCons (sC (.int 1)) (aCons (s2 oAdd (s2 oDiv (sVar 0) (sC (.int 2))) (sC (.int 1))) aNil))) (bName 3)
    (gSeq (gSet 4 (s2 oMod (s2 oAdd (sVar 1) (sVar 3)) (sVar 0)))
    (gSeq (gSet 5 (s2 oMod (s2 oSub (sVar 1) (sVar 3)) (sVar 0)))
    (gOwn 2 (gApp 2 (sIf (sTru (sF 1 o_is_even (aCons (sVar 3) aNil))) (sTup (aCons (sVar 5) (aCons (sVar 4) aNil))) (sTup (aCons (sVar 4) (aCons (sVar 5) aNil)))))))))
    (gRetV 2)))
def o_ring_games := opN n_ring_games g_ring_games
theorem ok_ring_games (B : Bl K mg) {f : Addr} {fd : FuncData} (F : Fun K "ring_games" "ring_games" s_ring_games f fd) (c_is_even : Cal P w K mg base 1 "is_even" (spX K En.cl 1 o_is_even)) : FnOk P w K mg base (L2.CX P w) 2 f fd ["ring", "turn"] (spN K En.cl 2 o_ring_games) :=
    fnN F sc_ring_games rfl fun cdv A outer s H E hr =>
      (dss_cons
      (ds_setN (ps_set (i := 2) sc_ring_games.nd rfl (by first | exact Or.inl rfl | exact Or.inr rfl) (dn_lst da_nil)) (fun _ _ _ q => q))
      (dss_cons
      (ds_for (passes_of rfl) rfl (di_rg2 B.b_range (da_cons de_int (da_cons (de_add (de_div (de_var 0 (pv 0)) de_int) de_int) da_nil))) (dg_name (pg_name (i := 3) sc_ring_games.nd rfl (by first | exact Or.inl rfl | exact Or.inr rfl)))
      (dss_cons
      (ds_set (ps_set (i := 4) sc_ring_games.nd rfl (by first | exact Or.inl rfl | exact Or.inr rfl) (de_mod (de_add (de_var 1 (pv 1)) (de_var 3 (pv 3))) (de_var 0 (pv 0)))) (fun _ _ _ q => q))
      (dss_cons
      (ds_set (ps_set (i := 5) sc_ring_games.nd rfl (by first | exact Or.inl rfl | exact Or.inr rfl) (de_mod (de_sub (de_var 1 (pv 1)) (de_var 3 (pv 3))) (de_var 0 (pv 0)))) (fun _ _ _ q => q))
      (dss_one
      (ds_app 2 (pv 2) (de_if (dt_tru (de_call (takes_of rfl rfl rfl rfl) c_is_even hr (by decide) (da_cons (de_var 3 (pv 3)) da_nil))) (de_tup (da_cons (de_var 5 (pv 5)) (da_cons (de_var 4 (pv 4)) da_nil))) (de_tup (da_cons (de_var 4 (pv 4)) (da_cons (de_var 5 (pv 5)) da_nil)))) (pe_bm PySem.F.plainAttrs_list PySem.F.slot_list_append PySem.F.type_list_append mt_append (pv 2) (pa_cons (de_if (dt_tru (de_call (takes_of rfl rfl rfl rfl) c_is_even hr (by decide) (da_cons (de_var 3 (pv 3)) da_nil))) (de_tup (da_cons (de_var 5 (pv 5)) (da_cons (de_var 4 (pv 4)) da_nil))) (de_tup (da_cons (de_var 4 (pv 4)) (da_cons (de_var 5 (pv 5)) da_nil)))) pa_nil)))))))
      (dss_one
      (ds_retV 2 (pv 2)))))
abbrev s_last_club_game : Stmt := topS 30
abbrev n_last_club_game : List Str := ["last", "turn"]
theorem sc_last_club_game : FnScope n_last_club_game ["last", "turn"] (defScope s_last_club_game) := ⟨rfl, rfl, rfl, by decide +kernel, rfl, by decide +kernel, by decide +kernel⟩
def g_last_club_game : Ev → Out :=
    (gRet (sIf (sTru (sF 1 o_is_even (aCons (sVar 1) aNil))) (sTup (aCons (sVar 1) (aCons (sVar 0) aNil))) (sTup (aCons (sVar 0) (aCons (sVar 1) aNil)))))
def o_last_club_game := opX n_last_club_game g_last_club_game
theorem ok_last_club_game (B : Bl K mg) {f : Addr} {fd : FuncData} (F : Fun K "last_club_game" "last_club_game" s_last_club_game f fd) (c_is_even : Cal P w K mg base 1 "is_even" (spX K En.cl 1 o_is_even)) : FnOk P w K mg base (L2.CX P w) 2 f fd ["last", "turn"] (spX K En.cl 2 o_last_club_game) :=
    fnX F sc_last_club_game rfl fun cdv A outer s H E hr =>
      (dss_one
      (ds_ret (de_if (dt_tru (de_call (takes_of rfl rfl rfl rfl) c_is_even hr (by decide) (da_cons (de_var 1 (pv 1)) da_nil))) (de_tup (da_cons (de_var 1 (pv 1)) (da_cons (de_var 0 (pv 0)) da_nil))) (de_tup (da_cons (de_var 0 (pv 0)) (da_cons (de_var 1 (pv 1)) da_nil))))))
abbrev s_once_round : Stmt := topS 27
abbrev n_once_round : List Str := ["clubs", "last", "turn"]
theorem sc_once_round : FnScope n_once_round ["clubs"] (defScope s_once_round) := ⟨rfl, rfl, rfl, by decide +kernel, rfl, by decide +kernel, by decide +kernel⟩
def g_once_round : Ev → Out :=
    (gSeq (gDrop (sF 1 o_need_clubs (aCons (sVar 0) aNil)))
    (gSeq (gSet 1 (s2 oSub (sVar 0) (sC (.int 1))))
    (gSeq (gIf (sTru (sF 1 o_is_even (aCons (sVar 0) aNil)))
    (gRetN2 (nComp2 (iR rg1 (aCons (sVar 1) aNil)) (bName 2) bYes (nCall nSort (aCons (sLst (aStar (sF 2 (fun ds => lstR (o_ring_games ds)) (aCons (sVar 1) (aCons (sVar 2) aNil))) (aCons (sF 2 o_last_club_game (aCons (sVar 1) (aCons (sVar 2) aNil))) aNil))) aNil)) [2]))
    gNil)
    (gRetN2 (nComp2 (iR rg1 (aCons (sVar 0) aNil)) (bName 2) bYes (nCall nSort (aCons (sF 2 (fun ds => lstR (o_ring_games ds)) (aCons (sVar 0) (aCons (sVar 2) aNil))) aNil)) [2])))))
def o_once_round := opN2 n_once_round g_once_round
theorem ok_once_round (B : Bl K mg) {f : Addr} {fd : FuncData} (F : Fun K "once_round" "once_round" s_once_round f fd) (c_need_clubs : Cal P w K mg base 1 "need_clubs" (spX K En.cl 1 o_need_clubs)) (c_is_even : Cal P w K mg base 1 "is_even" (spX K En.cl 1 o_is_even)) (c_last_club_game : Cal P w K mg base 2 "last_club_game" (spX K En.cl 2 o_last_club_game)) (c_ring_games : Cal P w K mg base 2 "ring_games" (spN K En.cl 2 o_ring_games)) : FnOk P w K mg base (L2.CX P w) 3 f fd ["clubs"] (spN2 K En.cl 1 o_once_round) :=
    fnN2 F sc_once_round rfl fun cdv A outer s H E hr =>
      (dss_cons
      (ds_expr (de_call (takes_of rfl rfl rfl rfl) c_need_clubs hr (by decide) (da_cons (de_var 0 (pv 0)) da_nil)))
      (dss_cons
      (ds_set (ps_set (i := 1) sc_once_round.nd rfl (by first | exact Or.inl rfl | exact Or.inr rfl) (de_sub (de_var 0 (pv 0)) de_int)) (fun _ _ _ q => q))
      (dss_cons
      (ds_if (dt_tru (de_call (takes_of rfl rfl rfl rfl) c_is_even hr (by decide) (da_cons (de_var 0 (pv 0)) da_nil)))
      (dss_one
      (ds_retN2 (dn2_lc (own := [("turn", 2)]) sc_once_round.nd (blkOk_by (own := [("turn", 2)]) (N := n_once_round) (sc := defScope s_once_round) (by decide +kernel)) (di_rg1 B.b_range (da_cons (de_var 1 (pv 1)) da_nil)) (fun _ _ _ _ _ => (dg_name (pg_name (i := 2) sc_once_round.nd rfl (by first | exact Or.inl rfl | exact Or.inr rfl)))) (fun _ _ _ _ _ => dts_nil) (fun _ _ _ _ _ => (dn_bltn (CallR.or cr_sortedPO cr_sortedI) cn_sort B.b_sorted (by decide +kernel) (da_cons (de_lst (da_star (de_call takes0 c_ring_games.ofN hr (by decide) (da_cons (de_var 1 (pv 1)) (da_cons (de_var 2 (pv 2)) da_nil))) (da_cons (de_call takes0 c_last_club_game hr (by decide) (da_cons (de_var 1 (pv 1)) (da_cons (de_var 2 (pv 2)) da_nil))) da_nil))) da_nil))) (by decide))))
      dss_nil)
      (dss_one
      (ds_retN2 (dn2_lc (own := [("turn", 2)]) sc_once_round.nd (blkOk_by (own := [("turn", 2)]) (N := n_once_round) (sc := defScope s_once_round) (by decide +kernel)) (di_rg1 B.b_range (da_cons (de_var 0 (pv 0)) da_nil)) (fun _ _ _ _ _ => (dg_name (pg_name (i := 2) sc_once_round.nd rfl (by first | exact Or.inl rfl | exact Or.inr rfl)))) (fun _ _ _ _ _ => dts_nil) (fun _ _ _ _ _ => (dn_bltn (CallR.or cr_sortedPO cr_sortedI) cn_sort B.b_sorted (by decide +kernel) (da_cons (de_call takes0 c_ring_games.ofN hr (by decide) (da_cons (de_var 0 (pv 0)) (da_cons (de_var 2 (pv 2)) da_nil))) da_nil))) (by decide)))))))
abbrev s__law_draw : Stmt := topS 34
abbrev n__law_draw : List Str := ["_law_script", "_law_k", "_law_cell", "_law_number"]
theorem sc__law_draw : FnScope n__law_draw ["_law_script", "_law_k"] (defScope s__law_draw) := ⟨rfl, rfl, rfl, by decide +kernel, rfl, by decide +kernel, by decide +kernel⟩
def g__law_draw : Ev → Out :=
    (gSeq (gSet 2 (sC (.int 0)))
    (gSeq (gIf (sScrNe 0)
    (gSet 2 (s2 oAdd (s2 oMul (sC (.int 31)) (sScrSum 0)) (sScrIx 0 (s2 oMod (sVar 1) (sScrLen 0)))))
    gNil)
    (gSeq (gSet 3 (s2 oAdd (s2 oAdd (s2 oMod (sVar 2) (sC (.int 1000000007))) (s2 oMul (sC (.int 7919)) (sVar 1))) (sC (.int 13))))
    (gRet (s2 oDiv (s2 oMod (s2 oMul (s2 oMod (s2 oMul (sVar 3) (sVar 3)) (sC (.int 1000000007))) (sVar 3)) (sC (.int 998244353))) (sC (.int 11)))))))
abbrev o__law_draw : List D → Res D := drawO
theorem ok__law_draw (B : Bl K mg) {f : Addr} {fd : FuncData} (F : Fun K "_law_draw" "_law_draw" s__law_draw f fd) : FnOk P w K mg base (L2.CX P w) 1 f fd ["_law_script", "_law_k"] (spX K En.cl 2 o__law_draw) := by
    have G : FnOk P w K mg base (L2.CX P w) 1 f fd ["_law_script", "_law_k"] (spX K En.cl 2 (opX n__law_draw gDraw)) := fnX F sc__law_draw rfl fun cdv A outer s H E hr =>
      (dss_cons
      (ds_set (ps_set (i := 2) sc__law_draw.nd rfl (by first | exact Or.inl rfl | exact Or.inr rfl) de_int) (fun _ _ _ q => q))
      (dss_cons
      (ds_if (dt_scrNe hr.units (pv 0))
      (dss_one
      (ds_set (ps_set (i := 2) sc__law_draw.nd rfl (by first | exact Or.inl rfl | exact Or.inr rfl) (de_add (de_mul de_int (de_scrSum B.b_sum rfl (pv 0))) (de_scrIx (pv 0) (de_mod (de_var 1 (pv 1)) (de_scrLen B.b_len (pv 0)))))) (fun _ _ _ q => q)))
      dss_nil)
      (dss_cons
      (ds_set (ps_set (i := 3) sc__law_draw.nd rfl (by first | exact Or.inl rfl | exact Or.inr rfl) (de_add (de_add (de_mod (de_var 2 (pv 2)) de_int) (de_mul de_int (de_var 1 (pv 1)))) de_int)) (fun _ _ _ q => q))
      (dss_one
      (ds_ret (de_div (de_mod (de_mul (de_mod (de_mul (de_var 3 (pv 3)) (de_var 3 (pv 3))) de_int) (de_var 3 (pv 3))) de_int) de_int))))))
    exact FnOk.weak G fun vs H Q E q => by
      obtain ⟨ds, F, h1, h3, h4, h5, p⟩ := q
      refine ⟨ds, F, h1, h3, h4, h5, ?_⟩
      cases r : drawO ds with
      | ok d => rw [draw_ok rfl ds d r]; rw [show o__law_draw ds = .ok d from r] at p; exact p
      | ex c => exact absurd r (draw_noex ds c)
      | bad => rw [show o__law_draw ds = .bad from r] at p; exact p.elim
abbrev s__law_whole : Stmt := topS 35
abbrev n__law_whole : List Str := ["_law_found"]
theorem sc__law_whole : FnScope n__law_whole ["_law_found"] (defScope s__law_whole) := ⟨rfl, rfl, rfl, by decide +kernel, rfl, by decide +kernel, by decide +kernel⟩
def g__law_whole : Ev → Out :=
    (gRet (vAnd (sIsi "int" (sVar 0)) (vNot (sIsi "bool" (sVar 0)))))
def o__law_whole := opX n__law_whole g__law_whole
theorem ok__law_whole (B : Bl K mg) {f : Addr} {fd : FuncData} (F : Fun K "_law_whole" "_law_whole" s__law_whole f fd) : FnOk P w K mg base (L2.CX P w) 1 f fd ["_law_found"] (spX K En.cl 1 o__law_whole) :=
    fnX F sc__law_whole rfl fun cdv A outer s H E hr =>
      (dss_one
      (ds_ret (de_and (de_isi (T := "int") B.b_isinstance B.b_int (by decide +kernel) (by decide +kernel) (de_var 0 (pv 0))) (de_one (de_not (de_isi (T := "bool") B.b_isinstance B.b_bool (by decide +kernel) (by decide +kernel) (de_var 0 (pv 0))))))))
abbrev s__law_word : Stmt := topS 36
abbrev n__law_word : List Str := ["_law_e", "_law_some", "_law_found", "_law_word_here", "_law_is_so"]
theorem sc__law_word : FnScope n__law_word ["_law_e"] (defScope s__law_word) := ⟨rfl, rfl, rfl, by decide +kernel, rfl, by decide +kernel, by decide +kernel⟩
def g__law_word : Ev → Out :=
    (gSeq (gSet 1 (sLst (aCons (sTup (aCons (sC (.str (PySem.Str.ofString "clubs"))) (aCons (sIsE 7 1 (sVar 0)) aNil))) (aCons (sTup (aCons (sC (.str (PySem.Str.ofString "rounds"))) (aCons (sIsE 7 2 (sVar 0)) aNil))) (aCons (sTup (aCons (sC (.str (PySem.Str.ofString "club"))) (aCons (sIsE 7 3 (sVar 0)) aNil))) aNil)))))
    (gSeq (gSetN 1 (nCat (sVar 1) (sLst (aCons (sTup (aCons (sC (.str (PySem.Str.ofString "order"))) (aCons (sIsE 7 4 (sVar 0)) aNil))) (aCons (sTup (aCons (sC (.str (PySem.Str.ofString "text"))) (aCons (sIsE 7 5 (sVar 0)) aNil))) aNil)))))
    (gSeq (gOwn 1 (gApp 1 (sTup (aCons (sC (.str (PySem.Str.ofString "nothing"))) (aCons (sIsE 7 6 (sVar 0)) aNil)))))
    (gFrz 1 (gSeq (gSet 2 (fun ρ => lstR (nComp (iL (sVar 1)) (bTup (bCons (bName 3) (bCons (bName 4) bNil)) 2) (sTru (sVar 4)) (sVar 3) [3, 4] ρ)))
    (gRet (s2 oAdd (sVar 2) (s2 oMul (sLst (aCons (sC (.str (PySem.Str.ofString "else"))) aNil)) (sCall oIntL (aCons (vAnd (s2 oNotN (sVar 0) (sC .none)) (vOr (vNot (sIsE 7 0 (sVar 0))) (vNot (sIsV 7 (sVar 0))))) aNil))))))))))
def o__law_word := opX n__law_word g__law_word
theorem ok__law_word (B : Bl K mg) {f : Addr} {fd : FuncData} (F : Fun K "_law_word" "_law_word" s__law_word f fd) : FnOk P w K mg base (L2.CX P w) 1 f fd ["_law_e"] (spX K En.cl 1 o__law_word) :=
    fnX F sc__law_word rfl fun cdv A outer s H E hr =>
      (dss_cons
      (ds_set (ps_set (i := 1) sc__law_word.nd rfl (by first | exact Or.inl rfl | exact Or.inr rfl) (de_lst (da_cons (de_tup (da_cons de_str (da_cons (de_isE (d := 1) B.er (by decide) B.b_isinstance B.g_BadClubs (de_var 0 (pv 0))) da_nil))) (da_cons (de_tup (da_cons de_str (da_cons (de_isE (d := 2) B.er (by decide) B.b_isinstance B.g_BadRounds (de_var 0 (pv 0))) da_nil))) (da_cons (de_tup (da_cons de_str (da_cons (de_isE (d := 3) B.er (by decide) B.b_isinstance B.g_BadClub (de_var 0 (pv 0))) da_nil))) da_nil))))) (fun _ _ _ q => q))
      (dss_cons
      (ds_setN (ps_set (i := 1) sc__law_word.nd rfl (by first | exact Or.inl rfl | exact Or.inr rfl) (dn_cat (de_var 1 (pv 1)) (de_lst (da_cons (de_tup (da_cons de_str (da_cons (de_isE (d := 4) B.er (by decide) B.b_isinstance B.g_BadOrder (de_var 0 (pv 0))) da_nil))) (da_cons (de_tup (da_cons de_str (da_cons (de_isE (d := 5) B.er (by decide) B.b_isinstance B.g_BadText (de_var 0 (pv 0))) da_nil))) da_nil))))) (fun _ _ _ q => q))
      (dss_cons
      (ds_app 1 (pv 1) (de_tup (da_cons de_str (da_cons (de_isE (d := 6) B.er (by decide) B.b_isinstance B.g_NothingDone (de_var 0 (pv 0))) da_nil))) (pe_bm PySem.F.plainAttrs_list PySem.F.slot_list_append PySem.F.type_list_append mt_append (pv 1) (pa_cons (de_tup (da_cons de_str (da_cons (de_isE (d := 6) B.er (by decide) B.b_isinstance B.g_NothingDone (de_var 0 (pv 0))) da_nil))) pa_nil)))
      (dss_frz 1 (dss_cons
      (ds_set (ps_setLc (i := 2) (own := [("_law_word_here", 3), ("_law_is_so", 4)]) rfl sc__law_word.nd rfl rfl (sw_true rfl rfl rfl (by decide +kernel)) (di_list (de_var 1 (pv 1))) (blkOk_by (own := [("_law_word_here", 3), ("_law_is_so", 4)]) (N := n__law_word) (sc := defScope s__law_word) (by decide +kernel)) (fun _ _ _ _ _ => (dg_tup rfl (dgs_cons (dg_name (pg_name (i := 3) sc__law_word.nd rfl (by first | exact Or.inl rfl | exact Or.inr rfl))) (dgs_cons (dg_name (pg_name (i := 4) sc__law_word.nd rfl (by first | exact Or.inl rfl | exact Or.inr rfl))) dgs_nil)))) (fun _ _ _ _ _ => (dts_one (dt_tru (de_var 4 (pv 4))))) (fun _ _ _ _ _ => (de_var 3 (pv 3)))) (tx_lcD (by decide)))
      (dss_one
      (ds_ret (de_add (de_var 2 (pv 2)) (de_mul (de_lst (da_cons de_str da_nil)) (de_bty call_int1 cd_int B.b_int (by decide +kernel) (da_cons (de_and (de_cmp op_notN od_notN (nomark _) (de_var 0 (pv 0)) de_non) (de_one (de_or (de_not (de_isE (d := 0) B.er (by decide) B.b_isinstance B.g_RoundError (de_var 0 (pv 0)))) (de_one (de_not (de_isV B.er B.b_isinstance B.b_ValueError (de_var 0 (pv 0)))))))) da_nil)))))))))))
abbrev s__law_told : Stmt := topS 37
abbrev n__law_told : List Str := ["_law_rounds", "_law_games"]
theorem sc__law_told : FnScope n__law_told ["_law_rounds"] (defScope s__law_told) := ⟨rfl, rfl, rfl, by decide +kernel, rfl, by decide +kernel, by decide +kernel⟩
def g__law_told : Ev → Out :=
    (gRet (fun ρ => lstR ((nComp (iL (sVar 0)) (bName 1) bYes (sCall oSort2 (aCons (sVar 1) aNil)) [1]) ρ)))
def o__law_told := opX n__law_told g__law_told
theorem ok__law_told (B : Bl K mg) {f : Addr} {fd : FuncData} (F : Fun K "_law_told" "_law_told" s__law_told f fd) : FnOk P w K mg base (L2.CX P w) 1 f fd ["_law_rounds"] (spX K En.cl 1 o__law_told) :=
    fnX F sc__law_told rfl fun cdv A outer s H E hr =>
      (dss_one
      (ds_ret (de_dn (dn_lc (own := [("_law_games", 1)]) sc__law_told.nd (blkOk_by (own := [("_law_games", 1)]) (N := n__law_told) (sc := defScope s__law_told) (by decide +kernel)) (di_list (de_var 0 (pv 0))) (fun _ _ _ _ _ => (dg_name (pg_name (i := 1) sc__law_told.nd rfl (by first | exact Or.inl rfl | exact Or.inr rfl)))) (fun _ _ _ _ _ => dts_nil) (fun _ _ _ _ _ => (de_bltn (CallR.or (CallR.or cr_sortedPO cr_sortedI) cr_sortedIT) cd_sort2 B.b_sorted (by decide +kernel) (da_cons (de_var 1 (pv 1)) da_nil))) (by decide)))))
abbrev s__law_is : Stmt := topS 38
abbrev n__law_is : List Str := ["_law_found", "_law_due_here", "_law_games", "_law_some", "_law_game"]
theorem sc__law_is : FnScope n__law_is ["_law_found", "_law_due_here"] (defScope s__law_is) := ⟨rfl, rfl, rfl, by decide +kernel, rfl, by decide +kernel, by decide +kernel⟩
def g__law_is : Ev → Out :=
    (gSeq (gIf (bOr (bNot (sTru (sIsi "list" (sVar 0)))) (bOr (sT (s2 oNe (sVar 0) (sVar 1))) (bNot (sTru (sCall oAll (aCons (fun ρ => lstR ((nComp (iL (sVar 0)) (bName 2) bYes (sIsi "list" (sVar 2)) [2]) ρ)) aNil))))))
    (gRet (sC (.bool false)))
    gNil)
    (gSeq (gSetN 2 (nLst aNil))
    (gSeq (gFor (iL (sVar 0)) (bName 3)
    (gOwn 2 (gExt 2 (sVar 3))))
    (gFrz 2 (gRet (sCall oAll (aCons (fun ρ => lstR ((nComp (iL (sVar 2)) (bName 4) bYes (vAnd (sIsi "tuple" (sVar 4)) (vAnd (sF 1 o__law_whole (aCons (s2 oIx (sVar 4) (sC (.int 0))) aNil)) (sF 1 o__law_whole (aCons (s2 oIx (sVar 4) (sC (.int 1))) aNil)))) [4]) ρ)) aNil)))))))
def o__law_is := opX n__law_is g__law_is
theorem ok__law_is (B : Bl K mg) {f : Addr} {fd : FuncData} (F : Fun K "_law_is" "_law_is" s__law_is f fd) (c__law_whole : Cal P w K mg base 1 "_law_whole" (spX K En.cl 1 o__law_whole)) : FnOk P w K mg base (L2.CX P w) 2 f fd ["_law_found", "_law_due_here"] (spX K En.cl 2 o__law_is) :=
    fnX F sc__law_is rfl fun cdv A outer s H E hr =>
      (dss_cons
      (ds_if (dt_w (dw_or (dt_not (dt_tru (de_isi (T := "list") B.b_isinstance B.b_list (by decide +kernel) (by decide +kernel) (de_var 0 (pv 0))))) (dw_or (dt_cmp (op_neD hr.units) od_ne (nomark _) (de_var 0 (pv 0)) (de_var 1 (pv 1))) (dw_or1 (dt_not (dt_tru (de_bltn (cr_all rfl) cd_all B.b_all (by decide +kernel) (da_cons (de_dn (dn_lc (own := [("_law_games", 2)]) sc__law_is.nd (blkOk_by (own := [("_law_games", 2)]) (N := n__law_is) (sc := defScope s__law_is) (by decide +kernel)) (di_list (de_var 0 (pv 0))) (fun _ _ _ _ _ => (dg_name (pg_name (i := 2) sc__law_is.nd rfl (by first | exact Or.inl rfl | exact Or.inr rfl)))) (fun _ _ _ _ _ => dts_nil) (fun _ _ _ _ _ => (de_isi (T := "list") B.b_isinstance B.b_list (by decide +kernel) (by decide +kernel) (de_var 2 (pv 2)))) (by decide))) da_nil))))))))
      (dss_one
      (ds_ret de_bl))
      dss_nil)
      (dss_cons
      (ds_setN (ps_set (i := 2) sc__law_is.nd rfl (by first | exact Or.inl rfl | exact Or.inr rfl) (dn_lst da_nil)) (fun _ _ _ q => q))
      (dss_cons
      (ds_for (passes_of rfl) rfl (di_list (de_var 0 (pv 0))) (dg_name (pg_name (i := 3) sc__law_is.nd rfl (by first | exact Or.inl rfl | exact Or.inr rfl)))
      (dss_one
      (ds_ext 2 (pv 2) (de_var 3 (pv 3)) (pe_bm PySem.F.plainAttrs_list PySem.F.slot_list_extend PySem.F.type_list_extend mt_extend (pv 2) (pa_cons (de_var 3 (pv 3)) pa_nil)))))
      (dss_frz 2 (dss_one
      (ds_ret (de_bltn (cr_all rfl) cd_all B.b_all (by decide +kernel) (da_cons (de_dn (dn_lc (own := [("_law_game", 4)]) sc__law_is.nd (blkOk_by (own := [("_law_game", 4)]) (N := n__law_is) (sc := defScope s__law_is) (by decide +kernel)) (di_list (de_var 2 (pv 2))) (fun _ _ _ _ _ => (dg_name (pg_name (i := 4) sc__law_is.nd rfl (by first | exact Or.inl rfl | exact Or.inr rfl)))) (fun _ _ _ _ _ => dts_nil) (fun _ _ _ _ _ => (de_and (de_isi (T := "tuple") B.b_isinstance B.b_tuple (by decide +kernel) (by decide +kernel) (de_var 4 (pv 4))) (de_and (de_call takes0 c__law_whole hr (by decide) (da_cons (de_ix (de_var 4 (pv 4)) de_int) da_nil)) (de_one (de_call takes0 c__law_whole hr (by decide) (da_cons (de_ix (de_var 4 (pv 4)) de_int) da_nil)))))) (by decide))) da_nil))))))))
abbrev s__law_deed : Stmt := topS 39
abbrev n__law_deed : List Str := ["_law_clubs", "_law_many", "_law_number", "_law_one", "_law_other", "_law_odd", "_law_word_here", "_law_order", "_law_j", "_law_less"]
theorem sc__law_deed : FnScope n__law_deed ["_law_clubs", "_law_many", "_law_number"] (defScope s__law_deed) := ⟨rfl, rfl, rfl, by decide +kernel, rfl, by decide +kernel, by decide +kernel⟩
def g__law_deed : Ev → Out :=
    (gSeq (gSet 3 (s2 oMod (s2 oDiv (sVar 2) (sC (.int 16))) (sVar 0)))
    (gSeq (gSet 4 (s2 oMod (s2 oAdd (s2 oAdd (sVar 3) (sC (.int 1))) (s2 oMod (s2 oDiv (sVar 2) (sC (.int 512))) (s2 oSub (sVar 0) (sC (.int 1))))) (sVar 0)))
    (gSeq (gSet 5 (s2 oIx (sLst (aCons (sVar 0) (aCons (sNeg (sC (.int 1))) (aCons (sC (.bool true)) (aCons (sC .none) (aCons (sC (.str (PySem.Str.ofString "0"))) (aCons (sLst (aCons (sC (.int 0)) aNil)) (aCons (s2 oPow (sC (.int 10)) (sC (.int 20))) (aCons (s2 oAdd (sVar 0) (sVar 2)) aNil))))))))) (s2 oMod (s2 oDiv (sVar 2) (sC (.int 64))) (sC (.int 8)))))
    (gSeq (gSet 6 (s2 oIx (sLst (aCons (sC (.str (PySem.Str.ofString "move"))) (aCons (sC (.str (PySem.Str.ofString "turn"))) (aCons (sC (.str (PySem.Str.ofString "turn"))) (aCons (sC (.str (PySem.Str.ofString "exchange"))) (aCons (sC (.str (PySem.Str.ofString "exchange"))) (aCons (sC (.str (PySem.Str.ofString "back"))) (aCons (sC (.str (PySem.Str.ofString "back"))) (aCons (sC (.str (PySem.Str.ofString "leave"))) aNil))))))))) (s2 oMod (sVar 2) (sC (.int 8)))))
    (gSeq (gSet 7 (fun ρ => lstR (nComp (iR rg1 (aCons (sVar 1) aNil)) (bName 8) bYes (s2 oMod (s2 oAdd (sVar 8) (s2 oDiv (sVar 2) (sC (.int 16)))) (sVar 1)) [8] ρ)))
    (gSeq (gIf (sT (s2 oEq (s2 oMod (s2 oDiv (sVar 2) (sC (.int 8))) (sC (.int 6))) (sC (.int 1))))
    (gSeq (gSet 9 (sSl (sVar 7) pNo (pSo (sNeg (sC (.int 1))))))
    (gSeq (gSet 7 (s2 oIx (sLst (aCons (sVar 9) (aCons (s2 oAdd (sVar 7) (sSl (sVar 7) pNo (pSo (sC (.int 1))))) (aCons (s2 oAdd (sVar 9) (sLst (aCons (sVar 1) aNil))) (aCons (sCall oTupl (aCons (sVar 7) aNil)) (aCons (sC .none) (aCons (s2 oAdd (sVar 9) (sLst (aCons (sC (.bool true)) aNil))) aNil))))))) (s2 oMod (s2 oDiv (sVar 2) (sC (.int 64))) (sC (.int 6)))))
    (gAsg (bTup (bCons (bName 3) (bCons (bName 4) bNil)) 2) (s2 oIx (sLst (aCons (sTup (aCons (sVar 3) (aCons (sVar 5) aNil))) (aCons (sTup (aCons (sVar 5) (aCons (sVar 4) aNil))) (aCons (sTup (aCons (sVar 3) (aCons (sVar 3) aNil))) (aCons (sTup (aCons (sVar 5) (aCons (sVar 5) aNil))) aNil))))) (s2 oMod (s2 oDiv (sVar 2) (sC (.int 1024))) (sC (.int 4)))))))
    gNil)
    (gSeq (gIf (sT (s2 oEq (sVar 6) (sC (.str (PySem.Str.ofString "move")))))
    (gRet (sTup (aCons (sVar 6) (aCons (sVar 7) (aCons (sC .none) aNil)))))
    gNil)
    (gSeq (gIf (bAnd (sT (s2 oEq (sVar 6) (sC (.str (PySem.Str.ofString "leave"))))) (sT (s2 oGt (s2 oMod (s2 oDiv (sVar 2) (sC (.int 32))) (sC (.int 3))) (sC (.int 0)))))
    (gSet 6 (sC (.str (PySem.Str.ofString "turn"))))
    gNil)
    (gRet (sTup (aCons (sVar 6) (aCons (sVar 3) (aCons (sVar 4) aNil)))))))))))))
def o__law_deed := opX n__law_deed g__law_deed
theorem ok__law_deed (B : Bl K mg) {f : Addr} {fd : FuncData} (F : Fun K "_law_deed" "_law_deed" s__law_deed f fd) : FnOk P w K mg base (L2.CX P w) 1 f fd ["_law_clubs", "_law_many", "_law_number"] (spX K En.cl 3 o__law_deed) :=
    fnX F sc__law_deed rfl fun cdv A outer s H E hr =>
      (dss_cons
      (ds_set (ps_set (i := 3) sc__law_deed.nd rfl (by first | exact Or.inl rfl | exact Or.inr rfl) (de_mod (de_div (de_var 2 (pv 2)) de_int) (de_var 0 (pv 0)))) (fun _ _ _ q => q))
      (dss_cons
      (ds_set (ps_set (i := 4) sc__law_deed.nd rfl (by first | exact Or.inl rfl | exact Or.inr rfl) (de_mod (de_add (de_add (de_var 3 (pv 3)) de_int) (de_mod (de_div (de_var 2 (pv 2)) de_int) (de_sub (de_var 0 (pv 0)) de_int))) (de_var 0 (pv 0)))) (fun _ _ _ q => q))
      (dss_cons
      (ds_set (ps_set (i := 5) sc__law_deed.nd rfl (by first | exact Or.inl rfl | exact Or.inr rfl) (de_ix (de_lst (da_cons (de_var 0 (pv 0)) (da_cons (de_neg de_int) (da_cons de_bl (da_cons de_non (da_cons de_str (da_cons (de_lst (da_cons de_int da_nil)) (da_cons (de_pow de_int de_int) (da_cons (de_add (de_var 0 (pv 0)) (de_var 2 (pv 2))) da_nil))))))))) (de_mod (de_div (de_var 2 (pv 2)) de_int) de_int))) (fun _ _ _ q => q))
      (dss_cons
      (ds_set (ps_set (i := 6) sc__law_deed.nd rfl (by first | exact Or.inl rfl | exact Or.inr rfl) (de_ix (de_lst (da_cons de_str (da_cons de_str (da_cons de_str (da_cons de_str (da_cons de_str (da_cons de_str (da_cons de_str (da_cons de_str da_nil))))))))) (de_mod (de_var 2 (pv 2)) de_int))) (fun _ _ _ q => q))
      (dss_cons
      (ds_set (ps_setLc (i := 7) (own := [("_law_j", 8)]) rfl sc__law_deed.nd rfl rfl (sw_true rfl rfl rfl (by decide +kernel)) (di_rg1 B.b_range (da_cons (de_var 1 (pv 1)) da_nil)) (blkOk_by (own := [("_law_j", 8)]) (N := n__law_deed) (sc := defScope s__law_deed) (by decide +kernel)) (fun _ _ _ _ _ => (dg_name (pg_name (i := 8) sc__law_deed.nd rfl (by first | exact Or.inl rfl | exact Or.inr rfl)))) (fun _ _ _ _ _ => dts_nil) (fun _ _ _ _ _ => (de_mod (de_add (de_var 8 (pv 8)) (de_div (de_var 2 (pv 2)) de_int)) (de_var 1 (pv 1))))) (tx_lcD (by decide)))
      (dss_cons
      (ds_if (dt_cmp (op_eqD hr.units) od_eq (nomark _) (de_mod (de_div (de_var 2 (pv 2)) de_int) de_int) de_int)
      (dss_cons
      (ds_set (ps_set (i := 9) sc__law_deed.nd rfl (by first | exact Or.inl rfl | exact Or.inr rfl) (de_sl (de_var 7 (pv 7)) do_no (do_so (de_neg de_int)))) (fun _ _ _ q => q))
      (dss_cons
      (ds_set (ps_set (i := 7) sc__law_deed.nd rfl (by first | exact Or.inl rfl | exact Or.inr rfl) (de_ix (de_lst (da_cons (de_var 9 (pv 9)) (da_cons (de_add (de_var 7 (pv 7)) (de_sl (de_var 7 (pv 7)) do_no (do_so de_int))) (da_cons (de_add (de_var 9 (pv 9)) (de_lst (da_cons (de_var 1 (pv 1)) da_nil))) (da_cons (de_bty call_tuple_of cd_tupl B.b_tuple (by decide +kernel) (da_cons (de_var 7 (pv 7)) da_nil)) (da_cons de_non (da_cons (de_add (de_var 9 (pv 9)) (de_lst (da_cons de_bl da_nil))) da_nil))))))) (de_mod (de_div (de_var 2 (pv 2)) de_int) de_int))) (fun _ _ _ q => q))
      (dss_one
      (ds_asg (de_ix (de_lst (da_cons (de_tup (da_cons (de_var 3 (pv 3)) (da_cons (de_var 5 (pv 5)) da_nil))) (da_cons (de_tup (da_cons (de_var 5 (pv 5)) (da_cons (de_var 4 (pv 4)) da_nil))) (da_cons (de_tup (da_cons (de_var 3 (pv 3)) (da_cons (de_var 3 (pv 3)) da_nil))) (da_cons (de_tup (da_cons (de_var 5 (pv 5)) (da_cons (de_var 5 (pv 5)) da_nil))) da_nil))))) (de_mod (de_div (de_var 2 (pv 2)) de_int) de_int)) (dg_tup rfl (dgs_cons (dg_name (pg_name (i := 3) sc__law_deed.nd rfl (by first | exact Or.inl rfl | exact Or.inr rfl))) (dgs_cons (dg_name (pg_name (i := 4) sc__law_deed.nd rfl (by first | exact Or.inl rfl | exact Or.inr rfl))) dgs_nil)))))))
      dss_nil)
      (dss_cons
      (ds_if (dt_cmp (op_eqD hr.units) od_eq (nomark _) (de_var 6 (pv 6)) de_str)
      (dss_one
      (ds_ret (de_tup (da_cons (de_var 6 (pv 6)) (da_cons (de_var 7 (pv 7)) (da_cons de_non da_nil))))))
      dss_nil)
      (dss_cons
      (ds_if (dt_w (dw_and (dt_cmp (op_eqD hr.units) od_eq (nomark _) (de_var 6 (pv 6)) de_str) (dw_and1 (dt_cmp op_gt od_gt (nomark _) (de_mod (de_div (de_var 2 (pv 2)) de_int) de_int) de_int))))
      (dss_one
      (ds_set (ps_set (i := 6) sc__law_deed.nd rfl (by first | exact Or.inl rfl | exact Or.inr rfl) de_str) (fun _ _ _ q => q)))
      dss_nil)
      (dss_one
      (ds_ret (de_tup (da_cons (de_var 6 (pv 6)) (da_cons (de_var 3 (pv 3)) (da_cons (de_var 4 (pv 4)) da_nil))))))))))))))
abbrev s__law_turned : Stmt := topS 40
abbrev n__law_turned : List Str := ["_law_game", "_law_pair"]
theorem sc__law_turned : FnScope n__law_turned ["_law_game", "_law_pair"] (defScope s__law_turned) := ⟨rfl, rfl, rfl, by decide +kernel, rfl, by decide +kernel, by decide +kernel⟩
def g__law_turned : Ev → Out :=
    (gRet (sIf (bAnd (sT (s2 (oIn false) (s2 oIx (sVar 0) (sC (.int 0))) (sVar 1))) (sT (s2 (oIn false) (s2 oIx (sVar 0) (sC (.int 1))) (sVar 1)))) (sRev (sVar 0)) (sVar 0)))
def o__law_turned := opX n__law_turned g__law_turned
theorem ok__law_turned (B : Bl K mg) {f : Addr} {fd : FuncData} (F : Fun K "_law_turned" "_law_turned" s__law_turned f fd) : FnOk P w K mg base (L2.CX P w) 1 f fd ["_law_game", "_law_pair"] (spX K En.cl 2 o__law_turned) :=
    fnX F sc__law_turned rfl fun cdv A outer s H E hr =>
      (dss_one
      (ds_ret (de_if (dt_w (dw_and (dt_cmp (op_inA (hu65 hr)) (od_in (neg := false)) rfl (de_ix (de_var 0 (pv 0)) de_int) (de_var 1 (pv 1))) (dw_and1 (dt_cmp (op_inA (hu65 hr)) (od_in (neg := false)) rfl (de_ix (de_var 0 (pv 0)) de_int) (de_var 1 (pv 1)))))) (de_rev (de_var 0 (pv 0))) (de_var 0 (pv 0)))))
abbrev s__law_due : Stmt := topS 41
abbrev n__law_due : List Str := ["_law_clubs", "_law_past", "_law_deed_here", "_law_word_here", "_law_one", "_law_other", "_law_now", "_law_at", "_law_good", "_law_club", "_law_game", "_law_games", "_law_names", "_law_home", "_law_away"]
theorem sc__law_due : FnScope n__law_due ["_law_clubs", "_law_past", "_law_deed_here"] (defScope s__law_due) := ⟨rfl, rfl, rfl, by decide +kernel, rfl, by decide +kernel, by decide +kernel⟩
def g__law_due : Ev → Out :=
    (gSeq (gAsg (bTup (bCons (bName 3) (bCons (bName 4) (bCons (bName 5) bNil))) 3) (sVar 2))
    (gSeq (gSet 6 (sAtLast 1))
    (gSeq (gIf (sT (s2 oEq (sVar 3) (sC (.str (PySem.Str.ofString "back")))))
    (gSeq (gIf (evT (sT (s2 oEq (sCall oLen (aCons (sVar 1) aNil)) (sC (.int 1)))))
    (gRetS (sLst (aCons (sC (.str (PySem.Str.ofString "nothing"))) aNil)))
    gNil)
    (gSeq (gAtPop 1)
    (gRetS (sLst aNil))))
    gNil)
    (gSeq (gIf (sT (s2 oEq (sVar 3) (sC (.str (PySem.Str.ofString "move")))))
    (gSeq (gIf (bOr (bNot (sTru (sIsi "list" (sVar 4)))) (bNot (sTru (sCall oAll (aCons (fun ρ => lstR ((nComp (iL (sVar 4)) (bName 7) bYes (sF 1 o__law_whole (aCons (sVar 7) aNil)) [7]) ρ)) aNil)))))
    (gRetS (sLst (aCons (sC (.str (PySem.Str.ofString "order"))) aNil)))
    gNil)
    (gSeq (gIf (sT (s2 oNe (sCall oSort2 (aCons (sVar 4) aNil)) (sLrg (sCall oLen (aCons (sVar 6) aNil)))))
    (gRetS (sLst (aCons (sC (.str (PySem.Str.ofString "order"))) aNil)))
    gNil)
    (gSeq (gAtApp 1 (fun ρ => lstR ((nComp (iL (sVar 4)) (bName 7) bYes (s2 oIx (sVar 6) (sVar 7)) [7]) ρ)))
    (gRetS (sLst aNil)))))
    gNil)
    (gSeq (gSet 8 (fun ρ => lstR (nComp (iT (sTup (aCons (sVar 4) (aCons (sVar 5) aNil)))) (bName 9) bYes (vAnd (sF 1 o__law_whole (aCons (sVar 9) aNil)) (sCh oLe oLt (sC (.int 0)) (sVar 9) (sVar 0))) [9] ρ)))
    (gSeq (gIf (bOr (bNot (sTru (s2 oIx (sVar 8) (sC (.int 0))))) (bAnd (sT (s2 oNe (sVar 3) (sC (.str (PySem.Str.ofString "leave"))))) (bOr (bNot (sTru (s2 oIx (sVar 8) (sC (.int 1))))) (sT (s2 oEq (sVar 4) (sVar 5))))))
    (gRetS (sLst (aCons (sC (.str (PySem.Str.ofString "club"))) aNil)))
    gNil)
    (gSeq (gIf (sT (s2 oEq (sVar 3) (sC (.str (PySem.Str.ofString "leave")))))
    (gAtApp 1 (fun ρ => lstR ((nComp (iL (sVar 6)) (bName 11) bYes (fun ρ => lstR ((nComp (iL (sVar 11)) (bName 10) (sT (s2 (oIn true) (sVar 4) (sVar 10))) (sVar 10) [10]) ρ)) [11]) ρ)))
    (gIf (sT (s2 oEq (sVar 3) (sC (.str (PySem.Str.ofString "turn")))))
    (gAtApp 1 (fun ρ => lstR ((nComp (iL (sVar 6)) (bName 11) bYes (fun ρ => lstR ((nComp (iL (sVar 11)) (bName 10) bYes (sF 2 o__law_turned (aCons (sVar 10) (aCons (sTup (aCons (sVar 4) (aCons (sVar 5) aNil))) aNil))) [10]) ρ)) [11]) ρ)))
    (gSeq (gDisp2 12 (sVar 4) (sVar 5) (sVar 5) (sVar 4))
    (gAtApp 1 (fun ρ => lstR ((nComp (iL (sVar 6)) (bName 11) bYes (fun ρ => lstR ((nComp (iL (sVar 11)) (bTup (bCons (bName 13) (bCons (bName 14) bNil)) 2) bYes (sTup (aCons (sGet2 12 (sVar 13) (sVar 13)) (aCons (sGet2 12 (sVar 14) (sVar 14)) aNil))) [13, 14]) ρ)) [11]) ρ))))))
    (gRetS (sLst aNil)))))))))
def o__law_due := opM n__law_due 1 g__law_due
theorem ok__law_due (B : Bl K mg) {f : Addr} {fd : FuncData} (F : Fun K "_law_due" "_law_due" s__law_due f fd) (c__law_whole : Cal P w K mg base 1 "_law_whole" (spX K En.cl 1 o__law_whole)) (c__law_turned : Cal P w K mg base 1 "_law_turned" (spX K En.cl 2 o__law_turned)) : FnOk P w K mg base (L2.CX P w) 2 f fd ["_law_clubs", "_law_past", "_law_deed_here"] (spM K En.cl 3 1 o__law_due) :=
    fnM F sc__law_due rfl fun cdv A outer s H E hr =>
      (dss_cons
      (ds_asg (de_var 2 (pv 2)) (dg_tup rfl (dgs_cons (dg_name (pg_name (i := 3) sc__law_due.nd rfl (by first | exact Or.inl rfl | exact Or.inr rfl))) (dgs_cons (dg_name (pg_name (i := 4) sc__law_due.nd rfl (by first | exact Or.inl rfl | exact Or.inr rfl))) (dgs_cons (dg_name (pg_name (i := 5) sc__law_due.nd rfl (by first | exact Or.inl rfl | exact Or.inr rfl))) dgs_nil)))))
      (dss_cons
      (ds_set (ps_set (i := 6) sc__law_due.nd rfl (by first | exact Or.inl rfl | exact Or.inr rfl) (de_atLast (pv 1))) (fun _ _ _ q => q))
      (dss_cons
      (ds_if (dt_cmp (op_eqD hr.units) od_eq (nomark _) (de_var 3 (pv 3)) de_str)
      (dss_cons
      (ds_if (dt_bor (dt_cmp (op_eqD hr.units) od_eq (nomark _) (de_bltn call_len_seq cd_len B.b_len PySem.boot_len (da_cons (de_var 1 (pv 1)) da_nil)) de_int))
      (dss_one
      (ds_retS (de_lst (da_cons de_str da_nil))))
      dss_nil)
      (dss_cons
      (ds_atPop (pe_bm0 PySem.F.plainAttrs_list PySem.F.slot_list_pop PySem.F.type_list_pop mt_pop (pv 1)))
      (dss_one
      (ds_retS (de_lst da_nil)))))
      dss_nil)
      (dss_cons
      (ds_if (dt_cmp (op_eqD hr.units) od_eq (nomark _) (de_var 3 (pv 3)) de_str)
      (dss_cons
      (ds_if (dt_w (dw_or (dt_not (dt_tru (de_isi (T := "list") B.b_isinstance B.b_list (by decide +kernel) (by decide +kernel) (de_var 4 (pv 4))))) (dw_or1 (dt_not (dt_tru (de_bltn (cr_all rfl) cd_all B.b_all (by decide +kernel) (da_cons (de_dn (dn_lc (own := [("_law_at", 7)]) sc__law_due.nd (blkOk_by (own := [("_law_at", 7)]) (N := n__law_due) (sc := defScope s__law_due) (by decide +kernel)) (di_list (de_var 4 (pv 4))) (fun _ _ _ _ _ => (dg_name (pg_name (i := 7) sc__law_due.nd rfl (by first | exact Or.inl rfl | exact Or.inr rfl)))) (fun _ _ _ _ _ => dts_nil) (fun _ _ _ _ _ => (de_call takes0 c__law_whole hr (by decide) (da_cons (de_var 7 (pv 7)) da_nil))) (by decide))) da_nil)))))))
      (dss_one
      (ds_retS (de_lst (da_cons de_str da_nil))))
      dss_nil)
      (dss_cons
      (ds_if (dt_cmp (op_neD hr.units) od_ne (nomark _) (de_bltn (CallR.or (CallR.or cr_sortedPO cr_sortedI) cr_sortedIT) cd_sort2 B.b_sorted (by decide +kernel) (da_cons (de_var 4 (pv 4)) da_nil)) (de_lrg B.b_list B.b_range rfl (de_bltn call_len_seq cd_len B.b_len PySem.boot_len (da_cons (de_var 6 (pv 6)) da_nil))))
      (dss_one
      (ds_retS (de_lst (da_cons de_str da_nil))))
      dss_nil)
      (dss_cons
      (ds_atApp (pe_bm PySem.F.plainAttrs_list PySem.F.slot_list_append PySem.F.type_list_append mt_append (pv 1) (pa_cons (de_dn (dn_lc (own := [("_law_at", 7)]) sc__law_due.nd (blkOk_by (own := [("_law_at", 7)]) (N := n__law_due) (sc := defScope s__law_due) (by decide +kernel)) (di_list (de_var 4 (pv 4))) (fun _ _ _ _ _ => (dg_name (pg_name (i := 7) sc__law_due.nd rfl (by first | exact Or.inl rfl | exact Or.inr rfl)))) (fun _ _ _ _ _ => dts_nil) (fun _ _ _ _ _ => (de_ix (de_var 6 (pv 6)) (de_var 7 (pv 7)))) (by decide))) pa_nil)))
      (dss_one
      (ds_retS (de_lst da_nil))))))
      dss_nil)
      (dss_cons
      (ds_set (ps_setLc (i := 8) (own := [("_law_club", 9)]) rfl sc__law_due.nd rfl rfl (sw_true rfl rfl rfl (by decide +kernel)) (di_tup (de_tup (da_cons (de_var 4 (pv 4)) (da_cons (de_var 5 (pv 5)) da_nil)))) (blkOk_by (own := [("_law_club", 9)]) (N := n__law_due) (sc := defScope s__law_due) (by decide +kernel)) (fun _ _ _ _ _ => (dg_name (pg_name (i := 9) sc__law_due.nd rfl (by first | exact Or.inl rfl | exact Or.inr rfl)))) (fun _ _ _ _ _ => dts_nil) (fun _ _ _ _ _ => (de_and (de_call takes0 c__law_whole hr (by decide) (da_cons (de_var 9 (pv 9)) da_nil)) (de_one (de_chain op_le op_lt od_le od_lt de_int (de_var 9 (pv 9)) (de_var 0 (pv 0))))))) (tx_lcD (by decide)))
      (dss_cons
      (ds_if (dt_w (dw_or (dt_not (dt_tru (de_ix (de_var 8 (pv 8)) de_int))) (dw_or1 (dt_w (dw_and (dt_cmp (op_neD hr.units) od_ne (nomark _) (de_var 3 (pv 3)) de_str) (dw_and1 (dt_w (dw_or (dt_not (dt_tru (de_ix (de_var 8 (pv 8)) de_int))) (dw_or1 (dt_cmp (op_eqD hr.units) od_eq (nomark _) (de_var 4 (pv 4)) (de_var 5 (pv 5))))))))))))
      (dss_one
      (ds_retS (de_lst (da_cons de_str da_nil))))
      dss_nil)
      (dss_cons
      (ds_if (dt_cmp (op_eqD hr.units) od_eq (nomark _) (de_var 3 (pv 3)) de_str)
      (dss_one
      (ds_atApp (pe_bm PySem.F.plainAttrs_list PySem.F.slot_list_append PySem.F.type_list_append mt_append (pv 1) (pa_cons (de_dn (dn_lc (own := [("_law_games", 11)]) sc__law_due.nd (blkOk_by (own := [("_law_games", 11)]) (N := n__law_due) (sc := defScope s__law_due) (by decide +kernel)) (di_list (de_var 6 (pv 6))) (fun _ _ _ _ _ => (dg_name (pg_name (i := 11) sc__law_due.nd rfl (by first | exact Or.inl rfl | exact Or.inr rfl)))) (fun _ _ _ _ _ => dts_nil) (fun _ _ _ _ _ => (de_dn (dn_lc (own := [("_law_game", 10)]) sc__law_due.nd (blkOk_by (own := [("_law_game", 10)]) (by rfl)) (di_list (de_var 11 (pv 11))) (fun _ _ _ _ _ => (dg_name (pg_name (i := 10) sc__law_due.nd rfl (by first | exact Or.inl rfl | exact Or.inr rfl)))) (fun _ _ _ _ _ => (dts_one (dt_cmp (op_notInA (hu65 hr)) (od_in (neg := true)) rfl (de_var 4 (pv 4)) (de_var 10 (pv 10))))) (fun _ _ _ _ _ => (de_var 10 (pv 10))) (by decide)))) (by decide))) pa_nil))))
      (dss_one
      (ds_if (dt_cmp (op_eqD hr.units) od_eq (nomark _) (de_var 3 (pv 3)) de_str)
      (dss_one
      (ds_atApp (pe_bm PySem.F.plainAttrs_list PySem.F.slot_list_append PySem.F.type_list_append mt_append (pv 1) (pa_cons (de_dn (dn_lc (own := [("_law_games", 11)]) sc__law_due.nd (blkOk_by (own := [("_law_games", 11)]) (N := n__law_due) (sc := defScope s__law_due) (by decide +kernel)) (di_list (de_var 6 (pv 6))) (fun _ _ _ _ _ => (dg_name (pg_name (i := 11) sc__law_due.nd rfl (by first | exact Or.inl rfl | exact Or.inr rfl)))) (fun _ _ _ _ _ => dts_nil) (fun _ _ _ _ _ => (de_dn (dn_lc (own := [("_law_game", 10)]) sc__law_due.nd (blkOk_by (own := [("_law_game", 10)]) (by rfl)) (di_list (de_var 11 (pv 11))) (fun _ _ _ _ _ => (dg_name (pg_name (i := 10) sc__law_due.nd rfl (by first | exact Or.inl rfl | exact Or.inr rfl)))) (fun _ _ _ _ _ => dts_nil) (fun _ _ _ _ _ => (de_call takes0 c__law_turned hr (by decide) (da_cons (de_var 10 (pv 10)) (da_cons (de_tup (da_cons (de_var 4 (pv 4)) (da_cons (de_var 5 (pv 5)) da_nil))) da_nil)))) (by decide)))) (by decide))) pa_nil))))
      (dss_cons
      (ds_disp2 (ps_set (i := 12) sc__law_due.nd rfl (by first | exact Or.inl rfl | exact Or.inr rfl) (pe_disp (pps_cons (de_var 4 (pv 4)) (de_var 5 (pv 5)) (pps_cons (de_var 5 (pv 5)) (de_var 4 (pv 4)) pps_nil)) (by rfl) (by rfl) (fun z => by cases z) (by decide))))
      (dss_one
      (ds_atApp (pe_bm PySem.F.plainAttrs_list PySem.F.slot_list_append PySem.F.type_list_append mt_append (pv 1) (pa_cons (de_dn (dn_lc (own := [("_law_games", 11)]) sc__law_due.nd (blkOk_by (own := [("_law_games", 11)]) (N := n__law_due) (sc := defScope s__law_due) (by decide +kernel)) (di_list (de_var 6 (pv 6))) (fun _ _ _ _ _ => (dg_name (pg_name (i := 11) sc__law_due.nd rfl (by first | exact Or.inl rfl | exact Or.inr rfl)))) (fun _ _ _ _ _ => dts_nil) (fun _ _ _ _ _ => (de_dn (dn_lc (own := [("_law_home", 13), ("_law_away", 14)]) sc__law_due.nd (blkOk_by (own := [("_law_home", 13), ("_law_away", 14)]) (by rfl)) (di_list (de_var 11 (pv 11))) (fun _ _ _ _ _ => (dg_tup rfl (dgs_cons (dg_name (pg_name (i := 13) sc__law_due.nd rfl (by first | exact Or.inl rfl | exact Or.inr rfl))) (dgs_cons (dg_name (pg_name (i := 14) sc__law_due.nd rfl (by first | exact Or.inl rfl | exact Or.inr rfl))) dgs_nil)))) (fun _ _ _ _ _ => dts_nil) (fun _ _ _ _ _ => (de_tup (da_cons (de_get2 (Nat.lt_of_le_of_lt (Nat.add_le_add_left (by decide) _) (hu3 hr)) (pv 12) (de_var 13 (pv 13)) (de_var 13 (pv 13)) ⟨rfl, rfl, rfl, rfl⟩) (da_cons (de_get2 (Nat.lt_of_le_of_lt (Nat.add_le_add_left (by decide) _) (hu3 hr)) (pv 12) (de_var 14 (pv 14)) (de_var 14 (pv 14)) ⟨rfl, rfl, rfl, rfl⟩) da_nil)))) (by decide)))) (by decide))) pa_nil))))))))
      (dss_one
      (ds_retS (de_lst da_nil))))))))))
abbrev s_Season_many : Stmt := methS 32 8
abbrev n_Season_many : List Str := ["self"]
theorem sc_Season_many : FnScope n_Season_many ["self"] (defScope s_Season_many) := ⟨rfl, rfl, rfl, by decide +kernel, rfl, by decide +kernel, by decide +kernel⟩
def g_Season_many : Ev → Out :=
    (gRet (s2 oSub (sCall oLen (aCons (sStages 0) aNil)) (sC (.int 1))))
def o_Season_many := opX n_Season_many g_Season_many
theorem ok_Season_many (B : Bl K mg) {f : Addr} {fd : FuncData} (F : Fun K "many" "Season.many" s_Season_many f fd) : FnOk P w K mg base (L2.CX P w) 1 f fd ["self"] (spX K En.cl 1 o_Season_many) :=
    fnX F sc_Season_many rfl fun cdv A outer s H E hr =>
      (dss_one
      (ds_ret (de_sub (de_bltn call_len_seq cd_len B.b_len PySem.boot_len (da_cons (de_stages B.sC B.n_stages (pv 0)) da_nil)) de_int)))
abbrev s_Season_back : Stmt := methS 32 7
abbrev n_Season_back : List Str := ["self"]
theorem sc_Season_back : FnScope n_Season_back ["self"] (defScope s_Season_back) := ⟨rfl, rfl, rfl, by decide +kernel, rfl, by decide +kernel, by decide +kernel⟩
def g_Season_back : Ev → Out :=
    (gSeq (gIf (evT (sT (s2 oEq (sOn0 0 o_Season_many) (sC (.int 0)))))
    (gEx 6)
    gNil)
    (gStPop 0))
def o_Season_back := opM n_Season_back 0 g_Season_back
theorem ok_Season_back (B : Bl K mg) {f : Addr} {fd : FuncData} (F : Fun K "back" "Season.back" s_Season_back f fd) (c_Season_many : Cam P w K mg base 1 "many" (spX K En.cl 1 o_Season_many)) : FnOk P w K mg base (L2.CX P w) 2 f fd ["self"] (spM K En.cl 1 0 o_Season_back) :=
    fnM F sc_Season_back rfl fun cdv A outer s H E hr =>
      (dss_cons
      (ds_if (dt_bor (dt_cmp (op_eqD hr.units) od_eq (nomark _) (de_on0 (takes_of rfl rfl rfl rfl) c_Season_many (by decide) B.sC hr (by decide) (pv 0)) de_int))
      (dss_one
      (ds_raiseS (c := 6) B.er rfl (by decide) rfl (takes_of rfl rfl rfl rfl) B.g_NothingDone))
      dss_nil)
      (dss_one
      (ds_stPop B.sC B.n_stages (pe_bm0 PySem.F.plainAttrs_list PySem.F.slot_list_pop PySem.F.type_list_pop mt_pop (pe_fld (pv 0) rfl)))))
abbrev s_Season_move : Stmt := methS 32 3
abbrev n_Season_move : List Str := ["self", "order"]
theorem sc_Season_move : FnScope n_Season_move ["self", "order"] (defScope s_Season_move) := ⟨rfl, rfl, rfl, by decide +kernel, rfl, by decide +kernel, by decide +kernel⟩
def g_Season_move : Ev → Out :=
    (gStApp 0 (sF 3 (fun ds => lstR2 (o_moved ds)) (aCons (sClubs 0) (aCons (sStLast 0) (aCons (sVar 1) aNil)))))
def o_Season_move := opM n_Season_move 0 g_Season_move
theorem ok_Season_move (B : Bl K mg) {f : Addr} {fd : FuncData} (F : Fun K "move" "Season.move" s_Season_move f fd) (c_moved : Cal P w K mg base 5 "moved" (spN2 K En.cl 3 o_moved)) : FnOk P w K mg base (L2.CX P w) 6 f fd ["self", "order"] (spM K En.cl 2 0 o_Season_move) :=
    fnM F sc_Season_move rfl fun cdv A outer s H E hr =>
      (dss_one
      (ds_stApp B.sC B.n_stages (pe_bm PySem.F.plainAttrs_list PySem.F.slot_list_append PySem.F.type_list_append mt_append (pe_fld (pv 0) rfl) (pa_cons (de_call (takes_of rfl rfl rfl rfl) c_moved.ofN2 hr (by decide) (da_cons (de_clubs B.sC B.n_clubs (pv 0)) (da_cons (de_stLast B.sC B.n_stages (pv 0)) (da_cons (de_var 1 (pv 1)) da_nil)))) pa_nil))))
abbrev s_Season_leave : Stmt := methS 32 6
abbrev n_Season_leave : List Str := ["self", "club"]
theorem sc_Season_leave : FnScope n_Season_leave ["self", "club"] (defScope s_Season_leave) := ⟨rfl, rfl, rfl, by decide +kernel, rfl, by decide +kernel, by decide +kernel⟩
def g_Season_leave : Ev → Out :=
    (gStApp 0 (sF 3 (fun ds => lstR2 (o_without ds)) (aCons (sClubs 0) (aCons (sStLast 0) (aCons (sVar 1) aNil)))))
def o_Season_leave := opM n_Season_leave 0 g_Season_leave
theorem ok_Season_leave (B : Bl K mg) {f : Addr} {fd : FuncData} (F : Fun K "leave" "Season.leave" s_Season_leave f fd) (c_without : Cal P w K mg base 5 "without" (spN2 K En.cl 3 o_without)) : FnOk P w K mg base (L2.CX P w) 6 f fd ["self", "club"] (spM K En.cl 2 0 o_Season_leave) :=
    fnM F sc_Season_leave rfl fun cdv A outer s H E hr =>
      (dss_one
      (ds_stApp B.sC B.n_stages (pe_bm PySem.F.plainAttrs_list PySem.F.slot_list_append PySem.F.type_list_append mt_append (pe_fld (pv 0) rfl) (pa_cons (de_call (takes_of rfl rfl rfl rfl) c_without.ofN2 hr (by decide) (da_cons (de_clubs B.sC B.n_clubs (pv 0)) (da_cons (de_stLast B.sC B.n_stages (pv 0)) (da_cons (de_var 1 (pv 1)) da_nil)))) pa_nil))))
abbrev s_Season_turn : Stmt := methS 32 4
abbrev n_Season_turn : List Str := ["self", "one", "other"]
theorem sc_Season_turn : FnScope n_Season_turn ["self", "one", "other"] (defScope s_Season_turn) := ⟨rfl, rfl, rfl, by decide +kernel, rfl, by decide +kernel, by decide +kernel⟩
def g_Season_turn : Ev → Out :=
    (gStApp 0 (sF 4 (fun ds => lstR2 (o_turned ds)) (aCons (sClubs 0) (aCons (sStLast 0) (aCons (sVar 1) (aCons (sVar 2) aNil))))))
def o_Season_turn := opM n_Season_turn 0 g_Season_turn
theorem ok_Season_turn (B : Bl K mg) {f : Addr} {fd : FuncData} (F : Fun K "turn" "Season.turn" s_Season_turn f fd) (c_turned : Cal P w K mg base 5 "turned" (spN2 K En.cl 4 o_turned)) : FnOk P w K mg base (L2.CX P w) 6 f fd ["self", "one", "other"] (spM K En.cl 3 0 o_Season_turn) :=
    fnM F sc_Season_turn rfl fun cdv A outer s H E hr =>
      (dss_one
      (ds_stApp B.sC B.n_stages (pe_bm PySem.F.plainAttrs_list PySem.F.slot_list_append PySem.F.type_list_append mt_append (pe_fld (pv 0) rfl) (pa_cons (de_call (takes_of rfl rfl rfl rfl) c_turned.ofN2 hr (by decide) (da_cons (de_clubs B.sC B.n_clubs (pv 0)) (da_cons (de_stLast B.sC B.n_stages (pv 0)) (da_cons (de_var 1 (pv 1)) (da_cons (de_var 2 (pv 2)) da_nil))))) pa_nil))))
abbrev s_Season_exchange : Stmt := methS 32 5
abbrev n_Season_exchange : List Str := ["self", "one", "other"]
theorem sc_Season_exchange : FnScope n_Season_exchange ["self", "one", "other"] (defScope s_Season_exchange) := ⟨rfl, rfl, rfl, by decide +kernel, rfl, by decide +kernel, by decide +kernel⟩
def g_Season_exchange : Ev → Out :=
    (gStApp 0 (sF 4 (fun ds => lstR2 (o_exchanged ds)) (aCons (sClubs 0) (aCons (sStLast 0) (aCons (sVar 1) (aCons (sVar 2) aNil))))))
def o_Season_exchange := opM n_Season_exchange 0 g_Season_exchange
theorem ok_Season_exchange (B : Bl K mg) {f : Addr} {fd : FuncData} (F : Fun K "exchange" "Season.exchange" s_Season_exchange f fd) (c_exchanged : Cal P w K mg base 5 "exchanged" (spN2 K En.cl 4 o_exchanged)) : FnOk P w K mg base (L2.CX P w) 6 f fd ["self", "one", "other"] (spM K En.cl 3 0 o_Season_exchange) :=
    fnM F sc_Season_exchange rfl fun cdv A outer s H E hr =>
      (dss_one
      (ds_stApp B.sC B.n_stages (pe_bm PySem.F.plainAttrs_list PySem.F.slot_list_append PySem.F.type_list_append mt_append (pe_fld (pv 0) rfl) (pa_cons (de_call (takes_of rfl rfl rfl rfl) c_exchanged.ofN2 hr (by decide) (da_cons (de_clubs B.sC B.n_clubs (pv 0)) (da_cons (de_stLast B.sC B.n_stages (pv 0)) (da_cons (de_var 1 (pv 1)) (da_cons (de_var 2 (pv 2)) da_nil))))) pa_nil))))
abbrev s__law_done : Stmt := topS 42
abbrev n__law_done : List Str := ["_law_season", "_law_deed_here", "_law_word_here", "_law_one", "_law_other", "_law_caught", "_law_told_here", "_law_e"]
theorem sc__law_done : FnScope n__law_done ["_law_season", "_law_deed_here"] (defScope s__law_done) := ⟨rfl, rfl, rfl, by decide +kernel, rfl, by decide +kernel, by decide +kernel⟩
def g__law_done : Ev → Out :=
    (gSeq (gAsg (bTup (bCons (bName 2) (bCons (bName 3) (bCons (bName 4) bNil))) 3) (sVar 1))
    (gSeq (gSet 5 (sC .none))
    (gSeq (gSet 6 (sC .none))
    (gSeq (gTry 7 7 5 (gIf (sT (s2 oEq (sVar 2) (sC (.str (PySem.Str.ofString "back")))))
    (gSetOn 6 0 1 o_Season_back aNil)
    (gIf (sT (s2 oEq (sVar 2) (sC (.str (PySem.Str.ofString "move")))))
    (gSetOn 6 0 2 o_Season_move (aCons (sVar 3) aNil))
    (gIf (sT (s2 oEq (sVar 2) (sC (.str (PySem.Str.ofString "leave")))))
    (gSetOn 6 0 2 o_Season_leave (aCons (sVar 3) aNil))
    (gIf (sT (s2 oEq (sVar 2) (sC (.str (PySem.Str.ofString "turn")))))
    (gSetOn 6 0 3 o_Season_turn (aCons (sVar 3) (aCons (sVar 4) aNil)))
    (gSetOn 6 0 3 o_Season_exchange (aCons (sVar 3) (aCons (sVar 4) aNil))))))))
    (gRetS (s2 oAdd (sF 1 o__law_word (aCons (sVar 5) aNil)) (s2 oMul (sLst (aCons (sC (.str (PySem.Str.ofString "told"))) aNil)) (sCall oIntL (aCons (s2 oNotN (sVar 6) (sC .none)) aNil)))))))))
def o__law_done := opM n__law_done 0 g__law_done
theorem ok__law_done (B : Bl K mg) {f : Addr} {fd : FuncData} (F : Fun K "_law_done" "_law_done" s__law_done f fd) (c_Season_back : Cam P w K mg base 2 "back" (spM K En.cl 1 0 o_Season_back)) (c_Season_move : Cam P w K mg base 6 "move" (spM K En.cl 2 0 o_Season_move)) (c_Season_leave : Cam P w K mg base 6 "leave" (spM K En.cl 2 0 o_Season_leave)) (c_Season_turn : Cam P w K mg base 6 "turn" (spM K En.cl 3 0 o_Season_turn)) (c_Season_exchange : Cam P w K mg base 6 "exchange" (spM K En.cl 3 0 o_Season_exchange)) (c__law_word : Cal P w K mg base 1 "_law_word" (spX K En.cl 1 o__law_word)) : FnOk P w K mg base (L2.CX P w) 7 f fd ["_law_season", "_law_deed_here"] (spM K En.cl 2 0 o__law_done) :=
    fnM F sc__law_done rfl fun cdv A outer s H E hr =>
      (dss_cons
      (ds_asg (de_var 1 (pv 1)) (dg_tup rfl (dgs_cons (dg_name (pg_name (i := 2) sc__law_done.nd rfl (by first | exact Or.inl rfl | exact Or.inr rfl))) (dgs_cons (dg_name (pg_name (i := 3) sc__law_done.nd rfl (by first | exact Or.inl rfl | exact Or.inr rfl))) (dgs_cons (dg_name (pg_name (i := 4) sc__law_done.nd rfl (by first | exact Or.inl rfl | exact Or.inr rfl))) dgs_nil)))))
      (dss_cons
      (ds_set (ps_set (i := 5) sc__law_done.nd rfl (by first | exact Or.inl rfl | exact Or.inr rfl) de_non) (fun _ _ _ q => q))
      (dss_cons
      (ds_set (ps_set (i := 6) sc__law_done.nd rfl (by first | exact Or.inl rfl | exact Or.inr rfl) de_non) (fun _ _ _ q => q))
      (dss_cons
      (ds_tryK (i := 7) (j := 5) rfl B.er rfl rfl rfl sc__law_done.nd rfl rfl ⟨rfl, by decide, .inl B.g_RoundError⟩ (fun V pn xe tk po => (dss_one
      (ds_if (dt_cmp (op_eqD hr.units) od_eq (nomark _) (de_var 2 (pv 2)) de_str)
      (dss_one
      (ds_setOn (by decide) (by decide) (ps_set (i := 6) sc__law_done.nd rfl (by first | exact Or.inl rfl | exact Or.inr rfl) (pe_onC0 tk c_Season_back B.sC hr (by decide) (pv 0)))))
      (dss_one
      (ds_if (dt_cmp (op_eqD hr.units) od_eq (nomark _) (de_var 2 (pv 2)) de_str)
      (dss_one
      (ds_setOn (by decide) (by decide) (ps_set (i := 6) sc__law_done.nd rfl (by first | exact Or.inl rfl | exact Or.inr rfl) (pe_onC tk c_Season_move B.sC hr (by decide) (pv 0) (da_cons (de_var 3 (pv 3)) da_nil)))))
      (dss_one
      (ds_if (dt_cmp (op_eqD hr.units) od_eq (nomark _) (de_var 2 (pv 2)) de_str)
      (dss_one
      (ds_setOn (by decide) (by decide) (ps_set (i := 6) sc__law_done.nd rfl (by first | exact Or.inl rfl | exact Or.inr rfl) (pe_onC tk c_Season_leave B.sC hr (by decide) (pv 0) (da_cons (de_var 3 (pv 3)) da_nil)))))
      (dss_one
      (ds_if (dt_cmp (op_eqD hr.units) od_eq (nomark _) (de_var 2 (pv 2)) de_str)
      (dss_one
      (ds_setOn (by decide) (by decide) (ps_set (i := 6) sc__law_done.nd rfl (by first | exact Or.inl rfl | exact Or.inr rfl) (pe_onC tk c_Season_turn B.sC hr (by decide) (pv 0) (da_cons (de_var 3 (pv 3)) (da_cons (de_var 4 (pv 4)) da_nil))))))
      (dss_one
      (ds_setOn (by decide) (by decide) (ps_set (i := 6) sc__law_done.nd rfl (by first | exact Or.inl rfl | exact Or.inr rfl) (pe_onC tk c_Season_exchange B.sC hr (by decide) (pv 0) (da_cons (de_var 3 (pv 3)) (da_cons (de_var 4 (pv 4)) da_nil)))))))))))))))
      (fun a oe pn => ps_set (i := 5) sc__law_done.nd rfl (by first | exact Or.inl rfl | exact Or.inr rfl) (pv 7)))
      (dss_one
      (ds_retS (de_add (de_call (takes_of rfl rfl rfl rfl) c__law_word hr (by decide) (da_cons (de_var 5 (pv 5)) da_nil)) (de_mul (de_lst (da_cons de_str da_nil)) (de_bty call_int1 cd_int B.b_int (by decide +kernel) (da_cons (de_cmp op_notN od_notN (nomark _) (de_var 6 (pv 6)) de_non) da_nil))))))))))
abbrev s_Season_rounds : Stmt := methS 32 2
abbrev n_Season_rounds : List Str := ["self", "games"]
theorem sc_Season_rounds : FnScope n_Season_rounds ["self"] (defScope s_Season_rounds) := ⟨rfl, rfl, rfl, by decide +kernel, rfl, by decide +kernel, by decide +kernel⟩
def g_Season_rounds : Ev → Out :=
    (gRetN2 (nComp2 (iL (s2 oIx (sStages 0) (sNeg (sC (.int 1))))) (bName 1) bYes (nCall nList (aCons (sVar 1) aNil)) [1]))
def o_Season_rounds := opN2 n_Season_rounds g_Season_rounds
theorem ok_Season_rounds (B : Bl K mg) {f : Addr} {fd : FuncData} (F : Fun K "rounds" "Season.rounds" s_Season_rounds f fd) : FnOk P w K mg base (L2.CX P w) 1 f fd ["self"] (spN2 K En.cl 1 o_Season_rounds) :=
    fnN2 F sc_Season_rounds rfl fun cdv A outer s H E hr =>
      (dss_one
      (ds_retN2 (dn2_lc (own := [("games", 1)]) sc_Season_rounds.nd (blkOk_by (own := [("games", 1)]) (N := n_Season_rounds) (sc := defScope s_Season_rounds) (by decide +kernel)) (di_list (de_ix (de_stages B.sC B.n_stages (pv 0)) (de_neg de_int))) (fun _ _ _ _ _ => (dg_name (pg_name (i := 1) sc_Season_rounds.nd rfl (by first | exact Or.inl rfl | exact Or.inr rfl)))) (fun _ _ _ _ _ => dts_nil) (fun _ _ _ _ _ => (dn_bty call_list_of cn_list B.b_list (by decide +kernel) (da_cons (de_var 1 (pv 1)) da_nil))) (by decide))))
abbrev s_Season_clubs : Stmt := methS 32 1
abbrev n_Season_clubs : List Str := ["self"]
theorem sc_Season_clubs : FnScope n_Season_clubs ["self"] (defScope s_Season_clubs) := ⟨rfl, rfl, rfl, by decide +kernel, rfl, by decide +kernel, by decide +kernel⟩
def g_Season_clubs : Ev → Out :=
    (gRet (sClubs 0))
def o_Season_clubs := opX n_Season_clubs g_Season_clubs
theorem ok_Season_clubs (B : Bl K mg) {f : Addr} {fd : FuncData} (F : Fun K "clubs" "Season.clubs" s_Season_clubs f fd) : FnOk P w K mg base (L2.CX P w) 1 f fd ["self"] (spX K En.cl 1 o_Season_clubs) :=
    fnX F sc_Season_clubs rfl fun cdv A outer s H E hr =>
      (dss_one
      (ds_ret (de_clubs B.sC B.n_clubs (pv 0))))
abbrev s__law_right : Stmt := topS 43
abbrev n__law_right : List Str := ["_law_season", "_law_clubs", "_law_past", "_law_turn", "_law_k", "_law_ask", "_law_found"]
theorem sc__law_right : FnScope n__law_right ["_law_season", "_law_clubs", "_law_past", "_law_turn"] (defScope s__law_right) := ⟨rfl, rfl, rfl, by decide +kernel, rfl, by decide +kernel, by decide +kernel⟩
def g__law_right : Ev → Out :=
    (gSeq (gFor (iR rg1 (aCons (sC (.int 3)) aNil)) (bName 4)
    (gSeq (gSet 5 (s2 oMod (s2 oAdd (sVar 3) (s2 oMul (sVar 4) (s2 oAdd (sC (.int 1)) (s2 oMod (s2 oDiv (sVar 3) (sC (.int 4))) (sC (.int 2)))))) (sC (.int 3))))
    (gSeq (gIf (bAnd (sT (s2 oEq (sVar 5) (sC (.int 0)))) (bOr (sT (s2 oNe (sOn0 0 o_Season_clubs) (sVar 1))) (bNot (sTru (sF 1 o__law_whole (aCons (sOn0 0 o_Season_clubs) aNil))))))
    (gRet (sC (.bool false)))
    gNil)
    (gSeq (gIf (bAnd (sT (s2 oEq (sVar 5) (sC (.int 1)))) (bOr (sT (s2 oNe (sOn0 0 o_Season_many) (s2 oSub (sCall oLen (aCons (sVar 2) aNil)) (sC (.int 1))))) (bNot (sTru (sF 1 o__law_whole (aCons (sOn0 0 o_Season_many) aNil))))))
    (gRet (sC (.bool false)))
    gNil)
    (gIf (sT (s2 oEq (sVar 5) (sC (.int 2))))
    (gSeq (gSetN2 6 (evN2 (sOn0 0 o_Season_rounds)))
    (gSeq (gIf (evT (bNot (sTru (sF 2 o__law_is (aCons (sVar 6) (aCons (sF 1 o__law_told (aCons (s2 oIx (sVar 2) (sNeg (sC (.int 1)))) aNil)) aNil))))))
    (gRet (sC (.bool false)))
    gNil)
    (gSeq (gApp0 6 (.str (PySem.Str.ofString "more")))
    (fun ρ => if lenOk ρ 6 = true then gJunk 6 ρ else .bad))))
    gNil)))))
    (gRet (sC (.bool true))))
def o__law_right := opX n__law_right g__law_right
theorem ok__law_right (B : Bl K mg) {f : Addr} {fd : FuncData} (F : Fun K "_law_right" "_law_right" s__law_right f fd) (c_Season_clubs : Cam P w K mg base 1 "clubs" (spX K En.cl 1 o_Season_clubs)) (c__law_whole : Cal P w K mg base 1 "_law_whole" (spX K En.cl 1 o__law_whole)) (c_Season_many : Cam P w K mg base 1 "many" (spX K En.cl 1 o_Season_many)) (c_Season_rounds : Cam P w K mg base 1 "rounds" (spN2 K En.cl 1 o_Season_rounds)) (c__law_told : Cal P w K mg base 1 "_law_told" (spX K En.cl 1 o__law_told)) (c__law_is : Cal P w K mg base 2 "_law_is" (spX K En.cl 2 o__law_is)) : FnOk P w K mg base (L2.CX P w) 3 f fd ["_law_season", "_law_clubs", "_law_past", "_law_turn"] (spX K En.cl 4 o__law_right) :=
    fnX F sc__law_right rfl fun cdv A outer s H E hr =>
      (dss_cons
      (ds_for (passes_of rfl) rfl (di_rg1 B.b_range (da_cons de_int da_nil)) (dg_name (pg_name (i := 4) sc__law_right.nd rfl (by first | exact Or.inl rfl | exact Or.inr rfl)))
      (dss_cons
      (ds_set (ps_set (i := 5) sc__law_right.nd rfl (by first | exact Or.inl rfl | exact Or.inr rfl) (de_mod (de_add (de_var 3 (pv 3)) (de_mul (de_var 4 (pv 4)) (de_add de_int (de_mod (de_div (de_var 3 (pv 3)) de_int) de_int)))) de_int)) (fun _ _ _ q => q))
      (dss_cons
      (ds_if (dt_w (dw_and (dt_cmp (op_eqD hr.units) od_eq (nomark _) (de_var 5 (pv 5)) de_int) (dw_and1 (dt_w (dw_or (dt_cmp (op_neD hr.units) od_ne (nomark _) (de_on0 (takes_of rfl rfl rfl rfl) c_Season_clubs (by decide) B.sC hr (by decide) (pv 0)) (de_var 1 (pv 1))) (dw_or1 (dt_not (dt_tru (de_call (takes_of rfl rfl rfl rfl) c__law_whole hr (by decide) (da_cons (de_on0 (takes_of rfl rfl rfl rfl) c_Season_clubs (by decide) B.sC hr (by decide) (pv 0)) da_nil))))))))))
      (dss_one
      (ds_ret de_bl))
      dss_nil)
      (dss_cons
      (ds_if (dt_w (dw_and (dt_cmp (op_eqD hr.units) od_eq (nomark _) (de_var 5 (pv 5)) de_int) (dw_and1 (dt_w (dw_or (dt_cmp (op_neD hr.units) od_ne (nomark _) (de_on0 (takes_of rfl rfl rfl rfl) c_Season_many (by decide) B.sC hr (by decide) (pv 0)) (de_sub (de_bltn call_len_seq cd_len B.b_len PySem.boot_len (da_cons (de_var 2 (pv 2)) da_nil)) de_int)) (dw_or1 (dt_not (dt_tru (de_call (takes_of rfl rfl rfl rfl) c__law_whole hr (by decide) (da_cons (de_on0 (takes_of rfl rfl rfl rfl) c_Season_many (by decide) B.sC hr (by decide) (pv 0)) da_nil))))))))))
      (dss_one
      (ds_ret de_bl))
      dss_nil)
      (dss_one
      (ds_if (dt_cmp (op_eqD hr.units) od_eq (nomark _) (de_var 5 (pv 5)) de_int)
      (dss_cons
      (ds_setN2 (ps_set (i := 6) sc__law_right.nd rfl (by first | exact Or.inl rfl | exact Or.inr rfl) (dn2_bor (dn2_on0 (takes_of rfl rfl rfl rfl) c_Season_rounds (by decide) B.sC hr (by decide) (pv 0)))) (fun _ _ _ q => q))
      (dss_cons
      (ds_if (dt_bor (dt_not (dt_tru (de_call (takes_of rfl rfl rfl rfl) c__law_is hr (by decide) (da_cons (de_var 6 (pv 6)) (da_cons (de_call (takes_of rfl rfl rfl rfl) c__law_told hr (by decide) (da_cons (de_ix (de_var 2 (pv 2)) (de_neg de_int)) da_nil)) da_nil))))))
      (dss_one
      (ds_ret de_bl))
      dss_nil)
      (dss_cons
      (ds_app0 (y := (PySem.Str.ofString "more")) (pe_bm PySem.F.plainAttrs_list PySem.F.slot_list_append PySem.F.type_list_append mt_append (pe_ix ix_seq (pv 6) pe_int (fun _ _ => rfl)) (pa_cons pe_str pa_nil)))
      (dss_one
      (ds_appJ (pe_bm PySem.F.plainAttrs_list PySem.F.slot_list_append PySem.F.type_list_append mt_append (pv 6) (pa_cons pe_str pa_nil)))))))
      dss_nil))))))
      (dss_one
      (ds_ret de_bl)))
abbrev s_Season___init__ : Stmt := methS 32 0
abbrev n_Season___init__ : List Str := ["self", "clubs", "first"]
theorem sc_Season___init__ : FnScope n_Season___init__ ["self", "clubs"] (defScope s_Season___init__) := ⟨rfl, rfl, rfl, by decide +kernel, rfl, by decide +kernel, by decide +kernel⟩
def g_Season___init__ : Ev → Out :=
    (gSeq (gSet 2 (sF 1 (fun ds => lstR2 (o_once_round ds)) (aCons (sVar 1) aNil)))
    (gSeq (gFld0 0 (sVar 1))
    (gFld1 0 (nLst (aCons (sVar 2) aNil)))))
def o_Season___init__ := opM n_Season___init__ 0 g_Season___init__
theorem ok_Season___init__ (B : Bl K mg) {f : Addr} {fd : FuncData} (F : Fun K "__init__" "Season.__init__" s_Season___init__ f fd) (c_once_round : Cal P w K mg base 3 "once_round" (spN2 K En.cl 1 o_once_round)) : FnOk P w K mg base (L2.CX P w) 4 f fd ["self", "clubs"] (spM K En.cl 2 0 o_Season___init__) :=
    fnM F sc_Season___init__ rfl fun cdv A outer s H E hr =>
      (dss_cons
      (ds_set (ps_set (i := 2) sc_Season___init__.nd rfl (by first | exact Or.inl rfl | exact Or.inr rfl) (de_call (takes_of rfl rfl rfl rfl) c_once_round.ofN2 hr (by decide) (da_cons (de_var 1 (pv 1)) da_nil))) (fun _ _ _ q => q))
      (dss_cons
      (ds_fld0 B.sC B.n_clubs (pv 0) (de_var 1 (pv 1)))
      (dss_one
      (ds_fld1 B.sC B.n_stages (pv 0) (dn_lst (da_cons (de_var 2 (pv 2)) da_nil))))))
def mOut (a : Addr) (o : Out) : MRes := match o with
  | .nx ρ' => (match cellT ρ'[0]? with
    | some (a', t') => if a' = a then .ok t' .none else .bad
    | none => .bad)
  | .rs d ρ' => (match cellT ρ'[0]? with
    | some (a', t') => if a' = a then .ok t' d else .bad
    | none => .bad)
  | .ex c ρ' => (match cellT ρ'[0]? with
    | some (a', t') => if a' = a then .ex c t' else .bad
    | none => .bad)
  | _ => .bad
def initG (a : Addr) (d x : D) : Out := gSeq (gFld0 0 (sVar 1)) (gFld1 0 (nLst (aCons (sVar 2) aNil))) [.at a .ins0, .d d, .d x]
theorem init_g (a : Addr) (d : D) {y : Res D} (h : lstR2 (o_once_round [d]) = y) : g_Season___init__ [.at a .ins0, .d d, .no] = match y with
    | .ok x => initG a d x
    | .ex c => .ex c [.at a .ins0, .d d, .no]
    | .bad => .bad := by
  have s : sF 1 (fun ds => lstR2 (o_once_round ds)) (aCons (sVar 1) aNil) [.at a .ins0, .d d, .no] = y := h
  show gSeq (gSet 2 _) _ _ = _
  unfold gSeq gSet
  rw [s]
  cases y <;> rfl
theorem init_int (a : Addr) (c : Int) (x : D) : initG a (.int c) x = match stageO x with
    | some R => if 0 ≤ c then .nx [.at a (.ssn c.toNat [R]), .d (.int c), .d x] else .bad
    | none => .bad := rfl
theorem ind_Season (a : Addr) (ds : List D) (h : ds.length + 1 = 2) : o_Season___init__ a .ins0 (.none :: ds) = o_Season___init__ 0 .ins0 (.none :: ds) := by
  match ds, h with
  | [d], _ =>
    show mOut a (g_Season___init__ [.at a .ins0, .d d, .no]) = mOut 0 (g_Season___init__ [.at 0 .ins0, .d d, .no])
    obtain ⟨y, hy⟩ : ∃ y, lstR2 (o_once_round [d]) = y := ⟨_, rfl⟩
    rw [init_g a d hy, init_g 0 d hy]
    cases y with
    | bad => rfl
    | ex c =>
      show (if a = a then MRes.ex c .ins0 else .bad) = (if 0 = 0 then MRes.ex c .ins0 else .bad)
      rw [if_pos rfl, if_pos rfl]
    | ok x =>
      dsimp only
      cases d with
      | int c =>
        rw [init_int a c x, init_int 0 c x]
        cases stageO x with
        | none => rfl
        | some R =>
          dsimp only
          by_cases h : 0 ≤ c
          · rw [if_pos h, if_pos h]
            show (if a = a then MRes.ok (.ssn c.toNat [R]) .none else .bad) = (if 0 = 0 then MRes.ok (.ssn c.toNat [R]) .none else .bad)
            rw [if_pos rfl, if_pos rfl]
          · rw [if_neg h, if_neg h]
            rfl
      | _ => rfl
  | [], h => exact absurd h (by decide)
  | _ :: _ :: _, h => rw [List.length_cons, List.length_cons] at h; omega
abbrev s_law : Stmt := topS 44
abbrev n_law : List Str := ["_law_script", "_law_counts", "_law_k", "_law_seasons", "_law_clubs", "_law_pasts", "_law_number", "_law_which", "_law_deed_here", "_law_handed", "_law_j"]
theorem sc_law : FnScope n_law ["_law_script"] (defScope s_law) := ⟨rfl, rfl, rfl, by decide +kernel, rfl, by decide +kernel, by decide +kernel⟩
noncomputable def g_law : Ev → Out :=
    (gSeq (gSet 1 (fun ρ => lstR (nComp (iR rg1 (aCons (sC (.int 2)) aNil)) (bName 2) bYes (s2 oAdd (sC (.int 2)) (s2 oMod (sF 2 o__law_draw (aCons (sVar 0) (aCons (sVar 2) aNil))) (s2 oIx (sLst (aCons (sC (.int 19)) (aCons (sC (.int 6)) aNil))) (sVar 2)))) [2] ρ)))
    (gSeq (gSetTr 3 (nCompT (iL (sVar 1)) (bName 4) bYes (fun ρ => ((aCons (sVar 4) aNil) ρ).bind (newO 2 o_Season___init__)) [4]))
    (gSeq (gSetTr 5 (nCompT (iL (sVar 1)) (bName 4) bYes (oLst (oCons (fun ρ => mapR OT.dat ((sF 1 (fun ds => lstR2 (o_once_round ds)) (aCons (sVar 4) aNil)) ρ)) oNil)) [4]))
    (gSeq (gFor (iR rg1 (aCons (sC (.int 2)) aNil)) (bName 2)
    (gIf (evT (bNot (sTru (sF 4 o__law_right (aCons (s2 oIx (sVar 3) (sVar 2)) (aCons (s2 oIx (sVar 1) (sVar 2)) (aCons (s2 oIx (sVar 5) (sVar 2)) (aCons (sVar 2) aNil))))))))
    (gRet (sC (.bool false)))
    gNil))
    (gSeq (gFor (iR rg1 (aCons (s2 oAdd (sC (.int 3)) (sCall oLen (aCons (sScrSl 0 pNo (pSo (sC (.int 60)))) aNil))) aNil)) (bName 2)
    (gSeq (gSet 6 (sF 2 o__law_draw (aCons (sVar 0) (aCons (s2 oAdd (sC (.int 10)) (sVar 2)) aNil))))
    (gSeq (gSet 7 (s2 oDiv (s2 oMod (sVar 6) (sC (.int 3))) (sC (.int 2))))
    (gSeq (gSet 4 (s2 oIx (sVar 1) (sVar 7)))
    (gSeq (gSet 8 (sF 3 o__law_deed (aCons (sVar 4) (aCons (evB (sCall oLen (aCons (evB (s2 oIx (s2 oIx (sVar 5) (sVar 7)) (sNeg (sC (.int 1))))) aNil))) (aCons (s2 oDiv (sVar 6) (sC (.int 3))) aNil)))))
    (gSeq (gSetTr 9 (oTupT (oCons (fun ρ => mapR OT.dat ((s2 oIx (sVar 8) (sC (.int 0))) ρ)) (oCons (oIfT (sTru (sIsi "list" (s2 oIx (sVar 8) (sC (.int 1))))) (fun ρ => mapR otL ((nCall nList (aCons (s2 oIx (sVar 8) (sC (.int 1))) aNil)) ρ)) (fun ρ => mapR OT.dat ((s2 oIx (sVar 8) (sC (.int 1))) ρ))) (oCons (fun ρ => mapR OT.dat ((s2 oIx (sVar 8) (sC (.int 2))) ρ)) oNil)))))
    (gSeq (gStep 3 5 9 7 4 8 o__law_done o__law_due
    (gRet (sC (.bool false))))
    (gSeq (gIf (evT (sTru (sIsi "list" (s2 oIx (sVar 9) (sC (.int 1))))))
    (gClr1 9)
    gNil)
    (gFor (iR rg1 (aCons (sC (.int 2)) aNil)) (bName 10)
    (gIf (evT (bNot (sTru (sF 4 o__law_right (aCons (s2 oIx (sVar 3) (sVar 10)) (aCons (s2 oIx (sVar 1) (sVar 10)) (aCons (s2 oIx (sVar 5) (sVar 10)) (aCons (s2 oMod (s2 oDiv (sVar 6) (sC (.int 24))) (sC (.int 8))) aNil))))))))
    (gRet (sC (.bool false)))
    gNil))))))))))
    (gRet (sC (.bool true))))))))
noncomputable def o_law := opX n_law g_law
theorem ok_law (B : Bl K mg) {f : Addr} {fd : FuncData} (F : Fun K "law" "law" s_law f fd) (c__law_draw : Cal P w K mg base 1 "_law_draw" (spX K En.cl 2 o__law_draw)) (c_Season : Mks P w K mg base 4 "Season" En.sc (spM K En.cl 2 0 o_Season___init__)) (c_once_round : Cal P w K mg base 3 "once_round" (spN2 K En.cl 1 o_once_round)) (c__law_right : Cal P w K mg base 3 "_law_right" (spX K En.cl 4 o__law_right)) (c__law_deed : Cal P w K mg base 1 "_law_deed" (spX K En.cl 3 o__law_deed)) (c__law_done : Cal P w K mg base 7 "_law_done" (spM K En.cl 2 0 o__law_done)) (c__law_due : Cal P w K mg base 2 "_law_due" (spM K En.cl 3 1 o__law_due)) : FnOk P w K mg base (L2.CX P w) 8 f fd ["_law_script"] (spX K En.cl 1 o_law) :=
    fnX F sc_law rfl fun cdv A outer s H E hr =>
      (dss_cons
      (ds_set (ps_setLc (i := 1) (own := [("_law_k", 2)]) rfl sc_law.nd rfl rfl (sw_true rfl rfl rfl (by decide +kernel)) (di_rg1 B.b_range (da_cons de_int da_nil)) (blkOk_by (own := [("_law_k", 2)]) (N := n_law) (sc := defScope s_law) (by decide +kernel)) (fun _ _ _ _ _ => (dg_name (pg_name (i := 2) sc_law.nd rfl (by first | exact Or.inl rfl | exact Or.inr rfl)))) (fun _ _ _ _ _ => dts_nil) (fun _ _ _ _ _ => (de_add de_int (de_mod (de_call takes0 c__law_draw hr (by decide) (da_cons (de_var 0 (pv 0)) (da_cons (de_var 2 (pv 2)) da_nil))) (de_ix (de_lst (da_cons de_int (da_cons de_int da_nil))) (de_var 2 (pv 2))))))) (tx_lcD (by decide)))
      (dss_cons
      (ds_setTr (ps_setLc (i := 3) (own := [("_law_clubs", 4)]) rfl sc_law.nd rfl rfl (sw_true rfl rfl rfl (by decide +kernel)) (di_list (de_var 1 (pv 1))) (blkOk_by (own := [("_law_clubs", 4)]) (N := n_law) (sc := defScope s_law) (by decide +kernel)) (fun _ _ _ _ _ => (dg_name (pg_name (i := 4) sc_law.nd rfl (by first | exact Or.inl rfl | exact Or.inr rfl)))) (fun _ _ _ _ _ => dts_nil) (fun _ _ _ _ _ => (dnt_make takes0 c_Season ind_Season hr (by decide) (da_cons (de_var 4 (pv 4)) da_nil)))) (tx_lcT (by decide)))
      (dss_cons
      (ds_setTr (ps_setLc (i := 5) (own := [("_law_clubs", 4)]) rfl sc_law.nd rfl rfl (sw_true rfl rfl rfl (by decide +kernel)) (di_list (de_var 1 (pv 1))) (blkOk_by (own := [("_law_clubs", 4)]) (N := n_law) (sc := defScope s_law) (by decide +kernel)) (fun _ _ _ _ _ => (dg_name (pg_name (i := 4) sc_law.nd rfl (by first | exact Or.inl rfl | exact Or.inr rfl)))) (fun _ _ _ _ _ => dts_nil) (fun _ _ _ _ _ => (dnt_lst (dats_cons (dnt_d (de_call takes0 c_once_round.ofN2 hr (by decide) (da_cons (de_var 4 (pv 4)) da_nil))) dats_nil)))) (tx_lcT (by decide)))
      (dss_cons
      (ds_for (passes_of rfl) rfl (di_rg1 B.b_range (da_cons de_int da_nil)) (dg_name (pg_name (i := 2) sc_law.nd rfl (by first | exact Or.inl rfl | exact Or.inr rfl)))
      (dss_one
      (ds_if (dt_bor (dt_not (dt_tru (de_call (takes_of rfl rfl rfl rfl) c__law_right hr (by decide) (da_cons (de_ix (de_var 3 (pv 3)) (de_var 2 (pv 2))) (da_cons (de_ix (de_var 1 (pv 1)) (de_var 2 (pv 2))) (da_cons (de_ix (de_var 5 (pv 5)) (de_var 2 (pv 2))) (da_cons (de_var 2 (pv 2)) da_nil))))))))
      (dss_one
      (ds_ret de_bl))
      dss_nil)))
      (dss_cons
      (ds_for (passes_of rfl) rfl (di_rg1 B.b_range (da_cons (de_add de_int (de_bltn call_len_seq cd_len B.b_len PySem.boot_len (da_cons (de_scrSl (pv 0) do_no (do_so de_int)) da_nil))) da_nil)) (dg_name (pg_name (i := 2) sc_law.nd rfl (by first | exact Or.inl rfl | exact Or.inr rfl)))
      (dss_cons
      (ds_set (ps_set (i := 6) sc_law.nd rfl (by first | exact Or.inl rfl | exact Or.inr rfl) (de_call (takes_of rfl rfl rfl rfl) c__law_draw hr (by decide) (da_cons (de_var 0 (pv 0)) (da_cons (de_add de_int (de_var 2 (pv 2))) da_nil)))) (fun _ _ _ q => q))
      (dss_cons
      (ds_set (ps_set (i := 7) sc_law.nd rfl (by first | exact Or.inl rfl | exact Or.inr rfl) (de_div (de_mod (de_var 6 (pv 6)) de_int) de_int)) (fun _ _ _ q => q))
      (dss_cons
      (ds_set (ps_set (i := 4) sc_law.nd rfl (by first | exact Or.inl rfl | exact Or.inr rfl) (de_ix (de_var 1 (pv 1)) (de_var 7 (pv 7)))) (fun _ _ _ q => q))
      (dss_cons
      (ds_set (ps_set (i := 8) sc_law.nd rfl (by first | exact Or.inl rfl | exact Or.inr rfl) (de_call (takes_of rfl rfl rfl rfl) c__law_deed hr (by decide) (da_cons (de_var 4 (pv 4)) (da_cons (de_bor (de_bltn call_len_seq cd_len B.b_len PySem.boot_len (da_cons (de_bor (de_ix (de_ix (de_var 5 (pv 5)) (de_var 7 (pv 7))) (de_neg de_int))) da_nil))) (da_cons (de_div (de_var 6 (pv 6)) de_int) da_nil))))) (fun _ _ _ q => q))
      (dss_cons
      (ds_setTr (ps_set (i := 9) sc_law.nd rfl (by first | exact Or.inl rfl | exact Or.inr rfl) (dnt_tup (dats_cons (dnt_d (de_ix (de_var 8 (pv 8)) de_int)) (dats_cons (dnt_if (dt_tru (de_isi (T := "list") B.b_isinstance B.b_list (by decide +kernel) (by decide +kernel) (de_ix (de_var 8 (pv 8)) de_int))) (dnt_1 (dn_bty call_list_of cn_list B.b_list (by decide +kernel) (da_cons (de_ix (de_var 8 (pv 8)) de_int) da_nil))) (dnt_d (de_ix (de_var 8 (pv 8)) de_int))) (dats_cons (dnt_d (de_ix (de_var 8 (pv 8)) de_int)) dats_nil))))) (fun _ _ _ q => q))
      (dss_cons
      (ds_step (pt_cmpR (op_neD hr.units) (pe_calM (takes_of rfl rfl rfl rfl) c__law_done hr (by decide) (pa_cons (pe_ix ix_seq (pv 3) (pv 7) (fun _ _ => rfl)) (pa_cons (pv 9) pa_nil))) (pe_calM (takes_of rfl rfl rfl rfl) c__law_due hr (by decide) (pa_cons (pv 4) (pa_cons (pe_ix ix_seq (pv 5) (pv 7) (fun _ _ => rfl)) (pa_cons (pv 8) pa_nil)))) (nomark _))
      (dss_one
      (ds_ret de_bl)) (by decide) (by decide) (by decide))
      (dss_cons
      (ds_if (dt_bor (dt_tru (de_isi (T := "list") B.b_isinstance B.b_list (by decide +kernel) (by decide +kernel) (de_ix (de_var 9 (pv 9)) de_int))))
      (dss_one
      (ds_clr1 (pe_bm0 PySem.F.plainAttrs_list PySem.F.slot_list_clear PySem.F.type_list_clear mt_clear (pe_ix ix_seq (pv 9) pe_int (fun _ _ => rfl)))))
      dss_nil)
      (dss_one
      (ds_for (passes_of rfl) rfl (di_rg1 B.b_range (da_cons de_int da_nil)) (dg_name (pg_name (i := 10) sc_law.nd rfl (by first | exact Or.inl rfl | exact Or.inr rfl)))
      (dss_one
      (ds_if (dt_bor (dt_not (dt_tru (de_call (takes_of rfl rfl rfl rfl) c__law_right hr (by decide) (da_cons (de_ix (de_var 3 (pv 3)) (de_var 10 (pv 10))) (da_cons (de_ix (de_var 1 (pv 1)) (de_var 10 (pv 10))) (da_cons (de_ix (de_var 5 (pv 5)) (de_var 10 (pv 10))) (da_cons (de_mod (de_div (de_var 6 (pv 6)) de_int) de_int) da_nil))))))))
      (dss_one
      (ds_ret de_bl))
      dss_nil))))))))))))
      (dss_one
      (ds_ret de_bl)))))))
end
end K08

set_option Elab.async false
set_option linter.all false
set_option maxRecDepth 100000
set_option maxHeartbeats 8000000
namespace K08
open PySem PySem.Spec PyProof.Rows L2 Dn
variable [En]
theorem need_clubs_at {c : Int} (h : 2 ≤ c ∧ c ≤ 20) : o_need_clubs [.int c] = .ok .none := by
  simp [o_need_clubs, g_need_clubs, n_need_clubs, Dn.opX, Dn.opN, Dn.finD, Dn.finN, Dn.rho0, Dn.gSeq, Dn.gSet, Dn.gSetN, Dn.gIf, Dn.gRet, Dn.evF, Dn.gRetN, Dn.gRetV, Dn.gDrop, Dn.gNil, Dn.gBad, Dn.gCnt, Dn.thenO, Dn.Res.bind, Dn.s2, Dn.sC, Dn.sVar, Dn.sT, Dn.asB, Dn.sTru, Dn.truD, Dn.bOr, Dn.bAnd, Dn.bNot, Dn.vAnd, Dn.vOr, Dn.sCh, Dn.sF, Dn.aCons, Dn.aNil, Dn.sTup, Dn.sLst, Dn.sCall, Dn.oLen, Dn.sIf, Dn.sTyIs, Dn.sTyNot, Dn.plain, Dn.tyD, Dn.oI, Dn.oLe, Dn.oLt, h.1, h.2]
def goodN : D → Bool
  | .int i => decide (2 ≤ i) && decide (i ≤ 20)
  | _ => false
theorem need_clubs_bad {d : D} (hp : tkD d) (h : goodN d = false) : o_need_clubs [d] = .ex 1 := by
  show finD (g_need_clubs [.d d]) = _
  have t := tyNot_at (T := "int") (f := sVar 0) (r := [.d d]) (x := d) rfl hp
  have k : (bOr (sTyNot "int" (sVar 0)) (bNot (sT (sCh oLe oLe (sC (.int 2)) (sVar 0) (sC (.int 20)))))) [.d d] = .ok true := by
    cases d with
    | int i =>
      refine (bOr_f t ?_)
      have h' : (decide (2 ≤ i) && decide (i ≤ 20)) = false := h
      show (((Res.ok (PyData.bool (decide (2 ≤ i)))).bind fun z => (asB z).bind fun k => if k = true then Res.ok (PyData.bool (decide (i ≤ 20))) else .ok (.bool false)).bind asB).bind (fun b => Res.ok (!b)) = _
      by_cases e : 2 ≤ i
      · rw [decide_eq_true e, Bool.true_and] at h'
        rw [decide_eq_true e, h']
        rfl
      · rw [decide_eq_false e]
        rfl
    | _ => exact bOr_t t
  rw [show g_need_clubs [.d d] = .ex 1 [.d d] from if_t k rfl]
  rfl
theorem is_club_any {c : Int} {x : D} (hp : tkD x) : o_is_club [.int c, x] = .ok (.bool (clubB c x)) := by
  have t := tyIs_at (T := "int") (f := sVar 1) (r := [.d (.int c), .d x]) (x := x) rfl hp
  show finD (g_is_club [.d (.int c), .d x]) = _
  rw [show g_is_club [.d (.int c), .d x] = .rt (.bool (clubB c x)) from ret_at (by
    unfold vAnd
    rw [t]
    cases x with
    | int i =>
      show ((Res.ok (PyData.bool (decide (0 ≤ i)))).bind fun z => (asB z).bind fun k => if k = true then Res.ok (PyData.bool (decide (i < c))) else .ok (.bool false)) = Res.ok (PyData.bool (decide (0 ≤ i) && decide (i < c)))
      by_cases e : 0 ≤ i
      · rw [decide_eq_true e]; rfl
      · rw [decide_eq_false e]; rfl
    | _ => rfl)]
  rfl
theorem clubB_int {c : Int} {x : D} (h : clubB c x = true) : ∃ i, x = .int i ∧ 0 ≤ i ∧ i < c := by
  cases x with
  | int i =>
    have h' : (decide (0 ≤ i) && decide (i < c)) = true := h
    rw [Bool.and_eq_true] at h'
    exact ⟨i, rfl, of_decide_eq_true h'.1, of_decide_eq_true h'.2⟩
  | _ => cases h
theorem is_game_any {c : Int} {d : D} (hp : tkD d) : o_is_game [.int c, d] = .ok (.bool (gameO c d).isSome) := by
  have t := tyNot_at (T := "tuple") (f := sVar 1) (r := [.d (.int c), .d d, .no, .no]) (x := d) rfl hp
  show finD (g_is_game [.d (.int c), .d d, .no, .no]) = _
  have no : (tyD d != "tuple") = true → gameO c d = none → finD (g_is_game [.d (.int c), .d d, .no, .no]) = .ok (.bool (gameO c d).isSome) := fun h1 h2 => by
    rw [h1] at t
    rw [show g_is_game [.d (.int c), .d d, .no, .no] = .rt (.bool false) from seq_rt (if_t (bOr_t t) rfl), h2]
    rfl
  have len : ∀ ds, d = .tuple ds → ds.length ≠ 2 → gameO c d = none → finD (g_is_game [.d (.int c), .d d, .no, .no]) = .ok (.bool (gameO c d).isSome) := fun ds e h1 h2 => by
    subst e
    have z : sT (s2 oNe (sCall oLen (aCons (sVar 1) aNil)) (sC (.int 2))) [.d (.int c), .d (.tuple ds), .no, .no] = .ok true := by
      rw [neI_at (i := (ds.length : Int)) (j := 2) (call1_at (a := .tuple ds) rfl rfl) rfl, decide_eq_false (by omega)]
      rfl
    rw [show g_is_game [.d (.int c), .d (.tuple ds), .no, .no] = .rt (.bool false) from seq_rt (if_t (bOr_f t z) rfl), h2]
    rfl
  cases d with
  | tuple ds =>
    match ds, hp, t, no, len with
    | [], _, _, _, len => exact len [] rfl (by decide) (gameO_len (by decide))
    | [x], _, _, _, len => exact len [x] rfl (by show 1 ≠ 2; decide) (gameO_len (by show 1 ≠ 2; decide))
    | x :: y :: z :: r, _, _, _, len => exact len _ rfl (by rw [List.length_cons, List.length_cons, List.length_cons]; omega) (gameO_len (by rw [List.length_cons, List.length_cons, List.length_cons]; omega))
    | [x, y], hp, t, _, _ =>
      obtain ⟨px, py⟩ := hp.pl2
      have kx := is_club_any (c := c) px
      have ky := is_club_any (c := c) py
      rw [show g_is_game [.d (.int c), .d (.tuple [x, y]), .no, .no] = .rt (.bool (gameO c (.tuple [x, y])).isSome) from by
        refine seq_nx (if_f (bOr_f t rfl) rfl) (seq_nx (r' := [.d (.int c), .d (.tuple [x, y]), .d x, .d y]) rfl (ret_at ?_))
        have f1 : sF 2 o_is_club (aCons (sVar 0) (aCons (sVar 2) aNil)) [.d (.int c), .d (.tuple [x, y]), .d x, .d y] = .ok (.bool (clubB c x)) := sF2_at rfl rfl kx
        have f2 : sF 2 o_is_club (aCons (sVar 0) (aCons (sVar 3) aNil)) [.d (.int c), .d (.tuple [x, y]), .d x, .d y] = .ok (.bool (clubB c y)) := sF2_at rfl rfl ky
        unfold vAnd
        rw [f1]
        cases h1 : clubB c x with
        | false =>
          have g : gameO c (.tuple [x, y]) = none := by
            unfold gameO
            split
            · rename_i a b e
              injection e with e
              injection e with e1 e
              rw [e1] at h1
              have h1' : (decide (0 ≤ a) && decide (a < c)) = false := h1
              refine if_neg fun z => ?_
              rw [decide_eq_true z.1.1, decide_eq_true z.1.2] at h1'
              cases h1'
            · rfl
          rw [g]
          rfl
        | true =>
          obtain ⟨i, rfl, i1, i2⟩ := clubB_int h1
          show ((sF 2 o_is_club _ _).bind _) = _
          rw [f2]
          cases h2 : clubB c y with
          | false =>
            have g : gameO c (.tuple [.int i, y]) = none := by
              unfold gameO
              split
              · rename_i a b e
                injection e with e
                injection e with e1 e
                injection e with e2 e
                rw [e2] at h2
                have h2' : (decide (0 ≤ b) && decide (b < c)) = false := h2
                refine if_neg fun z => ?_
                rw [decide_eq_true z.2.1.1, decide_eq_true z.2.1.2] at h2'
                cases h2'
              · rfl
            rw [g]
            rfl
          | true =>
            obtain ⟨j, rfl, j1, j2⟩ := clubB_int h2
            show oNe (.int i) (.int j) = _
            rw [Dn.ne_int]
            show _ = Res.ok (PyData.bool (if (0 ≤ i ∧ i < c) ∧ (0 ≤ j ∧ j < c) ∧ i ≠ j then some (i, j) else none).isSome)
            by_cases e : i = j
            · rw [decide_eq_true e, if_neg fun z => z.2.2 e]
              rfl
            · rw [decide_eq_false e, if_pos ⟨⟨i1, i2⟩, ⟨j1, j2⟩, e⟩]
              rfl]
      rfl
  | _ => exact no (by simp [tyD]) rfl
abbrev ngBody : Ev → Out := (gSeq (gIf (bNot (sTru (sF 2 o_is_game (aCons (sVar 0) (aCons (sVar 3) aNil)))))
    (gEx 2)
    Dn.gNil)
    (gSeq (gAsg (bTup (bCons (bName 4) (bCons (bName 5) bNil)) 2) (sVar 3))
    (gSeq (gIf (bOr (sT (sInS 2 (sVar 4))) (sT (sInS 2 (sVar 5))))
    (gEx 2)
    Dn.gNil)
    (gSeq (gAddI 2 (sVar 4))
    (gAddI 2 (sVar 5))))))
theorem ng_for (c : Int) (X : D) : ∀ (ds : List D) (ks : List Int) (j3 j4 j5 : C), (∀ d ∈ ds, tkD d) → ks.length + 2 * ds.length ≤ 900 →
    (∀ gs, runG c ds ks = some gs → ∃ r', forO (bName 3) ngBody ds [.d (.int c), .d X, .si ks, j3, j4, j5] = .nx r') ∧ (runG c ds ks = none → ∃ r', forO (bName 3) ngBody ds [.d (.int c), .d X, .si ks, j3, j4, j5] = .ex 2 r')
  | [], ks, j3, j4, j5, _, _ => ⟨fun _ _ => ⟨_, rfl⟩, fun h => by cases h⟩
  | d :: ds, ks, j3, j4, j5, hp, hl => by
    have k := is_game_any (c := c) (hp d List.mem_cons_self)
    have t : (bNot (sTru (sF 2 o_is_game (aCons (sVar 0) (aCons (sVar 3) aNil))))) [.d (.int c), .d X, .si ks, .d d, j4, j5] = .ok (!(gameO c d).isSome) := bNot_at (sTru_at (sF2_at rfl rfl k))
    rw [List.length_cons] at hl
    unfold runG
    cases hg : gameO c d with
    | none =>
      rw [hg] at t
      exact ⟨fun gs h => (by cases h), fun _ => ⟨_, forO_ex rfl (seq_ex (if_t t rfl))⟩⟩
    | some g =>
      rw [hg] at t
      obtain ⟨rfl, _⟩ := gameO_eq hg
      dsimp only
      have st : ∀ {o : Out}, (gSeq (gIf (bOr (sT (sInS 2 (sVar 4))) (sT (sInS 2 (sVar 5)))) (gEx 2) Dn.gNil) (gSeq (gAddI 2 (sVar 4)) (gAddI 2 (sVar 5)))) [.d (.int c), .d X, .si ks, .d (tup2 g), .d (.int g.1), .d (.int g.2)] = o → ngBody [.d (.int c), .d X, .si ks, .d (tup2 g), j4, j5] = o := fun {o} e => seq_nx (if_f t rfl) (seq_nx (r' := [.d (.int c), .d X, .si ks, .d (tup2 g), .d (.int g.1), .d (.int g.2)]) rfl e)
      have q : bOr (sT (sInS 2 (sVar 4))) (sT (sInS 2 (sVar 5))) [.d (.int c), .d X, .si ks, .d (tup2 g), .d (.int g.1), .d (.int g.2)] = .ok (decide (g.1 ∈ ks ∨ g.2 ∈ ks)) := by
        by_cases h1 : g.1 ∈ ks
        · rw [decide_eq_true (.inl h1)]
          exact bOr_t (by show Res.ok (decide (g.1 ∈ ks)) = _; rw [decide_eq_true h1])
        · refine bOr_f (by show Res.ok (decide (g.1 ∈ ks)) = _; rw [decide_eq_false h1]) ?_
          show Res.ok (decide (g.2 ∈ ks)) = _
          by_cases h2 : g.2 ∈ ks
          · rw [decide_eq_true h2, decide_eq_true (.inr h2)]
          · rw [decide_eq_false h2, decide_eq_false (fun z => z.elim h1 h2)]
      by_cases hb : g.1 ∈ ks ∨ g.2 ∈ ks
      · rw [if_pos hb]
        rw [decide_eq_true hb] at q
        exact ⟨fun gs h => (by cases h), fun _ => ⟨_, forO_ex rfl (st (seq_ex (if_t q rfl)))⟩⟩
      · rw [if_neg hb]
        rw [decide_eq_false hb] at q
        obtain ⟨a1, a2⟩ := ng_for c X ds (g.2 :: g.1 :: ks) (.d (tup2 g)) (.d (.int g.1)) (.d (.int g.2)) (fun x hx => hp x (List.mem_cons_of_mem _ hx)) (by rw [List.length_cons, List.length_cons]; omega)
        have go : ngBody [.d (.int c), .d X, .si ks, .d (tup2 g), j4, j5] = .nx [.d (.int c), .d X, .si (g.2 :: g.1 :: ks), .d (tup2 g), .d (.int g.1), .d (.int g.2)] := by
          refine st (seq_nx (if_f q rfl) (seq_nx (r' := [.d (.int c), .d X, .si (g.1 :: ks), .d (tup2 g), .d (.int g.1), .d (.int g.2)]) ?_ ?_))
          · show (if ks.length < 900 then Out.nx _ else .bad) = _
            rw [if_pos (by omega)]
            rfl
          · show (if (g.1 :: ks).length < 900 then Out.nx _ else .bad) = _
            rw [if_pos (by rw [List.length_cons]; omega)]
            rfl
        refine ⟨fun gs h => ?_, fun h => ?_⟩
        · cases q3 : runG c ds (g.2 :: g.1 :: ks) with
          | none => rw [q3] at h; cases h
          | some gs' =>
            obtain ⟨r', e⟩ := a1 gs' q3
            exact ⟨r', (forO_nx rfl go).trans e⟩
        · cases q3 : runG c ds (g.2 :: g.1 :: ks) with
          | none =>
            obtain ⟨r', e⟩ := a2 q3
            exact ⟨r', (forO_nx rfl go).trans e⟩
          | some gs' => rw [q3] at h; cases h
def resO {α : Type} (n : Nat) : Option α → Res D
  | some _ => .ok .none
  | none => .ex n
theorem need_games_any {c : Int} {d : D} (hp : tkD d) (hl : ∀ ds, d = .list ds → ds.length ≤ 20) : o_need_games [.int c, d] = resO 2 (roundO c d) := by
  have t := tyNot_at (T := "list") (f := sVar 1) (r := [.d (.int c), .d d, .no, .no, .no, .no]) (x := d) rfl hp
  show finD (g_need_games [.d (.int c), .d d, .no, .no, .no, .no]) = _
  have no : (tyD d != "list") = true → roundO c d = none → finD (g_need_games [.d (.int c), .d d, .no, .no, .no, .no]) = resO 2 (roundO c d) := fun h1 h2 => by
    rw [h1] at t
    rw [show g_need_games [.d (.int c), .d d, .no, .no, .no, .no] = .ex 2 [.d (.int c), .d d, .no, .no, .no, .no] from seq_ex (if_t t rfl), h2]
    rfl
  cases d with
  | list ds =>
    have h20 := hl ds rfl
    obtain ⟨a1, a2⟩ := ng_for c (.list ds) ds [] .no .no .no hp.list (by show 0 + 2 * ds.length ≤ 900; omega)
    cases q : runG c ds [] with
    | none =>
      obtain ⟨r', e⟩ := a2 q
      rw [show g_need_games [.d (.int c), .d (.list ds), .no, .no, .no, .no] = .ex 2 r' from seq_nx (if_f t rfl) (seq_nx (r' := [.d (.int c), .d (.list ds), .si [], .no, .no, .no]) rfl (for_at (ds := ds) rfl e))]
      show Res.ex 2 = resO 2 (runG c ds [])
      rw [q]
      rfl
    | some gs =>
      obtain ⟨r', e⟩ := a1 gs q
      rw [show g_need_games [.d (.int c), .d (.list ds), .no, .no, .no, .no] = .nx r' from seq_nx (if_f t rfl) (seq_nx (r' := [.d (.int c), .d (.list ds), .si [], .no, .no, .no]) rfl (for_at (ds := ds) rfl e))]
      show Res.ok PyData.none = resO 2 (runG c ds [])
      rw [q]
      rfl
  | _ => exact no (by simp [tyD]) rfl
abbrev ptBody : Ev → Out := (gSeq (gIf (sT (sInS 2 (sVar 4)))
    (gEx 2)
    Dn.gNil)
    (gAddP 2 (sVar 4)))
abbrev nrBody : Ev → Out := (gSeq (gDrop (sF 2 o_need_games (aCons (sVar 0) (aCons (sVar 3) aNil))))
    (gFor (iL (sVar 3)) (bName 4)
    (gSeq (gIf (sT (sInS 2 (sVar 4)))
    (gEx 2)
    Dn.gNil)
    (gAddP 2 (sVar 4)))))
theorem pt_for (c : Int) (X Y : D) : ∀ (gs : List Gm) (ks : List (List Int)) (j4 : C), ks.length + gs.length ≤ 900 →
    (∀ ks', putG gs ks = some ks' → ∃ j4', forO (bName 4) ptBody (gs.map tup2) [.d (.int c), .d X, .sp ks, .d Y, j4] = .nx [.d (.int c), .d X, .sp ks', .d Y, j4'] ∧ ks'.length = ks.length + gs.length) ∧ (putG gs ks = none → ∃ r', forO (bName 4) ptBody (gs.map tup2) [.d (.int c), .d X, .sp ks, .d Y, j4] = .ex 2 r')
  | [], ks, j4, _ => ⟨fun ks' h => by
      have e : ks = ks' := Option.some.inj h
      subst e
      exact ⟨j4, rfl, rfl⟩, fun h => by cases h⟩
  | g :: gs, ks, j4, hl => by
    rw [List.length_cons] at hl
    have q : sT (sInS 2 (sVar 4)) [.d (.int c), .d X, .sp ks, .d Y, .d (tup2 g)] = .ok (decide (key g ∈ ks)) := rfl
    unfold putG
    by_cases h : key g ∈ ks
    · rw [if_pos h]
      rw [decide_eq_true h] at q
      exact ⟨fun ks' h => (by cases h), fun _ => ⟨_, forO_ex rfl (seq_ex (if_t q rfl))⟩⟩
    · rw [if_neg h]
      rw [decide_eq_false h] at q
      obtain ⟨a1, a2⟩ := pt_for c X Y gs (key g :: ks) (.d (tup2 g)) (by rw [List.length_cons]; omega)
      have go : ptBody [.d (.int c), .d X, .sp ks, .d Y, .d (tup2 g)] = .nx [.d (.int c), .d X, .sp (key g :: ks), .d Y, .d (tup2 g)] := seq_nx (if_f q rfl) (by
        show (if ks.length < 900 then Out.nx _ else .bad) = _
        rw [if_pos (by omega)]
        rfl)
      refine ⟨fun ks' h => ?_, fun h => ?_⟩
      · obtain ⟨j, e, el⟩ := a1 ks' h
        exact ⟨j, (forO_nx rfl go).trans e, by rw [el, List.length_cons, List.length_cons]; omega⟩
      · obtain ⟨r', e⟩ := a2 h
        exact ⟨r', (forO_nx rfl go).trans e⟩
theorem nr_for (c : Int) (X : D) : ∀ (ds : List D) (ks : List (List Int)) (j3 j4 : C), (∀ d ∈ ds, tkD d ∧ ∀ es, d = .list es → es.length ≤ 20) → ks.length + 20 * ds.length ≤ 900 →
    (runR c ds ks = true → ∃ r', forO (bName 3) nrBody ds [.d (.int c), .d X, .sp ks, j3, j4] = .nx r') ∧ (runR c ds ks = false → ∃ r', forO (bName 3) nrBody ds [.d (.int c), .d X, .sp ks, j3, j4] = .ex 2 r')
  | [], ks, j3, j4, _, _ => ⟨fun _ => ⟨_, rfl⟩, fun h => by cases h⟩
  | d :: ds, ks, j3, j4, hp, hl => by
    rw [List.length_cons] at hl
    obtain ⟨p1, p2⟩ := hp d List.mem_cons_self
    have k := need_games_any (c := c) p1 p2
    unfold runR
    cases hg : roundO c d with
    | none =>
      rw [hg] at k
      exact ⟨fun h => (by cases h), fun _ => ⟨_, forO_ex rfl (seq_ex (drop_ex (sF2_at rfl rfl k)))⟩⟩
    | some gs =>
      rw [hg] at k
      obtain ⟨es, rfl⟩ : ∃ es, d = .list es := by
        cases d with
        | list es => exact ⟨es, rfl⟩
        | _ => cases hg
      obtain ⟨e1, _⟩ := runG_eq (show runG c es [] = some gs from hg)
      have h20 := p2 es rfl
      rw [e1, List.length_map] at h20
      dsimp only
      obtain ⟨b1, b2⟩ := pt_for c X (.list es) gs ks j4 (by omega)
      have st : ∀ {o : Out}, forO (bName 4) ptBody (gs.map tup2) [.d (.int c), .d X, .sp ks, .d (.list es), j4] = o → nrBody [.d (.int c), .d X, .sp ks, .d (.list es), j4] = o := fun {o} e => seq_nx (drop_at (sF2_at rfl rfl k)) (for_at (ds := gs.map tup2) (by rw [← e1]; rfl) e)
      cases q : putG gs ks with
      | none =>
        obtain ⟨r', e⟩ := b2 q
        exact ⟨fun h => (by cases h), fun _ => ⟨_, forO_ex rfl (st e)⟩⟩
      | some ks' =>
        obtain ⟨j, e, el⟩ := b1 ks' q
        obtain ⟨a1, a2⟩ := nr_for c X ds ks' (.d (.list es)) j (fun x hx => hp x (List.mem_cons_of_mem _ hx)) (by omega)
        refine ⟨fun h => ?_, fun h => ?_⟩
        · obtain ⟨r', e'⟩ := a1 h
          exact ⟨r', (forO_nx rfl (st e)).trans e'⟩
        · obtain ⟨r', e'⟩ := a2 h
          exact ⟨r', (forO_nx rfl (st e)).trans e'⟩
/-- data for rounds that the reading takes -/
def szOk (d : D) : Prop := tkD d ∧ ∀ ds, d = .list ds → ds.length ≤ 1000 ∧ (ds.length ≤ 40 → ∀ x ∈ ds, ∀ es, x = .list es → es.length ≤ 20)
theorem need_rounds_any {c : Int} {d : D} (hc : 2 ≤ c ∧ c ≤ 20) (h : szOk d) : o_need_rounds [.int c, d] = if roundsB c d = true then .ok .none else .ex 2 := by
  obtain ⟨hp, hs⟩ := h
  have nc := need_clubs_at hc
  have t := tyNot_at (T := "list") (f := sVar 1) (r := [.d (.int c), .d d, .no, .no, .no]) (x := d) rfl hp
  show finD (g_need_rounds [.d (.int c), .d d, .no, .no, .no]) = _
  have st : ∀ {h : Ev → Out} {o : Out}, h [.d (.int c), .d d, .no, .no, .no] = o → gSeq (gDrop (sF 1 o_need_clubs (aCons (sVar 0) aNil))) h [.d (.int c), .d d, .no, .no, .no] = o := fun {h o} e => seq_nx (drop_at (d := .none) (sF1_at rfl nc)) e
  have no : (tyD d != "list") = true → roundsB c d = false → finD (g_need_rounds [.d (.int c), .d d, .no, .no, .no]) = if roundsB c d = true then .ok .none else .ex 2 := fun h1 h2 => by
    rw [h1] at t
    rw [show g_need_rounds [.d (.int c), .d d, .no, .no, .no] = .ex 2 [.d (.int c), .d d, .no, .no, .no] from st (seq_ex (if_t (bOr_t t) rfl)), h2]
    rfl
  cases d with
  | list ds =>
    obtain ⟨h1000, h40⟩ := hs ds rfl
    have z : sT (s2 oGt (sCall oLen (aCons (sVar 1) aNil)) (sC (.int 40))) [.d (.int c), .d (.list ds), .no, .no, .no] = .ok (decide ((40 : Int) < (ds.length : Int))) := rfl
    by_cases hl : ds.length ≤ 40
    · rw [decide_eq_false (by omega)] at z
      obtain ⟨a1, a2⟩ := nr_for c (.list ds) ds [] .no .no (fun x hx => ⟨hp.list x hx, h40 hl x hx⟩) (by show 0 + 20 * ds.length ≤ 900; omega)
      have e0 : roundsB c (.list ds) = runR c ds [] := by
        show (decide (ds.length ≤ 40) && runR c ds []) = _
        rw [decide_eq_true hl, Bool.true_and]
      rw [e0]
      have st2 : ∀ {o : Out}, forO (bName 3) nrBody ds [.d (.int c), .d (.list ds), .sp [], .no, .no] = o → g_need_rounds [.d (.int c), .d (.list ds), .no, .no, .no] = o := fun {o} e => st (seq_nx (if_f (bOr_f t z) rfl) (seq_nx (r' := [.d (.int c), .d (.list ds), .sp [], .no, .no]) rfl (for_at (ds := ds) rfl e)))
      cases q : runR c ds [] with
      | true =>
        obtain ⟨r', e⟩ := a1 q
        rw [st2 e]
        rfl
      | false =>
        obtain ⟨r', e⟩ := a2 q
        rw [st2 e]
        rfl
    · rw [decide_eq_true (by omega)] at z
      rw [show g_need_rounds [.d (.int c), .d (.list ds), .no, .no, .no] = .ex 2 [.d (.int c), .d (.list ds), .no, .no, .no] from st (seq_ex (if_t (bOr_f t z) rfl))]
      have e0 : roundsB c (.list ds) = false := by
        show (decide (ds.length ≤ 40) && runR c ds []) = _
        rw [decide_eq_false hl]
        rfl
      rw [e0]
      rfl
  | _ => exact no (by simp [tyD]) rfl
theorem sz_rs {c : Int} {R : List (List Gm)} (G : GoodRs c R) : szOk (rsD R) := by
  refine ⟨.inl (fine_rs 0 R).pl, fun ds e => ?_⟩
  injection e with e
  subst e
  have hf := G.few
  refine ⟨by rw [List.length_map]; omega, fun _ x hx es e => ?_⟩
  obtain ⟨gs, hg, rfl⟩ := List.mem_map.mp hx
  injection e with e
  subst e
  have := (G.all gs hg).few
  rw [List.length_map]
  omega
theorem need_rounds_at {c : Int} {R : List (List Gm)} (hc : 2 ≤ c ∧ c ≤ 20) (G : GoodRs c R) : o_need_rounds [.int c, rsD R] = .ok .none := by
  rw [need_rounds_any hc (sz_rs G), if_pos (roundsB_good G)]
theorem need_club_any {c : Int} {x : D} (hp : tkD x) : o_need_club [.int c, x] = if clubB c x = true then .ok .none else .ex 3 := by
  have k := is_club_any (c := c) hp
  show finD (g_need_club [.d (.int c), .d x]) = _
  have t : (bNot (sTru (sF 2 o_is_club (aCons (sVar 0) (aCons (sVar 1) aNil))))) [.d (.int c), .d x] = .ok (!clubB c x) := bNot_at (sTru_at (sF2_at rfl rfl k))
  cases h : clubB c x with
  | true =>
    rw [h] at t
    rw [show g_need_club [.d (.int c), .d x] = .nx [.d (.int c), .d x] from if_f t rfl]
    rfl
  | false =>
    rw [h] at t
    rw [show g_need_club [.d (.int c), .d x] = .ex 3 [.d (.int c), .d x] from if_t t rfl]
    rfl
theorem clubB_of {c x : Int} (h : 0 ≤ x ∧ x < c) : clubB c (.int x) = true := by
  show (decide (0 ≤ x) && decide (x < c)) = true
  rw [decide_eq_true h.1, decide_eq_true h.2]
  rfl
theorem need_club_at {c x : Int} (h : 0 ≤ x ∧ x < c) : o_need_club [.int c, .int x] = .ok .none := by
  rw [need_club_any (.inl rfl), if_pos (clubB_of h)]
theorem need_two_at {c x y : Int} (h : 0 ≤ x ∧ x < c) (h2 : 0 ≤ y ∧ y < c) (h3 : x ≠ y) : o_need_two_clubs [.int c, .int x, .int y] = .ok .none := by
  show finD (g_need_two_clubs [.d (.int c), .d (.int x), .d (.int y)]) = _
  rw [show g_need_two_clubs [.d (.int c), .d (.int x), .d (.int y)] = .nx [.d (.int c), .d (.int x), .d (.int y)] from seq_nx (drop_at (d := .none) (sF2_at rfl rfl (need_club_at h))) (seq_nx (drop_at (d := .none) (sF2_at rfl rfl (need_club_at h2))) (if_f (by rw [eqI_at (i := x) (j := y) rfl rfl, decide_eq_false h3]) rfl))]
  rfl

theorem draw_at (ns : List Int) {k : Int} (h : 0 ≤ k ∧ k < 1000000) : o__law_draw [scrD ns, .int k] = .ok (.int (drawI ns k)) := drawO_eq ns h
end K08

set_option Elab.async false
set_option linter.all false
set_option maxRecDepth 100000
set_option maxHeartbeats 8000000
namespace K08
open PySem PySem.Spec PyProof.Rows L2 Dn
variable [En]
theorem made2 : o_once_round [.int 2] = .ok ((madeP 2).map fun gs => gs.map tup2) := by kernel_rfl
theorem made3 : o_once_round [.int 3] = .ok ((madeP 3).map fun gs => gs.map tup2) := by kernel_rfl
theorem made4 : o_once_round [.int 4] = .ok ((madeP 4).map fun gs => gs.map tup2) := by kernel_rfl
theorem made5 : o_once_round [.int 5] = .ok ((madeP 5).map fun gs => gs.map tup2) := by kernel_rfl
theorem made6 : o_once_round [.int 6] = .ok ((madeP 6).map fun gs => gs.map tup2) := by kernel_rfl
theorem made7 : o_once_round [.int 7] = .ok ((madeP 7).map fun gs => gs.map tup2) := by kernel_rfl
theorem made8 : o_once_round [.int 8] = .ok ((madeP 8).map fun gs => gs.map tup2) := by kernel_rfl
theorem made9 : o_once_round [.int 9] = .ok ((madeP 9).map fun gs => gs.map tup2) := by kernel_rfl
theorem made10 : o_once_round [.int 10] = .ok ((madeP 10).map fun gs => gs.map tup2) := by kernel_rfl
theorem made11 : o_once_round [.int 11] = .ok ((madeP 11).map fun gs => gs.map tup2) := by kernel_rfl
theorem made12 : o_once_round [.int 12] = .ok ((madeP 12).map fun gs => gs.map tup2) := by kernel_rfl
theorem made13 : o_once_round [.int 13] = .ok ((madeP 13).map fun gs => gs.map tup2) := by kernel_rfl
theorem made14 : o_once_round [.int 14] = .ok ((madeP 14).map fun gs => gs.map tup2) := by kernel_rfl
theorem made15 : o_once_round [.int 15] = .ok ((madeP 15).map fun gs => gs.map tup2) := by kernel_rfl
theorem made16 : o_once_round [.int 16] = .ok ((madeP 16).map fun gs => gs.map tup2) := by kernel_rfl
theorem made17 : o_once_round [.int 17] = .ok ((madeP 17).map fun gs => gs.map tup2) := by kernel_rfl
theorem made18 : o_once_round [.int 18] = .ok ((madeP 18).map fun gs => gs.map tup2) := by kernel_rfl
theorem made19 : o_once_round [.int 19] = .ok ((madeP 19).map fun gs => gs.map tup2) := by kernel_rfl
theorem made20 : o_once_round [.int 20] = .ok ((madeP 20).map fun gs => gs.map tup2) := by kernel_rfl
theorem clubs_at {c : Int} (h : 2 ≤ c ∧ c ≤ 20) : ((c.toNat : Nat) : Int) = c := by omega
theorem once_round_at {c : Int} (h : 2 ≤ c ∧ c ≤ 20) : o_once_round [.int c] = .ok ((madeP c.toNat).map fun gs => gs.map tup2) := by
  have hx : c = 2 ∨ c = 3 ∨ c = 4 ∨ c = 5 ∨ c = 6 ∨ c = 7 ∨ c = 8 ∨ c = 9 ∨ c = 10 ∨ c = 11 ∨ c = 12 ∨ c = 13 ∨ c = 14 ∨ c = 15 ∨ c = 16 ∨ c = 17 ∨ c = 18 ∨ c = 19 ∨ c = 20 := by omega
  rcases hx with e | e | e | e | e | e | e | e | e | e | e | e | e | e | e | e | e | e | e <;> subst e
  · exact made2
  · exact made3
  · exact made4
  · exact made5
  · exact made6
  · exact made7
  · exact made8
  · exact made9
  · exact made10
  · exact made11
  · exact made12
  · exact made13
  · exact made14
  · exact made15
  · exact made16
  · exact made17
  · exact made18
  · exact made19
  · exact made20
end K08

set_option Elab.async false
set_option linter.all false
set_option maxRecDepth 100000
set_option maxHeartbeats 8000000
namespace K08
open PySem PySem.Spec PyProof.Rows L2 Dn
variable [En]
theorem need_order_at {n : Nat} {l : List Int} (hn : n ≤ 1000) (p : l.Perm ((List.range' 0 n).map fun i : Nat => (i : Int))) : o_need_order [.int (n : Int), .list (l.map .int)] = .ok .none := by
  have hl : l.length = n := by rw [p.length_eq, List.length_map, List.length_range']
  show finD (g_need_order (rho0 n_need_order [.int (n : Int), .list (l.map .int)])) = _
  have e0 : rho0 n_need_order [.int (n : Int), .list (l.map .int)] = .d (.int (n : Int)) :: .d (.list (l.map .int)) :: (rho0 n_need_order [.int (n : Int), .list (l.map .int)]).drop 2 := rfl
  generalize (rho0 n_need_order [.int (n : Int), .list (l.map .int)]).drop 2 = tl at e0
  rw [e0]
  rw [show g_need_order (.d (.int (n : Int)) :: .d (.list (l.map .int)) :: tl) = .nx (.d (.int (n : Int)) :: .d (.list (l.map .int)) :: tl) from by
    refine seq_nx (r' := .d (.int (n : Int)) :: .d (.list (l.map .int)) :: tl) (if_f ?_ rfl) (seq_nx (r' := .d (.int (n : Int)) :: .d (.list (l.map .int)) :: tl) (if_f ?_ rfl) (if_f ?_ rfl))
    · show (sTyNot "list" (sVar 1) _).bind (fun b => if b = true then .ok true else (oNe (.int ((l.map PyData.int).length : Int)) (.int (n : Int))).bind asB) = _
      rw [ty_ints (xs := l) rfl, List.length_map, hl, Dn.ne_int, decide_eq_true rfl]
      rfl
    · show (sAllTy "int" (sVar 1) _).bind (fun b => .ok (!b)) = _
      rw [alltyI (xs := l) rfl]
      rfl
    · show ((oSort2 [.list (l.map .int)]).bind fun x => (sLrg (sVar 0) (.d (.int (n : Int)) :: .d (.list (l.map .int)) :: tl)).bind fun y => oNe x y).bind asB = _
      rw [sort2_ints, lrg_at (n := (n : Int)) rfl (by omega) (by omega), sortI_of p, Int.toNat_natCast, ints_run]
      show (oNe (.list (((List.range' 0 n).map fun i : Nat => (i : Int)).map .int)) (.list (((List.range' 0 n).map fun i : Nat => (i : Int)).map .int))).bind asB = _
      rw [ne_ints, decide_eq_true rfl]
      rfl]
  rfl
def movedP (R : List (List Gm)) (l : List Int) : List (List Gm) := l.map fun i => sortP (R.getD i.toNat [])
theorem moved_at {c : Int} {R : List (List Gm)} {l : List Int} (hc : 2 ≤ c ∧ c ≤ 20) (G : GoodRs c R) (p : l.Perm ((List.range' 0 R.length).map fun i : Nat => (i : Int))) : o_moved [.int c, rsD R, .list (l.map .int)] = .ok ((movedP R l).map fun gs => gs.map tup2) := by
  have hfew := G.few
  have hl : l.length = R.length := by rw [p.length_eq, List.length_map, List.length_range']
  have no := need_order_at (n := R.length) (by omega) p
  have ln : oLen [rsD R] = .ok (.int (R.length : Int)) := by
    show Res.ok (PyData.int ((R.map gsD).length : Int)) = _
    rw [List.length_map]
  show finN2 (g_moved [.d (.int c), .d (rsD R), .d (.list (l.map .int)), .no]) = _
  rw [show g_moved [.d (.int c), .d (rsD R), .d (.list (l.map .int)), .no] = .rn2 ((movedP R l).map fun gs => gs.map tup2) from by
    refine seq_nx (r' := [.d (.int c), .d (rsD R), .d (.list (l.map .int)), .no]) (drop_at (d := .none) (need_rounds_at hc G)) (seq_nx (r' := [.d (.int c), .d (rsD R), .d (.list (l.map .int)), .no]) (drop_at (d := .none) ?_) (retN2_at (ncomp2_at (ds := l.map .int) rfl (by rw [List.length_map]; unfold big; omega) ?_)))
    · show ((oLen [rsD R]).bind fun x => Res.ok [x, PyData.list (l.map .int)]).bind (fun ds => if ds.length = 2 then o_need_order ds else .bad) = _
      rw [ln]
      exact no
    · unfold movedP
      rw [List.map_map]
      refine compB_all PyData.int (fun i => (sortP (R.getD i.toNat [])).map tup2) l fun i hi => ⟨_, rfl, nsort_at ?_⟩
      obtain ⟨k, hk, ek⟩ := List.mem_map.mp (p.mem_iff.mp hi)
      have hk2 := List.mem_range'_1.mp hk
      have e1 : R[k]? = some R[k] := List.getElem?_eq_getElem (by omega)
      show ofO (L2.atI (R.map gsD) i) = _
      rw [← ek, atI_map_nat e1, List.getD_eq_getElem?_getD, Int.toNat_natCast, e1]
      rfl]
  rfl
theorem in_pair (x : Int) (g : Gm) : oIn false (.int x) (tup2 g) = .ok (.bool (decide (x = g.1 ∨ x = g.2))) := by
  show inB false (.int x) [.int g.1, .int g.2] = _
  unfold inB
  rw [if_pos (by rfl)]
  have e : ([PyData.int g.1, .int g.2].any fun z => PyData.eqv z (.int x)) = decide (x = g.1 ∨ x = g.2) := by
    show (PyData.eqv (.int g.1) (.int x) || (PyData.eqv (.int g.2) (.int x) || false)) = _
    rw [eqv_int, eqv_int, Bool.or_false, ← Bool.decide_or]
    exact decide_eq_decide.mpr (by constructor <;> (rintro (h | h); exact .inl h.symm; exact .inr h.symm))
  rw [e]
  rfl
theorem turned_game_at (g : Gm) (a b : Int) : o_turned_game [tup2 g, .int a, .int b] = .ok (tup2 (turnG a b g)) := by
  have k1 := in_pair a g
  have k2 := in_pair b g
  show finD (g_turned_game [.d (tup2 g), .d (.int a), .d (.int b), .no, .no]) = _
  rw [show g_turned_game [.d (tup2 g), .d (.int a), .d (.int b), .no, .no] = .rt (tup2 (turnG a b g)) from seq_nx (r' := [.d (tup2 g), .d (.int a), .d (.int b), .d (.int g.1), .d (.int g.2)]) rfl (ret_at (by
    show ((((oIn false (.int a) (tup2 g)).bind asB).bind fun q => if q = true then ((oIn false (.int b) (tup2 g)).bind asB) else .ok false)).bind (fun q => if q = true then Res.ok (tup2 (rv g)) else Res.ok (tup2 g)) = _
    rw [k1, k2]
    unfold turnG
    by_cases h1 : a = g.1 ∨ a = g.2
    · by_cases h2 : b = g.1 ∨ b = g.2
      · rw [decide_eq_true h1, decide_eq_true h2, if_pos ⟨h1, h2⟩]; rfl
      · rw [decide_eq_true h1, decide_eq_false h2, if_neg (fun z => h2 z.2)]; rfl
    · rw [decide_eq_false h1, if_neg (fun z => h1 z.1)]; rfl))]
  rfl
theorem turned_at {c a b : Int} {R : List (List Gm)} (hc : 2 ≤ c ∧ c ≤ 20) (G : GoodRs c R) (ha : 0 ≤ a ∧ a < c) (hb : 0 ≤ b ∧ b < c) (hab : a ≠ b) : o_turned [.int c, rsD R, .int a, .int b] = .ok (((R.map fun gs => gs.map (turnG a b)).map sortP).map fun gs => gs.map tup2) := by
  have hfew := G.few
  show finN2 (g_turned [.d (.int c), .d (rsD R), .d (.int a), .d (.int b), .no, .no]) = _
  rw [show g_turned [.d (.int c), .d (rsD R), .d (.int a), .d (.int b), .no, .no] = .rn2 (((R.map fun gs => gs.map (turnG a b)).map sortP).map fun gs => gs.map tup2) from by
    refine seq_nx (r' := [.d (.int c), .d (rsD R), .d (.int a), .d (.int b), .no, .no]) (drop_at (d := .none) (need_rounds_at hc G)) (seq_nx (r' := [.d (.int c), .d (rsD R), .d (.int a), .d (.int b), .no, .no]) (drop_at (d := .none) (need_two_at ha hb hab)) (retN2_at (ncomp2_at (ds := R.map gsD) rfl (by rw [List.length_map]; unfold big; omega) ?_)))
    rw [List.map_map, List.map_map]
    refine compB_all gsD _ R fun gs hg => ⟨_, rfl, nsort_at (gs := gs.map (turnG a b)) ?_⟩
    have h10 := (G.all gs hg).few
    show lstR (nComp _ _ _ _ _ _) = _
    rw [ncomp_at (ds := gs.map tup2) (es := (gs.map (turnG a b)).map tup2) rfl (by rw [List.length_map]; unfold big; omega) (by
      rw [List.map_map]
      exact comp_all tup2 _ gs fun g _ => ⟨_, rfl, turned_game_at g a b⟩)]
    rfl]
  rfl
theorem places_at {c a b x : Int} (hc : 2 ≤ c ∧ c ≤ 20) (ha : 0 ≤ a ∧ a < c) (hb : 0 ≤ b ∧ b < c) (hx : 0 ≤ x ∧ x < c) : oIx (.list (((runD 0 c.toNat).set a.toNat (.int b)).set b.toNat (.int a))) (.int x) = .ok (.int (if x = b then a else if x = a then b else x)) := by
  have e1 := runD_get c.toNat 0 x.toNat (by omega)
  rw [show (0 : Int) + ((x.toNat : Nat) : Int) = x by omega] at e1
  have lr : (runD 0 c.toNat).length = c.toNat := runD_length _ _
  have e2 : (((runD 0 c.toNat).set a.toNat (.int b)).set b.toNat (.int a))[x.toNat]? = some (PyData.int (if x = b then a else if x = a then b else x)) := by
    by_cases h1 : x = b
    · rw [if_pos h1, h1, List.getElem?_set_self (by rw [List.length_set, lr]; omega)]
    · rw [if_neg h1, List.getElem?_set_ne (by omega)]
      by_cases h2 : x = a
      · rw [if_pos h2, h2, List.getElem?_set_self (by rw [lr]; omega)]
      · rw [if_neg h2, List.getElem?_set_ne (by omega), e1]
  have e3 := L2.atI_nat (j := x.toNat) e2
  rw [show ((x.toNat : Nat) : Int) = x by omega] at e3
  show ofO (L2.atI _ x) = _
  rw [e3]
  rfl
theorem store_at {i : Nat} {f g : Ev → Res D} {r : Ev} {ds : List D} {d : D} {j : Nat} (h1 : r[i]? = some (.own ds)) (h2 : g r = .ok d) (h3 : f r = .ok (.int (j : Int))) (h4 : j < ds.length) : gStore i f g r = .nx (r.set i (.own (ds.set j d))) := by
  unfold gStore hasOwn
  rw [h1, h2, h3]
  show (match L2.ixN ds.length (j : Int) with | some j => Out.nx (r.set i (.own (ds.set j d))) | none => .bad) = _
  rw [show L2.ixN ds.length (j : Int) = some j by unfold L2.ixN; rw [if_pos (by omega), if_pos (by omega), Int.toNat_natCast]]
theorem swap_eq {a b x : Int} : (if x = b then a else if x = a then b else x) = swapC a b x ∨ a = b := by
  by_cases h : a = b
  · exact .inr h
  · left
    unfold swapC
    by_cases h1 : x = a
    · rw [if_pos h1, if_neg (fun e => h (h1.symm.trans e)), if_pos h1]
    · rw [if_neg h1, if_neg h1]
theorem exchanged_at {c a b : Int} {R : List (List Gm)} (hc : 2 ≤ c ∧ c ≤ 20) (G : GoodRs c R) (ha : 0 ≤ a ∧ a < c) (hb : 0 ≤ b ∧ b < c) (hab : a ≠ b) : o_exchanged [.int c, rsD R, .int a, .int b] = .ok (((R.map fun gs => gs.map fun g => (swapC a b g.1, swapC a b g.2)).map sortP).map fun gs => gs.map tup2) := by
  have hfew := G.few
  obtain ⟨ps, eps⟩ : ∃ ps, ps = ((runD 0 c.toNat).set a.toNat (.int b)).set b.toNat (.int a) := ⟨_, rfl⟩
  have pl : ∀ x, 0 ≤ x ∧ x < c → oIx (.list ps) (.int x) = .ok (.int (swapC a b x)) := fun x hx => by
    rw [eps, places_at hc ha hb hx, swap_eq.resolve_right hab]
  have lr : (runD 0 c.toNat).length = c.toNat := runD_length _ _
  show finN2 (g_exchanged [.d (.int c), .d (rsD R), .d (.int a), .d (.int b), .no, .no, .no, .no]) = _
  rw [show g_exchanged [.d (.int c), .d (rsD R), .d (.int a), .d (.int b), .no, .no, .no, .no] = .rn2 (((R.map fun gs => gs.map fun g => (swapC a b g.1, swapC a b g.2)).map sortP).map fun gs => gs.map tup2) from by
    refine seq_nx (r' := [.d (.int c), .d (rsD R), .d (.int a), .d (.int b), .no, .no, .no, .no]) (drop_at (d := .none) (need_rounds_at hc G)) (seq_nx (r' := [.d (.int c), .d (rsD R), .d (.int a), .d (.int b), .no, .no, .no, .no]) (drop_at (d := .none) (need_two_at ha hb hab)) ?_)
    refine seq_nx (r' := [.d (.int c), .d (rsD R), .d (.int a), .d (.int b), .own (runD 0 c.toNat), .no, .no, .no]) ?_ ?_
    · show thenO (if 0 ≤ c ∧ c < 1000000 then Res.ok (runD 0 c.toNat) else .bad) _ _ = _
      rw [if_pos (by omega)]
      rfl
    refine seq_nx (r' := [.d (.int c), .d (rsD R), .d (.int a), .d (.int b), .own ((runD 0 c.toNat).set a.toNat (.int b)), .no, .no, .no]) ?_ ?_
    · exact store_at (j := a.toNat) rfl rfl (by rw [show ((a.toNat : Nat) : Int) = a by omega]; rfl) (by rw [lr]; omega)
    refine seq_nx (r' := [.d (.int c), .d (rsD R), .d (.int a), .d (.int b), .own ps, .no, .no, .no]) ?_ ?_
    · rw [eps]
      exact store_at (j := b.toNat) rfl rfl (by rw [show ((b.toNat : Nat) : Int) = b by omega]; rfl) (by rw [List.length_set, lr]; omega)
    show gRetN2 _ [.d (.int c), .d (rsD R), .d (.int a), .d (.int b), .d (.list ps), .no, .no, .no] = _
    refine retN2_at (ncomp2_at (ds := R.map gsD) rfl (by rw [List.length_map]; unfold big; omega) ?_)
    rw [List.map_map, List.map_map]
    refine compB_all gsD _ R fun gs hg => ⟨_, rfl, nsort_at (gs := gs.map fun g => (swapC a b g.1, swapC a b g.2)) ?_⟩
    have Gg := G.all gs hg
    have h10 := Gg.few
    show lstR (nComp _ _ _ _ _ _) = _
    rw [ncomp_at (ds := gs.map tup2) (es := (gs.map fun g => (swapC a b g.1, swapC a b g.2)).map tup2) rfl (by rw [List.length_map]; unfold big; omega) (by
      rw [List.map_map]
      refine comp_all tup2 _ gs fun g hgg => ⟨_, rfl, ?_⟩
      obtain ⟨g1, g2, _⟩ := Gg.game g hgg
      show ((oIx (.list ps) (.int g.1)).bind fun x => ((oIx (.list ps) (.int g.2)).bind fun y => Res.ok [y]).bind fun xs => Res.ok (x :: xs)).bind (fun xs => if xs.length ≤ big then Res.ok (PyData.tuple xs) else Res.bad) = _
      rw [pl _ g1, pl _ g2]
      rfl)]
    rfl]
  rfl

def noC (x : Int) (g : Gm) : Bool := !decide (x = g.1 ∨ x = g.2)
theorem notin_pair (x : Int) (g : Gm) : oIn true (.int x) (tup2 g) = .ok (.bool (noC x g)) := by
  show inB true (.int x) [.int g.1, .int g.2] = _
  unfold inB
  rw [if_pos (by rfl)]
  have e : ([PyData.int g.1, .int g.2].any fun z => PyData.eqv z (.int x)) = decide (x = g.1 ∨ x = g.2) := by
    show (PyData.eqv (.int g.1) (.int x) || (PyData.eqv (.int g.2) (.int x) || false)) = _
    rw [eqv_int, eqv_int, Bool.or_false, ← Bool.decide_or]
    exact decide_eq_decide.mpr (by constructor <;> (rintro (h | h); exact .inl h.symm; exact .inr h.symm))
  rw [e]
  rfl
theorem without_at {c x : Int} {R : List (List Gm)} (hc : 2 ≤ c ∧ c ≤ 20) (G : GoodRs c R) (hx : 0 ≤ x ∧ x < c) : o_without [.int c, rsD R, .int x] = .ok (((R.map fun gs => gs.filter (noC x)).map sortP).map fun gs => gs.map tup2) := by
  have hfew := G.few
  show finN2 (g_without [.d (.int c), .d (rsD R), .d (.int x), .no, .no]) = _
  rw [show g_without [.d (.int c), .d (rsD R), .d (.int x), .no, .no] = .rn2 (((R.map fun gs => gs.filter (noC x)).map sortP).map fun gs => gs.map tup2) from by
    refine seq_nx (r' := [.d (.int c), .d (rsD R), .d (.int x), .no, .no]) (drop_at (d := .none) (need_rounds_at hc G)) (seq_nx (r' := [.d (.int c), .d (rsD R), .d (.int x), .no, .no]) (drop_at (d := .none) (need_club_at hx)) (retN2_at (ncomp2_at (ds := R.map gsD) rfl (by rw [List.length_map]; unfold big; omega) ?_)))
    rw [List.map_map, List.map_map]
    refine compB_all gsD _ R fun gs hg => ⟨_, rfl, nsort_at (gs := gs.filter (noC x)) ?_⟩
    have h10 := (G.all gs hg).few
    show lstR (nComp _ _ _ _ _ _) = _
    rw [ncomp_at (ds := gs.map tup2) (es := (gs.filter (noC x)).map tup2) rfl (by rw [List.length_map]; unfold big; omega) (comp_at tup2 (noC x) tup2 gs fun g _ => ⟨_, rfl, by
      show (oIn true (.int x) (tup2 g)).bind asB = _
      rw [notin_pair]
      rfl, fun _ => rfl⟩)]
    rfl]
  rfl
theorem told_at {Q : List (List Gm)} (h : Q.length ≤ 100) : o__law_told [rsD Q] = .ok (rsD (Q.map sortP)) := by
  show finD (g__law_told [.d (rsD Q), .no]) = _
  rw [show g__law_told [.d (rsD Q), .no] = .rt (rsD (Q.map sortP)) from ret_at (by
    show lstR (nComp _ _ _ _ _ _) = _
    rw [ncomp_at (ds := Q.map gsD) (es := (Q.map sortP).map gsD) rfl (by rw [List.length_map]; unfold big; omega) (by
      rw [List.map_map]
      exact comp_all gsD (fun gs => gsD (sortP gs)) Q fun gs _ => ⟨_, rfl, call1_at rfl (sort_gs gs)⟩)]
    rfl)]
  rfl
theorem whole_at (i : Int) : o__law_whole [.int i] = .ok (.bool true) := rfl
theorem is_at {Q : List (List Gm)} (h : Q.length ≤ 100) (h2 : ∀ gs ∈ Q, gs.length ≤ 10) : o__law_is [rsD Q, rsD Q] = .ok (.bool true) := by
  have hfl := flat_len Q h2
  show finD (g__law_is [.d (rsD Q), .d (rsD Q), .no, .no, .no]) = _
  have L := for_inv (bnd := bName 3) (g := gOwn 2 (gExt 2 (sVar 3))) gsD (fun dn r => ∃ j3, r = [.d (rsD Q), .d (rsD Q), .own (dn.flatten.map tup2), j3, .no]) Q [] [.d (rsD Q), .d (rsD Q), .own [], .no, .no] (fun dn gs rest r eq ir => by
    obtain ⟨j3, rfl⟩ := ir
    have hl : dn.flatten.length + gs.length ≤ 1000 := by
      have e : Q.flatten.length = dn.flatten.length + (gs.length + rest.flatten.length) := by
        rw [show Q = dn ++ gs :: rest from eq, List.flatten_append, List.length_append, List.flatten_cons, List.length_append]
      omega
    refine ⟨_, _, rfl, .inl (ext_at (ds := dn.flatten.map tup2) (es := gs.map tup2) rfl rfl (by rw [List.length_map, List.length_map]; unfold big; omega)), .d (gsD gs), ?_⟩
    rw [flat_snoc, List.map_append]
    rfl) ⟨.no, rfl⟩
  obtain ⟨r', e, j3, rfl⟩ := L
  rw [List.nil_append] at e
  rw [show g__law_is [.d (rsD Q), .d (rsD Q), .no, .no, .no] = .rt (.bool true) from by
    refine seq_nx (if_f (bOr_f (bNot_at (b := true) (sTru_at (isl_at (fine_rs 0 Q)))) (bOr_f ?_ (bNot_at (b := true) (sTru_at (call1_at (a := .list (Q.map fun _ => .bool true)) ?_ (all_true Q)))))) rfl) (seq_nx (r' := [.d (rsD Q), .d (rsD Q), .own [], .no, .no]) rfl (seq_nx (for_at (ds := Q.map gsD) rfl e) ?_))
    · show (oNe (rsD Q) (rsD Q)).bind asB = _
      rw [oNe_same (fine_rs 0 Q) (by decide)]
      rfl
    · show lstR (nComp _ _ _ _ _ _) = _
      rw [ncomp_at (ds := Q.map gsD) (es := Q.map fun _ => .bool true) rfl (by rw [List.length_map]; unfold big; omega) (comp_all gsD (fun _ => .bool true) Q fun gs _ => ⟨_, rfl, isl_at (fine_gs 0 gs)⟩)]
      rfl
    · show gRet _ [.d (rsD Q), .d (rsD Q), .d (.list (Q.flatten.map tup2)), j3, .no] = _
      refine ret_at (call1_at (a := .list (Q.flatten.map fun _ => .bool true)) ?_ (all_true Q.flatten))
      show lstR (nComp _ _ _ _ _ _) = _
      rw [ncomp_at (ds := Q.flatten.map tup2) (es := Q.flatten.map fun _ => .bool true) rfl (by rw [List.length_map]; unfold big; omega) (comp_all tup2 (fun _ => .bool true) Q.flatten fun g _ => ⟨_, rfl, rfl⟩)]
      rfl]
  rfl
theorem run_len (n : Nat) : runD 0 n = (List.range' 0 n).map fun i : Nat => PyData.int (i : Int) := run_map n 0
theorem two_bad {c : Int} {a b : D} (ha : tkD a) (hb : tkD b) (h : clubB c a = false ∨ (clubB c a = true ∧ (clubB c b = false ∨ b = a))) : o_need_two_clubs [.int c, a, b] = .ex 3 := by
  have na := need_club_any (c := c) ha
  have nb := need_club_any (c := c) hb
  show finD (g_need_two_clubs [.d (.int c), .d a, .d b]) = _
  rcases h with h | ⟨h, h2⟩
  · rw [if_neg (by rw [h]; exact Bool.false_ne_true)] at na
    rw [show g_need_two_clubs [.d (.int c), .d a, .d b] = .ex 3 [.d (.int c), .d a, .d b] from seq_ex (drop_ex (sF2_at rfl rfl na))]
    rfl
  · rw [if_pos h] at na
    rcases h2 with h2 | rfl
    · rw [if_neg (by rw [h2]; exact Bool.false_ne_true)] at nb
      rw [show g_need_two_clubs [.d (.int c), .d a, .d b] = .ex 3 [.d (.int c), .d a, .d b] from seq_nx (drop_at (d := .none) (sF2_at rfl rfl na)) (seq_ex (drop_ex (sF2_at rfl rfl nb)))]
      rfl
    · obtain ⟨i, rfl, _, _⟩ := clubB_int h
      rw [show g_need_two_clubs [.d (.int c), .d (.int i), .d (.int i)] = .ex 3 [.d (.int c), .d (.int i), .d (.int i)] from seq_nx (drop_at (d := .none) (sF2_at rfl rfl na)) (seq_nx (drop_at (d := .none) (sF2_at rfl rfl na)) (if_t (by rw [eqI_at (i := i) (j := i) rfl rfl, decide_eq_true rfl]) rfl))]
      rfl
theorem order_ty {n : Nat} {d : D} (hp : tkD d) (h : (tyD d != "list") = true) : o_need_order [.int (n : Int), d] = .ex 4 := by
  have e0 : rho0 n_need_order [.int (n : Int), d] = .d (.int (n : Int)) :: .d d :: (rho0 n_need_order [.int (n : Int), d]).drop 2 := rfl
  show finD (g_need_order (rho0 n_need_order [.int (n : Int), d])) = _
  rw [e0]
  have t := tyNot_at (T := "list") (f := sVar 1) (r := .d (.int (n : Int)) :: .d d :: (rho0 n_need_order [.int (n : Int), d]).drop 2) (x := d) rfl hp
  rw [h] at t
  rw [show g_need_order (.d (.int (n : Int)) :: .d d :: (rho0 n_need_order [.int (n : Int), d]).drop 2) = .ex 4 (.d (.int (n : Int)) :: .d d :: (rho0 n_need_order [.int (n : Int), d]).drop 2) from seq_ex (if_t (bOr_t t) rfl)]
  rfl
theorem order_len {n : Nat} {ds : List D} (hp : plain (.list ds) = true) (h : ds.length ≠ n) : o_need_order [.int (n : Int), .list ds] = .ex 4 := by
  have e0 : rho0 n_need_order [.int (n : Int), .list ds] = .d (.int (n : Int)) :: .d (.list ds) :: (rho0 n_need_order [.int (n : Int), .list ds]).drop 2 := rfl
  show finD (g_need_order (rho0 n_need_order [.int (n : Int), .list ds])) = _
  generalize (rho0 n_need_order [.int (n : Int), .list ds]).drop 2 = tl at e0
  rw [e0]
  have t := tyNot_at (T := "list") (f := sVar 1) (r := .d (.int (n : Int)) :: .d (.list ds) :: tl) (x := .list ds) rfl (.inl hp)
  have q : sT (s2 oNe (sCall oLen (aCons (sVar 1) aNil)) (sVar 0)) (.d (.int (n : Int)) :: .d (.list ds) :: tl) = .ok true := by
    rw [neI_at (i := (ds.length : Int)) (j := (n : Int)) (call1_at (a := .list ds) rfl rfl) rfl, decide_eq_false (by omega)]
    rfl
  rw [show g_need_order (.d (.int (n : Int)) :: .d (.list ds) :: tl) = .ex 4 (.d (.int (n : Int)) :: .d (.list ds) :: tl) from seq_ex (if_t (bOr_f t q) rfl)]
  rfl
theorem order_int {n : Nat} {ds : List D} (hp : plain (.list ds) = true) (hl : ds.length = n) (h : ∃ d ∈ ds, tyD d ≠ "int") : o_need_order [.int (n : Int), .list ds] = .ex 4 := by
  have e0 : rho0 n_need_order [.int (n : Int), .list ds] = .d (.int (n : Int)) :: .d (.list ds) :: (rho0 n_need_order [.int (n : Int), .list ds]).drop 2 := rfl
  show finD (g_need_order (rho0 n_need_order [.int (n : Int), .list ds])) = _
  generalize (rho0 n_need_order [.int (n : Int), .list ds]).drop 2 = tl at e0
  rw [e0]
  have t := tyNot_at (T := "list") (f := sVar 1) (r := .d (.int (n : Int)) :: .d (.list ds) :: tl) (x := .list ds) rfl (.inl hp)
  have q : sT (s2 oNe (sCall oLen (aCons (sVar 1) aNil)) (sVar 0)) (.d (.int (n : Int)) :: .d (.list ds) :: tl) = .ok false := by
    rw [neI_at (i := (ds.length : Int)) (j := (n : Int)) (call1_at (a := .list ds) rfl rfl) rfl, decide_eq_true (by omega)]
    rfl
  have a : sAllTy "int" (sVar 1) (.d (.int (n : Int)) :: .d (.list ds) :: tl) = .ok false := by
    show (if ds.all okTy = true then Res.ok (ds.all fun d => decide (tyD d = "int")) else .bad) = _
    have ht := tkD.list (.inl hp : tkD (.list ds))
    rw [if_pos (List.all_eq_true.mpr fun d hd => by
      unfold okTy
      rcases ht d hd with z | rfl
      · rw [z]; rfl
      · rfl)]
    obtain ⟨d, hd, hne⟩ := h
    have : (ds.all fun d => decide (tyD d = "int")) = false := by
      rw [Bool.eq_false_iff]
      intro z
      exact hne (of_decide_eq_true (List.all_eq_true.mp z d hd))
    rw [this]
  rw [show g_need_order (.d (.int (n : Int)) :: .d (.list ds) :: tl) = .ex 4 (.d (.int (n : Int)) :: .d (.list ds) :: tl) from seq_nx (if_f (bOr_f t q) rfl) (seq_ex (if_t (bNot_at (b := false) a) rfl))]
  rfl
theorem order_set {n : Nat} {l : List Int} (hn : n ≤ 1000) (hl : l.length = n) (h : ∃ i ∈ l, ¬ (0 ≤ i ∧ i < n)) : o_need_order [.int (n : Int), .list (l.map .int)] = .ex 4 := by
  have e0 : rho0 n_need_order [.int (n : Int), .list (l.map .int)] = .d (.int (n : Int)) :: .d (.list (l.map .int)) :: (rho0 n_need_order [.int (n : Int), .list (l.map .int)]).drop 2 := rfl
  show finD (g_need_order (rho0 n_need_order [.int (n : Int), .list (l.map .int)])) = _
  generalize (rho0 n_need_order [.int (n : Int), .list (l.map .int)]).drop 2 = tl at e0
  rw [e0]
  have t := ty_ints (f := sVar 1) (r := .d (.int (n : Int)) :: .d (.list (l.map .int)) :: tl) (xs := l) rfl
  have q : sT (s2 oNe (sCall oLen (aCons (sVar 1) aNil)) (sVar 0)) (.d (.int (n : Int)) :: .d (.list (l.map .int)) :: tl) = .ok false := by
    rw [neI_at (i := (l.length : Int)) (j := (n : Int)) (call1_at (a := .list (l.map .int)) rfl (by show Res.ok (PyData.int (((l.map PyData.int).length : Nat) : Int)) = _; rw [List.length_map])) rfl, decide_eq_true (by omega)]
    rfl
  have a := alltyI (f := sVar 1) (r := .d (.int (n : Int)) :: .d (.list (l.map .int)) :: tl) (xs := l) rfl
  have s : sT (s2 oNe (sCall oSort2 (aCons (sVar 1) aNil)) (sLrg (sVar 0))) (.d (.int (n : Int)) :: .d (.list (l.map .int)) :: tl) = .ok true := by
    refine sT_at (s2_at (call1_at (a := .list (l.map .int)) rfl (sort2_ints l)) (lrg_at (n := (n : Int)) rfl (by omega) (by omega)) ?_)
    rw [Int.toNat_natCast, ints_run, ne_ints, decide_eq_false]
    · rfl
    · intro e
      obtain ⟨i, hi, hb⟩ := h
      have m : i ∈ sortI l := (sortI_perm l).mem_iff.mpr hi
      rw [e] at m
      obtain ⟨k, hk, rfl⟩ := List.mem_map.mp m
      have := List.mem_range'_1.mp hk
      exact hb ⟨by omega, by omega⟩
  rw [show g_need_order (.d (.int (n : Int)) :: .d (.list (l.map .int)) :: tl) = .ex 4 (.d (.int (n : Int)) :: .d (.list (l.map .int)) :: tl) from seq_nx (if_f (bOr_f t q) rfl) (seq_nx (if_f (bNot_at (b := true) a) rfl) (if_t s rfl))]
  rfl

theorem plain_list {ds : List D} (h : ∀ d ∈ ds, plain d = true) : plain (.list ds) = true := by
  show plainL ds = true
  induction ds with
  | nil => rfl
  | cons d ds ih =>
    show (plain d && plainL ds) = true
    rw [h d List.mem_cons_self, ih fun x hx => h x (List.mem_cons_of_mem _ hx)]
    rfl
theorem plain_tuple {ds : List D} (h : ∀ d ∈ ds, plain d = true) : plain (.tuple ds) = true := plain_list h
theorem plain_gs (gs : List Gm) : plain (gsD gs) = true := (fine_gs 0 gs).pl
theorem ix_mem {ds : List D} {i : Int} (h : 0 ≤ i ∧ i < ds.length) : ∃ d ∈ ds, oIx (.list ds) (.int i) = .ok d := by
  have e : ds[i.toNat]? = some (ds[i.toNat]'(by omega)) := List.getElem?_eq_getElem _
  have a := L2.atI_nat e
  rw [show ((i.toNat : Nat) : Int) = i by omega] at a
  exact ⟨_, List.getElem_mem _, by show ofO (L2.atI ds i) = _; rw [a]; rfl⟩
def NoClub (c : Int) (x : D) : Prop := plain x = true ∧ clubB c x = false
theorem odds {c w : Int} (hc : 2 ≤ c ∧ c ≤ 20) (hw : 0 ≤ w) {x : D} (h : x ∈ [PyData.int c, .int (-1), .int (c + w), .bool true, .none, .str (PySem.Str.ofString "0"), .list [.int 0], .int (10 ^ (20 : Int).toNat)]) : NoClub c x := by
  have z : clubB c (.int (10 ^ (20 : Int).toNat)) = false := by
    show (decide (0 ≤ (10 : Int) ^ (20 : Int).toNat) && decide ((10 : Int) ^ (20 : Int).toNat < c)) = false
    have e : (10 : Int) ^ (20 : Int).toNat = 100000000000000000000 := by decide +kernel
    rw [e, decide_eq_false (show ¬ (100000000000000000000 : Int) < c by omega), Bool.and_false]
  have nn : ∀ i : Int, i < 0 ∨ c ≤ i → clubB c (.int i) = false := fun i hi => by
    show (decide (0 ≤ i) && decide (i < c)) = false
    rcases hi with hi | hi
    · rw [decide_eq_false (by omega)]; rfl
    · rw [decide_eq_false (show ¬ i < c by omega), Bool.and_false]
  simp only [List.mem_cons, List.not_mem_nil, or_false] at h
  rcases h with rfl | rfl | rfl | rfl | rfl | rfl | rfl | rfl
  · exact ⟨rfl, nn _ (.inr (by omega))⟩
  · exact ⟨rfl, nn _ (.inl (by omega))⟩
  · exact ⟨rfl, nn _ (.inr (by omega))⟩
  · exact ⟨rfl, rfl⟩
  · exact ⟨rfl, rfl⟩
  · exact ⟨rfl, rfl⟩
  · exact ⟨rfl, rfl⟩
  · exact ⟨rfl, z⟩
theorem slst1_at {f : Ev → Res D} {r : Ev} {x : D} (h : f r = .ok x) : sLst (aCons f aNil) r = .ok (.list [x]) := by
  unfold sLst aCons
  rw [h]
  rfl
theorem acons_at {f : Ev → Res D} {g : Ev → Res (List D)} {r : Ev} {x : D} {xs : List D} (h1 : f r = .ok x) (h2 : g r = .ok xs) : aCons f g r = .ok (x :: xs) := by
  unfold aCons
  rw [h1]
  show Res.bind (g r) _ = _
  rw [h2]
  rfl
theorem slst_at {f : Ev → Res (List D)} {r : Ev} {xs : List D} (h : f r = .ok xs) (hl : xs.length ≤ big) : sLst f r = .ok (.list xs) := by
  unfold sLst
  rw [h]
  exact if_pos hl
theorem sIf_t {t : Ev → Res Bool} {f g : Ev → Res D} {r : Ev} {x : Res D} (h : t r = .ok true) (h2 : f r = x) : sIf t f g r = x := by
  unfold sIf
  rw [h]
  exact h2
theorem sIf_f {t : Ev → Res Bool} {f g : Ev → Res D} {r : Ev} {x : Res D} (h : t r = .ok false) (h2 : g r = x) : sIf t f g r = x := by
  unfold sIf
  rw [h]
  exact h2
theorem cut_last (xs : List D) (x : D) : Dn.cutD (xs ++ [x]) none (some (-1)) = xs := by
  unfold Dn.cutD
  rw [HT.sIx_none]
  have e : HT.sIx (xs ++ [x]).length (xs ++ [x]).length (some (-1)) = xs.length := by
    show ((-1 : Int) + ((xs ++ [x]).length : Int)).toNat = xs.length
    rw [List.length_append]
    show ((-1 : Int) + ((xs.length + 1 : Nat) : Int)).toNat = _
    omega
  rw [e, List.drop_zero, Nat.sub_zero, List.take_left]
end K08

set_option Elab.async false
set_option linter.all false
set_option maxRecDepth 100000
set_option maxHeartbeats 8000000
namespace K08
open PySem PySem.Spec PyProof.Rows L2 Dn
variable [En]
/-! ### a season's deeds -/
theorem lst2_ok {x : Res (List (List D))} {Q : Stg} (h : x = .ok (Q.map fun gs => gs.map tup2)) : lstR2 x = .ok (rsD Q) := by rw [h]; exact lst2_rs Q
theorem many_at {c : Nat} {Rs : List Stg} : o_Season_many [ssnD c Rs] = .ok (.int ((Rs.length : Int) - 1)) := by
  have e : sStages 0 [.d (ssnD c Rs)] = .ok (.list (Rs.map stA)) := by
    show (match ssnO (ssnD c Rs) with | some (_, ds) => Res.ok (PyData.list ds) | none => .bad) = _
    rw [ssnO_ssn]
  show finD (g_Season_many [.d (ssnD c Rs)]) = _
  rw [show g_Season_many [.d (ssnD c Rs)] = .rt (.int ((Rs.length : Int) - 1)) from ret_at (sub_at (call1_at e (by
    show Res.ok (PyData.int (((Rs.map stA).length : Nat) : Int)) = _
    rw [List.length_map])) rfl)]
  rfl
theorem clubsS_at {c : Nat} {Rs : List Stg} : o_Season_clubs [ssnD c Rs] = .ok (.int (c : Int)) := by
  have e : sClubs 0 [.d (ssnD c Rs)] = .ok (.int (c : Int)) := by
    show (match ssnO (ssnD c Rs) with | some (c, _) => Res.ok (PyData.int c) | none => .bad) = _
    rw [ssnO_ssn]
  show finD (g_Season_clubs [.d (ssnD c Rs)]) = _
  rw [show g_Season_clubs [.d (ssnD c Rs)] = .rt (.int (c : Int)) from ret_at e]
  rfl
theorem roundsS_at {c : Nat} {Ss : List Stg} {S : Stg} (h : S.length ≤ 100) (h2 : ∀ gs ∈ S, gs.length ≤ 10) : o_Season_rounds [ssnD c (Ss ++ [S])] = .ok (S.map fun gs => gs.map tup2) := by
  have e : sStages 0 [.d (ssnD c (Ss ++ [S])), .no] = .ok (.list ((Ss ++ [S]).map stA)) := by
    show (match ssnO (ssnD c (Ss ++ [S])) with | some (_, ds) => Res.ok (PyData.list ds) | none => .bad) = _
    rw [ssnO_ssn]
  have e2 : s2 oIx (sStages 0) (sNeg (sC (.int 1))) [.d (ssnD c (Ss ++ [S])), .no] = .ok (rsD S) := s2_at e rfl (by
    show ofO (L2.atI ((Ss ++ [S]).map stA) (-1)) = _
    rw [List.map_append]
    show ofO (L2.atI (Ss.map stA ++ [stA S]) (-1)) = _
    rw [L2.atI_last]
    rfl)
  show finN2 (g_Season_rounds [.d (ssnD c (Ss ++ [S])), .no]) = _
  rw [show g_Season_rounds [.d (ssnD c (Ss ++ [S])), .no] = .rn2 (S.map fun gs => gs.map tup2) from retN2_at (ncomp2_at (ds := S.map gsD) (iL_at e2) (by rw [List.length_map]; unfold big; omega) (by
    exact compB_all gsD (fun gs => gs.map tup2) S fun gs hg => ⟨_, rfl, rfl⟩))]
  rfl
section
variable {a : Addr} {c : Nat} {Ss : List Stg} {S Q : Stg} {x y : D} {k : Nat}
theorem move_ok (h : o_moved [.int (c : Int), rsD S, x] = .ok (Q.map fun gs => gs.map tup2)) (hl : (Ss ++ [S]).length < big) : o_Season_move a (.ssn c (Ss ++ [S])) [.none, x] = .ok (.ssn c (Ss ++ [S] ++ [Q])) .none :=
  opM_nx (r := [.at a (.ssn c (Ss ++ [S])), .d x]) rfl (stApp_at rfl (sF3_at rfl (stLast_at rfl) rfl (lst2_ok h)) hl) rfl
theorem move_ex (h : lstR2 (o_moved [.int (c : Int), rsD S, x]) = .ex k) : o_Season_move a (.ssn c (Ss ++ [S])) [.none, x] = .ex k (.ssn c (Ss ++ [S])) :=
  opM_ex (r := [.at a (.ssn c (Ss ++ [S])), .d x]) rfl (stApp_ex rfl (sF3_at rfl (stLast_at rfl) rfl h)) rfl
theorem leave_ok (h : o_without [.int (c : Int), rsD S, x] = .ok (Q.map fun gs => gs.map tup2)) (hl : (Ss ++ [S]).length < big) : o_Season_leave a (.ssn c (Ss ++ [S])) [.none, x] = .ok (.ssn c (Ss ++ [S] ++ [Q])) .none :=
  opM_nx (r := [.at a (.ssn c (Ss ++ [S])), .d x]) rfl (stApp_at rfl (sF3_at rfl (stLast_at rfl) rfl (lst2_ok h)) hl) rfl
theorem leave_ex (h : lstR2 (o_without [.int (c : Int), rsD S, x]) = .ex k) : o_Season_leave a (.ssn c (Ss ++ [S])) [.none, x] = .ex k (.ssn c (Ss ++ [S])) :=
  opM_ex (r := [.at a (.ssn c (Ss ++ [S])), .d x]) rfl (stApp_ex rfl (sF3_at rfl (stLast_at rfl) rfl h)) rfl
theorem turn_ok (h : o_turned [.int (c : Int), rsD S, x, y] = .ok (Q.map fun gs => gs.map tup2)) (hl : (Ss ++ [S]).length < big) : o_Season_turn a (.ssn c (Ss ++ [S])) [.none, x, y] = .ok (.ssn c (Ss ++ [S] ++ [Q])) .none :=
  opM_nx (r := [.at a (.ssn c (Ss ++ [S])), .d x, .d y]) rfl (stApp_at rfl (sF4_at rfl (stLast_at rfl) rfl rfl (lst2_ok h)) hl) rfl
theorem turn_ex (h : lstR2 (o_turned [.int (c : Int), rsD S, x, y]) = .ex k) : o_Season_turn a (.ssn c (Ss ++ [S])) [.none, x, y] = .ex k (.ssn c (Ss ++ [S])) :=
  opM_ex (r := [.at a (.ssn c (Ss ++ [S])), .d x, .d y]) rfl (stApp_ex rfl (sF4_at rfl (stLast_at rfl) rfl rfl h)) rfl
theorem exch_ok (h : o_exchanged [.int (c : Int), rsD S, x, y] = .ok (Q.map fun gs => gs.map tup2)) (hl : (Ss ++ [S]).length < big) : o_Season_exchange a (.ssn c (Ss ++ [S])) [.none, x, y] = .ok (.ssn c (Ss ++ [S] ++ [Q])) .none :=
  opM_nx (r := [.at a (.ssn c (Ss ++ [S])), .d x, .d y]) rfl (stApp_at rfl (sF4_at rfl (stLast_at rfl) rfl rfl (lst2_ok h)) hl) rfl
theorem exch_ex (h : lstR2 (o_exchanged [.int (c : Int), rsD S, x, y]) = .ex k) : o_Season_exchange a (.ssn c (Ss ++ [S])) [.none, x, y] = .ex k (.ssn c (Ss ++ [S])) :=
  opM_ex (r := [.at a (.ssn c (Ss ++ [S])), .d x, .d y]) rfl (stApp_ex rfl (sF4_at rfl (stLast_at rfl) rfl rfl h)) rfl
theorem back_test {Rs : List Stg} : evT (sT (s2 oEq (sOn0 0 o_Season_many) (sC (.int 0)))) [.at a (.ssn c Rs)] = .ok (decide ((Rs.length : Int) - 1 = 0)) := by
  refine evT_at rfl ?_
  refine eqI_at (i := (Rs.length : Int) - 1) (j := 0) ?_ rfl
  show (match ssnO (ssnD c Rs) with | some _ => o_Season_many [ssnD c Rs] | none => .bad) = _
  rw [ssnO_ssn]
  exact many_at
theorem back_ex : o_Season_back a (.ssn c [S]) [.none] = .ex 6 (.ssn c [S]) :=
  opM_ex (r := [.at a (.ssn c [S])]) rfl (seq_ex (if_t (by rw [back_test]; rfl) rfl)) rfl
theorem back_ok (h : Ss ≠ []) : o_Season_back a (.ssn c (Ss ++ [S])) [.none] = .ok (.ssn c Ss) .none :=
  opM_nx (r := [.at a (.ssn c (Ss ++ [S]))]) rfl (seq_nx (if_f (by
    rw [back_test, decide_eq_false]
    have : Ss.length ≠ 0 := fun z => h (List.length_eq_zero_iff.mp z)
    rw [List.length_append]
    show ¬ ((Ss.length + 1 : Nat) : Int) - 1 = 0
    omega) rfl) (stPop_at rfl)) rfl
end
/-! ### a deed done -/
abbrev wBack : D := .str (PySem.Str.ofString "back")
abbrev wMove : D := .str (PySem.Str.ofString "move")
abbrev wLeave : D := .str (PySem.Str.ofString "leave")
abbrev wTurn : D := .str (PySem.Str.ofString "turn")
abbrev wExch : D := .str (PySem.Str.ofString "exchange")
abbrev wNoth : D := .str (PySem.Str.ofString "nothing")
abbrev wClub : D := .str (PySem.Str.ofString "club")
abbrev wOrd : D := .str (PySem.Str.ofString "order")
theorem qBackBack : oEq wBack wBack = .ok (.bool true) := by kernel_rfl
theorem qBackMove : oEq wBack wMove = .ok (.bool false) := by kernel_rfl
theorem qBackLeave : oEq wBack wLeave = .ok (.bool false) := by kernel_rfl
theorem qBackTurn : oEq wBack wTurn = .ok (.bool false) := by kernel_rfl
theorem qMoveBack : oEq wMove wBack = .ok (.bool false) := by kernel_rfl
theorem qMoveMove : oEq wMove wMove = .ok (.bool true) := by kernel_rfl
theorem qMoveLeave : oEq wMove wLeave = .ok (.bool false) := by kernel_rfl
theorem qMoveTurn : oEq wMove wTurn = .ok (.bool false) := by kernel_rfl
theorem qLeaveBack : oEq wLeave wBack = .ok (.bool false) := by kernel_rfl
theorem qLeaveMove : oEq wLeave wMove = .ok (.bool false) := by kernel_rfl
theorem qLeaveLeave : oEq wLeave wLeave = .ok (.bool true) := by kernel_rfl
theorem qLeaveTurn : oEq wLeave wTurn = .ok (.bool false) := by kernel_rfl
theorem qTurnBack : oEq wTurn wBack = .ok (.bool false) := by kernel_rfl
theorem qTurnMove : oEq wTurn wMove = .ok (.bool false) := by kernel_rfl
theorem qTurnLeave : oEq wTurn wLeave = .ok (.bool false) := by kernel_rfl
theorem qTurnTurn : oEq wTurn wTurn = .ok (.bool true) := by kernel_rfl
theorem qExchBack : oEq wExch wBack = .ok (.bool false) := by kernel_rfl
theorem qExchMove : oEq wExch wMove = .ok (.bool false) := by kernel_rfl
theorem qExchLeave : oEq wExch wLeave = .ok (.bool false) := by kernel_rfl
theorem qExchTurn : oEq wExch wTurn = .ok (.bool false) := by kernel_rfl
theorem nLeave : oNe wLeave wLeave = .ok (.bool false) := by kernel_rfl
theorem nTurn : oNe wTurn wLeave = .ok (.bool true) := by kernel_rfl
theorem nExch : oNe wExch wLeave = .ok (.bool true) := by kernel_rfl
theorem eqw {f g : Ev → Res D} {r : Ev} {a b : D} {k : Bool} (h1 : f r = .ok a) (h2 : g r = .ok b) (h : oEq a b = .ok (.bool k)) : sT (s2 oEq f g) r = .ok k := sT_at (s2_at h1 h2 h)
theorem new {f g : Ev → Res D} {r : Ev} {a b : D} {k : Bool} (h1 : f r = .ok a) (h2 : g r = .ok b) (h : oNe a b = .ok (.bool k)) : sT (s2 oNe f g) r = .ok k := sT_at (s2_at h1 h2 h)
abbrev dBody : Ev → Out := (gIf (sT (s2 oEq (sVar 2) (sC (.str (PySem.Str.ofString "back")))))
    (gSetOn 6 0 1 o_Season_back aNil)
    (gIf (sT (s2 oEq (sVar 2) (sC (.str (PySem.Str.ofString "move")))))
    (gSetOn 6 0 2 o_Season_move (aCons (sVar 3) aNil))
    (gIf (sT (s2 oEq (sVar 2) (sC (.str (PySem.Str.ofString "leave")))))
    (gSetOn 6 0 2 o_Season_leave (aCons (sVar 3) aNil))
    (gIf (sT (s2 oEq (sVar 2) (sC (.str (PySem.Str.ofString "turn")))))
    (gSetOn 6 0 3 o_Season_turn (aCons (sVar 3) (aCons (sVar 4) aNil)))
    (gSetOn 6 0 3 o_Season_exchange (aCons (sVar 3) (aCons (sVar 4) aNil)))))))
theorem word_none : o__law_word [.none] = .ok (.list []) := rfl
def wordOf (k : Nat) : D := if k = 3 then wClub else if k = 4 then wOrd else wNoth
theorem word_exc {k : Nat} (h : k = 3 ∨ k = 4 ∨ k = 6) : o__law_word [excD k] = .ok (.list [wordOf k]) := by
  rcases h with rfl | rfl | rfl <;> rfl
def setOnR (j i a : Nat) (r : Ev) : MRes → Out
  | .ok t d => .nx ((r.set i (.at a t)).set j (.d d))
  | .ex k t => .ex k (r.set i (.at a t))
  | .bad => .bad
theorem setOn_at {j i n : Nat} {o : Addr → OT → List D → MRes} {f : Ev → Res (List D)} {r : Ev} {a : Addr} {c : Nat} {Rs : List Stg} {ds : List D} {v : MRes} (h1 : r[i]? = some (.at a (.ssn c Rs))) (h2 : f r = .ok ds) (hn : ds.length + 1 = n) (h3 : o a (.ssn c Rs) (.none :: ds) = v) : gSetOn j i n o f r = setOnR j i a r v := by
  unfold gSetOn
  rw [h1]
  show thenO (f r) r _ = _
  rw [h2]
  show (if ds.length + 1 = n then (match o a (.ssn c Rs) (.none :: ds) with
    | .ok t d => Out.nx ((r.set i (.at a t)).set j (.d d))
    | .ex k t => .ex k (r.set i (.at a t))
    | .bad => .bad) else .bad) = _
  rw [if_pos hn, h3]
  cases v <;> rfl
theorem done_ok {a : Addr} {c : Nat} {Rs Rs' : List Stg} {w x y : D} (h : dBody [.at a (.ssn c Rs), .d (.tuple [w, x, y]), .d w, .d x, .d y, .d .none, .d .none, .no] = setOnR 6 0 a [.at a (.ssn c Rs), .d (.tuple [w, x, y]), .d w, .d x, .d y, .d .none, .d .none, .no] (.ok (.ssn c Rs') .none)) : o__law_done a (.ssn c Rs) [.none, .tuple [w, x, y]] = .ok (.ssn c Rs') (.list []) :=
  opM_rs (r := [.at a (.ssn c Rs), .d (.tuple [w, x, y]), .no, .no, .no, .no, .no, .no]) (r' := [.at a (.ssn c Rs'), .d (.tuple [w, x, y]), .d w, .d x, .d y, .d .none, .d .none, .no]) rfl (seq_nx (asg_at rfl rfl) (seq_nx (set_at rfl) (seq_nx (set_at rfl) (seq_nx (try_nx h) (retS_at rfl))))) rfl
theorem done_ex {a : Addr} {c k : Nat} {Rs : List Stg} {w x y : D} (hk : k = 3 ∨ k = 4 ∨ k = 6) (h : dBody [.at a (.ssn c Rs), .d (.tuple [w, x, y]), .d w, .d x, .d y, .d .none, .d .none, .no] = setOnR 6 0 a [.at a (.ssn c Rs), .d (.tuple [w, x, y]), .d w, .d x, .d y, .d .none, .d .none, .no] (.ex k (.ssn c Rs))) : o__law_done a (.ssn c Rs) [.none, .tuple [w, x, y]] = .ok (.ssn c Rs) (.list [wordOf k]) :=
  opM_rs (r := [.at a (.ssn c Rs), .d (.tuple [w, x, y]), .no, .no, .no, .no, .no, .no]) (r' := [.at a (.ssn c Rs), .d (.tuple [w, x, y]), .d w, .d x, .d y, .d (excD k), .d .none, .no]) rfl (seq_nx (asg_at rfl rfl) (seq_nx (set_at rfl) (seq_nx (set_at rfl) (seq_nx (try_ex (r' := [.at a (.ssn c Rs), .d (.tuple [w, x, y]), .d w, .d x, .d y, .d .none, .d .none, .no]) h ⟨by omega, by show 7 < 8; decide, by decide⟩) (retS_at (s2_at (sF1_at rfl (word_exc hk)) rfl rfl)))))) rfl
section
variable {a : Addr} {c : Nat} {Rs : List Stg} {x y : D} {v : MRes} {e1 e5 e6 e7 : C}
theorem body_back (h : o_Season_back a (.ssn c Rs) [.none] = v) : dBody [.at a (.ssn c Rs), e1, .d wBack, .d x, .d y, e5, e6, e7] = setOnR 6 0 a [.at a (.ssn c Rs), e1, .d wBack, .d x, .d y, e5, e6, e7] v :=
  if_t (eqw rfl rfl qBackBack) (setOn_at rfl rfl rfl h)
theorem body_move (h : o_Season_move a (.ssn c Rs) [.none, x] = v) : dBody [.at a (.ssn c Rs), e1, .d wMove, .d x, .d y, e5, e6, e7] = setOnR 6 0 a [.at a (.ssn c Rs), e1, .d wMove, .d x, .d y, e5, e6, e7] v :=
  if_f (eqw rfl rfl qMoveBack) (if_t (eqw rfl rfl qMoveMove) (setOn_at rfl rfl rfl h))
theorem body_leave (h : o_Season_leave a (.ssn c Rs) [.none, x] = v) : dBody [.at a (.ssn c Rs), e1, .d wLeave, .d x, .d y, e5, e6, e7] = setOnR 6 0 a [.at a (.ssn c Rs), e1, .d wLeave, .d x, .d y, e5, e6, e7] v :=
  if_f (eqw rfl rfl qLeaveBack) (if_f (eqw rfl rfl qLeaveMove) (if_t (eqw rfl rfl qLeaveLeave) (setOn_at rfl rfl rfl h)))
theorem body_turn (h : o_Season_turn a (.ssn c Rs) [.none, x, y] = v) : dBody [.at a (.ssn c Rs), e1, .d wTurn, .d x, .d y, e5, e6, e7] = setOnR 6 0 a [.at a (.ssn c Rs), e1, .d wTurn, .d x, .d y, e5, e6, e7] v :=
  if_f (eqw rfl rfl qTurnBack) (if_f (eqw rfl rfl qTurnMove) (if_f (eqw rfl rfl qTurnLeave) (if_t (eqw rfl rfl qTurnTurn) (setOn_at rfl rfl rfl h))))
theorem body_exch (h : o_Season_exchange a (.ssn c Rs) [.none, x, y] = v) : dBody [.at a (.ssn c Rs), e1, .d wExch, .d x, .d y, e5, e6, e7] = setOnR 6 0 a [.at a (.ssn c Rs), e1, .d wExch, .d x, .d y, e5, e6, e7] v :=
  if_f (eqw rfl rfl qExchBack) (if_f (eqw rfl rfl qExchMove) (if_f (eqw rfl rfl qExchLeave) (if_f (eqw rfl rfl qExchTurn) (setOn_at rfl rfl rfl h))))
end

end K08

set_option Elab.async false
set_option linter.all false
set_option maxRecDepth 100000
set_option maxHeartbeats 8000000
namespace K08
open PySem PySem.Spec PyProof.Rows L2 Dn
variable [En]
/-! ### what the law's own past does -/
theorem dOTs_dat (ds : List D) : dOTs (ds.map OT.dat) = some ds := by
  induction ds with
  | nil => rfl
  | cons d ds ih =>
    show (match some d, dOTs (ds.map OT.dat) with | some d, some ds => some (d :: ds) | _, _ => none) = _
    rw [ih]
theorem dOT_past (Us : List Stg) : dOT (pastT Us) = some (.list (Us.map rsD)) := by
  show (dOTs ((Us.map rsD).map OT.dat)).map PyData.list = _
  rw [dOTs_dat]
  rfl
theorem frzAt_at {i : Nat} {r : Ev} {a : Addr} {t : OT} {d : D} (h : r[i]? = some (.at a t)) (hd : dOT t = some d) : sVar i (frz r) = .ok d := by
  unfold sVar frz
  rw [List.getElem?_map, h]
  show (match (some (match dOT t with | some d => C.d d | none => .no) : Option C) with | some (.d d) => Res.ok d | _ => .bad) = _
  rw [hd]
theorem frzOt_at {i : Nat} {r : Ev} {t : OT} {d : D} (h : r[i]? = some (.ot t)) (hd : dOT t = some d) : sVar i (frz r) = .ok d := by
  unfold sVar frz
  rw [List.getElem?_map, h]
  show (match (some (match dOT t with | some d => C.d d | none => .no) : Option C) with | some (.d d) => Res.ok d | _ => .bad) = _
  rw [hd]
theorem frzD_at {i : Nat} {r : Ev} {d : D} (h : r[i]? = some (.d d)) : sVar i (frz r) = .ok d := by
  unfold sVar frz
  rw [List.getElem?_map, h]
  rfl
theorem all_false {α : Type} (xs : List α) : oAll [.list (xs.map (fun _ => .bool true) ++ [.bool false])] = .ok (.bool false) := by
  have e : blsO (xs.map (fun _ => PyData.bool true) ++ [.bool false]) = some (xs.map (fun _ => true) ++ [false]) := by
    induction xs with
    | nil => rfl
    | cons x xs ih =>
      show (blsO (xs.map (fun _ => PyData.bool true) ++ [.bool false])).map (true :: ·) = _
      rw [ih]
      rfl
  show ofO ((blsO (xs.map (fun _ => PyData.bool true) ++ [.bool false])).map fun ns => PyData.bool (ns.all id)) = _
  rw [e]
  show Res.ok (PyData.bool ((xs.map (fun _ => true) ++ [false]).all id)) = _
  rw [List.all_append]
  show Res.ok (PyData.bool (_ && false)) = _
  rw [Bool.and_false]
abbrev dueR (a : Addr) (c : Int) (Us : List Stg) (R : Stg) (w x y : D) : Ev := [.d (.int c), .at a (pastT (Us ++ [R])), .d (.tuple [w, x, y]), .d w, .d x, .d y, .d (rsD R), .no, .no, .no, .no, .no, .no, .no, .no]
abbrev duG : Ev → Out := (gSeq (gIf (sT (s2 oEq (sVar 3) (sC (.str (PySem.Str.ofString "back")))))
    (gSeq (gIf (evT (sT (s2 oEq (sCall oLen (aCons (sVar 1) aNil)) (sC (.int 1)))))
    (gRetS (sLst (aCons (sC (.str (PySem.Str.ofString "nothing"))) aNil)))
    Dn.gNil)
    (gSeq (gAtPop 1)
    (gRetS (sLst aNil))))
    Dn.gNil)
    (gSeq (gIf (sT (s2 oEq (sVar 3) (sC (.str (PySem.Str.ofString "move")))))
    (gSeq (gIf (bOr (bNot (sTru (sIsi "list" (sVar 4)))) (bNot (sTru (sCall oAll (aCons (fun ρ => lstR ((nComp (iL (sVar 4)) (bName 7) bYes (sF 1 o__law_whole (aCons (sVar 7) aNil)) [7]) ρ)) aNil)))))
    (gRetS (sLst (aCons (sC (.str (PySem.Str.ofString "order"))) aNil)))
    Dn.gNil)
    (gSeq (gIf (sT (s2 oNe (sCall oSort2 (aCons (sVar 4) aNil)) (sLrg (sCall oLen (aCons (sVar 6) aNil)))))
    (gRetS (sLst (aCons (sC (.str (PySem.Str.ofString "order"))) aNil)))
    Dn.gNil)
    (gSeq (gAtApp 1 (fun ρ => lstR ((nComp (iL (sVar 4)) (bName 7) bYes (s2 oIx (sVar 6) (sVar 7)) [7]) ρ)))
    (gRetS (sLst aNil)))))
    Dn.gNil)
    (gSeq (gSet 8 (fun ρ => lstR (nComp (iT (sTup (aCons (sVar 4) (aCons (sVar 5) aNil)))) (bName 9) bYes (vAnd (sF 1 o__law_whole (aCons (sVar 9) aNil)) (sCh oLe oLt (sC (.int 0)) (sVar 9) (sVar 0))) [9] ρ)))
    (gSeq (gIf (bOr (bNot (sTru (s2 oIx (sVar 8) (sC (.int 0))))) (bAnd (sT (s2 oNe (sVar 3) (sC (.str (PySem.Str.ofString "leave"))))) (bOr (bNot (sTru (s2 oIx (sVar 8) (sC (.int 1))))) (sT (s2 oEq (sVar 4) (sVar 5))))))
    (gRetS (sLst (aCons (sC (.str (PySem.Str.ofString "club"))) aNil)))
    Dn.gNil)
    (gSeq (gIf (sT (s2 oEq (sVar 3) (sC (.str (PySem.Str.ofString "leave")))))
    (gAtApp 1 (fun ρ => lstR ((nComp (iL (sVar 6)) (bName 11) bYes (fun ρ => lstR ((nComp (iL (sVar 11)) (bName 10) (sT (s2 (oIn true) (sVar 4) (sVar 10))) (sVar 10) [10]) ρ)) [11]) ρ)))
    (gIf (sT (s2 oEq (sVar 3) (sC (.str (PySem.Str.ofString "turn")))))
    (gAtApp 1 (fun ρ => lstR ((nComp (iL (sVar 6)) (bName 11) bYes (fun ρ => lstR ((nComp (iL (sVar 11)) (bName 10) bYes (sF 2 o__law_turned (aCons (sVar 10) (aCons (sTup (aCons (sVar 4) (aCons (sVar 5) aNil))) aNil))) [10]) ρ)) [11]) ρ)))
    (gSeq (gDisp2 12 (sVar 4) (sVar 5) (sVar 5) (sVar 4))
    (gAtApp 1 (fun ρ => lstR ((nComp (iL (sVar 6)) (bName 11) bYes (fun ρ => lstR ((nComp (iL (sVar 11)) (bTup (bCons (bName 13) (bCons (bName 14) bNil)) 2) bYes (sTup (aCons (sGet2 12 (sVar 13) (sVar 13)) (aCons (sGet2 12 (sVar 14) (sVar 14)) aNil))) [13, 14]) ρ)) [11]) ρ))))))
    (gRetS (sLst aNil)))))))
theorem due_rs {a : Addr} {c : Int} {Us : List Stg} {R : Stg} {w x y d : D} {r' : Ev} {t' : OT} (h : duG (dueR a c Us R w x y) = .rs d r') (h2 : r'[1]? = some (.at a t')) : o__law_due a (pastT (Us ++ [R])) [.int c, .none, .tuple [w, x, y]] = .ok t' d :=
  opM_rs (r := [.d (.int c), .at a (pastT (Us ++ [R])), .d (.tuple [w, x, y]), .no, .no, .no, .no, .no, .no, .no, .no, .no, .no, .no, .no]) rfl (seq_nx (asg_at rfl rfl) (seq_nx (set_at (atLast_at (Us := Us) (R := R) rfl)) h)) h2
section
variable {a : Addr} {c : Int} {Us : List Stg} {R : Stg} {x y : D}
theorem one_test {w : D} : evT (sT (s2 oEq (sCall oLen (aCons (sVar 1) aNil)) (sC (.int 1)))) (dueR a c Us R w x y) = .ok (decide (((Us ++ [R]).length : Int) = 1)) :=
  evT_at rfl (eqI_at (i := ((Us ++ [R]).length : Int)) (j := 1) (call1_at (frzAt_at (i := 1) rfl (dOT_past _)) (by
    show Res.ok (PyData.int ((((Us ++ [R]).map rsD).length : Nat) : Int)) = _
    rw [List.length_map])) rfl)
theorem due_back1 : o__law_due a (pastT [R]) [.int c, .none, .tuple [wBack, x, y]] = .ok (pastT [R]) (.list [wNoth]) :=
  due_rs (Us := []) (seq_rs (if_t (eqw rfl rfl qBackBack) (seq_rs (if_t (one_test.trans rfl) (retS_at rfl))))) rfl
theorem due_back2 (h : Us ≠ []) : o__law_due a (pastT (Us ++ [R])) [.int c, .none, .tuple [wBack, x, y]] = .ok (pastT Us) (.list []) :=
  due_rs (seq_rs (if_t (eqw rfl rfl qBackBack) (seq_nx (if_f (one_test.trans (by
    rw [decide_eq_false]
    have : Us.length ≠ 0 := fun z => h (List.length_eq_zero_iff.mp z)
    rw [List.length_append]
    show ¬ ((Us.length + 1 : Nat) : Int) = 1
    omega)) rfl) (seq_nx (atPop_at (Us := Us) (R := R) rfl) (retS_at rfl))))) rfl
theorem due_move_no (h : oIsi "list" x = .ok (.bool false)) : o__law_due a (pastT (Us ++ [R])) [.int c, .none, .tuple [wMove, x, y]] = .ok (pastT (Us ++ [R])) (.list [wOrd]) :=
  due_rs (seq_nx (if_f (eqw rfl rfl qMoveBack) rfl) (seq_rs (if_t (eqw rfl rfl qMoveMove) (seq_rs (if_t (bOr_t (bNot_at (b := false) (sTru_at h))) (retS_at rfl)))))) rfl
theorem due_move_true {ks : List Int} (hl : ks.length ≤ 1000) : o__law_due a (pastT (Us ++ [R])) [.int c, .none, .tuple [wMove, .list (ks.map .int ++ [.bool true]), y]] = .ok (pastT (Us ++ [R])) (.list [wOrd]) := by
  have f : Fine 1 (.list (ks.map PyData.int ++ [.bool true])) := fine_list fun d hd => by
    rcases List.mem_append.mp hd with hd | hd
    · obtain ⟨i, _, rfl⟩ := List.mem_map.mp hd
      exact fine_int 0 i
    · rw [List.mem_singleton.mp hd]
      exact fine_bool 0 true
  refine due_rs (seq_nx (if_f (eqw rfl rfl qMoveBack) rfl) (seq_rs (if_t (eqw rfl rfl qMoveMove) (seq_rs (if_t (bOr_f (bNot_at (b := true) (sTru_at (isl_at f))) (bNot_at (b := false) (sTru_at (call1_at (a := .list (ks.map (fun _ => .bool true) ++ [.bool false])) ?_ (all_false ks))))) (retS_at rfl)))))) rfl
  show lstR (nComp _ _ _ _ _ _) = _
  let W : List (Option Int) := ks.map some ++ [none]
  let enc : Option Int → D := fun o => match o with | some i => .int i | none => .bool true
  have eW : ks.map PyData.int ++ [.bool true] = W.map enc := by
    show _ = (ks.map some ++ [none]).map enc
    rw [List.map_append, List.map_map]
    rfl
  have eV : ks.map (fun _ => PyData.bool true) ++ [.bool false] = W.map fun o => .bool o.isSome := by
    show _ = (ks.map some ++ [none]).map _
    rw [List.map_append, List.map_map]
    rfl
  rw [ncomp_at (ds := W.map enc) (es := W.map fun o => .bool o.isSome) (by rw [← eW]; rfl) (by rw [List.length_map]; show (ks.map some ++ [none]).length ≤ _; rw [List.length_append, List.length_map]; show _ + 1 ≤ _; unfold big; omega) (comp_all enc (fun o => .bool o.isSome) W fun o _ => ⟨_, rfl, by cases o <;> rfl⟩), ← eV]
  rfl
theorem all_whole (l : List Int) (hl : l.length ≤ 1000) {w : D} : sTru (sCall oAll (aCons (fun ρ => lstR ((nComp (iL (sVar 4)) (bName 7) bYes (sF 1 o__law_whole (aCons (sVar 7) aNil)) [7]) ρ)) aNil)) (dueR a c Us R w (.list (l.map .int)) y) = .ok true := by
  refine sTru_at (call1_at (a := .list (l.map fun _ => .bool true)) ?_ (all_true l))
  show lstR (nComp _ _ _ _ _ _) = _
  rw [ncomp_at (ds := l.map .int) (es := l.map fun _ => .bool true) rfl (by rw [List.length_map]; unfold big; omega) (comp_all PyData.int (fun _ => .bool true) l fun i _ => ⟨_, rfl, rfl⟩)]
  rfl
theorem sort_test {l : List Int} (hR : R.length ≤ 100) {w : D} : sT (s2 oNe (sCall oSort2 (aCons (sVar 4) aNil)) (sLrg (sCall oLen (aCons (sVar 6) aNil)))) (dueR a c Us R w (.list (l.map .int)) y) = .ok (!decide (sortI l = (List.range' 0 R.length).map fun i : Nat => (i : Int))) := by
  refine sT_at (s2_at (call1_at (a := .list (l.map .int)) rfl (sort2_ints l)) (lrg_at (n := (R.length : Int)) (call1_at (a := rsD R) rfl (by
    show Res.ok (PyData.int (((R.map gsD).length : Nat) : Int)) = _
    rw [List.length_map])) (by omega) (by omega)) ?_)
  rw [Int.toNat_natCast, ints_run]
  exact ne_ints _ _
theorem due_move_bad {l : List Int} (hR : R.length ≤ 100) (hl : l.length ≤ 1000) (h : sortI l ≠ (List.range' 0 R.length).map fun i : Nat => (i : Int)) : o__law_due a (pastT (Us ++ [R])) [.int c, .none, .tuple [wMove, .list (l.map .int), y]] = .ok (pastT (Us ++ [R])) (.list [wOrd]) :=
  due_rs (seq_nx (if_f (eqw rfl rfl qMoveBack) rfl) (seq_rs (if_t (eqw rfl rfl qMoveMove) (seq_nx (if_f (bOr_f (bNot_at (b := true) (sTru_at (isl_at (fine_ints 0 l)))) (bNot_at (b := true) (all_whole l hl))) rfl) (seq_rs (if_t (by rw [sort_test hR, decide_eq_false h]; rfl) (retS_at rfl))))))) rfl
theorem due_move_ok {l : List Int} (hR : R.length ≤ 100) (p : l.Perm ((List.range' 0 R.length).map fun i : Nat => (i : Int))) (hU : (Us ++ [R]).length < big) : o__law_due a (pastT (Us ++ [R])) [.int c, .none, .tuple [wMove, .list (l.map .int), y]] = .ok (pastT (Us ++ [R] ++ [picked R l])) (.list []) := by
  have hl : l.length = R.length := by rw [p.length_eq, List.length_map, List.length_range']
  refine due_rs (seq_nx (if_f (eqw rfl rfl qMoveBack) rfl) (seq_rs (if_t (eqw rfl rfl qMoveMove) (seq_nx (if_f (bOr_f (bNot_at (b := true) (sTru_at (isl_at (fine_ints 0 l)))) (bNot_at (b := true) (all_whole l (by omega)))) rfl) (seq_nx (if_f (by rw [sort_test hR, decide_eq_true (sortI_of p)]; rfl) rfl) (seq_nx (atApp_at (Us := Us ++ [R]) (Q := picked R l) rfl ?_ hU) (retS_at rfl))))))) rfl
  show lstR (nComp _ _ _ _ _ _) = _
  rw [ncomp_at (ds := l.map .int) (es := (picked R l).map gsD) rfl (by rw [List.length_map]; unfold big; omega) (by
    unfold picked
    rw [List.map_map]
    refine comp_all PyData.int (fun i => gsD (R.getD i.toNat [])) l fun i hi => ⟨_, rfl, ?_⟩
    obtain ⟨n, hn, en⟩ := List.mem_map.mp (p.mem_iff.mp hi)
    have hn2 := List.mem_range'_1.mp hn
    have e1 : R[n]? = some R[n] := List.getElem?_eq_getElem (by omega)
    show ofO (L2.atI (R.map gsD) i) = _
    rw [← en, atI_map_nat e1, List.getD_eq_getElem?_getD, Int.toNat_natCast, e1]
    rfl)]
  rfl
end

end K08

set_option Elab.async false
set_option linter.all false
set_option maxRecDepth 100000
set_option maxHeartbeats 8000000
namespace K08
open PySem PySem.Spec PyProof.Rows L2 Dn
variable [En]
/-! ### what is a club -/
/-- what a deed may be handed for a club -/
def Any1 (x : D) : Prop := (∃ i : Int, x = .int i) ∨ x = .bool true ∨ x = .none ∨ x = .str (PySem.Str.ofString "0") ∨ x = .list [.int 0]
theorem Any1.tk {x : D} (h : Any1 x) : tkD x := by
  rcases h with ⟨i, rfl⟩ | rfl | rfl | rfl | rfl <;> exact .inl rfl
theorem any_val {c : Int} {x : D} (h : Any1 x) {r : Ev} (h9 : sVar 9 r = .ok x) (h0 : sVar 0 r = .ok (.int c)) : vAnd (sF 1 o__law_whole (aCons (sVar 9) aNil)) (sCh oLe oLt (sC (.int 0)) (sVar 9) (sVar 0)) r = .ok (.bool (clubB c x)) := by
  have w : ∀ v : Res D, o__law_whole [x] = v → vAnd (sF 1 o__law_whole (aCons (sVar 9) aNil)) (sCh oLe oLt (sC (.int 0)) (sVar 9) (sVar 0)) r = v.bind fun x => (asB x).bind fun c => if c = true then sCh oLe oLt (sC (.int 0)) (sVar 9) (sVar 0) r else .ok (.bool false) := fun v hv => by
    unfold vAnd
    rw [sF1_at h9 hv]
  rcases h with ⟨i, rfl⟩ | rfl | rfl | rfl | rfl
  · rw [w (.ok (.bool true)) rfl]
    show sCh oLe oLt (sC (.int 0)) (sVar 9) (sVar 0) r = _
    unfold sCh
    rw [h9, h0]
    show ((Res.ok (PyData.bool (decide (0 ≤ i)))).bind fun z => (asB z).bind fun k => if k = true then Res.ok (PyData.bool (decide (i < c))) else .ok (.bool false)) = Res.ok (PyData.bool (decide (0 ≤ i) && decide (i < c)))
    by_cases e : 0 ≤ i
    · rw [decide_eq_true e]; rfl
    · rw [decide_eq_false e]; rfl
  · rw [w (.ok (.bool false)) rfl]; rfl
  · rw [w (.ok (.bool false)) rfl]; rfl
  · rw [w (.ok (.bool false)) rfl]; rfl
  · rw [w (.ok (.bool false)) rfl]; rfl
/-- the row behind the test of clubs -/
abbrev goodR8 (a : Addr) (c : Int) (Us : List Stg) (R : Stg) (w x y : D) : Ev := [.d (.int c), .at a (pastT (Us ++ [R])), .d (.tuple [w, x, y]), .d w, .d x, .d y, .d (rsD R), .no, .d (.list [.bool (clubB c x), .bool (clubB c y)]), .no, .no, .no, .no, .no, .no]
theorem outer_at {f : List Gm → List Gm} {inner : Ev → Res D} {R : Stg} (hl : R.length ≤ 100) {e0 e1 e2 e3 e4 e5 e7 e8 e9 e10 e11 e12 e13 e14 : C} (h : ∀ gs ∈ R, inner [e0, e1, e2, e3, e4, e5, .d (rsD R), e7, e8, e9, e10, .d (gsD gs), e12, e13, e14] = .ok (gsD (f gs))) :
    (fun ρ => lstR ((nComp (iL (sVar 6)) (bName 11) bYes inner [11]) ρ)) [e0, e1, e2, e3, e4, e5, .d (rsD R), e7, e8, e9, e10, e11, e12, e13, e14] = .ok (rsD (R.map f)) := by
  show lstR (nComp _ _ _ _ _ _) = _
  rw [ncomp_at (ds := R.map gsD) (es := (R.map f).map gsD) rfl (by rw [List.length_map]; unfold big; omega) (by
    rw [List.map_map]
    exact comp_all gsD (fun gs => gsD (f gs)) R fun gs hg => ⟨_, rfl, h gs hg⟩)]
  rfl
theorem lawturn_at (g : Gm) {a b : Int} (hg : g.1 ≠ g.2) (hab : a ≠ b) : o__law_turned [tup2 g, .tuple [.int a, .int b]] = .ok (tup2 (turnG a b g)) := by
  have k1 : oIn false (.int g.1) (.tuple [.int a, .int b]) = .ok (.bool (decide (g.1 = a ∨ g.1 = b))) := in_pair g.1 (a, b)
  have k2 : oIn false (.int g.2) (.tuple [.int a, .int b]) = .ok (.bool (decide (g.2 = a ∨ g.2 = b))) := in_pair g.2 (a, b)
  show finD (g__law_turned [.d (tup2 g), .d (.tuple [.int a, .int b])]) = _
  rw [show g__law_turned [.d (tup2 g), .d (.tuple [.int a, .int b])] = .rt (tup2 (turnG a b g)) from ret_at (by
    show ((((oIn false (.int g.1) (.tuple [.int a, .int b])).bind asB).bind fun q => if q = true then ((oIn false (.int g.2) (.tuple [.int a, .int b])).bind asB) else .ok false)).bind (fun q => if q = true then Res.ok (tup2 (rv g)) else Res.ok (tup2 g)) = _
    rw [k1, k2]
    unfold turnG
    by_cases h1 : g.1 = a ∨ g.1 = b
    · by_cases h2 : g.2 = a ∨ g.2 = b
      · rw [decide_eq_true h1, decide_eq_true h2, if_pos (by omega)]; rfl
      · rw [decide_eq_true h1, decide_eq_false h2, if_neg (by omega)]; rfl
    · rw [decide_eq_false h1, if_neg (by omega)]; rfl)]
  rfl
theorem names_at {a b : Int} (h : a ≠ b) : mergeD [] [((Sum.inl a : Key), PyData.int b), (Sum.inl b, PyData.int a)] = [(Sum.inl a, PyData.int b), (Sum.inl b, PyData.int a)] := by
  have hk : (Sum.inl a : Key) ≠ Sum.inl b := fun z => h (Sum.inl.inj z)
  show putD [((Sum.inl a : Key), PyData.int b)] (Sum.inl b) (PyData.int a) = _
  unfold putD
  rw [List.any_cons, decide_eq_false hk]
  rfl
theorem name_at (a b x : Int) : (valD [((Sum.inl a : Key), PyData.int b), (Sum.inl b, PyData.int a)] (Sum.inl x)).getD (.int x) = .int (swapC a b x) := by
  unfold valD swapC
  by_cases h1 : x = a
  · rw [if_pos h1, List.find?_cons, decide_eq_true (by rw [h1])]
    rfl
  · rw [if_neg h1, List.find?_cons, decide_eq_false (fun z => h1 (Sum.inl.inj z).symm)]
    by_cases h2 : x = b
    · rw [if_pos h2, List.find?_cons, decide_eq_true (by rw [h2])]
      rfl
    · rw [if_neg h2, List.find?_cons, decide_eq_false (fun z => h2 (Sum.inl.inj z).symm)]
      rfl
section
variable {a : Addr} {c : Int} {Us : List Stg} {R : Stg} {x y : D}
theorem good_set {w : D} (hx : Any1 x) (hy : Any1 y) : gSet 8 (fun ρ => lstR (nComp (iT (sTup (aCons (sVar 4) (aCons (sVar 5) aNil)))) (bName 9) bYes (vAnd (sF 1 o__law_whole (aCons (sVar 9) aNil)) (sCh oLe oLt (sC (.int 0)) (sVar 9) (sVar 0))) [9] ρ)) (dueR a c Us R w x y) = .nx (goodR8 a c Us R w x y) := by
  refine set_at (d := .list [.bool (clubB c x), .bool (clubB c y)]) ?_
  show lstR (nComp _ _ _ _ _ _) = _
  rw [ncomp_at (ds := [x, y].map id) (es := [x, y].map fun z => .bool (clubB c z)) rfl (by show 2 ≤ _; unfold big; omega) (comp_all id (fun z => PyData.bool (clubB c z)) [x, y] fun z hz => ⟨_, rfl, by
    simp only [List.mem_cons, List.not_mem_nil, or_false] at hz
    rcases hz with rfl | rfl
    · exact any_val hx rfl rfl
    · exact any_val hy rfl rfl⟩)]
  rfl
theorem due_club {w : D} (hw : w = wTurn ∨ w = wExch ∨ w = wLeave) (hx : Any1 x) (hy : Any1 y) (h : clubB c x = false ∨ (w ≠ wLeave ∧ clubB c x = true ∧ (clubB c y = false ∨ y = x))) (hl : w = wLeave → clubB c x = false) : o__law_due a (pastT (Us ++ [R])) [.int c, .none, .tuple [w, x, y]] = .ok (pastT (Us ++ [R])) (.list [wClub]) := by
  have nb : sT (s2 oEq (sVar 3) (sC wBack)) (dueR a c Us R w x y) = .ok false := by
    rcases hw with rfl | rfl | rfl
    · exact eqw rfl rfl qTurnBack
    · exact eqw rfl rfl qExchBack
    · exact eqw rfl rfl qLeaveBack
  have nm : sT (s2 oEq (sVar 3) (sC wMove)) (dueR a c Us R w x y) = .ok false := by
    rcases hw with rfl | rfl | rfl
    · exact eqw rfl rfl qTurnMove
    · exact eqw rfl rfl qExchMove
    · exact eqw rfl rfl qLeaveMove
  refine due_rs (seq_nx (if_f nb rfl) (seq_nx (if_f nm rfl) (seq_nx (good_set hx hy) (seq_rs (if_t ?_ (retS_at rfl)))))) rfl
  have g0 : bNot (sTru (s2 oIx (sVar 8) (sC (.int 0)))) (goodR8 a c Us R w x y) = .ok (!clubB c x) := bNot_at (sTru_at rfl)
  have g1 : bNot (sTru (s2 oIx (sVar 8) (sC (.int 1)))) (goodR8 a c Us R w x y) = .ok (!clubB c y) := bNot_at (sTru_at rfl)
  rcases h with h | ⟨hl', h, h2⟩
  · rw [h] at g0
    exact bOr_t g0
  · rw [h] at g0
    have nl : sT (s2 oNe (sVar 3) (sC wLeave)) (goodR8 a c Us R w x y) = .ok true := by
      rcases hw with rfl | rfl | rfl
      · exact new rfl rfl nTurn
      · exact new rfl rfl nExch
      · exact absurd rfl hl'
    refine bOr_f g0 (bAnd_t nl ?_)
    rcases h2 with h2 | rfl
    · rw [h2] at g1
      exact bOr_t g1
    · rw [h] at g1
      obtain ⟨i, rfl, _, _⟩ := clubB_int h
      exact bOr_f g1 ((eqI_at rfl rfl).trans (by rw [decide_eq_true rfl]))
theorem two_test {w : D} {p q : Int} (hp : 0 ≤ p ∧ p < c) (hq : 0 ≤ q ∧ q < c) (h : p ≠ q) (hw : w = wTurn ∨ w = wExch) : bOr (bNot (sTru (s2 oIx (sVar 8) (sC (.int 0))))) (bAnd (sT (s2 oNe (sVar 3) (sC wLeave))) (bOr (bNot (sTru (s2 oIx (sVar 8) (sC (.int 1))))) (sT (s2 oEq (sVar 4) (sVar 5))))) (goodR8 a c Us R w (.int p) (.int q)) = .ok false := by
  have g0 : bNot (sTru (s2 oIx (sVar 8) (sC (.int 0)))) (goodR8 a c Us R w (.int p) (.int q)) = .ok (!clubB c (.int p)) := bNot_at (sTru_at rfl)
  have g1 : bNot (sTru (s2 oIx (sVar 8) (sC (.int 1)))) (goodR8 a c Us R w (.int p) (.int q)) = .ok (!clubB c (.int q)) := bNot_at (sTru_at rfl)
  rw [clubB_of hp] at g0
  rw [clubB_of hq] at g1
  have nl : sT (s2 oNe (sVar 3) (sC wLeave)) (goodR8 a c Us R w (.int p) (.int q)) = .ok true := by
    rcases hw with rfl | rfl
    · exact new rfl rfl nTurn
    · exact new rfl rfl nExch
  exact bOr_f g0 (bAnd_t nl (bOr_f g1 ((eqI_at (i := p) (j := q) rfl rfl).trans (by rw [decide_eq_false h]))))
theorem due_turn_ok {p q : Int} (hp : 0 ≤ p ∧ p < c) (hq : 0 ≤ q ∧ q < c) (h : p ≠ q) (G : GoodRs c R) (hU : (Us ++ [R]).length < big) : o__law_due a (pastT (Us ++ [R])) [.int c, .none, .tuple [wTurn, .int p, .int q]] = .ok (pastT (Us ++ [R] ++ [R.map fun gs => gs.map (turnG p q)])) (.list []) := by
  have hf := G.few
  refine due_rs (seq_nx (if_f (eqw rfl rfl qTurnBack) rfl) (seq_nx (if_f (eqw rfl rfl qTurnMove) rfl) (seq_nx (good_set (.inl ⟨_, rfl⟩) (.inl ⟨_, rfl⟩)) (seq_nx (if_f (two_test hp hq h (.inl rfl)) rfl) (seq_nx (if_f (eqw rfl rfl qTurnLeave) (if_t (eqw rfl rfl qTurnTurn) (atApp_at (Us := Us ++ [R]) (Q := R.map fun gs => gs.map (turnG p q)) rfl ?_ hU))) (retS_at rfl)))))) rfl
  refine outer_at (by omega) fun gs hg => ?_
  have h10 := (G.all gs hg).few
  show lstR (nComp _ _ _ _ _ _) = _
  rw [ncomp_at (ds := gs.map tup2) (es := (gs.map (turnG p q)).map tup2) rfl (by rw [List.length_map]; unfold big; omega) (by
    rw [List.map_map]
    exact comp_all tup2 (fun g => tup2 (turnG p q g)) gs fun g hgg => ⟨_, rfl, sF2_at rfl rfl (lawturn_at g ((G.all gs hg).game g hgg).2.2 h)⟩)]
  rfl
theorem due_exch_ok {p q : Int} (hp : 0 ≤ p ∧ p < c) (hq : 0 ≤ q ∧ q < c) (h : p ≠ q) (G : GoodRs c R) (hU : (Us ++ [R]).length < big) : o__law_due a (pastT (Us ++ [R])) [.int c, .none, .tuple [wExch, .int p, .int q]] = .ok (pastT (Us ++ [R] ++ [R.map fun gs => gs.map fun g => (swapC p q g.1, swapC p q g.2)])) (.list []) := by
  have hf := G.few
  refine due_rs (seq_nx (if_f (eqw rfl rfl qExchBack) rfl) (seq_nx (if_f (eqw rfl rfl qExchMove) rfl) (seq_nx (good_set (.inl ⟨_, rfl⟩) (.inl ⟨_, rfl⟩)) (seq_nx (if_f (two_test hp hq h (.inr rfl)) rfl) (seq_nx (if_f (eqw rfl rfl qExchLeave) (if_f (eqw rfl rfl qExchTurn) (seq_nx (r' := [.d (.int c), .at a (pastT (Us ++ [R])), .d (.tuple [wExch, .int p, .int q]), .d wExch, .d (.int p), .d (.int q), .d (rsD R), .no, .d (.list [.bool (clubB c (.int p)), .bool (clubB c (.int q))]), .no, .no, .no, .dk [(Sum.inl p, PyData.int q), (Sum.inl q, PyData.int p)], .no, .no]) ?_ (atApp_at (Us := Us ++ [R]) (Q := R.map fun gs => gs.map fun g => (swapC p q g.1, swapC p q g.2)) rfl ?_ hU)))) (retS_at rfl)))))) rfl
  · show Out.nx [.d (.int c), .at a (pastT (Us ++ [R])), .d (.tuple [wExch, .int p, .int q]), .d wExch, .d (.int p), .d (.int q), .d (rsD R), .no, .d (.list [.bool (clubB c (.int p)), .bool (clubB c (.int q))]), .no, .no, .no, .dk (mergeD [] [((Sum.inl p : Key), PyData.int q), (Sum.inl q, PyData.int p)]), .no, .no] = _
    rw [names_at h]
  · refine outer_at (by omega) fun gs hg => ?_
    have h10 := (G.all gs hg).few
    show lstR (nComp _ _ _ _ _ _) = _
    rw [ncomp_at (ds := gs.map tup2) (es := (gs.map fun g => (swapC p q g.1, swapC p q g.2)).map tup2) rfl (by rw [List.length_map]; unfold big; omega) (by
      rw [List.map_map]
      refine comp_all tup2 (fun g => tup2 (swapC p q g.1, swapC p q g.2)) gs fun g hgg => ⟨_, rfl, ?_⟩
      show ((Res.ok ((valD [((Sum.inl p : Key), PyData.int q), (Sum.inl q, PyData.int p)] (Sum.inl g.1)).getD (.int g.1))).bind fun x => ((Res.ok ((valD [((Sum.inl p : Key), PyData.int q), (Sum.inl q, PyData.int p)] (Sum.inl g.2)).getD (.int g.2))).bind fun y => Res.ok [y]).bind fun xs => Res.ok (x :: xs)).bind (fun xs => if xs.length ≤ big then Res.ok (PyData.tuple xs) else Res.bad) = _
      rw [name_at, name_at]
      rfl)]
    rfl
theorem due_leave_ok {p : Int} (hp : 0 ≤ p ∧ p < c) (hy : Any1 y) (G : GoodRs c R) (hU : (Us ++ [R]).length < big) : o__law_due a (pastT (Us ++ [R])) [.int c, .none, .tuple [wLeave, .int p, y]] = .ok (pastT (Us ++ [R] ++ [R.map fun gs => gs.filter (noC p)])) (.list []) := by
  have hf := G.few
  have g0 : bNot (sTru (s2 oIx (sVar 8) (sC (.int 0)))) (goodR8 a c Us R wLeave (.int p) y) = .ok (!clubB c (.int p)) := bNot_at (sTru_at rfl)
  rw [clubB_of hp] at g0
  refine due_rs (seq_nx (if_f (eqw rfl rfl qLeaveBack) rfl) (seq_nx (if_f (eqw rfl rfl qLeaveMove) rfl) (seq_nx (good_set (.inl ⟨_, rfl⟩) hy) (seq_nx (if_f (bOr_f g0 (bAnd_f (new rfl rfl nLeave))) rfl) (seq_nx (if_t (eqw rfl rfl qLeaveLeave) (atApp_at (Us := Us ++ [R]) (Q := R.map fun gs => gs.filter (noC p)) rfl ?_ hU)) (retS_at rfl)))))) rfl
  refine outer_at (by omega) fun gs hg => ?_
  have h10 := (G.all gs hg).few
  show lstR (nComp _ _ _ _ _ _) = _
  rw [ncomp_at (ds := gs.map tup2) (es := (gs.filter (noC p)).map tup2) rfl (by rw [List.length_map]; unfold big; omega) (comp_at tup2 (noC p) tup2 gs fun g _ => ⟨_, rfl, by
    show (oIn true (.int p) (tup2 g)).bind asB = _
    rw [notin_pair]
    rfl, fun _ => rfl⟩)]
  rfl
end

end K08

set_option Elab.async false
set_option linter.all false
set_option maxRecDepth 100000
set_option maxHeartbeats 8000000
namespace K08
open PySem PySem.Spec PyProof.Rows L2 Dn
variable [En]
/-! ### a deed told -/
theorem rot_perm' {m : Nat} (hm : 1 ≤ m) (s : Int) : ((List.range' 0 m).map fun j : Nat => ((j : Int) + s) % (m : Int)).Perm ((List.range' 0 m).map fun i : Nat => (i : Int)) := by
  have hp : (0 : Int) < m := by omega
  have inj : ∀ x ∈ List.range' 0 m, ∀ y ∈ List.range' 0 m, ((x : Int) + s) % (m : Int) = ((y : Int) + s) % (m : Int) → x = y := fun x hx y hy e => by
    have h1 := List.mem_range'_1.mp hx
    have h2 := List.mem_range'_1.mp hy
    have e2 := (Int.emod_add_cancel_right s).mp e
    rw [Int.emod_eq_of_lt (by omega) (by omega), Int.emod_eq_of_lt (by omega) (by omega)] at e2
    omega
  refine (List.perm_ext_iff_of_nodup (nodup_on List.nodup_range' inj) (nodup_on List.nodup_range' fun x _ y _ e => by omega)).mpr fun v => ⟨fun h => ?_, fun h => ?_⟩
  · obtain ⟨j, _, rfl⟩ := List.mem_map.mp h
    have a1 := Int.emod_nonneg ((j : Int) + s) (show (m : Int) ≠ 0 by omega)
    have a2 := Int.emod_lt_of_pos ((j : Int) + s) hp
    exact List.mem_map.mpr ⟨(((j : Int) + s) % (m : Int)).toNat, List.mem_range'_1.mpr (by omega), by omega⟩
  · obtain ⟨i, hi, rfl⟩ := List.mem_map.mp h
    have hi2 := List.mem_range'_1.mp hi
    have a1 := Int.emod_nonneg ((i : Int) - s) (show (m : Int) ≠ 0 by omega)
    have a2 := Int.emod_lt_of_pos ((i : Int) - s) hp
    refine List.mem_map.mpr ⟨(((i : Int) - s) % (m : Int)).toNat, List.mem_range'_1.mpr (by omega), ?_⟩
    rw [show (((((i : Int) - s) % (m : Int)).toNat : Nat) : Int) = ((i : Int) - s) % (m : Int) by omega]
    show (((i : Int) - s) % (m : Int) + s) % (m : Int) = _
    rw [Int.emod_add_emod, show (i : Int) - s + s = i by omega, Int.emod_eq_of_lt (by omega) (by omega)]
inductive BadOrd (m : Nat) : D → Prop
  | bi (l : List Int) (h1 : l.length ≤ 100) (h2 : l.length ≠ m ∨ (l.length = m ∧ ∃ i ∈ l, ¬ (0 ≤ i ∧ i < m))) : BadOrd m (.list (l.map .int))
  | bt (ks : List Int) (h : ks.length + 1 = m) : BadOrd m (.list (ks.map .int ++ [.bool true]))
  | bo (x : D) (h1 : tkD x) (h2 : (tyD x != "list") = true) (h3 : oIsi "list" x = .ok (.bool false)) : BadOrd m x
inductive DeedOk (m : Nat) : D → D → D → Prop
  | good (l : List Int) (p : l.Perm ((List.range' 0 m).map fun i : Nat => (i : Int))) : DeedOk m wMove (.list (l.map .int)) .none
  | bad (x : D) (h : BadOrd m x) : DeedOk m wMove x .none
  | two (w x y : D) (hw : w = wTurn ∨ w = wExch ∨ w = wBack ∨ w = wLeave) (hx : Any1 x) (hy : Any1 y) : DeedOk m w x y
theorem bad_orders {m : Nat} (hm : 1 ≤ m ∧ m ≤ 40) {l ks : List Int} {k : Int} (el : l = ks ++ [k]) (hl : l.length = m) {x : D} (h : x ∈ [PyData.list (ks.map .int), .list (l.map .int ++ (l.map .int).take 1), .list (ks.map .int ++ [.int (m : Int)]), .tuple (l.map .int), .none, .list (ks.map .int ++ [.bool true])]) : BadOrd m x := by
  have lk : ks.length + 1 = m := by rw [← hl, el, List.length_append]; rfl
  simp only [List.mem_cons, List.not_mem_nil, or_false] at h
  rcases h with rfl | rfl | rfl | rfl | rfl | rfl
  · exact .bi ks (by omega) (.inl (by omega))
  · rw [← List.map_take, ← List.map_append]
    refine .bi _ ?_ (.inl ?_)
    · rw [List.length_append, List.length_take]; omega
    · rw [List.length_append, List.length_take]; omega
  · rw [show ks.map PyData.int ++ [.int (m : Int)] = (ks ++ [(m : Int)]).map .int by rw [List.map_append]; rfl]
    exact .bi _ (by rw [List.length_append]; show _ + 1 ≤ _; omega) (.inr ⟨by rw [List.length_append]; exact lk, (m : Int), List.mem_append_right _ (List.mem_singleton.mpr rfl), by omega⟩)
  · have f : Fine 1 (.tuple (l.map PyData.int)) := fine_tuple fun d hd => by
      obtain ⟨i, _, rfl⟩ := List.mem_map.mp hd
      exact fine_int 0 i
    exact .bo _ (.inl f.pl) (by simp [tyD]) (by unfold oIsi; rw [if_pos f.pl]; rfl)
  · exact .bo _ (.inl rfl) (by simp [tyD]) rfl
  · exact .bt ks lk
theorem deed_at {c m w : Int} (hc : 2 ≤ c ∧ c ≤ 20) (hm : 1 ≤ m ∧ m ≤ 40) (hw : 0 ≤ w) : ∃ W x y, o__law_deed [.int c, .int m, .int w] = .ok (.tuple [W, x, y]) ∧ DeedOk m.toNat W x y := by
  obtain ⟨M, rfl⟩ : ∃ M : Nat, m = (M : Int) := ⟨m.toNat, by omega⟩
  rw [Int.toNat_natCast]
  obtain ⟨one, he1⟩ : ∃ one, one = w / 16 % c := ⟨_, rfl⟩
  obtain ⟨oth, he2⟩ : ∃ oth, oth = (one + 1 + w / 512 % (c - 1)) % c := ⟨_, rfl⟩
  obtain ⟨odd, ho, eo⟩ := ix_mem (ds := [PyData.int c, .int (-1), .bool true, .none, .str (PySem.Str.ofString "0"), .list [.int 0], .int (10 ^ (20 : Int).toNat), .int (c + w)]) (i := w / 64 % 8) ⟨Int.emod_nonneg _ (by decide), by show w / 64 % 8 < 8; exact Int.emod_lt_of_pos _ (by decide)⟩
  obtain ⟨W, hW, eW⟩ := ix_mem (ds := [wMove, wTurn, wTurn, wExch, wExch, wBack, wBack, wLeave]) (i := w % 8) ⟨Int.emod_nonneg _ (by decide), by show w % 8 < 8; exact Int.emod_lt_of_pos _ (by decide)⟩
  have ao : Any1 odd := by
    simp only [List.mem_cons, List.not_mem_nil, or_false] at ho
    rcases ho with rfl | rfl | rfl | rfl | rfl | rfl | rfl | rfl
    · exact .inl ⟨_, rfl⟩
    · exact .inl ⟨_, rfl⟩
    · exact .inr (.inl rfl)
    · exact .inr (.inr (.inl rfl))
    · exact .inr (.inr (.inr (.inl rfl)))
    · exact .inr (.inr (.inr (.inr rfl)))
    · exact .inl ⟨_, rfl⟩
    · exact .inl ⟨_, rfl⟩
  obtain ⟨l, hle⟩ : ∃ l, l = (List.range' 0 M).map fun j : Nat => ((j : Int) + w / 16) % (M : Int) := ⟨_, rfl⟩
  have pl : l.Perm ((List.range' 0 M).map fun i : Nat => (i : Int)) := by rw [hle]; exact rot_perm' (by omega) _
  have hl : l.length = M := by rw [pl.length_eq, List.length_map, List.length_range']
  have l0 : l ≠ [] := fun z => by rw [z] at hl; have : (0 : Nat) = M := hl; omega
  obtain ⟨ks, k, ek⟩ : ∃ ks k, l = ks ++ [k] := ⟨l.dropLast, l.getLast l0, (List.dropLast_concat_getLast l0).symm⟩
  have lk : ks.length + 1 = M := by rw [← hl, ek, List.length_append]; rfl
  have ec : Dn.cutD (l.map .int) none (some (-1)) = ks.map .int := by
    rw [ek, List.map_append]
    exact cut_last _ _
  -- the first steps
  have s1 : s2 oMod (s2 oDiv (sVar 2) (sC (.int 16))) (sVar 0) [.d (.int c), .d (.int M), .d (.int w), .no, .no, .no, .no, .no, .no, .no] = .ok (.int one) := by
    rw [he1]; exact mod_at (div_at rfl rfl (by decide) (by decide)) rfl (by omega)
  have s2' : s2 oMod (s2 oAdd (s2 oAdd (sVar 3) (sC (.int 1))) (s2 oMod (s2 oDiv (sVar 2) (sC (.int 512))) (s2 oSub (sVar 0) (sC (.int 1))))) (sVar 0) [.d (.int c), .d (.int M), .d (.int w), .d (.int one), .no, .no, .no, .no, .no, .no] = .ok (.int oth) := by
    rw [he2]; exact mod_at (add_at (add_at rfl rfl) (mod_at (div_at rfl rfl (by decide) (by decide)) (sub_at rfl rfl) (by omega))) rfl (by omega)
  have s3 : s2 oIx (sLst (aCons (sVar 0) (aCons (sNeg (sC (.int 1))) (aCons (sC (.bool true)) (aCons (sC .none) (aCons (sC (.str (PySem.Str.ofString "0"))) (aCons (sLst (aCons (sC (.int 0)) aNil)) (aCons (s2 oPow (sC (.int 10)) (sC (.int 20))) (aCons (s2 oAdd (sVar 0) (sVar 2)) aNil))))))))) (s2 oMod (s2 oDiv (sVar 2) (sC (.int 64))) (sC (.int 8))) [.d (.int c), .d (.int M), .d (.int w), .d (.int one), .d (.int oth), .no, .no, .no, .no, .no] = .ok odd :=
    s2_at (a := .list [PyData.int c, .int (-1), .bool true, .none, .str (PySem.Str.ofString "0"), .list [.int 0], .int (10 ^ (20 : Int).toNat), .int (c + w)]) (slst_at (acons_at rfl (acons_at rfl (acons_at rfl (acons_at rfl (acons_at rfl (acons_at (slst1_at rfl) (acons_at rfl (acons_at rfl rfl)))))))) (by show 8 ≤ _; unfold big; omega)) (mod_at (div_at rfl rfl (by decide) (by decide)) rfl (by decide)) eo
  have s4 : s2 oIx (sLst (aCons (sC wMove) (aCons (sC wTurn) (aCons (sC wTurn) (aCons (sC wExch) (aCons (sC wExch) (aCons (sC wBack) (aCons (sC wBack) (aCons (sC wLeave) aNil))))))))) (s2 oMod (sVar 2) (sC (.int 8))) [.d (.int c), .d (.int M), .d (.int w), .d (.int one), .d (.int oth), .d odd, .no, .no, .no, .no] = .ok W :=
    s2_at (a := .list [wMove, wTurn, wTurn, wExch, wExch, wBack, wBack, wLeave]) (slst_at (acons_at rfl (acons_at rfl (acons_at rfl (acons_at rfl (acons_at rfl (acons_at rfl (acons_at rfl (acons_at rfl rfl)))))))) (by show 8 ≤ _; unfold big; omega)) (mod_at rfl rfl (by decide)) eW
  have s5 : (fun ρ => lstR (nComp (iR rg1 (aCons (sVar 1) aNil)) (bName 8) bYes (s2 oMod (s2 oAdd (sVar 8) (s2 oDiv (sVar 2) (sC (.int 16)))) (sVar 1)) [8] ρ)) [.d (.int c), .d (.int M), .d (.int w), .d (.int one), .d (.int oth), .d odd, .d W, .no, .no, .no] = .ok (.list (l.map .int)) := by
    show lstR (nComp _ _ _ _ _ _) = _
    rw [ncomp_at (ds := runD 0 M) (es := l.map .int) (range_at (j := (M : Int)) rfl (by omega) (by omega)) (by rw [runD_length]; unfold big; omega) (by
      rw [run_len, hle, List.map_map]
      exact comp_all (fun i : Nat => PyData.int (i : Int)) _ _ fun j _ => ⟨_, rfl, mod_at (add_at rfl (div_at rfl rfl (by decide) (by decide))) rfl (by omega)⟩)]
    rfl
  -- behind the if
  have fin : ∀ (x1 y1 X : D) (e9 : C), Any1 x1 → Any1 y1 → (∃ ls : List Int, X = .list (ls.map .int) ∧ ls.Perm ((List.range' 0 M).map fun i : Nat => (i : Int))) ∨ BadOrd M X → ∃ V x y, (gSeq (gIf (sT (s2 oEq (sVar 6) (sC (.str (PySem.Str.ofString "move")))))
    (gRet (sTup (aCons (sVar 6) (aCons (sVar 7) (aCons (sC .none) aNil)))))
    Dn.gNil)
    (gSeq (gIf (bAnd (sT (s2 oEq (sVar 6) (sC (.str (PySem.Str.ofString "leave"))))) (sT (s2 oGt (s2 oMod (s2 oDiv (sVar 2) (sC (.int 32))) (sC (.int 3))) (sC (.int 0)))))
    (gSet 6 (sC (.str (PySem.Str.ofString "turn"))))
    Dn.gNil)
    (gRet (sTup (aCons (sVar 6) (aCons (sVar 3) (aCons (sVar 4) aNil))))))) [.d (.int c), .d (.int M), .d (.int w), .d x1, .d y1, .d odd, .d W, .d X, .no, e9] = .rt (.tuple [V, x, y]) ∧ DeedOk M V x y := fun x1 y1 X e9 a1 a2 hX => by
    by_cases h1 : W = wMove
    · subst h1
      refine ⟨wMove, X, .none, seq_rt (if_t (eqw rfl rfl qMoveMove) rfl), ?_⟩
      rcases hX with ⟨ls, rfl, p⟩ | hX
      · exact .good ls p
      · exact .bad X hX
    · have qm : sT (s2 oEq (sVar 6) (sC wMove)) [.d (.int c), .d (.int M), .d (.int w), .d x1, .d y1, .d odd, .d W, .d X, .no, e9] = .ok false := by
        simp only [List.mem_cons, List.not_mem_nil, or_false] at hW
        rcases hW with z | rfl | rfl | rfl | rfl | rfl | rfl | rfl
        · exact absurd z h1
        · exact eqw rfl rfl qTurnMove
        · exact eqw rfl rfl qTurnMove
        · exact eqw rfl rfl qExchMove
        · exact eqw rfl rfl qExchMove
        · exact eqw rfl rfl qBackMove
        · exact eqw rfl rfl qBackMove
        · exact eqw rfl rfl qLeaveMove
      have keep : (W = wTurn ∨ W = wExch ∨ W = wBack) → sT (s2 oEq (sVar 6) (sC wLeave)) [.d (.int c), .d (.int M), .d (.int w), .d x1, .d y1, .d odd, .d W, .d X, .no, e9] = .ok false := fun h => by
        rcases h with rfl | rfl | rfl
        · exact eqw rfl rfl qTurnLeave
        · exact eqw rfl rfl qExchLeave
        · exact eqw rfl rfl qBackLeave
      have other : (W = wTurn ∨ W = wExch ∨ W = wBack) → ∃ V x y, (gSeq (gIf (sT (s2 oEq (sVar 6) (sC (.str (PySem.Str.ofString "move")))))
    (gRet (sTup (aCons (sVar 6) (aCons (sVar 7) (aCons (sC .none) aNil)))))
    Dn.gNil)
    (gSeq (gIf (bAnd (sT (s2 oEq (sVar 6) (sC (.str (PySem.Str.ofString "leave"))))) (sT (s2 oGt (s2 oMod (s2 oDiv (sVar 2) (sC (.int 32))) (sC (.int 3))) (sC (.int 0)))))
    (gSet 6 (sC (.str (PySem.Str.ofString "turn"))))
    Dn.gNil)
    (gRet (sTup (aCons (sVar 6) (aCons (sVar 3) (aCons (sVar 4) aNil))))))) [.d (.int c), .d (.int M), .d (.int w), .d x1, .d y1, .d odd, .d W, .d X, .no, e9] = .rt (.tuple [V, x, y]) ∧ DeedOk M V x y := fun h =>
        ⟨W, x1, y1, seq_nx (if_f qm rfl) (seq_nx (if_f (bAnd_f (keep h)) rfl) rfl), .two _ _ _ (h.elim .inl fun h => h.elim (fun z => .inr (.inl z)) fun z => .inr (.inr (.inl z))) a1 a2⟩
      simp only [List.mem_cons, List.not_mem_nil, or_false] at hW
      rcases hW with z | z | z | z | z | z | z | rfl
      · exact absurd z h1
      · exact other (.inl z)
      · exact other (.inl z)
      · exact other (.inr (.inl z))
      · exact other (.inr (.inl z))
      · exact other (.inr (.inr z))
      · exact other (.inr (.inr z))
      · have gt : sT (s2 oGt (s2 oMod (s2 oDiv (sVar 2) (sC (.int 32))) (sC (.int 3))) (sC (.int 0))) [.d (.int c), .d (.int M), .d (.int w), .d x1, .d y1, .d odd, .d wLeave, .d X, .no, e9] = .ok (decide (w / 32 % 3 > 0)) :=
          sT_at (s2_at (mod_at (div_at rfl rfl (by decide) (by decide)) rfl (by decide)) rfl rfl)
        by_cases h2 : w / 32 % 3 > 0
        · rw [decide_eq_true h2] at gt
          exact ⟨wTurn, x1, y1, seq_nx (if_f qm rfl) (seq_nx (if_t (bAnd_t (eqw rfl rfl qLeaveLeave) gt) rfl) rfl), .two _ _ _ (.inl rfl) a1 a2⟩
        · rw [decide_eq_false h2] at gt
          exact ⟨wLeave, x1, y1, seq_nx (if_f qm rfl) (seq_nx (if_f (bAnd_t (eqw rfl rfl qLeaveLeave) gt) rfl) rfl), .two _ _ _ (.inr (.inr (.inr rfl))) a1 a2⟩
  have t : sT (s2 oEq (s2 oMod (s2 oDiv (sVar 2) (sC (.int 8))) (sC (.int 6))) (sC (.int 1))) [.d (.int c), .d (.int M), .d (.int w), .d (.int one), .d (.int oth), .d odd, .d W, .d (.list (l.map .int)), .no, .no] = .ok (decide (w / 8 % 6 = 1)) := eqI_at (mod_at (div_at rfl rfl (by decide) (by decide)) rfl (by decide)) rfl
  have go : ∀ V x y, (∃ r, gIf (sT (s2 oEq (s2 oMod (s2 oDiv (sVar 2) (sC (.int 8))) (sC (.int 6))) (sC (.int 1)))) (gSeq (gSet 9 (sSl (sVar 7) pNo (pSo (sNeg (sC (.int 1))))))
    (gSeq (gSet 7 (s2 oIx (sLst (aCons (sVar 9) (aCons (s2 oAdd (sVar 7) (sSl (sVar 7) pNo (pSo (sC (.int 1))))) (aCons (s2 oAdd (sVar 9) (sLst (aCons (sVar 1) aNil))) (aCons (sCall oTupl (aCons (sVar 7) aNil)) (aCons (sC .none) (aCons (s2 oAdd (sVar 9) (sLst (aCons (sC (.bool true)) aNil))) aNil))))))) (s2 oMod (s2 oDiv (sVar 2) (sC (.int 64))) (sC (.int 6)))))
    (gAsg (bTup (bCons (bName 3) (bCons (bName 4) bNil)) 2) (s2 oIx (sLst (aCons (sTup (aCons (sVar 3) (aCons (sVar 5) aNil))) (aCons (sTup (aCons (sVar 5) (aCons (sVar 4) aNil))) (aCons (sTup (aCons (sVar 3) (aCons (sVar 3) aNil))) (aCons (sTup (aCons (sVar 5) (aCons (sVar 5) aNil))) aNil))))) (s2 oMod (s2 oDiv (sVar 2) (sC (.int 1024))) (sC (.int 4))))))) Dn.gNil [.d (.int c), .d (.int M), .d (.int w), .d (.int one), .d (.int oth), .d odd, .d W, .d (.list (l.map .int)), .no, .no] = .nx r ∧ (gSeq (gIf (sT (s2 oEq (sVar 6) (sC (.str (PySem.Str.ofString "move")))))
    (gRet (sTup (aCons (sVar 6) (aCons (sVar 7) (aCons (sC .none) aNil)))))
    Dn.gNil)
    (gSeq (gIf (bAnd (sT (s2 oEq (sVar 6) (sC (.str (PySem.Str.ofString "leave"))))) (sT (s2 oGt (s2 oMod (s2 oDiv (sVar 2) (sC (.int 32))) (sC (.int 3))) (sC (.int 0)))))
    (gSet 6 (sC (.str (PySem.Str.ofString "turn"))))
    Dn.gNil)
    (gRet (sTup (aCons (sVar 6) (aCons (sVar 3) (aCons (sVar 4) aNil))))))) r = .rt (.tuple [V, x, y])) → o__law_deed [.int c, .int M, .int w] = .ok (.tuple [V, x, y]) := fun V x y h => by
    obtain ⟨r, e1, e2⟩ := h
    show finD (g__law_deed [.d (.int c), .d (.int M), .d (.int w), .no, .no, .no, .no, .no, .no, .no]) = _
    rw [show g__law_deed [.d (.int c), .d (.int M), .d (.int w), .no, .no, .no, .no, .no, .no, .no] = .rt (.tuple [V, x, y]) from seq_nx (set_at s1) (seq_nx (set_at s2') (seq_nx (set_at s3) (seq_nx (set_at s4) (seq_nx (set_at s5) (seq_nx e1 e2)))))]
    rfl
  by_cases h : w / 8 % 6 = 1
  · rw [decide_eq_true h] at t
    obtain ⟨X, hX, eX⟩ := ix_mem (ds := [PyData.list (ks.map .int), .list (l.map .int ++ (l.map .int).take 1), .list (ks.map .int ++ [.int (M : Int)]), .tuple (l.map .int), .none, .list (ks.map .int ++ [.bool true])]) (i := w / 64 % 6) ⟨Int.emod_nonneg _ (by decide), by show w / 64 % 6 < 6; exact Int.emod_lt_of_pos _ (by decide)⟩
    obtain ⟨T, hT, eT⟩ := ix_mem (ds := [PyData.tuple [.int one, odd], .tuple [odd, .int oth], .tuple [.int one, .int one], .tuple [odd, odd]]) (i := w / 1024 % 4) ⟨Int.emod_nonneg _ (by decide), by show w / 1024 % 4 < 4; exact Int.emod_lt_of_pos _ (by decide)⟩
    obtain ⟨x1, y1, rfl, a1, a2⟩ : ∃ x1 y1, T = .tuple [x1, y1] ∧ Any1 x1 ∧ Any1 y1 := by
      simp only [List.mem_cons, List.not_mem_nil, or_false] at hT
      rcases hT with rfl | rfl | rfl | rfl
      · exact ⟨_, _, rfl, .inl ⟨_, rfl⟩, ao⟩
      · exact ⟨_, _, rfl, ao, .inl ⟨_, rfl⟩⟩
      · exact ⟨_, _, rfl, .inl ⟨_, rfl⟩, .inl ⟨_, rfl⟩⟩
      · exact ⟨_, _, rfl, ao, ao⟩
    obtain ⟨V, x, y, e2, hd⟩ := fin x1 y1 X (.d (.list (ks.map .int))) a1 a2 (.inr (bad_orders (by omega) ek hl hX))
    refine ⟨V, x, y, go V x y ⟨_, if_t t (seq_nx (set_at (d := .list (ks.map .int)) ?_) (seq_nx (set_at (d := X) (s2_at (a := .list [PyData.list (ks.map .int), .list (l.map .int ++ (l.map .int).take 1), .list (ks.map .int ++ [.int (M : Int)]), .tuple (l.map .int), .none, .list (ks.map .int ++ [.bool true])]) ?_ (mod_at (div_at rfl rfl (by decide) (by decide)) rfl (by decide)) eX)) (asg_at (d := .tuple [x1, y1]) (s2_at (a := .list [PyData.tuple [.int one, odd], .tuple [odd, .int oth], .tuple [.int one, .int one], .tuple [odd, odd]]) rfl (mod_at (div_at rfl rfl (by decide) (by decide)) rfl (by decide)) eT) rfl))), e2⟩, hd⟩
    · rw [← ec]
      exact sl_at rfl rfl rfl
    · refine slst_at (acons_at rfl (acons_at (sum_ok (ds := l.map .int) (es := (l.map .int).take 1) rfl ?_ (by rw [List.length_map, List.length_take]; unfold big; omega)) (acons_at (sum_ok (ds := ks.map .int) (es := [.int (M : Int)]) rfl (slst1_at rfl) (by rw [List.length_map]; show _ + 1 ≤ _; unfold big; omega)) (acons_at rfl (acons_at rfl (acons_at (sum_ok (ds := ks.map .int) (es := [.bool true]) rfl (slst1_at rfl) (by rw [List.length_map]; show _ + 1 ≤ _; unfold big; omega)) rfl)))))) (by show 6 ≤ _; unfold big; omega)
      have q := cut_to (l.map PyData.int) 1
      rw [← q]
      exact sl_at rfl rfl rfl
  · rw [decide_eq_false h] at t
    obtain ⟨V, x, y, e2, hd⟩ := fin (.int one) (.int oth) (.list (l.map .int)) .no (.inl ⟨_, rfl⟩) (.inl ⟨_, rfl⟩) (.inl ⟨l, rfl, pl⟩)
    exact ⟨V, x, y, go V x y ⟨_, if_f t rfl, e2⟩, hd⟩

end K08

set_option Elab.async false
set_option linter.all false
set_option maxRecDepth 100000
set_option maxHeartbeats 8000000
namespace K08
open PySem PySem.Spec PyProof.Rows L2 Dn
variable [En]
/-! ### a deed done and due, side by side -/
theorem turned_ex {C R a b : D} {k : Nat} (h0 : o_need_rounds [C, R] = .ok .none) (h : o_need_two_clubs [C, a, b] = .ex k) : lstR2 (o_turned [C, R, a, b]) = .ex k := by
  show lstR2 (finN2 (g_turned [.d C, .d R, .d a, .d b, .no, .no])) = _
  rw [show g_turned [.d C, .d R, .d a, .d b, .no, .no] = .ex k [.d C, .d R, .d a, .d b, .no, .no] from seq_nx (drop_at (sF2_at rfl rfl h0)) (seq_ex (drop_ex (sF3_at rfl rfl rfl h)))]
  rfl
theorem exchanged_ex {C R a b : D} {k : Nat} (h0 : o_need_rounds [C, R] = .ok .none) (h : o_need_two_clubs [C, a, b] = .ex k) : lstR2 (o_exchanged [C, R, a, b]) = .ex k := by
  show lstR2 (finN2 (g_exchanged [.d C, .d R, .d a, .d b, .no, .no, .no, .no])) = _
  rw [show g_exchanged [.d C, .d R, .d a, .d b, .no, .no, .no, .no] = .ex k [.d C, .d R, .d a, .d b, .no, .no, .no, .no] from seq_nx (drop_at (sF2_at rfl rfl h0)) (seq_ex (drop_ex (sF3_at rfl rfl rfl h)))]
  rfl
theorem without_ex {c : Int} {R : Stg} {a : D} (hc : 2 ≤ c ∧ c ≤ 20) (G : GoodRs c R) (hp : tkD a) (h : clubB c a = false) : lstR2 (o_without [.int c, rsD R, a]) = .ex 3 := by
  have n : o_need_club [.int c, a] = .ex 3 := by
    rw [need_club_any hp, if_neg (by rw [h]; exact Bool.false_ne_true)]
  show lstR2 (finN2 (g_without [.d (.int c), .d (rsD R), .d a, .no, .no])) = _
  rw [show g_without [.d (.int c), .d (rsD R), .d a, .no, .no] = .ex 3 [.d (.int c), .d (rsD R), .d a, .no, .no] from seq_nx (drop_at (d := .none) (sF2_at rfl rfl (need_rounds_at hc G))) (seq_ex (drop_ex (sF2_at rfl rfl n)))]
  rfl
theorem moved_ex {c : Int} {R : Stg} {a : D} (hc : 2 ≤ c ∧ c ≤ 20) (G : GoodRs c R) (h : o_need_order [.int (R.length : Int), a] = .ex 4) : lstR2 (o_moved [.int c, rsD R, a]) = .ex 4 := by
  have ln : sCall oLen (aCons (sVar 1) aNil) [.d (.int c), .d (rsD R), .d a, .no] = .ok (.int (R.length : Int)) := by
    refine call1_at (a := rsD R) rfl ?_
    show Res.ok (PyData.int (((R.map gsD).length : Nat) : Int)) = _
    rw [List.length_map]
  show lstR2 (finN2 (g_moved [.d (.int c), .d (rsD R), .d a, .no])) = _
  rw [show g_moved [.d (.int c), .d (rsD R), .d a, .no] = .ex 4 [.d (.int c), .d (rsD R), .d a, .no] from seq_nx (drop_at (d := .none) (sF2_at rfl rfl (need_rounds_at hc G))) (seq_ex (drop_ex (sF2_at ln rfl h)))]
  rfl
theorem bad_order_ex {m : Nat} (hm : m ≤ 40) {x : D} (h : BadOrd m x) : o_need_order [.int (m : Int), x] = .ex 4 := by
  have pl : ∀ l : List Int, plain (.list (l.map .int)) = true := fun l => (fine_ints 0 l).pl
  cases h with
  | bi l h1 h2 =>
    rcases h2 with h2 | ⟨h2, h3⟩
    · exact order_len (pl l) (by rw [List.length_map]; exact h2)
    · exact order_set (by omega) h2 h3
  | bt ks h =>
    exact order_int (plain_list fun d hd => by
      rcases List.mem_append.mp hd with hd | hd
      · obtain ⟨i, _, rfl⟩ := List.mem_map.mp hd
        rfl
      · rw [List.mem_singleton.mp hd]; rfl) (by rw [List.length_append, List.length_map]; exact h) ⟨.bool true, List.mem_append_right _ (List.mem_singleton.mpr rfl), by simp [tyD]⟩
  | bo x h1 h2 h3 => exact order_ty h1 h2
theorem bad_order_due {a : Addr} {c : Int} {Us : List Stg} {R : Stg} {x y : D} (hR : R.length ≤ 40) (h : BadOrd R.length x) : o__law_due a (pastT (Us ++ [R])) [.int c, .none, .tuple [wMove, x, y]] = .ok (pastT (Us ++ [R])) (.list [wOrd]) := by
  cases h with
  | bi l h1 h2 =>
    refine due_move_bad (by omega) (by omega) fun e => ?_
    have el : l.length = R.length := by
      rw [← (sortI_perm l).length_eq, e, List.length_map, List.length_range']
    rcases h2 with h2 | ⟨_, i, hi, hb⟩
    · exact h2 el
    · have m : i ∈ sortI l := (sortI_perm l).mem_iff.mpr hi
      rw [e] at m
      obtain ⟨k, hk, rfl⟩ := List.mem_map.mp m
      have := List.mem_range'_1.mp hk
      exact hb ⟨by omega, by omega⟩
  | bt ks h => exact due_move_true (by omega)
  | bo x h1 h2 h3 => exact due_move_no h3
theorem ne_tl : wTurn ≠ wLeave := fun z => by
  have h := qTurnLeave
  rw [z, qLeaveLeave] at h
  cases h
theorem ne_el : wExch ≠ wLeave := fun z => by
  have h := qExchLeave
  rw [z, qLeaveLeave] at h
  cases h
structure GoodP (c : Nat) (m : Nat) (Ps : List Stg) : Prop where
  all : ∀ R ∈ Ps, GoodRs (c : Int) R ∧ R.length = m
  ne : Ps ≠ []
theorem pairR {c : Nat} {Us : List Stg} {R : Stg} : (Us ++ [R]).map told = Us.map told ++ [told R] := by
  rw [List.map_append]
  rfl
theorem fine_w (k : Nat) : Fine 1 (.list [wordOf k]) := fine_list fun d hd => by
  rw [List.mem_singleton.mp hd]
  unfold wordOf
  split
  · exact ⟨rfl, by decide +kernel, Nat.zero_le _⟩
  · split
    · exact ⟨rfl, by decide +kernel, Nat.zero_le _⟩
    · exact ⟨rfl, by decide +kernel, Nat.zero_le _⟩
theorem fine_nil : Fine 1 (.list []) := fine_list fun d hd => by cases hd
/-- both sides behind a deed -/
def PairOk (c : Nat) (m : Nat) (Ps : List Stg) (dd : D) : Prop := ∃ Vs v, Fine 1 v ∧ GoodP c m Vs ∧ Vs.length ≤ Ps.length + 1 ∧ (∀ a, o__law_done a (.ssn c (Ps.map told)) [.none, dd] = .ok (.ssn c (Vs.map told)) v) ∧ ∀ a, o__law_due a (pastT Ps) [.int (c : Int), .none, dd] = .ok (pastT Vs) v
section
variable {c m : Nat} {Us : List Stg} {R Q S : Stg} {w x y : D}
theorem pair_no (P : GoodP c m (Us ++ [R])) {k : Nat} (hk : k = 3 ∨ k = 4 ∨ k = 6) (h : ∀ a : Addr, dBody [.at a (.ssn c (Us.map told ++ [told R])), .d (.tuple [w, x, y]), .d w, .d x, .d y, .d .none, .d .none, .no] = setOnR 6 0 a [.at a (.ssn c (Us.map told ++ [told R])), .d (.tuple [w, x, y]), .d w, .d x, .d y, .d .none, .d .none, .no] (.ex k (.ssn c (Us.map told ++ [told R])))) (h2 : ∀ a, o__law_due a (pastT (Us ++ [R])) [.int (c : Int), .none, .tuple [w, x, y]] = .ok (pastT (Us ++ [R])) (.list [wordOf k])) : PairOk c m (Us ++ [R]) (.tuple [w, x, y]) :=
  ⟨Us ++ [R], .list [wordOf k], fine_w k, P, by omega, fun a => by rw [pairR (c := c)]; exact done_ex hk (h a), h2⟩
theorem pair_yes (P : GoodP c m (Us ++ [R])) (GQ : GoodRs (c : Int) Q) (lQ : Q.length = R.length) (hS : S = told Q) (h : ∀ a : Addr, dBody [.at a (.ssn c (Us.map told ++ [told R])), .d (.tuple [w, x, y]), .d w, .d x, .d y, .d .none, .d .none, .no] = setOnR 6 0 a [.at a (.ssn c (Us.map told ++ [told R])), .d (.tuple [w, x, y]), .d w, .d x, .d y, .d .none, .d .none, .no] (.ok (.ssn c (Us.map told ++ [told R] ++ [S])) .none)) (h2 : ∀ a, o__law_due a (pastT (Us ++ [R])) [.int (c : Int), .none, .tuple [w, x, y]] = .ok (pastT (Us ++ [R] ++ [Q])) (.list [])) : PairOk c m (Us ++ [R]) (.tuple [w, x, y]) := by
  subst hS
  refine ⟨Us ++ [R] ++ [Q], .list [], fine_nil, ⟨fun V hV => ?_, by simp⟩, by rw [List.length_append (bs := [Q])]; exact Nat.le_refl _, fun a => ?_, h2⟩
  · rcases List.mem_append.mp hV with hV | hV
    · exact P.all V hV
    · rw [List.mem_singleton.mp hV]
      exact ⟨GQ, by rw [lQ]; exact (P.all R (by simp)).2⟩
  · rw [pairR (c := c) (Us := Us ++ [R]), pairR (c := c)]
    exact done_ok (h a)
theorem pair_at {Ps : List Stg} (hc : 2 ≤ c ∧ c ≤ 20) (P : GoodP c m Ps) (hP : Ps.length ≤ 1000) (hd : DeedOk m w x y) : PairOk c m Ps (.tuple [w, x, y]) := by
  obtain ⟨Us, R, rfl⟩ : ∃ Us R, Ps = Us ++ [R] := ⟨Ps.dropLast, Ps.getLast P.ne, (List.dropLast_concat_getLast P.ne).symm⟩
  obtain ⟨G, hm⟩ := P.all R (by simp)
  have hcI : (2 : Int) ≤ (c : Int) ∧ (c : Int) ≤ 20 := by omega
  have GT : GoodRs (c : Int) (told R) := good_sorted G
  have tl := told_len R
  have h40 := G.few
  have bU : (Us ++ [R]).length < big := by unfold big; omega
  have bS : (Us.map told ++ [told R]).length < big := by
    rw [List.length_append, List.length_map]
    rw [List.length_append] at bU
    exact bU
  have nr := need_rounds_at hcI GT
  cases hd with
  | good l p =>
    rw [← hm] at p
    have p2 : l.Perm ((List.range' 0 (told R).length).map fun i : Nat => (i : Int)) := by rw [tl]; exact p
    have e := moved_at hcI GT p2
    refine pair_yes P (good_picked G p) (by rw [(picked_perm p).length_eq]) (S := movedP (told R) l) ?_ (fun a => body_move (move_ok e bS)) (fun a => due_move_ok (by omega) p bU)
    unfold movedP picked
    show _ = List.map sortP _
    rw [List.map_map]
    exact List.map_congr_left fun i _ => told_getD R i.toNat
  | bad x hx =>
    rw [← hm] at hx
    have hx2 : BadOrd (told R).length x := by rw [tl]; exact hx
    exact pair_no P (k := 4) (.inr (.inl rfl)) (fun a => body_move (move_ex (moved_ex hcI GT (bad_order_ex (by omega) hx2)))) (fun a => bad_order_due h40 hx)
  | two w x y hw hx hy =>
    have two : clubB (c : Int) x = false ∨ (clubB (c : Int) x = true ∧ (clubB (c : Int) y = false ∨ y = x)) ∨ ∃ p q : Int, x = .int p ∧ y = .int q ∧ (0 ≤ p ∧ p < (c : Int)) ∧ (0 ≤ q ∧ q < (c : Int)) ∧ p ≠ q := by
      cases h1 : clubB (c : Int) x with
      | false => exact .inl rfl
      | true =>
        cases h2 : clubB (c : Int) y with
        | false => exact .inr (.inl ⟨rfl, .inl rfl⟩)
        | true =>
          obtain ⟨p, rfl, p1, p2⟩ := clubB_int h1
          obtain ⟨q, rfl, q1, q2⟩ := clubB_int h2
          by_cases e : p = q
          · exact .inr (.inl ⟨rfl, .inr (by rw [e])⟩)
          · exact .inr (.inr ⟨p, q, rfl, rfl, ⟨p1, p2⟩, ⟨q1, q2⟩, e⟩)
    rcases hw with rfl | rfl | rfl | rfl
    · rcases two with h | h | ⟨p, q, rfl, rfl, hp, hq, e⟩
      · exact pair_no P (k := 3) (.inl rfl) (fun a => body_turn (turn_ex (turned_ex nr (two_bad hx.tk hy.tk (.inl h))))) (fun a => due_club (.inl rfl) hx hy (.inl h) fun _ => h)
      · exact pair_no P (k := 3) (.inl rfl) (fun a => body_turn (turn_ex (turned_ex nr (two_bad hx.tk hy.tk (.inr h))))) (fun a => due_club (.inl rfl) hx hy (.inr ⟨ne_tl, h⟩) fun z => absurd z ne_tl)
      · exact pair_yes P (good_turn hcI.1 p q G) (List.length_map _) (told_map (turnG p q) R) (fun a => body_turn (turn_ok (turned_at hcI GT hp hq e) bS)) (fun a => due_turn_ok hp hq e G bU)
    · rcases two with h | h | ⟨p, q, rfl, rfl, hp, hq, e⟩
      · exact pair_no P (k := 3) (.inl rfl) (fun a => body_exch (exch_ex (exchanged_ex nr (two_bad hx.tk hy.tk (.inl h))))) (fun a => due_club (.inr (.inl rfl)) hx hy (.inl h) fun _ => h)
      · exact pair_no P (k := 3) (.inl rfl) (fun a => body_exch (exch_ex (exchanged_ex nr (two_bad hx.tk hy.tk (.inr h))))) (fun a => due_club (.inr (.inl rfl)) hx hy (.inr ⟨ne_el, h⟩) fun z => absurd z ne_el)
      · exact pair_yes P (good_swap hcI.1 hp hq e G) (List.length_map _) (told_map (fun g => (swapC p q g.1, swapC p q g.2)) R) (fun a => body_exch (exch_ok (exchanged_at hcI GT hp hq e) bS)) (fun a => due_exch_ok hp hq e G bU)
    · by_cases hU : Us = []
      · subst hU
        exact pair_no P (k := 6) (.inr (.inr rfl)) (fun a => body_back back_ex) (fun a => due_back1)
      · refine ⟨Us, .list [], fine_nil, ⟨fun V hV => P.all V (List.mem_append_left _ hV), hU⟩, by rw [List.length_append]; omega, fun a => ?_, fun a => due_back2 hU⟩
        rw [pairR (c := c)]
        exact done_ok (body_back (back_ok (fun z => hU (List.map_eq_nil_iff.mp z))))
    · cases h : clubB (c : Int) x with
      | false => exact pair_no P (k := 3) (.inl rfl) (fun a => body_leave (leave_ex (without_ex hcI GT hx.tk h))) (fun a => due_club (.inr (.inr rfl)) hx hy (.inl h) fun _ => h)
      | true =>
        obtain ⟨p, rfl, p1, p2⟩ := clubB_int h
        exact pair_yes P (good_filter (noC p) G) (List.length_map _) (told_filter (noC p) R) (fun a => body_leave (leave_ok (without_at hcI GT ⟨p1, p2⟩) bS)) (fun a => due_leave_ok ⟨p1, p2⟩ hy G bU)
end

end K08

set_option Elab.async false
set_option linter.all false
set_option maxRecDepth 100000
set_option maxHeartbeats 8000000
namespace K08
open PySem PySem.Spec PyProof.Rows L2 Dn
variable [En]
/-! ### what a season tells -/
abbrev rBody : Ev → Out := (gSeq (gSet 5 (s2 oMod (s2 oAdd (sVar 3) (s2 oMul (sVar 4) (s2 oAdd (sC (.int 1)) (s2 oMod (s2 oDiv (sVar 3) (sC (.int 4))) (sC (.int 2)))))) (sC (.int 3))))
    (gSeq (gIf (bAnd (sT (s2 oEq (sVar 5) (sC (.int 0)))) (bOr (sT (s2 oNe (sOn0 0 o_Season_clubs) (sVar 1))) (bNot (sTru (sF 1 o__law_whole (aCons (sOn0 0 o_Season_clubs) aNil))))))
    (gRet (sC (.bool false)))
    Dn.gNil)
    (gSeq (gIf (bAnd (sT (s2 oEq (sVar 5) (sC (.int 1)))) (bOr (sT (s2 oNe (sOn0 0 o_Season_many) (s2 oSub (sCall oLen (aCons (sVar 2) aNil)) (sC (.int 1))))) (bNot (sTru (sF 1 o__law_whole (aCons (sOn0 0 o_Season_many) aNil))))))
    (gRet (sC (.bool false)))
    Dn.gNil)
    (gIf (sT (s2 oEq (sVar 5) (sC (.int 2))))
    (gSeq (gSetN2 6 (evN2 (sOn0 0 o_Season_rounds)))
    (gSeq (gIf (evT (bNot (sTru (sF 2 o__law_is (aCons (sVar 6) (aCons (sF 1 o__law_told (aCons (s2 oIx (sVar 2) (sNeg (sC (.int 1)))) aNil)) aNil))))))
    (gRet (sC (.bool false)))
    Dn.gNil)
    (gSeq (gApp0 6 (.str (PySem.Str.ofString "more")))
    (fun ρ => if lenOk ρ 6 = true then gJunk 6 ρ else .bad))))
    Dn.gNil))))
abbrev rFound : Ev → Out := (gSeq (gSetN2 6 (evN2 (sOn0 0 o_Season_rounds)))
    (gSeq (gIf (evT (bNot (sTru (sF 2 o__law_is (aCons (sVar 6) (aCons (sF 1 o__law_told (aCons (s2 oIx (sVar 2) (sNeg (sC (.int 1)))) aNil)) aNil))))))
    (gRet (sC (.bool false)))
    Dn.gNil)
    (gSeq (gApp0 6 (.str (PySem.Str.ofString "more")))
    (fun ρ => if lenOk ρ 6 = true then gJunk 6 ρ else .bad))))
def seaD (c : Nat) (Ps : List Stg) : D := ssnD c (Ps.map told)
theorem found_at {c m : Nat} {Us : List Stg} {R : Stg} {turn k ask : Int} {e6 : C} (hm : 1 ≤ m) (P : GoodP c m (Us ++ [R])) : rFound [.d (seaD c (Us ++ [R])), .d (.int (c : Int)), .d (.list ((Us ++ [R]).map rsD)), .d (.int turn), .d (.int k), .d (.int ask), e6] = .nx [.d (seaD c (Us ++ [R])), .d (.int (c : Int)), .d (.list ((Us ++ [R]).map rsD)), .d (.int turn), .d (.int k), .d (.int ask), .no] := by
  obtain ⟨G, hmR⟩ := P.all R (by simp)
  have hf := G.few
  have tl := told_len R
  have h10 : ∀ gs ∈ told R, gs.length ≤ 10 := fun gs hg => ((good_sorted G).all gs hg).few
  have e1 : o_Season_rounds [seaD c (Us ++ [R])] = .ok ((told R).map fun gs => gs.map tup2) := by
    unfold seaD
    rw [pairR (c := c)]
    exact roundsS_at (by omega) h10
  have e0 : sOn0 0 o_Season_rounds [.d (seaD c (Us ++ [R])), .d (.int (c : Int)), .d (.list ((Us ++ [R]).map rsD)), .d (.int turn), .d (.int k), .d (.int ask), e6] = .ok ((told R).map fun gs => gs.map tup2) := by
    show (match ssnO (ssnD c ((Us ++ [R]).map told)) with | some _ => o_Season_rounds [seaD c (Us ++ [R])] | none => .bad) = _
    rw [ssnO_ssn]
    exact e1
  obtain ⟨g0, Rt, eT⟩ : ∃ g0 Rt, told R = g0 :: Rt := by
    cases q : told R with
    | nil =>
      rw [q] at tl
      have : 0 = R.length := tl
      omega
    | cons g0 Rt => exact ⟨g0, Rt, rfl⟩
  have st : gSetN2 6 (evN2 (sOn0 0 o_Season_rounds)) [.d (seaD c (Us ++ [R])), .d (.int (c : Int)), .d (.list ((Us ++ [R]).map rsD)), .d (.int turn), .d (.int k), .d (.int ask), e6] = .nx [.d (seaD c (Us ++ [R])), .d (.int (c : Int)), .d (.list ((Us ++ [R]).map rsD)), .d (.int turn), .d (.int k), .d (.int ask), .own2 ((told R).map fun gs => gs.map tup2)] := by
    unfold gSetN2 evN2
    rw [e0]
    rfl
  refine seq_nx st (seq_nx (if_f (evT_at rfl (bNot_at (b := true) (sTru_at (sF2_at (a := rsD (told R)) (b := rsD (told R)) ?_ (sF1_at (a := rsD R) ?_ (told_at (by omega))) (is_at (by omega) h10))))) rfl) (seq_nx (r' := [.d (seaD c (Us ++ [R])), .d (.int (c : Int)), .d (.list ((Us ++ [R]).map rsD)), .d (.int turn), .d (.int k), .d (.int ask), .own2 ((g0.map tup2 ++ [.str (PySem.Str.ofString "more")]) :: Rt.map fun gs => gs.map tup2)]) ?_ ?_))
  · show Res.ok (PyData.list (((told R).map fun gs => gs.map tup2).map .list)) = _
    rw [List.map_map]
    rfl
  · refine s2_at (a := .list ((Us ++ [R]).map rsD)) (frzD_at rfl) rfl ?_
    show ofO (L2.atI ((Us ++ [R]).map rsD) (-1)) = _
    rw [List.map_append]
    show ofO (L2.atI (Us.map rsD ++ [rsD R]) (-1)) = _
    rw [L2.atI_last]
    rfl
  · rw [eT]
    have := h10 g0 (by rw [eT]; exact List.mem_cons_self)
    show (if (g0.map tup2).length < big then Out.nx _ else .bad) = _
    rw [if_pos (by rw [List.length_map]; unfold big; omega)]
    rfl
  · show (if decide (((g0.map tup2 ++ [.str (PySem.Str.ofString "more")]) :: Rt.map fun gs => gs.map tup2).length < big) = true then _ else Out.bad) = _
    have : (told R).length = Rt.length + 1 := by rw [eT]; rfl
    rw [if_pos (decide_eq_true (by rw [List.length_cons, List.length_map]; unfold big; omega))]
    rfl
theorem right_at {c m : Nat} {Ps : List Stg} {turn : Int} (hm : 1 ≤ m) (P : GoodP c m Ps) : o__law_right [seaD c Ps, .int (c : Int), .list (Ps.map rsD), .int turn] = .ok (.bool true) := by
  obtain ⟨Us, R, rfl⟩ : ∃ Us R, Ps = Us ++ [R] := ⟨Ps.dropLast, Ps.getLast P.ne, (List.dropLast_concat_getLast P.ne).symm⟩
  have run : ∃ r', forO (bName 4) rBody (runD 0 3) [.d (seaD c (Us ++ [R])), .d (.int (c : Int)), .d (.list ((Us ++ [R]).map rsD)), .d (.int turn), .no, .no, .no] = .nx r' ∧ ∃ j4 j5 j6, r' = [.d (seaD c (Us ++ [R])), .d (.int (c : Int)), .d (.list ((Us ++ [R]).map rsD)), .d (.int turn), j4, j5, j6] :=
    for_run (bnd := bName 4) (g := rBody) (fun r' => ∃ j4 j5 j6, r' = [.d (seaD c (Us ++ [R])), .d (.int (c : Int)), .d (.list ((Us ++ [R]).map rsD)), .d (.int turn), j4, j5, j6]) 3 _ (fun k r hk ir => by
      obtain ⟨j4, j5, j6, rfl⟩ := ir
      obtain ⟨ask, ha⟩ : ∃ ask, ask = (turn + (k : Int) * (1 + turn / 4 % 2)) % 3 := ⟨_, rfl⟩
      have sa : s2 oMod (s2 oAdd (sVar 3) (s2 oMul (sVar 4) (s2 oAdd (sC (.int 1)) (s2 oMod (s2 oDiv (sVar 3) (sC (.int 4))) (sC (.int 2)))))) (sC (.int 3)) [.d (seaD c (Us ++ [R])), .d (.int (c : Int)), .d (.list ((Us ++ [R]).map rsD)), .d (.int turn), .d (.int (k : Int)), j5, j6] = .ok (.int ask) := by
        rw [ha]
        exact mod_at (add_at rfl (mul_at rfl (add_at rfl (mod_at (div_at rfl rfl (by decide) (by decide)) rfl (by decide))) (.inl (by omega)))) rfl (by decide)
      have sc : sOn0 0 o_Season_clubs [.d (seaD c (Us ++ [R])), .d (.int (c : Int)), .d (.list ((Us ++ [R]).map rsD)), .d (.int turn), .d (.int (k : Int)), .d (.int ask), j6] = .ok (.int (c : Int)) := by
        show (match ssnO (ssnD c ((Us ++ [R]).map told)) with | some _ => o_Season_clubs [seaD c (Us ++ [R])] | none => .bad) = _
        rw [ssnO_ssn]
        exact clubsS_at
      have sm : sOn0 0 o_Season_many [.d (seaD c (Us ++ [R])), .d (.int (c : Int)), .d (.list ((Us ++ [R]).map rsD)), .d (.int turn), .d (.int (k : Int)), .d (.int ask), j6] = .ok (.int (((Us ++ [R]).length : Int) - 1)) := by
        show (match ssnO (ssnD c ((Us ++ [R]).map told)) with | some _ => o_Season_many [seaD c (Us ++ [R])] | none => .bad) = _
        rw [ssnO_ssn]
        refine many_at.trans ?_
        rw [List.length_map]
      have sl : s2 oSub (sCall oLen (aCons (sVar 2) aNil)) (sC (.int 1)) [.d (seaD c (Us ++ [R])), .d (.int (c : Int)), .d (.list ((Us ++ [R]).map rsD)), .d (.int turn), .d (.int (k : Int)), .d (.int ask), j6] = .ok (.int (((Us ++ [R]).length : Int) - 1)) :=
        sub_at (call1_at (a := .list ((Us ++ [R]).map rsD)) rfl (by
          show Res.ok (PyData.int ((((Us ++ [R]).map rsD).length : Nat) : Int)) = _
          rw [List.length_map])) rfl
      have t0 : bAnd (sT (s2 oEq (sVar 5) (sC (.int 0)))) (bOr (sT (s2 oNe (sOn0 0 o_Season_clubs) (sVar 1))) (bNot (sTru (sF 1 o__law_whole (aCons (sOn0 0 o_Season_clubs) aNil))))) [.d (seaD c (Us ++ [R])), .d (.int (c : Int)), .d (.list ((Us ++ [R]).map rsD)), .d (.int turn), .d (.int (k : Int)), .d (.int ask), j6] = .ok false := by
        have q := eqI_at (f := sVar 5) (g := sC (.int 0)) (r := [.d (seaD c (Us ++ [R])), .d (.int (c : Int)), .d (.list ((Us ++ [R]).map rsD)), .d (.int turn), .d (.int (k : Int)), .d (.int ask), j6]) (i := ask) (j := 0) rfl rfl
        by_cases h : ask = 0
        · rw [decide_eq_true h] at q
          refine bAnd_t q (bOr_f ((neI_at sc rfl).trans ?_) (bNot_at (b := true) (sTru_at (sF1_at sc (whole_at _)))))
          rw [decide_eq_true rfl]
          rfl
        · rw [decide_eq_false h] at q
          exact bAnd_f q
      have t1 : bAnd (sT (s2 oEq (sVar 5) (sC (.int 1)))) (bOr (sT (s2 oNe (sOn0 0 o_Season_many) (s2 oSub (sCall oLen (aCons (sVar 2) aNil)) (sC (.int 1))))) (bNot (sTru (sF 1 o__law_whole (aCons (sOn0 0 o_Season_many) aNil))))) [.d (seaD c (Us ++ [R])), .d (.int (c : Int)), .d (.list ((Us ++ [R]).map rsD)), .d (.int turn), .d (.int (k : Int)), .d (.int ask), j6] = .ok false := by
        have q := eqI_at (f := sVar 5) (g := sC (.int 1)) (r := [.d (seaD c (Us ++ [R])), .d (.int (c : Int)), .d (.list ((Us ++ [R]).map rsD)), .d (.int turn), .d (.int (k : Int)), .d (.int ask), j6]) (i := ask) (j := 1) rfl rfl
        by_cases h : ask = 1
        · rw [decide_eq_true h] at q
          refine bAnd_t q (bOr_f ((neI_at sm sl).trans ?_) (bNot_at (b := true) (sTru_at (sF1_at sm (whole_at _)))))
          rw [decide_eq_true rfl]
          rfl
        · rw [decide_eq_false h] at q
          exact bAnd_f q
      have q := eqI_at (f := sVar 5) (g := sC (.int 2)) (r := [.d (seaD c (Us ++ [R])), .d (.int (c : Int)), .d (.list ((Us ++ [R]).map rsD)), .d (.int turn), .d (.int (k : Int)), .d (.int ask), j6]) (i := ask) (j := 2) rfl rfl
      by_cases h : ask = 2
      · rw [decide_eq_true h] at q
        exact ⟨_, _, rfl, .inl (seq_nx (set_at sa) (seq_nx (if_f t0 rfl) (seq_nx (if_f t1 rfl) (if_t q (found_at hm P))))), _, _, _, rfl⟩
      · rw [decide_eq_false h] at q
        exact ⟨_, _, rfl, .inl (seq_nx (set_at sa) (seq_nx (if_f t0 rfl) (seq_nx (if_f t1 rfl) (if_f q rfl)))), _, _, _, rfl⟩) ⟨_, _, _, rfl⟩
  obtain ⟨r', er, j4, j5, j6, rfl⟩ := run
  show finD (g__law_right [.d (seaD c (Us ++ [R])), .d (.int (c : Int)), .d (.list ((Us ++ [R]).map rsD)), .d (.int turn), .no, .no, .no]) = _
  rw [show g__law_right [.d (seaD c (Us ++ [R])), .d (.int (c : Int)), .d (.list ((Us ++ [R]).map rsD)), .d (.int turn), .no, .no, .no] = .rt (.bool true) from seq_nx (Dn.for_at (ds := runD 0 3) rfl er) rfl]
  rfl

end K08

set_option Elab.async false
set_option linter.all false
set_option maxRecDepth 100000
set_option maxHeartbeats 8000000
namespace K08
open PySem PySem.Spec PyProof.Rows L2 Dn
variable [En]
theorem setTr_at {i : Nat} {f : Ev → Res OT} {r : Ev} {t : OT} (h : f r = .ok t) : gSetTr i f r = .nx (r.set i (.ot t)) := by
  unfold gSetTr
  rw [h]
  rfl
/-! ### the law -/
noncomputable abbrev kBody : Ev → Out := (gSeq (gSet 6 (sF 2 o__law_draw (aCons (sVar 0) (aCons (s2 oAdd (sC (.int 10)) (sVar 2)) aNil))))
    (gSeq (gSet 7 (s2 oDiv (s2 oMod (sVar 6) (sC (.int 3))) (sC (.int 2))))
    (gSeq (gSet 4 (s2 oIx (sVar 1) (sVar 7)))
    (gSeq (gSet 8 (sF 3 o__law_deed (aCons (sVar 4) (aCons (evB (sCall oLen (aCons (evB (s2 oIx (s2 oIx (sVar 5) (sVar 7)) (sNeg (sC (.int 1))))) aNil))) (aCons (s2 oDiv (sVar 6) (sC (.int 3))) aNil)))))
    (gSeq (gSetTr 9 (oTupT (oCons (fun ρ => mapR OT.dat ((s2 oIx (sVar 8) (sC (.int 0))) ρ)) (oCons (oIfT (sTru (sIsi "list" (s2 oIx (sVar 8) (sC (.int 1))))) (fun ρ => mapR otL ((nCall nList (aCons (s2 oIx (sVar 8) (sC (.int 1))) aNil)) ρ)) (fun ρ => mapR OT.dat ((s2 oIx (sVar 8) (sC (.int 1))) ρ))) (oCons (fun ρ => mapR OT.dat ((s2 oIx (sVar 8) (sC (.int 2))) ρ)) oNil)))))
    (gSeq (gStep 3 5 9 7 4 8 o__law_done o__law_due
    (gRet (sC (.bool false))))
    (gSeq (gIf (evT (sTru (sIsi "list" (s2 oIx (sVar 9) (sC (.int 1))))))
    (gClr1 9)
    Dn.gNil)
    (gFor (iR rg1 (aCons (sC (.int 2)) aNil)) (bName 10)
    (gIf (evT (bNot (sTru (sF 4 o__law_right (aCons (s2 oIx (sVar 3) (sVar 10)) (aCons (s2 oIx (sVar 1) (sVar 10)) (aCons (s2 oIx (sVar 5) (sVar 10)) (aCons (s2 oMod (s2 oDiv (sVar 6) (sC (.int 24))) (sC (.int 8))) aNil))))))))
    (gRet (sC (.bool false)))
    Dn.gNil)))))))))
abbrev jBody : Ev → Out := (gIf (evT (bNot (sTru (sF 4 o__law_right (aCons (s2 oIx (sVar 3) (sVar 10)) (aCons (s2 oIx (sVar 1) (sVar 10)) (aCons (s2 oIx (sVar 5) (sVar 10)) (aCons (s2 oMod (s2 oDiv (sVar 6) (sC (.int 24))) (sC (.int 8))) aNil))))))))
    (gRet (sC (.bool false)))
    Dn.gNil)
abbrev fBody : Ev → Out := (gIf (evT (bNot (sTru (sF 4 o__law_right (aCons (s2 oIx (sVar 3) (sVar 2)) (aCons (s2 oIx (sVar 1) (sVar 2)) (aCons (s2 oIx (sVar 5) (sVar 2)) (aCons (sVar 2) aNil))))))))
    (gRet (sC (.bool false)))
    Dn.gNil)
theorem told_made (n : Nat) : told (madeP n) = madeP n := by
  unfold told madeP
  split
  · rw [List.map_map]
    exact List.map_congr_left fun t _ => sort_same _
  · rw [List.map_map]
    exact List.map_congr_left fun t _ => sort_same _
theorem made_len {n : Nat} (h : 2 ≤ n) : 1 ≤ (madeP n).length := by
  unfold madeP
  split
  · rw [List.length_map, List.length_range']; omega
  · rw [List.length_map, List.length_range']; omega
theorem made_good {n : Nat} (h : 2 ≤ n ∧ n ≤ 20) : GoodP n (madeP n).length [madeP n] := ⟨fun R hR => by
  rw [List.mem_singleton.mp hR]
  exact ⟨(made_once h).good, rfl⟩, by simp⟩
theorem once_d {c : Nat} (hc : 2 ≤ c ∧ c ≤ 20) : lstR2 (o_once_round [.int (c : Int)]) = .ok (rsD (madeP c)) := by
  have e := once_round_at (c := (c : Int)) (by omega)
  rw [Int.toNat_natCast] at e
  exact lst2_ok e
theorem season_new {c : Nat} (hc : 2 ≤ c ∧ c ≤ 20) : newO 2 o_Season___init__ [.int (c : Int)] = .ok (.ssn c ([madeP c].map told)) := by
  have e : o_Season___init__ 0 .ins0 [.none, .int (c : Int)] = .ok (.ssn c [madeP c]) .none := by
    show mOut 0 (g_Season___init__ [.at 0 .ins0, .d (.int (c : Int)), .no]) = _
    rw [init_g 0 (.int (c : Int)) (once_d hc)]
    show mOut 0 (initG 0 (.int (c : Int)) (stA (madeP c))) = _
    rw [init_int, stageO_st]
    show mOut 0 (if 0 ≤ (c : Int) then Out.nx [.at 0 (.ssn ((c : Int)).toNat [madeP c]), .d (.int (c : Int)), .d (stA (madeP c))] else .bad) = _
    rw [if_pos (by omega), Int.toNat_natCast]
    show (if 0 = 0 then MRes.ok (.ssn c [madeP c]) .none else .bad) = _
    rw [if_pos rfl]
  show newO 2 o_Season___init__ [.int (c : Int)] = .ok (.ssn c [told (madeP c)])
  rw [told_made]
  unfold newO
  rw [if_pos (show [PyData.int (c : Int)].length + 1 = 2 from rfl), e]
/-- a row of the law -/
abbrev row (ns : List Int) (c : Nat → Nat) (P : Nat → List Stg) (e2 e4 e6 e7 e8 e9 e10 : C) : Ev := [.d (scrD ns), .d (.list [.int (c 0 : Int), .int (c 1 : Int)]), e2, .ot (.lst [.ssn (c 0) ((P 0).map told), .ssn (c 1) ((P 1).map told)]), e4, .ot (.lst [pastT (P 0), pastT (P 1)]), e6, e7, e8, e9, e10]
theorem dOT_pasts (P : Nat → List Stg) : dOT (.lst [pastT (P 0), pastT (P 1)]) = some (.list [.list ((P 0).map rsD), .list ((P 1).map rsD)]) := by
  show (match dOT (pastT (P 0)), (match dOT (pastT (P 1)), (some [] : Option (List D)) with | some d, some ds => some (d :: ds) | _, _ => none) with | some d, some ds => some (d :: ds) | _, _ => none).map PyData.list = _
  rw [dOT_past, dOT_past]
  rfl
structure Inv2 (c m : Nat → Nat) (P : Nat → List Stg) : Prop where
  hc : ∀ i, i < 2 → 2 ≤ c i ∧ c i ≤ 20
  hm : ∀ i, i < 2 → 1 ≤ m i ∧ m i ≤ 40
  hP : ∀ i, i < 2 → GoodP (c i) (m i) (P i)
theorem tell_row {c m : Nat → Nat} {P : Nat → List Stg} (I : Inv2 c m P) {r : Ev} (h1 : r[1]? = some (.d (.list [.int (c 0 : Int), .int (c 1 : Int)]))) (h3 : r[3]? = some (.ot (.lst [.ssn (c 0) ((P 0).map told), .ssn (c 1) ((P 1).map told)]))) (h5 : r[5]? = some (.ot (.lst [pastT (P 0), pastT (P 1)]))) {i j : Nat} (hj : j < 2) (hi : r[i]? = some (.d (.int (j : Int)))) {ft : Ev → Res D} {turn : Int} (ht : ft (frz r) = .ok (.int turn)) :
    evT (bNot (sTru (sF 4 o__law_right (aCons (s2 oIx (sVar 3) (sVar i)) (aCons (s2 oIx (sVar 1) (sVar i)) (aCons (s2 oIx (sVar 5) (sVar i)) (aCons ft aNil))))))) r = .ok false := by
  have b3 : sVar 3 r = .bad := by unfold sVar; rw [h3]
  refine evT_at ?_ (bNot_at (b := true) (sTru_at (sF4_at (a := seaD (c j) (P j)) (b := .int (c j : Int)) (c := .list ((P j).map rsD)) (d := .int turn) ?_ ?_ ?_ ht (right_at (I.hm j hj).1 (I.hP j hj)))))
  · unfold bNot sTru sF aCons s2
    rw [b3]
    rfl
  · refine s2_at (a := .list [seaD (c 0) (P 0), seaD (c 1) (P 1)]) (frzOt_at h3 rfl) (frzD_at hi) ?_
    have hx : j = 0 ∨ j = 1 := by omega
    rcases hx with rfl | rfl <;> rfl
  · refine s2_at (frzD_at h1) (frzD_at hi) ?_
    have hx : j = 0 ∨ j = 1 := by omega
    rcases hx with rfl | rfl <;> rfl
  · refine s2_at (frzOt_at h5 (dOT_pasts P)) (frzD_at hi) ?_
    have hx : j = 0 ∨ j = 1 := by omega
    rcases hx with rfl | rfl <;> rfl
theorem evB_at {f : Ev → Res D} {r : Ev} {d : D} (h1 : f r = .bad) (h2 : f (frz r) = .ok d) (h3 : noList d = true) : evB f r = .ok d := by
  unfold evB
  rw [h1, h2]
  exact if_pos h3
theorem evB_ok {f : Ev → Res D} {r : Ev} {d : D} (h1 : f r = .ok d) : evB f r = .ok d := by
  unfold evB
  rw [h1]
theorem evB_bad {f : Ev → Res D} {r : Ev} {d : D} (h1 : f r = .bad) (h2 : f (frz r) = .ok d) (h3 : noList d = false) : evB f r = .bad := by
  unfold evB
  rw [h1, h2]
  show (if noList d = true then Res.ok d else .bad) = _
  rw [h3]
  rfl
theorem evT_ok {f : Ev → Res Bool} {r : Ev} {b : Bool} (h1 : f r = .ok b) : evT f r = .ok b := by
  unfold evT
  rw [h1]
/-- how many rounds the law's own past has now -/
theorem now_len {c m : Nat → Nat} {P : Nat → List Stg} (I : Inv2 c m P) {r : Ev} (h5 : r[5]? = some (.ot (.lst [pastT (P 0), pastT (P 1)]))) {i j : Nat} (hj : j < 2) (hi : r[i]? = some (.d (.int (j : Int)))) :
    evB (sCall oLen (aCons (evB (s2 oIx (s2 oIx (sVar 5) (sVar i)) (sNeg (sC (.int 1))))) aNil)) r = .ok (.int (m j : Int)) := by
  obtain ⟨Us, R, eP⟩ : ∃ Us R, P j = Us ++ [R] := ⟨(P j).dropLast, (P j).getLast (I.hP j hj).ne, (List.dropLast_concat_getLast (I.hP j hj).ne).symm⟩
  have hR := ((I.hP j hj).all R (by rw [eP]; simp)).2
  have b5 : sVar 5 r = .bad := by unfold sVar; rw [h5]
  have q1 : s2 oIx (s2 oIx (sVar 5) (sVar i)) (sNeg (sC (.int 1))) r = .bad := by
    unfold s2
    rw [b5]
    rfl
  have q2 : s2 oIx (s2 oIx (sVar 5) (sVar i)) (sNeg (sC (.int 1))) (frz r) = .ok (rsD R) := by
    refine s2_at (a := .list ((P j).map rsD)) (s2_at (frzOt_at h5 (dOT_pasts P)) (frzD_at hi) ?_) rfl ?_
    · have hx : j = 0 ∨ j = 1 := by omega
      rcases hx with rfl | rfl <;> rfl
    · show ofO (L2.atI ((P j).map rsD) (-1)) = _
      rw [eP, List.map_append]
      show ofO (L2.atI (Us.map rsD ++ [rsD R]) (-1)) = _
      rw [L2.atI_last]
      rfl
  refine evB_at ?_ (call1_at (a := rsD R) (evB_ok q2) ?_) rfl
  · unfold sCall aCons
    rw [evB_bad q1 q2 rfl]
    rfl
  · show Res.ok (PyData.int (((R.map gsD).length : Nat) : Int)) = _
    rw [List.length_map, hR]
/-! what is handed on -/
theorem any_hand {x : D} (h : Any1 x) : (∃ ds, x = .list ds ∧ (∀ d ∈ ds, flatV d = true) ∧ ds.length ≤ 1000) ∨ oIsi "list" x = .ok (.bool false) := by
  rcases h with ⟨i, rfl⟩ | rfl | rfl | rfl | rfl
  · exact .inr rfl
  · exact .inr rfl
  · exact .inr rfl
  · exact .inr rfl
  · exact .inl ⟨_, rfl, fun d hd => by rw [List.mem_singleton.mp hd]; rfl, by show 1 ≤ 1000; decide⟩
theorem hand_of {m : Nat} {W x y : D} (hm : m ≤ 40) (h : DeedOk m W x y) : (∃ ds, x = .list ds ∧ (∀ d ∈ ds, flatV d = true) ∧ ds.length ≤ 1000) ∨ oIsi "list" x = .ok (.bool false) := by
  have il : ∀ l : List Int, ∀ d ∈ l.map PyData.int, flatV d = true := fun l d hd => by
    obtain ⟨i, _, rfl⟩ := List.mem_map.mp hd
    rfl
  cases h with
  | good l p =>
    have hl : l.length = m := by rw [p.length_eq, List.length_map, List.length_range']
    exact .inl ⟨_, rfl, il l, by rw [List.length_map]; omega⟩
  | bad x hx =>
    cases hx with
    | bi l h1 h2 => exact .inl ⟨_, rfl, il l, by rw [List.length_map]; omega⟩
    | bt ks h =>
      refine .inl ⟨_, rfl, fun d hd => ?_, by rw [List.length_append, List.length_map]; show _ + 1 ≤ _; omega⟩
      rcases List.mem_append.mp hd with hd | hd
      · exact il ks d hd
      · rw [List.mem_singleton.mp hd]; rfl
    | bo x h1 h2 h3 => exact .inr h3
  | two w x y hw hx hy => exact any_hand hx
theorem flat_fine {ds : List D} (h : ∀ d ∈ ds, flatV d = true) : Fine 1 (.list ds) := fine_list fun d hd => by
  have q := h d hd
  cases d with
  | int i => exact fine_int 0 i
  | bool b => exact fine_bool 0 b
  | _ => cases q
theorem tupT3_at {f0 f1 f2 : Ev → Res OT} {r : Ev} {t0 t1 t2 : OT} (h0 : f0 r = .ok t0) (h1 : f1 r = .ok t1) (h2 : f2 r = .ok t2) : oTupT (oCons f0 (oCons f1 (oCons f2 oNil))) r = .ok (.tup [t0, t1, t2]) := by
  unfold oTupT oCons
  rw [h0]
  show Res.bind (Res.bind ((f1 r).bind fun x => ((f2 r).bind fun x => (oNil r).bind fun xs => Res.ok (x :: xs)).bind fun xs => Res.ok (x :: xs)) fun xs => Res.ok (t0 :: xs)) _ = _
  rw [h1]
  show Res.bind (Res.bind (Res.bind ((f2 r).bind fun x => (oNil r).bind fun xs => Res.ok (x :: xs)) fun xs => Res.ok (t1 :: xs)) fun xs => Res.ok (t0 :: xs)) _ = _
  rw [h2]
  show (if [t0, t1, t2].length ≤ big then Res.ok (OT.tup [t0, t1, t2]) else Res.bad) = _
  exact if_pos (by show 3 ≤ _; unfold big; omega)
theorem ifT_t {t : Ev → Res Bool} {f g : Ev → Res OT} {r : Ev} {x : Res OT} (h : t r = .ok true) (h2 : f r = x) : oIfT t f g r = x := by
  unfold oIfT
  rw [h]
  exact h2
theorem ifT_f {t : Ev → Res Bool} {f g : Ev → Res OT} {r : Ev} {x : Res OT} (h : t r = .ok false) (h2 : g r = x) : oIfT t f g r = x := by
  unfold oIfT
  rw [h]
  exact h2
abbrev hGo : Ev → Res OT := (oTupT (oCons (fun ρ => mapR OT.dat ((s2 oIx (sVar 8) (sC (.int 0))) ρ)) (oCons (oIfT (sTru (sIsi "list" (s2 oIx (sVar 8) (sC (.int 1))))) (fun ρ => mapR otL ((nCall nList (aCons (s2 oIx (sVar 8) (sC (.int 1))) aNil)) ρ)) (fun ρ => mapR OT.dat ((s2 oIx (sVar 8) (sC (.int 1))) ρ))) (oCons (fun ρ => mapR OT.dat ((s2 oIx (sVar 8) (sC (.int 2))) ρ)) oNil))))
abbrev cGo : Ev → Out := (gIf (evT (sTru (sIsi "list" (s2 oIx (sVar 9) (sC (.int 1))))))
    (gClr1 9)
    Dn.gNil)
/-- what is handed, as the law makes it, and what becomes of it behind the call -/
theorem hand_at {W x y : D} (h : (∃ ds, x = .list ds ∧ (∀ d ∈ ds, flatV d = true) ∧ ds.length ≤ 1000) ∨ oIsi "list" x = .ok (.bool false)) : ∃ th, dOT th = some (.tuple [W, x, y]) ∧
    (∀ e0 e1 e2 e3 e4 e5 e6 e7 e9 e10 : C, hGo [e0, e1, e2, e3, e4, e5, e6, e7, .d (.tuple [W, x, y]), e9, e10] = .ok th) ∧
    ∀ e0 e1 e2 e3 e4 e5 e6 e7 e8 e10 : C, ∃ e9', cGo [e0, e1, e2, e3, e4, e5, e6, e7, e8, if handK th = true then .ot th else .d (.tuple [W, x, y]), e10] = .nx [e0, e1, e2, e3, e4, e5, e6, e7, e8, e9', e10] := by
  rcases h with ⟨ds, rfl, hf, hl⟩ | h
  · have isl := isl_at (flat_fine hf)
    refine ⟨.tup [.dat W, otL ds, .dat y], ?_, fun e0 e1 e2 e3 e4 e5 e6 e7 e9 e10 => ?_, fun e0 e1 e2 e3 e4 e5 e6 e7 e8 e10 => ?_⟩
    · show (match some W, (match (dOTs (ds.map OT.dat)).map PyData.list, (some [y] : Option (List D)) with | some d, some ds => some (d :: ds) | _, _ => none) with | some d, some ds => some (d :: ds) | _, _ => none).map PyData.tuple = _
      rw [dOTs_dat]
      rfl
    · refine tupT3_at rfl (ifT_t (sTru_at isl) ?_) rfl
      show mapR otL (nCall nList (aCons (s2 oIx (sVar 8) (sC (.int 1))) aNil) _) = _
      rfl
    · cases ds with
      | nil =>
        have k : handK (.tup [.dat W, otL [], .dat y]) = false := rfl
        refine ⟨.d (.tuple [W, .list [], y]), ?_⟩
        rw [if_neg (by rw [k]; exact Bool.false_ne_true)]
        exact if_t (evT_ok (sTru_at isl)) rfl
      | cons d ds =>
        have fd : flatV d = true := hf d List.mem_cons_self
        have k : handK (.tup [.dat W, otL (d :: ds), .dat y]) = true := by
          show (match un1 (otL (d :: ds)) with | some (x :: _) => flatV x | _ => false) = true
          rw [un1_ot]
          exact fd
        have dt : dOT (.tup [.dat W, otL (d :: ds), .dat y]) = some (.tuple [W, .list (d :: ds), y]) := by
          show (match some W, (match (dOTs ((d :: ds).map OT.dat)).map PyData.list, (some [y] : Option (List D)) with | some d, some ds => some (d :: ds) | _, _ => none) with | some d, some ds => some (d :: ds) | _, _ => none).map PyData.tuple = _
          rw [dOTs_dat]
          rfl
        refine ⟨.no, ?_⟩
        rw [if_pos k]
        exact if_t (evT_at rfl (sTru_at (show sIsi "list" (s2 oIx (sVar 9) (sC (.int 1))) _ = _ from by
          show (s2 oIx (sVar 9) (sC (.int 1)) _).bind (oIsi "list") = _
          rw [s2_at (a := .tuple [W, .list (d :: ds), y]) (b := .int 1) (v := .ok (.list (d :: ds))) (frzOt_at rfl dt) rfl rfl]
          exact isl))) rfl
  · refine ⟨.tup [.dat W, .dat x, .dat y], rfl, fun e0 e1 e2 e3 e4 e5 e6 e7 e9 e10 => ?_, fun e0 e1 e2 e3 e4 e5 e6 e7 e8 e10 => ⟨.ot (.tup [.dat W, .dat x, .dat y]), ?_⟩⟩
    · exact tupT3_at rfl (ifT_f (sTru_at h) rfl) rfl
    · exact if_f (evT_at rfl (sTru_at (show sIsi "list" (s2 oIx (sVar 9) (sC (.int 1))) _ = _ from by
        show (s2 oIx (sVar 9) (sC (.int 1)) _).bind (oIsi "list") = _
        rw [s2_at (a := .tuple [W, x, y]) (b := .int 1) (v := .ok x) (frzOt_at rfl rfl) rfl rfl]
        exact h))) rfl
theorem kBody_at (ns : List Int) {c m : Nat → Nat} {P : Nat → List Stg} {N : Nat} (I : Inv2 c m P) (hN : ∀ i, i < 2 → (P i).length ≤ N + 1) (hn : N ≤ 200) {k : Nat} (hk : k ≤ 200) (e4 e6 e7 e8 e9 e10 : C) : ∃ P' f2 f4 f6 f7 f8 f9 f10, kBody (row ns c P (.d (.int (k : Int))) e4 e6 e7 e8 e9 e10) = .nx (row ns c P' f2 f4 f6 f7 f8 f9 f10) ∧ Inv2 c m P' ∧ ∀ i, i < 2 → (P' i).length ≤ N + 2 := by
  obtain ⟨w, hw⟩ : ∃ w, w = drawI ns (10 + (k : Int)) := ⟨_, rfl⟩
  have hw0 : 0 ≤ w := by rw [hw]; exact drawI_nn ns _
  have s6 : sF 2 o__law_draw (aCons (sVar 0) (aCons (s2 oAdd (sC (.int 10)) (sVar 2)) aNil)) (row ns c P (.d (.int (k : Int))) e4 e6 e7 e8 e9 e10) = .ok (.int w) := by
    rw [hw]
    exact sDraw_at ns rfl rfl (add_at rfl rfl) (by omega)
  obtain ⟨q, hq⟩ : ∃ q : Nat, w % 3 / 2 = (q : Int) := ⟨(w % 3 / 2).toNat, by omega⟩
  have q2 : q < 2 := by omega
  have s7 : s2 oDiv (s2 oMod (sVar 6) (sC (.int 3))) (sC (.int 2)) (row ns c P (.d (.int (k : Int))) e4 (.d (.int w)) e7 e8 e9 e10) = .ok (.int (q : Int)) := by
    rw [← hq]
    exact div_at (mod_at rfl rfl (by decide)) rfl (by decide) (by decide)
  have s4 : s2 oIx (sVar 1) (sVar 7) (row ns c P (.d (.int (k : Int))) e4 (.d (.int w)) (.d (.int (q : Int))) e8 e9 e10) = .ok (.int (c q : Int)) := by
    refine s2_at (a := .list [.int (c 0 : Int), .int (c 1 : Int)]) rfl (b := .int (q : Int)) rfl ?_
    have hx : q = 0 ∨ q = 1 := by omega
    rcases hx with rfl | rfl <;> rfl
  have hcq := I.hc q q2
  have hmq := I.hm q q2
  obtain ⟨W, x, y, ed, od⟩ := deed_at (c := (c q : Int)) (m := (m q : Int)) (w := w / 3) (by omega) (by omega) (by omega)
  rw [Int.toNat_natCast] at od
  have s8 : sF 3 o__law_deed (aCons (sVar 4) (aCons (evB (sCall oLen (aCons (evB (s2 oIx (s2 oIx (sVar 5) (sVar 7)) (sNeg (sC (.int 1))))) aNil))) (aCons (s2 oDiv (sVar 6) (sC (.int 3))) aNil))) (row ns c P (.d (.int (k : Int))) (.d (.int (c q : Int))) (.d (.int w)) (.d (.int (q : Int))) e8 e9 e10) = .ok (.tuple [W, x, y]) :=
    sF3_at rfl (now_len (i := 7) I rfl q2 rfl) (div_at rfl rfl (by decide) (by decide)) ed
  obtain ⟨th, dh, hh, hcl⟩ := hand_at (W := W) (y := y) (hand_of hmq.2 od)
  have s9 := hh (.d (scrD ns)) (.d (.list [.int (c 0 : Int), .int (c 1 : Int)])) (.d (.int (k : Int))) (.ot (.lst [.ssn (c 0) ((P 0).map told), .ssn (c 1) ((P 1).map told)])) (.d (.int (c q : Int))) (.ot (.lst [pastT (P 0), pastT (P 1)])) (.d (.int w)) (.d (.int (q : Int))) e9 e10
  have lq := hN q q2
  obtain ⟨Vs, v, fv, gV, lV, hD, hU⟩ := pair_at hcq (I.hP q q2) (by omega) od
  obtain ⟨P', hP'⟩ : ∃ P' : Nat → List Stg, P' = fun i => if i = q then Vs else P i := ⟨_, rfl⟩
  have hx : q = 0 ∨ q = 1 := by omega
  have I' : Inv2 c m P' := ⟨I.hc, I.hm, fun i hi => by
    rw [hP']
    show GoodP (c i) (m i) (if i = q then Vs else P i)
    by_cases h : i = q
    · rw [if_pos h, h]; exact gV
    · rw [if_neg h]; exact I.hP i hi⟩
  have hN' : ∀ i, i < 2 → (P' i).length ≤ N + 2 := fun i hi => by
    rw [hP']
    show (if i = q then Vs else P i).length ≤ N + 2
    by_cases h : i = q
    · rw [if_pos h]; omega
    · rw [if_neg h]
      have := hN i hi
      omega
  have eS : [OT.ssn (c 0) ((P 0).map told), .ssn (c 1) ((P 1).map told)].set q (.ssn (c q) (Vs.map told)) = [OT.ssn (c 0) ((P' 0).map told), .ssn (c 1) ((P' 1).map told)] := by
    rw [hP']
    rcases hx with rfl | rfl <;> rfl
  have eP : [pastT (P 0), pastT (P 1)].set q (pastT Vs) = [pastT (P' 0), pastT (P' 1)] := by
    rw [hP']
    rcases hx with rfl | rfl <;> rfl
  have stp := step_at (ix := 3) (jx := 5) (hx := 9) (kx := 7) (cx := 4) (dx := 8) (oD := o__law_done) (oU := o__law_due) (g := gRet (sC (.bool false))) (r := row ns c P (.d (.int (k : Int))) (.d (.int (c q : Int))) (.d (.int w)) (.d (.int (q : Int))) (.d (.tuple [W, x, y])) (.ot th) e10) (ts := [OT.ssn (c 0) ((P 0).map told), .ssn (c 1) ((P 1).map told)]) (us := [pastT (P 0), pastT (P 1)]) (th := th) (t := .ssn (c q) ((P q).map told)) (u := pastT (P q)) (t' := .ssn (c q) (Vs.map told)) (u' := pastT Vs) (k := q) (c := .int (c q : Int)) (de := .tuple [W, x, y]) (hd := .tuple [W, x, y]) (d := v) rfl rfl rfl rfl rfl rfl (by rcases hx with rfl | rfl <;> rfl) (by rcases hx with rfl | rfl <;> rfl) dh hD hU (fv.up (by decide)) rfl (okP_past _) (by rw [eS]; rfl) (by
    rw [eP]
    show (okP (pastT (P' 0)) && (okP (pastT (P' 1)) && true)) = true
    rw [okP_past, okP_past]
    rfl)
  rw [eS, eP] at stp
  have e0 : (if handK th = true then ((((row ns c P (.d (.int (k : Int))) (.d (.int (c q : Int))) (.d (.int w)) (.d (.int (q : Int))) (.d (.tuple [W, x, y])) (.ot th) e10).set 9 (.d (.tuple [W, x, y]))).set 3 (.ot (.lst [OT.ssn (c 0) ((P' 0).map told), .ssn (c 1) ((P' 1).map told)]))).set 5 (.ot (.lst [pastT (P' 0), pastT (P' 1)]))).set 9 (.ot th) else (((row ns c P (.d (.int (k : Int))) (.d (.int (c q : Int))) (.d (.int w)) (.d (.int (q : Int))) (.d (.tuple [W, x, y])) (.ot th) e10).set 9 (.d (.tuple [W, x, y]))).set 3 (.ot (.lst [OT.ssn (c 0) ((P' 0).map told), .ssn (c 1) ((P' 1).map told)]))).set 5 (.ot (.lst [pastT (P' 0), pastT (P' 1)]))) = row ns c P' (.d (.int (k : Int))) (.d (.int (c q : Int))) (.d (.int w)) (.d (.int (q : Int))) (.d (.tuple [W, x, y])) (if handK th = true then .ot th else .d (.tuple [W, x, y])) e10 := by
    by_cases h : handK th = true
    · rw [if_pos h, if_pos h]; rfl
    · rw [if_neg h, if_neg h]; rfl
  rw [e0] at stp
  obtain ⟨e9', ecl⟩ := hcl (.d (scrD ns)) (.d (.list [.int (c 0 : Int), .int (c 1 : Int)])) (.d (.int (k : Int))) (.ot (.lst [.ssn (c 0) ((P' 0).map told), .ssn (c 1) ((P' 1).map told)])) (.d (.int (c q : Int))) (.ot (.lst [pastT (P' 0), pastT (P' 1)])) (.d (.int w)) (.d (.int (q : Int))) (.d (.tuple [W, x, y])) e10
  obtain ⟨r', er, f10, rfl⟩ := for_run (bnd := bName 10) (g := jBody) (fun r' => ∃ f10, r' = row ns c P' (.d (.int (k : Int))) (.d (.int (c q : Int))) (.d (.int w)) (.d (.int (q : Int))) (.d (.tuple [W, x, y])) e9' f10) 2 (row ns c P' (.d (.int (k : Int))) (.d (.int (c q : Int))) (.d (.int w)) (.d (.int (q : Int))) (.d (.tuple [W, x, y])) e9' e10) (fun j r hj ir => by
    obtain ⟨f10, rfl⟩ := ir
    exact ⟨_, _, rfl, .inl (if_f (tell_row (i := 10) (j := j) (turn := w / 24 % 8) I' rfl rfl rfl hj rfl (mod_at (div_at (frzD_at rfl) rfl (by decide) (by decide)) rfl (by decide))) rfl), _, rfl⟩) ⟨_, rfl⟩
  exact ⟨P', _, _, _, _, _, _, _, seq_nx (set_at s6) (seq_nx (set_at s7) (seq_nx (set_at s4) (seq_nx (set_at s8) (seq_nx (setTr_at s9) (seq_nx stp (seq_nx ecl (Dn.for_at (ds := runD 0 2) rfl er))))))), I', hN'⟩
theorem counts_at (ns : List Int) {c : Nat → Nat} (h0 : (c 0 : Int) = 2 + drawI ns 0 % 19) (h1 : (c 1 : Int) = 2 + drawI ns 1 % 6) : (fun ρ => lstR (nComp (iR rg1 (aCons (sC (.int 2)) aNil)) (bName 2) bYes (s2 oAdd (sC (.int 2)) (s2 oMod (sF 2 o__law_draw (aCons (sVar 0) (aCons (sVar 2) aNil))) (s2 oIx (sLst (aCons (sC (.int 19)) (aCons (sC (.int 6)) aNil))) (sVar 2)))) [2] ρ)) [.d (scrD ns), .no, .no, .no, .no, .no, .no, .no, .no, .no, .no] = .ok (.list [.int (c 0 : Int), .int (c 1 : Int)]) := by
  have e0 : sF 2 o__law_draw (aCons (sVar 0) (aCons (sVar 2) aNil)) [.d (scrD ns), .no, .d (.int 0), .no, .no, .no, .no, .no, .no, .no, .no] = .ok (.int (drawI ns 0)) := sDraw_at ns rfl rfl rfl (by omega)
  have e1 : sF 2 o__law_draw (aCons (sVar 0) (aCons (sVar 2) aNil)) [.d (scrD ns), .no, .d (.int 1), .no, .no, .no, .no, .no, .no, .no, .no] = .ok (.int (drawI ns 1)) := sDraw_at ns rfl rfl rfl (by omega)
  show lstR (nComp _ _ _ _ _ _) = _
  rw [ncomp_at (ds := [0, 1].map fun j : Nat => PyData.int (j : Int)) (es := [0, 1].map fun j : Nat => PyData.int (c j : Int)) rfl (by show 2 ≤ _; unfold big; omega) (comp_all (fun j : Nat => PyData.int (j : Int)) (fun j : Nat => PyData.int (c j : Int)) [0, 1] fun j hj => ⟨_, rfl, by
    simp only [List.mem_cons, List.not_mem_nil, or_false] at hj
    rcases hj with rfl | rfl
    · rw [h0]; exact add_at rfl (mod_at (j := 19) e0 rfl (by decide))
    · rw [h1]; exact add_at rfl (mod_at (j := 6) e1 rfl (by decide))⟩)]
  rfl
theorem compT2_at {bnd : D → Ev → Option Ev} {e : Ev → Res OT} {r r1 r2 : Ev} {src : Ev → Res (List D)} {vs : List Nat} {d1 d2 : D} {t1 t2 : OT} (hs : src r = .ok [d1, d2]) (b1 : bnd d1 (wipeC r vs) = some r1) (b2 : bnd d2 (wipeC r vs) = some r2) (h1 : e r1 = .ok t1) (h2 : e r2 = .ok t2) : nCompT src bnd bYes e vs r = .ok (.lst [t1, t2]) := by
  unfold nCompT
  rw [hs]
  show (if [d1, d2].length ≤ big then ofO ((compO bnd bYes e (wipeC r vs) [d1, d2]).map OT.lst) else .bad) = _
  rw [if_pos (by show 2 ≤ _; unfold big; omega)]
  rw [show compO bnd bYes e (wipeC r vs) [d1, d2] = some [t1, t2] by simp [compO, b1, b2, h1, h2, bYes]]
  rfl
theorem law_true (ns : List Int) : o_law [scrD ns] = .ok (.bool true) := by
  obtain ⟨c, h0, h1, hcc⟩ : ∃ c : Nat → Nat, (c 0 : Int) = 2 + drawI ns 0 % 19 ∧ (c 1 : Int) = 2 + drawI ns 1 % 6 ∧ ∀ i, i < 2 → 2 ≤ c i ∧ c i ≤ 20 := by
    have a := drawI_nn ns 0
    have b := drawI_nn ns 1
    refine ⟨fun i => if i = 0 then (2 + drawI ns 0 % 19).toNat else (2 + drawI ns 1 % 6).toNat, ?_, ?_, fun i hi => ?_⟩
    · show (((2 + drawI ns 0 % 19).toNat : Nat) : Int) = _; omega
    · show (((2 + drawI ns 1 % 6).toNat : Nat) : Int) = _; omega
    · have hx : i = 0 ∨ i = 1 := by omega
      rcases hx with rfl | rfl
      · show 2 ≤ (2 + drawI ns 0 % 19).toNat ∧ (2 + drawI ns 0 % 19).toNat ≤ 20; omega
      · show 2 ≤ (2 + drawI ns 1 % 6).toNat ∧ (2 + drawI ns 1 % 6).toNat ≤ 20; omega
  have c0 := hcc 0 (by decide)
  have c1 := hcc 1 (by decide)
  obtain ⟨m, hm⟩ : ∃ m : Nat → Nat, m = fun i => (madeP (c i)).length := ⟨_, rfl⟩
  obtain ⟨P, hP⟩ : ∃ P : Nat → List Stg, P = fun i => [madeP (c i)] := ⟨_, rfl⟩
  have I : Inv2 c m P := ⟨hcc, fun i hi => by
    rw [hm]
    exact ⟨made_len (hcc i hi).1, (made_once (hcc i hi)).good.few⟩, fun i hi => by
    rw [hm, hP]
    exact made_good (hcc i hi)⟩
  have s3 : nCompT (iL (sVar 1)) (bName 4) bYes (fun ρ => ((aCons (sVar 4) aNil) ρ).bind (newO 2 o_Season___init__)) [4] [.d (scrD ns), .d (.list [.int (c 0 : Int), .int (c 1 : Int)]), .no, .no, .no, .no, .no, .no, .no, .no, .no] = .ok (.lst [.ssn (c 0) ((P 0).map told), .ssn (c 1) ((P 1).map told)]) := by
    rw [hP]
    exact compT2_at rfl rfl rfl (season_new c0) (season_new c1)
  have s5 : nCompT (iL (sVar 1)) (bName 4) bYes (oLst (oCons (fun ρ => mapR OT.dat ((sF 1 (fun ds => lstR2 (o_once_round ds)) (aCons (sVar 4) aNil)) ρ)) oNil)) [4] [.d (scrD ns), .d (.list [.int (c 0 : Int), .int (c 1 : Int)]), .no, .ot (.lst [.ssn (c 0) ((P 0).map told), .ssn (c 1) ((P 1).map told)]), .no, .no, .no, .no, .no, .no, .no] = .ok (.lst [pastT (P 0), pastT (P 1)]) := by
    have one : ∀ {n : Nat} {r : Ev}, 2 ≤ n ∧ n ≤ 20 → sVar 4 r = .ok (.int (n : Int)) → oLst (oCons (fun ρ => mapR OT.dat ((sF 1 (fun ds => lstR2 (o_once_round ds)) (aCons (sVar 4) aNil)) ρ)) oNil) r = .ok (pastT [madeP n]) := fun {n r} hn h => by
      have e : sF 1 (fun ds => lstR2 (o_once_round ds)) (aCons (sVar 4) aNil) r = .ok (rsD (madeP n)) := sF1_at h (once_d hn)
      show (((mapR OT.dat (sF 1 (fun ds => lstR2 (o_once_round ds)) (aCons (sVar 4) aNil) r)).bind fun t => (oNil r).bind fun ts => Res.ok (t :: ts)).bind fun ts => if ts.length ≤ big then Res.ok (OT.lst ts) else Res.bad) = _
      rw [e]
      show (if 1 ≤ big then Res.ok (pastT [madeP n]) else Res.bad) = _
      exact if_pos (by unfold big; omega)
    rw [hP]
    exact compT2_at rfl rfl rfl (one c0 rfl) (one c1 rfl)
  obtain ⟨r1, er1, f2, rfl⟩ := for_run (bnd := bName 2) (g := fBody) (fun r' => ∃ f2, r' = row ns c P f2 .no .no .no .no .no .no) 2 (row ns c P .no .no .no .no .no .no .no) (fun j r hj ir => by
    obtain ⟨f2, rfl⟩ := ir
    exact ⟨_, _, rfl, .inl (if_f (tell_row (i := 2) (j := j) (turn := (j : Int)) I rfl rfl rfl hj rfl (frzD_at rfl)) rfl), _, rfl⟩) ⟨_, rfl⟩
  obtain ⟨n, hn, n60⟩ : ∃ n : Nat, sCall oLen (aCons (sScrSl 0 pNo (pSo (sC (.int 60)))) aNil) (row ns c P f2 .no .no .no .no .no .no) = .ok (.int (n : Int)) ∧ n ≤ 60 := by
    refine ⟨((ns.map PyData.int).take 60).length, call1_at (a := .list ((ns.map PyData.int).take 60)) ?_ rfl, by rw [List.length_take]; omega⟩
    have q := cut_to (ns.map PyData.int) 60
    have hs : sScr 0 (row ns c P f2 .no .no .no .no .no .no) = .ok ns := by
      show ofO (intsO (ns.map .int)) = _
      rw [intsO_map]
      rfl
    unfold sScrSl
    rw [hs, ← q]
    rfl
  have rg : iR rg1 (aCons (s2 oAdd (sC (.int 3)) (sCall oLen (aCons (sScrSl 0 pNo (pSo (sC (.int 60)))) aNil))) aNil) (row ns c P f2 .no .no .no .no .no .no) = .ok ((List.range' 0 (3 + n)).map fun i : Nat => PyData.int (i : Int)) := by
    rw [range_at (j := 3 + (n : Int)) (add_at rfl hn) (by omega) (by omega), show (3 + (n : Int)).toNat = 3 + n by omega, run_len]
  obtain ⟨r2, er2, P2, g2, g4, g6, g7, g8, g9, g10, I2, hN2, rfl⟩ := for_inv (bnd := bName 2) (g := kBody) (fun i : Nat => PyData.int (i : Int)) (fun dn r => ∃ P f2 f4 f6 f7 f8 f9 f10, Inv2 c m P ∧ (∀ i, i < 2 → (P i).length ≤ dn.length + 1) ∧ r = row ns c P f2 f4 f6 f7 f8 f9 f10) (List.range' 0 (3 + n)) [] (row ns c P f2 .no .no .no .no .no .no) (fun dn x rest r eq ir => by
    obtain ⟨P, f2, f4, f6, f7, f8, f9, f10, I, hN, rfl⟩ := ir
    have mx : x ∈ List.range' 0 (3 + n) := by
      have e : List.range' 0 (3 + n) = dn ++ x :: rest := eq
      rw [e]
      simp
    have hx := List.mem_range'_1.mp mx
    have hd : dn.length ≤ 3 + n := by
      have e : List.range' 0 (3 + n) = dn ++ x :: rest := eq
      have l := congrArg List.length e
      rw [List.length_range', List.length_append] at l
      omega
    obtain ⟨P', f2', f4', f6', f7', f8', f9', f10', e, I', hN'⟩ := kBody_at ns I hN (by omega) (k := x) (by omega) f4 f6 f7 f8 f9 f10
    refine ⟨_, _, rfl, .inl e, P', f2', f4', f6', f7', f8', f9', f10', I', fun i hi => ?_, rfl⟩
    rw [List.length_append]
    exact hN' i hi) ⟨P, _, _, _, _, _, _, _, I, fun i hi => by rw [hP]; exact Nat.le_refl _, rfl⟩
  show finD (g_law [.d (scrD ns), .no, .no, .no, .no, .no, .no, .no, .no, .no, .no]) = _
  rw [show g_law [.d (scrD ns), .no, .no, .no, .no, .no, .no, .no, .no, .no, .no] = .rt (.bool true) from seq_nx (set_at (counts_at ns h0 h1)) (seq_nx (setTr_at s3) (seq_nx (setTr_at s5) (seq_nx (Dn.for_at (ds := runD 0 2) rfl er1) (seq_nx (Dn.for_at rg er2) rfl))))]
  rfl

end K08

set_option Elab.async false
set_option linter.all false
set_option maxRecDepth 100000
set_option maxHeartbeats 8000000
namespace K08
open PySem PySem.Spec PyProof.Rows L2 Dn
theorem all_mk {l : PySem.W.OpenLaw} {w : World} {K : PySem.W.Frag} {h : Heap} {mg : Str → Option Value} {fa : Addr} (X : K.In h) (G : h.Ns mainGlobals mg) (hfa : mg "law" = some (.ref fa)) (T : NmTab mg "need_order" h) {od0 an0 : Option Addr} {sl0 : Array (Option Value)} {oc0 kV0 dc0 pm0 cd0 ct0 : Value} {f0 : Addr} {od1 an1 : Option Addr} {sl1 : Array (Option Value)} {oc1 kV1 dc1 pm1 cd1 ct1 : Value} {f1 : Addr} {od2 an2 : Option Addr} {sl2 : Array (Option Value)} {oc2 kV2 dc2 pm2 cd2 ct2 : Value} {f2 : Addr} {od3 an3 : Option Addr} {sl3 : Array (Option Value)} {oc3 kV3 dc3 pm3 cd3 ct3 : Value} {f3 : Addr} {od4 an4 : Option Addr} {sl4 : Array (Option Value)} {oc4 kV4 dc4 pm4 cd4 ct4 : Value} {f4 : Addr} {od5 an5 : Option Addr} {sl5 : Array (Option Value)} {oc5 kV5 dc5 pm5 cd5 ct5 : Value} {f5 : Addr} {od6 an6 : Option Addr} {sl6 : Array (Option Value)} {oc6 kV6 dc6 pm6 cd6 ct6 : Value} {f6 : Addr} {od7 an7 : Option Addr} {sl7 : Array (Option Value)} {oc7 kV7 dc7 pm7 cd7 ct7 : Value} {f7 : Addr} {od8 an8 : Option Addr} {sl8 : Array (Option Value)} {oc8 kV8 dc8 pm8 cd8 ct8 : Value} {f8 : Addr} {od9 an9 : Option Addr} {sl9 : Array (Option Value)} {oc9 kV9 dc9 pm9 cd9 ct9 : Value} {f9 : Addr} {od10 an10 : Option Addr} {sl10 : Array (Option Value)} {oc10 kV10 dc10 pm10 cd10 ct10 : Value} {f10 : Addr} {od11 an11 : Option Addr} {sl11 : Array (Option Value)} {oc11 kV11 dc11 pm11 cd11 ct11 : Value} {f11 : Addr} {od12 an12 : Option Addr} {sl12 : Array (Option Value)} {oc12 kV12 dc12 pm12 cd12 ct12 : Value} {f12 : Addr} {od13 an13 : Option Addr} {sl13 : Array (Option Value)} {oc13 kV13 dc13 pm13 cd13 ct13 : Value} {f13 : Addr} {od14 an14 : Option Addr} {sl14 : Array (Option Value)} {oc14 kV14 dc14 pm14 cd14 ct14 : Value} {f14 : Addr} {od15 an15 : Option Addr} {sl15 : Array (Option Value)} {oc15 kV15 dc15 pm15 cd15 ct15 : Value} {f15 : Addr} {od16 an16 : Option Addr} {sl16 : Array (Option Value)} {oc16 kV16 dc16 pm16 cd16 ct16 : Value} {f16 : Addr} {od17 an17 : Option Addr} {sl17 : Array (Option Value)} {oc17 kV17 dc17 pm17 cd17 ct17 : Value} {f17 : Addr} {od18 an18 : Option Addr} {sl18 : Array (Option Value)} {oc18 kV18 dc18 pm18 cd18 ct18 : Value} {f18 : Addr} {od19 an19 : Option Addr} {sl19 : Array (Option Value)} {oc19 kV19 dc19 pm19 cd19 ct19 : Value} {f19 : Addr} {od20 an20 : Option Addr} {sl20 : Array (Option Value)} {oc20 kV20 dc20 pm20 cd20 ct20 : Value} {f20 : Addr} {od21 an21 : Option Addr} {sl21 : Array (Option Value)} {oc21 kV21 dc21 pm21 cd21 ct21 : Value} {f21 : Addr} {od22 an22 : Option Addr} {sl22 : Array (Option Value)} {oc22 kV22 dc22 pm22 cd22 ct22 : Value} {f22 : Addr} {od23 an23 : Option Addr} {sl23 : Array (Option Value)} {oc23 kV23 dc23 pm23 cd23 ct23 : Value} {f23 : Addr} {od24 an24 : Option Addr} {sl24 : Array (Option Value)} {oc24 kV24 dc24 pm24 cd24 ct24 : Value} {f24 : Addr} {od25 an25 : Option Addr} {sl25 : Array (Option Value)} {oc25 kV25 dc25 pm25 cd25 ct25 : Value} {f25 : Addr} {od26 an26 : Option Addr} {sl26 : Array (Option Value)} {oc26 kV26 dc26 pm26 cd26 ct26 : Value} {f26 : Addr} {od27 an27 : Option Addr} {sl27 : Array (Option Value)} {oc27 kV27 dc27 pm27 cd27 ct27 : Value} {f27 : Addr} {od28 an28 : Option Addr} {sl28 : Array (Option Value)} {oc28 kV28 dc28 pm28 cd28 ct28 : Value} {f28 : Addr} {od29 an29 : Option Addr} {sl29 : Array (Option Value)} {oc29 kV29 dc29 pm29 cd29 ct29 : Value} {f29 : Addr} {od30 an30 : Option Addr} {sl30 : Array (Option Value)} {oc30 kV30 dc30 pm30 cd30 ct30 : Value} {f30 : Addr} {od31 an31 : Option Addr} {sl31 : Array (Option Value)} {oc31 kV31 dc31 pm31 cd31 ct31 : Value} {f31 : Addr} {od32 an32 : Option Addr} {sl32 : Array (Option Value)} {oc32 kV32 dc32 pm32 cd32 ct32 : Value} {f32 : Addr} {od33 an33 : Option Addr} {sl33 : Array (Option Value)} {oc33 kV33 dc33 pm33 cd33 ct33 : Value} {f33 : Addr} {od34 an34 : Option Addr} {sl34 : Array (Option Value)} {oc34 kV34 dc34 pm34 cd34 ct34 : Value} {f34 : Addr} {od35 an35 : Option Addr} {sl35 : Array (Option Value)} {oc35 kV35 dc35 pm35 cd35 ct35 : Value} {f35 : Addr} {od36 an36 : Option Addr} {sl36 : Array (Option Value)} {oc36 kV36 dc36 pm36 cd36 ct36 : Value} {f36 : Addr} {t_FEWEST_CLUBS : Tok} {t_MOST_CLUBS : Tok} {t_MOST_ROUNDS : Tok} {eS : Addr} {e0 e1 e2 e3 e4 e5 e6 : Addr} {cI PI : Addr} {eT : Value} {ddT : Option Addr} {vsT : Array Value} {slT : Array (Option Value)}
    (sA : PySem.W.nsIn K mainGlobals "Season" = some (some (.ref eS))) (sM : PySem.W.makesIn K eS = true) (sK : PySem.W.keepIn K (.ref eS) = true) (sG : PySem.W.plainGet K eS Str.empty = true) (sD : PySem.W.hasDictIn K eS = true) (sP : PySem.W.plainOver K eS = true) (sS : PySem.W.findIn K (.ref eS) "__setattr__" = some (some (.builtin "object.__setattr__"))) (sC1 : PySem.W.findIn K (.ref eS) "_clubs" = some none) (sC2 : PySem.W.findIn K (.ref eS) "_stages" = some none)
    (a0 : PySem.W.nsIn K mainGlobals "need_clubs" = some (some (.ref f0))) (l0 : K.lookup f0 = some ⟨oc0, od0, .func (PySem.W.fnOf "need_clubs" "need_clubs" (defArgs s_need_clubs) (defBody s_need_clubs) (defScope s_need_clubs) .none kV0 dc0 pm0 an0 cd0 ct0), sl0⟩) (d0 : PySem.W.codeIn K cd0 "need_clubs" = true) (k0 : PySem.W.keepIn K (.ref f0) = true)
    (a1 : PySem.W.nsIn K mainGlobals "is_club" = some (some (.ref f1))) (l1 : K.lookup f1 = some ⟨oc1, od1, .func (PySem.W.fnOf "is_club" "is_club" (defArgs s_is_club) (defBody s_is_club) (defScope s_is_club) .none kV1 dc1 pm1 an1 cd1 ct1), sl1⟩) (d1 : PySem.W.codeIn K cd1 "is_club" = true) (k1 : PySem.W.keepIn K (.ref f1) = true)
    (a2 : PySem.W.nsIn K mainGlobals "is_game" = some (some (.ref f2))) (l2 : K.lookup f2 = some ⟨oc2, od2, .func (PySem.W.fnOf "is_game" "is_game" (defArgs s_is_game) (defBody s_is_game) (defScope s_is_game) .none kV2 dc2 pm2 an2 cd2 ct2), sl2⟩) (d2 : PySem.W.codeIn K cd2 "is_game" = true) (k2 : PySem.W.keepIn K (.ref f2) = true)
    (a3 : PySem.W.nsIn K mainGlobals "need_games" = some (some (.ref f3))) (l3 : K.lookup f3 = some ⟨oc3, od3, .func (PySem.W.fnOf "need_games" "need_games" (defArgs s_need_games) (defBody s_need_games) (defScope s_need_games) .none kV3 dc3 pm3 an3 cd3 ct3), sl3⟩) (d3 : PySem.W.codeIn K cd3 "need_games" = true) (k3 : PySem.W.keepIn K (.ref f3) = true)
    (a4 : PySem.W.nsIn K mainGlobals "need_rounds" = some (some (.ref f4))) (l4 : K.lookup f4 = some ⟨oc4, od4, .func (PySem.W.fnOf "need_rounds" "need_rounds" (defArgs s_need_rounds) (defBody s_need_rounds) (defScope s_need_rounds) .none kV4 dc4 pm4 an4 cd4 ct4), sl4⟩) (d4 : PySem.W.codeIn K cd4 "need_rounds" = true) (k4 : PySem.W.keepIn K (.ref f4) = true)
    (a5 : PySem.W.nsIn K mainGlobals "need_club" = some (some (.ref f5))) (l5 : K.lookup f5 = some ⟨oc5, od5, .func (PySem.W.fnOf "need_club" "need_club" (defArgs s_need_club) (defBody s_need_club) (defScope s_need_club) .none kV5 dc5 pm5 an5 cd5 ct5), sl5⟩) (d5 : PySem.W.codeIn K cd5 "need_club" = true) (k5 : PySem.W.keepIn K (.ref f5) = true)
    (a6 : PySem.W.nsIn K mainGlobals "need_two_clubs" = some (some (.ref f6))) (l6 : K.lookup f6 = some ⟨oc6, od6, .func (PySem.W.fnOf "need_two_clubs" "need_two_clubs" (defArgs s_need_two_clubs) (defBody s_need_two_clubs) (defScope s_need_two_clubs) .none kV6 dc6 pm6 an6 cd6 ct6), sl6⟩) (d6 : PySem.W.codeIn K cd6 "need_two_clubs" = true) (k6 : PySem.W.keepIn K (.ref f6) = true)
    (a7 : PySem.W.nsIn K mainGlobals "need_order" = some (some (.ref f7))) (l7 : K.lookup f7 = some ⟨oc7, od7, .func (PySem.W.fnOf "need_order" "need_order" (defArgs s_need_order) (defBody s_need_order) (defScope s_need_order) .none kV7 dc7 pm7 an7 cd7 ct7), sl7⟩) (d7 : PySem.W.codeIn K cd7 "need_order" = true) (k7 : PySem.W.keepIn K (.ref f7) = true)
    (a8 : PySem.W.nsIn K mainGlobals "moved" = some (some (.ref f8))) (l8 : K.lookup f8 = some ⟨oc8, od8, .func (PySem.W.fnOf "moved" "moved" (defArgs s_moved) (defBody s_moved) (defScope s_moved) .none kV8 dc8 pm8 an8 cd8 ct8), sl8⟩) (d8 : PySem.W.codeIn K cd8 "moved" = true) (k8 : PySem.W.keepIn K (.ref f8) = true)
    (a9 : PySem.W.nsIn K mainGlobals "turned_game" = some (some (.ref f9))) (l9 : K.lookup f9 = some ⟨oc9, od9, .func (PySem.W.fnOf "turned_game" "turned_game" (defArgs s_turned_game) (defBody s_turned_game) (defScope s_turned_game) .none kV9 dc9 pm9 an9 cd9 ct9), sl9⟩) (d9 : PySem.W.codeIn K cd9 "turned_game" = true) (k9 : PySem.W.keepIn K (.ref f9) = true)
    (a10 : PySem.W.nsIn K mainGlobals "turned" = some (some (.ref f10))) (l10 : K.lookup f10 = some ⟨oc10, od10, .func (PySem.W.fnOf "turned" "turned" (defArgs s_turned) (defBody s_turned) (defScope s_turned) .none kV10 dc10 pm10 an10 cd10 ct10), sl10⟩) (d10 : PySem.W.codeIn K cd10 "turned" = true) (k10 : PySem.W.keepIn K (.ref f10) = true)
    (a11 : PySem.W.nsIn K mainGlobals "exchanged" = some (some (.ref f11))) (l11 : K.lookup f11 = some ⟨oc11, od11, .func (PySem.W.fnOf "exchanged" "exchanged" (defArgs s_exchanged) (defBody s_exchanged) (defScope s_exchanged) .none kV11 dc11 pm11 an11 cd11 ct11), sl11⟩) (d11 : PySem.W.codeIn K cd11 "exchanged" = true) (k11 : PySem.W.keepIn K (.ref f11) = true)
    (a12 : PySem.W.nsIn K mainGlobals "without" = some (some (.ref f12))) (l12 : K.lookup f12 = some ⟨oc12, od12, .func (PySem.W.fnOf "without" "without" (defArgs s_without) (defBody s_without) (defScope s_without) .none kV12 dc12 pm12 an12 cd12 ct12), sl12⟩) (d12 : PySem.W.codeIn K cd12 "without" = true) (k12 : PySem.W.keepIn K (.ref f12) = true)
    (a13 : PySem.W.nsIn K mainGlobals "is_even" = some (some (.ref f13))) (l13 : K.lookup f13 = some ⟨oc13, od13, .func (PySem.W.fnOf "is_even" "is_even" (defArgs s_is_even) (defBody s_is_even) (defScope s_is_even) .none kV13 dc13 pm13 an13 cd13 ct13), sl13⟩) (d13 : PySem.W.codeIn K cd13 "is_even" = true) (k13 : PySem.W.keepIn K (.ref f13) = true)
    (a14 : PySem.W.nsIn K mainGlobals "ring_games" = some (some (.ref f14))) (l14 : K.lookup f14 = some ⟨oc14, od14, .func (PySem.W.fnOf "ring_games" "ring_games" (defArgs s_ring_games) (defBody s_ring_games) (defScope s_ring_games) .none kV14 dc14 pm14 an14 cd14 ct14), sl14⟩) (d14 : PySem.W.codeIn K cd14 "ring_games" = true) (k14 : PySem.W.keepIn K (.ref f14) = true)
    (a15 : PySem.W.nsIn K mainGlobals "last_club_game" = some (some (.ref f15))) (l15 : K.lookup f15 = some ⟨oc15, od15, .func (PySem.W.fnOf "last_club_game" "last_club_game" (defArgs s_last_club_game) (defBody s_last_club_game) (defScope s_last_club_game) .none kV15 dc15 pm15 an15 cd15 ct15), sl15⟩) (d15 : PySem.W.codeIn K cd15 "last_club_game" = true) (k15 : PySem.W.keepIn K (.ref f15) = true)
    (a16 : PySem.W.nsIn K mainGlobals "once_round" = some (some (.ref f16))) (l16 : K.lookup f16 = some ⟨oc16, od16, .func (PySem.W.fnOf "once_round" "once_round" (defArgs s_once_round) (defBody s_once_round) (defScope s_once_round) .none kV16 dc16 pm16 an16 cd16 ct16), sl16⟩) (d16 : PySem.W.codeIn K cd16 "once_round" = true) (k16 : PySem.W.keepIn K (.ref f16) = true)
    (a17 : PySem.W.nsIn K mainGlobals "_law_draw" = some (some (.ref f17))) (l17 : K.lookup f17 = some ⟨oc17, od17, .func (PySem.W.fnOf "_law_draw" "_law_draw" (defArgs s__law_draw) (defBody s__law_draw) (defScope s__law_draw) .none kV17 dc17 pm17 an17 cd17 ct17), sl17⟩) (d17 : PySem.W.codeIn K cd17 "_law_draw" = true) (k17 : PySem.W.keepIn K (.ref f17) = true)
    (a18 : PySem.W.nsIn K mainGlobals "_law_whole" = some (some (.ref f18))) (l18 : K.lookup f18 = some ⟨oc18, od18, .func (PySem.W.fnOf "_law_whole" "_law_whole" (defArgs s__law_whole) (defBody s__law_whole) (defScope s__law_whole) .none kV18 dc18 pm18 an18 cd18 ct18), sl18⟩) (d18 : PySem.W.codeIn K cd18 "_law_whole" = true) (k18 : PySem.W.keepIn K (.ref f18) = true)
    (a19 : PySem.W.nsIn K mainGlobals "_law_word" = some (some (.ref f19))) (l19 : K.lookup f19 = some ⟨oc19, od19, .func (PySem.W.fnOf "_law_word" "_law_word" (defArgs s__law_word) (defBody s__law_word) (defScope s__law_word) .none kV19 dc19 pm19 an19 cd19 ct19), sl19⟩) (d19 : PySem.W.codeIn K cd19 "_law_word" = true) (k19 : PySem.W.keepIn K (.ref f19) = true)
    (a20 : PySem.W.nsIn K mainGlobals "_law_told" = some (some (.ref f20))) (l20 : K.lookup f20 = some ⟨oc20, od20, .func (PySem.W.fnOf "_law_told" "_law_told" (defArgs s__law_told) (defBody s__law_told) (defScope s__law_told) .none kV20 dc20 pm20 an20 cd20 ct20), sl20⟩) (d20 : PySem.W.codeIn K cd20 "_law_told" = true) (k20 : PySem.W.keepIn K (.ref f20) = true)
    (a21 : PySem.W.nsIn K mainGlobals "_law_is" = some (some (.ref f21))) (l21 : K.lookup f21 = some ⟨oc21, od21, .func (PySem.W.fnOf "_law_is" "_law_is" (defArgs s__law_is) (defBody s__law_is) (defScope s__law_is) .none kV21 dc21 pm21 an21 cd21 ct21), sl21⟩) (d21 : PySem.W.codeIn K cd21 "_law_is" = true) (k21 : PySem.W.keepIn K (.ref f21) = true)
    (a22 : PySem.W.nsIn K mainGlobals "_law_deed" = some (some (.ref f22))) (l22 : K.lookup f22 = some ⟨oc22, od22, .func (PySem.W.fnOf "_law_deed" "_law_deed" (defArgs s__law_deed) (defBody s__law_deed) (defScope s__law_deed) .none kV22 dc22 pm22 an22 cd22 ct22), sl22⟩) (d22 : PySem.W.codeIn K cd22 "_law_deed" = true) (k22 : PySem.W.keepIn K (.ref f22) = true)
    (a23 : PySem.W.nsIn K mainGlobals "_law_turned" = some (some (.ref f23))) (l23 : K.lookup f23 = some ⟨oc23, od23, .func (PySem.W.fnOf "_law_turned" "_law_turned" (defArgs s__law_turned) (defBody s__law_turned) (defScope s__law_turned) .none kV23 dc23 pm23 an23 cd23 ct23), sl23⟩) (d23 : PySem.W.codeIn K cd23 "_law_turned" = true) (k23 : PySem.W.keepIn K (.ref f23) = true)
    (a24 : PySem.W.nsIn K mainGlobals "_law_due" = some (some (.ref f24))) (l24 : K.lookup f24 = some ⟨oc24, od24, .func (PySem.W.fnOf "_law_due" "_law_due" (defArgs s__law_due) (defBody s__law_due) (defScope s__law_due) .none kV24 dc24 pm24 an24 cd24 ct24), sl24⟩) (d24 : PySem.W.codeIn K cd24 "_law_due" = true) (k24 : PySem.W.keepIn K (.ref f24) = true)
    (a25 : PySem.W.findIn K (.ref eS) "many" = some (some (.ref f25))) (l25 : K.lookup f25 = some ⟨oc25, od25, .func (PySem.W.fnOf "many" "Season.many" (defArgs s_Season_many) (defBody s_Season_many) (defScope s_Season_many) .none kV25 dc25 pm25 an25 cd25 ct25), sl25⟩) (d25 : PySem.W.codeIn K cd25 "Season.many" = true) (k25 : PySem.W.keepIn K (.ref f25) = true) (m25 : PySem.W.isFn K (.ref f25) = true)
    (a26 : PySem.W.findIn K (.ref eS) "back" = some (some (.ref f26))) (l26 : K.lookup f26 = some ⟨oc26, od26, .func (PySem.W.fnOf "back" "Season.back" (defArgs s_Season_back) (defBody s_Season_back) (defScope s_Season_back) .none kV26 dc26 pm26 an26 cd26 ct26), sl26⟩) (d26 : PySem.W.codeIn K cd26 "Season.back" = true) (k26 : PySem.W.keepIn K (.ref f26) = true) (m26 : PySem.W.isFn K (.ref f26) = true)
    (a27 : PySem.W.findIn K (.ref eS) "move" = some (some (.ref f27))) (l27 : K.lookup f27 = some ⟨oc27, od27, .func (PySem.W.fnOf "move" "Season.move" (defArgs s_Season_move) (defBody s_Season_move) (defScope s_Season_move) .none kV27 dc27 pm27 an27 cd27 ct27), sl27⟩) (d27 : PySem.W.codeIn K cd27 "Season.move" = true) (k27 : PySem.W.keepIn K (.ref f27) = true) (m27 : PySem.W.isFn K (.ref f27) = true)
    (a28 : PySem.W.findIn K (.ref eS) "leave" = some (some (.ref f28))) (l28 : K.lookup f28 = some ⟨oc28, od28, .func (PySem.W.fnOf "leave" "Season.leave" (defArgs s_Season_leave) (defBody s_Season_leave) (defScope s_Season_leave) .none kV28 dc28 pm28 an28 cd28 ct28), sl28⟩) (d28 : PySem.W.codeIn K cd28 "Season.leave" = true) (k28 : PySem.W.keepIn K (.ref f28) = true) (m28 : PySem.W.isFn K (.ref f28) = true)
    (a29 : PySem.W.findIn K (.ref eS) "turn" = some (some (.ref f29))) (l29 : K.lookup f29 = some ⟨oc29, od29, .func (PySem.W.fnOf "turn" "Season.turn" (defArgs s_Season_turn) (defBody s_Season_turn) (defScope s_Season_turn) .none kV29 dc29 pm29 an29 cd29 ct29), sl29⟩) (d29 : PySem.W.codeIn K cd29 "Season.turn" = true) (k29 : PySem.W.keepIn K (.ref f29) = true) (m29 : PySem.W.isFn K (.ref f29) = true)
    (a30 : PySem.W.findIn K (.ref eS) "exchange" = some (some (.ref f30))) (l30 : K.lookup f30 = some ⟨oc30, od30, .func (PySem.W.fnOf "exchange" "Season.exchange" (defArgs s_Season_exchange) (defBody s_Season_exchange) (defScope s_Season_exchange) .none kV30 dc30 pm30 an30 cd30 ct30), sl30⟩) (d30 : PySem.W.codeIn K cd30 "Season.exchange" = true) (k30 : PySem.W.keepIn K (.ref f30) = true) (m30 : PySem.W.isFn K (.ref f30) = true)
    (a31 : PySem.W.nsIn K mainGlobals "_law_done" = some (some (.ref f31))) (l31 : K.lookup f31 = some ⟨oc31, od31, .func (PySem.W.fnOf "_law_done" "_law_done" (defArgs s__law_done) (defBody s__law_done) (defScope s__law_done) .none kV31 dc31 pm31 an31 cd31 ct31), sl31⟩) (d31 : PySem.W.codeIn K cd31 "_law_done" = true) (k31 : PySem.W.keepIn K (.ref f31) = true)
    (a32 : PySem.W.findIn K (.ref eS) "rounds" = some (some (.ref f32))) (l32 : K.lookup f32 = some ⟨oc32, od32, .func (PySem.W.fnOf "rounds" "Season.rounds" (defArgs s_Season_rounds) (defBody s_Season_rounds) (defScope s_Season_rounds) .none kV32 dc32 pm32 an32 cd32 ct32), sl32⟩) (d32 : PySem.W.codeIn K cd32 "Season.rounds" = true) (k32 : PySem.W.keepIn K (.ref f32) = true) (m32 : PySem.W.isFn K (.ref f32) = true)
    (a33 : PySem.W.findIn K (.ref eS) "clubs" = some (some (.ref f33))) (l33 : K.lookup f33 = some ⟨oc33, od33, .func (PySem.W.fnOf "clubs" "Season.clubs" (defArgs s_Season_clubs) (defBody s_Season_clubs) (defScope s_Season_clubs) .none kV33 dc33 pm33 an33 cd33 ct33), sl33⟩) (d33 : PySem.W.codeIn K cd33 "Season.clubs" = true) (k33 : PySem.W.keepIn K (.ref f33) = true) (m33 : PySem.W.isFn K (.ref f33) = true)
    (a34 : PySem.W.nsIn K mainGlobals "_law_right" = some (some (.ref f34))) (l34 : K.lookup f34 = some ⟨oc34, od34, .func (PySem.W.fnOf "_law_right" "_law_right" (defArgs s__law_right) (defBody s__law_right) (defScope s__law_right) .none kV34 dc34 pm34 an34 cd34 ct34), sl34⟩) (d34 : PySem.W.codeIn K cd34 "_law_right" = true) (k34 : PySem.W.keepIn K (.ref f34) = true)
    (a35 : PySem.W.findIn K (.ref eS) "__init__" = some (some (.ref f35))) (l35 : K.lookup f35 = some ⟨oc35, od35, .func (PySem.W.fnOf "__init__" "Season.__init__" (defArgs s_Season___init__) (defBody s_Season___init__) (defScope s_Season___init__) .none kV35 dc35 pm35 an35 cd35 ct35), sl35⟩) (d35 : PySem.W.codeIn K cd35 "Season.__init__" = true) (k35 : PySem.W.keepIn K (.ref f35) = true) (m35 : PySem.W.isFn K (.ref f35) = true)
    (a36 : PySem.W.nsIn K mainGlobals "law" = some (some (.ref f36))) (l36 : K.lookup f36 = some ⟨oc36, od36, .func (PySem.W.fnOf "law" "law" (defArgs s_law) (defBody s_law) (defScope s_law) .none kV36 dc36 pm36 an36 cd36 ct36), sl36⟩) (d36 : PySem.W.codeIn K cd36 "law" = true) (k36 : PySem.W.keepIn K (.ref f36) = true)
    (z_ValueError : PySem.W.nsIn K mainGlobals "ValueError" = some none)
    (z_all : PySem.W.nsIn K mainGlobals "all" = some none)
    (z_bool : PySem.W.nsIn K mainGlobals "bool" = some none)
    (z_int : PySem.W.nsIn K mainGlobals "int" = some none)
    (z_isinstance : PySem.W.nsIn K mainGlobals "isinstance" = some none)
    (z_len : PySem.W.nsIn K mainGlobals "len" = some none)
    (z_list : PySem.W.nsIn K mainGlobals "list" = some none)
    (z_range : PySem.W.nsIn K mainGlobals "range" = some none)
    (z_set : PySem.W.nsIn K mainGlobals "set" = some none)
    (z_sorted : PySem.W.nsIn K mainGlobals "sorted" = some none)
    (z_sum : PySem.W.nsIn K mainGlobals "sum" = some none)
    (z_tuple : PySem.W.nsIn K mainGlobals "tuple" = some none)
    (z_type : PySem.W.nsIn K mainGlobals "type" = some none)
    (q_FEWEST_CLUBS : PySem.W.nsIn K mainGlobals "FEWEST_CLUBS" = some (some (.int 2 t_FEWEST_CLUBS)))
    (q_MOST_CLUBS : PySem.W.nsIn K mainGlobals "MOST_CLUBS" = some (some (.int 20 t_MOST_CLUBS)))
    (q_MOST_ROUNDS : PySem.W.nsIn K mainGlobals "MOST_ROUNDS" = some (some (.int 40 t_MOST_ROUNDS)))
    (y0 : PySem.W.nsIn K mainGlobals "RoundError" = some (some (.ref e0)))
    (y1 : PySem.W.nsIn K mainGlobals "BadClubs" = some (some (.ref e1)))
    (y2 : PySem.W.nsIn K mainGlobals "BadRounds" = some (some (.ref e2)))
    (y3 : PySem.W.nsIn K mainGlobals "BadClub" = some (some (.ref e3)))
    (y4 : PySem.W.nsIn K mainGlobals "BadOrder" = some (some (.ref e4)))
    (y5 : PySem.W.nsIn K mainGlobals "BadText" = some (some (.ref e5)))
    (y6 : PySem.W.nsIn K mainGlobals "NothingDone" = some (some (.ref e6)))
    (xT : errT K (fun n : Nat => [e0, e1, e2, e3, e4, e5, e6].getD n 0) 7 = true)
    (hcI : cd7 = .ref cI) (kT : K.lookup cI = some ⟨eT, ddT, .fields vsT, slT⟩) (vT : vsT[11]? = some (.ref PI)) (nT : K.lookup PI = none) :
    LamX.LawAtS l w K (L2.CX l.prog w) 8 63 "_law_script" mg fa h := by
  letI EI : En := ⟨fun p => p = PI, (fun n : Nat => [e0, e1, e2, e3, e4, e5, e6].getD n 0), eS⟩
  have e := hfa.symm.trans (PySem.W.mg_of X G a36)
  cases e
  obtain ⟨hC, hP⟩ := nm_at T X (PySem.W.mg_of X G a7) l7 hcI kT vT
  have B : Bl K mg := ⟨PySem.W.mg_none_of X G z_ValueError, PySem.W.mg_none_of X G z_all, PySem.W.mg_none_of X G z_bool, PySem.W.mg_none_of X G z_int, PySem.W.mg_none_of X G z_isinstance, PySem.W.mg_none_of X G z_len, PySem.W.mg_none_of X G z_list, PySem.W.mg_none_of X G z_range, PySem.W.mg_none_of X G z_set, PySem.W.mg_none_of X G z_sorted, PySem.W.mg_none_of X G z_sum, PySem.W.mg_none_of X G z_tuple, PySem.W.mg_none_of X G z_type, ⟨_, PySem.W.mg_of X G q_FEWEST_CLUBS⟩, ⟨_, PySem.W.mg_of X G q_MOST_CLUBS⟩, ⟨_, PySem.W.mg_of X G q_MOST_ROUNDS⟩, PySem.W.mg_of X G y0, PySem.W.mg_of X G y1, PySem.W.mg_of X G y2, PySem.W.mg_of X G y3, PySem.W.mg_of X G y4, PySem.W.mg_of X G y5, PySem.W.mg_of X G y6, errOk xT, ⟨sG, sD, sP, sS⟩, sC1, sC2⟩
  have F0 := fun_mk (st := s_need_clubs) l0 d0 k0
  have F1 := fun_mk (st := s_is_club) l1 d1 k1
  have F2 := fun_mk (st := s_is_game) l2 d2 k2
  have F3 := fun_mk (st := s_need_games) l3 d3 k3
  have F4 := fun_mk (st := s_need_rounds) l4 d4 k4
  have F5 := fun_mk (st := s_need_club) l5 d5 k5
  have F6 := fun_mk (st := s_need_two_clubs) l6 d6 k6
  have F7 := fun_mk (st := s_need_order) l7 d7 k7
  have F8 := fun_mk (st := s_moved) l8 d8 k8
  have F9 := fun_mk (st := s_turned_game) l9 d9 k9
  have F10 := fun_mk (st := s_turned) l10 d10 k10
  have F11 := fun_mk (st := s_exchanged) l11 d11 k11
  have F12 := fun_mk (st := s_without) l12 d12 k12
  have F13 := fun_mk (st := s_is_even) l13 d13 k13
  have F14 := fun_mk (st := s_ring_games) l14 d14 k14
  have F15 := fun_mk (st := s_last_club_game) l15 d15 k15
  have F16 := fun_mk (st := s_once_round) l16 d16 k16
  have F17 := fun_mk (st := s__law_draw) l17 d17 k17
  have F18 := fun_mk (st := s__law_whole) l18 d18 k18
  have F19 := fun_mk (st := s__law_word) l19 d19 k19
  have F20 := fun_mk (st := s__law_told) l20 d20 k20
  have F21 := fun_mk (st := s__law_is) l21 d21 k21
  have F22 := fun_mk (st := s__law_deed) l22 d22 k22
  have F23 := fun_mk (st := s__law_turned) l23 d23 k23
  have F24 := fun_mk (st := s__law_due) l24 d24 k24
  have F25 := fun_mk (st := s_Season_many) l25 d25 k25
  have F26 := fun_mk (st := s_Season_back) l26 d26 k26
  have F27 := fun_mk (st := s_Season_move) l27 d27 k27
  have F28 := fun_mk (st := s_Season_leave) l28 d28 k28
  have F29 := fun_mk (st := s_Season_turn) l29 d29 k29
  have F30 := fun_mk (st := s_Season_exchange) l30 d30 k30
  have F31 := fun_mk (st := s__law_done) l31 d31 k31
  have F32 := fun_mk (st := s_Season_rounds) l32 d32 k32
  have F33 := fun_mk (st := s_Season_clubs) l33 d33 k33
  have F34 := fun_mk (st := s__law_right) l34 d34 k34
  have F35 := fun_mk (st := s_Season___init__) l35 d35 k35
  have F36 := fun_mk (st := s_law) l36 d36 k36
  refine ⟨PySem.W.fnOf "law" "law" (defArgs s_law) (defBody s_law) (defScope s_law) .none kV36 dc36 pm36 an36 cd36 ct36, [(cI, PI)], spX K En.cl 1 o_law, fun p hp => ?_, fun p hp => ?_, fun p hp => ?_, fun s v => .of_eq rfl, fun H a ns hl _ hT hS => law_start (P := PI) (fun p hp => hp) (hT (cI, PI) List.mem_cons_self) hS (law_true ns), fun base _ _ hTB => ?_⟩
  · rw [List.mem_singleton.mp hp]; exact hP
  · rw [List.mem_singleton.mp hp]; exact nT
  · rw [List.mem_singleton.mp hp]; exact hC
  have TB := tab_of (hTB (cI, PI) List.mem_cons_self)
  have C0 : Cal l.prog w K mg base 1 "need_clubs" (spX K En.cl 1 o_need_clubs) := ⟨⟨_, _, _, ok_need_clubs B F0 , PySem.W.mg_of X G a0, k0, F0.binds (ps := ["thing"]) fun _ _ _ _ _ _ us hl => match us, hl with | [_], _ => rfl⟩⟩
  have C1 : Cal l.prog w K mg base 1 "is_club" (spX K En.cl 2 o_is_club) := ⟨⟨_, _, _, ok_is_club B F1 , PySem.W.mg_of X G a1, k1, F1.binds (ps := ["clubs", "thing"]) fun _ _ _ _ _ _ us hl => match us, hl with | [_, _], _ => rfl⟩⟩
  have C2 : Cal l.prog w K mg base 2 "is_game" (spX K En.cl 2 o_is_game) := ⟨⟨_, _, _, ok_is_game B F2 C1, PySem.W.mg_of X G a2, k2, F2.binds (ps := ["clubs", "thing"]) fun _ _ _ _ _ _ us hl => match us, hl with | [_, _], _ => rfl⟩⟩
  have C3 : Cal l.prog w K mg base 3 "need_games" (spX K En.cl 2 o_need_games) := ⟨⟨_, _, _, ok_need_games B F3 C2, PySem.W.mg_of X G a3, k3, F3.binds (ps := ["clubs", "thing"]) fun _ _ _ _ _ _ us hl => match us, hl with | [_, _], _ => rfl⟩⟩
  have C4 : Cal l.prog w K mg base 4 "need_rounds" (spX K En.cl 2 o_need_rounds) := ⟨⟨_, _, _, ok_need_rounds B F4 C0 C3, PySem.W.mg_of X G a4, k4, F4.binds (ps := ["clubs", "thing"]) fun _ _ _ _ _ _ us hl => match us, hl with | [_, _], _ => rfl⟩⟩
  have C5 : Cal l.prog w K mg base 2 "need_club" (spX K En.cl 2 o_need_club) := ⟨⟨_, _, _, ok_need_club B F5 C1, PySem.W.mg_of X G a5, k5, F5.binds (ps := ["clubs", "thing"]) fun _ _ _ _ _ _ us hl => match us, hl with | [_, _], _ => rfl⟩⟩
  have C6 : Cal l.prog w K mg base 3 "need_two_clubs" (spX K En.cl 3 o_need_two_clubs) := ⟨⟨_, _, _, ok_need_two_clubs B F6 C5, PySem.W.mg_of X G a6, k6, F6.binds (ps := ["clubs", "one", "other"]) fun _ _ _ _ _ _ us hl => match us, hl with | [_, _, _], _ => rfl⟩⟩
  have C7 : Cal l.prog w K mg base 1 "need_order" (spX K En.cl 2 o_need_order) := ⟨⟨_, _, _, ok_need_order B F7 (cc := cI) (Pt := PI) hcI rfl TB , PySem.W.mg_of X G a7, k7, F7.binds (ps := ["many", "thing"]) fun _ _ _ _ _ _ us hl => match us, hl with | [_, _], _ => rfl⟩⟩
  have C8 : Cal l.prog w K mg base 5 "moved" (spN2 K En.cl 3 o_moved) := ⟨⟨_, _, _, ok_moved B F8 C4 C7, PySem.W.mg_of X G a8, k8, F8.binds (ps := ["clubs", "rounds", "order"]) fun _ _ _ _ _ _ us hl => match us, hl with | [_, _, _], _ => rfl⟩⟩
  have C9 : Cal l.prog w K mg base 1 "turned_game" (spX K En.cl 3 o_turned_game) := ⟨⟨_, _, _, ok_turned_game B F9 , PySem.W.mg_of X G a9, k9, F9.binds (ps := ["game", "one", "other"]) fun _ _ _ _ _ _ us hl => match us, hl with | [_, _, _], _ => rfl⟩⟩
  have C10 : Cal l.prog w K mg base 5 "turned" (spN2 K En.cl 4 o_turned) := ⟨⟨_, _, _, ok_turned B F10 C4 C6 C9, PySem.W.mg_of X G a10, k10, F10.binds (ps := ["clubs", "rounds", "one", "other"]) fun _ _ _ _ _ _ us hl => match us, hl with | [_, _, _, _], _ => rfl⟩⟩
  have C11 : Cal l.prog w K mg base 5 "exchanged" (spN2 K En.cl 4 o_exchanged) := ⟨⟨_, _, _, ok_exchanged B F11 C4 C6, PySem.W.mg_of X G a11, k11, F11.binds (ps := ["clubs", "rounds", "one", "other"]) fun _ _ _ _ _ _ us hl => match us, hl with | [_, _, _, _], _ => rfl⟩⟩
  have C12 : Cal l.prog w K mg base 5 "without" (spN2 K En.cl 3 o_without) := ⟨⟨_, _, _, ok_without B F12 C4 C5, PySem.W.mg_of X G a12, k12, F12.binds (ps := ["clubs", "rounds", "club"]) fun _ _ _ _ _ _ us hl => match us, hl with | [_, _, _], _ => rfl⟩⟩
  have C13 : Cal l.prog w K mg base 1 "is_even" (spX K En.cl 1 o_is_even) := ⟨⟨_, _, _, ok_is_even B F13 , PySem.W.mg_of X G a13, k13, F13.binds (ps := ["number"]) fun _ _ _ _ _ _ us hl => match us, hl with | [_], _ => rfl⟩⟩
  have C14 : Cal l.prog w K mg base 2 "ring_games" (spN K En.cl 2 o_ring_games) := ⟨⟨_, _, _, ok_ring_games B F14 C13, PySem.W.mg_of X G a14, k14, F14.binds (ps := ["ring", "turn"]) fun _ _ _ _ _ _ us hl => match us, hl with | [_, _], _ => rfl⟩⟩
  have C15 : Cal l.prog w K mg base 2 "last_club_game" (spX K En.cl 2 o_last_club_game) := ⟨⟨_, _, _, ok_last_club_game B F15 C13, PySem.W.mg_of X G a15, k15, F15.binds (ps := ["last", "turn"]) fun _ _ _ _ _ _ us hl => match us, hl with | [_, _], _ => rfl⟩⟩
  have C16 : Cal l.prog w K mg base 3 "once_round" (spN2 K En.cl 1 o_once_round) := ⟨⟨_, _, _, ok_once_round B F16 C0 C13 C15 C14, PySem.W.mg_of X G a16, k16, F16.binds (ps := ["clubs"]) fun _ _ _ _ _ _ us hl => match us, hl with | [_], _ => rfl⟩⟩
  have C17 : Cal l.prog w K mg base 1 "_law_draw" (spX K En.cl 2 o__law_draw) := ⟨⟨_, _, _, ok__law_draw B F17 , PySem.W.mg_of X G a17, k17, F17.binds (ps := ["_law_script", "_law_k"]) fun _ _ _ _ _ _ us hl => match us, hl with | [_, _], _ => rfl⟩⟩
  have C18 : Cal l.prog w K mg base 1 "_law_whole" (spX K En.cl 1 o__law_whole) := ⟨⟨_, _, _, ok__law_whole B F18 , PySem.W.mg_of X G a18, k18, F18.binds (ps := ["_law_found"]) fun _ _ _ _ _ _ us hl => match us, hl with | [_], _ => rfl⟩⟩
  have C19 : Cal l.prog w K mg base 1 "_law_word" (spX K En.cl 1 o__law_word) := ⟨⟨_, _, _, ok__law_word B F19 , PySem.W.mg_of X G a19, k19, F19.binds (ps := ["_law_e"]) fun _ _ _ _ _ _ us hl => match us, hl with | [_], _ => rfl⟩⟩
  have C20 : Cal l.prog w K mg base 1 "_law_told" (spX K En.cl 1 o__law_told) := ⟨⟨_, _, _, ok__law_told B F20 , PySem.W.mg_of X G a20, k20, F20.binds (ps := ["_law_rounds"]) fun _ _ _ _ _ _ us hl => match us, hl with | [_], _ => rfl⟩⟩
  have C21 : Cal l.prog w K mg base 2 "_law_is" (spX K En.cl 2 o__law_is) := ⟨⟨_, _, _, ok__law_is B F21 C18, PySem.W.mg_of X G a21, k21, F21.binds (ps := ["_law_found", "_law_due_here"]) fun _ _ _ _ _ _ us hl => match us, hl with | [_, _], _ => rfl⟩⟩
  have C22 : Cal l.prog w K mg base 1 "_law_deed" (spX K En.cl 3 o__law_deed) := ⟨⟨_, _, _, ok__law_deed B F22 , PySem.W.mg_of X G a22, k22, F22.binds (ps := ["_law_clubs", "_law_many", "_law_number"]) fun _ _ _ _ _ _ us hl => match us, hl with | [_, _, _], _ => rfl⟩⟩
  have C23 : Cal l.prog w K mg base 1 "_law_turned" (spX K En.cl 2 o__law_turned) := ⟨⟨_, _, _, ok__law_turned B F23 , PySem.W.mg_of X G a23, k23, F23.binds (ps := ["_law_game", "_law_pair"]) fun _ _ _ _ _ _ us hl => match us, hl with | [_, _], _ => rfl⟩⟩
  have C24 : Cal l.prog w K mg base 2 "_law_due" (spM K En.cl 3 1 o__law_due) := ⟨⟨_, _, _, ok__law_due B F24 C18 C23, PySem.W.mg_of X G a24, k24, F24.binds (ps := ["_law_clubs", "_law_past", "_law_deed_here"]) fun _ _ _ _ _ _ us hl => match us, hl with | [_, _, _], _ => rfl⟩⟩
  have C25 : Cam l.prog w K mg base 1 "many" (spX K En.cl 1 o_Season_many) := ⟨⟨_, _, _, ok_Season_many B F25 , ⟨a25, m25, k25⟩, F25.binds (ps := ["self"]) fun _ _ _ _ _ _ us hl => match us, hl with | [_], _ => rfl⟩⟩
  have C26 : Cam l.prog w K mg base 2 "back" (spM K En.cl 1 0 o_Season_back) := ⟨⟨_, _, _, ok_Season_back B F26 C25, ⟨a26, m26, k26⟩, F26.binds (ps := ["self"]) fun _ _ _ _ _ _ us hl => match us, hl with | [_], _ => rfl⟩⟩
  have C27 : Cam l.prog w K mg base 6 "move" (spM K En.cl 2 0 o_Season_move) := ⟨⟨_, _, _, ok_Season_move B F27 C8, ⟨a27, m27, k27⟩, F27.binds (ps := ["self", "order"]) fun _ _ _ _ _ _ us hl => match us, hl with | [_, _], _ => rfl⟩⟩
  have C28 : Cam l.prog w K mg base 6 "leave" (spM K En.cl 2 0 o_Season_leave) := ⟨⟨_, _, _, ok_Season_leave B F28 C12, ⟨a28, m28, k28⟩, F28.binds (ps := ["self", "club"]) fun _ _ _ _ _ _ us hl => match us, hl with | [_, _], _ => rfl⟩⟩
  have C29 : Cam l.prog w K mg base 6 "turn" (spM K En.cl 3 0 o_Season_turn) := ⟨⟨_, _, _, ok_Season_turn B F29 C10, ⟨a29, m29, k29⟩, F29.binds (ps := ["self", "one", "other"]) fun _ _ _ _ _ _ us hl => match us, hl with | [_, _, _], _ => rfl⟩⟩
  have C30 : Cam l.prog w K mg base 6 "exchange" (spM K En.cl 3 0 o_Season_exchange) := ⟨⟨_, _, _, ok_Season_exchange B F30 C11, ⟨a30, m30, k30⟩, F30.binds (ps := ["self", "one", "other"]) fun _ _ _ _ _ _ us hl => match us, hl with | [_, _, _], _ => rfl⟩⟩
  have C31 : Cal l.prog w K mg base 7 "_law_done" (spM K En.cl 2 0 o__law_done) := ⟨⟨_, _, _, ok__law_done B F31 C26 C27 C28 C29 C30 C19, PySem.W.mg_of X G a31, k31, F31.binds (ps := ["_law_season", "_law_deed_here"]) fun _ _ _ _ _ _ us hl => match us, hl with | [_, _], _ => rfl⟩⟩
  have C32 : Cam l.prog w K mg base 1 "rounds" (spN2 K En.cl 1 o_Season_rounds) := ⟨⟨_, _, _, ok_Season_rounds B F32 , ⟨a32, m32, k32⟩, F32.binds (ps := ["self"]) fun _ _ _ _ _ _ us hl => match us, hl with | [_], _ => rfl⟩⟩
  have C33 : Cam l.prog w K mg base 1 "clubs" (spX K En.cl 1 o_Season_clubs) := ⟨⟨_, _, _, ok_Season_clubs B F33 , ⟨a33, m33, k33⟩, F33.binds (ps := ["self"]) fun _ _ _ _ _ _ us hl => match us, hl with | [_], _ => rfl⟩⟩
  have C34 : Cal l.prog w K mg base 3 "_law_right" (spX K En.cl 4 o__law_right) := ⟨⟨_, _, _, ok__law_right B F34 C33 C18 C25 C32 C20 C21, PySem.W.mg_of X G a34, k34, F34.binds (ps := ["_law_season", "_law_clubs", "_law_past", "_law_turn"]) fun _ _ _ _ _ _ us hl => match us, hl with | [_, _, _, _], _ => rfl⟩⟩
  have CM35 : Mks l.prog w K mg base 4 "Season" En.sc (spM K En.cl 2 0 o_Season___init__) := ⟨⟨_, _, _, ok_Season___init__ B F35 C16, ⟨sM, a35, m35, sK⟩, PySem.W.mg_of X G sA, F35.binds (ps := ["self", "clubs"]) fun _ _ _ _ _ _ us hl => match us, hl with | [_, _], _ => rfl⟩⟩
  exact ok_law B F36 C17 CM35 C16 C34 C22 C31 C24
end K08
open PySem PySem.W PyProof.Rows
set_option maxRecDepth 100000 in
set_option maxHeartbeats 0 in
theorem PySem.Challenge.cw_roundlist_k08_seasons_holds : PySem.Challenge.rw_roundlist_k08_seasons.Holds := by
  w_on; o_law; k_head; (case hw => w_witness2)
  k_fill
  refine Dn.walk_ofNm (l := PySem.Challenge.rw_roundlist_k08_seasons) (n := 63) (k := 8) (x := "_law_script") (CX := fun w => L2.CX PySem.Challenge.rw_roundlist_k08_seasons.prog w) "need_order" rfl (by decide) rfl ⟨rfl, by decide, by decide⟩ (by decide +kernel) (fun w h Y => PySem.W.kIn_of Y) ?F (fun _ _ _ _ _ h => by obtain ⟨_, _, _, _, _, _, _, _, _, _, _, _, z⟩ := h; exact z)
  case F =>
    intro w mg fa h Y KX G hmg T
    refine' K08.all_mk (l := PySem.Challenge.rw_roundlist_k08_seasons) KX G hmg T ?sA ?sM ?sK ?sG ?sD ?sP ?sS ?sC1 ?sC2 ?a0 ?l0 ?d0 ?k0 ?a1 ?l1 ?d1 ?k1 ?a2 ?l2 ?d2 ?k2 ?a3 ?l3 ?d3 ?k3 ?a4 ?l4 ?d4 ?k4 ?a5 ?l5 ?d5 ?k5 ?a6 ?l6 ?d6 ?k6 ?a7 ?l7 ?d7 ?k7 ?a8 ?l8 ?d8 ?k8 ?a9 ?l9 ?d9 ?k9 ?a10 ?l10 ?d10 ?k10 ?a11 ?l11 ?d11 ?k11 ?a12 ?l12 ?d12 ?k12 ?a13 ?l13 ?d13 ?k13 ?a14 ?l14 ?d14 ?k14 ?a15 ?l15 ?d15 ?k15 ?a16 ?l16 ?d16 ?k16 ?a17 ?l17 ?d17 ?k17 ?a18 ?l18 ?d18 ?k18 ?a19 ?l19 ?d19 ?k19 ?a20 ?l20 ?d20 ?k20 ?a21 ?l21 ?d21 ?k21 ?a22 ?l22 ?d22 ?k22 ?a23 ?l23 ?d23 ?k23 ?a24 ?l24 ?d24 ?k24 ?a25 ?l25 ?d25 ?k25 ?m25 ?a26 ?l26 ?d26 ?k26 ?m26 ?a27 ?l27 ?d27 ?k27 ?m27 ?a28 ?l28 ?d28 ?k28 ?m28 ?a29 ?l29 ?d29 ?k29 ?m29 ?a30 ?l30 ?d30 ?k30 ?m30 ?a31 ?l31 ?d31 ?k31 ?a32 ?l32 ?d32 ?k32 ?m32 ?a33 ?l33 ?d33 ?k33 ?m33 ?a34 ?l34 ?d34 ?k34 ?a35 ?l35 ?d35 ?k35 ?m35 ?a36 ?l36 ?d36 ?k36 ?z_ValueError ?z_all ?z_bool ?z_int ?z_isinstance ?z_len ?z_list ?z_range ?z_set ?z_sorted ?z_sum ?z_tuple ?z_type ?q_FEWEST_CLUBS ?q_MOST_CLUBS ?q_MOST_ROUNDS ?y0 ?y1 ?y2 ?y3 ?y4 ?y5 ?y6 ?xT ?hcI ?kT ?vT ?nT
    (case sA => k_is); (case sM => k_is); (case sK => k_is); (case sG => k_is); (case sD => k_is); (case sP => k_is)
    (case sS => k_is); (case sC1 => k_is); (case sC2 => k_is); (case a0 => k_is); (case l0 => k_is); (case d0 => k_is)
    (case k0 => k_is); (case a1 => k_is); (case l1 => k_is); (case d1 => k_is); (case k1 => k_is); (case a2 => k_is)
    (case l2 => k_is); (case d2 => k_is); (case k2 => k_is); (case a3 => k_is); (case l3 => k_is); (case d3 => k_is)
    (case k3 => k_is); (case a4 => k_is); (case l4 => k_is); (case d4 => k_is); (case k4 => k_is); (case a5 => k_is)
    (case l5 => k_is); (case d5 => k_is); (case k5 => k_is); (case a6 => k_is); (case l6 => k_is); (case d6 => k_is)
    (case k6 => k_is); (case a7 => k_is); (case l7 => k_is); (case d7 => k_is); (case k7 => k_is); (case a8 => k_is)
    (case l8 => k_is); (case d8 => k_is); (case k8 => k_is); (case a9 => k_is); (case l9 => k_is); (case d9 => k_is)
    (case k9 => k_is); (case a10 => k_is); (case l10 => k_is); (case d10 => k_is); (case k10 => k_is); (case a11 => k_is)
    (case l11 => k_is); (case d11 => k_is); (case k11 => k_is); (case a12 => k_is); (case l12 => k_is); (case d12 => k_is)
    (case k12 => k_is); (case a13 => k_is); (case l13 => k_is); (case d13 => k_is); (case k13 => k_is); (case a14 => k_is)
    (case l14 => k_is); (case d14 => k_is); (case k14 => k_is); (case a15 => k_is); (case l15 => k_is); (case d15 => k_is)
    (case k15 => k_is); (case a16 => k_is); (case l16 => k_is); (case d16 => k_is); (case k16 => k_is); (case a17 => k_is)
    (case l17 => k_is); (case d17 => k_is); (case k17 => k_is); (case a18 => k_is); (case l18 => k_is); (case d18 => k_is)
    (case k18 => k_is); (case a19 => k_is); (case l19 => k_is); (case d19 => k_is); (case k19 => k_is); (case a20 => k_is)
    (case l20 => k_is); (case d20 => k_is); (case k20 => k_is); (case a21 => k_is); (case l21 => k_is); (case d21 => k_is)
    (case k21 => k_is); (case a22 => k_is); (case l22 => k_is); (case d22 => k_is); (case k22 => k_is); (case a23 => k_is)
    (case l23 => k_is); (case d23 => k_is); (case k23 => k_is); (case a24 => k_is); (case l24 => k_is); (case d24 => k_is)
    (case k24 => k_is); (case a25 => k_is); (case l25 => k_is); (case d25 => k_is); (case k25 => k_is); (case m25 => k_is)
    (case a26 => k_is); (case l26 => k_is); (case d26 => k_is); (case k26 => k_is); (case m26 => k_is); (case a27 => k_is)
    (case l27 => k_is); (case d27 => k_is); (case k27 => k_is); (case m27 => k_is); (case a28 => k_is); (case l28 => k_is)
    (case d28 => k_is); (case k28 => k_is); (case m28 => k_is); (case a29 => k_is); (case l29 => k_is); (case d29 => k_is)
    (case k29 => k_is); (case m29 => k_is); (case a30 => k_is); (case l30 => k_is); (case d30 => k_is); (case k30 => k_is)
    (case m30 => k_is); (case a31 => k_is); (case l31 => k_is); (case d31 => k_is); (case k31 => k_is); (case a32 => k_is)
    (case l32 => k_is); (case d32 => k_is); (case k32 => k_is); (case m32 => k_is); (case a33 => k_is); (case l33 => k_is)
    (case d33 => k_is); (case k33 => k_is); (case m33 => k_is); (case a34 => k_is); (case l34 => k_is); (case d34 => k_is)
    (case k34 => k_is); (case a35 => k_is); (case l35 => k_is); (case d35 => k_is); (case k35 => k_is); (case m35 => k_is)
    (case a36 => k_is); (case l36 => k_is); (case d36 => k_is); (case k36 => k_is); (case z_ValueError => k_is); (case z_all => k_is)
    (case z_bool => k_is); (case z_int => k_is); (case z_isinstance => k_is); (case z_len => k_is); (case z_list => k_is); (case z_range => k_is)
    (case z_set => k_is); (case z_sorted => k_is); (case z_sum => k_is); (case z_tuple => k_is); (case z_type => k_is); (case q_FEWEST_CLUBS => k_is)
    (case q_MOST_CLUBS => k_is); (case q_MOST_ROUNDS => k_is); (case y0 => k_is); (case y1 => k_is); (case y2 => k_is); (case y3 => k_is)
    (case y4 => k_is); (case y5 => k_is); (case y6 => k_is); (case xT => first | rfl | kernel_rfl); (case hcI => exact rfl); (case kT => k_is)
    (case vT => exact rfl); (case nT => first | rfl | kernel_rfl)
#print axioms PySem.Challenge.cw_roundlist_k08_seasons_holds
