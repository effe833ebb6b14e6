import PyProof.Rows.All
import Wide.All
import OpenK.AllK
import Wide.FinOn
import PyProof.ListStr
import HandS.Base
import HandS.Call
import HandS.List
import HandS.Comp
import HandS.Ends
import HandS.Dict
import HandS.Iter
import HandS.Text
import HandS.Exc
import HandS.Words
import HandS.WordsList
import HandS.Flow
import HandS.Style
import HandS.NoneIn
import HandS.IsInst
import HandS.Wide
import HandS.Evl
import HandS.Codes
import PySem.Challenge.RW_handedcopies_k06_bounds_of_texts
import KE.KStateDown
import Lean
import HandS.Defaults
import HandS.Head0
import HandS.Head1
import HandS.Head2
import HandS.HeadEnd
import HandS.HeadHook1
import HandS.HeadHook2
import HandS.HeadHook4
import HandS.Property
import KE.KExcInit
import KE.KIsAll
import HandS.ExcOwn
import HandS.ExcInit
import HandS.ExcField
import HandS.ExcIs
import HandS.ExcValue
import PyProof.ExcBaseAll.ValueError
import PyProof.ExcBaseAll.RuntimeError
import PyProof.Draws
import PyProof.EnumMake
import HandS.StrMore
import PyProof.StrOps2
import HandS.More
import HandS.WordsDict
import KE.KDictPairs
import HandS.Deep
import HandS.WordsExc
import HandS.Conv
import HandS.Walk
set_option Elab.async false
set_option linter.all false
set_option maxRecDepth 100000
/-! module HcBase -/
set_option maxHeartbeats 4000000
/-! Rules that hold for any program: xs[i] read by values, list(a text), frames of what stays. -/
namespace Hc
open PySem PySem.Spec PyProof.Rows L2

/-- all that was tracked outside S is as it was -/
def Ext (S : Addr → Prop) (H H' : Hp) : Prop := ∀ b o, H b = some o → ¬ S b → H' b = some o
theorem Ext.refl (S : Addr → Prop) (H : Hp) : Ext S H H := fun _ _ h _ => h
theorem Ext.trans {S : Addr → Prop} {H H1 H2 : Hp} (a : Ext S H H1) (b : Ext S H1 H2) : Ext S H H2 := fun c o h n => b c o (a c o h n) n
theorem Ext.mono {S T : Addr → Prop} {H H1 : Hp} (a : Ext S H H1) (h : ∀ b, S b → T b) : Ext T H H1 := fun c o e n => a c o e fun z => n (h c z)
theorem Ext.same {S : Addr → Prop} {H H1 : Hp} (a : Same H H1) : Ext S H H1 := fun c o e _ => a c o e
theorem Ext.new {S : Addr → Prop} {H : Hp} {p : Addr} {o : HO} (h : H p = none) : Ext S H (upd H p o) := fun b x e _ => by
  rw [upd_ne (ne_of_none e h)]
  exact e
theorem Ext.put {S : Addr → Prop} {H : Hp} {p : Addr} {o : HO} (h : S p) : Ext S H (upd H p o) := fun b x e n => by
  rw [upd_ne (fun z => n (by rw [z]; exact h))]
  exact e
theorem same_new {H : Hp} {p : Addr} {o : HO} (h : H p = none) : Same H (upd H p o) := fun b x e => by
  rw [upd_ne (ne_of_none e h)]
  exact e
/-- what is new in H' was free in H or lay in S -/
theorem Ext.free {S : Addr → Prop} {H H' : Hp} (e : Ext S H H') {l : Addr} (h : H' l = none) (hs : ¬ S l) : H l = none := by
  cases q : H l with
  | none => rfl
  | some o =>
    rw [e l o q hs] at h
    cases h
theorem Ext.seq {S : Addr → Prop} {K : PySem.W.Frag} {H H' : Hp} {a : Addr} {xs : List V} (e : Ext S H H') (n : ¬ S a) (h : SqL K H a xs) : SqL K H' a xs := by
  rcases h with (h | ⟨o, h⟩) | h
  · exact .inl (.inl (e _ _ h n))
  · exact .inl (.inr ⟨o, e _ _ h n⟩)
  · exact .inr h
theorem Ext.seqT {S : Addr → Prop} {K : PySem.W.Frag} {H H' : Hp} {a : Addr} {xs : List V} (e : Ext S H H') (n : ¬ S a) (h : SqT K H a xs) : SqT K H' a xs := by
  rcases h with (h | ⟨o, h⟩) | h
  · exact .inl (.inl (e _ _ h n))
  · exact .inl (.inr ⟨o, e _ _ h n⟩)
  · exact .inr h

section
variable {X : Cx}
/-- xs[i] by values, for xs[i] op= e -/
theorem pg_list : PGet X (rIxL X.K) := by
  intro pins s σ H x y v u Q I rx ry h
  obtain ⟨p, xs, i, z, rfl, rfl, hq, he, q⟩ := h
  cases rx
  obtain ⟨t, rfl⟩ := ry
  obtain ⟨its, r, pl, hz⟩ := I.list hq
  obtain ⟨j, h1, h2, h3, h4, h5⟩ := atI_get he
  obtain ⟨w, ew, rw'⟩ := r.get h2
  have hl := r.length
  have hn := line63
  have fin : EP X pins σ Q w s := ⟨z, H, I, rw', q⟩
  by_cases h0 : 0 ≤ i
  · have hj : i.toNat = j := by
      rw [seqIndex_of h0 h5] at h1
      exact Option.some.inj h1
    exact wpAny_getItem_list pl.isList h0 (by omega) (by rw [hj]; simpa using ew) fin
  · have hj : (i + (its.toArray.size : Int)).toNat = j := by
      rw [seqIndex_neg (by omega) h4] at h1
      rw [List.size_toArray, ← hl]
      exact Option.some.inj h1
    exact wpAny_getItem_list_neg pl.isList (by omega) (by rw [List.size_toArray] <;> omega) (by omega) (by rw [hj]; simpa using ew) fin
/-- the signs of a text, each a text -/
def signs (x : Str) : List V := x.cps.toList.map fun c => V.str ⟨#[c]⟩
theorem vals_signs {x : Str} {acc : Array Value} (h : ItemsOf (SignAt x) acc x.cps.size) : Vals (signs x) acc.toList := by
  obtain ⟨hs, hi⟩ := h
  have key : ∀ (cs : List Nat) (us : List Value), cs.length = us.length → (∀ (j : Nat) (v : Value), us[j]? = some v → ∃ c u, cs[j]? = some c ∧ v = .str ⟨#[c]⟩ u) → Vals (cs.map fun c => V.str ⟨#[c]⟩) us := by
    intro cs
    induction cs with
    | nil =>
      intro us hl _
      cases us with
      | nil => exact .nil
      | cons u r => simp at hl
    | cons c cs ih =>
      intro us hl hx
      cases us with
      | nil => simp at hl
      | cons u r =>
        obtain ⟨c', t, e1, e2⟩ := hx 0 u rfl
        have e1' : c = c' := by simpa using e1
        subst e1'
        exact .cons ⟨t, e2⟩ (ih r (by simpa using hl) fun j v e => by
          obtain ⟨c2, t2, q1, q2⟩ := hx (j + 1) v (by simpa using e)
          exact ⟨c2, t2, by simpa using q1, q2⟩)
  refine key x.cps.toList acc.toList (by simp [hs]) fun j v e => ?_
  obtain ⟨c, u, e1, e2⟩ := hi j v (by rw [← Array.getElem?_toList]; exact e)
  exact ⟨c, u, by rw [Array.getElem?_toList]; exact e1, e2⟩
/-- list(a text): a new list of its signs -/
theorem call_listS (hc : X.calm = true) : CallR X (.type "list") (fun xs H Q => ∃ x : Str, xs = [.str x] ∧ x.cps.size ≤ sizeLine ∧ ∀ l, H l = none → Q (.ref l) (upd H l (.lst (signs x)))) := by
  intro pins s σ H xs us Q I r h
  obtain ⟨x, rfl, hz, q⟩ := h
  obtain ⟨u, rfl, t, rfl⟩ := vals1 r
  refine call_list_str (I.ok.hd hc) x t (fun h' tk acc' c' k hS hi => ?_) hz
  have rv := vals_signs hi
  refine ⟨.ref s.heap.objs.size, upd H s.heap.objs.size (.lst (signs x)), I.laid (t' := tk) k (Nat.le_refl _) ⟨?_, acc'.toList, c', rv, ?_⟩, rfl, q _ (I.hok.fresh (Nat.le_refl _))⟩
  · unfold signs
    rw [List.length_map, Array.length_toList]
    exact hz
  · rw [hS]
end

/-! ### comprehensions over a list whose items are told by things of any kind -/
open Evl in
theorem given_map {α : Type} (d : α) (p : α → Bool) (h : α → V) : ∀ ns : List α, given ns.length (fun i => p (ns.getD i d)) (fun i => h (ns.getD i d)) = (ns.filter p).map h := by
  have key : ∀ (r l : List α), given (l ++ r).length (fun i => p ((l ++ r).getD i d)) (fun i => h ((l ++ r).getD i d)) = given l.length (fun i => p ((l ++ r).getD i d)) (fun i => h ((l ++ r).getD i d)) ++ (r.filter p).map h := by
    intro r
    induction r with
    | nil =>
      intro l
      simp
    | cons x r ih =>
      intro l
      have e : l ++ x :: r = (l ++ [x]) ++ r := by simp
      rw [e, ih (l ++ [x])]
      have hx : ((l ++ [x]) ++ r).getD l.length d = x := by simp
      rw [show (l ++ [x]).length = l.length + 1 by simp]
      cases hp : p x with
      | true =>
        rw [given_yes (by rw [hx]; exact hp), hx, List.filter_cons_of_pos hp]
        simp
      | false =>
        rw [given_no (by rw [hx]; exact hp), List.filter_cons_of_neg (by simp [hp])]
  intro ns
  have e := key ns []
  simpa [given] using e
section
open Evl
variable {K : PySem.W.Frag} {σ : L2.St} {H : Hp} {te : TE} {t : TT}
theorem get_map {α : Type} {ns : List α} {f : α → V} {i : Nat} {x : V} (h : (ns.map f)[i]? = some x) (d : α) : ∃ y, ns[i]? = some y ∧ x = f y ∧ ns.getD i d = y ∧ y ∈ ns := by
  rw [List.getElem?_map] at h
  cases e : ns[i]? with
  | none =>
    rw [e] at h
    cases h
  | some y =>
    rw [e] at h
    exact ⟨y, rfl, (Option.some.inj h).symm, by rw [List.getD_eq_getElem?_getD, e]; rfl, List.mem_of_getElem? e⟩
/-- [te for x in a if t], a a list that stands -/
theorem el_map {α : Type} {a : Addr} {tl : TE} {j : Nat} {vs : List Nat} (ns : List α) (f : α → V) (p : α → Bool) (h : α → V) (hl : Ev tl σ H (.ref a)) (hx : SqL K H a (ns.map f)) (hz : ns.length ≤ 40000) (hw : ∀ x, wipe ((wipe σ vs).set j (some x)) vs = wipe σ vs)
    (ht : ∀ x H1, Ex H H1 → x ∈ ns → EvT t ((wipe σ vs).set j (some (f x))) H1 (p x)) (he : ∀ x H1, Ex H H1 → x ∈ ns → p x = true → Ev te ((wipe σ vs).set j (some (f x))) H1 (h x)) :
    EvL (tLc (iList K tl) (gName j) t te vs) σ H ((ns.filter p).map h) := by
  cases ns with
  | nil => exact el_lcL (fun _ => false) (fun _ => .non) hl hx (Nat.zero_le _) hw (fun i x H1 _ e => nomatch e) (fun i x H1 _ e => nomatch e)
  | cons d r =>
    rw [← given_map d p h (d :: r), show (d :: r).length = ((d :: r).map f).length by simp]
    refine el_lcL _ _ hl hx (by rw [List.length_map]; exact hz) hw (fun i x H1 e hi => ?_) (fun i x H1 e hi hp => ?_)
    · obtain ⟨y, e1, rfl, e2, hm⟩ := get_map hi d
      rw [e2]
      exact ht y H1 e hm
    · obtain ⟨y, e1, rfl, e2, hm⟩ := get_map hi d
      rw [e2] at hp ⊢
      exact he y H1 e hm hp
/-- .. over a new list -/
theorem el_mapN {α : Type} {tl : TE} {j : Nat} {vs : List Nat} (ns : List α) (f : α → V) (p : α → Bool) (h : α → V) (hl : EvL tl σ H (ns.map f)) (hz : ns.length ≤ 40000) (hw : ∀ x, wipe ((wipe σ vs).set j (some x)) vs = wipe σ vs)
    (ht : ∀ x H1, Ex H H1 → x ∈ ns → EvT t ((wipe σ vs).set j (some (f x))) H1 (p x)) (he : ∀ x H1, Ex H H1 → x ∈ ns → p x = true → Ev te ((wipe σ vs).set j (some (f x))) H1 (h x)) :
    EvL (tLc (iList K tl) (gName j) t te vs) σ H ((ns.filter p).map h) := by
  cases ns with
  | nil => exact el_lcNL (fun _ => false) (fun _ => .non) hl (Nat.zero_le _) hw (fun i x H1 _ e => nomatch e) (fun i x H1 _ e => nomatch e)
  | cons d r =>
    rw [← given_map d p h (d :: r), show (d :: r).length = ((d :: r).map f).length by simp]
    refine el_lcNL _ _ hl (by rw [List.length_map]; exact hz) hw (fun i x H1 e hi => ?_) (fun i x H1 e hi hp => ?_)
    · obtain ⟨y, e1, rfl, e2, hm⟩ := get_map hi d
      rw [e2]
      exact ht y H1 e hm
    · obtain ⟨y, e1, rfl, e2, hm⟩ := get_map hi d
      rw [e2] at hp ⊢
      exact he y H1 e hm hp
theorem et_yes : EvT tYes σ H true := fun H1 _ _ q => q H1 (Ex.refl H1)
end
end Hc
/-! module HsMath -/
set_option maxHeartbeats 4000000
/-! Shapes as texts and as trees. -/
namespace Hs
open PySem PySem.Spec PyProof.Rows L2
abbrev S (l : List Nat) : Str := ⟨l.toArray⟩
theorem S_len (a : List Nat) : (S a).length = a.length := by simp [S, Str.length]
theorem S_cat (a b : List Nat) : S a ++ S b = S (a ++ b) := TL.ext_tl (TL.tl_append (S a) (S b))
theorem S_inj {a b : List Nat} (h : S a = S b) : a = b := congrArg (fun x : Str => x.cps.toList) h
theorem S_tl (x : Str) : S x.cps.toList = x := TL.mk_tl x
theorem join_S (a : List Nat) (ys : List (List Nat)) : Txt.join (S a) (ys.map S) = S (TL.joinL a ys) := SX.join_S a ys

/-! ### texts -/
theorem cut_nn (L : List Nat) (i j : Nat) : cutS (S L) (some (i : Int)) (some (j : Int)) = S ((L.drop i).take (j - i)) := by
  unfold cutS
  rw [HT.sIx_nat, HT.sIx_nat, S_len]
  congr 2
  show (L.drop (min i L.length)).take (min j L.length - min i L.length) = (L.drop i).take (j - i)
  by_cases h : i ≤ L.length
  · rw [Nat.min_eq_left h]
    by_cases h2 : j ≤ L.length
    · rw [Nat.min_eq_left h2]
    · rw [Nat.min_eq_right (by omega), List.take_of_length_le (l := L.drop i) (i := L.length - i) (by rw [List.length_drop]; omega), List.take_of_length_le (by rw [List.length_drop]; omega)]
  · rw [Nat.min_eq_right (a := i) (by omega), List.drop_of_length_le (by omega), List.drop_of_length_le (l := L) (i := i) (by omega)]
    simp
theorem cut_n (L : List Nat) (i : Nat) : cutS (S L) (some (i : Int)) none = S (L.drop i) := by
  unfold cutS
  rw [HT.sIx_nat, HT.sIx_none, S_len]
  congr 2
  show (L.drop (min i L.length)).take (L.length - min i L.length) = L.drop i
  by_cases h : i ≤ L.length
  · rw [Nat.min_eq_left h, List.take_of_length_le (by rw [List.length_drop]; omega)]
  · rw [Nat.min_eq_right (by omega), List.drop_of_length_le (by omega), List.drop_of_length_le (l := L) (i := i) (by omega)]
    simp
/-- text[1:-1] -/
def inner (L : List Nat) : List Nat := (L.drop 1).take (L.length - 2)
theorem cut_in (L : List Nat) : cutS (S L) (some (1 : Int)) (some (-1 : Int)) = S (inner L) := by
  unfold cutS inner
  rw [show (1 : Int) = ((1 : Nat) : Int) from rfl, HT.sIx_nat, S_len]
  have e : HT.sIx L.length L.length (some (-((1 : Nat) : Int))) = L.length - 1 := by
    unfold HT.sIx
    dsimp only
    rw [if_pos (by decide)]
    omega
  rw [e]
  congr 2
  show (L.drop (min 1 L.length)).take (L.length - 1 - min 1 L.length) = (L.drop 1).take (L.length - 2)
  by_cases h : 1 ≤ L.length
  · rw [Nat.min_eq_left h, Nat.sub_sub]
  · rw [Nat.min_eq_right (by omega), List.drop_of_length_le (by omega), List.drop_of_length_le (l := L) (i := 1) (by omega)]
    simp
theorem inner_len (L : List Nat) : (inner L).length ≤ L.length := by
  unfold inner
  rw [List.length_take, List.length_drop]
  omega
theorem starts1 (L : List Nat) (c : Nat) : Txt.startswith (S L) (S [c]) = (L.head? == some c) := by
  unfold Txt.startswith
  rw [StrLaws.subAt_eq, S_len, S_len]
  show (decide (0 + 1 ≤ L.length) && ((L.drop 0).take 1 == [c])) = _
  cases L with
  | nil => rfl
  | cons x r =>
    rw [List.drop_zero, List.take_succ_cons, List.take_zero, List.length_cons, List.head?_cons, decide_eq_true (by omega)]
    show ([x] == [c]) = (some x == some c)
    by_cases h : x = c
    · subst h; simp
    · simp [h]
theorem ends1 (L : List Nat) (c : Nat) : Txt.endswith (S L) (S [c]) = (L.getLast? == some c) := by
  unfold Txt.endswith
  rw [StrLaws.subAt_eq, S_len, S_len]
  show (decide (0 + 1 ≤ L.length) && ((L.drop (L.length - 1)).take 1 == [c])) = _
  rcases List.eq_nil_or_concat L with rfl | ⟨l, x, rfl⟩
  · rfl
  · rw [List.concat_eq_append, List.getLast?_append]
    simp
theorem count1 (L : List Nat) (c : Nat) : Txt.count (S L) (S [c]) = ((L.count c : Nat) : Int) := by
  show Txt.count (S L) ⟨#[c]⟩ = _
  rw [count_cnt]
  show cnt c L = _
  induction L with
  | nil => rfl
  | cons x r ih =>
    rw [cnt_cons, ih, List.count_cons]
    by_cases h : x = c
    · subst h
      simp
      omega
    · simp [h]

/-! ### parts -/
abbrev SS := List (List Nat) × Int × Nat
def stepP (L : List Nat) (st : SS) (at_ c : Nat) : SS :=
  if c ∈ [91, 40] then (st.1, st.2.1 + 1, st.2.2)
  else if c ∈ [41, 93] then (st.1, st.2.1 - 1, st.2.2)
  else if st.2.1 = 0 ∧ (L.drop at_).take 2 = [44, 32] then (st.1 ++ [(L.drop st.2.2).take (at_ - st.2.2)], st.2.1, at_ + 2)
  else st
def scan (L : List Nat) : List Nat → Nat → SS → SS
  | [], _, st => st
  | c :: r, i, st => scan L r (i + 1) (stepP L st i c)
def partsOf (L : List Nat) : List (List Nat) := (scan L L 0 ([], 0, 0)).1 ++ [L.drop (scan L L 0 ([], 0, 0)).2.2]

theorem scan_len (L : List Nat) : ∀ (r : List Nat) (i : Nat) (st : SS), (scan L r i st).1.length ≤ st.1.length + r.length
  | [], _, _ => Nat.le_refl _
  | c :: r, i, st => by
    show (scan L r (i + 1) (stepP L st i c)).1.length ≤ _
    have h := scan_len L r (i + 1) (stepP L st i c)
    have h2 : (stepP L st i c).1.length ≤ st.1.length + 1 := by
      unfold stepP
      split
      · exact Nat.le_succ _
      · split
        · exact Nat.le_succ _
        · split
          · simp
          · exact Nat.le_succ _
    rw [List.length_cons]
    omega
theorem partsOf_len (L : List Nat) : (partsOf L).length ≤ L.length + 1 := by
  unfold partsOf
  have h := scan_len L L 0 ([], 0, 0)
  rw [List.length_append, List.length_singleton]
  simpa using h
theorem scan_items (L : List Nat) : ∀ (r : List Nat) (i : Nat) (st : SS), (∀ p ∈ st.1, p.length ≤ L.length) → ∀ p ∈ (scan L r i st).1, p.length ≤ L.length
  | [], _, _, h => h
  | c :: r, i, st, h => by
    refine scan_items L r (i + 1) (stepP L st i c) ?_
    unfold stepP
    split
    · exact h
    · split
      · exact h
      · split
        · intro p hp
          rcases List.mem_append.mp hp with hp | hp
          · exact h p hp
          · rw [List.mem_singleton.mp hp, List.length_take, List.length_drop]
            omega
        · exact h
theorem partsOf_items (L : List Nat) : ∀ p ∈ partsOf L, p.length ≤ L.length := by
  intro p hp
  unfold partsOf at hp
  rcases List.mem_append.mp hp with hp | hp
  · exact scan_items L L 0 ([], 0, 0) (fun p hp => nomatch hp) p hp
  · rw [List.mem_singleton.mp hp, List.length_drop]
    omega

/-! ### forms -/
def hasForm : Nat → List Nat → Bool
  | 0, t => decide (t = [46])
  | f + 1, t => decide (t = [46]) || ((t.head? == some 91) && (t.getLast? == some 93) && (decide ((partsOf (inner t)).length ≤ 3) && (partsOf (inner t)).all (hasForm f)))
def isShape (t : List Nat) : Bool := decide (t.count 91 ≤ 5) && hasForm 3 t
theorem form_up : ∀ (f : Nat) (t : List Nat), hasForm f t = true → hasForm (f + 1) t = true
  | 0, t, h => by
    show (decide (t = [46]) || _) = true
    have h' : decide (t = [46]) = true := h
    rw [h']
    rfl
  | f + 1, t, h => by
    have h' : (decide (t = [46]) || ((t.head? == some 91) && (t.getLast? == some 93) && (decide ((partsOf (inner t)).length ≤ 3) && (partsOf (inner t)).all (hasForm f)))) = true := h
    show (decide (t = [46]) || ((t.head? == some 91) && (t.getLast? == some 93) && (decide ((partsOf (inner t)).length ≤ 3) && (partsOf (inner t)).all (hasForm (f + 1))))) = true
    rw [Bool.or_eq_true] at h' ⊢
    rcases h' with h' | h'
    · exact .inl h'
    · rw [Bool.and_eq_true, Bool.and_eq_true, Bool.and_eq_true] at h' ⊢
      obtain ⟨⟨a, b⟩, c, d⟩ := h'
      refine .inr ⟨⟨a, b⟩, c, ?_⟩
      rw [List.all_eq_true] at d ⊢
      exact fun p hp => form_up f p (d p hp)
theorem form_le {f g : Nat} (h : f ≤ g) {t : List Nat} (x : hasForm f t = true) : hasForm g t = true := by
  induction h with
  | refl => exact x
  | step _ ih => exact form_up _ _ ih

/-! ### trees: lists of lists, n floors at most -/
def Tre : Nat → Type
  | 0 => Unit
  | n + 1 => List (Tre n)
def txt : (n : Nat) → Tre n → List Nat
  | 0, _ => [46]
  | n + 1, (l : List (Tre n)) => if l.isEmpty then [46] else 91 :: (TL.joinL [44, 32] (l.map (txt n)) ++ [93])
def lsts : (n : Nat) → Tre n → Nat
  | 0, _ => 0
  | n + 1, (l : List (Tre n)) => if l.isEmpty then 0 else 1 + (l.map (lsts n)).sum
def dep : (n : Nat) → Tre n → Nat
  | 0, _ => 0
  | n + 1, (l : List (Tre n)) => if l.isEmpty then 0 else 1 + (l.map (dep n)).foldl max 0
def slim : (n : Nat) → Tre n → Bool
  | 0, _ => true
  | n + 1, (l : List (Tre n)) => decide (l.length ≤ 3) && l.all (slim n)
theorem txt_nil (n : Nat) : txt (n + 1) ([] : List (Tre n)) = [46] := rfl
theorem txt_cons (n : Nat) (x : Tre n) (r : List (Tre n)) : txt (n + 1) (x :: r : List (Tre n)) = 91 :: (TL.joinL [44, 32] ((x :: r).map (txt n)) ++ [93]) := rfl
theorem joinL_cons (s p q : List Nat) (r : List (List Nat)) : TL.joinL s (p :: q :: r) = p ++ (s ++ TL.joinL s (q :: r)) := rfl

theorem scan_app (L : List Nat) : ∀ (a r : List Nat) (i : Nat) (st : SS), scan L (a ++ r) i st = scan L r (i + a.length) (scan L a i st)
  | [], r, i, st => rfl
  | c :: a, r, i, st => by
    show scan L (a ++ r) (i + 1) (stepP L st i c) = scan L r (i + (a.length + 1)) (scan L a (i + 1) (stepP L st i c))
    rw [scan_app L a r (i + 1), show i + 1 + a.length = i + (a.length + 1) by omega]
theorem drop_app {L a r : List Nat} {i : Nat} (h : L.drop i = a ++ r) : L.drop (i + a.length) = r := by
  rw [← List.drop_drop, h, List.drop_left]
/-- a text of a shape leaves the scan as it was -/
theorem scan_txt : ∀ (n : Nat) (t : Tre n) (L r : List Nat) (i : Nat) (p : List (List Nat)) (k : Int) (s : Nat), 0 ≤ k → L.drop i = txt n t ++ r → scan L (txt n t) i (p, k, s) = (p, k, s) := by
  have dot : ∀ (L r : List Nat) (i : Nat) (p : List (List Nat)) (k : Int) (s : Nat), L.drop i = [46] ++ r → scan L [46] i (p, k, s) = (p, k, s) := by
    intro L r i p k s h
    show stepP L (p, k, s) i 46 = (p, k, s)
    unfold stepP
    rw [if_neg (by decide), if_neg (by decide), h, if_neg (by simp)]
  intro n
  induction n with
  | zero => exact fun t L r i p k s _ h => dot L r i p k s h
  | succ n ih =>
    intro t L r i p k s hk h
    match t, h with
    | [], h => exact dot L r i p k s h
    | x :: l, h =>
      rw [txt_cons] at h ⊢
      -- the items, within one bracket more
      have items : ∀ (l : List (Tre n)) (x : Tre n) (j : Nat) (q : List Nat) (k : Int), 0 < k → L.drop j = TL.joinL [44, 32] ((x :: l).map (txt n)) ++ q → scan L (TL.joinL [44, 32] ((x :: l).map (txt n))) j (p, k, s) = (p, k, s) := by
        intro l
        induction l with
        | nil =>
          intro x j q k hk h
          exact ih x L q j p k s (by omega) h
        | cons y l ih2 =>
          intro x j q k hk h
          rw [List.map_cons, List.map_cons, joinL_cons] at h ⊢
          rw [scan_app, ih x L ([44, 32] ++ TL.joinL [44, 32] (txt n y :: l.map (txt n)) ++ q) j p k s (by omega) (by rw [h]; simp), scan_app]
          have e : scan L [44, 32] (j + (txt n x).length) (p, k, s) = (p, k, s) := by
            show stepP L (stepP L (p, k, s) _ 44) _ 32 = (p, k, s)
            have one : ∀ (m c : Nat), c ∉ [91, 40] → c ∉ [41, 93] → stepP L (p, k, s) m c = (p, k, s) := by
              intro m c h1 h2
              unfold stepP
              rw [if_neg h1, if_neg h2, if_neg (by rintro ⟨z, _⟩; exact absurd z (by show ¬ k = 0; omega))]
            rw [one _ 44 (by decide) (by decide), one _ 32 (by decide) (by decide)]
          rw [e]
          refine ih2 y _ q k hk ?_
          have d1 : L.drop (j + (txt n x).length) = [44, 32] ++ (TL.joinL [44, 32] (txt n y :: l.map (txt n)) ++ q) := drop_app (a := txt n x) (by rw [h]; simp)
          exact drop_app (a := [44, 32]) d1
      show scan L (TL.joinL [44, 32] ((x :: l).map (txt n)) ++ [93]) (i + 1) (stepP L (p, k, s) i 91) = (p, k, s)
      have e1 : stepP L (p, k, s) i 91 = (p, k + 1, s) := by
        unfold stepP
        rw [if_pos (by decide)]
      rw [e1, scan_app, items l x (i + 1) ([93] ++ r) (k + 1) (by omega) (by
        have := drop_app (a := [91]) (r := TL.joinL [44, 32] ((x :: l).map (txt n)) ++ [93] ++ r) (L := L) (i := i) (by rw [h]; simp)
        rw [show i + 1 = i + [91].length by rfl, this]
        simp)]
      show stepP L (p, k + 1, s) (i + 1 + (TL.joinL [44, 32] ((x :: l).map (txt n))).length) 93 = (p, k, s)
      unfold stepP
      rw [if_neg (by decide), if_pos (by decide)]
      show (p, k + 1 - 1, s) = (p, k, s)
      rw [Int.add_sub_cancel]
theorem scan_join (n : Nat) : ∀ (l : List (Tre n)) (x : Tre n) (L : List Nat) (i : Nat) (p : List (List Nat)), L.drop i = TL.joinL [44, 32] ((x :: l).map (txt n)) →
    (scan L (TL.joinL [44, 32] ((x :: l).map (txt n))) i (p, 0, i)).1 ++ [L.drop (scan L (TL.joinL [44, 32] ((x :: l).map (txt n))) i (p, 0, i)).2.2] = p ++ (x :: l).map (txt n) := by
  intro l
  induction l with
  | nil =>
    intro x L i p h
    have e := scan_txt n x L [] i p 0 i (Int.le_refl 0) (by rw [List.append_nil]; exact h)
    show (scan L (txt n x) i (p, 0, i)).1 ++ [L.drop (scan L (txt n x) i (p, 0, i)).2.2] = p ++ [txt n x]
    rw [e]
    show p ++ [L.drop i] = _
    rw [h]
    rfl
  | cons y l ih =>
    intro x L i p h
    rw [List.map_cons, List.map_cons, joinL_cons] at h ⊢
    rw [scan_app, scan_app, scan_txt n x L _ i p 0 i (Int.le_refl 0) h]
    have d1 : L.drop (i + (txt n x).length) = [44, 32] ++ TL.joinL [44, 32] (txt n y :: l.map (txt n)) := drop_app h
    have e : scan L [44, 32] (i + (txt n x).length) (p, 0, i) = (p ++ [txt n x], 0, i + (txt n x).length + 2) := by
      show stepP L (stepP L (p, 0, i) _ 44) _ 32 = _
      have e1 : stepP L (p, 0, i) (i + (txt n x).length) 44 = (p ++ [txt n x], 0, i + (txt n x).length + 2) := by
        unfold stepP
        rw [if_neg (by decide), if_neg (by decide), if_pos ⟨rfl, by rw [d1]; rfl⟩]
        show (p ++ [(L.drop i).take (i + (txt n x).length - i)], _, _) = _
        rw [h, Nat.add_sub_cancel_left, List.take_left]
      rw [e1]
      have d2 : L.drop (i + (txt n x).length + 1) = 32 :: TL.joinL [44, 32] (txt n y :: l.map (txt n)) := by
        rw [← List.drop_drop, d1]
        rfl
      unfold stepP
      rw [if_neg (by decide), if_neg (by decide), if_neg (by rw [d2]; rintro ⟨_, z⟩; simp at z)]
    rw [e]
    have d3 : L.drop (i + (txt n x).length + 2) = TL.joinL [44, 32] (txt n y :: l.map (txt n)) := drop_app (a := [44, 32]) d1
    have z := ih y L (i + (txt n x).length + 2) (p ++ [txt n x]) d3
    rw [List.map_cons] at z
    refine z.trans ?_
    simp
theorem parts_txt (n : Nat) (x : Tre n) (l : List (Tre n)) : partsOf (inner (txt (n + 1) (x :: l : List (Tre n)))) = (x :: l).map (txt n) := by
  have e : inner (txt (n + 1) (x :: l : List (Tre n))) = TL.joinL [44, 32] ((x :: l).map (txt n)) := by
    rw [txt_cons]
    unfold inner
    rw [List.drop_one, List.tail_cons, List.length_cons, List.length_append, List.length_singleton]
    show List.take (_ + 1 + 1 - 2) _ = _
    rw [show (TL.joinL [44, 32] ((x :: l).map (txt n))).length + 1 + 1 - 2 = (TL.joinL [44, 32] ((x :: l).map (txt n))).length by omega, List.take_left]
  rw [e]
  unfold partsOf
  have z := scan_join n l x (TL.joinL [44, 32] ((x :: l).map (txt n))) 0 [] rfl
  rw [z]
  rfl
theorem txt_head (n : Nat) (x : Tre n) (l : List (Tre n)) : (txt (n + 1) (x :: l : List (Tre n))).head? = some 91 := rfl
theorem txt_last (n : Nat) (x : Tre n) (l : List (Tre n)) : (txt (n + 1) (x :: l : List (Tre n))).getLast? = some 93 := by
  rw [txt_cons, ← List.cons_append, List.getLast?_append]
  rfl
theorem txt_form : ∀ (n : Nat) (t : Tre n), slim n t = true → hasForm n (txt n t) = true
  | 0, _, _ => rfl
  | n + 1, [], _ => rfl
  | n + 1, x :: l, h => by
    have h' : (decide ((x :: l).length ≤ 3) && (x :: l).all (slim n)) = true := h
    rw [Bool.and_eq_true, List.all_eq_true] at h'
    unfold hasForm
    rw [parts_txt, txt_head, txt_last, List.length_map, h'.1, List.all_map]
    have e : (x :: l).all (hasForm n ∘ txt n) = true := List.all_eq_true.mpr fun y hy => txt_form n y (h'.2 y hy)
    rw [e]
    simp
theorem txt_dot {n : Nat} {x : Tre n} {l : List (Tre n)} : txt (n + 1) (x :: l : List (Tre n)) ≠ [46] := by
  rw [txt_cons]
  intro z
  simp at z
theorem count_join (l : List (List Nat)) : (TL.joinL [44, 32] l).count 91 = (l.map (·.count 91)).sum := by
  induction l with
  | nil => rfl
  | cons p r ih =>
    cases r with
    | nil => simp [TL.joinL]
    | cons q r =>
      rw [joinL_cons, List.count_append, List.count_append, ih]
      simp
theorem txt_count : ∀ (n : Nat) (t : Tre n), (txt n t).count 91 = lsts n t
  | 0, _ => rfl
  | n + 1, [] => rfl
  | n + 1, x :: l => by
    rw [txt_cons, List.count_cons, List.count_append, count_join, List.map_map]
    show (((x :: l).map ((·.count 91) ∘ txt n)).sum + [93].count 91) + _ = 1 + ((x :: l).map (lsts n)).sum
    have e : (x :: l).map ((·.count 91) ∘ txt n) = (x :: l).map (lsts n) := List.map_congr_left fun y _ => txt_count n y
    rw [e]
    simp
    omega
/-- trees with one text are one tree -/
theorem txt_inj : ∀ (n : Nat) (a b : Tre n), txt n a = txt n b → a = b
  | 0, _, _, _ => rfl
  | n + 1, [], [], _ => rfl
  | n + 1, [], y :: m, h => absurd h.symm txt_dot
  | n + 1, x :: l, [], h => absurd h txt_dot
  | n + 1, x :: l, y :: m, h => by
    have e : (x :: l).map (txt n) = (y :: m).map (txt n) := by rw [← parts_txt, ← parts_txt, h]
    have key : ∀ (p q : List (Tre n)), p.map (txt n) = q.map (txt n) → p = q := by
      intro p
      induction p with
      | nil =>
        intro q hq
        cases q with
        | nil => rfl
        | cons _ _ => simp at hq
      | cons c p ih =>
        intro q hq
        cases q with
        | nil => simp at hq
        | cons d q =>
          simp only [List.map_cons, List.cons.injEq] at hq
          rw [txt_inj n c d hq.1, ih q hq.2]
    exact key _ _ e
end Hs
/-! module HsTop -/
set_option maxHeartbeats 4000000
namespace Hc
open PySem PySem.Spec PyProof.Rows L2
def top (i : Nat) : Stmt := PySem.Challenge.pw_handedcopies_k06_bounds_of_texts.main.body.getD i (.Pass ⟨0, 0, 0, 0⟩)
abbrev cBadLine : Stmt := top 4
abbrev cNoClass : Stmt := top 5
abbrev sSmall : Stmt := top 11
abbrev sWord : Stmt := top 12
abbrev sClassName : Stmt := top 13
abbrev sParts : Stmt := top 14
abbrev sIsShape : Stmt := top 19
abbrev sHasForm : Stmt := top 20
abbrev cShape : Stmt := top 21
abbrev cPath : Stmt := top 27
abbrev cCopy : Stmt := top 28
abbrev cNew : Stmt := top 29
abbrev cSuper : Stmt := top 31
abbrev cRow : Stmt := top 33
abbrev sLone : Stmt := top 34
abbrev sUncopied : Stmt := top 35
abbrev sHasSuper : Stmt := top 36
abbrev sReadStep : Stmt := top 37
abbrev sReadPath : Stmt := top 38
abbrev sCopied : Stmt := top 39
abbrev sReadSimple : Stmt := top 40
abbrev sReadTerm : Stmt := top 45
abbrev sReadRow : Stmt := top 46
abbrev cDefn : Stmt := top 56
abbrev cClassText : Stmt := top 57
abbrev sLines : Stmt := top 58
abbrev sNext : Stmt := top 59
abbrev sMerged : Stmt := top 60
abbrev sReadClass : Stmt := top 61
abbrev sReadKind : Stmt := top 62
abbrev sReadPar : Stmt := top 63
abbrev sReadPars : Stmt := top 64
abbrev sCanStand : Stmt := top 65
abbrev cReader : Stmt := top 66
abbrev cLib : Stmt := top 68
abbrev sStart : Stmt := top 70
abbrev sDraw : Stmt := top 71
abbrev sOf : Stmt := top 72
abbrev sLWord : Stmt := top 73
abbrev sTree : Stmt := top 74
abbrev sLists : Stmt := top 75
abbrev sDepth : Stmt := top 76
abbrev sText : Stmt := top 77
abbrev sLTold : Stmt := top 78
abbrev sLFull : Stmt := top 79
abbrev sLFlat : Stmt := top 80
abbrev sLRight : Stmt := top 81
abbrev sLaw : Stmt := top 82
end Hc
/-! module HcHead -/
set_option maxHeartbeats 4000000
/-! A head with facts by names and a test of one's own. -/
namespace Hc
open PySem PySem.Spec PyProof.Rows L2
def seenK (n : Nat) (g : Addr → Option Obj) : PySem.W.Frag := He.frG g (He.asD g n)
def obsC (n : Nat) (fa : List He.Fa) (fn : List He.DefD) (ex : PySem.W.Frag → Bool) (g : Addr → Option Obj) : Bool × He.AlD := (ex (seenK n g), He.obsD fa fn (seenK n g))
def hookC (n : Nat) (fa : List He.Fa) (fn : List He.DefD) (ex : PySem.W.Frag → Bool) : PySem.W.Hook where
  α := Bool × He.AlD
  obs := fun s => obsC n fa fn ex s.heap.get?
  val := fun _ => (true, He.valD fn)
  says := fun _ h => ∃ K : PySem.W.Frag, K.In h ∧ ex K = true ∧ He.SaysD fa fn K
  of := fun _ _ e => ⟨_, He.frG_in, congrArg Prod.fst e, congrArg Prod.snd e⟩
  keeps := fun _ _ _ ⟨K, hK, c⟩ k => ⟨K, PySem.W.Frag.In.keeps hK k, c⟩
def obC (n : Nat) (fa : List He.Fa) (fn : List He.DefD) (ex : PySem.W.Frag → Bool) (s : PySem.W.SharedT) : Bool × He.AlD := obsC n fa fn ex (HandSHeadRun.getT s)
theorem obC_eq (n : Nat) (fa : List He.Fa) (fn : List He.DefD) (ex : PySem.W.Frag → Bool) (s : PySem.W.SharedT) : obC n fa fn ex s = (hookC n fa fn ex).obs s.abs := by
  have e : HandSHeadRun.getT s = s.abs.heap.get? := funext (HandSHeadRun.getT_eq s)
  show obsC n fa fn ex (HandSHeadRun.getT s) = obsC n fa fn ex s.abs.heap.get?
  rw [e]
/-- a def of the text without defaults -/
theorem fun_of {K : PySem.W.Frag} {x q : Str} {st : Stmt} {f : Addr} {fd : FuncData} (F : FunD K x q (defArgs st) (defBody st) (defScope st) [] [] f fd) : Fun K x q st f fd := by
  obtain ⟨oc, od, dV, kV, doc, pm, an, cdv, ct, osl, e, lk, hcd, hd, _⟩ := F.ex
  rcases hd with ⟨_, rfl⟩ | ⟨h, _⟩
  · exact ⟨⟨oc, od, kV, doc, pm, an, cdv, ct, osl, e, lk, hcd⟩, F.kp⟩
  · exact absurd rfl h
/-- a global def as data; a class's maker -/
def dk (x : Str) (st : Stmt) : He.DefD := ⟨(x, none), x, x, defArgs st, defBody st, defScope st, [], []⟩
def dmk (C m q : Str) (st : Stmt) : He.DefD := ⟨(C, some m), m, q, defArgs st, defBody st, defScope st, [], []⟩
theorem def_of {fa : List He.Fa} {fn : List He.DefD} {K : PySem.W.Frag} (c : He.SaysD fa fn K) (i : Nat) {x : Str} {st : Stmt} (h : fn[i]? = some (dk x st) := by rfl) : ∃ fd, Fun K x x st (He.ga K x) fd := by
  obtain ⟨fd, F⟩ := c.def_ i h
  exact ⟨fd, fun_of F⟩
theorem mth_of {fa : List He.Fa} {fn : List He.DefD} {K : PySem.W.Frag} (c : He.SaysD fa fn K) (i : Nat) {C m q : Str} {st : Stmt} (h : fn[i]? = some (dmk C m q st) := by rfl) : ∃ fd, Fun K m q st (He.ma K (He.ga K C) m) fd := by
  obtain ⟨fd, F⟩ := c.def_ i h
  exact ⟨fd, fun_of F⟩
end Hc
/-! module HsHead -/
set_option maxHeartbeats 4000000
/-! A head that sees the getters of properties, too. -/
namespace Hc
open PySem PySem.Spec PyProof.Rows L2
def pAd (K : PySem.W.Frag) (C : Addr) (f : Str) : Addr := match PySem.W.findIn K (.ref C) f with
  | some (some (.ref p)) => p
  | _ => 0
def gAd (K : PySem.W.Frag) (C : Addr) (f : Str) : Addr := match PySem.W.recIn K (pAd K C f) "property" with
  | some (.ref g :: _) => g
  | _ => 0
def propB (K : PySem.W.Frag) (C : Addr) (f : Str) : Bool := decide (PySem.W.findIn K (.ref C) f = some (some (.ref (pAd K C f)))) && (decide (PySem.W.specialIn K (.ref (pAd K C f)) "__get__" = some (some (.builtin "property.__get__"))) &&
  (decide (PySem.W.takesIn K (.ref (pAd K C f)) = some true) && (match PySem.W.recIn K (pAd K C f) "property" with
    | some (.ref g :: _) => decide (g = gAd K C f)
    | _ => false)))
theorem propB_ok {K : PySem.W.Frag} {C : Addr} {f : Str} (h : propB K C f = true) : PropOf K C f (pAd K C f) (gAd K C f) := by
  unfold propB at h
  simp only [Bool.and_eq_true, decide_eq_true_eq] at h
  obtain ⟨h1, h2, h3, h4⟩ := h
  refine ⟨h1, h2, h3, ?_⟩
  split at h4
  · rename_i g r e
    rw [of_decide_eq_true h4] at e
    exact ⟨r, e⟩
  · cases h4
def fnA (K : PySem.W.Frag) (a : Addr) : He.FnV := match K.lookup a with
  | some ⟨_, _, .func fd, _⟩ => some (fd.name, fd.qualname, fd.params, fd.body, fd.scope, fd.globals, fd.closure, fd.defaults, fd.builtins)
  | _ => none
def codeA (K : PySem.W.Frag) (a : Addr) (q : Str) : Bool := match K.lookup a with
  | some ⟨_, _, .func fd, _⟩ => PySem.W.codeIn K fd.code q
  | _ => false
def fnVal (x q : Str) (st : Stmt) : He.FnV := some (x, q, defArgs st, .stmts (defBody st), defScope st, mainGlobals, [], .none, builtinsNs)
theorem fnA_ok {K : PySem.W.Frag} {a : Addr} {x q : Str} {st : Stmt} (e : fnA K a = fnVal x q st) (c : codeA K a q = true) :
    ∃ oc od osl kV doc pm an cdv ct, K.lookup a = some ⟨oc, od, .func (PySem.W.fnOf x q (defArgs st) (defBody st) (defScope st) .none kV doc pm an cdv ct), osl⟩ ∧ PySem.W.codeIn K cdv q = true := by
  unfold fnA at e
  unfold codeA at c
  cases z : K.lookup a with
  | none =>
    rw [z] at c
    cases c
  | some o =>
    obtain ⟨oc, od, dt, osl⟩ := o
    rw [z] at c e
    cases dt with
    | func fd =>
      obtain ⟨n1, n2, n3, n4, n5, n6, n7, n8, n9, n10, n11, n12, n13, n14, n15⟩ := fd
      have e2 : (some (n1, n2, n3, n4, n5, n6, n7, n8, n15) : He.FnV) = some (x, q, defArgs st, .stmts (defBody st), defScope st, mainGlobals, [], .none, builtinsNs) := e
      simp only [Option.some.injEq, Prod.mk.injEq] at e2
      obtain ⟨h1, h2, h3, h4, h5, h6, h7, h8, h9⟩ := e2
      subst h1 h2 h3 h4 h5 h6 h7 h8 h9
      exact ⟨oc, od, osl, n9, n10, n11, n12, n13, n14, rfl, c⟩
    | _ => cases c
def obsG3 (n : Nat) (fa : List He.Fa) (fn : List He.DefD) (ex : PySem.W.Frag → Bool) (gt : PySem.W.Frag → List He.FnV) (g : Addr → Option Obj) : Bool × He.AlD × List He.FnV := (ex (seenK n g), He.obsD fa fn (seenK n g), gt (seenK n g))
def hookG (n : Nat) (fa : List He.Fa) (fn : List He.DefD) (ex : PySem.W.Frag → Bool) (gt : PySem.W.Frag → List He.FnV) (gv : List He.FnV) : PySem.W.Hook where
  α := Bool × He.AlD × List He.FnV
  obs := fun s => obsG3 n fa fn ex gt s.heap.get?
  val := fun _ => (true, He.valD fn, gv)
  says := fun _ h => ∃ K : PySem.W.Frag, K.In h ∧ ex K = true ∧ He.SaysD fa fn K ∧ gt K = gv
  of := fun _ _ e => ⟨_, He.frG_in, congrArg Prod.fst e, congrArg (fun z : Bool × He.AlD × List He.FnV => z.2.1) e, congrArg (fun z : Bool × He.AlD × List He.FnV => z.2.2) e⟩
  keeps := fun _ _ _ ⟨K, hK, c⟩ k => ⟨K, PySem.W.Frag.In.keeps hK k, c⟩
def obG (n : Nat) (fa : List He.Fa) (fn : List He.DefD) (ex : PySem.W.Frag → Bool) (gt : PySem.W.Frag → List He.FnV) (s : PySem.W.SharedT) : Bool × He.AlD × List He.FnV := obsG3 n fa fn ex gt (HandSHeadRun.getT s)
theorem obG_eq (n : Nat) (fa : List He.Fa) (fn : List He.DefD) (ex : PySem.W.Frag → Bool) (gt : PySem.W.Frag → List He.FnV) (gv : List He.FnV) (s : PySem.W.SharedT) : obG n fa fn ex gt s = (hookG n fa fn ex gt gv).obs s.abs := by
  have e : HandSHeadRun.getT s = s.abs.heap.get? := funext (HandSHeadRun.getT_eq s)
  show obsG3 n fa fn ex gt (HandSHeadRun.getT s) = obsG3 n fa fn ex gt s.abs.heap.get?
  rw [e]
end Hc
/-! module HcExc -/
set_option maxHeartbeats 4000000
/-! Exceptions of the text's own classes as values, over any built-in base: made by their own maker, their fields stored and read, isinstance. -/
namespace PySem
namespace HcX
open PySem.W PySem.Calls PyProof.Rows PySem.HandSPX
open Builtin Builtin.ObjectAttr
section
variable {prog : Program} {w : World} {A : Around} {E : Value → Shared → Prop} {R : Result → Shared → Prop} {hp : Heap} {g : Array GenState} {d : Drawn} {t : Nat} {os : OsState} {K : W.Frag} {B : String} {bmB : List Value}
/-- the first field of an exception that has no dict yet -/
theorem first_field {name : Str} {tk : Tok} {v : Value} {x C : Addr} {fv : Array Value} (SF : StoreFacts B bmB "object.__setattr__" "object") (X : K.In hp) (hx : hp.get? x = some { cls := .ref C, data := .fields fv })
    (ov : excOver K C bmB = true) (hd : hasDictIn K C = true) (ha : findIn K (.ref C) name = some none)
    (hq : ∀ h' tk' dx, (∀ b o, b ≠ x → hp.get? b = some o → h'.get? b = some o) → hp.objs.size ≤ dx → dx ≠ x → h'.get? x = some { cls := .ref C, dict := some dx, data := .fields fv } →
      h'.Ns1 dx (fun y => if y = name then some v else none) → R (.ok (.ret .none)) ⟨h', g, d, tk', os⟩) :
    codeAny (model prog w) A (.call (.builtin "object.__setattr__") ⟨[.ref x, .str name tk, v], []⟩) R ⟨hp, g, d, t, os⟩ := by
  obtain ⟨cd, hcd, hh⟩ := any_some hd
  have far : x ≠ hp.objs.size := Nat.ne_of_lt (Heap.lt_size hx)
  have taker : takerIn K C name = some none := by
    unfold takerIn
    rw [ha] <;> rfl
  have look : Looks (model prog w) hp (classData C) cd := looks_clsIn X hcd
  refine osa_openX (od := none) (r := none) SF X ⟨hx, rfl, rfl, trivial⟩ ov taker fun b => ?_
  show wpAny _ _ (storeInOwnDict (.ref x) (.ref C) (.str name tk) name v b) _ _ _
  obtain ⟨n1, n2, n3, n4, n5, dct, n6, n7, n8, n9, n10⟩ := cd
  have e : dct = true := hh
  subst e
  unfold storeInOwnDict ownDictForStores
  repeat (first | with_reducible refine store_in_new ?_ ?_ | with_reducible refine wpAny_loadPart_at hx ?_ | with_reducible refine look.at ?_ | wp_step)
  · exact ⟨_, #[], _, (Heap.get?_update_ne _ _ _ _ far.symm).trans (Heap.get?_push_at rfl rfl), rfl, fun e he => absurd he (by simp), fun _ => rfl⟩
  · intro h' tk' hn' hs
    have there : (hp.push { cls := .type "dict", data := .dict #[] }).get? x = some { cls := .ref C, data := .fields fv } := Heap.get?_push_of_some _ hx
    exact hq h' tk' hp.objs.size (fun b o hb ho => (hs.2 b (Nat.ne_of_lt (Heap.lt_size ho))).trans ((Heap.get?_update_ne _ _ _ _ hb).trans (Heap.get?_push_of_some _ ho))) (Nat.le_refl _) far.symm
      ((hs.2 x far).trans (Heap.get?_update_self _ there rfl)) hn'
/-- a further field -/
theorem next_field {name : Str} {tk : Tok} {v : Value} {x C dx : Addr} {fv : Array Value} {m0 : Str → Option Value} {nl : List Str} (SF : StoreFacts B bmB "object.__setattr__" "object") (X : K.In hp)
    (hx : hp.get? x = some { cls := .ref C, dict := some dx, data := .fields fv }) (hns : hp.Ns1 dx m0) (hw : Within m0 nl) (hz : nl.length ≤ 1000) (ov : excOver K C bmB = true) (hd : hasDictIn K C = true) (ha : findIn K (.ref C) name = some none)
    (hq : ∀ h' tk', (∀ b o, b ≠ dx → hp.get? b = some o → h'.get? b = some o) → h'.Ns1 dx (fun y => if y = name then some v else m0 y) → R (.ok (.ret .none)) ⟨h', g, d, tk', os⟩) :
    codeAny (model prog w) A (.call (.builtin "object.__setattr__") ⟨[.ref x, .str name tk, v], []⟩) R ⟨hp, g, d, t, os⟩ := by
  obtain ⟨oD, _, _, hoD, _, _⟩ := hns.count hw
  obtain ⟨cd, hcd, hh⟩ := any_some hd
  have taker : takerIn K C name = some none := by
    unfold takerIn
    rw [ha] <;> rfl
  have look : Looks (model prog w) hp (classData C) cd := looks_clsIn X hcd
  refine osa_openX (od := some oD) (r := none) SF X ⟨hx, rfl, rfl, hoD⟩ ov taker fun b => ?_
  show wpAny _ _ (storeInOwnDict (.ref x) (.ref C) (.str name tk) name v b) _ _ _
  obtain ⟨n1, n2, n3, n4, n5, dct, n6, n7, n8, n9, n10⟩ := cd
  have e : dct = true := hh
  subst e
  unfold storeInOwnDict ownDictForStores
  repeat (first | with_reducible refine OEX.store_in_old hns hw hz ?_ | with_reducible refine wpAny_loadPart_at hx ?_ | with_reducible refine look.at ?_ | wp_step)
  exact fun h' tk' hn' hs => hq h' tk' (fun b o hb ho => (hs.2 b hb).trans ho) hn'
end
end HcX
end PySem

namespace Hc
open PySem PySem.Spec PyProof.Rows L2
/-- what the written part says of an own exception class over B -/
structure Xc (K : PySem.W.Frag) (C : Addr) (bmB : List Value) (newId : String) : Prop where
  ini : PySem.W.excInitIn K C bmB newId = true
  ov : PySem.W.excOver K C bmB = true
  hd : PySem.W.hasDictIn K C = true
  sa : PySem.W.findIn K (.ref C) "__setattr__" = some (some (.builtin "object.__setattr__"))
  kC : PySem.W.keepIn K (.ref C) = true
  xf : XfC K C
  ex : ExcC K C

section
variable {X : Cx} {pins : List (Addr × Obj)} {σ : L2.St} {H : Hp} {s : Shared} {a C dx : Addr} {f : Str} {y : V} {u : Value} {fs : List (Str × V)} {Q : Unit → Shared → Prop} {E : Value → Shared → Prop} {A : Around} {B newId : String} {bmB : List Value}
/-- self.f = y, the first -/
theorem xst_new (SF : StoreFacts B bmB "object.__setattr__" "object") (T : Xc X.K C bmB newId) (I : Inv X pins σ H s) (e : H a = some (exo a C none)) (hno : PySem.W.findIn X.K (.ref C) f = some none) (ry : RelV y u)
    (h : ∀ dx s', H dx = none → dx ≠ a → Inv X pins σ (upd (upd H dx (exd dx [(f, y)])) a (exo a C (some dx))) s' → Q () s') : wpAny (model X.prog X.w) A (setAttr (.ref a) f u) Q E s := by
  obtain ⟨t1, ho⟩ := exo_at I.hok e
  obtain ⟨hp, g, d, t, os⟩ := s
  refine PySem.W.set_plain I.kIn (ox := { cls := .ref C, dict := none, data := .fields #[.ref t1, .none, .none, .none, .bool false, .none] }) (od := none) ⟨ho, rfl, rfl, trivial⟩ T.sa ?_
  refine PySem.HcX.first_field SF I.kIn ho T.ov T.hd hno fun h' tk' dx k dn dne hx hn => ?_
  have hnd : H dx = none := I.hok.fresh dn
  have nd : ∀ {b : Addr} {o : Obj}, hp.get? b = some o → b ≠ dx := fun {b o} q => Nat.ne_of_lt (Nat.lt_of_lt_of_le (Heap.lt_size q) dn)
  have na : ∀ {b : Addr}, H b = none → b ≠ a := fun {b} n z => by
    rw [z, e] at n
    cases n
  have U : Un X.fs [] H (upd (upd H dx (exd dx [(f, y)])) a (exo a C (some dx))) hp h' := {
    keep := fun b o q n _ _ => k b o (na n) q
    slot := fun b o q n _ _ => ⟨o.slots, k b o (na n) q⟩
    free := fun b o q n _ => (upd_ne (na n)).trans ((upd_ne (nd q)).trans n)
    there := fun b o q _ => by
      by_cases hb : b = a
      · exact ⟨_, hb ▸ hx⟩
      · exact ⟨o, k b o hb q⟩
    tups := fun b xs q => (upd_ne (at_ne e q exo_tup)).trans ((upd_ne (ne_of_none q hnd)).trans q)
    frzs := fun b o v q => (upd_ne (at_ne e q exo_frz)).trans ((upd_ne (ne_of_none q hnd)).trans q)
    tbls := fun b ps q => ⟨#[], by rw [upd_ne (at_ne e q exo_tbl), upd_ne (ne_of_none q hnd), q]; simp⟩ }
  refine h dx _ hnd dne (I.un (t' := tk') U fun b o q => ?_)
  by_cases hb : b = a
  · subst hb
    rw [upd_same] at q
    cases q
    exact exo_ok hx
  · rw [upd_ne hb] at q
    by_cases hd : b = dx
    · subst hd
      rw [upd_same] at q
      cases q
      exact exd_ok hn (relO_put (fs := []) ry fun _ => trivial)
    · rw [upd_ne hd] at q
      refine (I.hok b o q).stay (fun c v hc z => k c v (hc.elim (fun i => i ▸ hb) fun i => at_ne e i exo_own) z) (fun c hc => ?_) fun c xs hc => ?_
      · exact (upd_ne (at_ne e hc exo_own)).trans ((upd_ne (ne_of_none hc hnd)).trans hc)
      · exact (upd_ne (at_ne e hc exo_tup)).trans ((upd_ne (ne_of_none hc hnd)).trans hc)
/-- self.f = y, a further one -/
theorem xst_old (SF : StoreFacts B bmB "object.__setattr__" "object") (T : Xc X.K C bmB newId) (I : Inv X pins σ H s) (e : H a = some (exo a C (some dx))) (ed : H dx = some (exd dx fs)) (hl : fs.length ≤ 900) (hno : PySem.W.findIn X.K (.ref C) f = some none) (ry : RelV y u)
    (h : ∀ s', Inv X pins σ (upd H dx (exd dx ((f, y) :: fs))) s' → Q () s') : wpAny (model X.prog X.w) A (setAttr (.ref a) f u) Q E s := by
  obtain ⟨t1, ho⟩ := exo_at I.hok e
  obtain ⟨mA, hns, rel⟩ := exd_at I.hok ed
  have hw := within_of rel
  obtain ⟨hp, g, d, t, os⟩ := s
  obtain ⟨oD, _, _, hoD, _, _⟩ := hns.count hw
  refine PySem.W.set_plain I.kIn (ox := { cls := .ref C, dict := some dx, data := .fields #[.ref t1, .none, .none, .none, .bool false, .none] }) (od := some oD) ⟨ho, rfl, rfl, hoD⟩ T.sa ?_
  refine PySem.HcX.next_field SF I.kIn ho hns hw (by rw [List.length_map]; omega) T.ov T.hd hno fun h' tk' k hn => ?_
  obtain ⟨o2, _, _, e2, _⟩ := id hn
  exact h _ (I.write (t' := tk') (x := dx) (e := dx) (o := exd dx ((f, y) :: fs)) (by rw [ed]; exact True.intro) (.inl rfl) k ⟨o2, e2⟩ (exd_ok hn (relO_put ry rel)))
end

/-- self.f = e in an exception's maker -/
def tXst (K : PySem.W.Frag) (bmB : List Value) (newId : String) (f : Str) (to te : TE) : TS := fun D σ H => te σ H fun y H1 => to σ H1 fun x H2 => ∃ a C : Addr, x = .ref a ∧ Xc K C bmB newId ∧ PySem.W.findIn K (.ref C) f = some none ∧
  ((H2 a = some (exo a C none) ∧ ∀ dx, H2 dx = none → dx ≠ a → D.nx σ (upd (upd H2 dx (exd dx [(f, y)])) a (exo a C (some dx)))) ∨
    ∃ (dx : Addr) (fs : List (Str × V)), H2 a = some (exo a C (some dx)) ∧ H2 dx = some (exd dx fs) ∧ fs.length ≤ 900 ∧ D.nx σ (upd H2 dx (exd dx ((f, y) :: fs))))
/-- C(e, ..) as a value, C's own maker keeping sp -/
def tXmk (C : Addr) (sp : Sp) (ta : TA) : TE := fun σ H Q => ta σ H fun vs H1 => vs.length ≤ 1000 ∧ ∀ a, H1 a = none → sp (.ref a :: vs) (upd H1 a (exo a C none)) (fun v H2 => v = .non ∧ Q (.ref a) H2) (fun _ _ _ => False)
/-- e.f of an exception that has its dict -/
def tXfd (K : PySem.W.Frag) (f : Str) (te : TE) : TE := fun σ H Q => te σ H fun x H1 => ∃ (a C dd : Addr) (fs : List (Str × V)) (v : V), x = .ref a ∧ H1 a = some (exo a C (some dd)) ∧ H1 dd = some (exd dd fs) ∧ XfC K C ∧ PySem.W.findIn K (.ref C) f = some none ∧ fs.lookup f = some v ∧ Q v H1
/-- isinstance(e, c) of an exception -/
def rXis (K : PySem.W.Frag) : List V → Hp → VK → Prop := fun xs H Q => ∃ (a C : Addr) (c : V) (u : Value) (b : Bool), xs = [.ref a, c] ∧ ClsV c u ∧ ExcC K C ∧ (H a = some (exo a C none) ∨ ∃ (dd : Addr) (fs : List (Str × V)), H a = some (exo a C (some dd)) ∧ H dd = some (exd dd fs)) ∧ PySem.W.kitOne K (.ref C) u = some b ∧ Q (.bl b) H

section
variable {X : Cx} {o e : Expr} {es : List Expr} {to te : TE} {ta : TA} {f : Str} {p p' p1 p2 pos : Pos} {B newId initId : String} {bmB : List Value}
theorem ps_xst (SF : StoreFacts B bmB "object.__setattr__" "object") (ho : PE X o to) (he : PE X e te) (hs : swapsWith e (some (.Attribute o f p')) pos.line X.env = pure false := by rfl) : PS X (.Assign [.Attribute o f p'] e pos) (tXst X.K bmB newId f to te) := by
  refine ⟨fun pins s σ H D I h => ?_⟩
  refine plainObj_wpAny_Assign_Attribute (thn (he.run pins s σ H _ I h) fun v s1 ⟨y, H1, I1, r1, q1⟩ => thn (ho.run pins s1 σ H1 _ I1 q1) fun u s2 ⟨x, H2, I2, r2, a, C, ex, T, hno, q⟩ => ?_) hs
  subst ex
  cases (show u = Value.ref a from r2)
  rcases q with ⟨ea, q⟩ | ⟨dx, fs, ea, ed, hl, q⟩
  · exact xst_new SF T I2 ea hno r1 fun dx s' n ne J => ⟨σ, _, J, q dx n ne⟩
  · exact xst_old SF T I2 ea ed hl hno r1 fun s' J => ⟨σ, _, J, q⟩
theorem pe_xmk {x : Str} {C fI : Addr} {k : Nat} {fd : FuncData} {ps : List Str} {sp : Sp} (FB : ExcBaseFacts B newId initId bmB) (T : Xc X.K C bmB newId) (iC : PySem.W.findIn X.K (.ref C) "__init__" = some (some (.ref fI))) (tI : PySem.W.isFn X.K (.ref fI) = true)
    (F1 : FnOk X.prog X.w X.K X.mg X.base CX0 k fI fd ps sp) (hr : Room (k + 1) X.A) (hb : Binds X.K fd ps []) (hg : Gl X x) (hm : X.mg x = some (.ref C)) (ha : PA X (e :: es) ta)
    (hdb : (x == ("__debug__" : Str)) = false := by decide) (he : starEach (e :: es) X.env = (false, eval e X.env) :: starEach es X.env := by rfl) (hpl : (backTo pos (starEach es X.env)).any (·.1) = false := by rfl) :
    PE X (.Call (.Name x p) (e :: es) [] pos) (tXmk C sp ta) := by
  refine ⟨fun pins s σ H Q I h => ?_⟩
  refine wpAny_Call_Name_kw (ld_glob I hg hm ?_ hdb)
  refine PySem.W.callWith_K (h₀ := X.base) I.ok.mod.kin T.kC (thn (ha.run pos pins s σ H _ I h) fun us s1 ⟨vs, H1, I1, r1, hz, q1⟩ => ⟨I1.kIn, ?_⟩) he hpl
  show wpAny _ _ (call (.ref C) us) _ _ _
  obtain ⟨hp, g, dr, tk, os⟩ := s1
  obtain ⟨nm, N, qn, bs, bm, hdct, sn, sub, ab, col, dd, k0, k1, k2, k3, k5, hC, hT⟩ := PySem.W.excInit_of I1.kIn T.ini
  have hn : H1 (hp.objs.size + 1) = none := I1.hok.fresh (Nat.le_succ _)
  have kk : ∀ b o, hp.get? b = some o → ((hp.push (PySem.W.kdv_tup us)).push (PySem.HandSPX.excO C hp.objs.size)).get? b = some o := fun b o z => Heap.get?_push_of_some _ (Heap.get?_push_of_some _ z)
  have hget : ((hp.push (PySem.W.kdv_tup us)).push (PySem.HandSPX.excO C hp.objs.size)).get? (hp.objs.size + 1) = some (PySem.HandSPX.excO C hp.objs.size) := by heap_get
  have I2 : Inv X pins σ (upd H1 (hp.objs.size + 1) (exo (hp.objs.size + 1) C none)) ⟨(hp.push (PySem.W.kdv_tup us)).push (PySem.HandSPX.excO C hp.objs.size), g, dr, tk, os⟩ :=
    I1.laid (t' := tk) (a := hp.objs.size + 1) (o := exo (hp.objs.size + 1) C none) (h' := (hp.push (PySem.W.kdv_tup us)).push (PySem.HandSPX.excO C hp.objs.size)) kk (Nat.le_succ _) (exo_ok hget)
  have hq := q1 (hp.objs.size + 1) hn
  have r2 : Vals (V.ref (hp.objs.size + 1) :: vs) (Value.ref (hp.objs.size + 1) :: us) := .cons rfl r1
  have hl : (Value.ref (hp.objs.size + 1) :: us).length = ps.length := by rw [← r2.length, F1.len _ _ _ _ hq]
  have hus : us.length ≤ sizeLine := by
    rw [← r1.length, sizeLine_eq]
    omega
  have hb' := hb ⟨(hp.push (PySem.W.kdv_tup us)).push (PySem.HandSPX.excO C hp.objs.size), g, dr, tk, os⟩ (Value.ref (hp.objs.size + 1) :: us) I2.kIn (by rw [List.append_nil]; exact hl)
  rw [List.append_nil] at hb'
  refine wpAny_call (PySem.HandSPX.call_own FB hT hC (PySem.W.looks_findIn I1.kIn iC) (fun self => PySem.W.bind_fn I1.kIn self (beq_iff_eq.mp tI)) hus
    (codeAny_mono (F1.run _ X.stack _ _ ⟨Value.ref (hp.objs.size + 1) :: us, []⟩ _ _ _ (fun _ _ _ => False) (hr.make C us []) (I2.env0.make C us []) hb' r2 hq) fun r s' z => ?_))
  cases r with
  | error er => exact False.elim z
  | ok fl =>
    cases fl with
    | ret u =>
      obtain ⟨v, H2, os2, bare2, un2, hok2, rv, ev, q2⟩ := z
      subst ev
      refine ⟨rv, ?_⟩
      refine I1.after (Q := Q) ⟨.ref (hp.objs.size + 1), H2, os2, bare2, ?_, hok2, rfl, q2⟩
      exact (Un.laid (fs := frs X.stack) (ex := []) (o := exo (hp.objs.size + 1) C none) kk (Nat.le_succ _) hn).trans un2
    | next => exact False.elim z
    | brk => exact False.elim z
    | cont => exact False.elim z
/-- what is made of a class without a maker of its own -/
theorem xplain {pins : List (Addr × Obj)} {σ : L2.St} {H : Hp} {s : Shared} {Q : VK} {C : Addr} {vs : List V} {us : List Value} (FB : ExcBaseFacts B newId initId bmB) (q : PySem.W.excIn X.K C bmB newId = true) (I : Inv X pins σ H s) (r : Vals vs us) (hz : vs.length ≤ 1000)
    (q1 : ∀ a, H a = none → Q (.ref a) (upd H a (exo a C none))) : wpAny (model X.prog X.w) X.A (call (.ref C) us) (EP X pins σ Q) X.xe s := by
  obtain ⟨bm, N, nm, qn, bs, hdct, sn, sub, ab, col, dd, k0, k1, k2, k3, k5, mN, hC, hN, hni, T⟩ := exc_obj I.kIn q
  refine wpAny_call_exc_subT FB T hC hN hni (fun h' a hm => ?_) (by rw [← r.length, sizeLine_eq]; omega)
  have hn : H a = none := I.hok.gone hm.new
  obtain ⟨t, ht, _, _⟩ := hm.there
  exact ⟨.ref a, upd H a (exo a C none), I.laidN hm.keeps hm.new hn (exo_ok ht), rfl, q1 a hn⟩
/-- C(e) of such a class: a new exception object -/
theorem pe_xplain1 {x : Str} {C : Addr} (FB : ExcBaseFacts B newId initId bmB) (q : PySem.W.excIn X.K C bmB newId = true) (gC : X.mg x = some (.ref C)) (kC : PySem.W.keepIn X.K (.ref C) = true) (hg : Gl X x) (ha : PA X (e :: es) ta)
    (hdb : (x == ("__debug__" : Str)) = false := by decide) (he : starEach (e :: es) X.env = (false, eval e X.env) :: starEach es X.env := by rfl) (hpl : (backTo pos (starEach es X.env)).any (·.1) = false := by rfl) :
    PE X (.Call (.Name x p) (e :: es) [] pos) (fun σ H Q => ta σ H fun vs H1 => vs.length ≤ 1000 ∧ ∀ a, H1 a = none → Q (.ref a) (upd H1 a (exo a C none))) := by
  refine ⟨fun pins s σ H Q I h => wpAny_Call_Name_kw (ld_glob I hg gC ?_ hdb)⟩
  exact PySem.W.callWith_K (h₀ := X.base) I.ok.mod.kin kC (thn (ha.run pos pins s σ H _ I h) fun us s1 ⟨vs, H1, I1, r1, hz, q1⟩ => ⟨I1.kIn, xplain FB q I1 r1 hz q1⟩) he hpl
/-- C() of such a class -/
theorem pe_xplain0 {x : Str} {C : Addr} (FB : ExcBaseFacts B newId initId bmB) (q : PySem.W.excIn X.K C bmB newId = true) (gC : X.mg x = some (.ref C)) (kC : PySem.W.keepIn X.K (.ref C) = true) (hg : Gl X x)
    (hdb : (x == ("__debug__" : Str)) = false := by decide) :
    PE X (.Call (.Name x p) [] [] pos) (fun σ H Q => ∀ a, H a = none → Q (.ref a) (upd H a (exo a C none))) := by
  refine ⟨fun pins s σ H Q I h => wpAny_Call_Name_kw (ld_glob I hg gC ?_ hdb)⟩
  exact PySem.W.callWith_K0 I.kIn kC (xplain (us := []) FB q I .nil (by decide) h)
theorem pe_xfd (he : PE X e te) (hb : attributeBase e f X.env (eval e X.env) = eval e X.env := by rfl) : PE X (.Attribute e f pos) (tXfd X.K f te) := by
  refine ⟨fun pins s σ H Q I h => ?_⟩
  refine attr_of hb (thn (he.run pins s σ H _ I h) fun u s1 ⟨x, H1, I1, rx, a, C, dd, fs, v, ex, ea, ed, T, hno, l, q⟩ => ?_)
  subst ex
  cases (show u = Value.ref a from rx)
  obtain ⟨t1, ho⟩ := exo_at I1.hok ea
  obtain ⟨mA, hns, hr⟩ := exd_at I1.hok ed
  obtain ⟨od, hod, hl⟩ := lookIn_ns hns
  obtain ⟨w', hu, ru⟩ := RelO.some_of (v := v) (o := mA f) (by rw [← l]; exact hr f)
  have J : PySem.W.InstAt s1.heap a _ C (some od) := ⟨ho, rfl, rfl, hod⟩
  exact HandSPX.exc_get I1.kIn J T.ga T.gg T.exC (PySem.W.findObj_own T.hdC hno rfl (by rw [hl, hu])) (handed_of ru) ⟨v, H1, I1.tok _, ru, q⟩
end
end Hc

namespace PySem.W
open PySem PySem.Spec PySem.Calls PyProof.Rows
section
variable {prog : Program} {w : World} {A : Around} {E : Value → Shared → Prop} {s : Shared} {K : Frag} {x D : Addr} {ox : Obj}
/-- e.__class__ of an exception that has a dict -/
theorem hc_classD {od : Obj} {Q : Option Value → Shared → Prop} (C : L2.ExcC K D) (X : K.In s.heap) (I : InstAt s.heap x ox D (some od)) (h : Q (some (.ref D)) { s with toks := s.toks + 1 }) : wpAny (model prog w) A (getAttr? (.ref x) "__class__") Q E s := by
  have hf : findObj K D (some od) "__class__" = some (.bind (.builtin "getset_descriptor.__get__") (.builtin "object.__class__")) := findObj_data (by obtain ⟨cd, hc, _⟩ := any_some C.hd; rw [hc]; rfl) C.ha C.hn C.ht
  obtain ⟨hp, g, d, t, os⟩ := s
  have M0 := I.type (M := model prog w)
  have M1 := looks_findIn (M := model prog w) X C.hg
  have M2 := looks_findIn (M := model prog w) X C.hk
  have M3 := looks_find (M := model prog w) X I hf
  have isB : Looks (model prog w) hp (isInstance (.ref x) (.type "BaseException")) true := M0.andThen (looks_subIn X C.hs)
  have n1 : (Value.builtin "BaseException.__getattribute__" == Value.builtin "object.__getattribute__") = false := by decide +kernel
  have n2 : (onTheHeap (Value.ref D) && Value.builtin "BaseException.__getattribute__" == Value.builtin "object.__getattribute__") = false := by rw [n1] <;> rfl
  unfold getAttr? getAttrBy? getAttrBy
  refine wpAny_bind (wpAny_mkText (wpAny_bind (wpAny_attempt (wpAny_holding (wpAny_bind (M0.at (wpAny_bind (M1.at ?_))))))))
  show wpAny _ _ (if (onTheHeap (Value.ref D) && Value.builtin "BaseException.__getattribute__" == Value.builtin "object.__getattribute__") = true then _ else _) _ _ _
  rw [n2, if_neg Bool.false_ne_true]
  unfold getAttrByItsOwn hookBefore
  refine wpAny_bind ?_
  rw [if_pos (show onTheHeap (Value.ref D) = true from rfl)]
  refine M2.at (wpAny_bind (wpAny_attempt (wpAny_holding ?_)))
  unfold callGetattribute
  rw [if_neg (show ¬ (false && onTheHeap (Value.builtin "BaseException.__getattribute__")) = true from Bool.false_ne_true)]
  unfold boundAndCalled
  rw [PySem.F.excAttr_ValueError.ga.bind (.ref x)]
  refine wpAny_bind (wpAny_pure ?_)
  show wpAny _ _ (call (.builtin "BaseException.__getattribute__") [.ref x, .str "__class__" t]) _ _ _
  refine wpAny_call (codeAny_call_builtin PySem.F.excAttr_ValueError.ga.plain PySem.F.entry_bexc_ga ?_)
  refine @check_slot (model prog w) _ _ ⟨hp, g, d, t + 1, os⟩ "BaseException.__getattribute__" "BaseException" "__getattribute__" (.ref x) [.str "__class__" t] [] _ (by decide +kernel) (by decide +kernel) isB (PySem.F.args_bexc_ga (.ref x) (.str "__class__" t)) ?_
  unfold Builtin.«object.__getattribute__»
  refine wpAny_bind (wpAny_of_eq (a := ((Value.ref x : Value), [Value.str "__class__" t])) (by first | rfl | (simp only [slotArgs]; rfl)) ?_)
  refine wpAny_bind (wpAny_pure (wpAny_bind (M0.at (wpAny_bind (M3.at ?_)))))
  show wpAny _ _ (holding [Value.builtin "object.__class__"] (call (.builtin "getset_descriptor.__get__") [.builtin "object.__class__", .ref x, .ref D]) >>= ret) _ _ _
  refine wpAny_bind (wpAny_holding (wpAny_call (class_get (s := ⟨hp, g, d, t + 1, os⟩) (ox := ox) (od := some od) X I C.hm ?_)))
  refine wpAny_pure ?_
  show wpAny _ _ (handedOut (.ref D)) _ _ _
  rw [handedOut_of (v := .ref D) rfl]
  first
    | exact wpAny_pure (wpAny_pure h)
    | exact wpAny_pure h
    | exact wpAny_pure (wpAny_bind (wpAny_pure (wpAny_pure h)))
theorem hc_kitD {od : Obj} (C : L2.ExcC K D) : KitX K (.ref x) (.ref D) (fun h => InstAt h x ox D (some od)) where
  ty := fun _ _ _ I => I.type
  it := fun M h X _ => by
    obtain ⟨cd, hc, hh⟩ := any_some C.hd
    clear hh
    unfold clsIn at hc
    split at hc
    · rename_i ho
      intro A' Q' E' s' k q
      unfold isType loadHead
      exact wpAny_bind (wpAny_loadPart (k _ _ (X _ _ ho)) (wpAny_pure q))
    · cases hc
  ne := (handS_kitx_exc (x := x) (ox := ox) C.hg C.hk C.hs C.hd C.ha C.hn C.ht C.hm).ne
  ca := fun X I k => hc_classD C X I k
end
end PySem.W

namespace Hc
open PySem PySem.Spec PyProof.Rows L2
theorem call_xis {X : Cx} : CallR X (.builtin "isinstance") (rXis X.K) := by
  intro pins s σ H xs us Q I r h
  obtain ⟨a, C, c, cv, b, rfl, hcv, T, ho, e, q⟩ := h
  obtain ⟨u1, u2, rfl, r1, r2⟩ := vals2 r
  cases (show u1 = Value.ref a from r1)
  have ec := hcv.eq r2
  subst ec
  rcases ho with ho | ⟨dd, fs, ho, hd⟩
  · obtain ⟨t1, hget⟩ := exo_at I.hok ho
    have J : PySem.W.InstAt s.heap a _ C none := ⟨hget, rfl, rfl, trivial⟩
    exact PySem.W.kia_one (PySem.W.handS_kitx_exc T.hg T.hk T.hs T.hd T.ha T.hn T.ht T.hm) I.kIn J e (fun z => nomatch z) fun tk => ⟨.bl b, H, I.tok tk, rfl, q⟩
  · obtain ⟨t1, hget⟩ := exo_at I.hok ho
    obtain ⟨mA, hns, _⟩ := exd_at I.hok hd
    obtain ⟨od, hod, _⟩ := lookIn_ns hns
    have J : PySem.W.InstAt s.heap a _ C (some od) := ⟨hget, rfl, rfl, hod⟩
    exact PySem.W.kia_one (PySem.W.hc_kitD T) I.kIn J e (fun z => nomatch z) fun tk => ⟨.bl b, H, I.tok tk, rfl, q⟩
end Hc
/-! module HcErr -/
set_option maxHeartbeats 4000000
/-! The text's error classes as data: name, fields, base; what the written part is asked of each, and what follows. -/
namespace Hc
open PySem PySem.Spec PyProof.Rows L2

/-- an error class: its name, the fields of its own maker, whether it stands under RuntimeError -/
structure ErrD where
  name : Str
  fields : List Str
  rt : Bool
def veB : List Value := [.type "ValueError", .type "Exception", .type "BaseException", .type "object"]
def rtB : List Value := [.type "RuntimeError", .type "Exception", .type "BaseException", .type "object"]
def ErrD.bm (d : ErrD) : List Value := if d.rt then rtB else veB
def ErrD.newId (d : ErrD) : String := if d.rt then "RuntimeError.__new__" else "ValueError.__new__"
def eqV2 (a b : Option (Option Value)) : Bool := decide (a = b)
/-- what the written part is asked of the class at C -/
def xcOk (K : PySem.W.Frag) (C : Addr) (d : ErrD) : Bool :=
  PySem.W.excInitIn K C d.bm d.newId && (PySem.W.excOver K C d.bm && (PySem.W.hasDictIn K C && (eqV2 (PySem.W.findIn K (.ref C) "__setattr__") (some (some (.builtin "object.__setattr__"))) && (PySem.W.keepIn K (.ref C) &&
  (eqV2 (PySem.W.findIn K (.ref C) "__getattribute__") (some (some (.builtin "BaseException.__getattribute__"))) && (eqV2 (PySem.W.findIn K (.ref C) "__getattr__") (some none) && (decide (PySem.W.subIn K (.ref C) (.type "BaseException") = some true) &&
  (eqV2 (PySem.W.findIn K (.ref C) "__class__") (some (some (.builtin "object.__class__"))) && (eqV2 (PySem.W.specialIn K (.builtin "object.__class__") "__get__") (some (some (.builtin "getset_descriptor.__get__"))) && (decide (PySem.W.takesIn K (.builtin "object.__class__") = some true) &&
  decide (PySem.W.mroIn K C (.type "object") = some true)))))))))))
theorem xcOk_ok {K : PySem.W.Frag} {C : Addr} {d : ErrD} (h : xcOk K C d = true) : Xc K C d.bm d.newId := by
  unfold xcOk eqV2 at h
  simp only [Bool.and_eq_true, decide_eq_true_eq] at h
  obtain ⟨h1, h2, h3, h4, h5, h6, h7, h8, h9, h10, h11, h12⟩ := h
  exact ⟨h1, h2, h3, h4, h5, ⟨h6, h7, h8, h3⟩, ⟨h6, h7, h8, h3, h9, h10, h11, h12⟩⟩
/-- a class with its own maker: the maker's def, the fields that no class holds -/
def mkOk (K : PySem.W.Frag) (C : Addr) (d : ErrD) : Bool :=
  if d.fields.isEmpty then PySem.W.excIn K C d.bm d.newId else
  eqV2 (PySem.W.findIn K (.ref C) "__init__") (some (some (.ref (He.ma K C "__init__")))) && (PySem.W.isFn K (.ref (He.ma K C "__init__")) && d.fields.all fun f => eqV2 (PySem.W.findIn K (.ref C) f) (some none))
def glOk (K : PySem.W.Frag) (x : Str) : Bool := eqV2 (PySem.W.nsIn K mainGlobals x) (some (some (.ref (He.ga K x))))
/-- the class of the i-th error -/
def ec (K : PySem.W.Frag) (errs : List ErrD) (i : Nat) : Addr := match errs[i]? with
  | some d => He.ga K d.name
  | none => 0
def errOk (K : PySem.W.Frag) (d : ErrD) : Bool := glOk K d.name && (xcOk K (He.ga K d.name) d && mkOk K (He.ga K d.name) d)
def errsOk (K : PySem.W.Frag) (errs : List ErrD) : Bool := errs.all (errOk K)
/-- which is whose -/
def kitOk (K : PySem.W.Frag) (errs : List ErrD) : Bool := (List.range errs.length).all fun i => (List.range errs.length).all fun j => decide (PySem.W.kitOne K (.ref (ec K errs i)) (.ref (ec K errs j)) = some (decide (i = j)))
def kitTo (K : PySem.W.Frag) (errs : List ErrD) (u : Value) (b : ErrD → Bool) : Bool := errs.all fun d => decide (PySem.W.kitOne K (.ref (He.ga K d.name)) u = some (b d))

section
variable {K : PySem.W.Frag} {errs : List ErrD}
theorem err_at (h : errsOk K errs = true) {d : ErrD} (hd : d ∈ errs) : PySem.W.nsIn K mainGlobals d.name = some (some (.ref (He.ga K d.name))) ∧ Xc K (He.ga K d.name) d.bm d.newId ∧ mkOk K (He.ga K d.name) d = true := by
  have h1 := List.all_eq_true.mp h d hd
  unfold errOk glOk eqV2 at h1
  simp only [Bool.and_eq_true, decide_eq_true_eq] at h1
  exact ⟨h1.1, xcOk_ok h1.2.1, h1.2.2⟩
theorem mk_at {C : Addr} {d : ErrD} (h : mkOk K C d = true) (hf : d.fields.isEmpty = false) : PySem.W.findIn K (.ref C) "__init__" = some (some (.ref (He.ma K C "__init__"))) ∧ PySem.W.isFn K (.ref (He.ma K C "__init__")) = true ∧ ∀ f ∈ d.fields, PySem.W.findIn K (.ref C) f = some none := by
  unfold mkOk at h
  rw [hf, if_neg Bool.false_ne_true] at h
  unfold eqV2 at h
  simp only [Bool.and_eq_true, decide_eq_true_eq, List.all_eq_true] at h
  exact ⟨h.1, h.2.1, h.2.2⟩
theorem mk_no {C : Addr} {d : ErrD} (h : mkOk K C d = true) (hf : d.fields.isEmpty = true) : PySem.W.excIn K C d.bm d.newId = true := by
  unfold mkOk at h
  rw [hf, if_pos rfl] at h
  exact h
theorem ec_at {i : Nat} {d : ErrD} (h : errs[i]? = some d) : ec K errs i = He.ga K d.name := by
  unfold ec
  rw [h]
theorem kit_at (h : kitOk K errs = true) {i j : Nat} (hi : i < errs.length) (hj : j < errs.length) : PySem.W.kitOne K (.ref (ec K errs i)) (.ref (ec K errs j)) = some (decide (i = j)) :=
  of_decide_eq_true (List.all_eq_true.mp (List.all_eq_true.mp h i (List.mem_range.mpr hi)) j (List.mem_range.mpr hj))
theorem kit_to {u : Value} {b : ErrD → Bool} (h : kitTo K errs u b = true) {i : Nat} {d : ErrD} (hi : errs[i]? = some d) : PySem.W.kitOne K (.ref (ec K errs i)) u = some (b d) := by
  rw [ec_at hi]
  exact of_decide_eq_true (List.all_eq_true.mp h d (List.mem_of_getElem? hi))
end

/-! ### the makers -/
/-- what a maker of one field does -/
def spIni1 (K : PySem.W.Frag) (bmB : List Value) (newId : String) (f : Str) : Sp := fun vs H Q _ => ∃ (a C : Addr) (v : V), vs = [.ref a, v] ∧ H a = some (exo a C none) ∧ Xc K C bmB newId ∧ PySem.W.findIn K (.ref C) f = some none ∧
  ∀ dx, H dx = none → dx ≠ a → Q .non (upd (upd H dx (exd dx [(f, v)])) a (exo a C (some dx)))
section
variable {P : Program} {w : World} {K : PySem.W.Frag} {mg : Str → Option Value} {base : Heap} {B newId : String} {bmB : List Value}
theorem ok_ini1 {fI : Addr} {fd : FuncData} {qual : Str} {st : Stmt} {fld : Str} {p1 p2 p3 p4 : Pos} (SF : StoreFacts B bmB "object.__setattr__" "object") (F : Fun K "__init__" qual st fI fd) (S : FnScope ["self", fld] ["self", fld] (defScope st))
    (hB : defBody st = [.Assign [.Attribute (.Name "self" p1) fld p2] (.Name fld p3) p4]) (v1 : (defScope st).names.lookup ("self" : Str) = some .local) (v2 : (defScope st).names.lookup fld = some .local)
    (d1 : (fld == ("__debug__" : Str)) = false) (d2 : (fld == ("__classdict__" : Str)) = false) : FnOk P w K mg base CX0 1 fI fd ["self", fld] (spIni1 K bmB newId fld) := by
  refine F.ok S (fun vs H Q E h => ?_) (fun cdv A outer s H vs Q E hr h => ?_)
  · obtain ⟨a, C, v, rfl, _⟩ := h
    rfl
  · obtain ⟨a, C, v, rfl, ha, T, no, q⟩ := h
    rw [hB]
    exact ⟨_, pss_one (ps_xst (newId := newId) SF (pv 0 rfl (Or.inl v1)) (pv 1 rfl (Or.inl v2) d1 d2)), _, rfl, _, rfl, a, C, rfl, T, no, .inl ⟨ha, fun dx n ne => q dx n ne⟩⟩
end

/-! ### what is made and read in passing -/
section
open Evl
variable {K : PySem.W.Frag} {σ : L2.St} {H : Hp} {te : TE} {bmB : List Value} {newId : String} {C : Addr} {f : Str} {v : V}
/-- at a an error of the class at C, with some fields -/
def ErrAt (H : Hp) (a C : Addr) (fs : List (Str × V)) : Prop := ∃ dd, H a = some (exo a C (some dd)) ∧ H dd = some (exd dd fs)
/-- .. of any kind -/
def ErrIs (H : Hp) (a C : Addr) : Prop := H a = some (exo a C none) ∨ ∃ (dd : Addr) (fs : List (Str × V)), H a = some (exo a C (some dd)) ∧ H dd = some (exd dd fs)
theorem ErrAt.is {a C : Addr} {fs : List (Str × V)} (h : ErrAt H a C fs) : ErrIs H a C := by
  obtain ⟨dd, h1, h2⟩ := h
  exact .inr ⟨dd, fs, h1, h2⟩
theorem ErrIs.ex {H' : Hp} {a C : Addr} (h : ErrIs H a C) (e : Ex H H') : ErrIs H' a C := by
  rcases h with h | ⟨dd, fs, h1, h2⟩
  · exact .inl (e _ _ h)
  · exact .inr ⟨dd, fs, e _ _ h1, e _ _ h2⟩
theorem ErrAt.ex {H' : Hp} {a C : Addr} {fs : List (Str × V)} (h : ErrAt H a C fs) (e : Ex H H') : ErrAt H' a C fs := by
  obtain ⟨dd, h1, h2⟩ := h
  exact ⟨dd, e _ _ h1, e _ _ h2⟩
theorem exo_upd {H1 : Hp} {a dx : Addr} {o p : HO} (n : H1 a = none) (nd : H1 dx = none) (ne : dx ≠ a) {q : HO} : Ex H1 (upd (upd (upd H1 a o) dx p) a q) := fun b u e => by
  rw [upd_ne (ne_of_none e n), upd_ne (ne_of_none e nd), upd_ne (ne_of_none e n)]
  exact e
/-- an expression that makes an error of the class at C with such fields -/
def EvE (te : TE) (σ : L2.St) (H : Hp) (C : Addr) (fs : List (Str × V)) : Prop := ∀ H1, Ex H H1 → ∀ Q : VK, (∀ a H2, Ex H1 H2 → H1 a = none → ErrAt H2 a C fs → Q (.ref a) H2) → te σ H1 Q
theorem ee_mk1 (T : Xc K C bmB newId) (no : PySem.W.findIn K (.ref C) f = some none) (h : Ev te σ H v) : EvE (tXmk C (spIni1 K bmB newId f) (tCons te tNil)) σ H C [(f, v)] := fun H1 e Q q =>
  h H1 e _ fun H2 e2 => ⟨by show 1 ≤ 1000; decide, fun a na => ⟨a, C, v, rfl, upd_same, T, no, fun dx nd ne => by
    rw [upd_ne ne] at nd
    refine ⟨rfl, q a _ (e2.trans (exo_upd na nd ne)) (fresh_back e2 na) ⟨dx, upd_same, ?_⟩⟩
    rw [upd_ne ne, upd_same]⟩⟩
theorem ev_fld {fs : List (Str × V)} (T : XfC K C) (no : PySem.W.findIn K (.ref C) f = some none) (h : EvE te σ H C fs) (l : fs.lookup f = some v) : Ev (tXfd K f te) σ H v := fun H1 e Q q =>
  h H1 e _ fun a H2 e2 na ⟨dd, h1, h2⟩ => ⟨a, C, dd, fs, v, rfl, h1, h2, T, no, l, q H2 e2⟩
theorem ev_fldV {fs : List (Str × V)} {a : Addr} (T : XfC K C) (no : PySem.W.findIn K (.ref C) f = some none) (h : Ev te σ H (.ref a)) (x : ErrAt H a C fs) (l : fs.lookup f = some v) : Ev (tXfd K f te) σ H v := fun H1 e Q q =>
  h H1 e _ fun H2 e2 => by
    obtain ⟨dd, h1, h2⟩ := x
    exact ⟨a, C, dd, fs, v, rfl, e2 _ _ (e _ _ h1), e2 _ _ (e _ _ h2), T, no, l, q H2 e2⟩
end

/-! ### makers of two and three fields -/
def spIni2 (K : PySem.W.Frag) (bmB : List Value) (newId : String) (f g : Str) : Sp := fun vs H Q _ => ∃ (a C : Addr) (v u : V), vs = [.ref a, v, u] ∧ H a = some (exo a C none) ∧ Xc K C bmB newId ∧ PySem.W.findIn K (.ref C) f = some none ∧ PySem.W.findIn K (.ref C) g = some none ∧
  ∀ dx (H' : Hp), H dx = none → dx ≠ a → (∀ b, b ≠ a → b ≠ dx → H' b = H b) → H' a = some (exo a C (some dx)) → H' dx = some (exd dx [(g, u), (f, v)]) → Q .non H'
def spIni3 (K : PySem.W.Frag) (bmB : List Value) (newId : String) (f g j : Str) : Sp := fun vs H Q _ => ∃ (a C : Addr) (v u z : V), vs = [.ref a, v, u, z] ∧ H a = some (exo a C none) ∧ Xc K C bmB newId ∧ PySem.W.findIn K (.ref C) f = some none ∧ PySem.W.findIn K (.ref C) g = some none ∧ PySem.W.findIn K (.ref C) j = some none ∧
  ∀ dx (H' : Hp), H dx = none → dx ≠ a → (∀ b, b ≠ a → b ≠ dx → H' b = H b) → H' a = some (exo a C (some dx)) → H' dx = some (exd dx [(j, z), (g, u), (f, v)]) → Q .non H'
section
variable {P : Program} {w : World} {K : PySem.W.Frag} {mg : Str → Option Value} {base : Heap} {B newId : String} {bmB : List Value}
theorem ok_ini2 {fI : Addr} {fd : FuncData} {qual : Str} {st : Stmt} {f g : Str} {p1 p2 p3 p4 q1 q2 q3 q4 : Pos} (SF : StoreFacts B bmB "object.__setattr__" "object") (F : Fun K "__init__" qual st fI fd) (S : FnScope ["self", f, g] ["self", f, g] (defScope st))
    (hB : defBody st = [.Assign [.Attribute (.Name "self" p1) f p2] (.Name f p3) p4, .Assign [.Attribute (.Name "self" q1) g q2] (.Name g q3) q4]) (v1 : (defScope st).names.lookup ("self" : Str) = some .local) (v2 : (defScope st).names.lookup f = some .local) (v3 : (defScope st).names.lookup g = some .local)
    (d1 : (f == ("__debug__" : Str)) = false) (d2 : (f == ("__classdict__" : Str)) = false) (d3 : (g == ("__debug__" : Str)) = false) (d4 : (g == ("__classdict__" : Str)) = false) : FnOk P w K mg base CX0 1 fI fd ["self", f, g] (spIni2 K bmB newId f g) := by
  refine F.ok S (fun vs H Q E h => ?_) (fun cdv A outer s H vs Q E hr h => ?_)
  · obtain ⟨a, C, v, u, rfl, _⟩ := h
    rfl
  · obtain ⟨a, C, v, u, rfl, ha, T, no, no2, q⟩ := h
    rw [hB]
    refine ⟨_, pss_cons (ps_xst (newId := newId) SF (pv 0 rfl (Or.inl v1)) (pv 1 rfl (Or.inl v2) d1 d2)) (pss_one (ps_xst (newId := newId) SF (pv 0 rfl (Or.inl v1)) (pv 2 rfl (Or.inl v3) d3 d4))), _, rfl, _, rfl, a, C, rfl, T, no, .inl ⟨ha, fun dx n ne => ?_⟩⟩
    refine ⟨_, rfl, _, rfl, a, C, rfl, T, no2, .inr ⟨dx, [(f, v)], upd_same, ?_, by show 1 ≤ 900; decide, q dx _ n ne (fun b h1 h2 => ?_) ?_ upd_same⟩⟩
    · rw [upd_ne ne, upd_same]
    · rw [upd_ne h2, upd_ne h1, upd_ne h2]
    · rw [upd_ne ne.symm, upd_same]
theorem ok_ini3 {fI : Addr} {fd : FuncData} {qual : Str} {st : Stmt} {f g j : Str} {p1 p2 p3 p4 q1 q2 q3 q4 r1 r2 r3 r4 : Pos} (SF : StoreFacts B bmB "object.__setattr__" "object") (F : Fun K "__init__" qual st fI fd) (S : FnScope ["self", f, g, j] ["self", f, g, j] (defScope st))
    (hB : defBody st = [.Assign [.Attribute (.Name "self" p1) f p2] (.Name f p3) p4, .Assign [.Attribute (.Name "self" q1) g q2] (.Name g q3) q4, .Assign [.Attribute (.Name "self" r1) j r2] (.Name j r3) r4]) (v1 : (defScope st).names.lookup ("self" : Str) = some .local) (v2 : (defScope st).names.lookup f = some .local) (v3 : (defScope st).names.lookup g = some .local) (v4 : (defScope st).names.lookup j = some .local)
    (d1 : (f == ("__debug__" : Str)) = false) (d2 : (f == ("__classdict__" : Str)) = false) (d3 : (g == ("__debug__" : Str)) = false) (d4 : (g == ("__classdict__" : Str)) = false) (d5 : (j == ("__debug__" : Str)) = false) (d6 : (j == ("__classdict__" : Str)) = false) : FnOk P w K mg base CX0 1 fI fd ["self", f, g, j] (spIni3 K bmB newId f g j) := by
  refine F.ok S (fun vs H Q E h => ?_) (fun cdv A outer s H vs Q E hr h => ?_)
  · obtain ⟨a, C, v, u, z, rfl, _⟩ := h
    rfl
  · obtain ⟨a, C, v, u, z, rfl, ha, T, no, no2, no3, q⟩ := h
    rw [hB]
    refine ⟨_, pss_cons (ps_xst (newId := newId) SF (pv 0 rfl (Or.inl v1)) (pv 1 rfl (Or.inl v2) d1 d2)) (pss_cons (ps_xst (newId := newId) SF (pv 0 rfl (Or.inl v1)) (pv 2 rfl (Or.inl v3) d3 d4)) (pss_one (ps_xst (newId := newId) SF (pv 0 rfl (Or.inl v1)) (pv 3 rfl (Or.inl v4) d5 d6)))), _, rfl, _, rfl, a, C, rfl, T, no, .inl ⟨ha, fun dx n ne => ?_⟩⟩
    refine ⟨_, rfl, _, rfl, a, C, rfl, T, no2, .inr ⟨dx, [(f, v)], upd_same, ?_, by show 1 ≤ 900; decide, ?_⟩⟩
    · rw [upd_ne ne, upd_same]
    refine ⟨_, rfl, _, rfl, a, C, rfl, T, no3, .inr ⟨dx, [(g, u), (f, v)], ?_, upd_same, by show 2 ≤ 900; decide, q dx _ n ne (fun b h1 h2 => ?_) ?_ upd_same⟩⟩
    · rw [upd_ne ne.symm, upd_same]
    · rw [upd_ne h2, upd_ne h2, upd_ne h1, upd_ne h2]
    · rw [upd_ne ne.symm, upd_ne ne.symm, upd_same]
end
section
open Evl
variable {K : PySem.W.Frag} {σ : L2.St} {H : Hp} {te tf tg : TE} {bmB : List Value} {newId : String} {C : Addr} {f g j : Str} {v u z : V}
theorem ext_mk {H1 H' : Hp} {a dx : Addr} {o : HO} (n : H1 a = none) (nd : H1 dx = none) (h : ∀ b, b ≠ a → b ≠ dx → H' b = upd H1 a o b) : Ex H1 H' := fun b x e => by
  rw [h b (ne_of_none e n) (ne_of_none e nd), upd_ne (ne_of_none e n)]
  exact e
theorem ee_mk2 (T : Xc K C bmB newId) (no : PySem.W.findIn K (.ref C) f = some none) (no2 : PySem.W.findIn K (.ref C) g = some none) (h1 : Ev te σ H v) (h2 : Ev tf σ H u) : EvE (tXmk C (spIni2 K bmB newId f g) (tCons te (tCons tf tNil))) σ H C [(g, u), (f, v)] := fun H1 e Q q =>
  h1 H1 e _ fun H2 e2 => h2 H2 (e.trans e2) _ fun H3 e3 => ⟨by show 2 ≤ 1000; decide, fun a na => ⟨a, C, v, u, rfl, upd_same, T, no, no2, fun dx H' nd ne hk ha hd => by
    rw [upd_ne ne] at nd
    exact ⟨rfl, q a _ ((e2.trans e3).trans (ext_mk na nd hk)) (fresh_back (e2.trans e3) na) ⟨dx, ha, hd⟩⟩⟩⟩
theorem ee_mk3 (T : Xc K C bmB newId) (no : PySem.W.findIn K (.ref C) f = some none) (no2 : PySem.W.findIn K (.ref C) g = some none) (no3 : PySem.W.findIn K (.ref C) j = some none) (h1 : Ev te σ H v) (h2 : Ev tf σ H u) (h3 : Ev tg σ H z) :
    EvE (tXmk C (spIni3 K bmB newId f g j) (tCons te (tCons tf (tCons tg tNil)))) σ H C [(j, z), (g, u), (f, v)] := fun H1 e Q q =>
  h1 H1 e _ fun H2 e2 => h2 H2 (e.trans e2) _ fun H3 e3 => h3 H3 ((e.trans e2).trans e3) _ fun H4 e4 => ⟨by show 3 ≤ 1000; decide, fun a na => ⟨a, C, v, u, z, rfl, upd_same, T, no, no2, no3, fun dx H' nd ne hk ha hd => by
    rw [upd_ne ne] at nd
    exact ⟨rfl, q a _ (((e2.trans e3).trans e4).trans (ext_mk na nd hk)) (fresh_back ((e2.trans e3).trans e4) na) ⟨dx, ha, hd⟩⟩⟩⟩
/-- of a class without a maker -/
theorem e0_mk {H1 : Hp} {C : Addr} {Q : VK} (q : ∀ a H2, Ex H1 H2 → H1 a = none → ErrIs H2 a C → Q (.ref a) H2) : ∀ a, H1 a = none → Q (.ref a) (upd H1 a (exo a C none)) := fun a na => q a _ (Ex.new na) na (.inl upd_same)
end
end Hc
/-! module HkHead -/
set_option maxHeartbeats 4000000
namespace Hc
open PySem PySem.Spec PyProof.Rows L2
/-- an own class below ValueError whose instances have a dict -/
def oexB (K : PySem.W.Frag) (C : Addr) : Bool := match K.lookup C with
  | some ⟨.type "type", _, .cls cd, sl⟩ => (match cd.mro, sl.toList with
    | .ref C' :: bm, [_, _, _, _, some (.builtin n), _] => decide (C' = C) && (decide (n = "ValueError.__new__") && (!cd.hasDel && (cd.hasDict && PySem.HandSPX.refsVE bm)))
    | _, _ => false)
  | _ => false
theorem oexB_ok {K : PySem.W.Frag} {C : Addr} (h : oexB K C = true) : ∃ nm q N bs bm sn sub ab col dd k0 k1 k2 k3 k5, K.lookup C = some (excClassObj nm q C N bs bm true sn sub ab col dd k0 k1 k2 k3 k5 "ValueError.__new__") ∧ PySem.HandSPX.refsVE bm = true := by
  unfold oexB at h
  split at h
  · rename_i dd cd sl ho
    split at h
    · rename_i C' bm k0 k1 k2 k3 n k5 hm hs
      simp only [Bool.and_eq_true, decide_eq_true_eq, Bool.not_eq_true'] at h
      obtain ⟨rfl, rfl, hdel, hdict, hve⟩ := h
      obtain ⟨nm, bs, mro, ns, qn, hd, sn, sub, ab, col, del⟩ := cd
      dsimp only at hm hdel hdict
      subst hm hdel hdict
      have hsl : sl = #[k0, k1, k2, k3, some (.builtin "ValueError.__new__"), k5] := by
        rw [← hs]
      subst hsl
      exact ⟨nm, qn, ns, bs, bm, sn, sub, ab, col, dd, k0, k1, k2, k3, k5, ho, hve⟩
    · cases h
  · cases h
end Hc
/-! module HyHead -/
set_option maxHeartbeats 4000000
/-! A head that looks only at what some names lead to: for larger tops. -/
namespace Hc
open PySem PySem.Spec PyProof.Rows L2
/-- one more step, the globals left out -/
def growN (g : Addr → Option Obj) (as : List Addr) : List Addr := (as ++ as.flatMap fun a => match decide (a = mainGlobals) with
  | true => []
  | false => match g a with
    | some o => He.refsD o
    | none => []).eraseDups
def growsN (g : Addr → Option Obj) : Nat → List Addr → List Addr
  | 0, as => as
  | n + 1, as => growsN g n (growN g as)
def rootsN (names : List Str) (g : Addr → Option Obj) : List Addr := names.map fun x => He.ga (He.frG g [mainGlobals]) x
def seenN (names : List Str) (n : Nat) (g : Addr → Option Obj) : PySem.W.Frag := He.frG g (growsN g n (mainGlobals :: rootsN names g))
def obsN (names : List Str) (n : Nat) (fa : List He.Fa) (fn : List He.DefD) (ex : PySem.W.Frag → Bool) (g : Addr → Option Obj) : Bool × He.AlD := (ex (seenN names n g), He.obsD fa fn (seenN names n g))
def hookN (names : List Str) (n : Nat) (fa : List He.Fa) (fn : List He.DefD) (ex : PySem.W.Frag → Bool) : PySem.W.Hook where
  α := Bool × He.AlD
  obs := fun s => obsN names n fa fn ex s.heap.get?
  val := fun _ => (true, He.valD fn)
  says := fun _ h => ∃ K : PySem.W.Frag, K.In h ∧ ex K = true ∧ He.SaysD fa fn K
  of := fun _ _ e => ⟨_, He.frG_in, congrArg Prod.fst e, congrArg Prod.snd e⟩
  keeps := fun _ _ _ ⟨K, hK, c⟩ k => ⟨K, PySem.W.Frag.In.keeps hK k, c⟩
def obN (names : List Str) (n : Nat) (fa : List He.Fa) (fn : List He.DefD) (ex : PySem.W.Frag → Bool) (s : PySem.W.SharedT) : Bool × He.AlD := obsN names n fa fn ex (HandSHeadRun.getT s)
theorem obN_eq (names : List Str) (n : Nat) (fa : List He.Fa) (fn : List He.DefD) (ex : PySem.W.Frag → Bool) (s : PySem.W.SharedT) : obN names n fa fn ex s = (hookN names n fa fn ex).obs s.abs := by
  have e : HandSHeadRun.getT s = s.abs.heap.get? := funext (HandSHeadRun.getT_eq s)
  show obsN names n fa fn ex (HandSHeadRun.getT s) = obsN names n fa fn ex s.abs.heap.get?
  rw [e]
end Hc
/-! module HvRun -/
set_option maxHeartbeats 0
namespace Hs
open PySem PySem.Spec PyProof.Rows L2 Hc
def smalls0 : List Nat := [97, 98, 99, 100, 101, 102, 103, 104, 105, 106, 107, 108, 109, 110, 111, 112, 113, 114, 115, 116, 117, 118, 119, 120, 121, 122]
def larges0 : List Nat := [65, 66, 67, 68, 69, 70, 71, 72, 73, 74, 75, 76, 77, 78, 79, 80, 81, 82, 83, 84, 85, 86, 87, 88, 89, 90]
def blD6 : ErrD := ⟨"BadLine", ["at"], false⟩
def fn06 : List He.DefD := [dk "_law_start" (top 70), dk "_law_draw" (top 71), dk "_law_of" (top 72), dk "_law_word" (top 73), dk "_law_tree" (top 74), dk "_law_lists" (top 75), dk "_law_text" (top 77), dk "_law_told" (top 78), dk "_law_full" (top 79), dk "_law_flat" (top 80), dk "_law_right" (top 81), dk "law" (top 82), dk "are_small" (top 11), dk "is_word" (top 12), dk "is_class_name" (top 13), dk "parts_of" (top 14), dk "is_shape" (top 19), dk "has_form" (top 20), dk "lone_word" (top 34), dk "uncopied" (top 35), dk "has_super" (top 36), dk "read_step" (top 37), dk "read_path" (top 38), dk "copied_part" (top 39), dk "read_simple" (top 40), dk "read_term" (top 45), dk "read_row" (top 46), dk "lines_of" (top 58), dk "next_merged" (top 59), dk "merged" (top 60), dk "read_class_line" (top 61), dk "read_kind" (top 62), dk "read_parameter" (top 63), dk "read_parameters" (top 64), dk "can_stand" (top 65), dmk "BadLine" "__init__" "BadLine.__init__" (inClass (top 4) 0), dmk "Shape" "__init__" "Shape.__init__" (inClass (top 21) 0), dmk "Path" "__init__" "Path.__init__" (inClass (top 27) 0), dmk "Copy" "__init__" "Copy.__init__" (inClass (top 28) 0), dmk "New" "__init__" "New.__init__" (inClass (top 29) 0), dmk "Row" "__init__" "Row.__init__" (inClass (top 33) 0), dmk "Definition" "__init__" "Definition.__init__" (inClass (top 56) 0), dmk "ClassText" "__init__" "ClassText.__init__" (inClass (top 57) 0), dmk "Reader" "__init__" "Reader.__init__" (inClass (top 66) 0), dmk "Reader" "take" "Reader.take" (inClass (top 66) 1), dmk "Reader" "_take_class" "Reader._take_class" (inClass (top 66) 2), dmk "Reader" "_take_member" "Reader._take_member" (inClass (top 66) 3), dmk "Reader" "_take_field" "Reader._take_field" (inClass (top 66) 4), dmk "Reader" "_take_method" "Reader._take_method" (inClass (top 66) 5), dmk "Reader" "_take_row" "Reader._take_row" (inClass (top 66) 6), dmk "Library" "__init__" "Library.__init__" (inClass (top 68) 0)]
def fa06_0 : List He.Fa := [.glo "_law_start", .glo "_law_draw", .glo "_law_of", .glo "_law_word", .glo "_law_tree", .glo "_law_lists", .glo "_law_text", .glo "_law_told", .glo "_law_full", .glo "_law_flat", .glo "_law_right", .glo "law", .glo "are_small", .glo "is_word", .glo "is_class_name", .glo "parts_of", .glo "is_shape", .glo "has_form", .glo "lone_word", .glo "uncopied", .glo "has_super", .glo "read_step", .glo "read_path", .glo "copied_part"]
def fa06_1 : List He.Fa := [.glo "read_simple", .glo "read_term", .glo "read_row", .glo "lines_of", .glo "next_merged", .glo "merged", .glo "read_class_line", .glo "read_kind", .glo "read_parameter", .glo "read_parameters", .glo "can_stand", .glo "BadLine", .glo "Shape", .glo "Path", .glo "Copy", .glo "New", .glo "SuperCall", .glo "Row", .glo "Definition", .glo "ClassText", .glo "Reader", .glo "Library", .glo "RESERVED", .glo "STEPS"]
def fa06_2 : List He.Fa := [.glo "COPY_ENDS", .glo "INDEX_KINDS", .glo "MARKS", .free "int", .free "abs", .free "len", .free "enumerate", .free "all", .free "any", .free "isinstance", .free "str", .free "tuple", .free "list", .free "range", .free "min", .free "set", .free "sorted", .free "sum", .free "max", .free "dict", .int "MOST_LETTERS" 8, .int "MOST_CLASSES" 8, .int "MOST_BASES" 3, .int "MOST_ITEMS" 3]
def fa06_3 : List He.Fa := [.int "MOST_DEPTH" 3, .int "MOST_LISTS" 5, .int "MOST_STEPS" 3, .int "MOST_PARAMETERS" 3, .int "MOST_METHODS" 5, .int "MOST_FIELDS" 4, .int "MOST_ROWS" 6, .str "SMALL_LETTERS" (S smalls0), .str "LARGE_LETTERS" (S larges0), .cls "Shape", .mkr "Shape", .noat "Shape" "text", .noat "Shape" "_parts", .noat "Shape" "_depth", .noat "Shape" "_lists", .cls "Path", .mkr "Path", .noat "Path" "of_self", .noat "Path" "word", .noat "Path" "steps", .cls "Copy", .mkr "Copy", .noat "Copy" "inner", .noat "Copy" "floor_count"]
def fa06_4 : List He.Fa := [.cls "New", .mkr "New", .noat "New" "shape", .cls "Row", .mkr "Row", .noat "Row" "way", .noat "Row" "path", .noat "Row" "term", .cls "Definition", .mkr "Definition", .noat "Definition" "owner", .noat "Definition" "name", .noat "Definition" "mark", .noat "Definition" "parameters", .noat "Definition" "rows", .cls "ClassText", .mkr "ClassText", .noat "ClassText" "name", .noat "ClassText" "lineage", .noat "ClassText" "fields", .noat "ClassText" "definitions", .cls "Reader", .mkr "Reader", .noat "Reader" "classes"]
def fa06_5 : List He.Fa := [.noat "Reader" "_owner", .noat "Reader" "_method", .cls "Library", .mkr "Library", .noat "Library" "text", .noat "Library" "names", .noat "Library" "_classes", .meth "Reader" "take", .meth "Reader" "_take_class", .meth "Reader" "_take_member", .meth "Reader" "_take_field", .meth "Reader" "_take_method", .meth "Reader" "_take_row"]
def fa06 : List He.Fa := fa06_0 ++ (fa06_1 ++ (fa06_2 ++ (fa06_3 ++ (fa06_4 ++ (fa06_5)))))

def exEx6 (K : PySem.W.Frag) (x f : Str) (d : ErrD) : Bool := oexB K (He.ga K x) &&
  (xcOk K (He.ga K x) d &&
  (decide (PySem.W.findIn K (.ref (He.ga K x)) "__init__" = some (some (.ref (He.ma K (He.ga K x) "__init__")))) &&
  (decide (PySem.W.typeIn K (.ref (He.ma K (He.ga K x) "__init__")) = some (.type "function")) &&
  (decide (PySem.W.findIn K (.ref (He.ga K x)) f = some none) &&
  (decide (PySem.W.typeIn K (.ref (He.ga K x)) = some (.type "type")) &&
  decide (PySem.W.exmOne K (.ref (He.ga K x)) (.ref (He.ga K x)) = some true))))))
/-- a global tuple of texts -/
def strsB : List Value → List (List Nat) → Bool
  | [], [] => true
  | .str x _ :: r, L :: t => decide (x = S L) && strsB r t
  | _, _ => false
def tupB (K : PySem.W.Frag) (x : Str) (Ls : List (List Nat)) : Bool := match K.lookup (He.ga K x) with
  | some o => decide (o.cls = .type "tuple") && (match o.data with
    | .seq its _ => decide (its.size ≤ 1000) && strsB its.toList Ls
    | _ => false)
  | none => false
def clsB (K : PySem.W.Frag) (x : Str) : Bool := decide (PySem.W.findIn K (.ref (He.ga K x)) "__class__" = some (some (.builtin "object.__class__"))) && decide (PySem.W.mroIn K (He.ga K x) (.type "object") = some true)
def getB (K : PySem.W.Frag) : Bool := decide (PySem.W.specialIn K (.builtin "object.__class__") "__get__" = some (some (.builtin "getset_descriptor.__get__"))) && decide (PySem.W.takesIn K (.builtin "object.__class__") = some true)
def kitB (K : PySem.W.Frag) (x y : Str) (b : Bool) : Bool := decide (PySem.W.kitOne K (.ref (He.ga K x)) (.ref (He.ga K y)) = some b)
def tp_RESERVED : List (List Nat) := [[99, 108, 97, 115, 115], [100, 101, 102], [101, 110, 116, 101, 114], [101, 120, 105, 116], [114, 101, 116, 117, 114, 110], [118, 105, 101, 119], [99, 111, 112, 121], [110, 101, 119], [115, 117, 112, 101, 114], [119, 114, 97, 112], [115, 101, 108, 102], [110, 111, 110, 101], [115, 101, 101, 110], [111, 117, 116, 115, 105, 100, 101]]
def tp_STEPS : List (List Nat) := [[48], [49], [50]]
def tp_COPY_ENDS : List (List Nat) := [[44, 32, 49], [44, 32, 50], [44, 32, 51]]
def tp_INDEX_KINDS : List (List Nat) := [[49], [50], [51]]
def tp_MARKS : List (List Nat) := [[100, 101, 102], [101, 110, 116, 101, 114], [101, 120, 105, 116]]
def ex06 (K : PySem.W.Frag) : Bool := exEx6 K "BadLine" "at" blD6 && (decide (He.ga K "Reader" ≠ He.ga K "ClassText") && (getB K && (clsB K "Shape" && (clsB K "New" && (clsB K "Copy" && (clsB K "Path" && (kitB K "New" "Copy" false && (kitB K "Copy" "Copy" true && (kitB K "Path" "Copy" false && (kitB K "New" "SuperCall" false && (kitB K "Path" "SuperCall" false && (kitB K "Path" "Path" true &&
  (propB K (He.ga K "Shape") "depth" && (codeA K (gAd K (He.ga K "Shape") "depth") "Shape.depth" && (tupB K "RESERVED" tp_RESERVED && (tupB K "STEPS" tp_STEPS && (tupB K "COPY_ENDS" tp_COPY_ENDS && (tupB K "INDEX_KINDS" tp_INDEX_KINDS && tupB K "MARKS" tp_MARKS))))))))))))))))))
def gt06 (K : PySem.W.Frag) : List He.FnV := [fnA K (gAd K (He.ga K "Shape") "depth")]
def gv06 : List He.FnV := [fnVal "depth" "Shape.depth" (inClass (top 21) 1)]
/-- what some names lead to, each once: a set of places as one number -/
def addsB : List Addr → Nat → List Addr → (Nat → List Addr → List Addr) → List Addr
  | [], m, new, k => k m new
  | a :: r, m, new, k => match Nat.beq (Nat.land (Nat.shiftRight m a) 1) 1 with
    | true => addsB r m new k
    | false => addsB r (Nat.lor m (Nat.shiftLeft 1 a)) (a :: new) k
def frontB (g : Addr → Option Obj) : List Addr → Nat → List Addr → (Nat → List Addr → List Addr) → List Addr
  | [], m, new, k => k m new
  | a :: r, m, new, k => match Nat.beq a mainGlobals with
    | true => frontB g r m new k
    | false => match g a with
      | some o => addsB (He.refsD o) m new fun m new => frontB g r m new k
      | none => frontB g r m new k
def bfsB (g : Addr → Option Obj) : Nat → List Addr → Nat → List Addr
  | 0, fr, _ => fr
  | n + 1, fr, m => fr ++ frontB g fr m [] fun m new => bfsB g n new m
def seenM (names : List Str) (n : Nat) (g : Addr → Option Obj) : PySem.W.Frag := He.frG g (addsB (mainGlobals :: rootsN names g) 0 [] fun m new => bfsB g n new m)
/-- the named things alone, with getters -/
def obsM (names : List Str) (n : Nat) (fa : List He.Fa) (fn : List He.DefD) (ex : PySem.W.Frag → Bool) (gt : PySem.W.Frag → List He.FnV) (g : Addr → Option Obj) : Bool × He.AlD × List He.FnV := (ex (seenM names n g), He.obsD fa fn (seenM names n g), gt (seenM names n g))
def hookM (names : List Str) (n : Nat) (fa : List He.Fa) (fn : List He.DefD) (ex : PySem.W.Frag → Bool) (gt : PySem.W.Frag → List He.FnV) (gv : List He.FnV) : PySem.W.Hook where
  α := Bool × He.AlD × List He.FnV
  obs := fun s => obsM names n fa fn ex gt s.heap.get?
  val := fun _ => (true, He.valD fn, gv)
  says := fun _ h => ∃ K : PySem.W.Frag, K.In h ∧ ex K = true ∧ He.SaysD fa fn K ∧ gt K = gv
  of := fun _ _ e => ⟨_, He.frG_in, congrArg Prod.fst e, congrArg (fun z : Bool × He.AlD × List He.FnV => z.2.1) e, congrArg (fun z : Bool × He.AlD × List He.FnV => z.2.2) e⟩
  keeps := fun _ _ _ ⟨K, hK, c⟩ k => ⟨K, PySem.W.Frag.In.keeps hK k, c⟩
def obM (names : List Str) (n : Nat) (fa : List He.Fa) (fn : List He.DefD) (ex : PySem.W.Frag → Bool) (gt : PySem.W.Frag → List He.FnV) (s : PySem.W.SharedT) : Bool × He.AlD × List He.FnV := obsM names n fa fn ex gt (HandSHeadRun.getT s)
theorem obM_eq (names : List Str) (n : Nat) (fa : List He.Fa) (fn : List He.DefD) (ex : PySem.W.Frag → Bool) (gt : PySem.W.Frag → List He.FnV) (gv : List He.FnV) (s : PySem.W.SharedT) : obM names n fa fn ex gt s = (hookM names n fa fn ex gt gv).obs s.abs := by
  have e : HandSHeadRun.getT s = s.abs.heap.get? := funext (HandSHeadRun.getT_eq s)
  show obsM names n fa fn ex gt (HandSHeadRun.getT s) = obsM names n fa fn ex gt s.abs.heap.get?
  rw [e]
abbrev R06 : PySem.W.OpenRow := PySem.W.OpenLaw.row PySem.Challenge.rw_handedcopies_k06_bounds_of_texts
def lo06_0 : List Str := ["_wall", "HandedcopiesError", "BadShape", "BadLine", "NoClass", "SMALL_LETTERS", "LARGE_LETTERS", "MOST_LETTERS", "RESERVED", "are_small", "is_word", "is_class_name", "parts_of", "MOST_DEPTH", "MOST_ITEMS", "MOST_LISTS", "is_shape", "has_form", "Shape", "MOST_STEPS", "STEPS", "WRAP_FLOORS", "COPY_ENDS", "Path"]
def lo06_1 : List Str := ["Copy", "New", "Ask", "SuperCall", "Wrap", "Row", "lone_word", "uncopied", "has_super", "read_step", "read_path", "copied_part", "read_simple", "read_wrap", "read_argument", "read_super", "read_call", "read_term", "read_row", "MARKS", "INDEX_KINDS", "MOST_CLASSES", "MOST_BASES", "MOST_FIELDS"]
def lo06_2 : List Str := ["MOST_METHODS", "MOST_PARAMETERS", "MOST_ROWS", "Definition", "ClassText", "lines_of", "next_merged", "merged", "read_class_line", "read_kind", "read_parameter", "read_parameters", "can_stand", "Reader", "Library", "_law_start", "_law_draw", "_law_of", "_law_word", "_law_tree", "_law_lists", "_law_depth", "_law_text", "_law_told"]
def lo06_3 : List Str := ["_law_full", "_law_flat", "_law_right"]
def lo06 : List Str := lo06_0 ++ (lo06_1 ++ (lo06_2 ++ (lo06_3)))

def nm06_0 : List Str := ["_law_start", "_law_draw", "_law_of", "_law_word", "_law_tree", "_law_lists", "_law_text", "_law_told", "_law_full", "_law_flat", "_law_right", "law", "are_small", "is_word", "is_class_name", "parts_of", "is_shape", "has_form", "lone_word", "uncopied", "has_super", "read_step", "read_path", "copied_part"]
def nm06_1 : List Str := ["read_simple", "read_term", "read_row", "lines_of", "next_merged", "merged", "read_class_line", "read_kind", "read_parameter", "read_parameters", "can_stand", "BadLine", "Shape", "Path", "Copy", "New", "SuperCall", "Row", "Definition", "ClassText", "Reader", "Library", "RESERVED", "STEPS"]
def nm06_2 : List Str := ["COPY_ENDS", "INDEX_KINDS", "MARKS"]
def nm06 : List Str := nm06_0 ++ (nm06_1 ++ (nm06_2))

theorem run06 (w : World) : HandSHeadRun.RunEq R06 (PySem.W.view R06.prog [82]) (hookM nm06 4 fa06 fn06 ex06 gt06 gv06) (obM nm06 4 fa06 fn06 ex06 gt06) 40000 lo06 w := by
  intro os
  kernel_rfl
end Hs
/-! module HsEnum -/
set_option maxHeartbeats 4000000
/-! for i, c in enumerate(a text). -/
namespace Hs
open PySem PySem.Spec PyProof.Rows L2
/-- the text's signs, each in a new pair with its index -/
def Iten (x : Str) : It :=
  ⟨fun i _ => i < x.cps.size, fun i H v H' => ∃ T c, v = .ref T ∧ H T = none ∧ H' = upd H T (.tup [.int (i : Nat), .str ⟨#[c]⟩]) ∧ x.cps[i]? = some c, fun i _ => x.cps.size ≤ i⟩
theorem turn_enumS {P : Program} {w : World} {K : PySem.W.Frag} {elts : List Expr} {kk : Nat} {tpos : Pos} (x : Str) (t : Tok) (e it : Addr) :
    Turn P w K (.Tuple elts kk tpos) (Iten x) [e, it] e (fun i h => (∃ old, IsEnum h e it ((i : Nat) : Int) old) ∧ h.IsStrIter it (strIterType x) x t i ∧ e ≠ it ∧ i ≤ x.cps.size) where
  mem := by simp
  obj := fun i h st b hb => by
    obtain ⟨⟨old, he⟩, ⟨o, ho, hc, hd⟩, _, _⟩ := st
    have e' : b = e ∨ b = it := by simpa using hb
    rcases e' with z | z
    · rw [z]; exact ⟨_, he, fun v q => nomatch q⟩
    · rw [z]; exact ⟨o, ho, fun v q => by rw [hd] at q; cases q⟩
  keep := fun i h h' st k => by
    obtain ⟨⟨old, he⟩, ⟨o, ho, r⟩, hne⟩ := st
    exact ⟨⟨old, k e (by simp) _ he⟩, ⟨o, k it (by simp) o ho, r⟩, hne⟩
  item := by
    intro X hP hw hK hc i pins s σ H E I hf st hg
    subst hP hw hK
    obtain ⟨⟨old, he⟩, hit, hne, _⟩ := st
    have hel : e < s.heap.objs.size := Heap.lt_size he
    have hil : it < s.heap.objs.size := by obtain ⟨_, q, _⟩ := hit; exact Heap.lt_size q
    have hd : X.A.in1.handled = none := I.ok.hd hc
    have W : Draws X.prog X.w X.A.in1 it [it] x.cps.size (fun i v => ∃ c u, x.cps[i]? = some c ∧ v = .str ⟨#[c]⟩ u) (fun i h => h.IsStrIter it (strIterType x) x t i) := by
      unfold strIterType
      cases ha : x.cps.all (· < 128)
      · simpa [ha] using Draws.strWide hd it x t
      · simpa [ha] using Draws.strAscii hd it x t
    refine wpAny_pyNext_enum_itemD W he hit hg hne (by simpa using hne) fun u h' tk hu ho hit' hT hsz hk => ?_
    obtain ⟨c, u', hcx, rfl⟩ := hu
    refine ⟨_, rfl, wpAny_letOwnedTupleGo_enum (s := { s with heap := h', toks := tk + 1 }) ho fun h'' he' sb => ?_⟩
    have hT2 : h''.get? s.heap.objs.size = some { cls := .type "tuple", data := .seq #[.int i tk, .str ⟨#[c]⟩ u'] } := (sb.2 _ (Nat.ne_of_gt hel)).trans hT
    have new : ObjOk X.prog X.w (upd H s.heap.objs.size (.tup [.int (i : Nat), .str ⟨#[c]⟩])) h'' s.heap.objs.size (.tup [.int (i : Nat), .str ⟨#[c]⟩]) :=
      ⟨by show 2 ≤ sizeLine; decide, [.int i tk, .str ⟨#[c]⟩ u'], .cons ⟨_, rfl⟩ (.cons ⟨_, rfl⟩ .nil), ⟨_, hT2, rfl, _, rfl⟩⟩
    have I1 : Inv X pins σ (upd H s.heap.objs.size (.tup [.int (i : Nat), .str ⟨#[c]⟩])) { s with heap := h'', toks := tk + 1 } :=
      I.turnedNew (ch := [e, it]) (fun b ob hb q => (sb.2 b (fun z => hb (by simp [z]))).trans (hk b ob (fun z => hb (by simp [z])) (fun z => hb (by simp [z])) q)) hf (Nat.le_refl _) new
    have hit2 : h''.IsStrIter it (strIterType x) x t (i + 1) := by
      obtain ⟨o, ho', r⟩ := hit'
      exact ⟨o, (sb.2 it (Ne.symm hne)).trans ho', r⟩
    refine ⟨.ref s.heap.objs.size, _, I1, rfl, ⟨_, c, rfl, I.hok.fresh (Nat.le_refl _), rfl, hcx⟩, ⟨⟨.str ⟨#[c]⟩ u', ?_⟩, hit2, hne, hg⟩, fun b hb => ?_⟩
    · have e1 : ((i + 1 : Nat) : Int) = (i : Int) + 1 := by omega
      rw [e1]; exact he'
    · have hb' : b < s.heap.objs.size := by
        have e' : b = e ∨ b = it := by simpa using hb
        rcases e' with z | z
        · rw [z]; exact hel
        · rw [z]; exact hil
      rw [upd_ne (Nat.ne_of_lt hb')]
      exact (hf b hb).1
  done := by
    intro X hP hw hK hc i pins s σ H E I hf st hg
    subst hP hw hK
    obtain ⟨⟨old, he⟩, hit, hne, hle⟩ := st
    have ei : i = x.cps.size := Nat.le_antisymm hle hg
    subst ei
    obtain ⟨f0, f1, f2, f3, f4, f5⟩ := hf it (by simp)
    have hd : X.A.in1.handled = none := I.ok.hd hc
    have W : Draws X.prog X.w X.A.in1 it [it] x.cps.size (fun i v => ∃ c u, x.cps[i]? = some c ∧ v = .str ⟨#[c]⟩ u) (fun i h => h.IsStrIter it (strIterType x) x t i) := by
      unfold strIterType
      cases ha : x.cps.all (· < 128)
      · simpa [ha] using Draws.strWide hd it x t
      · simpa [ha] using Draws.strAscii hd it x t
    exact wpAny_pyNext_enum_endD W he hit fun h' eb => ⟨rfl, I.turned (t' := s.toks) (fun b o hb q => eb b o hb q) f0 f1 f3 f4 f5⟩
  self := fun A i s Q E st h => let ⟨⟨_, he⟩, _⟩ := st; wpAny_pyIter_enum he h
def iEnumS (ta : TA) : TI := fun σ H R => ta σ H fun vs H1 => ∃ x, vs = [.str x] ∧ R (Iten x) H1
theorem pi_enumS {X : Cx} {e : Expr} {ta : TA} {p pos tpos : Pos} {elts : List Expr} {kk : Nat} (hg : Gl X "enumerate") (hm : X.mg "enumerate" = none) (ha : PA X [e] ta) (hs : starEach [e] X.env = [(false, eval e X.env)] := by rfl) :
    PI X (.Tuple elts kk tpos) (.Call (.Name "enumerate" p) [e] [] pos) (iEnumS ta) := by
  refine ⟨fun pins s σ H R I h => ?_⟩
  refine Call_ (ld_blt I hg hm boot_enumerate (PyProof.Rows.callWith_type1 (thn (ha.run pos pins s σ H _ I h) fun us s1 ⟨vs, H1, I1, r1, q1⟩ => ?_) hs rfl))
  obtain ⟨x, ex, q⟩ := q1
  subst ex
  cases r1 with
  | cons r rr =>
    cases rr
    obtain ⟨t, rfl⟩ := r
    refine call_enumerate_str fun h' he hit hsz hk => wpAny_pyIter_enum he ?_
    have I2 : Inv X pins σ H1 { s1 with heap := h' } := I1.kept (t' := s1.toks) hk
    refine ⟨s1.heap.objs.size + 1, [s1.heap.objs.size + 1, s1.heap.objs.size], _, _, H1, rfl, I2, turn_enumS x t (s1.heap.objs.size + 1) s1.heap.objs.size, ⟨⟨.none, he⟩, hit, Nat.succ_ne_self _, Nat.zero_le _⟩, fun b hb => ?_, q⟩
    have e' : b = s1.heap.objs.size + 1 ∨ b = s1.heap.objs.size := by simpa using hb
    have hle : s1.heap.objs.size ≤ b := by
      rcases e' with z | z
      · rw [z]; exact Nat.le_add_right _ _
      · rw [z]; exact Nat.le_refl _
    exact I1.fpOk hle (I1.hok.fresh hle)
/-- a for over enumerate(a text) -/
theorem for_enumS {x : Str} {g : TG} {tb : TS} {D : Ends} {σ : L2.St} {H : Hp} (Pv : Nat → L2.St → Hp → Prop) (h0 : Pv 0 σ H)
    (hs : ∀ i c T σ H, x.cps[i]? = some c → Pv i σ H → H T = none → g (.ref T) σ (upd H T (.tup [.int (i : Nat), .str ⟨#[c]⟩])) fun σ2 H2 => tb { D with nx := Pv (i + 1), ct := Pv (i + 1), bk := D.nx } σ2 H2) (hd : ∀ σ H, Pv x.cps.size σ H → D.nx σ H) :
    ∃ W : Nat → Nat → L2.St → Hp → Prop, (∃ m, W 0 m σ H) ∧ ∀ i m σ H, W i m σ H →
      ((Iten x).stop i H ∧ D.nx σ H) ∨ ((Iten x).go i H ∧ ∃ N : L2.St → Hp → Prop, (∀ σ' H', N σ' H' → ∃ m', m' < m ∧ W (i + 1) m' σ' H') ∧ ∀ v H', (Iten x).yld i H v H' → g v σ H' fun σ2 H2 => tb { D with nx := N, ct := N, bk := D.nx } σ2 H2) := by
  refine ⟨fun i m σ H => m = x.cps.size - i ∧ i ≤ x.cps.size ∧ Pv i σ H, ⟨x.cps.size, by simp, Nat.zero_le _, h0⟩, ?_⟩
  rintro i m σ H ⟨rfl, hi, p⟩
  by_cases hlt : i < x.cps.size
  · refine .inr ⟨hlt, Pv (i + 1), fun σ' H' p' => ⟨x.cps.size - (i + 1), by omega, rfl, hlt, p'⟩, fun v H' y => ?_⟩
    obtain ⟨T, c, rfl, nT, rfl, hc⟩ := y
    exact hs i c T σ H hc p nT
  · have e : i = x.cps.size := by omega
    subst e
    exact .inl ⟨Nat.le_refl _, hd σ H p⟩
end Hs
/-! module HsProg -/
set_option maxHeartbeats 4000000
/-! parts_of, has_form, is_shape. -/
namespace Hs
open PySem PySem.Spec PyProof.Rows L2 Evl Hc
/-- the longest text that is looked at -/
def cap : Nat := 30000
theorem cap_line {n : Nat} (h : n ≤ cap) : n ≤ sizeLine := Nat.le_trans h (by decide)
structure TxtP (mg : Str → Option Value) : Prop where
  enu : mg "enumerate" = none
  all : mg "all" = none
  len : mg "len" = none
  mI : ∃ t, mg "MOST_ITEMS" = some (.int 3 t)
  mD : ∃ t, mg "MOST_DEPTH" = some (.int 3 t)
  mL : ∃ t, mg "MOST_LISTS" = some (.int 5 t)
def spParts : Sp := fun vs H Q _ => ∃ L, vs = [.str (S L)] ∧ L.length ≤ cap ∧ ∀ p H', H p = none → Ex H H' → H' p = some (.lst ((partsOf L).map fun x => V.str (S x))) → Q (.ref p) H'
def spForm (f : Nat) : Sp := fun vs H Q _ => ∃ L, vs = [.str (S L), .int (f : Int)] ∧ L.length ≤ cap ∧ ∀ H', Ex H H' → Q (.bl (hasForm f L)) H'
def spShape : Sp := fun vs H Q _ => ∃ L, vs = [.str (S L)] ∧ L.length ≤ cap ∧ ∀ H', Ex H H' → Q (.bl (isShape L)) H'
abbrev nParts : List Str := ["text", "parts", "nested", "start", "at", "sign"]
theorem scParts : FnScope nParts ["text"] (defScope sParts) := ⟨rfl, rfl, rfl, by decide +kernel, rfl, by decide +kernel, by decide +kernel⟩
section
variable {σ : L2.St} {H : Hp} {te ta tb : TE} {tl th : TO}
theorem ev_slS {z : Str} {lo hi : Option Int} (h : Ev te σ H (.str z)) (h1 : EvO tl σ H lo) (h2 : EvO th σ H hi) (hz : z.length ≤ sizeLine) : Ev (tSl rSlS te tl th) σ H (.str (cutS z lo hi)) := fun H1 e Q q =>
  h H1 e _ fun H2 e2 => h1 H2 (e.trans e2) _ fun H3 e3 => h2 H3 ((e.trans e2).trans e3) _ fun H4 e4 => ⟨z, rfl, hz, q H4 ((e2.trans e3).trans e4)⟩
theorem dec_S {a b : List Nat} : decide (V.str (S a) = V.str (S b)) = decide (a = b) := by
  by_cases h : a = b
  · subst h
    simp
  · rw [decide_eq_false h, decide_eq_false]
    intro z
    exact h (S_inj (V.str.inj z))
theorem dec_I {a b : Int} : decide (V.int a = V.int b) = decide (a = b) := by
  rw [dec_int]
  rfl
theorem ev_eqS {a b : List Nat} (h1 : Ev ta σ H (.str (S a))) (h2 : Ev tb σ H (.str (S b))) : Ev (tOp rEq ta tb) σ H (.bl (decide (a = b))) := by
  rw [← dec_S]
  exact ev_op h1 h2 (rv_eq rfl)
theorem ev_neS {a b : List Nat} (h1 : Ev ta σ H (.str (S a))) (h2 : Ev tb σ H (.str (S b))) : Ev (tOp rNe ta tb) σ H (.bl (!decide (a = b))) := by
  rw [← dec_S]
  exact ev_op h1 h2 (rv_ne rfl)
theorem ev_eqI {a b : Int} (h1 : Ev ta σ H (.int a)) (h2 : Ev tb σ H (.int b)) : Ev (tOp rEq ta tb) σ H (.bl (decide (a = b))) := by
  rw [← dec_I]
  exact ev_op h1 h2 (rv_eq rfl)
end
section
variable {P : Program} {w : World} {K : PySem.W.Frag} {mg : Str → Option Value} {base : Heap}
theorem mem_two (c : Nat) (a b : Nat) : (c ∈ (S [a, b]).cps.toList) = (c ∈ [a, b]) := rfl
theorem ok_parts {f : Addr} {fd : FuncData} {k : Nat} (F : Fun K "parts_of" "parts_of" sParts f fd) (T : TxtP mg) : FnOk P w K mg base CX0 (k + 1) f fd ["text"] spParts := by
  refine F.ok scParts (fun vs H Q E h => ?_) (fun cdv A outer s H vs Q E hr h => ?_)
  · obtain ⟨L, rfl, _⟩ := h
    rfl
  · obtain ⟨L, rfl, hL, q⟩ := h
    refine ⟨_, pss_cons (ps_set (i := 1) scParts.nd rfl (.inl rfl) (pe_lst pa_nil)) (pss_cons (ps_set (i := 2) scParts.nd rfl (.inl rfl) pe_int) (pss_cons (ps_set (i := 3) scParts.nd rfl (.inl rfl) pe_int)
      (pss_cons (ps_for PassesOwn.never rfl (pi_enumS (by rfl) T.enu (pa_cons (pv 0) pa_nil)) (pg_tup (by rfl) (pgs_cons (pg_name (i := 4) scParts.nd rfl (.inl rfl)) (pgs_cons (pg_name (i := 5) scParts.nd rfl (.inl rfl)) pgs_nil)))
        (pss_one (ps_if (pt_cmpR op_in_sign (pv 5) pe_str (by rfl)) (pss_one (ps_aug (i := 2) scParts.nd rfl (.inl rfl) pe_int ip_add))
          (pss_one (ps_if (pt_cmpR op_in_sign (pv 5) pe_str (by rfl)) (pss_one (ps_aug (i := 2) scParts.nd rfl (.inl rfl) pe_int ip_sub))
            (pss_one (ps_if (PW.pt (pw_and (pt_cmpR op_eq (pv 2) pe_int (nomark _)) (pw_and1 (pt_cmpR op_eq (pe_slice sl_str (pv 0) (po_some (pv 4)) (po_some (pe_op op_add (pv 4) pe_int))) pe_str (nomark _)))))
              (pss_cons (ps_expr (pe_bm PySem.F.plainAttrs_list PySem.F.slot_list_append PySem.F.type_list_append mt_append (pv 1) (pa_cons (pe_slice sl_str (pv 0) (po_some (pv 3)) (po_some (pv 4))) pa_nil)))
                (pss_one (ps_set (i := 3) scParts.nd rfl (.inl rfl) (pe_op op_add (pv 4) pe_int)))) pss_nil)))))))
      (pss_cons (ps_expr (pe_bm PySem.F.plainAttrs_list PySem.F.slot_list_append PySem.F.type_list_append mt_append (pv 1) (pa_cons (pe_slice sl_str (pv 0) (po_some (pv 3)) po_none) pa_nil)))
      (pss_one (ps_ret (pv 1))))))), ?_⟩
    refine ⟨Nat.zero_le _, fun p np => ?_⟩
    refine ⟨_, rfl, S L, rfl, ?_⟩
    refine for_enumS (x := S L) (fun i σ H' => ∃ (st : SS) (v4 v5 : Option V), σ = [some (.str (S L)), some (.ref p), some (.int st.2.1), some (.int (st.2.2 : Nat)), v4, v5] ∧ scan L (L.drop i) i st = scan L L 0 ([], 0, 0) ∧ st.1.length ≤ i ∧ Ex H H' ∧ H' p = some (.lst (st.1.map fun x => V.str (S x)))) ?_ ?_ ?_
    · exact ⟨([], 0, 0), none, none, rfl, rfl, Nat.le_refl _, Ex.new np, upd_same⟩
    · rintro i c T0 σ H' hc ⟨⟨ps, n, a⟩, v4, v5, rfl, hs, hl, e, hp⟩ nT
      have hc' : L[i]? = some c := by
        have z : (S L).cps[i]? = L[i]? := by simp
        rw [← z]
        exact hc
      have hi : i < L.length := (List.getElem?_eq_some_iff.mp hc').1
      have hd : L.drop i = c :: L.drop (i + 1) := by
        rw [List.drop_eq_getElem_cons hi]
        congr 1
        exact (List.getElem?_eq_some_iff.mp hc').2
      rw [hd] at hs
      replace hs : scan L (L.drop (i + 1)) (i + 1) (stepP L (ps, n, a) i c) = scan L L 0 ([], 0, 0) := hs
      refine ⟨T0, _, rfl, SqT.of upd_same, rfl, .int (i : Nat), [.str ⟨#[c]⟩], rfl, .str ⟨#[c]⟩, [], rfl, rfl, ?_⟩
      have eT : Ex H (upd H' T0 (.tup [.int (i : Nat), .str ⟨#[c]⟩])) := e.trans (Ex.new nT)
      have hpT : (upd H' T0 (.tup [.int (i : Nat), .str ⟨#[c]⟩])) p = some (.lst (ps.map fun x => V.str (S x))) := (Ex.new nT) _ _ hp
      generalize upd H' T0 (.tup [.int (i : Nat), .str ⟨#[c]⟩]) = K0 at eT hpT ⊢
      have st' : ∀ (st : SS), stepP L (ps, n, a) i c = st → scan L (L.drop (i + 1)) (i + 1) st = scan L L 0 ([], 0, 0) := fun st e => e ▸ hs
      refine ⟨_, rfl, c, S [91, 40], rfl, rfl, _, rfl, ?_⟩
      refine ite2 (fun h1 => ?_) (fun h1 => ?_)
      · have h1' : c ∈ [91, 40] := of_decide_eq_true h1
        exact ⟨.int n, rfl, n, 1, rfl, rfl, (ps, n + 1, a), _, _, rfl, st' _ (if_pos h1'), Nat.le_succ_of_le hl, eT, hpT⟩
      · have h1' : c ∉ [91, 40] := fun z => h1 (decide_eq_true z)
        refine ⟨_, rfl, c, S [41, 93], rfl, rfl, _, rfl, ?_⟩
        refine ite2 (fun h2 => ?_) (fun h2 => ?_)
        · have h2' : c ∈ [41, 93] := of_decide_eq_true h2
          exact ⟨.int n, rfl, n, 1, rfl, rfl, (ps, n - 1, a), _, _, rfl, st' _ ((if_neg h1').trans (if_pos h2')), Nat.le_succ_of_le hl, eT, hpT⟩
        · have h2' : c ∉ [41, 93] := fun z => h2 (decide_eq_true z)
          have hstep : stepP L (ps, n, a) i c = (if n = 0 ∧ (L.drop i).take 2 = [44, 32] then (ps ++ [(L.drop a).take (i - a)], n, i + 2) else (ps, n, a)) := (if_neg h1').trans (if_neg h2')
          have hsl : ∀ (x y : Nat), (S L).length ≤ sizeLine := fun _ _ => by rw [S_len]; exact cap_line hL
          refine s_when (b := decide (n = 0) && decide ((L.drop i).take 2 = [44, 32])) (et_and (et_test (ev_eqI (ev_var rfl) ev_c)) fun _ => et_test (ev_eqS (b := [44, 32]) (Evl.ev_is (ev_slS (ev_var rfl) (eo_some (ev_var rfl)) (eo_some (ev_op (z := .int ((i + 2 : Nat) : Int)) (ev_var rfl) ev_c rv_I0)) (hsl 0 0)) (by rw [cut_nn, Nat.add_sub_cancel_left])) ev_c)) (fun hb H1 f1 => ?_) (fun hb H1 f1 => ?_)
          · rw [Bool.and_eq_true, decide_eq_true_eq, decide_eq_true_eq] at hb
            refine q_app (l := p) (f1 _ _ hpT) (ev_var rfl) (v := .str (S ((L.drop a).take (i - a)))) (Evl.ev_is (ev_slS (ev_var rfl) (eo_some (ev_var rfl)) (eo_some (ev_var rfl)) (hsl 0 0)) (by rw [cut_nn])) (by rw [List.length_map]; have := cap_line hL; show ps.length < 100000; have h3 : ps.length ≤ i := hl; have h4 : L.length ≤ 30000 := hL; omega) fun H2 f2 => ?_
            refine s_asg (ev_op (z := .int ((i + 2 : Nat) : Int)) (ev_var rfl) ev_c rv_I0) fun H3 f3 => ?_
            refine ⟨(ps ++ [(L.drop a).take (i - a)], n, i + 2), _, _, rfl, st' _ (hstep.trans (if_pos hb)), ?_, ?_, ?_⟩
            · show (ps ++ [_]).length ≤ i + 1
              have h3 : ps.length ≤ i := hl
              rw [List.length_append, List.length_singleton]
              omega
            · exact ((((eT.trans f1).trans f2).mut np).trans f3)
            · refine f3 _ _ ?_
              rw [upd_same, List.map_append]
              rfl
          · have hb' : ¬ (n = 0 ∧ (L.drop i).take 2 = [44, 32]) := by
              intro z
              rw [decide_eq_true z.1, decide_eq_true z.2] at hb
              cases hb
            exact ⟨(ps, n, a), _, _, rfl, st' _ (hstep.trans (if_neg hb')), Nat.le_succ_of_le hl, eT.trans f1, f1 _ _ hpT⟩
    · rintro σ H' ⟨⟨ps, n, a⟩, v4, v5, rfl, hs, hl, e, hp⟩
      have hz : (S L).cps.size = L.length := by simp
      rw [hz] at hs hl
      rw [List.drop_length] at hs
      replace hs : (ps, n, a) = scan L L 0 ([], 0, 0) := hs
      refine q_app (l := p) hp (ev_var rfl) (v := .str (S (L.drop a))) (Evl.ev_is (ev_slS (ev_var rfl) (eo_some (ev_var rfl)) eo_none (by rw [S_len]; exact cap_line hL)) (by rw [cut_n])) (by rw [List.length_map]; show ps.length < 100000; have h3 : ps.length ≤ L.length := hl; have h4 : L.length ≤ 30000 := hL; omega) fun H2 f2 => ?_
      refine s_ret (ev_var rfl) fun H3 f3 => ?_
      refine q p H3 np (((e.trans f2).mut np).trans f3) (f3 _ _ ?_)
      rw [upd_same]
      unfold partsOf
      rw [← hs, List.map_append]
      rfl

/-- a def of the text, ready to be called -/
structure Rd (P : Program) (w : World) (K : PySem.W.Frag) (mg : Str → Option Value) (base : Heap) (x : Str) (k : Nat) (ps : List Str) (sp : Sp) : Prop where
  ex : ∃ (f : Addr) (fd : FuncData), mg x = some (.ref f) ∧ PySem.W.keepIn K (.ref f) = true ∧ Binds K fd ps [] ∧ FnOk P w K mg base CX0 k f fd ps sp
theorem Rd.mono {x : Str} {j k : Nat} {ps : List Str} {sp : Sp} (r : Rd P w K mg base x j ps sp) (h : j ≤ k) : Rd P w K mg base x k ps sp := by
  obtain ⟨f, fd, g, kp, b, G⟩ := r.ex
  exact ⟨f, fd, g, kp, b, G.mono h⟩
theorem pe_rd {X : Cx} {x : Str} {k j : Nat} {ps : List Str} {sp : Sp} {e : Expr} {es : List Expr} {ta : TA} {p pos : Pos} (r : Rd X.prog X.w X.K X.mg X.base x k ps sp) (hr : Room j X.A) (hk : k ≤ j) (hg : Gl X x) (ha : PA X (e :: es) ta)
    (hdb : (x == ("__debug__" : Str)) = false := by decide) (he : starEach (e :: es) X.env = (false, eval e X.env) :: starEach es X.env := by rfl) (hpl : (backTo pos (starEach es X.env)).any (·.1) = false := by rfl) : PE X (.Call (.Name x p) (e :: es) [] pos) (tCall sp [] E0 ta) := by
  obtain ⟨f, fd, g1, kp, b, G⟩ := r.ex
  exact pe_call G (hr.mono hk) hg g1 kp b .nil pass0 ha hdb he hpl
/-- what is never asked -/
def spNo : Sp := fun _ _ _ _ => False
theorem rd_no {x : Str} {st : Stmt} {f : Addr} {fd : FuncData} {ps : List Str} (F : Fun K x x st f fd) (g : mg x = some (.ref f)) (b : Binds K fd ps []) (k : Nat) : Rd P w K mg base x k ps spNo :=
  ⟨f, fd, g, F.kp, b, ⟨fun _ _ _ _ h => h.elim, fun _ _ _ _ _ _ _ _ _ _ _ _ _ h => h.elim⟩⟩
theorem ev_m1 {σ : L2.St} {H : Hp} {to te : TE} {r : V → List V → Hp → VK → Prop} {a : Str} {y z : V} (h1 : Ev to σ H (.str a)) (h2 : Ev te σ H y) (hr : ∀ (H1 : Hp) (Q : VK), Q z H1 → r (.str a) [y] H1 Q) : Ev (tM1 r to te) σ H z := fun H1 e Q q =>
  h1 H1 e _ fun H2 e2 => ⟨⟨a, rfl⟩, h2 H2 (e.trans e2) _ fun H3 e3 => hr H3 Q (q H3 (e2.trans e3))⟩
theorem ev_all {σ : L2.St} {H : Hp} {tl : TE} {bs : List Bool} (h : EvL tl σ H (bs.map V.bl)) : Ev (tCB (rAll K) (tCons tl tNil)) σ H (.bl (bs.all id)) := fun H1 e Q q =>
  h H1 e _ fun p H2 np e2 hp => ⟨p, bs, rfl, SqL.of hp, q H2 e2⟩
theorem sp_parts {H : Hp} {L : List Nat} (h : L.length ≤ cap) : SpL spParts ([.str (S L)] ++ []) H ((partsOf L).map fun x => V.str (S x)) := fun H1 e Q q E => ⟨L, rfl, h, fun p H' np ex hp => q p H' np ex hp⟩
theorem sp_form {H : Hp} {L : List Nat} {n : Nat} (h : L.length ≤ cap) : SpV (spForm n) ([.str (S L), .int (n : Int)] ++ []) H (.bl (hasForm n L)) := fun H1 e Q q E => ⟨L, rfl, h, fun H' ex => q H' ex⟩
theorem sp_shape {H : Hp} {L : List Nat} (h : L.length ≤ cap) : SpV spShape ([.str (S L)] ++ []) H (.bl (isShape L)) := fun H1 e Q q E => ⟨L, rfl, h, fun H' ex => q H' ex⟩
theorem ev_starts {σ : L2.St} {H : Hp} {to te : TE} {L : List Nat} {c : Nat} (h1 : Ev to σ H (.str (S L))) (h2 : Ev te σ H (.str (S [c]))) :
    Ev (tM1 (fun x xs H Q => ∃ a b, x = .str a ∧ xs = [.str b] ∧ Q (.bl (Txt.startswith a b)) H) to te) σ H (.bl (L.head? == some c)) := ev_m1 h1 h2 fun H1 Q q => ⟨S L, S [c], rfl, rfl, by rw [starts1]; exact q⟩
theorem ev_ends {σ : L2.St} {H : Hp} {to te : TE} {L : List Nat} {c : Nat} (h1 : Ev to σ H (.str (S L))) (h2 : Ev te σ H (.str (S [c]))) :
    Ev (tM1 (fun x xs H Q => ∃ a b, x = .str a ∧ xs = [.str b] ∧ Q (.bl (Txt.endswith a b)) H) to te) σ H (.bl (L.getLast? == some c)) := ev_m1 h1 h2 fun H1 Q q => ⟨S L, S [c], rfl, rfl, by rw [ends1]; exact q⟩
theorem ev_count {σ : L2.St} {H : Hp} {to te : TE} {L : List Nat} {c : Nat} (h1 : Ev to σ H (.str (S L))) (h2 : Ev te σ H (.str (S [c]))) :
    Ev (tM1 (fun x xs H Q => ∃ a b, x = .str a ∧ xs = [.str b] ∧ Q (.int (Txt.count a b)) H) to te) σ H (.int ((L.count c : Nat) : Int)) := ev_m1 h1 h2 fun H1 Q q => ⟨S L, S [c], rfl, rfl, by rw [count1]; exact q⟩
theorem wipe1 {σ : L2.St} {j : Nat} (x : V) : wipe ((wipe σ [j]).set j (some x)) [j] = wipe σ [j] := by
  show ((σ.set j none).set j (some x)).set j none = σ.set j none
  rw [List.set_set, List.set_set]
abbrev nForm : List Str := ["text", "floors", "parts", "part"]
theorem scForm : FnScope nForm ["text", "floors"] (defScope sHasForm) := ⟨rfl, rfl, rfl, by decide +kernel, rfl, by decide +kernel, by decide +kernel⟩
theorem ok_form1 {f : Addr} {fd : FuncData} {k n : Nat} {spP : Sp} (F : Fun K "has_form" "has_form" sHasForm f fd) (T : TxtP mg) (rP : Rd P w K mg base "parts_of" k ["text"] spParts) (rF : Rd P w K mg base "has_form" k ["text", "floors"] spP)
    (hc : n = 0 ∨ ∃ m, n = m + 1 ∧ spP = spForm m) : FnOk P w K mg base CX0 (k + 1) f fd ["text", "floors"] (spForm n) := by
  refine F.ok scForm (fun vs H Q E h => ?_) (fun cdv A outer s H vs Q E hr h => ?_)
  · obtain ⟨L, rfl, _⟩ := h
    rfl
  · obtain ⟨L, rfl, hL, q⟩ := h
    obtain ⟨tI, hI⟩ := T.mI
    refine ⟨_, pss_cons (ps_if (pt_cmpR op_eq (pv 0) pe_str (nomark _)) (pss_one (ps_ret pe_bl)) pss_nil)
      (pss_cons (ps_if (PW.pt (pw_or (pt_cmpR op_eq (pv 1) pe_int (nomark _)) (pw_or (pt_not (pt_val (pe_m1 PySem.F.slot_str_startswith PySem.F.type_str_startswith mt_startswith (pv 0) pe_str))) (pw_or1 (pt_not (pt_val (pe_m1 PySem.F.slot_str_endswith PySem.F.type_str_endswith mt_endswith (pv 0) pe_str)))))))
          (pss_one (ps_ret pe_bl)) pss_nil)
      (pss_cons (ps_set (i := 2) scForm.nd rfl (.inl rfl) (pe_rd rP hr (Nat.le_refl _) (by rfl) (pa_cons (pe_slice sl_str (pv 0) (po_some pe_int) (po_some (pe_un un_neg pe_int))) pa_nil)))
      (pss_one (ps_ret (pe_and (pe_cmpR op_le (pe_callB call_len_seq (by rfl) T.len PySem.boot_len (pa_cons (pv 2) pa_nil)) (pe_glob (v := .int 3) (by rfl) hI ⟨_, rfl⟩) (nomark _))
        (pe_one (pe_callB (cr_all rfl) (by rfl) T.all boot_all (pa_cons (pe_lc (own := [("part", 3)]) (g := gName 3) (tt := tYes) rfl scForm.nd (pi_list (pv 2)) (blkOk_by (N := nForm) (sc := defScope sHasForm) (by decide +kernel)) (fun _ _ _ _ _ => pg_name (i := 3) scForm.nd rfl (.inl rfl)) (fun _ _ _ _ _ => pts_nil)
          (fun _ _ _ _ _ => pe_rd rF hr (Nat.le_refl _) (by rfl) (pa_cons (pv 3) (pa_cons (pe_op op_sub (pv 1) pe_int) pa_nil)))) pa_nil)))))))), ?_⟩
    refine q_when (et_test (ev_eqS (ev_var rfl) ev_c)) (fun hb H1 f1 => ?_) (fun hb H1 f1 => ?_)
    · refine s_ret ev_c fun H2 f2 => ?_
      have e : hasForm n L = true := by
        have e1 : L = [46] := of_decide_eq_true hb
        rw [e1]
        cases n <;> rfl
      rw [← e]
      exact q H2 (f1.trans f2)
    · have hne : L ≠ [46] := of_decide_eq_false hb
      refine q_when (et_or (et_test (ev_eqI (ev_var rfl) ev_c)) fun _ => et_or (et_not (et_B (ev_starts (c := 91) (ev_var rfl) ev_c))) fun _ => et_not (et_B (ev_ends (c := 93) (ev_var rfl) ev_c))) (fun hb2 H2 f2 => ?_) (fun hb2 H2 f2 => ?_)
      · refine s_ret ev_c fun H3 f3 => ?_
        have e : hasForm n L = false := by
          cases n with
          | zero => exact decide_eq_false hne
          | succ n =>
            unfold hasForm
            rw [decide_eq_false hne]
            rw [decide_eq_false (by omega)] at hb2
            revert hb2
            cases (L.head? == some 91) <;> cases (L.getLast? == some 93) <;> simp
        rw [← e]
        exact q H3 ((f1.trans f2).trans f3)
      · obtain ⟨m, rfl, rfl⟩ : ∃ m, n = m + 1 ∧ spP = spForm m := by
          rcases hc with rfl | h
          · simp at hb2
          · exact h
        have e : hasForm (m + 1) L = (decide ((partsOf (inner L)).length ≤ 3) && (partsOf (inner L)).all (hasForm m)) := by
          unfold hasForm
          rw [decide_eq_false hne]
          rw [decide_eq_false (by omega)] at hb2
          revert hb2
          cases (L.head? == some 91) <;> cases (L.getLast? == some 93) <;> simp
        have hi : (inner L).length ≤ cap := Nat.le_trans (inner_len L) hL
        refine q_asgL (el_call (ea_cons (Evl.ev_is (ev_slS (lo := some 1) (hi := some (-1)) (ev_var rfl) (eo_some ev_c) (eo_some (ev_un ev_c ru_neg)) (by rw [S_len]; exact cap_line hL)) (by rw [cut_in])) ea_nil) (sp_parts hi)) fun p H3 np f3 hp => ?_
        refine s_ret (ev_andV (ev_op (ev_len (ev_var rfl) (SqL.of hp)) ev_c rv_I0) fun _ => ev_all (bs := (partsOf (inner L)).map (hasForm m)) (by
          have z := el_map (K := K) (H := H3) (tl := tVar 2) (te := tCall (spForm m) [] E0 (tCons (tVar 3) (tCons (tOp (rI0 fun i j => .int (i - j)) (tVar 1) (tC (.int 1))) tNil))) (t := tYes) (j := 3) (vs := [3]) (σ := [some (.str (S L)), some (.int ((m + 1 : Nat) : Int)), some (.ref p), none]) (partsOf (inner L)) (fun x => V.str (S x)) (fun _ => true) (fun x => V.bl (hasForm m x)) (ev_var rfl) (SqL.of hp) ?_ wipe1 (fun x H1 _ _ => et_yes) (fun x H1 _ hx _ => ?_)
          · rw [List.filter_eq_self.mpr (fun _ _ => rfl)] at z
            rw [List.map_map]
            exact z
          · have h1 := partsOf_len (inner L)
            have h2 : (inner L).length ≤ 30000 := hi
            omega
          · refine ev_call (ea_cons (ev_var rfl) (ea_cons (ev_op (z := .int (m : Int)) (ev_var rfl) ev_c (by
              have e : ((m : Int)) = ((m + 1 : Nat) : Int) - 1 := by omega
              rw [e]
              exact rv_I0)) ea_nil)) (sp_form (Nat.le_trans (partsOf_items _ x hx) hi)))) fun H4 f4 => ?_
        have e2 : hasForm (m + 1) L = (decide ((((partsOf (inner L)).map fun x => V.str (S x)).length : Int) ≤ 3) && ((partsOf (inner L)).map (hasForm m)).all id) := by
          rw [e, List.length_map, List.all_map]
          congr 1
          · rw [decide_eq_decide]
            omega
        rw [← e2]
        exact q H4 (((f1.trans f2).trans f3).trans f4)
theorem rd_form {f : Addr} {fd : FuncData} {k : Nat} (F : Fun K "has_form" "has_form" sHasForm f fd) (g : mg "has_form" = some (.ref f)) (b : Binds K fd ["text", "floors"] []) (T : TxtP mg) (rP : Rd P w K mg base "parts_of" k ["text"] spParts) :
    ∀ n, Rd P w K mg base "has_form" (k + 1 + n) ["text", "floors"] (spForm n)
  | 0 => ⟨f, fd, g, F.kp, b, ok_form1 F T rP (rd_no F g b k) (.inl rfl)⟩
  | n + 1 => ⟨f, fd, g, F.kp, b, ok_form1 F T (rP.mono (show k ≤ k + 1 + n by omega)) (rd_form F g b T rP n) (.inr ⟨n, rfl, rfl⟩)⟩
theorem scIs : FnScope ["text"] ["text"] (defScope sIsShape) := ⟨rfl, rfl, rfl, by decide +kernel, rfl, by decide +kernel, by decide +kernel⟩
theorem ok_is {f : Addr} {fd : FuncData} {k : Nat} (F : Fun K "is_shape" "is_shape" sIsShape f fd) (T : TxtP mg) (rF : Rd P w K mg base "has_form" k ["text", "floors"] (spForm 3)) : FnOk P w K mg base CX0 (k + 1) f fd ["text"] spShape := by
  refine F.ok scIs (fun vs H Q E h => ?_) (fun cdv A outer s H vs Q E hr h => ?_)
  · obtain ⟨L, rfl, _⟩ := h
    rfl
  · obtain ⟨L, rfl, hL, q⟩ := h
    obtain ⟨tL, hI⟩ := T.mL
    obtain ⟨tD, hD⟩ := T.mD
    refine ⟨_, pss_one (ps_ret (pe_and (pe_cmpR op_le (pe_m1 PySem.F.slot_str_count PySem.F.type_str_count mt_count (pv 0) pe_str) (pe_glob (v := .int 5) (by rfl) hI ⟨_, rfl⟩) (nomark _))
      (pe_one (pe_rd rF hr (Nat.le_refl _) (by rfl) (pa_cons (pv 0) (pa_cons (pe_glob (v := .int 3) (by rfl) hD ⟨_, rfl⟩) pa_nil)))))), ?_⟩
    refine s_ret (ev_andV (ev_op (ev_count (c := 91) (ev_var rfl) ev_c) ev_c rv_I0) fun _ => ev_call (ea_cons (ev_var rfl) (ea_cons ev_c ea_nil)) (sp_form hL)) fun H1 f1 => ?_
    have e : isShape L = (decide (((L.count 91 : Nat) : Int) ≤ 5) && hasForm 3 L) := by
      unfold isShape
      congr 1
      rw [decide_eq_decide]
      omega
    rw [← e]
    exact q H1 f1
end
end Hs
/-! module HwWord -/
set_option maxHeartbeats 4000000
/-! are_small, is_word, is_class_name. -/
namespace Hs
open PySem PySem.Spec PyProof.Rows L2 Evl Hc
def smalls : List Nat := [97, 98, 99, 100, 101, 102, 103, 104, 105, 106, 107, 108, 109, 110, 111, 112, 113, 114, 115, 116, 117, 118, 119, 120, 121, 122]
def larges : List Nat := [65, 66, 67, 68, 69, 70, 71, 72, 73, 74, 75, 76, 77, 78, 79, 80, 81, 82, 83, 84, 85, 86, 87, 88, 89, 90]
/-- the words that stand for something else -/
def resv : List (List Nat) := (["class", "def", "enter", "exit", "return", "view", "copy", "new", "super", "wrap", "self", "none", "seen", "outside"] : List String).map fun s => s.toList.map Char.toNat
def areSmall (L : List Nat) : Bool := L.all fun c => decide (c ∈ smalls)
def isWord (L : List Nat) : Bool := decide (1 ≤ L.length) && decide (L.length ≤ 8) && areSmall L && !resv.contains L
def isClassName (L : List Nat) : Bool := match L with
  | [] => false
  | c :: M => decide (L.length ≤ 8) && decide (c ∈ larges) && areSmall M
structure WordC (mg : Str → Option Value) : Prop where
  all : mg "all" = none
  len : mg "len" = none
  sm : ∃ t, mg "SMALL_LETTERS" = some (.str (S smalls) t)
  la : ∃ t, mg "LARGE_LETTERS" = some (.str (S larges) t)
  mo : ∃ t, mg "MOST_LETTERS" = some (.int 8 t)
structure WordP (K : PySem.W.Frag) (mg : Str → Option Value) : Prop extends WordC mg where
  rs : ∃ r, mg "RESERVED" = some (.ref r) ∧ ∀ H, SqT K H r (resv.map fun x => V.str (S x))
def spSmall : Sp := fun vs H Q _ => ∃ L, vs = [.str (S L)] ∧ L.length ≤ cap ∧ ∀ H', Ex H H' → Q (.bl (areSmall L)) H'
def spWord : Sp := fun vs H Q _ => ∃ L, vs = [.str (S L)] ∧ L.length ≤ cap ∧ ∀ H', Ex H H' → Q (.bl (isWord L)) H'
def spClass : Sp := fun vs H Q _ => ∃ L, vs = [.str (S L)] ∧ L.length ≤ cap ∧ ∀ H', Ex H H' → Q (.bl (isClassName L)) H'
/-- a comprehension over a text -/
theorem lc_str {x : Str} {g : TG} {tt : TT} {te : TE} {vs : List Nat} {σ : L2.St} {H1 : Hp} {D : Addr} {Qd : Hp → Prop} (Pv : Nat → Hp → Prop) (h0 : Pv 0 (upd H1 D (HO.lst [])))
    (h : ∀ (i c : Nat) (H : Hp), x.cps[i]? = some c → Pv i H → g (.str ⟨#[c]⟩) (wipe σ vs) H fun σ2 H2 => wipe σ2 vs = wipe σ vs ∧ tt σ2 H2 fun b H3 =>
      if b = true then te σ2 H3 fun y H4 => ∃ acc, H4 D = some (HO.lst acc) ∧ acc.length < sizeLine ∧ Pv (i + 1) (upd H4 D (HO.lst (acc ++ [y]))) else Pv (i + 1) H3)
    (hq : ∀ H, Pv x.cps.size H → Qd H) : ∃ W : Nat → Nat → Hp → Prop, (∃ m, W 0 m (upd H1 D (HO.lst []))) ∧ ∀ (i m : Nat) (H : Hp), W i m H → (Its x).stop i H ∧ Qd H ∨ (Its x).go i H ∧
      ∃ Nx : Hp → Prop, (∀ (H' : Hp), Nx H' → ∃ m', m' < m ∧ W (i + 1) m' H') ∧ ∀ (v : V) (H' : Hp), (Its x).yld i H v H' → g v (wipe σ vs) H' fun σ2 H2 => wipe σ2 vs = wipe σ vs ∧ tt σ2 H2 fun b H3 =>
        if b = true then te σ2 H3 fun y H4 => ∃ acc, H4 D = some (HO.lst acc) ∧ acc.length < sizeLine ∧ Nx (upd H4 D (HO.lst (acc ++ [y]))) else Nx H3 := by
  refine ⟨fun i m H => i + m = x.cps.size ∧ Pv i H, ⟨x.cps.size, by omega, h0⟩, ?_⟩
  rintro i m H ⟨e, p⟩
  by_cases hi : i < x.cps.size
  · refine .inr ⟨hi, Pv (i + 1), fun H' q => ⟨m - 1, by omega, by omega, q⟩, ?_⟩
    rintro v H' ⟨rfl, c, hc, rfl⟩
    exact h i c _ hc p
  · refine .inl ⟨by show x.cps.size ≤ i; omega, hq _ ?_⟩
    have : i = x.cps.size := by omega
    exact this ▸ p
theorem el_lcS {te : TE} {σ : L2.St} {H : Hp} {L : List Nat} {tl : TE} {j : Nat} {vs : List Nat} (v : Nat → V) (h : Ev tl σ H (.str (S L))) (hz : L.length ≤ 40000) (hw : ∀ x, wipe ((wipe σ vs).set j (some x)) vs = wipe σ vs)
    (he : ∀ (c : Nat) H1, Ex H H1 → c ∈ L → Ev te ((wipe σ vs).set j (some (.str (S [c])))) H1 (v c)) :
    EvL (tLc (iStr tl) (gName j) tYes te vs) σ H (L.map v) := fun H0 e Q q => h H0 e _ fun H1 e1 => ⟨S L, rfl, fun Dl hD =>
  lc_str (x := S L) (Cw H1 (fun _ => true) (fun i => v (L.getD i 0)) Dl) ⟨hD, Ex.new hD, upd_same⟩ (fun i c H' hi p => by
      have hi' : L[i]? = some c := by
        have z : (S L).cps[i]? = L[i]? := by simp
        rw [← z]
        exact hi
      have hl : i < L.length := (List.getElem?_eq_some_iff.mp hi').1
      have hg : L.getD i 0 = c := by
        rw [List.getD_eq_getElem?_getD, hi']
        rfl
      refine ⟨hw _, cw_turn p (by omega) et_yes fun _ => ?_⟩
      show Ev te _ _ (v (L.getD i 0))
      rw [hg]
      exact he c H1 (e.trans e1) (List.mem_of_getElem? hi'))
    (fun H' p => q Dl H' (fresh_back e1 p.1) (e1.trans p.2.1) (by
      have z := p.2.2
      unfold given at z
      rw [List.filter_eq_self.mpr (fun _ _ => rfl)] at z
      have hs : (S L).cps.size = L.length := by simp
      rw [hs] at z
      rw [z]
      congr 2
      apply List.ext_getElem?
      intro i
      rw [List.getElem?_map, List.getElem?_map]
      by_cases hi : i < L.length
      · rw [List.getElem?_range hi, List.getElem?_eq_getElem hi]
        simp [hi]
      · rw [List.getElem?_eq_none (by simp; omega), List.getElem?_eq_none (by omega)]
        rfl))⟩
theorem ev_chainI {ta tb tc : TE} {σ : L2.St} {H : Hp} {i j k : Int} (h1 : Ev ta σ H (.int i)) (h2 : Ev tb σ H (.int j)) (h3 : Ev tc σ H (.int k)) :
    Ev (tChain (rI0 fun i j => V.bl (decide (i ≤ j))) (rI0 fun i j => V.bl (decide (i ≤ j))) ta tb tc) σ H (.bl (decide (i ≤ j) && decide (j ≤ k))) := fun H1 e Q q =>
  h1 H1 e _ fun H2 e2 => h2 H2 (e.trans e2) _ fun H3 e3 => ⟨i, j, rfl, rfl, _, rfl, by
    by_cases z : i ≤ j
    · rw [if_pos (decide_eq_true z)]
      rw [decide_eq_true z] at q
      exact h3 H3 ((e.trans e2).trans e3) _ fun H4 e4 => ⟨j, k, rfl, rfl, q H4 ((e2.trans e3).trans e4)⟩
    · rw [if_neg (by rw [decide_eq_false z]; exact Bool.false_ne_true)]
      rw [decide_eq_false z] at q
      exact q H3 (e2.trans e3)⟩
theorem ev_inSign {ta tb : TE} {σ : L2.St} {H : Hp} {c : Nat} {M : List Nat} (h1 : Ev ta σ H (.str (S [c]))) (h2 : Ev tb σ H (.str (S M))) :
    Ev (tOp (fun x y H Q => ∃ c z, x = V.str { cps := #[c] } ∧ y = V.str z ∧ Q (V.bl (decide (c ∈ z.cps.toList))) H) ta tb) σ H (.bl (decide (c ∈ M))) :=
  ev_op h1 h2 fun H1 e Q q => ⟨c, S M, rfl, rfl, q H1 (Ex.refl H1)⟩

theorem atI0 (c : Nat) (M : List Nat) : atI (S (c :: M)).cps.toList 0 = some c := by
  show atI (c :: M) 0 = some c
  unfold atI
  simp [ixN]
theorem ev_lenS {σ : L2.St} {H : Hp} {te : TE} {L : List Nat} (hL : L.length ≤ cap) (h : Ev te σ H (.str (S L))) : Ev (tCB (fun (xs : List V) (H : Hp) (Q : VK) => ∃ z, xs = [.str z] ∧ z.length ≤ sizeLine ∧ Q (.int z.length) H) (tCons te tNil)) σ H (.int (L.length : Int)) := fun H1 e Q q =>
  h H1 e _ fun H2 e2 => ⟨S L, rfl, by rw [S_len]; exact cap_line hL, by rw [S_len]; exact q H2 e2⟩
theorem ev_notIn {K : PySem.W.Frag} {ta tb : TE} {σ : L2.St} {H : Hp} {L : List Nat} {Ls : List (List Nat)} {r : Addr} (h1 : Ev ta σ H (.str (S L))) (h2 : Ev tb σ H (.ref r)) (hs : ∀ H, SqT K H r (Ls.map fun x => V.str (S x))) :
    Ev (tOp (rIn K true) ta tb) σ H (.bl (!Ls.contains L)) := ev_op h1 h2 fun H1 e Q q => ⟨r, _, rfl, .inr (hs H1), rfl, by
      rw [List.all_map, List.all_eq_true]
      intro x _
      rfl, by
      have z : inV (V.str (S L)) (Ls.map fun x => V.str (S x)) = Ls.contains L := by
        unfold inV
        rw [List.any_map]
        clear hs q
        induction Ls with
        | nil => rfl
        | cons M Ms ih' =>
          have hh : eqV (V.str (S M)) (V.str (S L)) = (L == M) := by
            show (S M == S L) = (L == M)
            rw [Bool.eq_iff_iff, beq_iff_eq, beq_iff_eq]
            exact ⟨fun z => (S_inj z).symm, fun z => z ▸ rfl⟩
          show ((eqV (V.str (S M)) (V.str (S L))) || (Ms.any ((fun y => eqV y (V.str (S L))) ∘ fun x => V.str (S x)))) = ((L == M) || Ms.contains L)
          rw [hh, ih']
      rw [if_pos rfl, z]
      exact q H1 (Ex.refl H1)⟩
section
variable {P : Program} {w : World} {K : PySem.W.Frag} {mg : Str → Option Value} {base : Heap}
theorem sp_small {H : Hp} {L : List Nat} (h : L.length ≤ cap) : SpV spSmall ([.str (S L)] ++ []) H (.bl (areSmall L)) := fun H1 e Q q E => ⟨L, rfl, h, fun H' ex => q H' ex⟩
theorem sp_word {H : Hp} {L : List Nat} (h : L.length ≤ cap) : SpV spWord ([.str (S L)] ++ []) H (.bl (isWord L)) := fun H1 e Q q E => ⟨L, rfl, h, fun H' ex => q H' ex⟩
theorem sp_class {H : Hp} {L : List Nat} (h : L.length ≤ cap) : SpV spClass ([.str (S L)] ++ []) H (.bl (isClassName L)) := fun H1 e Q q E => ⟨L, rfl, h, fun H' ex => q H' ex⟩
abbrev nSmall : List Str := ["text", "sign"]
theorem scSmall : FnScope nSmall ["text"] (defScope sSmall) := ⟨rfl, rfl, rfl, by decide +kernel, rfl, by decide +kernel, by decide +kernel⟩
theorem ok_small {f : Addr} {fd : FuncData} {k : Nat} (F : Fun K "are_small" "are_small" sSmall f fd) (T : WordC mg) : FnOk P w K mg base CX0 (k + 1) f fd ["text"] spSmall := by
  refine F.ok scSmall (fun vs H Q E h => ?_) (fun cdv A outer s H vs Q E hr h => ?_)
  · obtain ⟨L, rfl, _⟩ := h
    rfl
  · obtain ⟨L, rfl, hL, q⟩ := h
    obtain ⟨t, ht⟩ := T.sm
    refine ⟨_, pss_one (ps_ret (pe_callB (cr_all rfl) (by rfl) T.all boot_all (pa_cons (pe_lc (own := [("sign", 1)]) (g := gName 1) (tt := tYes) rfl scSmall.nd (pi_str (pv 0)) (blkOk_by (N := nSmall) (sc := defScope sSmall) (by decide +kernel)) (fun _ _ _ _ _ => pg_name (i := 1) scSmall.nd rfl (.inl rfl)) (fun _ _ _ _ _ => pts_nil)
      (fun _ _ _ _ _ => pe_cmpR op_in_sign (pv 1) (pe_glob (v := .str (S smalls)) (by rfl) ht ⟨_, rfl⟩) (by rfl))) pa_nil))), ?_⟩
    refine s_ret (ev_all (bs := L.map fun c => decide (c ∈ smalls)) (by
      rw [List.map_map]
      exact el_lcS (fun c => V.bl (decide (c ∈ smalls))) (ev_var rfl) (Nat.le_trans hL (by decide)) wipe1 fun c H1 e hc => ev_inSign (ev_var rfl) ev_c)) fun H1 f1 => ?_
    have e : areSmall L = (L.map fun c => decide (c ∈ smalls)).all id := by
      rw [List.all_map]
      rfl
    rw [← e]
    exact q H1 f1
theorem scWord : FnScope ["text"] ["text"] (defScope sWord) := ⟨rfl, rfl, rfl, by decide +kernel, rfl, by decide +kernel, by decide +kernel⟩
theorem ok_word {f : Addr} {fd : FuncData} {k : Nat} (F : Fun K "is_word" "is_word" sWord f fd) (T : WordP K mg) (rS : Rd P w K mg base "are_small" k ["text"] spSmall) : FnOk P w K mg base CX0 (k + 1) f fd ["text"] spWord := by
  refine F.ok scWord (fun vs H Q E h => ?_) (fun cdv A outer s H vs Q E hr h => ?_)
  · obtain ⟨L, rfl, _⟩ := h
    rfl
  · obtain ⟨L, rfl, hL, q⟩ := h
    obtain ⟨t, ht⟩ := T.mo
    obtain ⟨r, hR, hs⟩ := T.rs
    refine ⟨_, pss_one (ps_ret (pe_and (pe_chain op_le op_le pe_int (pe_callB call_len_str (by rfl) T.len PySem.boot_len (pa_cons (pv 0) pa_nil)) (pe_glob (v := .int 8) (by rfl) ht ⟨_, rfl⟩))
      (pe_and (pe_rd rS hr (Nat.le_refl _) (by rfl) (pa_cons (pv 0) pa_nil)) (pe_one (pe_cmpR op_notIn_seq (pv 0) (pe_glob (v := .ref r) (by rfl) hR rfl) (by rfl)))))), ?_⟩
    refine s_ret (ev_andV (ev_chainI ev_c (ev_lenS hL (ev_var rfl)) ev_c) fun _ => ev_andV (ev_call (ea_cons (ev_var rfl) ea_nil) (sp_small hL)) fun _ => ev_notIn (ev_var rfl) ev_c hs) fun H1 f1 => ?_
    have e : isWord L = ((decide ((1 : Int) ≤ (L.length : Int)) && decide ((L.length : Int) ≤ 8)) && (areSmall L && !resv.contains L)) := by
      unfold isWord
      rw [Bool.and_assoc]
      congr 2
      · rw [decide_eq_decide]
        omega
      · rw [decide_eq_decide]
        omega
    rw [← e]
    exact q H1 f1
theorem scClass : FnScope ["text"] ["text"] (defScope sClassName) := ⟨rfl, rfl, rfl, by decide +kernel, rfl, by decide +kernel, by decide +kernel⟩
theorem ok_class {f : Addr} {fd : FuncData} {k : Nat} (F : Fun K "is_class_name" "is_class_name" sClassName f fd) (T : WordC mg) (rS : Rd P w K mg base "are_small" k ["text"] spSmall) : FnOk P w K mg base CX0 (k + 1) f fd ["text"] spClass := by
  refine F.ok scClass (fun vs H Q E h => ?_) (fun cdv A outer s H vs Q E hr h => ?_)
  · obtain ⟨L, rfl, _⟩ := h
    rfl
  · obtain ⟨L, rfl, hL, q⟩ := h
    obtain ⟨t, ht⟩ := T.mo
    obtain ⟨t2, ht2⟩ := T.la
    refine ⟨_, pss_one (ps_ret (pe_and (pe_chain op_le op_le pe_int (pe_callB call_len_str (by rfl) T.len PySem.boot_len (pa_cons (pv 0) pa_nil)) (pe_glob (v := .int 8) (by rfl) ht ⟨_, rfl⟩))
      (pe_and (pe_cmpR op_in_sign (pe_ix ix_str (pv 0) pe_int (fun _ _ => rfl)) (pe_glob (v := .str (S larges)) (by rfl) ht2 ⟨_, rfl⟩) (by rfl)) (pe_one (pe_rd rS hr (Nat.le_refl _) (by rfl) (pa_cons (pe_slice sl_str (pv 0) (po_some pe_int) po_none) pa_nil)))))), ?_⟩
    refine s_ret (v := .bl (isClassName L)) ?_ fun H1 f1 => q H1 f1
    cases L with
    | nil => exact ev_andV (b := false) (ev_chainI ev_c (ev_lenS hL (ev_var rfl)) ev_c) fun z => by cases z
    | cons c M =>
      have e : isClassName (c :: M) = ((decide ((1 : Int) ≤ ((c :: M).length : Int)) && decide (((c :: M).length : Int) ≤ 8)) && (decide (c ∈ larges) && areSmall M)) := by
        show (decide ((c :: M).length ≤ 8) && decide (c ∈ larges) && areSmall M) = _
        rw [Bool.and_assoc, decide_eq_true (show (1 : Int) ≤ ((c :: M).length : Int) by rw [List.length_cons]; omega), Bool.true_and]
        congr 1
        rw [decide_eq_decide]
        omega
      rw [e]
      refine ev_andV (ev_chainI ev_c (ev_lenS hL (ev_var rfl)) ev_c) fun _ => ev_andV (ev_inSign (ev_op (ev_var rfl) ev_c fun H1 e Q q => ⟨S (c :: M), 0, c, rfl, rfl, by rw [S_len]; exact cap_line hL, atI0 c M, q H1 (Ex.refl H1)⟩) ev_c) fun _ => ev_call (ea_cons (Evl.ev_is (ev_slS (ev_var rfl) (eo_some ev_c) eo_none (by rw [S_len]; exact cap_line hL)) (by show V.str (cutS (S (c :: M)) (some ((1 : Nat) : Int)) none) = V.str (S M); rw [cut_n]; rfl)) ea_nil) (sp_small (Nat.le_trans (Nat.le_succ _) hL))
end
end Hs
/-! module HwText -/
set_option maxHeartbeats 4000000
/-! text.removeprefix(text), text.startswith(text). -/
namespace Hs
open PySem PySem.Spec PyProof.Rows L2 Evl Hc
def startsL (a b : List Nat) : Bool := decide (b.length ≤ a.length) && (a.take b.length == b)
def removePre (a b : List Nat) : List Nat := if startsL a b then a.drop b.length else a
theorem startswith_S (a b : List Nat) : Txt.startswith (S a) (S b) = startsL a b := by
  unfold Txt.startswith startsL
  rw [StrLaws.subAt_eq, S_len, S_len, Nat.zero_add]
  show (decide (b.length ≤ a.length) && ((a.drop 0).take b.length == b)) = _
  rw [List.drop_zero]
theorem removeprefix_S (a b : List Nat) : Txt.removeprefix (S a) (S b) = S (removePre a b) := by
  have e := startswith_S a b
  unfold Txt.startswith at e
  rw [PySem.StrLaws.removeprefix_eq, e]
  unfold removePre
  by_cases h : startsL a b = true
  · rw [if_pos h, if_pos h, S_len, S_len]
    congr 2
    show (a.drop b.length).take (a.length - b.length) = a.drop b.length
    rw [List.take_of_length_le (by rw [List.length_drop]; exact Nat.le_refl _)]
  · rw [if_neg h, if_neg h]
theorem ev_removePre {σ : L2.St} {H : Hp} {to te : TE} {L M : List Nat} (hL : L.length ≤ cap) (h1 : Ev to σ H (.str (S L))) (h2 : Ev te σ H (.str (S M))) :
    Ev (tM1 (fun x xs H Q => ∃ a b, x = .str a ∧ xs = [.str b] ∧ a.length ≤ sizeLine ∧ Q (.str (Txt.removeprefix a b)) H) to te) σ H (.str (S (removePre L M))) :=
  ev_m1 h1 h2 fun H1 Q q => ⟨S L, S M, rfl, rfl, by rw [S_len]; exact cap_line hL, by rw [removeprefix_S]; exact q⟩
theorem ev_startsS {σ : L2.St} {H : Hp} {to te : TE} {L M : List Nat} (h1 : Ev to σ H (.str (S L))) (h2 : Ev te σ H (.str (S M))) :
    Ev (tM1 (fun x xs H Q => ∃ a b, x = .str a ∧ xs = [.str b] ∧ Q (.bl (Txt.startswith a b)) H) to te) σ H (.bl (startsL L M)) := ev_m1 h1 h2 fun H1 Q q => ⟨S L, S M, rfl, rfl, by rw [startswith_S]; exact q⟩
end Hs
/-! module HyMath -/
set_option maxHeartbeats 4000000
/-! The merge of rows and the orders of classes. -/
namespace Hy
section
variable {α : Type} [DecidableEq α]
abbrev Rows (α : Type) := List (List α)
/-- whether x stands in no row behind the first place -/
def freeIn (rs : Rows α) (x : α) : Bool := rs.all fun r => !decide (x ∈ r.tail)
def heads (rs : Rows α) : List α := rs.filterMap List.head?
def nextOf (rs : Rows α) : Option α := (heads rs).find? (freeIn rs)
def cutRow (t : α) (r : List α) : List α := if r.head? = some t then r.tail else r
def full (rs : Rows α) : Rows α := rs.filter fun r => !r.isEmpty
def cut (t : α) (rs : Rows α) : Rows α := full (rs.map (cutRow t))
def total (rs : Rows α) : Nat := (rs.map List.length).sum
/-- the merge of full rows -/
def mergeN : Nat → Rows α → Option (List α)
  | 0, _ => some []
  | n + 1, rs => if rs = [] then some [] else match nextOf rs with
    | none => none
    | some t => (mergeN n (cut t rs)).map (t :: ·)
def merge (rs : Rows α) : Option (List α) := mergeN (total (full rs)) (full rs)

theorem mem_full {rs : Rows α} {r : List α} : r ∈ full rs ↔ r ∈ rs ∧ r ≠ [] := by
  unfold full
  rw [List.mem_filter]
  cases r <;> simp
theorem full_full (rs : Rows α) : full (full rs) = full rs := by
  unfold full
  rw [List.filter_filter]
  congr 1
  funext r
  simp
theorem full_cut (t : α) (rs : Rows α) : full (cut t rs) = cut t rs := full_full _
theorem total_full : ∀ rs : Rows α, total (full rs) = total rs
  | [] => rfl
  | r :: rs => by
    have ih := total_full rs
    unfold total full at *
    cases r with
    | nil =>
      rw [List.filter_cons_of_neg (by simp)]
      simpa using ih
    | cons x r =>
      rw [List.filter_cons_of_pos (by simp)]
      simp only [List.map_cons, List.sum_cons]
      rw [ih]
theorem total_pos {rs : Rows α} (h : full rs = rs) (h0 : rs ≠ []) : 0 < total rs := by
  cases rs with
  | nil => exact absurd rfl h0
  | cons r rs =>
    have : r ∈ full (r :: rs) := by rw [h]; exact List.mem_cons_self
    have hr := (mem_full.mp this).2
    unfold total
    simp only [List.map_cons, List.sum_cons]
    have := List.length_pos_iff.mpr hr
    omega
theorem cutRow_le (t : α) (r : List α) : (cutRow t r).length ≤ r.length := by
  unfold cutRow
  split
  · simp
  · exact Nat.le_refl _
theorem total_cut_le (t : α) : ∀ rs : Rows α, total (rs.map (cutRow t)) ≤ total rs
  | [] => Nat.le_refl _
  | r :: rs => by
    have := total_cut_le t rs
    have := cutRow_le t r
    unfold total at *
    simp only [List.map_cons, List.sum_cons]
    omega
theorem total_cut {t : α} : ∀ {rs : Rows α}, t ∈ heads rs → total (cut t rs) < total rs
  | [], h => by cases h
  | r :: rs, h => by
    unfold cut
    rw [total_full]
    unfold heads at h
    by_cases hr : r.head? = some t
    · have h2 := total_cut_le t rs
      cases r with
      | nil => cases hr
      | cons x r =>
        have e : cutRow t (x :: r) = r := if_pos hr
        unfold total at *
        simp only [List.map_cons, List.sum_cons, e, List.length_cons]
        omega
    · have h3 : t ∈ heads rs := by
        cases r with
        | nil => simpa [heads] using h
        | cons x r =>
          replace h : t ∈ x :: List.filterMap List.head? rs := h
          rcases List.mem_cons.mp h with rfl | h
          · exact absurd rfl hr
          · exact h
      have ih := total_cut h3
      unfold cut at ih
      rw [total_full] at ih
      have e : cutRow t r = r := if_neg hr
      unfold total at *
      simp only [List.map_cons, List.sum_cons, e]
      omega
theorem next_mem {rs : Rows α} {t : α} (h : nextOf rs = some t) : t ∈ heads rs ∧ freeIn rs t = true := ⟨List.mem_of_find?_eq_some h, List.find?_some h⟩
/-- fuel does not matter -/
theorem mergeN_more : ∀ (n : Nat) (rs : Rows α), full rs = rs → total rs ≤ n → mergeN n rs = mergeN (total rs) rs := by
  intro n
  induction n using Nat.strongRecOn with
  | ind n ih =>
    intro rs hf hn
    cases n with
    | zero =>
      have : total rs = 0 := by omega
      rw [this]
    | succ n =>
      by_cases h0 : rs = []
      · subst h0
        show (if ([] : Rows α) = [] then some [] else _) = _
        rw [if_pos rfl]
        rfl
      · obtain ⟨m, hm⟩ : ∃ m, total rs = m + 1 := ⟨total rs - 1, by have := total_pos hf h0; omega⟩
        rw [hm]
        show (if rs = [] then some [] else _) = (if rs = [] then some [] else _)
        rw [if_neg h0, if_neg h0]
        cases hx : nextOf rs with
        | none => rfl
        | some t =>
          have ht := total_cut (next_mem hx).1
          show (mergeN n (cut t rs)).map _ = (mergeN m (cut t rs)).map _
          rw [ih n (by omega) (cut t rs) (full_cut _ _) (by omega)]
          by_cases hmn : m < n + 1
          · rw [ih m hmn (cut t rs) (full_cut _ _) (by omega)]
          · have : m = n := by omega
            subst this
            rw [ih m (by omega) (cut t rs) (full_cut _ _) (by omega)]
theorem mergeN_len : ∀ (n : Nat) (rs : Rows α) (m : List α), mergeN n rs = some m → m.length ≤ n
  | 0, rs, m, h => by
    cases h
    exact Nat.le_refl _
  | n + 1, rs, m, h => by
    have h' : (if rs = [] then some [] else match nextOf rs with
      | none => none
      | some t => (mergeN n (cut t rs)).map (t :: ·)) = some m := h
    split at h'
    · cases h'
      exact Nat.zero_le _
    · cases hx : nextOf rs with
      | none => rw [hx] at h'; cases h'
      | some t =>
        rw [hx] at h'
        obtain ⟨m', h1, rfl⟩ := Option.map_eq_some_iff.mp h'
        have := mergeN_len n _ m' h1
        rw [List.length_cons]
        omega
/-- a step of the merge -/
theorem merge_nil {rs : Rows α} (h : full rs = []) : merge rs = some [] := by
  unfold merge
  rw [h]
  rfl
theorem merge_step {rs : Rows α} (hf : full rs = rs) (h0 : rs ≠ []) : merge rs = match nextOf rs with
    | none => none
    | some t => (merge (cut t rs)).map (t :: ·) := by
  unfold merge
  rw [hf]
  obtain ⟨m, hm⟩ : ∃ m, total rs = m + 1 := ⟨total rs - 1, by have := total_pos hf h0; omega⟩
  rw [hm]
  show (if rs = [] then some [] else _) = _
  rw [if_neg h0]
  cases hx : nextOf rs with
  | none => rfl
  | some t =>
    have ht := total_cut (next_mem hx).1
    show (mergeN m (cut t rs)).map _ = (mergeN (total (full (cut t rs))) (full (cut t rs))).map _
    rw [full_cut, mergeN_more m (cut t rs) (full_cut _ _) (by omega)]
theorem merge_full (rs : Rows α) : merge (full rs) = merge rs := by
  unfold merge
  rw [full_full]

/-- the other way to remove: everywhere -/
theorem cut_all {rs : Rows α} {t : α} (h : freeIn rs t = true) : rs.map (cutRow t) = rs.map fun r => r.filter fun x => decide (x ≠ t) := by
  apply List.map_congr_left
  intro r hr
  have h1 : t ∉ r.tail := by
    have := List.all_eq_true.mp h r hr
    simpa using this
  have h2 : r.tail.filter (fun x => decide (x ≠ t)) = r.tail := List.filter_eq_self.mpr fun x hx => by
    rw [decide_eq_true_eq]
    rintro rfl
    exact h1 hx
  unfold cutRow
  cases r with
  | nil => rfl
  | cons y r =>
    rw [List.tail_cons] at h2
    by_cases hy : y = t
    · subst hy
      rw [if_pos (show (y :: r).head? = some y from rfl), List.filter_cons_of_neg (by simp), h2]
      rfl
    · rw [if_neg (by simpa using hy), List.filter_cons_of_pos (by simpa using hy), h2]

/-! ### what a merge gives -/
structure Fine (rs : Rows α) (m : List α) : Prop where
  sub : ∀ r ∈ rs, r.Sublist m
  nd : m.Nodup
  mem : ∀ x ∈ m, ∃ r ∈ rs, x ∈ r
theorem fine_n : ∀ (n : Nat) (rs : Rows α) (m : List α), total rs ≤ n → full rs = rs → (∀ r ∈ rs, r.Nodup) → merge rs = some m → Fine rs m := by
  intro n
  induction n with
  | zero =>
    intro rs m hn hf hd hm
    have h0 : rs = [] := by
      cases rs with
      | nil => rfl
      | cons r rs => exact absurd (total_pos hf (by simp)) (by omega)
    subst h0
    rw [merge_nil (by rfl)] at hm
    cases hm
    exact ⟨fun r hr => (by cases hr), List.nodup_nil, fun x hx => (by cases hx)⟩
  | succ n ih =>
    intro rs m hn hf hd hm
    by_cases h0 : rs = []
    · subst h0
      rw [merge_nil (by rfl)] at hm
      cases hm
      exact ⟨fun r hr => (by cases hr), List.nodup_nil, fun x hx => (by cases hx)⟩
    · rw [merge_step hf h0] at hm
      cases hx : nextOf rs with
      | none => rw [hx] at hm; cases hm
      | some t =>
        rw [hx] at hm
        replace hm : (merge (cut t rs)).map (t :: ·) = some m := hm
        obtain ⟨hh, hfr⟩ := next_mem hx
        have ht := total_cut hh
        obtain ⟨m', hm', rfl⟩ : ∃ m', merge (cut t rs) = some m' ∧ m = t :: m' := by
          cases e : merge (cut t rs) with
          | none => rw [e] at hm; cases hm
          | some m' =>
            rw [e] at hm
            exact ⟨m', rfl, (Option.some.inj hm).symm⟩
        have nt : ∀ r ∈ rs, t ∉ r.tail := fun r hr => by
          have := List.all_eq_true.mp hfr r hr
          simpa using this
        have hcut : ∀ r ∈ rs, cutRow t r ≠ [] → cutRow t r ∈ cut t rs := fun r hr hne => mem_full.mpr ⟨List.mem_map.mpr ⟨r, hr, rfl⟩, hne⟩
        have F := ih (cut t rs) m' (by omega) (full_cut _ _) (fun r hr => by
          obtain ⟨h1, _⟩ := mem_full.mp hr
          obtain ⟨r0, hr0, rfl⟩ := List.mem_map.mp h1
          unfold cutRow
          split
          · exact (List.tail_sublist r0).nodup (hd r0 hr0)
          · exact hd r0 hr0) hm'
        have tm : t ∉ m' := fun hmem => by
          obtain ⟨r, hr, hxr⟩ := F.mem t hmem
          obtain ⟨h1, _⟩ := mem_full.mp hr
          obtain ⟨r0, hr0, rfl⟩ := List.mem_map.mp h1
          unfold cutRow at hxr
          split at hxr
          · exact nt r0 hr0 hxr
          · rename_i hne
            cases r0 with
            | nil => cases hxr
            | cons y r0 =>
              rcases List.mem_cons.mp hxr with rfl | hxr
              · exact hne rfl
              · exact nt _ hr0 hxr
        refine ⟨fun r hr => ?_, List.nodup_cons.mpr ⟨tm, F.nd⟩, fun x hx => ?_⟩
        · have hne : r ≠ [] := (mem_full.mp (by rw [hf]; exact hr)).2
          cases r with
          | nil => exact absurd rfl hne
          | cons y r =>
            by_cases hy : y = t
            · subst hy
              have e : cutRow y (y :: r) = r := if_pos rfl
              by_cases hr0 : r = []
              · subst hr0
                exact List.Sublist.cons₂ _ (List.nil_sublist _)
              · have := hcut (y :: r) hr (by rw [e]; exact hr0)
                rw [e] at this
                exact List.Sublist.cons₂ _ (F.sub r this)
            · have e : cutRow t (y :: r) = y :: r := if_neg (by simpa using hy)
              have := hcut (y :: r) hr (by rw [e]; simp)
              rw [e] at this
              exact List.Sublist.cons _ (F.sub _ this)
        · rcases List.mem_cons.mp hx with rfl | hx
          · unfold heads at hh
            obtain ⟨r, hr, he⟩ := List.mem_filterMap.mp hh
            cases r with
            | nil => cases he
            | cons y r =>
              cases he
              exact ⟨_, hr, List.mem_cons_self⟩
          · obtain ⟨r, hr, hxr⟩ := F.mem x hx
            obtain ⟨h1, _⟩ := mem_full.mp hr
            obtain ⟨r0, hr0, rfl⟩ := List.mem_map.mp h1
            refine ⟨r0, hr0, ?_⟩
            unfold cutRow at hxr
            split at hxr
            · exact List.mem_of_mem_tail hxr
            · exact hxr
theorem fine {rs : Rows α} {m : List α} (hd : ∀ r ∈ rs, r.Nodup) (hm : merge rs = some m) : Fine rs m := by
  have F := fine_n (total (full rs)) (full rs) m (Nat.le_refl _) (full_full rs) (fun r hr => hd r (mem_full.mp hr).1) (by rw [merge_full]; exact hm)
  refine ⟨fun r hr => ?_, F.nd, fun x hx => ?_⟩
  · by_cases h : r = []
    · subst h
      exact List.nil_sublist _
    · exact F.sub r (mem_full.mpr ⟨hr, h⟩)
  · obtain ⟨r, hr, hxr⟩ := F.mem x hx
    exact ⟨r, (mem_full.mp hr).1, hxr⟩
theorem total_mem {rs : Rows α} {r : List α} (h : r ∈ rs) : r.length ≤ total rs := by
  unfold total
  induction rs with
  | nil => cases h
  | cons s rs ih =>
    simp only [List.map_cons, List.sum_cons]
    rcases List.mem_cons.mp h with rfl | h
    · omega
    · have := ih h
      omega
/-! ### places in a list -/
theorem idx_ne {x y : α} (h : y ≠ x) (m : List α) : (y :: m).idxOf x = m.idxOf x + 1 := by
  rw [List.idxOf_cons]
  have : (y == x) = false := by simpa using h
  rw [this]
  rfl
theorem sub_idx {l m : List α} (h : l.Sublist m) (nd : m.Nodup) : (l.map fun x => m.idxOf x).Pairwise (· < ·) := by
  induction h with
  | slnil => exact List.Pairwise.nil
  | @cons l m y h ih =>
    have nd' := (List.nodup_cons.mp nd)
    have ih' := ih nd'.2
    have e : (l.map fun x => (y :: m).idxOf x) = (l.map fun x => m.idxOf x).map (· + 1) := by
      rw [List.map_map]
      apply List.map_congr_left
      intro x hx
      have hne : y ≠ x := fun z => nd'.1 (z ▸ h.subset hx)
      show (y :: m).idxOf x = m.idxOf x + 1
      exact idx_ne hne m
    rw [e]
    exact List.Pairwise.map _ (fun a b hab => Nat.succ_lt_succ hab) ih'
  | @cons_cons l m y h ih =>
    have nd' := (List.nodup_cons.mp nd)
    have ih' := ih nd'.2
    rw [List.map_cons]
    have e : (l.map fun x => (y :: m).idxOf x) = (l.map fun x => m.idxOf x).map (· + 1) := by
      rw [List.map_map]
      apply List.map_congr_left
      intro x hx
      have hne : y ≠ x := fun z => nd'.1 (z ▸ h.subset hx)
      show (y :: m).idxOf x = m.idxOf x + 1
      exact idx_ne hne m
    rw [e]
    refine List.Pairwise.cons ?_ (List.Pairwise.map _ (fun a b hab => Nat.succ_lt_succ hab) ih')
    intro b hb
    obtain ⟨c, _, rfl⟩ := List.mem_map.mp hb
    show (y :: m).idxOf y < c + 1
    rw [List.idxOf_cons_self]
    omega
theorem filter_sub {l m : List α} (h : l.Sublist m) (nd : m.Nodup) : m.filter (fun x => decide (x ∈ l)) = l := by
  induction h with
  | slnil => rfl
  | @cons l m y h ih =>
    have nd' := (List.nodup_cons.mp nd)
    rw [List.filter_cons_of_neg (by simpa using fun z => nd'.1 (h.subset z))]
    exact ih nd'.2
  | @cons_cons l m y h ih =>
    have nd' := (List.nodup_cons.mp nd)
    rw [List.filter_cons_of_pos (by simp)]
    congr 1
    have e : m.filter (fun x => decide (x ∈ y :: l)) = m.filter fun x => decide (x ∈ l) := by
      apply List.filter_congr
      intro x hx
      have hne : x ≠ y := fun z => nd'.1 (z ▸ hx)
      simp [hne]
    rw [e]
    exact ih nd'.2
end
end Hy
/-! module HyText -/
set_option maxHeartbeats 4000000
/-! Class lines as lists of signs; joined, split, cut. -/
namespace Hy
open PySem PySem.Spec PyProof.Rows L2 Evl Hc Hs
abbrev Nm := List Nat
abbrev sv (n : Nm) : V := .str (S n)
theorem tl_S (a : List Nat) : TL.tl (S a) = a := rfl
theorem split_S {s : Nat} {T : List Nat} (hk : (s :: T).all (· < 256) = true) {xs : List (List Nat)} (hne : xs ≠ []) (hp : ∀ x ∈ xs, s ∉ x) : Txt.split (S (TL.joinL (s :: T) xs)) (S (s :: T)) = xs.map S := by
  rw [← join_S]
  exact TL.split_join (s := s) (S := T) rfl (by simpa using hk) (by simpa using hne) fun p h => by
    obtain ⟨z, hz, rfl⟩ := List.mem_map.mp h
    exact hp z hz
theorem partition_S {s : Nat} {a b : List Nat} (h : s ∉ a) : Txt.partition (S (a ++ (s :: b))) (S [s]) = (S a, S [s], S b) := by
  have e : S (a ++ (s :: b)) = S a ++ S [s] ++ S b := by rw [S_cat, S_cat, List.append_assoc]; rfl
  rw [e]
  exact TL.partition_app (s := s) (S := []) rfl h
theorem partition_no {s : Nat} {a : List Nat} (h : s ∉ a) : Txt.partition (S a) (S [s]) = (S a, S [], S []) := TL.partition_none (s := s) (S := []) rfl h
/-! ### names and lines -/
structure GoodNm (n : Nm) : Prop where
  ok : isClassName n = true
theorem GoodNm.len {n : Nm} (g : GoodNm n) : 1 ≤ n.length ∧ n.length ≤ 8 := by
  have h := g.ok
  unfold isClassName at h
  cases n with
  | nil => cases h
  | cons c m =>
    simp only [Bool.and_eq_true, decide_eq_true_eq] at h
    exact ⟨by simp, h.1.1⟩
theorem GoodNm.mem {n : Nm} (g : GoodNm n) {c : Nat} (hc : c ∈ n) : c ∈ larges ∨ c ∈ smalls := by
  have h := g.ok
  unfold isClassName at h
  cases n with
  | nil => cases h
  | cons d m =>
    simp only [Bool.and_eq_true, decide_eq_true_eq] at h
    rcases List.mem_cons.mp hc with rfl | hc
    · exact .inl h.1.2
    · have := List.all_eq_true.mp h.2 c hc
      exact .inr (of_decide_eq_true this)
theorem GoodNm.no {n : Nm} (g : GoodNm n) {c : Nat} (h1 : c ∉ larges) (h2 : c ∉ smalls) : c ∉ n := fun hc => (g.mem hc).elim h1 h2
def cls6 : List Nat := [99, 108, 97, 115, 115, 32]
def bpart (bs : List Nm) : List Nat := if bs = [] then [] else 40 :: (TL.joinL [44, 32] bs ++ [41])
def cline (n : Nm) (bs : List Nm) : List Nat := cls6 ++ (n ++ (bpart bs ++ [58]))
theorem joinL_mem {T : List Nat} : ∀ {xs : List (List Nat)} {c : Nat}, c ∈ TL.joinL T xs → c ∈ T ∨ ∃ x ∈ xs, c ∈ x
  | [], c, h => by cases h
  | [p], c, h => .inr ⟨p, List.mem_cons_self, h⟩
  | p :: q :: r, c, h => by
    have h' : c ∈ p ++ (T ++ TL.joinL T (q :: r)) := h
    rcases List.mem_append.mp h' with h | h
    · exact .inr ⟨p, List.mem_cons_self, h⟩
    · rcases List.mem_append.mp h with h | h
      · exact .inl h
      · rcases joinL_mem h with h | ⟨x, hx, hc⟩
        · exact .inl h
        · exact .inr ⟨x, List.mem_cons_of_mem _ hx, hc⟩
theorem joinL_len {T : List Nat} {m : Nat} : ∀ {xs : List (List Nat)}, (∀ x ∈ xs, x.length ≤ m) → (TL.joinL T xs).length ≤ xs.length * (m + T.length)
  | [], _ => Nat.zero_le _
  | [p], h => by
    have := h p List.mem_cons_self
    show p.length ≤ 1 * _
    omega
  | p :: q :: r, h => by
    have h1 := h p List.mem_cons_self
    have h2 := joinL_len (T := T) (xs := q :: r) fun x hx => h x (List.mem_cons_of_mem _ hx)
    show (p ++ (T ++ TL.joinL T (q :: r))).length ≤ _
    rw [List.length_append, List.length_append, List.length_cons, Nat.add_mul, Nat.one_mul]
    omega
theorem cline_no {n : Nm} {bs : List Nm} (g : GoodNm n) (gb : ∀ b ∈ bs, GoodNm b) : 10 ∉ cline n bs := by
  unfold cline bpart cls6
  intro h
  rcases List.mem_append.mp h with h | h
  · revert h; decide
  · rcases List.mem_append.mp h with h | h
    · exact g.no (by decide) (by decide) h
    · rcases List.mem_append.mp h with h | h
      · split at h
        · cases h
        · rcases List.mem_cons.mp h with h | h
          · cases h
          · rcases List.mem_append.mp h with h | h
            · rcases joinL_mem h with h | ⟨x, hx, h⟩
              · revert h; decide
              · exact (gb x hx).no (by decide) (by decide) h
            · revert h; decide
      · revert h; decide
theorem cline_len {n : Nm} {bs : List Nm} (g : GoodNm n) (gb : ∀ b ∈ bs, GoodNm b) (hb : bs.length ≤ 3) : (cline n bs).length ≤ 60 ∧ 8 ≤ (cline n bs).length := by
  have h1 := g.len
  have h2 := joinL_len (T := [44, 32]) (m := 8) (xs := bs) fun x hx => (gb x hx).len.2
  unfold cline bpart cls6
  simp only [List.length_append, List.length_cons, List.length_nil]
  have h3 : bs.length * (8 + ([44, 32] : List Nat).length) ≤ 30 := by
    show bs.length * 10 ≤ 30
    omega
  split
  · simp; omega
  · simp only [List.length_append, List.length_cons, List.length_nil]
    omega
theorem cline_starts (n : Nm) (bs : List Nm) : startsL (cline n bs) cls6 = true := by
  unfold startsL cline
  rw [Bool.and_eq_true]
  refine ⟨decide_eq_true (by rw [List.length_append]; omega), ?_⟩
  rw [List.take_left]
  simp
theorem cline_last (n : Nm) (bs : List Nm) : (cline n bs).getLast? = some 58 := by
  unfold cline
  rw [← List.append_assoc, ← List.append_assoc, List.getLast?_append]
  rfl
theorem cline_cut (n : Nm) (bs : List Nm) : ((cline n bs).drop 6).take ((cline n bs).length - 1 - 6) = n ++ bpart bs := by
  have e : (cline n bs).drop 6 = n ++ (bpart bs ++ [58]) := List.drop_left (l₁ := cls6)
  have e2 : (cline n bs).length - 1 - 6 = (n ++ bpart bs).length := by
    unfold cline cls6
    simp only [List.length_append, List.length_cons, List.length_nil]
    omega
  rw [e, e2, ← List.append_assoc, List.take_left]
theorem rest_cut (L : List Nat) : (L ++ [41]).dropLast = L := by simp
theorem cut_last' (L : List Nat) : cutS (S L) none (some (-1 : Int)) = S L.dropLast := by
  unfold cutS
  rw [HT.sIx_none, S_len]
  have e : HT.sIx L.length L.length (some (-((1 : Nat) : Int))) = L.length - 1 := by
    unfold HT.sIx
    dsimp only
    rw [if_pos (by decide)]
    omega
  rw [show (-1 : Int) = -((1 : Nat) : Int) from rfl, e]
  congr 2
  show (L.drop 0).take (L.length - 1 - 0) = L.dropLast
  rw [List.drop_zero, Nat.sub_zero, List.dropLast_eq_take]
theorem cut_6 (L : List Nat) : cutS (S L) (some (6 : Int)) (some (-1 : Int)) = S ((L.drop 6).take (L.length - 1 - 6)) := by
  unfold cutS
  rw [show (6 : Int) = ((6 : Nat) : Int) from rfl, HT.sIx_nat, S_len]
  have e : HT.sIx L.length L.length (some (-((1 : Nat) : Int))) = L.length - 1 := by
    unfold HT.sIx
    dsimp only
    rw [if_pos (by decide)]
    omega
  rw [show (-1 : Int) = -((1 : Nat) : Int) from rfl, e]
  congr 2
  show (L.drop (min 6 L.length)).take (L.length - 1 - min 6 L.length) = _
  by_cases h : 6 ≤ L.length
  · rw [Nat.min_eq_left h]
  · rw [Nat.min_eq_right (by omega), List.drop_of_length_le (by omega), List.drop_of_length_le (l := L) (i := 6) (by omega)]
    simp
/-! ### readings of texts -/
section
variable {σ : L2.St} {H : Hp} {to te : TE}
theorem el_split {s : Nat} {T L : List Nat} {xs : List Nm} (hk : (s :: T).all (· < 256) = true) (hL : L.length ≤ cap) (e : L = TL.joinL (s :: T) xs) (hne : xs ≠ []) (hp : ∀ x ∈ xs, s ∉ x) (h1 : Ev to σ H (.str (S L))) (h2 : Ev te σ H (.str (S (s :: T)))) :
    EvL (tM1 (fun x xs H Q => ∃ a b, x = .str a ∧ xs = [.str b] ∧ (b.length == 0) = false ∧ a.length + 2 ≤ sizeLine ∧ rNewStrs (Txt.split a b) H Q) to te) σ H (xs.map sv) := fun H1 f1 Q q =>
  h1 H1 f1 _ fun H2 f2 => ⟨⟨_, rfl⟩, h2 H2 (f1.trans f2) _ fun H3 f3 => ⟨_, _, rfl, rfl, by rw [S_len]; rfl, by rw [S_len]; exact Nat.le_trans (Nat.add_le_add_right hL 2) (by decide), fun p np => by
    refine q p _ (fresh_back (f2.trans f3) np) ((f2.trans f3).trans (Ex.new np)) ?_
    rw [upd_same, e, split_S hk hne hp, List.map_map]
    rfl⟩⟩
theorem eu_part {L M : List Nat} {a b c : List Nat} (hL : L.length ≤ cap) (hM : M.length ≠ 0) (e : Txt.partition (S L) (S M) = (S a, S b, S c)) (h1 : Ev to σ H (.str (S L))) (h2 : Ev te σ H (.str (S M))) :
    EvU (tM1 (fun x xs H Q => ∃ a b, x = .str a ∧ xs = [.str b] ∧ (b.length == 0) = false ∧ a.length ≤ sizeLine ∧ ∀ p, H p = none → Q (.ref p) (upd H p (.tup [.str (Txt.partition a b).1, .str (Txt.partition a b).2.1, .str (Txt.partition a b).2.2]))) to te) σ H [sv a, sv b, sv c] := fun H1 f1 Q q =>
  h1 H1 f1 _ fun H2 f2 => ⟨⟨_, rfl⟩, h2 H2 (f1.trans f2) _ fun H3 f3 => ⟨_, _, rfl, rfl, by rw [S_len]; simpa using hM, by rw [S_len]; exact cap_line hL, fun p np => by
    refine q p _ (fresh_back (f2.trans f3) np) ((f2.trans f3).trans (Ex.new np)) ?_
    rw [upd_same, e]⟩⟩
/-- joined -/
theorem ev_join {K : PySem.W.Frag} {T : List Nat} {xs : List Nm} {p : Addr} (hz : (xs.map List.length).sum + xs.length * T.length ≤ 16777216) (h1 : Ev to σ H (.str (S T))) (h2 : Ev te σ H (.ref p)) (hp : SqL K H p (xs.map sv)) :
    Ev (tM1 (fun x xs H Q => ∃ a p, ∃ ys : List Str, x = .str a ∧ xs = [.ref p] ∧ (SqL K H p (ys.map V.str) ∨ SqT K H p (ys.map V.str)) ∧ (ys.map (·.length)).sum + ys.length * a.length ≤ 16777216 ∧ Q (.str (Txt.join a ys)) H) to te) σ H (sv (TL.joinL T xs)) := fun H1 f1 Q q =>
  h1 H1 f1 _ fun H2 f2 => ⟨⟨_, rfl⟩, h2 H2 (f1.trans f2) _ fun H3 f3 => ⟨S T, p, xs.map S, rfl, rfl, .inl (by rw [List.map_map]; exact ex_l ((f1.trans f2).trans f3) hp), by
    rw [List.map_map, List.length_map, S_len]
    have : ((fun x : Str => x.length) ∘ S) = List.length := funext fun a => S_len a
    rw [this]
    exact hz, by
    rw [join_S]
    exact q H3 (f2.trans f3)⟩⟩
theorem ev_joinN {K : PySem.W.Frag} {T : List Nat} {xs : List Nm} (hz : (xs.map List.length).sum + xs.length * T.length ≤ 16777216) (h1 : Ev to σ H (.str (S T))) (h2 : EvL te σ H (xs.map sv)) :
    Ev (tM1 (fun x xs H Q => ∃ a p, ∃ ys : List Str, x = .str a ∧ xs = [.ref p] ∧ (SqL K H p (ys.map V.str) ∨ SqT K H p (ys.map V.str)) ∧ (ys.map (·.length)).sum + ys.length * a.length ≤ 16777216 ∧ Q (.str (Txt.join a ys)) H) to te) σ H (sv (TL.joinL T xs)) := fun H1 f1 Q q =>
  h1 H1 f1 _ fun H2 f2 => ⟨⟨_, rfl⟩, h2 H2 (f1.trans f2) _ fun p H3 np f3 hp => ⟨S T, p, xs.map S, rfl, rfl, .inl (by rw [List.map_map]; exact sq_of hp), by
    rw [List.map_map, List.length_map, S_len]
    have : ((fun x : Str => x.length) ∘ S) = List.length := funext fun a => S_len a
    rw [this]
    exact hz, by
    rw [join_S]
    exact q H3 (f2.trans f3)⟩⟩
theorem ev_addS {a b : List Nat} {tb ta : TE} (hz : a.length + b.length ≤ cap) (h1 : Ev ta σ H (sv a)) (h2 : Ev tb σ H (sv b)) : Ev (tOp (fun x y H Q => ∃ u v, x = V.str u ∧ y = V.str v ∧ u.length + v.length ≤ sizeLine ∧ Q (V.str (u ++ v)) H) ta tb) σ H (sv (a ++ b)) :=
  ev_op h1 h2 fun H1 e Q q => ⟨S a, S b, rfl, rfl, by rw [S_len, S_len]; exact cap_line hz, by rw [S_cat]; exact q H1 (Ex.refl H1)⟩
end
end Hy
/-! module HyNext -/
set_option maxHeartbeats 4000000
/-! lines_of, next_merged, merged. -/
namespace Hy
open PySem PySem.Spec PyProof.Rows L2 Evl Hc Hs
structure LibP (mg : Str → Option Value) : Prop where
  all : mg "all" = none
  any : mg "any" = none
  len : mg "len" = none
  lst : mg "list" = none
  tup : mg "tuple" = none
  enu : mg "enumerate" = none
  isi : mg "isinstance" = none
  str : mg "str" = none
  mC : ∃ t, mg "MOST_CLASSES" = some (.int 8 t)
  mB : ∃ t, mg "MOST_BASES" = some (.int 3 t)
def optN : Option Nm → V
  | none => .non
  | some n => sv n
/-! ### lists of lists -/
abbrev Rw := Addr × List Nm
abbrev rf (n : Rw) : V := .ref n.1
def RowsOk (H : Hp) (ns : List Rw) : Prop := ∀ n ∈ ns, H n.1 = some (.lst (n.2.map sv))
theorem RowsOk.ex {H H' : Hp} {ns : List Rw} (h : RowsOk H ns) (e : Ex H H') : RowsOk H' ns := fun n hn => e _ _ (h n hn)
theorem inV_N0 (L : Nm) : ∀ Ls : List Nm, inV (sv L) (Ls.map sv) = Ls.contains L
  | [] => rfl
  | M :: Ms => by
    have hh : eqV (V.str (S M)) (V.str (S L)) = (L == M) := by
      show (S M == S L) = (L == M)
      rw [Bool.eq_iff_iff, beq_iff_eq, beq_iff_eq]
      exact ⟨fun z => (S_inj z).symm, fun z => z ▸ rfl⟩
    show ((eqV (V.str (S M)) (V.str (S L))) || (inV (V.str (S L)) (Ms.map sv))) = ((L == M) || Ms.contains L)
    rw [hh, inV_N0 L Ms]
theorem inV_N (L : Nm) (Ls : List Nm) : inV (sv L) (Ls.map sv) = decide (L ∈ Ls) := by
  rw [inV_N0, List.contains_eq_mem]
theorem flat_N (Ls : List Nm) : (Ls.map sv).all flatV = true := by
  rw [List.all_map, List.all_eq_true]
  intro x _
  rfl
theorem cutV_tail (xs : List V) : cutV xs (some (1 : Int)) none = xs.tail := by
  unfold cutV
  rw [show (1 : Int) = ((1 : Nat) : Int) from rfl, HT.sIx_nat, HT.sIx_none]
  cases xs with
  | nil => rfl
  | cons x r =>
    rw [List.length_cons, Nat.min_eq_left (by omega)]
    show r.take (r.length + 1 - 1) = r
    rw [Nat.add_sub_cancel, List.take_length]
theorem tail_map {α β : Type} (f : α → β) (l : List α) : (l.map f).tail = l.tail.map f := by cases l <;> rfl
theorem boot_any' : bootBuiltins "any" = some (.builtin "any") := by decide +kernel
theorem boot_list' : bootBuiltins "list" = some (.type "list") := by decide +kernel
section
variable {K : PySem.W.Frag} {σ : L2.St} {H : Hp} {te ta tb tl : TE}
theorem ev_any {bs : List Bool} (h : EvL tl σ H (bs.map V.bl)) : Ev (tCB (rAny K) (tCons tl tNil)) σ H (.bl (bs.any id)) := fun H1 e Q q =>
  h H1 e _ fun p H2 np e2 hp => ⟨p, bs, rfl, SqL.of hp, q H2 e2⟩
theorem ev_inL {x : Nm} {l : List Nm} (ha : Ev ta σ H (sv x)) (hb : EvL tb σ H (l.map sv)) : Ev (tOp (rIn K false) ta tb) σ H (.bl (decide (x ∈ l))) :=
  Evl.ev_is (ev_opL ha hb fun _ _ h _ => rv_isL (sq_of h) rfl (flat_N l)) (by rw [inV_N])
theorem ev_inLs {x : Nm} {l : List Nm} {p : Addr} (ha : Ev ta σ H (sv x)) (hb : Ev tb σ H (.ref p)) (hp : SqL K H p (l.map sv)) : Ev (tOp (rIn K false) ta tb) σ H (.bl (decide (x ∈ l))) :=
  Evl.ev_is (ev_op ha hb (rv_isL hp rfl (flat_N l))) (by rw [inV_N])
theorem ev_niL {x : Nm} {l : List Nm} (ha : Ev ta σ H (sv x)) (hb : EvL tb σ H (l.map sv)) : Ev (tOp (rIn K true) ta tb) σ H (.bl (!decide (x ∈ l))) :=
  Evl.ev_is (ev_opL ha hb fun _ _ h _ => rv_niL (sq_of h) rfl (flat_N l)) (by rw [inV_N])
theorem ev_niLs {x : Nm} {l : List Nm} {p : Addr} (ha : Ev ta σ H (sv x)) (hb : Ev tb σ H (.ref p)) (hp : SqL K H p (l.map sv)) : Ev (tOp (rIn K true) ta tb) σ H (.bl (!decide (x ∈ l))) :=
  Evl.ev_is (ev_op ha hb (rv_niL hp rfl (flat_N l))) (by rw [inV_N])
theorem el_tail {l : List Nm} {p : Addr} (h : Ev te σ H (.ref p)) (hp : SqL K H p (l.map sv)) : EvL (tSl (rSlL K) te (tPart (tC (.int 1))) tNoPart) σ H (l.tail.map sv) := by
  have z := el_sl (K := K) (lo := some 1) (hi := none) h (eo_some ev_c) eo_none hp
  rw [cutV_tail, tail_map] at z
  exact z
theorem ev_head {x : Nm} {l : List Nm} {p : Addr} (h : Ev te σ H (.ref p)) (hp : SqL K H p ((x :: l).map sv)) : Ev (tOp (rIxL K) te (tC (.int 0))) σ H (sv x) :=
  ev_op h ev_c (rv_ixL hp (atI_nat (j := 0) rfl))
/-- truth of a list -/
def tTru (K : PySem.W.Frag) (ta : TE) : TT := fun σ H Q => ta σ H fun x H' => ∃ k, TruV K x H' k ∧ Q k H'
theorem et_truth {xs : List V} {p : Addr} (h : Ev te σ H (.ref p)) (hp : SqL K H p xs) : EvT (tTru K te) σ H (!xs.isEmpty) := fun H1 e Q q =>
  h H1 e _ fun H2 e2 => ⟨_, .inl ⟨xs, ex_l (e.trans e2) hp, rfl⟩, q H2 e2⟩
end
def spLines : Sp := fun vs H Q _ => ∃ ls : List (List Nat), vs = [sv (TL.joinL [10] ls)] ∧ TL.joinL [10] ls ≠ [] ∧ ls ≠ [] ∧ (∀ l ∈ ls, 10 ∉ l) ∧ (TL.joinL [10] ls).length ≤ cap ∧ ∀ p H', H p = none → Ex H H' → H' p = some (.lst (ls.map sv)) → Q (.ref p) H'
def spNext (K : PySem.W.Frag) : Sp := fun vs H Q _ => ∃ (a : Addr) (ns : List Rw), vs = [.ref a] ∧ SqL K H a (ns.map rf) ∧ RowsOk H ns ∧ (∀ n ∈ ns, n.2 ≠ []) ∧ ns.length ≤ 1000 ∧ ∀ H', Ex H H' → Q (optN (nextOf (ns.map (·.2)))) H'
theorem scLines : FnScope ["text"] ["text"] (defScope sLines) := ⟨rfl, rfl, rfl, by decide +kernel, rfl, by decide +kernel, by decide +kernel⟩
abbrev nNext : List Str := ["rows", "row", "other"]
theorem scNext : FnScope nNext ["rows"] (defScope sNext) := ⟨rfl, rfl, rfl, by decide +kernel, rfl, by decide +kernel, by decide +kernel⟩
section
variable {P : Program} {w : World} {K : PySem.W.Frag} {mg : Str → Option Value} {base : Heap}
theorem ok_lines {f : Addr} {fd : FuncData} {k : Nat} (F : Fun K "lines_of" "lines_of" sLines f fd) : FnOk P w K mg base CX0 (k + 1) f fd ["text"] spLines := by
  refine F.ok scLines (fun vs H Q E h => ?_) (fun cdv A outer s H vs Q E hr h => ?_)
  · obtain ⟨ls, rfl, _⟩ := h
    rfl
  · obtain ⟨ls, rfl, h0, hne, hno, hL, q⟩ := h
    refine ⟨_, pss_one (ps_ret (pe_ifExp (pt_cmpR op_eq (pv 0) pe_str (nomark _)) (pe_lst pa_nil) (pe_split (pv 0) pe_str))), ?_⟩
    refine s_retL (xs := ls.map sv) (fun H1 e1 Q1 q1 => ?_) q
    refine et_test (ev_eqS (b := []) (ev_var rfl) ev_c) H1 e1 _ fun H2 e2 => ?_
    rw [decide_eq_false h0]
    exact iteF (el_split (H := H) (s := 10) (T := []) (by decide) hL rfl hne hno (ev_var rfl) ev_c H2 (e1.trans e2) Q1 fun p H3 np e3 => q1 p H3 (fresh_back e2 np) (e2.trans e3))
theorem heads_cons {x : Nm} {r : List Nm} {rs : Rows Nm} : heads ((x :: r) :: rs) = x :: heads rs := rfl
theorem heads_app {as bs : Rows Nm} : heads (as ++ bs) = heads as ++ heads bs := List.filterMap_append
theorem free_any (x : Nm) (rs : Rows Nm) : (!(rs.map fun r => decide (x ∈ r.tail)).any id) = freeIn rs x := by
  rw [Bool.eq_iff_iff]
  simp [freeIn]
theorem ok_next {f : Addr} {fd : FuncData} {k : Nat} (F : Fun K "next_merged" "next_merged" sNext f fd) (T : LibP mg) : FnOk P w K mg base CX0 (k + 1) f fd ["rows"] (spNext K) := by
  refine F.ok scNext (fun vs H Q E h => ?_) (fun cdv A outer s H vs Q E hr h => ?_)
  · obtain ⟨a, ns, rfl, _⟩ := h
    rfl
  · obtain ⟨a, ns, rfl, ha, hn, hne, hl, q⟩ := h
    refine ⟨_, pss_cons (ps_for PassesOwn.never rfl (pi_list (pv 0)) (pg_name (i := 1) scNext.nd rfl (.inr rfl))
      (pss_one (ps_if (pt_not (pt_val (pe_callB (cr_any rfl) (by rfl) T.any boot_any' (pa_cons (pe_lc (own := [("other", 2)]) (g := gName 2) (tt := tYes) rfl scNext.nd (pi_list (pv 0)) (blkOk_by (N := nNext) (sc := defScope sNext) (by decide +kernel)) (fun _ _ _ _ _ => pg_name (i := 2) scNext.nd rfl (.inl rfl)) (fun _ _ _ _ _ => pts_nil)
        (fun _ _ _ _ _ => pe_cmpR (show OpR _ (compareOp .In) (rIn K false) from op_in_seq) (pe_ix (show IxR _ (rIxL K) from ix_list) (pv 1) pe_int (fun _ _ => rfl)) (pe_slice (show SlR _ (rSlL K) from sl_list) (pv 2) (po_some pe_int) po_none) (by rfl))) pa_nil)))) (pss_one (ps_ret (pe_ix ix_list (pv 1) pe_int (fun _ _ => rfl)))) pss_nil)))
      (pss_one (ps_ret pe_non)), ?_⟩
    generalize hrs : ns.map (·.2) = rs at q
    refine q_forLn (xs := ns.map rf) (ev_var rfl) ha (fun i σ H' => ∃ v1, σ = [some (.ref a), v1, none] ∧ Ex H H' ∧ (heads (rs.take i)).find? (freeIn rs) = none) (fun H1 e1 => ⟨none, rfl, e1, rfl⟩) (fun i σ' H' _ p => ?_) (fun i x σ' H' hx p => ?_) (fun σ' H' p => ?_)
    · obtain ⟨v1, rfl, e, _⟩ := p
      exact ex_l e ha
    · obtain ⟨v1, rfl, e, hfd⟩ := p
      rw [List.getElem?_map] at hx
      obtain ⟨n, hn1, rfl⟩ := Option.map_eq_some_iff.mp hx
      have hmem := List.mem_of_getElem? hn1
      obtain ⟨x0, r0, hxr⟩ : ∃ x0 r0, n.2 = x0 :: r0 := by
        cases q : n.2 with
        | nil => exact absurd q (hne n hmem)
        | cons x r => exact ⟨x, r, rfl⟩
      have hsn : SqL K H' n.1 ((x0 :: r0).map sv) := by
        rw [← hxr]
        exact sq_of (e _ _ (hn n hmem))
      have hlt : i < rs.length := by
        rw [← hrs, List.length_map]
        exact (List.getElem?_eq_some_iff.mp hn1).1
      have hgi : rs[i]? = some (x0 :: r0) := by
        rw [← hrs, List.getElem?_map, hn1]
        exact congrArg some hxr
      have htk : rs.take (i + 1) = rs.take i ++ [x0 :: r0] := by
        rw [List.take_add_one, hgi]
        rfl
      have hval : ∀ b : Bool, b = !(rs.map fun r => decide (x0 ∈ r.tail)).any id → b = freeIn rs x0 := by
        rintro b rfl
        exact free_any x0 rs
      refine s_when (b := freeIn rs x0) (et_is (et_not (et_B (ev_any (bs := rs.map fun r => decide (x0 ∈ r.tail)) ?_))) (hval _ rfl)) (fun hb H1 f1 => ?_) (fun hb H1 f1 => ?_)
      · have z := el_map (K := K) (H := H') (σ := [some (.ref a), some (.ref n.1), none]) (a := a) (tl := tVar 0) (te := tOp (rIn K false) (tOp (rIxL K) (tVar 1) (tC (.int 0))) (tSl (rSlL K) (tVar 2) (tPart (tC (.int 1))) tNoPart)) (t := tYes) (j := 2) (vs := [2]) ns rf (fun _ => true) (fun m => V.bl (decide (x0 ∈ m.2.tail))) (ev_var rfl) (ex_l e ha) (Nat.le_trans hl (by decide)) wipe1 (fun _ _ _ _ => et_yes)
          (fun m H2 e2 hm _ => ev_inL (ev_head (ev_var rfl) (ex_l e2 hsn)) (el_tail (ev_var rfl) (sq_of ((e.trans e2) _ _ (hn m hm)))))
        rw [List.filter_eq_self.mpr (fun _ _ => rfl)] at z
        rw [← hrs, List.map_map, List.map_map]
        exact z
      · refine s_ret (ev_head (ev_var rfl) (ex_l f1 hsn)) fun H2 f2 => ?_
        have z := q H2 ((e.trans f1).trans f2)
        have hnx : nextOf rs = some x0 := by
          unfold nextOf
          have hd : rs = rs.take i ++ (x0 :: r0) :: rs.drop (i + 1) := by
            conv => lhs; rw [← List.take_append_drop i rs, List.drop_eq_getElem_cons hlt]
            congr 2
            rw [List.getElem?_eq_getElem hlt] at hgi
            exact Option.some.inj hgi
          have hh : heads rs = heads (rs.take i) ++ x0 :: heads (rs.drop (i + 1)) := by
            conv => lhs; rw [hd]
            rw [heads_app, heads_cons]
          rw [hh, List.find?_append, hfd, Option.none_or, List.find?_cons_of_pos (by exact hb)]
        rw [hnx] at z
        exact z
      · refine ⟨some (.ref n.1), rfl, e.trans f1, ?_⟩
        rw [htk, heads_app, List.find?_append, hfd, Option.none_or]
        show List.find? (freeIn rs) [x0] = none
        rw [List.find?_cons_of_neg (by rw [hb]; exact Bool.false_ne_true)]
        rfl
    · obtain ⟨v1, rfl, e, hfd⟩ := p
      refine s_ret ev_c fun H2 f2 => ?_
      have z := q H2 (e.trans f2)
      have hnx : nextOf rs = none := by
        rw [List.length_map, ← List.length_map (f := fun n : Rw => n.2), hrs, List.take_length] at hfd
        exact hfd
      rw [hnx] at z
      exact z
end
end Hy
/-! module HyMerged -/
set_option maxHeartbeats 4000000
/-! Comprehensions that make lists; merged. -/
namespace Hy
open PySem PySem.Spec PyProof.Rows L2 Evl Hc Hs
abbrev mr {α : Type} (m : Addr × α) : V := .ref m.1
/-- lists at addresses, told by things -/
def Made {α : Type} (H : Hp) (g : α → List V) (ms : List (Addr × α)) : Prop := ∀ m ∈ ms, H m.1 = some (.lst (g m.2))
theorem take_filter {α : Type} {ns : List α} {i : Nat} {n : α} (p : α → Bool) (h : ns[i]? = some n) : (ns.take (i + 1)).filter p = (ns.take i).filter p ++ (if p n then [n] else []) := by
  rw [List.take_add_one, h, List.filter_append]
  congr 1
  cases hp : p n <;> simp [hp]
section
variable {K : PySem.W.Frag} {σ : L2.St} {H : Hp} {te tl : TE} {t : TT}
/-- an element that is a list: a new one, or one of those that stood in the heap from the beginning -/
def EvN (te : TE) (σ : L2.St) (O : Addr → Prop) (H : Hp) (xs : List V) : Prop := ∀ H1, Ex H H1 → ∀ Q : VK, (∀ p H2, (H1 p = none ∨ O p) → Ex H1 H2 → H2 p = some (.lst xs) → Q (.ref p) H2) → te σ H1 Q
theorem EvN.new {O : Addr → Prop} {xs : List V} (h : EvL te σ H xs) : EvN te σ O H xs := fun H1 e Q q => h H1 e Q fun p H2 np e2 hp => q p H2 (.inl np) e2 hp
theorem EvN.old {O : Addr → Prop} {xs : List V} {p : Addr} (h : Ev te σ H (.ref p)) (o : O p) (hp : H p = some (.lst xs)) : EvN te σ O H xs := fun H1 e Q q => h H1 e Q fun H2 e2 => q p H2 (.inr o) e2 (e2 _ _ (e _ _ hp))
theorem EvN.ite {O : Addr → Prop} {xs : List V} {b : Bool} {ta : TE} (h : EvT t σ H b) (h1 : b = true → EvN ta σ O H xs) (h2 : b = false → EvN te σ O H xs) : EvN (tIf t ta te) σ O H xs := fun H1 e Q q => h H1 e _ fun H2 e2 => by
  cases b with
  | true =>
    show ta σ H2 Q
    exact h1 rfl H2 (e.trans e2) Q fun p H3 o e3 hp => q p H3 (o.imp (fresh_back e2) id) (e2.trans e3) hp
  | false =>
    show te σ H2 Q
    exact h2 rfl H2 (e.trans e2) Q fun p H3 o e3 hp => q p H3 (o.imp (fresh_back e2) id) (e2.trans e3) hp
theorem el_made {α : Type} {a : Addr} {j : Nat} {vs : List Nat} (O : Addr → Prop) (ns : List α) (f : α → V) (p : α → Bool) (g : α → List V) (hO : ∀ b, O b → H b ≠ none) (hl : Ev tl σ H (.ref a)) (hx : SqL K H a (ns.map f)) (hz : ns.length ≤ 40000) (hw : ∀ x, wipe ((wipe σ vs).set j (some x)) vs = wipe σ vs)
    (ht : ∀ x H1, Ex H H1 → x ∈ ns → EvT t ((wipe σ vs).set j (some (f x))) H1 (p x)) (he : ∀ x H1, Ex H H1 → x ∈ ns → p x = true → EvN te ((wipe σ vs).set j (some (f x))) O H1 (g x)) :
    ∀ H1, Ex H H1 → ∀ Q : VK, (∀ (D : Addr) (ms : List (Addr × α)) H2, H1 D = none → Ex H1 H2 → H2 D = some (.lst (ms.map mr)) → ms.map (·.2) = ns.filter p → Made H2 g ms → (∀ m ∈ ms, H m.1 = none ∨ O m.1) → Q (.ref D) H2) → tLc (iList K tl) (gName j) t te vs σ H1 Q := fun H0 e Q q => hl H0 e _ fun H1 e1 => ⟨a, rfl, ⟨ns.map f, ex_l (e.trans e1) hx⟩, fun D hD =>
  lc_list (xs := ns.map f) (fun i H' => Ex H1 H' ∧ ∃ ms : List (Addr × α), H' D = some (.lst (ms.map mr)) ∧ ms.map (·.2) = (ns.take i).filter p ∧ ∀ m ∈ ms, m.1 ≠ D ∧ (H m.1 = none ∨ O m.1) ∧ H' m.1 = some (.lst (g m.2))) ⟨Ex.new hD, [], upd_same, rfl, fun m hm => nomatch hm⟩
    (fun i H' _ z => ex_l ((e.trans e1).trans z.1) hx) (fun i x H' hi z => ⟨hw x, by
      rw [List.getElem?_map] at hi
      obtain ⟨n, hn, rfl⟩ := Option.map_eq_some_iff.mp hi
      obtain ⟨z1, ms, z2, z3, z4⟩ := z
      have hmem := List.mem_of_getElem? hn
      have hil : i < ns.length := (List.getElem?_eq_some_iff.mp hn).1
      have hml : ms.length ≤ i := by
        rw [← List.length_map (f := fun m : Addr × α => m.2), z3]
        exact Nat.le_trans (List.length_filter_le _ _) (by rw [List.length_take]; omega)
      refine ht n H' ((e.trans e1).trans z1) hmem H' (Ex.refl H') _ fun H3 e3 => ?_
      cases hp : p n with
      | false =>
        show Ex H1 H3 ∧ _
        refine ⟨z1.trans e3, ms, e3 _ _ z2, ?_, fun m hm => ⟨(z4 m hm).1, (z4 m hm).2.1, e3 _ _ (z4 m hm).2.2⟩⟩
        rw [take_filter p hn, hp, z3]
        simp
      | true =>
        refine he n H3 (((e.trans e1).trans z1).trans e3) hmem hp H3 (Ex.refl H3) _ fun b H4 hb e4 h4 => ?_
        have bD : b ≠ D := by
          rcases hb with hb | hb
          · intro zz
            rw [zz, e3 _ _ z2] at hb
            cases hb
          · intro zz
            have hb := hO b hb
            rw [zz] at hb
            cases q0 : H D with
            | none => exact hb q0
            | some o =>
              rw [(e.trans e1) D o q0] at hD
              cases hD
        have hb' : H b = none ∨ O b := hb.imp (fresh_back (((e.trans e1).trans z1).trans e3)) id
        have z2' := e4 _ _ (e3 _ _ z2)
        refine ⟨ms.map mr, z2', sz_lt (by rw [List.length_map]; omega), ((z1.trans e3).trans e4).mut hD, ms ++ [(b, n)], ?_, ?_, fun m hm => ?_⟩
        · rw [upd_same, List.map_append]
          rfl
        · rw [take_filter p hn, hp, List.map_append, z3]
          rfl
        · rcases List.mem_append.mp hm with hm | hm
          · refine ⟨(z4 m hm).1, (z4 m hm).2.1, ?_⟩
            rw [upd_ne (z4 m hm).1]
            exact e4 _ _ (e3 _ _ (z4 m hm).2.2)
          · rw [List.mem_singleton] at hm
            subst hm
            refine ⟨bD, hb', ?_⟩
            rw [upd_ne bD]
            exact h4⟩)
    (fun H' z => by
      obtain ⟨z1, ms, z2, z3, z4⟩ := z
      rw [List.length_map, List.take_length] at z3
      exact q D ms H' (fresh_back e1 hD) (e1.trans z1) z2 z3 (fun m hm => (z4 m hm).2.2) fun m hm => (z4 m hm).2.1)⟩
end
theorem q_asgX {te : TE} {tz : TS} {D : Ends} {σ : L2.St} {H : Hp} {i : Nat} (h : te σ H fun v H1 => tz D (σ.set i (some v)) H1) : tSeq (tAsg te (gName i)) tz D σ H := h
theorem s_asgX {te : TE} {D : Ends} {σ : L2.St} {H : Hp} {i : Nat} (h : te σ H fun v H1 => D.nx (σ.set i (some v)) H1) : tAsg te (gName i) D σ H := h
theorem ne_of_none' {H H' : Hp} {p q : Addr} {o u : HO} (h1 : H' p = some o) (h2 : H' q = some u) (h3 : H q = none) (h4 : H p = some o) : q ≠ p := fun z => by
  rw [z, h4] at h3
  cases h3
theorem full_map {ns : List Rw} : (ns.filter fun n => !n.2.isEmpty).map (·.2) = full (ns.map (·.2)) := by
  unfold full
  rw [List.filter_map]
  rfl
def spMerged : (K : PySem.W.Frag) → Sp := fun K vs H Q _ => ∃ (a : Addr) (ns : List Rw), vs = [.ref a] ∧ SqL K H a (ns.map rf) ∧ RowsOk H ns ∧ ns.length ≤ 1000 ∧ total (ns.map (·.2)) ≤ 1000 ∧
  (match merge (ns.map (·.2)) with
    | none => ∀ H', Ex H H' → Q .non H'
    | some m => ∀ p H', H p = none → Ex H H' → H' p = some (.lst (m.map sv)) → Q (.ref p) H')
abbrev nMerged : List Str := ["rows", "found", "rest", "taken", "cut", "row"]
theorem scMerged : FnScope nMerged ["rows"] (defScope sMerged) := ⟨rfl, rfl, rfl, by decide +kernel, rfl, by decide +kernel, by decide +kernel⟩
theorem ev_isN {σ : L2.St} {H : Hp} {te : TE} {o : Option Nm} (h : Ev te σ H (optN o)) : Ev (tOp (fun x y H Q => y = .non ∧ Q (.bl (decide (x = .non))) H) te (tC .non)) σ H (.bl o.isNone) := Evl.ev_is (ev_op h ev_c fun H1 e Q q => ⟨rfl, q H1 (Ex.refl H1)⟩) (by cases o <;> rfl)
/-- between the turns of merged -/
def MW (H : Hp) (a pf : Addr) (rs : Rows Nm) (m : Nat) (σ' : L2.St) (H' : Hp) : Prop := ∃ (fnd : List Nm) (pr : Addr) (ms : List Rw) (v3 v4 : Option V), σ' = [some (.ref a), some (.ref pf), some (.ref pr), v3, v4, none] ∧ Ex H H' ∧ H' pf = some (.lst (fnd.map sv)) ∧ H' pr = some (.lst (ms.map rf)) ∧ pr ≠ pf ∧ (∀ n ∈ ms, n.1 ≠ pf) ∧ RowsOk H' ms ∧
      ms.length ≤ 1000 ∧ full (ms.map (·.2)) = ms.map (·.2) ∧ m = total (ms.map (·.2)) ∧ fnd.length + m ≤ 1000 ∧ (merge (ms.map (·.2))).map (fnd ++ ·) = merge rs
theorem sp_next {K : PySem.W.Frag} {H : Hp} {pr : Addr} {ms : List Rw} (h1 : H pr = some (.lst (ms.map rf))) (h2 : RowsOk H ms) (h3 : ms.length ≤ 1000) (h4 : full (ms.map (·.2)) = ms.map (·.2)) : SpV (spNext K) ([.ref pr] ++ []) H (optN (nextOf (ms.map (·.2)))) := fun H1 e Q q E =>
  ⟨pr, ms, rfl, sq_of (e _ _ h1), h2.ex e, fun n hn => (mem_full.mp (by rw [h4]; exact List.mem_map.mpr ⟨n, hn, rfl⟩)).2, h3, fun H' ex => q H' ex⟩
section
variable {P : Program} {w : World} {K : PySem.W.Frag} {mg : Str → Option Value} {base : Heap}
theorem ok_merged {f : Addr} {fd : FuncData} {k : Nat} (F : Fun K "merged" "merged" sMerged f fd) (T : LibP mg) (rN : Rd P w K mg base "next_merged" k ["rows"] (spNext K)) : FnOk P w K mg base CX0 (k + 1) f fd ["rows"] (spMerged K) := by
  refine F.ok scMerged (fun vs H Q E h => ?_) (fun cdv A outer s H vs Q E hr h => ?_)
  · obtain ⟨a, ns, rfl, _⟩ := h
    rfl
  · obtain ⟨a, ns, rfl, ha, hn, hl, hT, q⟩ := h
    refine ⟨_, pss_cons (ps_set (i := 1) scMerged.nd rfl (.inl rfl) (pe_lst pa_nil))
      (pss_cons (ps_setLc (i := 2) (own := [("row", 5)]) (g := gName 5) (tt := tTru K (tVar 5)) rfl scMerged.nd rfl rfl (sw_true rfl rfl rfl (by decide +kernel)) (pi_list (pv 0)) (blkOk_by (N := nMerged) (sc := defScope sMerged) (by decide +kernel)) (fun _ _ _ _ _ => pg_name (i := 5) scMerged.nd rfl (.inl rfl)) (fun _ _ _ _ _ => pts_one (show PT _ _ (tTru K (tVar 5)) from pt_truth (pv 5) (by intro _; rfl))) (fun _ _ _ _ _ => pv 5))
      (pss_cons (ps_while PassesOwn.never (pt_truth (pv 2) (by intro _; rfl))
        (pss_cons (ps_set (i := 3) scMerged.nd rfl (.inr rfl) (pe_rd rN hr (Nat.le_refl _) (by rfl) (pa_cons (pv 2) pa_nil)))
        (pss_cons (ps_if (pt_cmpR op_isN (pv 3) pe_non (nomark _)) (pss_one (ps_ret pe_non)) pss_nil)
        (pss_cons (ps_expr (pe_bm PySem.F.plainAttrs_list PySem.F.slot_list_append PySem.F.type_list_append mt_append (pv 1) (pa_cons (pv 3) pa_nil)))
        (pss_cons (ps_setLc (i := 4) (own := [("row", 5)]) (g := gName 5) (tt := tYes) rfl scMerged.nd rfl rfl (sw_true rfl rfl rfl (by decide +kernel)) (pi_list (pv 2)) (blkOk_by (N := nMerged) (sc := defScope sMerged) (by decide +kernel)) (fun _ _ _ _ _ => pg_name (i := 5) scMerged.nd rfl (.inl rfl)) (fun _ _ _ _ _ => pts_nil)
          (fun _ _ _ _ _ => pe_ifExp (pt_cmpR op_eq (pe_ix (show IxR _ (rIxL K) from ix_list) (pv 5) pe_int (fun _ _ => rfl)) (pv 3) (nomark _)) (pe_slice (show SlR _ (rSlL K) from sl_list) (pv 5) (po_some pe_int) po_none) (pv 5)))
        (pss_one (ps_setLc (i := 2) (own := [("row", 5)]) (g := gName 5) (tt := tTru K (tVar 5)) rfl scMerged.nd rfl rfl (sw_true rfl rfl rfl (by decide +kernel)) (pi_list (pv 4)) (blkOk_by (N := nMerged) (sc := defScope sMerged) (by decide +kernel)) (fun _ _ _ _ _ => pg_name (i := 5) scMerged.nd rfl (.inl rfl)) (fun _ _ _ _ _ => pts_one (show PT _ _ (tTru K (tVar 5)) from pt_truth (pv 5) (by intro _; rfl))) (fun _ _ _ _ _ => pv 5))))))))
      (pss_one (ps_ret (pv 1))))), ?_⟩
    refine q_asgL (xs := []) (el_lst ea_nil (Nat.zero_le _)) fun pf H1 nf f1 hf => ?_
    have filt : ∀ (H2 : Hp) (v1 v2 v3 v4 : Option V) (b : Nat) (pa : Addr) (ms : List Rw), b = 0 ∨ b = 4 → [some (V.ref a), v1, v2, v3, v4, none][b]? = some (some (.ref pa)) → H2 pa = some (.lst (ms.map rf)) ∨ SqL K H2 pa (ms.map rf) → RowsOk H2 ms → ms.length ≤ 1000 →
        EvL (tLc (iList K (tVar b)) (gName 5) (tTru K (tVar 5)) (tVar 5) [5]) [some (.ref a), v1, v2, v3, v4, none] H2 ((ms.filter fun n => !n.2.isEmpty).map rf) := fun H2 v1 v2 v3 v4 b pa ms hb hv hp hr2 hl2 => by
      refine el_map (K := K) (σ := [some (.ref a), v1, v2, v3, v4, none]) (j := 5) (vs := [5]) ms rf (fun n => !n.2.isEmpty) rf (ev_var hv) (hp.elim sq_of id) (Nat.le_trans hl2 (by decide)) wipe1 (fun n H3 e3 hm => ?_) (fun n H3 e3 hm _ => ev_var rfl)
      have z := et_truth (K := K) (σ := [some (.ref a), v1, v2, v3, v4, some (.ref n.1)]) (te := tVar 5) (H := H3) (xs := n.2.map sv) (ev_var rfl) (sq_of (e3 _ _ (hr2 n hm)))
      rw [List.isEmpty_map] at z
      exact z
    refine q_asgL (filt H1 _ _ _ _ 0 a ns (.inl rfl) rfl (.inr (ex_l f1 ha)) (hn.ex f1) hl) fun pr H2 npr f2 hr2 => ?_
    generalize hrs : ns.map (·.2) = rs at q hT
    have hpf : ∀ n ∈ ns, n.1 ≠ pf := fun n hm zz => by
      have z := hn n hm
      rw [zz, nf] at z
      cases z
    refine q_while (MW H a pf rs) (total (full rs)) ⟨[], pr, ns.filter fun n => !n.2.isEmpty, none, none, rfl, f1.trans f2, f2 _ _ hf, hr2, ne_of_none' (f2 _ _ hf) hr2 npr hf, fun n hm => hpf n (List.mem_filter.mp hm).1, fun n hm => f2 _ _ (hn.ex f1 n (List.mem_filter.mp hm).1), Nat.le_trans (List.length_filter_le _ _) hl, by rw [full_map, full_full], by rw [full_map, hrs], by rw [total_full]; simpa using hT, by rw [full_map, hrs, merge_full]; cases merge rs <;> rfl⟩ (fun m σ' H' hw => ?_)
    obtain ⟨fnd, pr, ms, v3, v4, rfl, e, hpf', hpr', hne, hms, hro, hml, hfl, rfl, hb, hmg⟩ := hw
    refine ⟨!(ms.map rf).isEmpty, et_truth (ev_var rfl) (sq_of hpr'), fun hb1 H3 f3 => ?_, fun hb1 H3 f3 => ?_⟩
    · have h0 : ms.map (·.2) ≠ [] := by
        intro z
        rw [List.map_eq_nil_iff] at z
        rw [z] at hb1
        cases hb1
      refine ⟨fun σ2 H2 => ∃ m', m' < total (ms.map (·.2)) ∧ MW H a pf rs m' σ2 H2, fun _ _ h => h, ?_⟩
      refine q_asg (v := optN (nextOf (ms.map (·.2)))) (ev_call (vs := [.ref pr]) (ea_cons (ev_var rfl) ea_nil) (sp_next (f3 _ _ hpr') (hro.ex f3) hml hfl)) fun H4 f4 => ?_
      refine q_when (et_test (ev_isN (ev_var rfl))) (fun hbN H5 f5 => ?_) (fun hbN H5 f5 => ?_)
      · have hnx : nextOf (ms.map (·.2)) = none := by
          cases q2 : nextOf (ms.map (·.2)) with
          | none => rfl
          | some t => rw [q2] at hbN; cases hbN
        have hm2 : merge rs = none := by
          rw [← hmg, merge_step hfl h0, hnx]
          rfl
        rw [hm2] at q
        exact s_ret ev_c fun H6 f6 => q H6 ((((e.trans f3).trans f4).trans f5).trans f6)
      · obtain ⟨t, hnx⟩ : ∃ t, nextOf (ms.map (·.2)) = some t := by
          cases q2 : nextOf (ms.map (·.2)) with
          | none => rw [q2] at hbN; cases hbN
          | some t => exact ⟨t, rfl⟩
        rw [hnx]
        have ec := total_cut (next_mem hnx).1
        have e5 := (f3.trans f4).trans f5
        refine q_app (l := pf) (xs := fnd.map sv) (e5 _ _ hpf') (ev_var rfl) (v := sv t) (ev_var rfl) (by rw [List.length_map]; omega) fun H6 f6 => ?_
        have e6 := e5.trans f6
        have hpf6 : (upd H6 pf (.lst (fnd.map sv ++ [sv t]))) pf = some (.lst ((fnd ++ [t]).map sv)) := by
          rw [upd_same, List.map_append]
          rfl
        have hpr6 : (upd H6 pf (.lst (fnd.map sv ++ [sv t]))) pr = some (.lst (ms.map rf)) := by
          rw [upd_ne hne]
          exact e6 _ _ hpr'
        have hro6 : RowsOk (upd H6 pf (.lst (fnd.map sv ++ [sv t]))) ms := fun n hm => by
          rw [upd_ne (hms n hm)]
          exact e6 _ _ (hro n hm)
        have eH6 : Ex H (upd H6 pf (.lst (fnd.map sv ++ [sv t]))) := (e.trans e6).mut nf
        generalize upd H6 pf (.lst (fnd.map sv ++ [sv t])) = H7 at hpf6 hpr6 hro6 eH6 ⊢
        refine q_asgX ?_
        refine el_made (K := K) (j := 5) (vs := [5]) (t := tYes) (σ := [some (.ref a), some (.ref pf), some (.ref pr), some (sv t), v4, none]) (tl := tVar 2) (te := tIf (tTest (tOp rEq (tOp (rIxL K) (tVar 5) (tC (.int 0))) (tVar 3))) (tSl (rSlL K) (tVar 5) (tPart (tC (.int 1))) tNoPart) (tVar 5)) (fun b => ∃ n ∈ ms, n.1 = b) ms rf (fun _ => true) (fun n => (cutRow t n.2).map sv) (fun b ⟨n, hm, hb⟩ => by rw [← hb, hro6 n hm]; exact fun z => nomatch z) (ev_var rfl) (sq_of hpr6) (Nat.le_trans hml (by decide)) wipe1 (fun _ _ _ _ => et_yes) (fun n H8 e8 hm _ => ?_) H7 (Ex.refl H7) _ fun Dc ms2 H8 n8 e8 h8 hm8 made8 old8 => ?_
        · have hn8 := e8 _ _ (hro6 n hm)
          obtain ⟨x0, r0, hxr⟩ : ∃ x0 r0, n.2 = x0 :: r0 := by
            cases q2 : n.2 with
            | nil => exact absurd q2 (mem_full.mp (by rw [hfl]; exact List.mem_map.mpr ⟨n, hm, rfl⟩)).2
            | cons x r => exact ⟨x, r, rfl⟩
          rw [hxr] at hn8 ⊢
          refine EvN.ite (et_test (ev_eqS (a := x0) (b := t) (ev_head (ev_var rfl) (sq_of hn8)) (ev_var rfl))) (fun hb2 => ?_) (fun hb2 => ?_)
          · have : cutRow t (x0 :: r0) = r0 := if_pos (by rw [of_decide_eq_true hb2]; rfl)
            rw [this]
            exact EvN.new (el_tail (l := x0 :: r0) (ev_var rfl) (sq_of hn8))
          · have : cutRow t (x0 :: r0) = x0 :: r0 := if_neg (by
              have := of_decide_eq_false hb2
              simpa using this)
            rw [this]
            exact EvN.old (ev_var rfl) ⟨n, hm, rfl⟩ hn8
        · rw [List.filter_eq_self.mpr (fun _ _ => rfl)] at hm8
          let ms3 : List Rw := ms2.map fun m => (m.1, cutRow t m.2.2)
          have h3 : ms2.map mr = ms3.map rf := by
            show _ = (ms2.map _).map rf
            rw [List.map_map]
            rfl
          have h3r : ms3.map (·.2) = (ms.map (·.2)).map (cutRow t) := by
            show (ms2.map _).map _ = _
            rw [← hm8, List.map_map, List.map_map, List.map_map]
            rfl
          have ro3 : RowsOk H8 ms3 := fun n hm => by
            obtain ⟨m, hm1, rfl⟩ := List.mem_map.mp hm
            exact made8 m hm1
          have len3 : ms3.length ≤ 1000 := by
            rw [← List.length_map (f := fun n : Rw => n.2), h3r, List.length_map, List.length_map]
            exact hml
          have pf3 : ∀ n ∈ ms3, n.1 ≠ pf := fun n hm zz => by
            obtain ⟨m, hm1, rfl⟩ := List.mem_map.mp hm
            rcases old8 m hm1 with h | ⟨n', hn', h⟩
            · rw [show m.1 = pf from zz, hpf6] at h
              cases h
            · exact hms n' hn' (h.trans zz)
          rw [h3] at h8
          have hcut : ((ms3.filter fun n => !n.2.isEmpty).map (·.2)) = cut t (ms.map (·.2)) := by
            rw [full_map, h3r]
            rfl
          show tAsg _ _ _ [some (.ref a), some (.ref pf), some (.ref pr), some (sv t), some (.ref Dc), none] H8
          refine s_asgL (filt H8 _ _ _ _ 4 Dc ms3 (.inr rfl) rfl (.inl h8) ro3 len3) fun pr2 H9 n9 f9 h9 => ?_
          refine ⟨total (cut t (ms.map (·.2))), ec, fnd ++ [t], pr2, ms3.filter (fun n => !n.2.isEmpty), some (sv t), some (.ref Dc), rfl, (eH6.trans e8).trans f9, f9 _ _ (e8 _ _ hpf6), h9, ne_of_none' (f9 _ _ (e8 _ _ hpf6)) h9 n9 (e8 _ _ hpf6), fun n hm => pf3 n (List.mem_filter.mp hm).1, fun n hm => f9 _ _ (ro3 n (List.mem_filter.mp hm).1), Nat.le_trans (List.length_filter_le _ _) len3, by rw [hcut, full_cut], by rw [hcut], ?_, ?_⟩
          · rw [List.length_append, List.length_singleton]
            omega
          · rw [hcut, ← hmg, merge_step hfl h0, hnx]
            show Option.map _ (merge (cut t (ms.map (·.2)))) = Option.map _ (Option.map _ (merge (cut t (ms.map (·.2)))))
            cases merge (cut t (ms.map (·.2))) with
            | none => rfl
            | some r => simp
    · have h0 : ms = [] := by
        cases ms with
        | nil => rfl
        | cons n r => cases hb1
      subst h0
      have hm2 : merge rs = some fnd := by
        rw [← hmg, merge_nil (by rfl)]
        simp
      rw [hm2] at q
      exact s_ret (ev_var rfl) fun H4 f4 => q pf H4 nf ((e.trans f3).trans f4) (f4 _ _ (f3 _ _ hpf'))
end
end Hy
/-! module HyRead -/
set_option maxHeartbeats 4000000
/-! read_class_line for class lines. -/
namespace Hy
open PySem PySem.Spec PyProof.Rows L2 Evl Hc Hs
theorem q_asgG {te : TE} {tz : TS} {g : TG} {D : Ends} {σ : L2.St} {H : Hp} (h : te σ H fun v H1 => g v σ H1 fun σ2 H2 => tz D σ2 H2) : tSeq (tAsg te g) tz D σ H := h
def spRead : Sp := fun vs H Q _ => ∃ (n : Nm) (bs : List Nm), vs = [sv (cline n bs)] ∧ GoodNm n ∧ (∀ b ∈ bs, GoodNm b) ∧ bs.length ≤ 3 ∧ ∀ t l H', H t = none → H l = none → Ex H H' → H' t = some (.tup [sv n, .ref l]) → H' l = some (.lst (bs.map sv)) → Q (.ref t) H'
abbrev nRead : List Str := ["line", "name", "bracket", "rest", "bases"]
theorem scRead : FnScope nRead ["line"] (defScope sReadClass) := ⟨rfl, rfl, rfl, by decide +kernel, rfl, by decide +kernel, by decide +kernel⟩
section
variable {P : Program} {w : World} {K : PySem.W.Frag} {mg : Str → Option Value} {base : Heap}
theorem ok_read {f : Addr} {fd : FuncData} {k : Nat} (F : Fun K "read_class_line" "read_class_line" sReadClass f fd) (T : LibP mg) (rC : Rd P w K mg base "is_class_name" k ["text"] spClass) : FnOk P w K mg base CX0 (k + 1) f fd ["line"] spRead := by
  refine F.ok scRead (fun vs H Q E h => ?_) (fun cdv A outer s H vs Q E hr h => ?_)
  · obtain ⟨n, bs, rfl, _⟩ := h
    rfl
  · obtain ⟨n, bs, rfl, gn, gb, hb3, q⟩ := h
    obtain ⟨tB, hB⟩ := T.mB
    obtain ⟨hl60, hl8⟩ := cline_len gn gb hb3
    have hcap : (cline n bs).length ≤ cap := Nat.le_trans hl60 (by decide)
    refine ⟨_, pss_cons (ps_if (PW.pt (pw_or (pt_not (pt_val (pe_m1 PySem.F.slot_str_startswith PySem.F.type_str_startswith mt_startswith (pv 0) pe_str))) (pw_or1 (pt_not (pt_val (pe_m1 PySem.F.slot_str_endswith PySem.F.type_str_endswith mt_endswith (pv 0) pe_str)))))) (pss_one (ps_ret pe_non)) pss_nil)
      (pss_cons (ps_asg (pe_partition (pe_slice sl_str (pv 0) (po_some pe_int) (po_some (pe_un un_neg pe_int))) pe_str) (pg_tup (by rfl) (pgs_cons (pg_name (i := 1) scRead.nd rfl (.inl rfl)) (pgs_cons (pg_name (i := 2) scRead.nd rfl (.inl rfl)) (pgs_cons (pg_name (i := 3) scRead.nd rfl (.inl rfl)) pgs_nil)))))
      (pss_cons (ps_if (pt_not (pt_val (pe_rd rC hr (Nat.le_refl _) (by rfl) (pa_cons (pv 1) pa_nil)))) (pss_one (ps_ret pe_non)) pss_nil)
      (pss_cons (ps_if (pt_cmpR op_eq (pv 2) pe_str (nomark _)) (pss_one (ps_ret (pe_tup (pa_cons (pv 1) (pa_cons (pe_lst pa_nil) pa_nil))))) pss_nil)
      (pss_cons (ps_set (i := 4) scRead.nd rfl (.inl rfl) (pe_split (pe_slice sl_str (pv 3) po_none (po_some (pe_un un_neg pe_int))) pe_str))
      (pss_cons (ps_if (PW.pt (pw_or (pt_not (pt_val (pe_m1 PySem.F.slot_str_endswith PySem.F.type_str_endswith mt_endswith (pv 3) pe_str))) (pw_or1 (pt_cmpR op_gt (pe_callB call_len_seq (by rfl) T.len PySem.boot_len (pa_cons (pv 4) pa_nil)) (pe_glob (v := .int 3) (by rfl) hB ⟨_, rfl⟩) (nomark _))))) (pss_one (ps_ret pe_non)) pss_nil)
      (pss_one (ps_ret (pe_tup (pa_cons (pv 1) (pa_cons (pv 4) pa_nil)))))))))), ?_⟩
    refine q_when (b := false) (et_is (et_or (et_not (et_B (ev_startsS (M := cls6) (ev_var rfl) ev_c))) fun _ => et_not (et_B (ev_ends (c := 58) (ev_var rfl) ev_c))) (by rw [cline_starts, cline_last]; rfl)) (fun z => nomatch z) fun _ H1 f1 => ?_
    have hpart : ∃ b c, Txt.partition (S (n ++ bpart bs)) (S [40]) = (S n, S b, S c) ∧ (bs = [] → b = []) ∧ (bs ≠ [] → b = [40] ∧ c = TL.joinL [44, 32] bs ++ [41]) := by
      by_cases h : bs = []
      · subst h
        refine ⟨[], [], ?_, fun _ => rfl, fun z => absurd rfl z⟩
        show Txt.partition (S (n ++ [])) (S [40]) = _
        rw [List.append_nil, partition_no (gn.no (by decide) (by decide))]
      · refine ⟨[40], TL.joinL [44, 32] bs ++ [41], ?_, fun z => absurd z h, fun _ => ⟨rfl, rfl⟩⟩
        have e : bpart bs = 40 :: (TL.joinL [44, 32] bs ++ [41]) := if_neg h
        rw [e, partition_S (gn.no (by decide) (by decide))]
    obtain ⟨bk, rs, hp, hp0, hp1⟩ := hpart
    have hcl : (n ++ bpart bs).length ≤ cap := by
      have : (n ++ bpart bs).length ≤ (cline n bs).length := by
        unfold cline
        simp only [List.length_append]
        omega
      exact Nat.le_trans this hcap
    have sl : Ev (tSl rSlS (tVar 0) (tPart (tC (.int 6))) (tPart (tUn (rU fun i => .int (-i)) (tC (.int 1))))) [some (sv (cline n bs)), none, none, none, none] H1 (sv (n ++ bpart bs)) := Evl.ev_is (ev_slS (lo := some 6) (hi := some (-1)) (ev_var rfl) (eo_some ev_c) (eo_some (ev_un ev_c ru_neg)) (by rw [S_len]; exact cap_line hcap)) (by rw [cut_6, cline_cut])
    refine q_asgG ?_
    refine eu_part (L := n ++ bpart bs) (M := [40]) hcl (by decide) hp sl ev_c H1 (Ex.refl H1) _ fun pt H2 npt f2 hpt => ?_
    refine ⟨pt, _, rfl, st_of hpt, rfl, _, _, rfl, _, _, rfl, _, _, rfl, rfl, ?_⟩
    show tSeq _ _ _ [some (sv (cline n bs)), some (sv n), some (sv bk), some (sv rs), none] H2
    refine q_when (b := false) (et_is (et_not (et_B (ev_call (ea_cons (ev_var rfl) ea_nil) (sp_class (L := n) (Nat.le_trans gn.len.2 (by decide)))))) (by rw [gn.ok]; rfl)) (fun z => nomatch z) fun _ H3 f3 => ?_
    refine q_when (et_test (ev_eqS (a := bk) (b := []) (ev_var rfl) ev_c)) (fun hb H4 f4 => ?_) (fun hb H4 f4 => ?_)
    · have h0 : bs = [] := by
        by_cases h : bs = []
        · exact h
        · rw [(hp1 h).1] at hb
          cases hb
      subst h0
      refine ⟨_, rfl, Nat.zero_le _, fun l nl => ⟨(show 2 ≤ sizeLine by decide), fun t nt => ?_⟩⟩
      have e4 := ((f1.trans f2).trans f3).trans f4
      have nt4 : H4 t = none := fresh_back (Ex.new nl) nt
      refine q t l _ (fresh_back e4 nt4) (fresh_back e4 nl) ((e4.trans (Ex.new nl)).trans (Ex.new nt)) upd_same ?_
      have ne : l ≠ t := fun z => by
        rw [← z, upd_same] at nt
        cases nt
      rw [upd_ne ne, upd_same]
      rfl
    · have h0 : bs ≠ [] := fun z => by
        rw [hp0 z] at hb
        cases hb
      obtain ⟨rfl, rfl⟩ := hp1 h0
      have hjl : (TL.joinL [44, 32] bs ++ [41]).length ≤ cap := by
        have : (TL.joinL [44, 32] bs ++ [41]).length ≤ (n ++ bpart bs).length := by
          have e : bpart bs = 40 :: (TL.joinL [44, 32] bs ++ [41]) := if_neg h0
          rw [e]
          simp only [List.length_append, List.length_cons]
          omega
        exact Nat.le_trans this hcl
      refine q_asgL (xs := bs.map sv) (el_split (s := 44) (T := [32]) (L := TL.joinL [44, 32] bs) (by decide) (Nat.le_trans (by rw [List.length_append]; exact Nat.le_add_right _ _) hjl) rfl h0 (fun x hx => (gb x hx).no (by decide) (by decide)) (Evl.ev_is (ev_slS (lo := none) (hi := some (-1)) (ev_var rfl) eo_none (eo_some (ev_un ev_c ru_neg)) (by rw [S_len]; exact cap_line hjl)) (by rw [cut_last', rest_cut])) ev_c) fun l H5 nl f5 hl => ?_
      refine q_when (b := false) (et_is (et_or (et_not (et_B (ev_ends (c := 41) (L := TL.joinL [44, 32] bs ++ [41]) (ev_var rfl) ev_c))) fun _ => et_test (ev_op (ev_len (ev_var rfl) (sq_of hl)) ev_c rv_I0)) (by
        rw [List.getLast?_append, List.length_map]
        have : decide ((bs.length : Int) > 3) = false := decide_eq_false (by omega)
        rw [this]
        rfl)) (fun z => nomatch z) fun _ H6 f6 => ?_
      refine s_retU (eu_tup (vs := [sv n, .ref l]) (ea_cons (ev_var rfl) (ea_cons (ev_var rfl) ea_nil)) (show 2 ≤ 100000 by decide)) fun t H7 nt f7 ht => ?_
      have e4 := ((f1.trans f2).trans f3).trans f4
      exact q t l H7 (fresh_back ((e4.trans f5).trans f6) nt) (fresh_back e4 nl) (((e4.trans f5).trans f6).trans f7) ht (f7 _ _ (f6 _ _ hl))
end
end Hy
/-! module HyObj -/
set_option maxHeartbeats 4000000
/-! Dicts with names as keys, fields, methods; list.count; ClassText and Reader made. -/
namespace Hy
open PySem PySem.Spec PyProof.Rows L2 Evl Hc Hs
section
variable {X : Cx}
/-- l.count(x), flat things -/
def rCntF (K : PySem.W.Frag) : V → List V → Hp → VK → Prop := fun x xs H Q => ∃ (a : Addr) (ys : List V) (y : V), x = .ref a ∧ xs = [y] ∧ SqL K H a ys ∧ flatV y = true ∧ ys.all flatV = true ∧ Q (.int ((ys.countP fun z => eqV z y : Nat) : Int)) H
theorem mt_countF : MtR X "list.count" (rCntF X.K) := by
  intro pins s σ H x xs v us Q I rx rxs h
  obtain ⟨a, ys, y, rfl, rfl, hs, fy, fys, q⟩ := h
  cases rx
  cases rxs with
  | cons ry rt =>
    rename_i uy ut
    cases rt
    obtain ⟨its, rv, ⟨⟨cls, dd, data, sl⟩, n, ho, hc, hdn, hd⟩, hlen⟩ := I.list hs
    simp only at hc hd
    subst hc hd
    refine call_meets PySem.F.slot_list_count ⟨_, ho, rfl⟩ PySem.F.entry_list_count (PySem.F.args_list_count_2 _ _) (SeqAt.list_countAt a its.toArray n dd sl uy (eqU y)) ⟨ho, fun u' hu' => mem_eqAt ry fy rv fys u' (by simpa using hu'), ?_⟩
    have ec : its.toArray.toList.countP (eqU y) = ys.countP fun z => eqV z y := by
      clear hs q hlen ho hdn
      show its.countP (eqU y) = _
      induction rv with
      | nil => rfl
      | cons r rv ih =>
        rename_i z u zs us
        rw [List.all_cons, Bool.and_eq_true] at fys
        rw [List.countP_cons, List.countP_cons, ih fys.2, eqU_of r fys.1]
    refine ⟨.int ((ys.countP fun z => eqV z y : Nat) : Int), H, I.tok _, ⟨s.toks, ?_⟩, q⟩
    show Value.int ((its.toArray.toList.countP (eqU y) : Nat) : Int) s.toks = Value.int ((ys.countP fun z => eqV z y : Nat) : Int) s.toks
    rw [ec]
end
/-! ### dicts with names as keys -/
abbrev kN (n : Nm) : Key := Sum.inr (S n)
section
variable {K : PySem.W.Frag} {σ : L2.St} {H : Hp} {td ty tv te : TE} {d : Addr} {kvs : List (Key × V)} {n : Nm}
theorem ev_din (h1 : Ev ty σ H (sv n)) (h2 : Ev td σ H (.ref d)) (hd : H d = some (.dK kvs)) : Ev (tDIn ty td) σ H (.bl (valV kvs (kN n)).isSome) := fun H1 e Q q =>
  h1 H1 e _ fun H2 e2 => h2 H2 (e.trans e2) _ fun H3 e3 => ⟨d, _, rfl, DGet.k (k := kN n) (((e.trans e2).trans e3) _ _ hd), q H3 (e2.trans e3)⟩
theorem ev_dget {v : V} (h1 : Ev td σ H (.ref d)) (h2 : Ev ty σ H (sv n)) (hd : H d = some (.dK kvs)) (hv : valV kvs (kN n) = some v) : Ev (tDGet td ty) σ H v := fun H1 e Q q =>
  h1 H1 e _ fun H2 e2 => h2 H2 (e.trans e2) _ fun H3 e3 => ⟨d, v, rfl, hv ▸ DGet.k (k := kN n) (((e.trans e2).trans e3) _ _ hd), q H3 (e2.trans e3)⟩
theorem ev_lenD (h : Ev td σ H (.ref d)) (hd : H d = some (.dK kvs)) : Ev (tCB (fun (xs : List V) (H : Hp) (Q : VK) => ∃ (d : Addr) (kvs : List (Key × V)), xs = [.ref d] ∧ H d = some (.dK kvs) ∧ Q (.int (kvs.length : Int)) H) (tCons td tNil)) σ H (.int (kvs.length : Int)) := fun H1 e Q q =>
  h H1 e _ fun H2 e2 => ⟨d, kvs, rfl, (e.trans e2) _ _ hd, q H2 e2⟩
theorem ev_fld {C a dx : Addr} {fs : List (Str × V)} {f : Str} {v : V} (h : Ev te σ H (.ref a)) (ha : H a = some (.ins C dx fs)) (c : Cls K C) (n : NoAttr K C f) (hl : fs.lookup f = some v) : Ev (tFld K te f) σ H v := fun H1 e Q q =>
  h H1 e _ fun H2 e2 => ⟨a, C, dx, fs, v, rfl, e2 _ _ (e _ _ ha), c, n, hl, q H2 e2⟩
/-- o.f = e, then the rest -/
theorem q_fldV {D : Ends} {tz : TS} {ta : TE} {f : Str} {C a dx : Addr} {fs : List (Str × V)} {v : V} (hv : Ev tv σ H v) (ho : Ev ta σ H (.ref a)) (ha : H a = some (.ins C dx fs)) (c : Cls K C) (n : NoAttr K C f) (hl : fs.length < 1000)
    (k : ∀ H1, Ex H H1 → tz D σ (upd H1 a (.ins C dx (putF f v fs)))) : tSeq (sFld K ta tv f) tz D σ H :=
  hv H (Ex.refl H) _ fun H1 e1 => ho H1 e1 _ fun H2 e2 => ⟨a, C, dx, fs, rfl, e2 _ _ (e1 _ _ ha), c, n, hl, k H2 (e1.trans e2)⟩
theorem s_fldV {D : Ends} {ta : TE} {f : Str} {C a dx : Addr} {fs : List (Str × V)} {v : V} (hv : Ev tv σ H v) (ho : Ev ta σ H (.ref a)) (ha : H a = some (.ins C dx fs)) (c : Cls K C) (n : NoAttr K C f) (hl : fs.length < 1000)
    (k : ∀ H1, Ex H H1 → D.nx σ (upd H1 a (.ins C dx (putF f v fs)))) : sFld K ta tv f D σ H := q_fldV (tz := tNext) hv ho ha c n hl k
/-- o.f = {} -/
theorem q_fldD {D : Ends} {tz : TS} {ta : TE} {f : Str} {C a dx : Addr} {fs : List (Str × V)} (ho : ∀ H1, Ex H H1 → Ev ta σ H1 (.ref a)) (ha : H a = some (.ins C dx fs)) (c : Cls K C) (n : NoAttr K C f) (hl : fs.length < 1000)
    (k : ∀ p H1, H p = none → Ex H H1 → H1 p = some (.dK []) → tz D σ (upd H1 a (.ins C dx (putF f (.ref p) fs)))) : tSeq (sFld K ta tDNewK f) tz D σ H := fun p np =>
  ho (upd H p (.dK [])) (Ex.new np) _ (Ex.refl _) _ fun H2 e2 => ⟨a, C, dx, fs, rfl, e2 _ _ ((Ex.new np) _ _ ha), c, n, hl, k p H2 np ((Ex.new np).trans e2) (e2 _ _ upd_same)⟩
theorem s_fldD {D : Ends} {ta : TE} {f : Str} {C a dx : Addr} {fs : List (Str × V)} (ho : ∀ H1, Ex H H1 → Ev ta σ H1 (.ref a)) (ha : H a = some (.ins C dx fs)) (c : Cls K C) (n : NoAttr K C f) (hl : fs.length < 1000)
    (k : ∀ p H1, H p = none → Ex H H1 → H1 p = some (.dK []) → D.nx σ (upd H1 a (.ins C dx (putF f (.ref p) fs)))) : sFld K ta tDNewK f D σ H := q_fldD (tz := tNext) ho ha c n hl k
end
/-! ### classes and methods, ready to be called -/
structure Rm (P : Program) (w : World) (K : PySem.W.Frag) (mg : Str → Option Value) (base : Heap) (x : Str) (C : Addr) (k : Nat) (ps : List Str) (sp : Sp) : Prop where
  ex : ∃ (f : Addr) (fd : FuncData), mg x = some (.ref C) ∧ Mk K C f ∧ Binds K fd ps [] ∧ FnOk P w K mg base CX0 k f fd ps sp
theorem Rm.mono {P : Program} {w : World} {K : PySem.W.Frag} {mg : Str → Option Value} {base : Heap} {x : Str} {C : Addr} {j k : Nat} {ps : List Str} {sp : Sp} (r : Rm P w K mg base x C j ps sp) (h : j ≤ k) : Rm P w K mg base x C k ps sp := by
  obtain ⟨f, fd, g, m, b, G⟩ := r.ex
  exact ⟨f, fd, g, m, b, G.mono h⟩
theorem pe_rm {X : Cx} {x : Str} {C : Addr} {k j : Nat} {ps : List Str} {sp : Sp} {e : Expr} {es : List Expr} {ta : TA} {p pos : Pos} (r : Rm X.prog X.w X.K X.mg X.base x C k ps sp) (hr : Room j X.A) (hk : k + 1 ≤ j) (hg : Gl X x) (ha : PA X (e :: es) ta)
    (hdb : (x == ("__debug__" : Str)) = false := by decide) (he : starEach (e :: es) X.env = (false, eval e X.env) :: starEach es X.env := by rfl) (hpl : (backTo pos (starEach es X.env)).any (·.1) = false := by rfl) : PE X (.Call (.Name x p) (e :: es) [] pos) (tMake C sp [] E0 ta) := by
  obtain ⟨f, fd, g1, m, b, G⟩ := r.ex
  exact pe_make m G (hr.mono hk) hg g1 b .nil pass0 ha hdb he hpl
theorem pe_rm0 {X : Cx} {x : Str} {C : Addr} {k j : Nat} {ps : List Str} {sp : Sp} {p pos : Pos} (r : Rm X.prog X.w X.K X.mg X.base x C k ps sp) (hr : Room j X.A) (hk : k + 1 ≤ j) (hg : Gl X x)
    (hdb : (x == ("__debug__" : Str)) = false := by decide) : PE X (.Call (.Name x p) [] [] pos) (tMake C sp [] E0 tNil) := by
  obtain ⟨f, fd, g1, m, b, G⟩ := r.ex
  exact pe_make0 m G (hr.mono hk) hg g1 b .nil pass0 hdb
structure Rt (P : Program) (w : World) (K : PySem.W.Frag) (mg : Str → Option Value) (base : Heap) (C : Addr) (m : Str) (k : Nat) (ps : List Str) (sp : Sp) : Prop where
  ex : ∃ (f : Addr) (fd : FuncData), Meth K C m f ∧ Binds K fd ps [] ∧ FnOk P w K mg base CX0 k f fd ps sp
theorem Rt.mono {P : Program} {w : World} {K : PySem.W.Frag} {mg : Str → Option Value} {base : Heap} {C : Addr} {m : Str} {j k : Nat} {ps : List Str} {sp : Sp} (r : Rt P w K mg base C m j ps sp) (h : j ≤ k) : Rt P w K mg base C m k ps sp := by
  obtain ⟨f, fd, g, b, G⟩ := r.ex
  exact ⟨f, fd, g, b, G.mono h⟩
theorem pe_rt {X : Cx} {C : Addr} {m : Str} {k j : Nat} {ps : List Str} {sp : Sp} {o e : Expr} {es : List Expr} {ta : TE} {t : TA} {apos pos : Pos} {pl : Sem Bool} (he : PE X o ta) (c : Cls X.K C) (r : Rt X.prog X.w X.K X.mg X.base C m k ps sp) (hr : Room j X.A) (hk : k ≤ j) (ha : PA X (e :: es) t)
    (hst : starEach (e :: es) X.env = (false, eval e X.env) :: starEach es X.env := by rfl) (hpl : (backTo pos (starEach es X.env)).any (·.1) = false := by rfl)
    (ht : eval (.Call (.Attribute o m apos) (e :: es) [] pos) X.env = (do
      let ov ← eval o X.env
      standAt apos.atName
      let (f, first) ← holding [ov] (getMethod ov m pl)
      callWith pos f first (backTo pos (starEach (e :: es) X.env)) (backToKw pos (keywordEach [] X.env))) := by rfl) : PE X (.Call (.Attribute o m apos) (e :: es) [] pos) (tMeth C m sp [] E0 ta t) := by
  obtain ⟨f, fd, M, b, G⟩ := r.ex
  exact pe_meth he c M G (hr.mono hk) b .nil pass0 ha hst hpl ht
/-! ### ClassText, Reader -/
structure Ent where
  nm : Nm
  cls : Addr
  lin : Addr
  ord : List Nm
def ctF (n : Nm) (l fd dd : Addr) : List (Str × V) := [("name", sv n), ("lineage", .ref l), ("fields", .ref fd), ("definitions", .ref dd)]
structure CtC (K : PySem.W.Frag) (C : Addr) : Prop where
  cl : Cls K C
  nN : NoAttr K C "name"
  nL : NoAttr K C "lineage"
  nF : NoAttr K C "fields"
  nD : NoAttr K C "definitions"
def spCt (C : Addr) : Sp := fun vs H Q _ => ∃ (x dx : Addr) (n : Nm) (l : Addr), vs = [.ref x, sv n, .ref l] ∧ H x = some (.ins C dx []) ∧ ∀ H' fd dd, Hc.Ext (fun b => b = x) H H' → H' x = some (.ins C dx (ctF n l fd dd)) → Q .non H'
def rdF (d : Addr) (ow me : V) : List (Str × V) := [("classes", .ref d), ("_owner", ow), ("_method", me)]
structure RdC (K : PySem.W.Frag) (C : Addr) : Prop where
  cl : Cls K C
  nC : NoAttr K C "classes"
  nO : NoAttr K C "_owner"
  nM : NoAttr K C "_method"
def spRd (C : Addr) : Sp := fun vs H Q _ => ∃ (x dx : Addr), vs = [.ref x] ∧ H x = some (.ins C dx []) ∧ ∀ H' d, H d = none → Hc.Ext (fun b => b = x) H H' → H' x = some (.ins C dx (rdF d .non .non)) → H' d = some (.dK []) → Q .non H'
abbrev sCtInit : Stmt := inClass cClassText 0
abbrev sRdInit : Stmt := inClass cReader 0
theorem scCt : FnScope ["self", "name", "lineage"] ["self", "name", "lineage"] (defScope sCtInit) := ⟨rfl, rfl, rfl, by decide +kernel, rfl, by decide +kernel, by decide +kernel⟩
theorem scRd : FnScope ["self"] ["self"] (defScope sRdInit) := ⟨rfl, rfl, rfl, by decide +kernel, rfl, by decide +kernel, by decide +kernel⟩
theorem ext_ex {S : Addr → Prop} {H H1 : Hp} (e : Ex H H1) : Hc.Ext S H H1 := fun b o h _ => e b o h
theorem stepE {S : Addr → Prop} {H H1 : Hp} {p : Addr} {o : HO} (e : Ex H H1) (h : S p) : Hc.Ext S H (upd H1 p o) := (ext_ex e).trans (Ext.put h)
section
variable {P : Program} {w : World} {K : PySem.W.Frag} {mg : Str → Option Value} {base : Heap} {C f : Addr} {fd : FuncData} {k : Nat}
theorem ok_ct (F : Fun K "__init__" "ClassText.__init__" sCtInit f fd) (c : CtC K C) : FnOk P w K mg base CX0 (k + 1) f fd ["self", "name", "lineage"] (spCt C) := by
  refine F.ok scCt (fun vs H Q E h => ?_) (fun cdv A outer s H vs Q E hr h => ?_)
  · obtain ⟨x, dx, n, l, rfl, _⟩ := h
    rfl
  · obtain ⟨x, dx, n, l, rfl, hx, q⟩ := h
    refine ⟨_, pss_cons (ps_fld (pv 0) (pv 1) (by rfl)) (pss_cons (ps_fld (pv 0) (pv 2) (by rfl)) (pss_cons (ps_fld (pv 0) pe_dnewK (by rfl)) (pss_one (ps_fld (pv 0) pe_dnewK (by rfl))))), ?_⟩
    refine q_fldV (ev_var rfl) (ev_var rfl) hx c.cl c.nN (show 0 < 1000 by decide) fun H1 e1 => ?_
    refine q_fldV (ev_var rfl) (ev_var rfl) upd_same c.cl c.nL (show 1 < 1000 by decide) fun H2 e2 => ?_
    refine q_fldD (fun _ _ => ev_var rfl) upd_same c.cl c.nF (show 2 < 1000 by decide) fun p H3 np e3 hp => ?_
    refine s_fldD (fun _ _ => ev_var rfl) upd_same c.cl c.nD (show 3 < 1000 by decide) fun p' H4 np' e4 hp' => ?_
    refine q _ p p' ?_ upd_same
    exact (((stepE (S := fun b => b = x) e1 rfl).trans (stepE e2 rfl)).trans (stepE e3 rfl)).trans (stepE e4 rfl)
theorem ok_rdI (F : Fun K "__init__" "Reader.__init__" sRdInit f fd) (c : RdC K C) : FnOk P w K mg base CX0 (k + 1) f fd ["self"] (spRd C) := by
  refine F.ok scRd (fun vs H Q E h => ?_) (fun cdv A outer s H vs Q E hr h => ?_)
  · obtain ⟨x, dx, rfl, _⟩ := h
    rfl
  · obtain ⟨x, dx, rfl, hx, q⟩ := h
    refine ⟨_, pss_cons (ps_fld (pv 0) pe_dnewK (by rfl)) (pss_cons (ps_fld (pv 0) pe_non (by rfl)) (pss_one (ps_fld (pv 0) pe_non (by rfl)))), ?_⟩
    refine q_fldD (fun _ _ => ev_var rfl) hx c.cl c.nC (show 0 < 1000 by decide) fun p H1 np e1 hp => ?_
    have px : p ≠ x := fun z => by
      rw [z, hx] at np
      cases np
    refine q_fldV ev_c (ev_var rfl) upd_same c.cl c.nO (show 1 < 1000 by decide) fun H2 e2 => ?_
    refine s_fldV ev_c (ev_var rfl) upd_same c.cl c.nM (show 2 < 1000 by decide) fun H3 e3 => ?_
    refine q _ p np ?_ upd_same ?_
    · exact ((stepE (S := fun b => b = x) e1 rfl).trans (stepE e2 rfl)).trans (stepE e3 rfl)
    · rw [upd_ne px]
      refine e3 _ _ ?_
      rw [upd_ne px]
      refine e2 _ _ ?_
      rw [upd_ne px]
      exact hp
end
end Hy
/-! module HwStep -/
set_option maxHeartbeats 4000000
/-! read_step. -/
namespace Hs
open PySem PySem.Spec PyProof.Rows L2 Evl Hc
def stps : List (List Nat) := [[48], [49], [50]]
/-- an index, or a word -/
inductive Stp where
  | at (i : Nat)
  | of (w : List Nat)
def Stp.val : Stp → V
  | .at i => .int (i : Int)
  | .of w => .str (S w)
/-- text[:-1] is an index or a word, and the last sign closes it -/
def readStep (L : List Nat) : Option Stp :=
  if L.getLast? = some 93 then
    if L.dropLast = [48] then some (.at 0) else if L.dropLast = [49] then some (.at 1) else if L.dropLast = [50] then some (.at 2)
    else if isWord L.dropLast then some (.of L.dropLast) else none
  else none
def optV {α : Type} (f : α → V) : Option α → V
  | none => .non
  | some x => f x
def spStep : Sp := fun vs H Q _ => ∃ L, vs = [.str (S L)] ∧ L.length ≤ cap ∧ ∀ H', Ex H H' → Q (optV Stp.val (readStep L)) H'
theorem cut_last (L : List Nat) : cutS (S L) none (some (-1 : Int)) = S L.dropLast := by
  unfold cutS
  rw [HT.sIx_none, S_len]
  have e : HT.sIx L.length L.length (some (-((1 : Nat) : Int))) = L.length - 1 := by
    unfold HT.sIx
    dsimp only
    rw [if_pos (by decide)]
    omega
  rw [show (-1 : Int) = -((1 : Nat) : Int) from rfl, e]
  congr 2
  show (L.drop 0).take (L.length - 1 - 0) = L.dropLast
  rw [List.drop_zero, Nat.sub_zero, List.dropLast_eq_take]
theorem inV_S (L : List Nat) : ∀ Ls : List (List Nat), inV (V.str (S L)) (Ls.map fun x => V.str (S x)) = Ls.contains L
  | [] => rfl
  | M :: Ms => by
    have hh : eqV (V.str (S M)) (V.str (S L)) = (L == M) := by
      show (S M == S L) = (L == M)
      rw [Bool.eq_iff_iff, beq_iff_eq, beq_iff_eq]
      exact ⟨fun z => (S_inj z).symm, fun z => z ▸ rfl⟩
    show ((eqV (V.str (S M)) (V.str (S L))) || (inV (V.str (S L)) (Ms.map fun x => V.str (S x)))) = ((L == M) || Ms.contains L)
    rw [hh, inV_S L Ms]
theorem ev_in {K : PySem.W.Frag} {ta tb : TE} {σ : L2.St} {H : Hp} {L : List Nat} {Ls : List (List Nat)} {r : Addr} (h1 : Ev ta σ H (.str (S L))) (h2 : Ev tb σ H (.ref r)) (hs : ∀ H, SqT K H r (Ls.map fun x => V.str (S x))) :
    Ev (tOp (rIn K false) ta tb) σ H (.bl (Ls.contains L)) := ev_op h1 h2 fun H1 e Q q => ⟨r, _, rfl, .inr (hs H1), rfl, by
      rw [List.all_map, List.all_eq_true]
      intro x _
      rfl, by
      rw [if_neg Bool.false_ne_true, inV_S]
      exact q H1 (Ex.refl H1)⟩
theorem ev_intS {te : TE} {σ : L2.St} {H : Hp} {L : List Nat} {n : Int} (h : Ev te σ H (.str (S L))) (hn : intText? (S L) = some n) (hL : L.length ≤ 640) :
    Ev (tCB (fun (xs : List V) (H : Hp) (Q : VK) => ∃ a n, xs = [V.str a] ∧ intText? a = some n ∧ a.length ≤ 640 ∧ Q (V.int n) H) (tCons te tNil)) σ H (.int n) := fun H1 e Q q =>
  h H1 e _ fun H2 e2 => ⟨S L, n, rfl, hn, by rw [S_len]; exact hL, q H2 e2⟩
structure StepP (K : PySem.W.Frag) (mg : Str → Option Value) : Prop where
  int : mg "int" = none
  st : ∃ r, mg "STEPS" = some (.ref r) ∧ ∀ H, SqT K H r (stps.map fun x => V.str (S x))
section
variable {P : Program} {w : World} {K : PySem.W.Frag} {mg : Str → Option Value} {base : Heap}
theorem sp_step {H : Hp} {L : List Nat} (h : L.length ≤ cap) : SpV spStep ([.str (S L)] ++ []) H (optV Stp.val (readStep L)) := fun H1 e Q q E => ⟨L, rfl, h, fun H' ex => q H' ex⟩
abbrev nStep : List Str := ["text", "step"]
theorem scStep : FnScope nStep ["text"] (defScope sReadStep) := ⟨rfl, rfl, rfl, by decide +kernel, rfl, by decide +kernel, by decide +kernel⟩
theorem ok_step {f : Addr} {fd : FuncData} {k : Nat} (F : Fun K "read_step" "read_step" sReadStep f fd) (T : StepP K mg) (rW : Rd P w K mg base "is_word" k ["text"] spWord) : FnOk P w K mg base CX0 (k + 1) f fd ["text"] spStep := by
  refine F.ok scStep (fun vs H Q E h => ?_) (fun cdv A outer s H vs Q E hr h => ?_)
  · obtain ⟨L, rfl, _⟩ := h
    rfl
  · obtain ⟨L, rfl, hL, q⟩ := h
    obtain ⟨r, hR, hs⟩ := T.st
    refine ⟨_, pss_cons (ps_set (i := 1) scStep.nd rfl (.inl rfl) (pe_slice sl_str (pv 0) po_none (po_some (pe_un un_neg pe_int))))
      (pss_cons (ps_if (pt_not (pt_val (pe_m1 PySem.F.slot_str_endswith PySem.F.type_str_endswith mt_endswith (pv 0) pe_str))) (pss_one (ps_ret pe_non)) pss_nil)
      (pss_cons (ps_if (pt_cmpR op_in_seq (pv 1) (pe_glob (v := .ref r) (by rfl) hR rfl) (by rfl)) (pss_one (ps_ret (pe_callTy call_int_str (by rfl) T.int boot_int (pa_cons (pv 1) pa_nil)))) pss_nil)
      (pss_one (ps_ret (pe_ifExp (pt_val (pe_rd rW hr (Nat.le_refl _) (by rfl) (pa_cons (pv 1) pa_nil))) (pv 1) pe_non))))), ?_⟩
    refine q_asg (v := .str (S L.dropLast)) (Evl.ev_is (ev_slS (ev_var rfl) eo_none (eo_some (ev_un ev_c ru_neg)) (by rw [S_len]; exact cap_line hL)) (by rw [cut_last])) fun H1 f1 => ?_
    refine q_when (et_not (et_B (ev_ends (c := 93) (ev_var rfl) ev_c))) (fun hb H2 f2 => ?_) (fun hb H2 f2 => ?_)
    · refine s_ret ev_c fun H3 f3 => ?_
      have e : readStep L = none := by
        unfold readStep
        refine if_neg fun z => ?_
        rw [z] at hb
        cases hb
      have q' := q H3 ((f1.trans f2).trans f3)
      rw [e] at q'
      exact q'
    · have hc : L.getLast? = some 93 := by
        revert hb
        cases z : (L.getLast? == some 93) with
        | true => exact fun _ => eq_of_beq z
        | false => exact fun z => by cases z
      have hd : L.dropLast.length ≤ cap := by
        rw [List.length_dropLast]
        exact Nat.le_trans (Nat.sub_le _ _) hL
      have e : readStep L = (if L.dropLast = [48] then some (.at 0) else if L.dropLast = [49] then some (.at 1) else if L.dropLast = [50] then some (.at 2) else if isWord L.dropLast then some (.of L.dropLast) else none) := if_pos hc
      rw [e] at q
      generalize L.dropLast = M at q hd ⊢
      refine q_when (et_test (ev_in (Ls := stps) (ev_var rfl) ev_c hs)) (fun hi H3 f3 => ?_) (fun hi H3 f3 => ?_)
      · have hm : M = [48] ∨ M = [49] ∨ M = [50] := by
          have z : M ∈ stps := by
            rw [← List.contains_iff_mem]
            exact hi
          simpa [stps] using z
        rcases hm with rfl | rfl | rfl
        · exact s_ret (ev_intS (n := 0) (ev_var rfl) (by decide +kernel) (by decide)) fun H4 f4 => q H4 (((f1.trans f2).trans f3).trans f4)
        · exact s_ret (ev_intS (n := 1) (ev_var rfl) (by decide +kernel) (by decide)) fun H4 f4 => q H4 (((f1.trans f2).trans f3).trans f4)
        · exact s_ret (ev_intS (n := 2) (ev_var rfl) (by decide +kernel) (by decide)) fun H4 f4 => q H4 (((f1.trans f2).trans f3).trans f4)
      · have hm : M ∉ stps := by
          rw [← List.contains_iff_mem, hi]
          exact Bool.false_ne_true
        have h0 : M ≠ [48] := fun z => hm (z ▸ by decide)
        have h1 : M ≠ [49] := fun z => hm (z ▸ by decide)
        have h2 : M ≠ [50] := fun z => hm (z ▸ by decide)
        rw [if_neg h0, if_neg h1, if_neg h2] at q
        refine s_ret (v := optV Stp.val (if isWord M then some (.of M) else none)) (ev_if (et_B (ev_call (ea_cons (ev_var rfl) ea_nil) (sp_word hd))) (fun z => ?_) (fun z => ?_)) fun H4 f4 => q H4 (((f1.trans f2).trans f3).trans f4)
        · rw [if_pos z]
          exact ev_var rfl
        · rw [if_neg (by rw [z]; exact Bool.false_ne_true)]
          exact ev_c
end
end Hs
/-! module HzPath -/
set_option maxHeartbeats 4000000
/-! read_path, for any text. -/
namespace Hz
open PySem PySem.Spec PyProof.Rows L2 Evl Hc Hs Hy
/-! ### a text cut at a sign -/
def cuts (s : Nat) : List Nat → List (List Nat)
  | [] => [[]]
  | c :: r => if c = s then [] :: cuts s r else match cuts s r with
    | [] => [[c]]
    | p :: ps => (c :: p) :: ps
theorem cuts_ne (s : Nat) : ∀ L, cuts s L ≠ []
  | [] => by simp [cuts]
  | c :: r => by
    unfold cuts
    split
    · simp
    · split <;> simp
theorem cuts_join (s : Nat) : ∀ L, TL.joinL [s] (cuts s L) = L
  | [] => rfl
  | c :: r => by
    have ih := cuts_join s r
    have hn := cuts_ne s r
    unfold cuts
    split
    · rename_i h
      subst h
      cases q : cuts c r with
      | nil => exact absurd q hn
      | cons p ps =>
        rw [q] at ih
        show [] ++ ([c] ++ TL.joinL [c] (p :: ps)) = c :: r
        rw [ih]
        rfl
    · cases q : cuts s r with
      | nil => exact absurd q hn
      | cons p ps =>
        rw [q] at ih
        cases ps with
        | nil =>
          show c :: p = c :: r
          rw [← ih]
          rfl
        | cons p2 ps =>
          show (c :: p) ++ ([s] ++ TL.joinL [s] (p2 :: ps)) = c :: r
          rw [← ih]
          rfl
theorem cuts_no (s : Nat) : ∀ L, ∀ x ∈ cuts s L, s ∉ x
  | [], x, h => by
    have : x = [] := by simpa [cuts] using h
    rw [this]
    simp
  | c :: r, x, h => by
    have ih := cuts_no s r
    unfold cuts at h
    split at h
    · rcases List.mem_cons.mp h with rfl | h
      · simp
      · exact ih x h
    · rename_i hc
      cases q : cuts s r with
      | nil => exact absurd q (cuts_ne s r)
      | cons p ps =>
        rw [q] at h ih
        rcases List.mem_cons.mp h with rfl | h
        · intro z
          rcases List.mem_cons.mp z with z | z
          · exact hc z.symm
          · exact ih p List.mem_cons_self z
        · exact ih x (List.mem_cons_of_mem _ h)
theorem cuts_len (s : Nat) : ∀ L, (cuts s L).length ≤ L.length + 1 ∧ ∀ x ∈ cuts s L, x.length ≤ L.length
  | [] => ⟨by simp [cuts], fun x h => by
    have : x = [] := by simpa [cuts] using h
    rw [this]
    exact Nat.le_refl _⟩
  | c :: r => by
    obtain ⟨i1, i2⟩ := cuts_len s r
    unfold cuts
    split
    · refine ⟨by rw [List.length_cons, List.length_cons]; omega, fun x h => ?_⟩
      rcases List.mem_cons.mp h with rfl | h
      · exact Nat.zero_le _
      · exact Nat.le_trans (i2 x h) (Nat.le_succ _)
    · cases q : cuts s r with
      | nil => exact absurd q (cuts_ne s r)
      | cons p ps =>
        rw [q] at i1 i2
        refine ⟨by rw [List.length_cons] at i1 ⊢; rw [List.length_cons]; omega, fun x h => ?_⟩
        rcases List.mem_cons.mp h with rfl | h
        · rw [List.length_cons, List.length_cons]
          exact Nat.succ_le_succ (i2 p List.mem_cons_self)
        · exact Nat.le_trans (i2 x (List.mem_cons_of_mem _ h)) (Nat.le_succ _)
theorem removePre_len (a b : List Nat) : (removePre a b).length ≤ a.length := by
  unfold removePre
  split
  · rw [List.length_drop]
    exact Nat.sub_le _ _
  · exact Nat.le_refl _
/-! ### paths -/
def selfD : List Nat := [115, 101, 108, 102, 46]
structure Pth where
  own : Bool
  word : List Nat
  steps : List Stp
def readPath (L : List Nat) : Option Pth := match cuts 91 (removePre L selfD) with
  | [] => none
  | h :: r => if isWord h = true ∧ r.length ≤ 3 ∧ (r.all fun m => (readStep m).isSome) = true then some ⟨startsL L selfD, h, r.filterMap readStep⟩ else none
def ptF (b : Bool) (w : List Nat) (t : Addr) : List (Str × V) := [("of_self", .bl b), ("word", sv w), ("steps", .ref t)]
structure PtC (K : PySem.W.Frag) (C : Addr) : Prop where
  cl : Cls K C
  nO : NoAttr K C "of_self"
  nW : NoAttr K C "word"
  nS : NoAttr K C "steps"
def spPt (C : Addr) : Sp := fun vs H Q _ => ∃ (x dx : Addr) (b : Bool) (w : List Nat) (t : Addr), vs = [.ref x, .bl b, sv w, .ref t] ∧ H x = some (.ins C dx []) ∧ ∀ H', Hc.Ext (fun b => b = x) H H' → H' x = some (.ins C dx (ptF b w t)) → Q .non H'
abbrev sPtInit : Stmt := inClass cPath 0
theorem scPt : FnScope ["self", "of_self", "word", "steps"] ["self", "of_self", "word", "steps"] (defScope sPtInit) := ⟨rfl, rfl, rfl, by decide +kernel, rfl, by decide +kernel, by decide +kernel⟩
/-- a path as an object -/
def PtAt (C x : Addr) (p : Pth) (H : Hp) : Prop := ∃ dx t, H x = some (.ins C dx (ptF p.own p.word t)) ∧ H t = some (.tup (p.steps.map Stp.val))
theorem PtAt.ex {C x : Addr} {p : Pth} {H H' : Hp} (h : PtAt C x p H) (e : Ex H H') : PtAt C x p H' := by
  obtain ⟨dx, t, h1, h2⟩ := h
  exact ⟨dx, t, e _ _ h1, e _ _ h2⟩
def spPath (C : Addr) : Sp := fun vs H Q _ => ∃ L : List Nat, vs = [sv L] ∧ L.length ≤ cap ∧ (match readPath L with
  | none => ∀ H', Ex H H' → Q .non H'
  | some p => ∀ H' x, H x = none → Ex H H' → PtAt C x p H' → Q (.ref x) H')
structure PathP (mg : Str → Option Value) : Prop where
  len : mg "len" = none
  tup : mg "tuple" = none
  most : ∃ t, mg "MOST_STEPS" = some (.int 3 t)
abbrev nPath : List Str := ["text", "marks", "steps", "mark"]
theorem scPath : FnScope nPath ["text"] (defScope sReadPath) := ⟨rfl, rfl, rfl, by decide +kernel, rfl, by decide +kernel, by decide +kernel⟩
theorem optV_flat (m : List Nat) : flatV (optV Stp.val (readStep m)) = true := by
  cases readStep m with
  | none => rfl
  | some s => cases s <;> rfl
theorem inV_none : ∀ ms : List (List Nat), inV .non (ms.map fun m => optV Stp.val (readStep m)) = !(ms.all fun m => (readStep m).isSome)
  | [] => rfl
  | m :: r => by
    show (eqV (optV Stp.val (readStep m)) .non || inV .non (r.map fun m => optV Stp.val (readStep m))) = !((readStep m).isSome && r.all fun m => (readStep m).isSome)
    rw [inV_none r]
    cases readStep m with
    | none => rfl
    | some s => cases s <;> rfl
theorem all_some : ∀ {ms : List (List Nat)}, (ms.all fun m => (readStep m).isSome) = true → (ms.map fun m => optV Stp.val (readStep m)) = (ms.filterMap readStep).map Stp.val
  | [], _ => rfl
  | m :: r, h => by
    rw [List.all_cons, Bool.and_eq_true] at h
    obtain ⟨s, hs⟩ := Option.isSome_iff_exists.mp h.1
    rw [List.map_cons, List.filterMap_cons_some hs, List.map_cons, all_some h.2, hs]
    rfl
section
variable {P : Program} {w : World} {K : PySem.W.Frag} {mg : Str → Option Value} {base : Heap} {C f : Addr} {fd : FuncData} {k : Nat}
theorem ok_pt (F : Fun K "__init__" "Path.__init__" sPtInit f fd) (c : PtC K C) : FnOk P w K mg base CX0 (k + 1) f fd ["self", "of_self", "word", "steps"] (spPt C) := by
  refine F.ok scPt (fun vs H Q E h => ?_) (fun cdv A outer s H vs Q E hr h => ?_)
  · obtain ⟨x, dx, b, w, t, rfl, _⟩ := h
    rfl
  · obtain ⟨x, dx, b, w, t, rfl, hx, q⟩ := h
    refine ⟨_, pss_cons (ps_fld (pv 0) (pv 1) (by rfl)) (pss_cons (ps_fld (pv 0) (pv 2) (by rfl)) (pss_one (ps_fld (pv 0) (pv 3) (by rfl)))), ?_⟩
    refine q_fldV (ev_var rfl) (ev_var rfl) hx c.cl c.nO (show 0 < 1000 by decide) fun H1 e1 => ?_
    refine q_fldV (ev_var rfl) (ev_var rfl) upd_same c.cl c.nW (show 1 < 1000 by decide) fun H2 e2 => ?_
    refine s_fldV (ev_var rfl) (ev_var rfl) upd_same c.cl c.nS (show 2 < 1000 by decide) fun H3 e3 => ?_
    exact q _ (((stepE (S := fun b => b = x) e1 rfl).trans (stepE e2 rfl)).trans (stepE e3 rfl)) upd_same
theorem ok_path (F : Fun K "read_path" "read_path" sReadPath f fd) (T : PathP mg) (rS : Rd P w K mg base "read_step" k ["text"] spStep) (rW : Rd P w K mg base "is_word" k ["text"] spWord) (rP : Rm P w K mg base "Path" C 1 ["self", "of_self", "word", "steps"] (spPt C)) (hk : 2 ≤ k) : FnOk P w K mg base CX0 (k + 1) f fd ["text"] (spPath C) := by
  refine F.ok scPath (fun vs H Q E h => ?_) (fun cdv A outer s H vs Q E hr h => ?_)
  · obtain ⟨L, rfl, _⟩ := h
    rfl
  · obtain ⟨L, rfl, hL, q⟩ := h
    obtain ⟨tM, hM⟩ := T.most
    refine ⟨_, pss_cons (ps_set (i := 1) scPath.nd rfl (.inl rfl) (pe_split (pe_m1 PySem.F.slot_str_removeprefix PySem.F.type_str_removeprefix mt_removeprefix (pv 0) pe_str) pe_str))
      (pss_cons (ps_setLc (i := 2) (own := [("mark", 3)]) (g := gName 3) (tt := tYes) rfl scPath.nd rfl rfl (sw_true rfl rfl rfl (by decide +kernel)) (pi_list (pe_slice sl_list (pv 1) (po_some pe_int) po_none)) (blkOk_by (N := nPath) (sc := defScope sReadPath) (by decide +kernel)) (fun _ _ _ _ _ => pg_name (i := 3) scPath.nd rfl (.inl rfl)) (fun _ _ _ _ _ => pts_nil)
          (fun _ _ _ _ _ => pe_rd rS hr (Nat.le_refl _) (by rfl) (pa_cons (pv 3) pa_nil)))
      (pss_cons (ps_if (PW.pt (pw_or (pt_not (pt_val (pe_rd rW hr (Nat.le_refl _) (by rfl) (pa_cons (pe_ix ix_list (pv 1) pe_int (fun _ _ => rfl)) pa_nil)))) (pw_or (pt_cmpR op_gt (pe_callB call_len_seq (by rfl) T.len PySem.boot_len (pa_cons (pv 2) pa_nil)) (pe_glob (v := .int 3) (by rfl) hM ⟨_, rfl⟩) (nomark _)) (pw_or1 (pt_cmpR op_in_seq pe_non (pv 2) (by rfl)))))) (pss_one (ps_ret pe_non)) pss_nil)
      (pss_one (ps_ret (pe_rm rP hr hk (by rfl) (pa_cons (pe_m1 PySem.F.slot_str_startswith PySem.F.type_str_startswith mt_startswith (pv 0) pe_str) (pa_cons (pe_ix ix_list (pv 1) pe_int (fun _ _ => rfl)) (pa_cons (pe_callTy call_tuple_of (by rfl) T.tup boot_tuple (pa_cons (pv 2) pa_nil)) pa_nil)))))))), ?_⟩
    have hM2 : (removePre L selfD).length ≤ cap := Nat.le_trans (removePre_len _ _) hL
    obtain ⟨h0, r, hc⟩ : ∃ h0 r, cuts 91 (removePre L selfD) = h0 :: r := by
      cases z : cuts 91 (removePre L selfD) with
      | nil => exact absurd z (cuts_ne _ _)
      | cons a b => exact ⟨a, b, rfl⟩
    have hjoin := cuts_join 91 (removePre L selfD)
    have hno := cuts_no 91 (removePre L selfD)
    obtain ⟨hcl, hcm⟩ := cuts_len 91 (removePre L selfD)
    unfold readPath at q
    rw [hc] at q hjoin hno hcl hcm
    dsimp only at q
    have hw : h0.length ≤ cap := Nat.le_trans (hcm h0 List.mem_cons_self) hM2
    have hm3 : ∀ m ∈ r, m.length ≤ cap := fun m hm => Nat.le_trans (hcm m (List.mem_cons_of_mem _ hm)) hM2
    have hrl : r.length ≤ 30000 := by
      rw [List.length_cons] at hcl
      have : (removePre L selfD).length ≤ 30000 := hM2
      omega
    refine q_asgL (xs := (h0 :: r).map sv) (el_split (s := 91) (T := []) (L := removePre L selfD) rfl hM2 hjoin.symm (by simp) hno (ev_removePre (L := L) (M := selfD) hL (ev_var rfl) ev_c) ev_c) fun pm H1 npm e1 hpm => ?_
    refine q_asgL (xs := r.map fun m => optV Stp.val (readStep m)) ?_ fun ps H2 nps e2 hps => ?_
    · have z := el_mapN (K := K) (H := H1) (σ := [some (sv L), some (.ref pm), none, none]) (tl := tSl (rSlL K) (tVar 1) (tPart (tC (.int 1))) tNoPart) (te := tCall spStep [] E0 (tCons (tVar 3) tNil)) (t := tYes) (j := 3) (vs := [3]) r sv (fun _ => true) (fun m => optV Stp.val (readStep m)) (el_tail (l := h0 :: r) (ev_var rfl) (sq_of hpm)) (by omega) Hs.wipe1 (fun _ _ _ _ => et_yes) (fun m H3 e3 hm _ => ev_call (ea_cons (ev_var rfl) ea_nil) (sp_step (hm3 m hm)))
      rw [List.filter_eq_self.mpr (fun _ _ => rfl)] at z
      exact z
    have e12 := e1.trans e2
    have hpm2 := e2 _ _ hpm
    have test : EvT (tOr (tNot (tB (tCall spWord [] E0 (tCons (tOp (rIxL K) (tVar 1) (tC (.int 0))) tNil)))) (tOr (tTest (tOp (rI0 fun i j => .bl (decide (j < i))) (tCB (fun xs H Q => ∃ p ys, xs = [.ref p] ∧ (SqL K H p ys ∨ SqT K H p ys) ∧ Q (.int (ys.length : Nat)) H) (tCons (tVar 2) tNil)) (tC (.int 3)))) (tTest (tOp (rIn K false) (tC .non) (tVar 2))))) [some (sv L), some (.ref pm), some (.ref ps), none] H2 (!(isWord h0) || (decide (((3 : Nat) : Int) < (r.length : Int)) || !(r.all fun m => (readStep m).isSome))) :=
      et_or (et_not (et_B (ev_call (ea_cons (ev_head (ev_var rfl) (sq_of hpm2)) ea_nil) (sp_word hw)))) fun _ => et_or (et_test (ev_op (Evl.ev_is (ev_len (ev_var rfl) (sq_of hps)) (by rw [List.length_map])) ev_c rv_I0)) fun _ => et_test (Evl.ev_is (ev_op ev_c (ev_var rfl) (rv_isL (sq_of hps) rfl (by
        rw [List.all_map, List.all_eq_true]
        exact fun m _ => optV_flat m))) (by rw [inV_none]))
    refine q_when test (fun hb H3 e3 => ?_) (fun hb H3 e3 => ?_)
    · rw [if_neg (fun z => by
        rw [z.1, z.2.2, decide_eq_false (by omega)] at hb
        cases hb)] at q
      exact s_ret ev_c fun H4 e4 => q H4 ((e12.trans e3).trans e4)
    · simp only [Bool.or_eq_false_iff, Bool.not_eq_false', decide_eq_false_iff_not] at hb
      obtain ⟨b1, b2, b3⟩ := hb
      rw [if_pos ⟨b1, by omega, b3⟩] at q
      have z1 : Ev (tM1 (fun x xs H Q => ∃ a b, x = .str a ∧ xs = [.str b] ∧ Q (.bl (Txt.startswith a b)) H) (tVar 0) (tC (.str (S selfD)))) [some (sv L), some (.ref pm), some (.ref ps), none] H3 (.bl (startsL L selfD)) := ev_startsS (L := L) (M := selfD) (ev_var rfl) ev_c
      show tMake _ _ _ _ _ [some (sv L), some (.ref pm), some (.ref ps), none] H3 _
      unfold tMake tCons
      dsimp only
      refine z1 H3 (Ex.refl H3) _ fun H4 e4 => ?_
      have z2 : Ev (tOp (rIxL K) (tVar 1) (tC (.int 0))) [some (sv L), some (.ref pm), some (.ref ps), none] H4 (sv h0) := ev_head (ev_var rfl) (sq_of (e4 _ _ (e3 _ _ hpm2)))
      show tOp (rIxL K) (tVar 1) (tC (.int 0)) [some (sv L), some (.ref pm), some (.ref ps), none] H4 _
      refine z2 H4 (Ex.refl H4) _ fun H5 e5 => ?_
      have hps5 := e5 _ _ (e4 _ _ (e3 _ _ hps))
      refine ⟨_, rfl, ps, _, rfl, .inl ⟨sq_of hps5, fun t nt => ?_⟩⟩
      have e6 : Ex H5 (upd H5 t (.tup (r.map fun m => optV Stp.val (readStep m)))) := Ex.new nt
      have ht6 : (upd H5 t (.tup (r.map fun m => optV Stp.val (readStep m)))) t = some (.tup (r.map fun m => optV Stp.val (readStep m))) := upd_same
      generalize upd H5 t (.tup (r.map fun m => optV Stp.val (readStep m))) = H6 at e6 ht6 ⊢
      have e06 := (((e12.trans e3).trans e4).trans e5).trans e6
      intro x dx nx nd ne
      refine ⟨x, dx, startsL L selfD, h0, t, rfl, upd_same, fun H7 ext hx => ⟨rfl, ?_⟩⟩
      have e7 : Ex H6 H7 := fun b o hb => by
        have b1 : b ≠ x := ne_of_none hb nx
        have b2 : b ≠ dx := ne_of_none hb nd
        exact ext b o (by rw [upd_ne b1, upd_ne b2]; exact hb) b1
      refine q H7 x (fresh_back e06 nx) (e06.trans e7) ⟨dx, t, hx, ?_⟩
      rw [e7 _ _ ht6, all_some b3]
end
end Hz
/-! module HyTake -/
set_option maxHeartbeats 4000000
/-! Reader._take_class, Reader.take for class lines. -/
namespace Hy
open PySem PySem.Spec PyProof.Rows L2 Evl Hc Hs
def kvsOf (es : List Ent) : List (Key × V) := es.map fun e => (kN e.nm, V.ref e.cls)
def entOf (es : List Ent) (b : Nm) : Option Ent := es.find? fun e => decide (e.nm = b)
def ordOf (es : List Ent) (b : Nm) : List Nm := match entOf es b with
  | some e => e.ord
  | none => []
def linOf (es : List Ent) (b : Nm) : Addr := match entOf es b with
  | some e => e.lin
  | none => 0
def rowsB (es : List Ent) (bs : List Nm) : Rows Nm := bs.map (ordOf es) ++ [bs]
def EntOk (H : Hp) (C : Addr) (e : Ent) : Prop := (∃ dx fd dd, H e.cls = some (.ins C dx (ctF e.nm e.lin fd dd))) ∧ H e.lin = some (.lst (e.ord.map sv))
def DbOk (H : Hp) (C d : Addr) (es : List Ent) : Prop := H d = some (.dK (kvsOf es)) ∧ ∀ e ∈ es, EntOk H C e
theorem EntOk.ex {H H' : Hp} {C : Addr} {e : Ent} (h : EntOk H C e) (x : Ex H H') : EntOk H' C e := by
  obtain ⟨⟨dx, fd, dd, h1⟩, h2⟩ := h
  exact ⟨⟨dx, fd, dd, x _ _ h1⟩, x _ _ h2⟩
theorem DbOk.ex {H H' : Hp} {C d : Addr} {es : List Ent} (h : DbOk H C d es) (x : Ex H H') : DbOk H' C d es := ⟨x _ _ h.1, fun e he => (h.2 e he).ex x⟩
theorem kN_inj {a b : Nm} : kN a = kN b ↔ a = b := ⟨fun h => S_inj (Sum.inr.inj h), fun h => by rw [h]⟩
theorem val_kvs (b : Nm) : ∀ es : List Ent, valV (kvsOf es) (kN b) = (entOf es b).map fun e => V.ref e.cls
  | [] => rfl
  | e :: es => by
    by_cases h : e.nm = b
    · have h1 : valV (kvsOf (e :: es)) (kN b) = some (V.ref e.cls) := valV_pos (p := (kN e.nm, V.ref e.cls)) (kN_inj.mpr h)
      have h2 : entOf (e :: es) b = some e := List.find?_cons_of_pos (decide_eq_true h)
      rw [h1, h2]
      rfl
    · have h1 : valV (kvsOf (e :: es)) (kN b) = valV (kvsOf es) (kN b) := valV_neg (p := (kN e.nm, V.ref e.cls)) (fun z => h (kN_inj.mp z))
      have h2 : entOf (e :: es) b = entOf es b := List.find?_cons_of_neg (by rw [decide_eq_false h]; exact Bool.false_ne_true)
      rw [h1, h2, val_kvs b es]
theorem ent_some {es : List Ent} {b : Nm} (h : b ∈ es.map (·.nm)) : ∃ e, entOf es b = some e ∧ e ∈ es ∧ e.nm = b := by
  cases q : entOf es b with
  | none =>
    obtain ⟨e, he, rfl⟩ := List.mem_map.mp h
    have := List.find?_eq_none.mp q e he
    simp at this
  | some e => exact ⟨e, rfl, List.mem_of_find?_eq_some q, of_decide_eq_true (List.find?_some (p := fun e : Ent => decide (e.nm = b)) q)⟩
theorem ent_none {es : List Ent} {b : Nm} (h : b ∉ es.map (·.nm)) : entOf es b = none := by
  cases q : entOf es b with
  | none => rfl
  | some e => exact absurd (List.mem_map.mpr ⟨e, List.mem_of_find?_eq_some q, of_decide_eq_true (List.find?_some (p := fun e : Ent => decide (e.nm = b)) q)⟩) h
section
variable {K : PySem.W.Frag} {σ : L2.St} {H : Hp} {ta tb te : TE}
theorem el_cat {xs ys : List V} (ha : EvL ta σ H xs) (hb : EvL tb σ H ys) (hz : xs.length + ys.length ≤ 100000) : EvL (tOp rCat ta tb) σ H (xs ++ ys) := fun H1 e Q q =>
  ha H1 e _ fun p H2 n1 e2 h1 => hb H2 (e.trans e2) _ fun r H3 n2 e3 h2 => ⟨p, r, xs, ys, rfl, rfl, e3 _ _ h1, h2, sz_of hz, fun t nt => q t _ (fresh_back (e2.trans e3) nt) ((e2.trans e3).trans (Ex.new nt)) upd_same⟩
theorem el_catR {xs ys : List V} {r : Addr} (ha : EvL ta σ H xs) (hb : Ev tb σ H (.ref r)) (hr : H r = some (.lst ys)) (hz : xs.length + ys.length ≤ 100000) : EvL (tOp rCat ta tb) σ H (xs ++ ys) := fun H1 e Q q =>
  ha H1 e _ fun p H2 n1 e2 h1 => hb H2 (e.trans e2) _ fun H3 e3 => ⟨p, r, xs, ys, rfl, rfl, e3 _ _ h1, ((e.trans e2).trans e3) _ _ hr, sz_of hz, fun t nt => q t _ (fresh_back (e2.trans e3) nt) ((e2.trans e3).trans (Ex.new nt)) upd_same⟩
theorem ev_nonR {p : Addr} (h : Ev te σ H (.ref p)) : Ev (tOp (fun x y H Q => y = .non ∧ Q (.bl (decide (x = .non))) H) te (tC .non)) σ H (.bl false) := Evl.ev_is (ev_op h ev_c fun H1 e Q q => ⟨rfl, q H1 (Ex.refl H1)⟩) (by rw [decide_eq_false (fun z => nomatch z)])
end
def spTake (CR CT : Addr) : Sp := fun vs H Q _ => ∃ (r d dr : Addr) (n : Nm) (bs : List Nm) (es : List Ent) (ow me : V), vs = [.ref r, sv (cline n bs)] ∧ GoodNm n ∧ (∀ b ∈ bs, GoodNm b) ∧ bs.Nodup ∧ bs.length ≤ 3 ∧ n ∉ es.map (·.nm) ∧ (∀ b ∈ bs, b ∈ es.map (·.nm)) ∧ es.length < 8 ∧
  (∀ e ∈ es, e.ord.length ≤ 8) ∧ H r = some (.ins CR dr (rdF d ow me)) ∧ DbOk H CT d es ∧
  (match merge (rowsB es bs) with
    | none => ∀ H', Ex H H' → Q (.bl false) H'
    | some m => ∀ H' (e : Ent), e.nm = n → e.ord = n :: m → Hc.Ext (fun b => b = r ∨ b = d) H H' → H' r = some (.ins CR dr (rdF d (.ref e.cls) .non)) → DbOk H' CT d (es ++ [e]) → Q (.bl true) H')
abbrev sTakeC : Stmt := inClass cReader 2
abbrev sTake : Stmt := inClass cReader 1
abbrev nTakeC : List Str := ["self", "line", "head", "name", "bases", "behind", "base"]
theorem scTakeC : FnScope nTakeC ["self", "line"] (defScope sTakeC) := ⟨rfl, rfl, rfl, by decide +kernel, rfl, by decide +kernel, by decide +kernel⟩
theorem scTake : FnScope ["self", "line"] ["self", "line"] (defScope sTake) := ⟨rfl, rfl, rfl, by decide +kernel, rfl, by decide +kernel, by decide +kernel⟩
section
variable {P : Program} {w : World} {K : PySem.W.Frag} {mg : Str → Option Value} {base : Heap} {CR CT : Addr}
theorem ok_take {f : Addr} {fd : FuncData} {k : Nat} (F : Fun K "take" "Reader.take" sTake f fd) (c : RdC K CR) (rT : Rt P w K mg base CR "_take_class" k ["self", "line"] (spTake CR CT)) (nT : True) : FnOk P w K mg base CX0 (k + 1) f fd ["self", "line"] (spTake CR CT) := by
  refine F.ok scTake (fun vs H Q E h => ?_) (fun cdv A outer s H vs Q E hr h => ?_)
  · obtain ⟨r, d, dr, n, bs, es, ow, me, rfl, _⟩ := h
    rfl
  · have h0 := h
    obtain ⟨r, d, dr, n, bs, es, ow, me, rfl, gn, gb, nd, hb3, hn, hbs, h8, ho8, hr', hdb, q⟩ := h
    refine ⟨_, pss_cons (ps_if (pt_val (pe_m1 PySem.F.slot_str_startswith PySem.F.type_str_startswith mt_startswith (pv 1) pe_str)) (pss_one ps_never) pss_nil)
      (pss_cons (ps_if (pt_val (pe_m1 PySem.F.slot_str_startswith PySem.F.type_str_startswith mt_startswith (pv 1) pe_str)) (pss_one ps_never) pss_nil)
      (pss_one (ps_ret (pe_rt (pv 0) c.cl rT hr (Nat.le_refl _) (pa_cons (pv 1) pa_nil))))), ?_⟩
    have hs : ∀ m : List Nat, startsL (cline n bs) (32 :: m) = false := fun m => by
      unfold startsL
      rw [Bool.and_eq_false_iff]
      refine .inr ?_
      have e : (cline n bs).take (32 :: m).length = 99 :: ((cline n bs).drop 1).take m.length := rfl
      rw [e]
      exact beq_eq_false_iff_ne.mpr fun z => by cases z
    refine q_when (b := false) (et_is (et_B (ev_startsS (M := [32, 32, 32, 32, 32, 32, 32, 32]) (ev_var rfl) ev_c)) (hs _)) (fun z => nomatch z) fun _ H1 f1 => ?_
    refine q_when (b := false) (et_is (et_B (ev_startsS (M := [32, 32, 32, 32]) (ev_var rfl) ev_c)) (hs _)) (fun z => nomatch z) fun _ H2 f2 => ?_
    have e2 := f1.trans f2
    refine ⟨_, rfl, r, dr, _, rfl, e2 _ _ hr', rfl, _, rfl, ?_⟩
    refine ⟨r, d, dr, n, bs, es, ow, me, rfl, gn, gb, nd, hb3, hn, hbs, h8, ho8, e2 _ _ hr', hdb.ex e2, ?_⟩
    cases q2 : merge (rowsB es bs) with
    | none =>
      rw [q2] at q
      exact fun H' ex => q H' (e2.trans ex)
    | some m =>
      rw [q2] at q
      exact fun H' e h1 h2 ex => q H' e h1 h2 ((ext_ex e2).trans ex)
end
end Hy
/-! module HyTakeC -/
set_option maxHeartbeats 4000000
/-! Reader._take_class for class lines. -/
namespace Hy
open PySem PySem.Spec PyProof.Rows L2 Evl Hc Hs
theorem countP_one {bs : List Nm} (nd : bs.Nodup) {b : Nm} (hb : b ∈ bs) : ((bs.map sv).countP fun z => eqV z (sv b)) = 1 := by
  have e : ((bs.map sv).countP fun z => eqV z (sv b)) = bs.count b := by
    rw [List.countP_map]
    unfold List.count
    apply List.countP_congr
    intro x _
    show (S x == S b) = true ↔ (x == b) = true
    rw [beq_iff_eq, beq_iff_eq]
    exact ⟨fun z => S_inj z, fun z => z ▸ rfl⟩
  rw [e]
  rw [nd.count, if_pos hb]
theorem ev_cnt {K : PySem.W.Frag} {σ : L2.St} {H : Hp} {to te : TE} {p : Addr} {ys : List V} {y : V} (h1 : Ev to σ H (.ref p)) (h2 : Ev te σ H y) (hp : SqL K H p ys) (fy : flatV y = true) (fys : ys.all flatV = true) : Ev (tBM K "list" (rCntF K) to (tCons te tNil)) σ H (.int ((ys.countP fun z => eqV z y : Nat) : Int)) := fun H1 e Q q =>
  h1 H1 e _ fun H2 e2 => ⟨.inl ⟨rfl, ys, ex_l (e.trans e2) hp⟩, h2 H2 (e.trans e2) _ fun H3 e3 => ⟨p, ys, y, rfl, rfl, ex_l ((e.trans e2).trans e3) hp, fy, fys, q H3 (e2.trans e3)⟩⟩
theorem all_true (n : Nat) : ((List.replicate n true).all id) = true := by
  rw [List.all_eq_true]
  intro x hx
  rw [(List.mem_replicate.mp hx).2]
  rfl
theorem total_app (as bs : Rows Nm) : total (as ++ bs) = total as + total bs := by
  unfold total
  rw [List.map_append, List.sum_append]
theorem total_le {m : Nat} : ∀ {as : Rows Nm}, (∀ a ∈ as, a.length ≤ m) → total as ≤ as.length * m
  | [], _ => by simp [total]
  | a :: as, h => by
    have h1 := h a List.mem_cons_self
    have h2 := total_le (as := as) fun x hx => h x (List.mem_cons_of_mem _ hx)
    unfold total at *
    rw [List.map_cons, List.sum_cons, List.length_cons, Nat.add_mul, Nat.one_mul]
    omega
theorem ord_len {es : List Ent} (h : ∀ e ∈ es, e.ord.length ≤ 8) (b : Nm) : (ordOf es b).length ≤ 8 := by
  unfold ordOf
  cases q : entOf es b with
  | none => simp
  | some e => exact h e (List.mem_of_find?_eq_some q)
theorem q_dput {σ : L2.St} {H : Hp} {D : Ends} {tz : TS} {td ty tv : TE} {d : Addr} {kvs : List (Key × V)} {n : Nm} {v : V} (h1 : Ev tv σ H v) (h2 : Ev td σ H (.ref d)) (h3 : Ev ty σ H (sv n)) (hd : H d = some (.dK kvs)) (hl : kvs.length < 100000)
    (k : ∀ H1, Ex H H1 → tz D σ (upd H1 d (.dK (putK kvs (kN n) v)))) : tSeq (sDPut td ty tv) tz D σ H :=
  h1 H (Ex.refl H) _ fun H1 e1 => h2 H1 e1 _ fun H2 e2 => h3 H2 (e1.trans e2) _ fun H3 e3 => ⟨d, _, rfl, DPut.k (k := kN n) (((e1.trans e2).trans e3) _ _ hd) (sz_lt hl), k H3 ((e1.trans e2).trans e3)⟩
theorem merge_len {rs : Rows Nm} {m : List Nm} (h : merge rs = some m) : m.length ≤ total rs := by
  have := mergeN_len _ _ _ h
  rw [total_full] at this
  exact this
section
variable {P : Program} {w : World} {K : PySem.W.Frag} {mg : Str → Option Value} {base : Heap} {CR CT : Addr}
theorem ok_takeC {f : Addr} {fd : FuncData} {k : Nat} (F : Fun K "_take_class" "Reader._take_class" sTakeC f fd) (T : LibP mg) (c : RdC K CR) (ct : CtC K CT) (rR : Rd P w K mg base "read_class_line" k ["line"] spRead) (rM : Rd P w K mg base "merged" k ["rows"] (spMerged K)) (rC : Rm P w K mg base "ClassText" CT 1 ["self", "name", "lineage"] (spCt CT)) (hk : 2 ≤ k) :
    FnOk P w K mg base CX0 (k + 1) f fd ["self", "line"] (spTake CR CT) := by
  refine F.ok scTakeC (fun vs H Q E h => ?_) (fun cdv A outer s H vs Q E hr h => ?_)
  · obtain ⟨r, d, dr, n, bs, es, ow, me, rfl, _⟩ := h
    rfl
  · obtain ⟨r, d, dr, n, bs, es, ow, me, rfl, gn, gb, nd, hb3, hn, hbs, h8, ho8, hrr, hdb, q⟩ := h
    obtain ⟨tk8, hC⟩ := T.mC
    have hu := hu_of hr
    refine ⟨_, pss_cons (ps_set (i := 2) scTakeC.nd rfl (.inl rfl) (pe_rd rR hr (Nat.le_refl _) (by rfl) (pa_cons (pv 1) pa_nil)))
      (pss_cons (ps_if (PW.pt (pw_or (pt_cmpR op_isN (pv 2) pe_non (nomark _)) (pw_or (pt_cmp (pc_din hu (pe_ix ix_tup (pv 2) pe_int (fun _ _ => rfl)) (pe_fld (pv 0) (by rfl)))) (pw_or1 (pt_cmpR op_eq (pe_callB call_lenD (by rfl) T.len PySem.boot_len (pa_cons (pe_fld (pv 0) (by rfl)) pa_nil)) (pe_glob (v := .int 8) (by rfl) hC ⟨_, rfl⟩) (nomark _)))))) (pss_one (ps_ret pe_bl)) pss_nil)
      (pss_cons (ps_asg (pv 2) (pg_tup (by rfl) (pgs_cons (pg_name (i := 3) scTakeC.nd rfl (.inl rfl)) (pgs_cons (pg_name (i := 4) scTakeC.nd rfl (.inr rfl)) pgs_nil))))
      (pss_cons (ps_if (pt_not (pt_val (pe_callB (cr_all rfl) (by rfl) T.all boot_all (pa_cons (pe_lc (own := [("base", 6)]) (g := gName 6) (tt := tYes) rfl scTakeC.nd (pi_list (pv 4)) (blkOk_by (N := nTakeC) (sc := defScope sTakeC) (by decide +kernel)) (fun _ _ _ _ _ => pg_name (i := 6) scTakeC.nd rfl (.inl rfl)) (fun _ _ _ _ _ => pts_nil)
          (fun _ _ _ _ _ => pe_and (pe_cmp (pc_din hu (pv 6) (show PE _ _ (tFld K (tVar 0) "classes") from pe_fld (pv 0) (by rfl))) rfl) (pe_one (pe_cmpR op_eq (show PE _ _ (tBM K "list" (rCntF K) (tVar 4) (tCons (tVar 6) tNil)) from pe_bm PySem.F.plainAttrs_list PySem.F.slot_list_count PySem.F.type_list_count mt_countF (pv 4) (pa_cons (pv 6) pa_nil)) pe_int (nomark _))))) pa_nil)))) (pss_one (ps_ret pe_bl)) pss_nil)
      (pss_cons (ps_set (i := 5) scTakeC.nd rfl (.inl rfl) (pe_rd rM hr (Nat.le_refl _) (by rfl) (pa_cons (pe_op op_cat (pe_lc (own := [("base", 6)]) (g := gName 6) (tt := tYes) rfl scTakeC.nd (pi_list (pv 4)) (blkOk_by (N := nTakeC) (sc := defScope sTakeC) (by decide +kernel)) (fun _ _ _ _ _ => pg_name (i := 6) scTakeC.nd rfl (.inl rfl)) (fun _ _ _ _ _ => pts_nil)
          (fun _ _ _ _ _ => show PE _ _ (tFld K (tDGet (tFld K (tVar 0) "classes") (tVar 6)) "lineage") from pe_fld (pe_dget hu (pe_fld (pv 0) (by rfl)) (pv 6) (fun _ _ => rfl)) (by rfl))) (pe_lst (pa_cons (pv 4) pa_nil))) pa_nil)))
      (pss_cons (ps_if (pt_cmpR op_isN (pv 5) pe_non (nomark _)) (pss_one (ps_ret pe_bl)) pss_nil)
      (pss_cons (ps_fld (pv 0) (pe_rm rC hr hk (by rfl) (pa_cons (pv 3) (pa_cons (pe_op op_cat (pe_lst (pa_cons (pv 3) pa_nil)) (pv 5)) pa_nil))) (by rfl))
      (pss_cons (ps_fld (pv 0) pe_non (by rfl))
      (pss_cons (ps_dput hu (pe_fld (pv 0) (by rfl)) (pv 3) (pe_fld (pv 0) (by rfl)) (by rfl))
      (pss_one (ps_ret pe_bl)))))))))), ?_⟩
    -- head
    refine q_asgX ?_
    refine ⟨_, rfl, n, bs, rfl, gn, gb, hb3, fun t l H1 nt nl e1 ht hl => ?_⟩
    have hlk : (rdF d ow me).lookup ("classes" : Str) = some (.ref d) := rfl
    -- the test
    refine q_when (b := false) (et_is (et_or (et_test (ev_nonR (ev_var rfl))) fun _ => et_or (et_B (ev_din (n := n) (kvs := kvsOf es) (ev_op (ev_var rfl) ev_c (rv_ixT (st_of ht) (atI_nat (j := 0) rfl))) (ev_fld (ev_var rfl) (e1 _ _ hrr) c.cl c.nC hlk) (e1 _ _ hdb.1))) fun _ => et_test (ev_eqI (ev_lenD (kvs := kvsOf es) (ev_fld (ev_var rfl) (e1 _ _ hrr) c.cl c.nC hlk) (e1 _ _ hdb.1)) ev_c)) (by
      rw [val_kvs, ent_none hn, decide_eq_false (by unfold kvsOf; rw [List.length_map]; omega)]
      rfl)) (fun z => nomatch z) fun _ H2 f2 => ?_
    refine q_asgG ?_
    refine ⟨_, rfl, t, _, rfl, st_of (f2 _ _ ht), rfl, _, _, rfl, _, _, rfl, rfl, ?_⟩
    show tSeq _ _ _ [some (.ref r), some (sv (cline n bs)), some (.ref t), some (sv n), some (.ref l), none, none] H2
    have e2 := e1.trans f2
    have hl2 := f2 _ _ hl
    -- the bases
    refine q_when (b := false) (et_is (et_not (et_B (ev_all (bs := List.replicate bs.length true) ?_))) (by rw [all_true]; rfl)) (fun z => nomatch z) fun _ H3 f3 => ?_
    · have z := el_map (K := K) (H := H2) (σ := [some (.ref r), some (sv (cline n bs)), some (.ref t), some (sv n), some (.ref l), none, none]) (a := l) (tl := tVar 4) (te := tAndV (tDIn (tVar 6) (tFld K (tVar 0) "classes")) (tOp rEq (tBM K "list" (rCntF K) (tVar 4) (tCons (tVar 6) tNil)) (tC (.int 1)))) (t := tYes) (j := 6) (vs := [6]) bs sv (fun _ => true) (fun _ => V.bl true) (ev_var rfl) (sq_of hl2) (Nat.le_trans hb3 (by decide)) wipe1 (fun _ _ _ _ => et_yes) (fun b H4 e4 hb _ => by
        obtain ⟨eb, he1, he2, he3⟩ := ent_some (hbs b hb)
        refine Evl.ev_is (ev_andV (a := true) (b := true) (Evl.ev_is (ev_din (n := b) (kvs := kvsOf es) (ev_var rfl) (ev_fld (ev_var rfl) ((e2.trans e4) _ _ hrr) c.cl c.nC hlk) ((e2.trans e4) _ _ hdb.1)) (by rw [val_kvs, he1]; rfl)) fun _ => Evl.ev_is (ev_eqI (b := 1) (ev_cnt (ev_var rfl) (ev_var rfl) (sq_of (e4 _ _ hl2)) rfl (flat_N bs)) ev_c) (by rw [countP_one nd hb]; rfl)) rfl)
      rw [List.filter_eq_self.mpr (fun _ _ => rfl)] at z
      rw [List.map_replicate, ← List.map_const']
      exact z
    -- merged
    refine q_asgX ?_
    have e3 := e2.trans f3
    have hl3 := f3 _ _ hl2
    have hlin : ∀ b ∈ bs, H3 (linOf es b) = some (.lst ((ordOf es b).map sv)) := fun b hb => by
      obtain ⟨eb, he1, he2, he3⟩ := ent_some (hbs b hb)
      have := e3 _ _ (hdb.2 eb he2).2
      unfold linOf ordOf
      rw [he1]
      exact this
    let ns : List Rw := bs.map (fun b => (linOf es b, ordOf es b)) ++ [(l, bs)]
    have hns2 : ns.map (·.2) = rowsB es bs := by
      show (bs.map _ ++ [_]).map _ = _
      rw [List.map_append, List.map_map]
      rfl
    have zl : EvL (tOp rCat (tLc (iList K (tVar 4)) (gName 6) tYes (tFld K (tDGet (tFld K (tVar 0) "classes") (tVar 6)) "lineage") [6]) (tLst (tCons (tVar 4) tNil))) [some (.ref r), some (sv (cline n bs)), some (.ref t), some (sv n), some (.ref l), none, none] H3 (ns.map rf) := by
      have z := el_map (K := K) (H := H3) (σ := [some (.ref r), some (sv (cline n bs)), some (.ref t), some (sv n), some (.ref l), none, none]) (a := l) (tl := tVar 4) (te := tFld K (tDGet (tFld K (tVar 0) "classes") (tVar 6)) "lineage") (t := tYes) (j := 6) (vs := [6]) bs sv (fun _ => true) (fun b => V.ref (linOf es b)) (ev_var rfl) (sq_of hl3) (Nat.le_trans hb3 (by decide)) wipe1 (fun _ _ _ _ => et_yes) (fun b H4 e4 hb _ => by
        obtain ⟨eb, he1, he2, he3⟩ := ent_some (hbs b hb)
        obtain ⟨⟨dx, fd, dd, hcl⟩, _⟩ := hdb.2 eb he2
        have hlo : linOf es b = eb.lin := by
          unfold linOf
          rw [he1]
        rw [hlo]
        exact ev_fld (ev_dget (n := b) (kvs := kvsOf es) (ev_fld (ev_var rfl) ((e3.trans e4) _ _ hrr) c.cl c.nC hlk) (ev_var rfl) ((e3.trans e4) _ _ hdb.1) (by rw [val_kvs, he1]; rfl)) ((e3.trans e4) _ _ hcl) ct.cl ct.nL rfl)
      rw [List.filter_eq_self.mpr (fun _ _ => rfl)] at z
      have ens : ns.map rf = bs.map (fun b => V.ref (linOf es b)) ++ [V.ref l] := by
        show (bs.map _ ++ [_]).map _ = _
        rw [List.map_append, List.map_map]
        rfl
      rw [ens]
      exact el_cat z (el_lst (ea_cons (ev_var rfl) ea_nil) (show 1 ≤ 100000 by decide)) (by
        rw [List.length_map]
        show bs.length + 1 ≤ 100000
        omega)
    refine zl H3 (Ex.refl H3) _ fun pa H4 npa f4 hpa => ?_
    have e4 := e3.trans f4
    have ro : RowsOk H4 ns := fun m hm => by
      rcases List.mem_append.mp hm with hm | hm
      · obtain ⟨b, hb, rfl⟩ := List.mem_map.mp hm
        exact f4 _ _ (hlin b hb)
      · rw [List.mem_singleton] at hm
        subst hm
        exact f4 _ _ hl3
    have tot : total (ns.map (·.2)) ≤ 1000 := by
      rw [hns2]
      unfold rowsB
      rw [total_app]
      have h1 := total_le (as := bs.map (ordOf es)) (m := 8) fun a ha => by
        obtain ⟨b, _, rfl⟩ := List.mem_map.mp ha
        exact ord_len ho8 b
      rw [List.length_map] at h1
      have h2 : total [bs] = bs.length := by simp [total]
      omega
    refine ⟨pa, ns, rfl, sq_of hpa, ro, ?_, tot, ?_⟩
    · show (bs.map _ ++ [_]).length ≤ 1000
      rw [List.length_append, List.length_map]
      show bs.length + 1 ≤ 1000
      omega
    rw [hns2]
    cases hm : merge (rowsB es bs) with
    | none =>
      rw [hm] at q
      intro H5 f5
      refine q_when (b := true) (et_test (ev_isN (o := none) (ev_var rfl))) (fun _ H6 f6 => ?_) (fun z => nomatch z)
      exact s_ret ev_c fun H7 f7 => q H7 (((e4.trans f5).trans f6).trans f7)
    | some m =>
      rw [hm] at q
      intro p H5 np f5 hp
      refine q_when (b := false) (et_test (ev_nonR (ev_var rfl))) (fun z => nomatch z) fun _ H6 f6 => ?_
      have e6 := (e4.trans f5).trans f6
      have hp6 := f6 _ _ hp
      show tSeq _ _ _ [some (.ref r), some (sv (cline n bs)), some (.ref t), some (sv n), some (.ref l), some (.ref p), none] H6
      have hrr6 := e6 _ _ hrr
      have hd6 := e6 _ _ hdb.1
      have hz : ([sv n] : List V).length + (m.map sv).length ≤ 100000 := by
        have F := fine (rs := rowsB es bs) (m := m)
        have hl := merge_len hm
        have h2 : total (rowsB es bs) ≤ 1000 := by rw [← hns2]; exact tot
        rw [List.length_map]
        show 1 + m.length ≤ 100000
        omega
      refine ⟨_, rfl, ?_⟩
      refine el_catR (xs := [sv n]) (ys := m.map sv) (el_lst (ea_cons (ev_var rfl) ea_nil) (show 1 ≤ 100000 by decide)) (ev_var rfl) hp6 hz H6 (Ex.refl H6) _ fun pl H7 npl f7 hpl => ?_
      intro x dx nx ndx ne
      refine ⟨x, dx, n, pl, rfl, upd_same, fun H8 fd8 dd8 ex8 hx8 => ⟨rfl, _, rfl, ?_⟩⟩
      have e7 := e6.trans f7
      have e78 : Ex H7 H8 := fun b o hb => by
        have b1 : b ≠ x := ne_of_none hb nx
        have b2 : b ≠ dx := ne_of_none hb ndx
        exact ex8 b o (by rw [upd_ne b1, upd_ne b2]; exact hb) b1
      have e8 := e7.trans e78
      have hrr8 := e8 _ _ hrr
      have hd8 := e8 _ _ hdb.1
      have hpl8 := e78 _ _ hpl
      have xr : x ≠ r := fun z => by
        rw [z, e7 _ _ hrr] at nx
        cases nx
      have xd : x ≠ d := fun z => by
        rw [z, e7 _ _ hdb.1] at nx
        cases nx
      have plr : pl ≠ r := fun z => by
        rw [z, hrr6] at npl
        cases npl
      have pld : pl ≠ d := fun z => by
        rw [z, hd6] at npl
        cases npl
      have dr' : d ≠ r := fun z => by
        have h1 := hdb.1
        rw [z, hrr] at h1
        cases h1
      refine ⟨r, CR, dr, rdF d ow me, rfl, hrr8, c.cl, c.nO, (show 3 < 1000 by decide), ?_⟩
      refine q_fldV ev_c (ev_var rfl) upd_same c.cl c.nM (show 3 < 1000 by decide) fun H9 f9 => ?_
      have hr10 : (upd H9 r (.ins CR dr (putF "_method" V.non (putF "_owner" (V.ref x) (rdF d ow me))))) r = some (.ins CR dr (rdF d (.ref x) .non)) := upd_same
      have ext10 : Hc.Ext (fun b => b = r ∨ b = d) H8 (upd H9 r (.ins CR dr (putF "_method" V.non (putF "_owner" (V.ref x) (rdF d ow me))))) := (Ext.put (.inl rfl)).trans (stepE f9 (.inl rfl))
      have hd10 : (upd H9 r (.ins CR dr (putF "_method" V.non (putF "_owner" (V.ref x) (rdF d ow me))))) d = some (.dK (kvsOf es)) := by
        rw [upd_ne dr']
        refine f9 _ _ ?_
        rw [upd_ne dr']
        exact hd8
      generalize upd H9 r (.ins CR dr (putF "_method" V.non (putF "_owner" (V.ref x) (rdF d ow me)))) = H10 at hr10 ext10 hd10 ⊢
      refine q_dput (n := n) (kvs := kvsOf es) (v := .ref x) (ev_fld (fs := rdF d (.ref x) .non) (ev_var rfl) hr10 c.cl c.nO rfl) (ev_fld (fs := rdF d (.ref x) .non) (ev_var rfl) hr10 c.cl c.nC rfl) (ev_var rfl) hd10 (by unfold kvsOf; rw [List.length_map]; omega) fun H12 f12 => ?_
      rw [putK_new (v := V.ref x) (by rw [val_kvs, ent_none hn]; rfl)]
      refine s_ret ev_c fun H13 f13 => ?_
      have ext13 : Hc.Ext (fun b => b = r ∨ b = d) H8 H13 := ((ext10.trans (ext_ex f12)).trans (Ext.put (.inr rfl))).trans (ext_ex f13)
      refine q H13 ⟨n, x, pl, n :: m⟩ rfl rfl ((ext_ex e8).trans ext13) ?_ ⟨?_, fun e he => ?_⟩
      · refine f13 _ _ ?_
        rw [upd_ne (Ne.symm dr')]
        exact f12 _ _ hr10
      · refine f13 _ _ ?_
        rw [upd_same]
        unfold kvsOf
        rw [List.map_append]
        rfl
      · rcases List.mem_append.mp he with he | he
        · obtain ⟨⟨dx', fd', dd', h1⟩, h2⟩ := hdb.2 e he
          have far : ∀ b, b = r ∨ b = d → H b ≠ some (.lst (e.ord.map sv)) ∧ H b ≠ some (.ins CT dx' (ctF e.nm e.lin fd' dd')) := fun b hb => by
            rcases hb with hb | hb
            · rw [hb, hrr]
              refine ⟨fun z => (by cases z), fun z => ?_⟩
              injection z with z
              injection z with _ _ z
              injection z with z _
              injection z with z _
              exact absurd z (by decide)
            · rw [hb, hdb.1]
              exact ⟨fun z => (by cases z), fun z => (by cases z)⟩
          exact ⟨⟨dx', fd', dd', ext13 _ _ (e8 _ _ h1) fun hb => (far _ hb).2 h1⟩, ext13 _ _ (e8 _ _ h2) fun hb => (far _ hb).1 h2⟩
        · rw [List.mem_singleton] at he
          subst he
          exact ⟨⟨dx, fd8, dd8, ext13 _ _ hx8 fun hb => hb.elim xr xd⟩, ext13 _ _ hpl8 fun hb => hb.elim plr pld⟩
end
end Hy
/-! module HwCopied -/
set_option maxHeartbeats 4000000
/-! copied_part. -/
namespace Hs
open PySem PySem.Spec PyProof.Rows L2 Evl Hc
theorem sIx_neg (n d k : Nat) (h : 0 < k) : HT.sIx n d (some (-(k : Int))) = n - k := by
  unfold HT.sIx
  dsimp only
  rw [if_pos (by omega)]
  omega
/-- text[i:-k] -/
theorem cut_nm (L : List Nat) (i k : Nat) (h : 0 < k) : cutS (S L) (some (i : Int)) (some (-(k : Int))) = S ((L.drop i).take (L.length - k - i)) := by
  unfold cutS
  rw [HT.sIx_nat, S_len, sIx_neg _ _ _ h]
  congr 2
  show (L.drop (min i L.length)).take (L.length - k - min i L.length) = _
  by_cases hi : i ≤ L.length
  · rw [Nat.min_eq_left hi]
  · rw [Nat.min_eq_right (by omega), List.drop_of_length_le (by omega), List.drop_of_length_le (l := L) (i := i) (by omega)]
    simp
/-- text[-k:] -/
theorem cut_m (L : List Nat) (k : Nat) (h : 0 < k) : cutS (S L) (some (-(k : Int))) none = S (L.drop (L.length - k)) := by
  unfold cutS
  rw [HT.sIx_none, S_len, sIx_neg _ _ _ h]
  congr 2
  show (L.drop (L.length - k)).take (L.length - (L.length - k)) = _
  rw [List.take_of_length_le (by rw [List.length_drop]; exact Nat.le_refl _)]
/-- text[:-k] -/
theorem cut_toM (L : List Nat) (k : Nat) (h : 0 < k) : cutS (S L) none (some (-(k : Int))) = S (L.take (L.length - k)) := by
  unfold cutS
  rw [HT.sIx_none, S_len, sIx_neg _ _ _ h]
  congr 2
def ends3 : List (List Nat) := [[44, 32, 49], [44, 32, 50], [44, 32, 51]]
def lastN (L : List Nat) (k : Nat) : List Nat := L.drop (L.length - k)
/-- what is copied, and by how many floors -/
def copiedPart (L : List Nat) : List Nat × Option Int :=
  if L.getLast? = some 41 then
    let M := (L.drop 5).take (L.length - 1 - 5)
    if lastN M 3 = [44, 32, 49] then (M.take (M.length - 3), some 1) else if lastN M 3 = [44, 32, 50] then (M.take (M.length - 3), some 2) else if lastN M 3 = [44, 32, 51] then (M.take (M.length - 3), some 3) else (M, none)
  else ([], none)
theorem copiedPart_len (L : List Nat) : (copiedPart L).1.length ≤ L.length := by
  unfold copiedPart
  dsimp only
  have h : ∀ k, (((L.drop 5).take (L.length - 1 - 5)).take k).length ≤ L.length := fun k => by
    rw [List.length_take, List.length_take, List.length_drop]
    omega
  split
  · split
    · exact h _
    · split
      · exact h _
      · split
        · exact h _
        · show ((L.drop 5).take _).length ≤ _
          rw [List.length_take, List.length_drop]
          omega
  · exact Nat.zero_le _
def spCopied : Sp := fun vs H Q _ => ∃ L, vs = [.str (S L)] ∧ L.length ≤ cap ∧ ∀ p H', H p = none → Ex H H' → H' p = some (.tup [.str (S (copiedPart L).1), optV V.int (copiedPart L).2]) → Q (.ref p) H'
structure CopP (K : PySem.W.Frag) (mg : Str → Option Value) : Prop where
  int : mg "int" = none
  ce : ∃ r, mg "COPY_ENDS" = some (.ref r) ∧ ∀ H, SqT K H r (ends3.map fun x => V.str (S x))
section
variable {P : Program} {w : World} {K : PySem.W.Frag} {mg : Str → Option Value} {base : Heap}
abbrev nCop : List Str := ["text", "inside"]
theorem scCop : FnScope nCop ["text"] (defScope sCopied) := ⟨rfl, rfl, rfl, by decide +kernel, rfl, by decide +kernel, by decide +kernel⟩
theorem ok_copied {f : Addr} {fd : FuncData} {k : Nat} (F : Fun K "copied_part" "copied_part" sCopied f fd) (T : CopP K mg) : FnOk P w K mg base CX0 (k + 1) f fd ["text"] spCopied := by
  refine F.ok scCop (fun vs H Q E h => ?_) (fun cdv A outer s H vs Q E hr h => ?_)
  · obtain ⟨L, rfl, _⟩ := h
    rfl
  · obtain ⟨L, rfl, hL, q⟩ := h
    obtain ⟨r, hR, hs⟩ := T.ce
    refine ⟨_, pss_cons (ps_if (pt_not (pt_val (pe_m1 PySem.F.slot_str_endswith PySem.F.type_str_endswith mt_endswith (pv 0) pe_str))) (pss_one (ps_ret (pe_tup (pa_cons pe_str (pa_cons pe_non pa_nil))))) pss_nil)
      (pss_cons (ps_set (i := 1) scCop.nd rfl (.inl rfl) (pe_slice sl_str (pv 0) (po_some pe_int) (po_some (pe_un un_neg pe_int))))
      (pss_cons (ps_if (pt_cmpR op_in_seq (pe_slice sl_str (pv 1) (po_some (pe_un un_neg pe_int)) po_none) (pe_glob (v := .ref r) (by rfl) hR rfl) (by rfl))
        (pss_one (ps_ret (pe_tup (pa_cons (pe_slice sl_str (pv 1) po_none (po_some (pe_un un_neg pe_int))) (pa_cons (pe_callTy call_int_str (by rfl) T.int boot_int (pa_cons (pe_slice sl_str (pv 1) (po_some (pe_un un_neg pe_int)) po_none) pa_nil)) pa_nil))))) pss_nil)
      (pss_one (ps_ret (pe_tup (pa_cons (pv 1) (pa_cons pe_non pa_nil))))))), ?_⟩
    refine q_when (et_not (et_B (ev_ends (c := 41) (ev_var rfl) ev_c))) (fun hb H1 f1 => ?_) (fun hb H1 f1 => ?_)
    · refine s_retU (eu_tup (ea_cons ev_c (ea_cons ev_c ea_nil)) (by decide)) fun p H2 np f2 hp => ?_
      have e : copiedPart L = ([], none) := by
        unfold copiedPart
        refine if_neg fun z => ?_
        rw [z] at hb
        cases hb
      rw [e] at q
      exact q p H2 (fresh_back f1 np) (f1.trans f2) hp
    · have hc : L.getLast? = some 41 := by
        revert hb
        cases z : (L.getLast? == some 41) with
        | true => exact fun _ => eq_of_beq z
        | false => exact fun z => by cases z
      have hd : ((L.drop 5).take (L.length - 1 - 5)).length ≤ cap := by
        rw [List.length_take, List.length_drop]
        have : L.length ≤ 30000 := hL
        show _ ≤ 30000
        omega
      refine q_asg (v := .str (S ((L.drop 5).take (L.length - 1 - 5)))) (Evl.ev_is (ev_slS (lo := some ((5 : Nat) : Int)) (ev_var rfl) (eo_some ev_c) (eo_some (ev_un ev_c ru_neg)) (by rw [S_len]; exact cap_line hL)) (by rw [show (-1 : Int) = -((1 : Nat) : Int) from rfl, cut_nm _ _ _ (by decide)])) fun H2 f2 => ?_
      have e : copiedPart L = (let M := (L.drop 5).take (L.length - 1 - 5); if lastN M 3 = [44, 32, 49] then (M.take (M.length - 3), some 1) else if lastN M 3 = [44, 32, 50] then (M.take (M.length - 3), some 2) else if lastN M 3 = [44, 32, 51] then (M.take (M.length - 3), some 3) else (M, none)) := if_pos hc
      rw [e] at q
      dsimp only at q
      generalize (L.drop 5).take (L.length - 1 - 5) = M at q hd ⊢
      refine q_when (et_test (ev_in (Ls := ends3) (L := lastN M 3) (Evl.ev_is (ev_slS (ev_var rfl) (eo_some (ev_un ev_c ru_neg)) eo_none (by rw [S_len]; exact cap_line hd)) (by rw [show (-3 : Int) = -((3 : Nat) : Int) from rfl, cut_m _ _ (by decide)]; rfl)) ev_c hs)) (fun hi H3 f3 => ?_) (fun hi H3 f3 => ?_)
      · have hm : lastN M 3 = [44, 32, 49] ∨ lastN M 3 = [44, 32, 50] ∨ lastN M 3 = [44, 32, 51] := by
          have z : lastN M 3 ∈ ends3 := by
            rw [← List.contains_iff_mem]
            exact hi
          simpa [ends3] using z
        have h31 : ∀ (a b c : Nat), lastN M 3 = [a, b, c] → lastN M 1 = [c] := fun a b c h => by
          unfold lastN at h ⊢
          have hl := congrArg List.length h
          rw [List.length_drop] at hl
          have hl' : M.length - (M.length - 3) = 3 := hl
          have h2 := congrArg (List.drop 2) h
          rw [List.drop_drop] at h2
          have e3 : M.length - 3 + 2 = M.length - 1 := by omega
          rw [e3] at h2
          exact h2
        rcases hm with h3 | h3 | h3
        · rw [h3] at q
          have h1 := h31 _ _ _ h3
          refine s_retU (eu_tup (ea_cons (show Ev _ _ _ (.str (S (M.take (M.length - 3)))) from Evl.ev_is (ev_slS (ev_var rfl) eo_none (eo_some (ev_un ev_c ru_neg)) (by rw [S_len]; exact cap_line hd)) (by rw [show (-3 : Int) = -((3 : Nat) : Int) from rfl, cut_toM _ _ (by decide)])) (ea_cons (ev_intS (n := 1) (L := lastN M 1) (Evl.ev_is (ev_slS (ev_var rfl) (eo_some (ev_un ev_c ru_neg)) eo_none (by rw [S_len]; exact cap_line hd)) (by rw [show (-1 : Int) = -((1 : Nat) : Int) from rfl, cut_m _ _ (by decide)]; rfl)) (by rw [h1]; decide +kernel) (by rw [h1]; decide)) ea_nil)) (show 2 ≤ 100000 by decide)) fun p H4 np f4 hp => ?_
          exact q p H4 (fresh_back ((f1.trans f2).trans f3) np) (((f1.trans f2).trans f3).trans f4) hp
        · rw [h3] at q
          have h1 := h31 _ _ _ h3
          refine s_retU (eu_tup (ea_cons (show Ev _ _ _ (.str (S (M.take (M.length - 3)))) from Evl.ev_is (ev_slS (ev_var rfl) eo_none (eo_some (ev_un ev_c ru_neg)) (by rw [S_len]; exact cap_line hd)) (by rw [show (-3 : Int) = -((3 : Nat) : Int) from rfl, cut_toM _ _ (by decide)])) (ea_cons (ev_intS (n := 2) (L := lastN M 1) (Evl.ev_is (ev_slS (ev_var rfl) (eo_some (ev_un ev_c ru_neg)) eo_none (by rw [S_len]; exact cap_line hd)) (by rw [show (-1 : Int) = -((1 : Nat) : Int) from rfl, cut_m _ _ (by decide)]; rfl)) (by rw [h1]; decide +kernel) (by rw [h1]; decide)) ea_nil)) (show 2 ≤ 100000 by decide)) fun p H4 np f4 hp => ?_
          exact q p H4 (fresh_back ((f1.trans f2).trans f3) np) (((f1.trans f2).trans f3).trans f4) hp
        · rw [h3] at q
          have h1 := h31 _ _ _ h3
          refine s_retU (eu_tup (ea_cons (show Ev _ _ _ (.str (S (M.take (M.length - 3)))) from Evl.ev_is (ev_slS (ev_var rfl) eo_none (eo_some (ev_un ev_c ru_neg)) (by rw [S_len]; exact cap_line hd)) (by rw [show (-3 : Int) = -((3 : Nat) : Int) from rfl, cut_toM _ _ (by decide)])) (ea_cons (ev_intS (n := 3) (L := lastN M 1) (Evl.ev_is (ev_slS (ev_var rfl) (eo_some (ev_un ev_c ru_neg)) eo_none (by rw [S_len]; exact cap_line hd)) (by rw [show (-1 : Int) = -((1 : Nat) : Int) from rfl, cut_m _ _ (by decide)]; rfl)) (by rw [h1]; decide +kernel) (by rw [h1]; decide)) ea_nil)) (show 2 ≤ 100000 by decide)) fun p H4 np f4 hp => ?_
          exact q p H4 (fresh_back ((f1.trans f2).trans f3) np) (((f1.trans f2).trans f3).trans f4) hp
      · have hm : lastN M 3 ∉ ends3 := by
          rw [← List.contains_iff_mem, hi]
          exact Bool.false_ne_true
        have h0 : lastN M 3 ≠ [44, 32, 49] := fun z => hm (z ▸ by decide)
        have h1 : lastN M 3 ≠ [44, 32, 50] := fun z => hm (z ▸ by decide)
        have h2 : lastN M 3 ≠ [44, 32, 51] := fun z => hm (z ▸ by decide)
        rw [if_neg h0, if_neg h1, if_neg h2] at q
        refine s_retU (eu_tup (ea_cons (ev_var rfl) (ea_cons ev_c ea_nil)) (show 2 ≤ 100000 by decide)) fun p H4 np f4 hp => ?_
        exact q p H4 (fresh_back ((f1.trans f2).trans f3) np) (((f1.trans f2).trans f3).trans f4) hp
end
end Hs
/-! module HsShape -/
set_option maxHeartbeats 4000000
/-! Shape(text), its fields and properties. -/
namespace Hs
open PySem PySem.Spec PyProof.Rows L2 Evl Hc
/-! ### evaluations whose value is told by a relation -/
def EvR (te : TE) (σ : L2.St) (H : Hp) (R : V → Hp → Prop) : Prop := ∀ H1, Ex H H1 → ∀ Q : VK, (∀ v H2, Ex H1 H2 → R v H2 → Q v H2) → te σ H1 Q
/-- item by item -/
def All2 {α : Type} (R : α → V → Hp → Prop) (ns : List α) (xs : List V) (H : Hp) : Prop := xs.length = ns.length ∧ ∀ (i : Nat) (n : α) (x : V), ns[i]? = some n → xs[i]? = some x → R n x H
/-- what stays: no list, and of the instances those with four fields -/
def Gd (o : HO) : Prop := (∀ xs, o ≠ .lst xs) ∧ ∀ C dx fs, o = .ins C dx fs → fs.length = 4
def NL (H H' : Hp) : Prop := ∀ b o, H b = some o → Gd o → H' b = some o
theorem NL.refl (H : Hp) : NL H H := fun _ _ h _ => h
theorem NL.trans {H H1 H2 : Hp} (a : NL H H1) (b : NL H1 H2) : NL H H2 := fun c o h n => b c o (a c o h n) n
theorem NL.ex {H H1 : Hp} (a : Ex H H1) : NL H H1 := fun c o h _ => a c o h
theorem NL.upd {H : Hp} {p : Addr} {o u : HO} (h : H p = some o) (n : ¬ Gd o) : NL H (L2.upd H p u) := fun b z e g => by
  rw [upd_ne (fun q => by rw [q, h] at e; exact n (by rw [Option.some.inj e]; exact g))]
  exact e
theorem NL.put {H : Hp} {p : Addr} {xs ys : List V} (h : H p = some (.lst xs)) : NL H (L2.upd H p (.lst ys)) := NL.upd h fun g => g.1 xs rfl
theorem gd_tup {xs : List V} : Gd (.tup xs) := ⟨fun ys z => (by cases z), fun C dx fs z => (by cases z)⟩
theorem NL.seqT {K : PySem.W.Frag} {H H' : Hp} {a : Addr} {xs : List V} (e : NL H H') (h : SqT K H a xs) : SqT K H' a xs := by
  rcases h with (h | ⟨o, h⟩) | h
  · exact .inl (.inl (e _ _ h gd_tup))
  · exact .inl (.inr ⟨o, e _ _ h ⟨fun ys z => (by cases z), fun C dx fs z => (by cases z)⟩⟩)
  · exact .inr h
def ExMon (R : V → Hp → Prop) : Prop := ∀ v H H', NL H H' → R v H → R v H'
theorem All2.ex {α : Type} {R : α → V → Hp → Prop} {ns : List α} {xs : List V} {H H' : Hp} (h : All2 R ns xs H) (m : ∀ n, ExMon (R n)) (e : NL H H') : All2 R ns xs H' := ⟨h.1, fun i n x a b => m n x H H' e (h.2 i n x a b)⟩
theorem All2.nil {α : Type} {R : α → V → Hp → Prop} {H : Hp} : All2 R [] [] H := ⟨rfl, fun i n x a _ => by simp at a⟩
theorem All2.snoc {α : Type} {R : α → V → Hp → Prop} {ns : List α} {n : α} {xs : List V} {x : V} {H : Hp} (h : All2 R ns xs H) (r : R n x H) : All2 R (ns ++ [n]) (xs ++ [x]) H := by
  refine ⟨by rw [List.length_append, List.length_append, h.1]; rfl, fun i m y a b => ?_⟩
  by_cases hi : i < ns.length
  · rw [List.getElem?_append_left hi] at a
    rw [List.getElem?_append_left (by rw [h.1]; exact hi)] at b
    exact h.2 i m y a b
  · rw [List.getElem?_append_right (by omega)] at a
    rw [List.getElem?_append_right (by rw [h.1]; omega), h.1] at b
    obtain ⟨k, hk⟩ : ∃ k, i - ns.length = k := ⟨_, rfl⟩
    rw [hk] at a b
    cases k with
    | zero =>
      simp at a b
      subst a
      subst b
      exact r
    | succ k => simp at a
/-- what a comprehension keeps that makes things -/
def Cr {α : Type} (R : α → V → Hp → Prop) (ns : List α) (H : Hp) (D : Addr) (i : Nat) (H' : Hp) : Prop := H D = none ∧ Ex H H' ∧ ∃ xs, H' D = some (.lst xs) ∧ All2 R (ns.take i) xs H'
section
variable {K : PySem.W.Frag} {σ : L2.St} {H : Hp} {te : TE}
theorem take_succ' {α : Type} {ns : List α} {i : Nat} {n : α} (h : ns[i]? = some n) : ns.take (i + 1) = ns.take i ++ [n] := by
  rw [List.take_add_one, h]
  rfl
theorem cr_turn {α : Type} {R : α → V → Hp → Prop} {ns : List α} {H' : Hp} {D : Addr} {i : Nat} {n : α} {σ2 : L2.St} (m : ∀ n, ExMon (R n)) (p : Cr R ns H D i H') (hn : ns[i]? = some n) (hz : ns.length ≤ 40000) (he : ∀ H1, Ex H H1 → EvR te σ2 H1 (R n)) :
    tYes σ2 H' fun b H3 => if b = true then te σ2 H3 fun y H4 => ∃ acc, H4 D = some (.lst acc) ∧ acc.length < sizeLine ∧ Cr R ns H D (i + 1) (upd H4 D (.lst (acc ++ [y]))) else Cr R ns H D (i + 1) H3 := by
  show te σ2 H' fun y H4 => ∃ acc, H4 D = some (.lst acc) ∧ acc.length < sizeLine ∧ Cr R ns H D (i + 1) (upd H4 D (.lst (acc ++ [y])))
  obtain ⟨p1, p2, xs, p3, p4⟩ := p
  have hi : i < ns.length := (List.getElem?_eq_some_iff.mp hn).1
  refine he H' p2 H' (Ex.refl H') _ fun y H4 e4 r => ⟨xs, e4 _ _ p3, sz_lt (by have := p4.1; rw [List.length_take] at this; omega), p1, (p2.trans e4).mut p1, xs ++ [y], upd_same, ?_⟩
  rw [take_succ' hn]
  have hD := e4 _ _ p3
  exact (p4.ex m ((NL.ex e4).trans (NL.put hD))).snoc (m n _ _ _ (NL.put hD) r)
/-- [te for x in a], a a list, made things told by R -/
theorem er_core {β : Type} {R : β → V → Hp → Prop} {a : Addr} {j : Nat} {vs : List Nat} {H1 : Hp} {D : Addr} {Qd : Hp → Prop} (m : ∀ n, ExMon (R n)) (ns : List β) (ys : List V) (hl : ys.length = ns.length) (hs : ∀ H2, Ex H1 H2 → SqL K H2 a ys) (hz : ns.length ≤ 40000)
    (hw : ∀ x, wipe ((wipe σ vs).set j (some x)) vs = wipe σ vs) (hD : H1 D = none) (he : ∀ (i : Nat) (n : β) (y : V) H2, Ex H1 H2 → ns[i]? = some n → ys[i]? = some y → EvR te ((wipe σ vs).set j (some y)) H2 (R n))
    (q : ∀ xs H2, Ex H1 H2 → H2 D = some (.lst xs) → All2 R ns xs H2 → Qd H2) :
    ∃ W : Nat → Nat → Hp → Prop, (∃ m, W 0 m (upd H1 D (.lst []))) ∧ ∀ i m H, W i m H →
      ((Itl K a).stop i H ∧ Qd H) ∨ ((Itl K a).go i H ∧ ∃ Nx : Hp → Prop, (∀ H', Nx H' → ∃ m', m' < m ∧ W (i + 1) m' H') ∧ ∀ x H', (Itl K a).yld i H x H' → gName j x (wipe σ vs) H' fun σ2 H2 => wipe σ2 vs = wipe σ vs ∧ tYes σ2 H2 fun b H3 =>
        if b = true then te σ2 H3 fun y H4 => ∃ acc, H4 D = some (.lst acc) ∧ acc.length < sizeLine ∧ Nx (upd H4 D (.lst (acc ++ [y]))) else Nx H3) :=
  lc_list (xs := ys) (Cr R ns H1 D) ⟨hD, Ex.new hD, [], upd_same, All2.nil⟩ (fun i H' _ p => hs _ p.2.1) (fun i y H' hi p => by
      obtain ⟨n, hn⟩ : ∃ n, ns[i]? = some n := ⟨_, List.getElem?_eq_getElem (by rw [← hl]; exact (List.getElem?_eq_some_iff.mp hi).1)⟩
      exact ⟨hw y, cr_turn m p hn hz fun H3 e3 => he i n y H3 e3 hn hi⟩)
      (fun H' p => by
        obtain ⟨p1, p2, xs, p3, p4⟩ := p
        rw [List.take_of_length_le (by omega)] at p4
        exact q xs H' p2 p3 p4)
theorem er_lcN {β : Type} {R : β → V → Hp → Prop} {tl : TE} {j : Nat} {vs : List Nat} (m : ∀ n, ExMon (R n)) (ns : List β) (ys : List V) (hl : ys.length = ns.length) (h : EvL tl σ H ys) (hz : ns.length ≤ 40000)
    (hw : ∀ x, wipe ((wipe σ vs).set j (some x)) vs = wipe σ vs) (he : ∀ (i : Nat) (n : β) (y : V) H1, Ex H H1 → ns[i]? = some n → ys[i]? = some y → EvR te ((wipe σ vs).set j (some y)) H1 (R n)) :
    ∀ H1, Ex H H1 → ∀ Q : VK, (∀ p xs H2, H1 p = none → Ex H1 H2 → H2 p = some (.lst xs) → All2 R ns xs H2 → Q (.ref p) H2) → tLc (iList K tl) (gName j) tYes te vs σ H1 Q := fun H0 e Q q =>
  h H0 e _ fun a H1 na e1 hx => ⟨a, rfl, ⟨ys, SqL.of hx⟩, fun D hD =>
    er_core m ns ys hl (fun H2 e2 => SqL.of (e2 _ _ hx)) hz hw hD (fun i n y H2 e2 => he i n y H2 ((e.trans e1).trans e2)) fun xs H2 e2 => q D xs H2 (fresh_back e1 hD) (e1.trans e2)⟩
theorem er_lcL {β : Type} {R : β → V → Hp → Prop} {a : Addr} {tl : TE} {j : Nat} {vs : List Nat} (m : ∀ n, ExMon (R n)) (ns : List β) (ys : List V) (hl : ys.length = ns.length) (h : Ev tl σ H (.ref a)) (hx : SqL K H a ys) (hz : ns.length ≤ 40000)
    (hw : ∀ x, wipe ((wipe σ vs).set j (some x)) vs = wipe σ vs) (he : ∀ (i : Nat) (n : β) (y : V) H1, Ex H H1 → ns[i]? = some n → ys[i]? = some y → EvR te ((wipe σ vs).set j (some y)) H1 (R n)) :
    ∀ H1, Ex H H1 → ∀ Q : VK, (∀ p xs H2, H1 p = none → Ex H1 H2 → H2 p = some (.lst xs) → All2 R ns xs H2 → Q (.ref p) H2) → tLc (iList K tl) (gName j) tYes te vs σ H1 Q := fun H0 e Q q =>
  h H0 e _ fun H1 e1 => ⟨a, rfl, ⟨ys, ex_l (e.trans e1) hx⟩, fun D hD =>
    er_core m ns ys hl (fun H2 e2 => ex_l ((e.trans e1).trans e2) hx) hz hw hD (fun i n y H2 e2 => he i n y H2 ((e.trans e1).trans e2)) fun xs H2 e2 => q D xs H2 (fresh_back e1 hD) (e1.trans e2)⟩
/-- .. over a tuple, the values known by index -/
theorem el_lcT {a : Addr} {xs : List V} {tl : TE} {j : Nat} {vs : List Nat} (v : Nat → V) (h : Ev tl σ H (.ref a)) (hx : SqT K H a xs) (hz : xs.length ≤ 40000) (hw : ∀ x, wipe ((wipe σ vs).set j (some x)) vs = wipe σ vs)
    (he : ∀ (i : Nat) (x : V) H1, Ex H H1 → xs[i]? = some x → Ev te ((wipe σ vs).set j (some x)) H1 (v i)) :
    EvL (tLc (iTup K tl) (gName j) tYes te vs) σ H ((List.range xs.length).map v) := fun H0 e Q q => h H0 e _ fun H1 e1 => ⟨a, rfl, ⟨xs, ex_t (e.trans e1) hx⟩, fun Dl hD =>
  lc_tup (xs := xs) (Cw H1 (fun _ => true) v Dl) ⟨hD, Ex.new hD, upd_same⟩ (fun i H' _ p => ex_t ((e.trans e1).trans p.2.1) hx) (fun i x H' hi p => ⟨hw x, cw_turn p (by have := (List.getElem?_eq_some_iff.mp hi).1; omega) et_yes (fun _ => he i x H1 (e.trans e1) hi)⟩)
    (fun H' p => q Dl H' (fresh_back e1 p.1) (e1.trans p.2.1) (by
      have z := p.2.2
      unfold given at z
      rw [List.filter_eq_self.mpr (fun _ _ => rfl)] at z
      exact z))⟩
end

/-! ### shapes as objects -/
def ShB (K : PySem.W.Frag) (C : Addr) (L : List Nat) (d k : Nat) (xs : List V) (v : V) (H : Hp) : Prop :=
  ∃ a dx p, v = .ref a ∧ H a = some (.ins C dx [("text", .str (S L)), ("_parts", .ref p), ("_depth", .int (d : Int)), ("_lists", .int (k : Int))]) ∧ SqT K H p xs
def ShV (K : PySem.W.Frag) (C : Addr) : (n : Nat) → Tre n → V → Hp → Prop
  | 0, _, v, H => ShB K C [46] 0 0 [] v H
  | n + 1, (l : List (Tre n)), v, H => ∃ xs, ShB K C (txt (n + 1) l) (dep (n + 1) l) (lsts (n + 1) l) xs v H ∧ All2 (fun t v H => ShV K C n t v H) l xs H
def Items (K : PySem.W.Frag) (C : Addr) : (n : Nat) → Tre n → List V → Hp → Prop
  | 0, _, xs, _ => xs = []
  | n + 1, (l : List (Tre n)), xs, H => All2 (fun t v H => ShV K C n t v H) l xs H
theorem shV_iff {K : PySem.W.Frag} {C : Addr} : ∀ (n : Nat) (t : Tre n) (v : V) (H : Hp), ShV K C n t v H ↔ ∃ xs, ShB K C (txt n t) (dep n t) (lsts n t) xs v H ∧ Items K C n t xs H
  | 0, _, v, H => ⟨fun h => ⟨[], h, rfl⟩, fun ⟨xs, h, e⟩ => by
    have e' : xs = [] := e
    subst e'
    exact h⟩
  | n + 1, l, v, H => Iff.rfl
theorem shB_mon {K : PySem.W.Frag} {C : Addr} {L : List Nat} {d k : Nat} {xs : List V} : ExMon (ShB K C L d k xs) := fun v H H' e h => by
  obtain ⟨a, dx, p, hv, ha, hp⟩ := h
  exact ⟨a, dx, p, hv, e _ _ ha ⟨fun ys z => (by cases z), fun C dx fs z => (by cases z; rfl)⟩, e.seqT hp⟩
theorem shV_mon {K : PySem.W.Frag} {C : Addr} : ∀ (n : Nat) (t : Tre n), ExMon (ShV K C n t)
  | 0, t => shB_mon
  | n + 1, l => fun v H H' e h => by
    obtain ⟨xs, h1, h2⟩ := h
    exact ⟨xs, shB_mon v H H' e h1, h2.ex (fun t => shV_mon n t) e⟩
theorem items_mon {K : PySem.W.Frag} {C : Addr} {H H' : Hp} {xs : List V} (e : NL H H') : ∀ (n : Nat) (t : Tre n), Items K C n t xs H → Items K C n t xs H'
  | 0, _, h => h
  | n + 1, l, h => All2.ex (R := fun t v H => ShV K C n t v H) h (fun t => shV_mon n t) e
theorem map_get {α β : Type} (f : α → β) {l : List α} {i : Nat} {x : α} (h : l[i]? = some x) : (l.map f)[i]? = some (f x) := by
  rw [List.getElem?_map, h]
  rfl
def deps : (n : Nat) → Tre n → List Nat
  | 0, _ => []
  | n + 1, (l : List (Tre n)) => l.map (dep n)
theorem items_deps {K : PySem.W.Frag} {C : Addr} {H : Hp} {xs : List V} : ∀ (n : Nat) (t : Tre n), Items K C n t xs H → xs.length = (deps n t).length ∧ ∀ (i : Nat) (y : V), xs[i]? = some y → ∃ a dx fs d, y = .ref a ∧ H a = some (.ins C dx fs) ∧ fs.lookup ("_depth" : Str) = some (.int ((d : Nat) : Int)) ∧ (deps n t)[i]? = some d
  | 0, _, h => by
    have h' : xs = [] := h
    subst h'
    exact ⟨rfl, fun i y e => by simp at e⟩
  | n + 1, l, h => by
    refine ⟨h.1.trans (List.length_map ..).symm, fun i y e => ?_⟩
    have hi : i < List.length l := by rw [← h.1]; exact (List.getElem?_eq_some_iff.mp e).1
    have ht := List.getElem?_eq_getElem hi
    have r := h.2 i _ y ht e
    obtain ⟨zs, ⟨a, dx, p, hv, ha, _⟩, _⟩ := (shV_iff n _ y H).mp r
    refine ⟨a, dx, _, _, hv, ha, rfl, ?_⟩
    exact map_get (dep n) ht
theorem fold_max (ds : List Nat) : ∀ b : Nat, ds.foldl max b ∈ b :: ds ∧ (∀ d ∈ b :: ds, d ≤ ds.foldl max b) := by
  induction ds with
  | nil => exact fun b => ⟨List.mem_cons_self, fun d h => by rw [List.mem_singleton.mp h]; exact Nat.le_refl _⟩
  | cons c r ih =>
    intro b
    obtain ⟨h1, h2⟩ := ih (max b c)
    refine ⟨?_, fun d hd => ?_⟩
    · show r.foldl max (max b c) ∈ _
      rcases List.mem_cons.mp h1 with e | e
      · rw [e]
        rcases Nat.le_total b c with z | z
        · rw [Nat.max_eq_right z]
          exact List.mem_cons_of_mem _ List.mem_cons_self
        · rw [Nat.max_eq_left z]
          exact List.mem_cons_self
      · exact List.mem_cons_of_mem _ (List.mem_cons_of_mem _ e)
    · show d ≤ r.foldl max (max b c)
      have hb := h2 _ List.mem_cons_self
      rcases List.mem_cons.mp hd with e | hd
      · omega
      · rcases List.mem_cons.mp hd with e | hd
        · omega
        · exact h2 d (List.mem_cons_of_mem _ hd)
theorem dep_max : ∀ (n : Nat) (t : Tre n) (m : Int), m ∈ (0 : Int) :: (deps n t).map (fun d => ((d : Nat) : Int) + 1) → (∀ y, y ∈ (0 : Int) :: (deps n t).map (fun d => ((d : Nat) : Int) + 1) → y ≤ m) → m = ((dep n t : Nat) : Int)
  | 0, _, m, h, _ => List.mem_singleton.mp h
  | n + 1, [], m, h, _ => List.mem_singleton.mp h
  | n + 1, x :: l, m, h, hm => by
    show m = ((1 + ((x :: l).map (dep n)).foldl max 0 : Nat) : Int)
    have hd : deps (n + 1) (x :: l : List (Tre n)) = (x :: l).map (dep n) := rfl
    rw [hd] at h hm
    obtain ⟨h1, h2⟩ := fold_max ((x :: l).map (dep n)) 0
    generalize ((x :: l).map (dep n)).foldl max 0 = M at h1 h2
    have up : m ≤ (M : Int) + 1 := by
      rcases List.mem_cons.mp h with e | e
      · omega
      · obtain ⟨d, hd1, rfl⟩ := List.mem_map.mp e
        have := h2 d (List.mem_cons_of_mem _ hd1)
        omega
    have lo : (M : Int) + 1 ≤ m := by
      have hM : M ∈ (x :: l).map (dep n) := by
        rcases List.mem_cons.mp h1 with e | e
        · have := h2 (dep n x) (List.mem_cons_of_mem _ List.mem_cons_self)
          rw [show M = dep n x by omega]
          exact List.mem_cons_self
        · exact e
      exact hm _ (List.mem_cons_of_mem _ (List.mem_map.mpr ⟨M, hM, rfl⟩))
    omega

/-- what of the class the text has -/
structure ShC (K : PySem.W.Frag) (C : Addr) : Prop where
  cl : Cls K C
  ha : PySem.W.findIn K (.ref C) "__class__" = some (some (.builtin "object.__class__"))
  hn : PySem.W.specialIn K (.builtin "object.__class__") "__get__" = some (some (.builtin "getset_descriptor.__get__"))
  htk : PySem.W.takesIn K (.builtin "object.__class__") = some true
  hm : PySem.W.mroIn K C (.type "object") = some true
  nT : NoAttr K C "text"
  nP : NoAttr K C "_parts"
  nD : NoAttr K C "_depth"
  nL : NoAttr K C "_lists"
/-- a property whose getter returns a field -/
structure Pr (P : Program) (w : World) (K : PySem.W.Frag) (mg : Str → Option Value) (base : Heap) (C : Addr) (f fld : Str) (k : Nat) : Prop where
  ex : ∃ (p g : Addr) (fd : FuncData), PropOf K C f p g ∧ Binds K fd ["self"] [] ∧ FnOk P w K mg base CX0 k g fd ["self"] (getSp C fld)
theorem pe_pr {X : Cx} {C : Addr} {f fld : Str} {k j : Nat} {e : Expr} {te : TE} {pos : Pos} (r : Pr X.prog X.w X.K X.mg X.base C f fld k) (c : Cls X.K C) (hr : Room j X.A) (hk : k + 1 ≤ j) (he : PE X e te) (hab : attributeBase e f X.env (eval e X.env) = eval e X.env := by rfl) : PE X (.Attribute e f pos) (tProp C (getSp C fld) [] E0 te) := by
  obtain ⟨p, g, fd, hp, b, G⟩ := r.ex
  exact pe_prop he c hp G (hr.mono hk) b .nil pass0 hab
/-- a class of the text, ready to be called -/
structure Rm (P : Program) (w : World) (K : PySem.W.Frag) (mg : Str → Option Value) (base : Heap) (x : Str) (C : Addr) (k : Nat) (ps : List Str) (sp : Sp) : Prop where
  ex : ∃ (f : Addr) (fd : FuncData), mg x = some (.ref C) ∧ Mk K C f ∧ Binds K fd ps [] ∧ FnOk P w K mg base CX0 k f fd ps sp
theorem Rm.mono {P : Program} {w : World} {K : PySem.W.Frag} {mg : Str → Option Value} {base : Heap} {x : Str} {C : Addr} {j k : Nat} {ps : List Str} {sp : Sp} (r : Rm P w K mg base x C j ps sp) (h : j ≤ k) : Rm P w K mg base x C k ps sp := by
  obtain ⟨f, fd, g, m, b, G⟩ := r.ex
  exact ⟨f, fd, g, m, b, G.mono h⟩
theorem pe_rm {X : Cx} {x : Str} {C : Addr} {k j : Nat} {ps : List Str} {sp : Sp} {e : Expr} {es : List Expr} {ta : TA} {p pos : Pos} (r : Rm X.prog X.w X.K X.mg X.base x C k ps sp) (hr : Room j X.A) (hk : k + 1 ≤ j) (hg : Gl X x) (ha : PA X (e :: es) ta)
    (hdb : (x == ("__debug__" : Str)) = false := by decide) (he : starEach (e :: es) X.env = (false, eval e X.env) :: starEach es X.env := by rfl) (hpl : (backTo pos (starEach es X.env)).any (·.1) = false := by rfl) : PE X (.Call (.Name x p) (e :: es) [] pos) (tMake C sp [] E0 ta) := by
  obtain ⟨f, fd, g1, m, b, G⟩ := r.ex
  exact pe_make m G (hr.mono hk) hg g1 b .nil pass0 ha hdb he hpl
/-- Shape(text) of a tree's text -/
def spInit (K : PySem.W.Frag) (C : Addr) (n : Nat) : Sp := fun vs H Q _ => ∃ (x dx : Addr) (t : Tre n), vs = [.ref x, .str (S (txt n t))] ∧ H x = some (.ins C dx []) ∧ slim n t = true ∧ lsts n t ≤ 5 ∧ (txt n t).length ≤ cap ∧
  ∀ H', Hc.Ext (fun b => b = x) H H' → ShV K C n t (.ref x) H' → Q .non H'
theorem er_make {K : PySem.W.Frag} {σ : L2.St} {H : Hp} {C : Addr} {n : Nat} {ta : TA} (t : Tre n) (ha : EvA ta σ H [.str (S (txt n t))]) (hs : slim n t = true) (hl : lsts n t ≤ 5) (hc : (txt n t).length ≤ cap) : EvR (tMake C (spInit K C n) [] E0 ta) σ H (ShV K C n t) := fun H1 e Q q =>
  ha H1 e _ fun H2 e2 => fun x dx nx nd ne => ⟨x, dx, t, rfl, upd_same, hs, hl, hc, fun H' k r => ⟨rfl, q (.ref x) H' (fun b o hb => by
    have h2 := e2 _ _ hb
    refine k b o ?_ (ne_of_none h2 nx)
    rw [upd_ne (ne_of_none h2 nx), upd_ne (ne_of_none h2 nd)]
    exact h2) r⟩⟩
theorem ev_prop {σ : L2.St} {H : Hp} {C a dx : Addr} {fs : List (Str × V)} {fld : Str} {v : V} {te : TE} (h : Ev te σ H (.ref a)) (ha : H a = some (.ins C dx fs)) (hl : fs.lookup fld = some v) : Ev (tProp C (getSp C fld) [] E0 te) σ H v := fun H1 e Q q =>
  h H1 e _ fun H2 e2 => ⟨a, dx, fs, rfl, e2 _ _ (e _ _ ha), a, dx, fs, v, rfl, e2 _ _ (e _ _ ha), hl, q H2 e2⟩
theorem ev_fld {K : PySem.W.Frag} {σ : L2.St} {H : Hp} {C a dx : Addr} {fs : List (Str × V)} {f : Str} {v : V} {te : TE} (h : Ev te σ H (.ref a)) (ha : H a = some (.ins C dx fs)) (c : Cls K C) (n : NoAttr K C f) (hl : fs.lookup f = some v) : Ev (tFld K te f) σ H v := fun H1 e Q q =>
  h H1 e _ fun H2 e2 => ⟨a, C, dx, fs, v, rfl, e2 _ _ (e _ _ ha), c, n, hl, q H2 e2⟩
/-- o.f = e, then the rest -/
theorem q_fld {K : PySem.W.Frag} {σ : L2.St} {H : Hp} {D : Ends} {tz : TS} {ta tv : TE} {f : Str} {C a dx : Addr} {fs : List (Str × V)} {R : V → Hp → Prop} (hv : EvR tv σ H R) (ho : ∀ H1, Ex H H1 → Ev ta σ H1 (.ref a)) (ha : H a = some (.ins C dx fs)) (c : Cls K C) (n : NoAttr K C f) (hl : fs.length < 1000) (m : ExMon R)
    (k : ∀ y H1, Ex H H1 → R y H1 → tz D σ (upd H1 a (.ins C dx (putF f y fs)))) : tSeq (sFld K ta tv f) tz D σ H :=
  hv H (Ex.refl H) _ fun y H1 e1 r => ho H1 e1 H1 (Ex.refl H1) _ fun H2 e2 => ⟨a, C, dx, fs, rfl, e2 _ _ (e1 _ _ ha), c, n, hl, k y H2 (e1.trans e2) (m y _ _ (NL.ex e2) r)⟩

/-- .. as the last statement -/
theorem s_fld {K : PySem.W.Frag} {σ : L2.St} {H : Hp} {D : Ends} {ta tv : TE} {f : Str} {C a dx : Addr} {fs : List (Str × V)} {R : V → Hp → Prop} (hv : EvR tv σ H R) (ho : ∀ H1, Ex H H1 → Ev ta σ H1 (.ref a)) (ha : H a = some (.ins C dx fs)) (c : Cls K C) (n : NoAttr K C f) (hl : fs.length < 1000) (m : ExMon R)
    (k : ∀ y H1, Ex H H1 → R y H1 → D.nx σ (upd H1 a (.ins C dx (putF f y fs)))) : sFld K ta tv f D σ H := q_fld (tz := tNext) hv ho ha c n hl m k
theorem range_getD {α : Type} (f : Nat → α) : ∀ l : List Nat, (List.range l.length).map (fun i => f (l.getD i 0)) = l.map f := by
  intro l
  apply List.ext_getElem
  · simp
  · intro i h1 h2
    simp at h1
    simp [h1]
theorem deps_len {n : Nat} {t : Tre n} (h : slim n t = true) : (deps n t).length ≤ 40000 := by
  match n, t, h with
  | 0, _, _ => exact Nat.zero_le _
  | n + 1, l, h =>
    have h' : (decide (List.length l ≤ 3) && List.all l (slim n)) = true := h
    rw [Bool.and_eq_true, decide_eq_true_eq] at h'
    exact Nat.le_trans (Nat.le_of_eq (List.length_map (dep n) (as := (l : List (Tre n))))) (Nat.le_trans h'.1 (by decide))
theorem ev_max {K : PySem.W.Frag} {σ : L2.St} {H : Hp} {tl : TE} {ns : List Int} {M : Int} (h : EvL tl σ H (ns.map V.int)) (h0 : 0 < ns.length) (hM : ∀ m, m ∈ ns → (∀ y, y ∈ ns → y ≤ m) → m = M) : Ev (tCB (rMax K) (tCons tl tNil)) σ H (.int M) := fun H1 e Q q =>
  h H1 e _ fun p H2 np e2 hp => ⟨p, ns, rfl, SqL.of hp, h0, fun m hm hm2 => by rw [hM m hm hm2]; exact q H2 e2⟩
theorem er_of {σ : L2.St} {H : Hp} {te : TE} {v : V} (h : Ev te σ H v) : EvR te σ H fun y _ => y = v := fun H1 e Q q => h H1 e Q fun H2 e2 => q _ H2 e2 rfl
theorem mon_eq {v : V} : ExMon fun y _ => y = v := fun _ _ _ _ h => h
theorem ev_isi {K : PySem.W.Frag} {σ : L2.St} {H : Hp} {te tc : TE} {x c : V} {t u : Value} {b : Bool} (h : Ev te σ H x) (hc : Ev tc σ H c) (kc : ClsV c u) (ty : ∀ H1, Ex H H1 → TyX K H1 x t) (hk : PySem.W.kitOne K t u = some b) : Ev (tCB (rIsi K) (tCons te (tCons tc tNil))) σ H (.bl b) :=
  ev_cb (ea_cons h (ea_cons hc ea_nil)) fun H1 e Q q => ⟨x, c, t, u, b, rfl, kc, ty H1 e, hk, q H1 (Ex.refl H1)⟩
theorem el_cat {σ : L2.St} {H : Hp} {ta tb : TE} {xs ys : List V} (ha : EvL ta σ H xs) (hb : EvL tb σ H ys) (hz : xs.length + ys.length ≤ 100000) : EvL (tOp rCat ta tb) σ H (xs ++ ys) := fun H1 e Q q =>
  ha H1 e _ fun p H2 n1 e2 h1 => hb H2 (e.trans e2) _ fun r H3 n2 e3 h2 => ⟨p, r, xs, ys, rfl, rfl, e3 _ _ h1, h2, sz_of hz, fun t nt => q t _ (fresh_back (e2.trans e3) nt) ((e2.trans e3).trans (Ex.new nt)) upd_same⟩
def rTupOf (K : PySem.W.Frag) : List V → Hp → VK → Prop := fun xs H Q => ∃ p ys, xs = [.ref p] ∧ ((SqL K H p ys ∧ ∀ l, H l = none → Q (.ref l) (upd H l (.tup ys))) ∨ (SqT K H p ys ∧ Q (.ref p) H))
/-- tuple(a new list) -/
theorem eru_tuple {K : PySem.W.Frag} {σ : L2.St} {H : Hp} {β : Type} {R : β → V → Hp → Prop} {ns : List β} {tl : TE} (m : ∀ n, ExMon (R n)) (h : ∀ H1, Ex H H1 → ∀ Q : VK, (∀ p xs H2, H1 p = none → Ex H1 H2 → H2 p = some (.lst xs) → All2 R ns xs H2 → Q (.ref p) H2) → tl σ H1 Q) :
    ∀ H1, Ex H H1 → ∀ Q : VK, (∀ u xs H2, H1 u = none → Ex H1 H2 → H2 u = some (.tup xs) → All2 R ns xs H2 → Q (.ref u) H2) → tCB (rTupOf K) (tCons tl tNil) σ H1 Q := fun H1 e Q q =>
  h H1 e _ fun p xs H2 np e2 hp hal => ⟨p, xs, rfl, .inl ⟨SqL.of hp, fun u nu => q u xs _ (fresh_back e2 nu) (e2.trans (Ex.new nu)) upd_same (hal.ex m (NL.ex (Ex.new nu)))⟩⟩
structure TxtS (mg : Str → Option Value) : Prop extends TxtP mg where
  isi : mg "isinstance" = none
  str : mg "str" = none
  tup : mg "tuple" = none
  max : mg "max" = none
abbrev nInit : List Str := ["self", "text", "part"]
abbrev sInit : Stmt := inClass cShape 0
theorem scInit : FnScope nInit ["self", "text"] (defScope sInit) := ⟨rfl, rfl, rfl, by decide +kernel, rfl, by decide +kernel, by decide +kernel⟩
theorem sum_mem {x : Nat} : ∀ {l : List Nat}, x ∈ l → x ≤ l.sum
  | y :: r, h => by
    rw [List.sum_cons]
    rcases List.mem_cons.mp h with rfl | h
    · omega
    · have := sum_mem h
      omega
theorem boot_strT : bootBuiltins "str" = some (.type "str") := by decide +kernel
section
variable {P : Program} {w : World} {K : PySem.W.Frag} {mg : Str → Option Value} {base : Heap}
theorem ok_init1 {f C : Addr} {fd : FuncData} {j n : Nat} {spP : Sp} (F : Fun K "__init__" "Shape.__init__" sInit f fd) (T : TxtS mg) (c : ShC K C) (rI : Rd P w K mg base "is_shape" j ["text"] spShape) (rP : Rd P w K mg base "parts_of" j ["text"] spParts)
    (rD : Pr P w K mg base C "depth" "_depth" 1) (rM : Rm P w K mg base "Shape" C j ["self", "text"] spP) (hj : 1 ≤ j) (hn : n ≤ 3) (hc : n = 0 ∨ ∃ m, n = m + 1 ∧ spP = spInit K C m) :
    FnOk P w K mg base CX0 (j + 2) f fd ["self", "text"] (spInit K C n) := by
  refine F.ok scInit (fun vs H Q E h => ?_) (fun cdv A outer s H vs Q E hr h => ?_)
  · obtain ⟨x, dx, t, rfl, _⟩ := h
    rfl
  · obtain ⟨x, dx, t, rfl, hx, hs, hl5, hcap, q⟩ := h
    refine ⟨_, pss_cons (ps_if (PW.pt (pw_or (pt_not (pt_val (pe_callB call_isi (by rfl) T.isi boot_isinstance (pa_cons (pv 1) (pa_cons (pe_bltn (v := .ty "str") (by rfl) T.str boot_strT rfl) pa_nil))))) (pw_or1 (pt_not (pt_val (pe_rd rI hr (Nat.le_succ j) (by rfl) (pa_cons (pv 1) pa_nil))))))) (pss_one ps_never) pss_nil)
      (pss_cons (ps_fld (pv 0) (pv 1) (by rfl))
      (pss_cons (ps_fld (pv 0) (pe_ifExp (pt_cmpR op_eq (pv 1) pe_str (nomark _)) (pe_tup pa_nil) (pe_callTy call_tuple_of (by rfl) T.tup boot_tuple (pa_cons (pe_lc (own := [("part", 2)]) (g := gName 2) (tt := tYes) rfl scInit.nd (pi_list (pe_rd rP hr (Nat.le_succ j) (by rfl) (pa_cons (pe_slice sl_str (pv 1) (po_some pe_int) (po_some (pe_un un_neg pe_int))) pa_nil)))
          (blkOk_by (N := nInit) (sc := defScope sInit) (by decide +kernel)) (fun _ _ _ _ _ => pg_name (i := 2) scInit.nd rfl (.inl rfl)) (fun _ _ _ _ _ => pts_nil) (fun _ _ _ _ _ => pe_rm rM hr (Nat.le_refl _) (by rfl) (pa_cons (pv 2) pa_nil))) pa_nil))) (by rfl))
      (pss_cons (ps_fld (pv 0) (pe_callB (cr_max rfl) (by rfl) T.max boot_max (pa_cons (pe_op op_cat (pe_lst (pa_cons pe_int pa_nil)) (pe_lc (own := [("part", 2)]) (g := gName 2) (tt := tYes) rfl scInit.nd (pi_tup (pe_fld (pv 0) (by rfl)))
          (blkOk_by (N := nInit) (sc := defScope sInit) (by decide +kernel)) (fun _ _ _ _ _ => pg_name (i := 2) scInit.nd rfl (.inl rfl)) (fun _ _ _ _ _ => pts_nil) (fun _ _ _ _ _ => pe_op op_add (pe_pr rD c.cl hr (Nat.succ_le_succ hj) (pv 2)) pe_int))) pa_nil)) (by rfl))
      (pss_one (ps_fld (pv 0) (pe_m1 PySem.F.slot_str_count PySem.F.type_str_count mt_count (pv 1) pe_str) (by rfl)))))), ?_⟩
    have hsh : isShape (txt n t) = true := by
      unfold isShape
      rw [txt_count, decide_eq_true hl5, form_le hn (txt_form n t hs)]
      rfl
    have hline : (S (txt n t)).length ≤ sizeLine := by rw [S_len]; exact cap_line hcap
    -- the test
    refine q_when (b := false) (et_is (et_or (et_not (et_B (ev_isi (ev_var rfl) ev_c (.ty "str") (fun _ _ => .base (.str _)) (kit_ty rfl)))) fun _ => et_not (et_B (ev_call (ea_cons (ev_var rfl) ea_nil) (sp_shape hcap)))) (by rw [hsh]; rfl)) (fun z => nomatch z) fun _ H1 f1 => ?_
    -- self.text
    refine q_fld (er_of (ev_var rfl)) (fun _ _ => ev_var rfl) (f1 _ _ hx) c.cl c.nT (by show 0 < 1000; decide) mon_eq fun y H2 f2 ry => ?_
    subst ry
    have o2 : Hc.Ext (fun b => b = x) H (upd H2 x (.ins C dx (putF "text" (.str (S (txt n t))) []))) := (Hc.Ext.same (f1.trans f2)).trans (Hc.Ext.put rfl)
    have h2 : (upd H2 x (.ins C dx (putF "text" (.str (S (txt n t))) []))) x = some (.ins C dx [("text", .str (S (txt n t)))]) := upd_same
    generalize upd H2 x (.ins C dx (putF "text" (.str (S (txt n t))) [])) = K2 at o2 h2 ⊢
    -- self._parts
    refine q_fld (R := fun v H => ∃ p xs, v = .ref p ∧ SqT K H p xs ∧ Items K C n t xs H) ?_ (fun _ _ => ev_var rfl) h2 c.cl c.nP (by show 1 < 1000; decide) (fun v H H' e h => by
      obtain ⟨p, xs, h1, h2, h3⟩ := h
      exact ⟨p, xs, h1, e.seqT h2, items_mon e n t h3⟩) fun y H3 f3 ry => ?_
    · intro H3 e3 Q qq
      refine et_test (ev_eqS (a := txt n t) (b := [46]) (ev_var rfl) ev_c) H3 e3 _ fun H4 e4 => ?_
      by_cases hd : txt n t = [46]
      · rw [decide_eq_true hd]
        refine iteT ⟨Nat.zero_le _, fun p np => qq (.ref p) _ (e4.trans (Ex.new np)) ⟨p, [], rfl, SqT.of upd_same, ?_⟩⟩
        match n, t, hd with
        | 0, _, _ => rfl
        | n + 1, [], _ => exact All2.nil
        | n + 1, y :: l, hd => exact absurd hd txt_dot
      · rw [decide_eq_false hd]
        refine iteF ?_
        obtain ⟨m, rfl, rfl⟩ : ∃ m, n = m + 1 ∧ spP = spInit K C m := by
          rcases hc with rfl | h
          · exact absurd rfl hd
          · exact h
        match t, hd, hs, hl5, hcap, hline, qq with
        | [], hd, _, _, _, _, _ => exact absurd rfl hd
        | y0 :: l, hd, hs, hl5, hcap, hline, qq =>
          have hi : (inner (txt (m + 1) (y0 :: l : List (Tre m)))).length ≤ cap := Nat.le_trans (inner_len _) hcap
          have hs' : (decide ((y0 :: l).length ≤ 3) && (y0 :: l).all (slim m)) = true := hs
          rw [Bool.and_eq_true, List.all_eq_true, decide_eq_true_eq] at hs'
          have hpt := parts_txt m y0 l
          have z := eru_tuple (K := K) (fun t => shV_mon m t) (er_lcN (K := K) (j := 2) (vs := [2]) (te := tMake C (spInit K C m) [] E0 (tCons (tVar 2) tNil)) (R := fun t v H => ShV K C m t v H) (σ := [some (.ref x), some (.str (S (txt (m + 1) (y0 :: l : List (Tre m))))), none]) (H := K2) (tl := tCall spParts [] E0 (tCons (tSl rSlS (tVar 1) (tPart (tC (.int 1))) (tPart (tUn (rU fun i => .int (-i)) (tC (.int 1))))) tNil)) (fun t => shV_mon m t) (y0 :: l) (((y0 :: l).map (txt m)).map fun z => V.str (S z)) (by rw [List.length_map, List.length_map]) (by
            rw [← hpt]
            exact el_call (ea_cons (Evl.ev_is (ev_slS (lo := some 1) (hi := some (-1)) (ev_var rfl) (eo_some ev_c) (eo_some (ev_un ev_c ru_neg)) hline) (by rw [cut_in])) ea_nil) (sp_parts hi)) (by omega) wipe1 (fun i n y H5 _ hn hy => ?_))
          · refine z H4 (e3.trans e4) _ fun p xs H5 np e5 hp hal => ?_
            exact qq (.ref p) _ (e4.trans e5) ⟨p, xs, rfl, SqT.of hp, hal⟩
          · have ey : y = V.str (S (txt m n)) := by
              rw [map_get _ (map_get (txt m) hn)] at hy
              exact (Option.some.inj hy).symm
            subst ey
            have hmem := List.mem_of_getElem? hn
            refine er_make n (ea_cons (ev_var rfl) ea_nil) (hs'.2 n hmem) ?_ ?_
            · have e1 : lsts (m + 1) (y0 :: l : List (Tre m)) = 1 + ((y0 :: l).map (lsts m)).sum := rfl
              have e2 := sum_mem (List.mem_map.mpr ⟨n, hmem, rfl⟩ : lsts m n ∈ (y0 :: l).map (lsts m))
              omega
            · have := partsOf_items (inner (txt (m + 1) (y0 :: l : List (Tre m)))) (txt m n) (by rw [hpt]; exact List.mem_map.mpr ⟨n, hmem, rfl⟩)
              exact Nat.le_trans this hi
    · obtain ⟨p, xs, rfl, hp, hit⟩ := ry
      have h3 := f3 _ _ h2
      have g3 : ¬ Gd (HO.ins C dx [("text", .str (S (txt n t)))]) := fun g => absurd (g.2 _ _ _ rfl) (show ¬ (1 = 4) by decide)
      have n3 := NL.upd (u := .ins C dx (putF "_parts" (.ref p) [("text", .str (S (txt n t)))])) h3 g3
      have o3 : Hc.Ext (fun b => b = x) H (upd H3 x (.ins C dx (putF "_parts" (.ref p) [("text", .str (S (txt n t)))]))) := (o2.trans (Hc.Ext.same f3)).trans (Hc.Ext.put rfl)
      have h3' : (upd H3 x (.ins C dx (putF "_parts" (.ref p) [("text", .str (S (txt n t)))]))) x = some (.ins C dx [("text", .str (S (txt n t))), ("_parts", .ref p)]) := upd_same
      replace hp := n3.seqT hp
      replace hit := items_mon n3 n t hit
      generalize upd H3 x (.ins C dx (putF "_parts" (.ref p) [("text", .str (S (txt n t)))])) = K3 at o3 h3' hp hit ⊢
      -- self._depth
      obtain ⟨hlen, hdep⟩ := items_deps n t hit
      refine q_fld (R := fun v _ => v = .int ((dep n t : Nat) : Int)) ?_ (fun _ _ => ev_var rfl) h3' c.cl c.nD (by show 2 < 1000; decide) mon_eq fun y H4 f4 ry => ?_
      · refine er_of (ev_max (ns := (0 : Int) :: (deps n t).map (fun d => ((d : Nat) : Int) + 1)) ?_ (by simp) (dep_max n t))
        have z := el_lcT (K := K) (H := K3) (σ := [some (.ref x), some (.str (S (txt n t))), none]) (a := p) (xs := xs) (tl := tFld K (tVar 0) "_parts") (j := 2) (vs := [2]) (te := tOp (rI0 fun i j => .int (i + j)) (tProp C (getSp C "_depth") [] E0 (tVar 2)) (tC (.int 1))) (fun i => V.int ((((deps n t).getD i 0 : Nat) : Int) + 1))
          (ev_fld (ev_var rfl) h3' c.cl c.nP rfl) hp (by rw [hlen]; exact deps_len hs) wipe1 (fun i y H5 f5 hy => by
            obtain ⟨a, dx', fs, d, rfl, ha, hd, hdd⟩ := hdep i y hy
            have e : (deps n t).getD i 0 = d := by rw [List.getD_eq_getElem?_getD, hdd]; rfl
            rw [e]
            exact ev_op (ev_prop (ev_var rfl) (f5 _ _ ha) hd) ev_c rv_I0)
        rw [hlen] at z
        have e0 : ((0 : Int) :: (deps n t).map (fun d => ((d : Nat) : Int) + 1)).map V.int = [V.int 0] ++ (List.range (deps n t).length).map (fun i => V.int ((((deps n t).getD i 0 : Nat) : Int) + 1)) := by
          rw [List.map_cons, List.map_map]
          congr 1
          exact (range_getD (fun d : Nat => V.int (((d : Nat) : Int) + 1)) (deps n t)).symm
        rw [e0]
        exact el_cat (el_lst (ea_cons ev_c ea_nil) (by show 1 ≤ 100000; decide)) z (by
          have := deps_len hs
          rw [List.length_map, List.length_range]
          show 1 + _ ≤ 100000
          omega)
      · subst ry
        have h4 := f4 _ _ h3'
        have g4 : ¬ Gd (HO.ins C dx [("text", .str (S (txt n t))), ("_parts", .ref p)]) := fun g => absurd (g.2 _ _ _ rfl) (show ¬ (2 = 4) by decide)
        have n4 := (NL.ex f4).trans (NL.upd (u := .ins C dx (putF "_depth" (.int ((dep n t : Nat) : Int)) [("text", .str (S (txt n t))), ("_parts", .ref p)])) h4 g4)
        have o4 : Hc.Ext (fun b => b = x) H (upd H4 x (.ins C dx (putF "_depth" (.int ((dep n t : Nat) : Int)) [("text", .str (S (txt n t))), ("_parts", .ref p)]))) := (o3.trans (Hc.Ext.same f4)).trans (Hc.Ext.put rfl)
        have h4' : (upd H4 x (.ins C dx (putF "_depth" (.int ((dep n t : Nat) : Int)) [("text", .str (S (txt n t))), ("_parts", .ref p)]))) x = some (.ins C dx [("text", .str (S (txt n t))), ("_parts", .ref p), ("_depth", .int ((dep n t : Nat) : Int))]) := upd_same
        replace hp := n4.seqT hp
        replace hit := items_mon n4 n t hit
        generalize upd H4 x (.ins C dx (putF "_depth" (.int ((dep n t : Nat) : Int)) [("text", .str (S (txt n t))), ("_parts", .ref p)])) = K4 at o4 h4' hp hit ⊢
        -- self._lists
        refine s_fld (er_of (ev_count (c := 91) (L := txt n t) (ev_var rfl) ev_c)) (fun _ _ => ev_var rfl) h4' c.cl c.nL (by show 3 < 1000; decide) mon_eq fun y H5 f5 ry => ?_
        subst ry
        rw [txt_count]
        have h5 := f5 _ _ h4'
        have g5 : ¬ Gd (HO.ins C dx [("text", .str (S (txt n t))), ("_parts", .ref p), ("_depth", .int ((dep n t : Nat) : Int))]) := fun g => absurd (g.2 _ _ _ rfl) (show ¬ (3 = 4) by decide)
        have n5 := (NL.ex f5).trans (NL.upd (u := .ins C dx (putF "_lists" (.int ((lsts n t : Nat) : Int)) [("text", .str (S (txt n t))), ("_parts", .ref p), ("_depth", .int ((dep n t : Nat) : Int))])) h5 g5)
        refine q _ ((o4.trans (Hc.Ext.same f5)).trans (Hc.Ext.put rfl)) ((shV_iff n t _ _).mpr ⟨xs, ⟨x, dx, p, rfl, upd_same, n5.seqT hp⟩, items_mon n5 n t hit⟩)
theorem rm_init {f C : Addr} {fd : FuncData} (F : Fun K "__init__" "Shape.__init__" sInit f fd) (T : TxtS mg) (c : ShC K C) (g : mg "Shape" = some (.ref C)) (m : Mk K C f) (b : Binds K fd ["self", "text"] []) {j : Nat} (rI : Rd P w K mg base "is_shape" j ["text"] spShape) (rP : Rd P w K mg base "parts_of" j ["text"] spParts)
    (rD : Pr P w K mg base C "depth" "_depth" 1) (hj : 1 ≤ j) : ∀ n, n ≤ 3 → Rm P w K mg base "Shape" C (j + 2 + 2 * n) ["self", "text"] (spInit K C n)
  | 0, h => ⟨f, fd, g, m, b, (ok_init1 F T c rI rP rD (spP := spNo) ⟨f, fd, g, m, b, ⟨fun _ _ _ _ h => h.elim, fun _ _ _ _ _ _ _ _ _ _ _ _ _ h => h.elim⟩⟩ hj h (.inl rfl))⟩
  | n + 1, h => ⟨f, fd, g, m, b, (ok_init1 F T c (rI.mono (show j ≤ j + 2 + 2 * n by omega)) (rP.mono (show j ≤ j + 2 + 2 * n by omega)) rD (rm_init F T c g m b rI rP rD hj n (by omega)) (by omega) h (.inr ⟨n, rfl, rfl⟩)).mono (by omega)⟩
end
end Hs
/-! module HkMath -/
set_option maxHeartbeats 4000000
/-! A text has the form of a shape exactly if it is the text of a tree; the law's own reader says the same. -/
namespace Hs
open PySem PySem.Spec PyProof.Rows L2
theorem join_two (s a b : List Nat) : ∀ ps : List (List Nat), TL.joinL s (ps ++ [a ++ (s ++ b)]) = TL.joinL s (ps ++ [a] ++ [b])
  | [] => rfl
  | [p] => rfl
  | p :: q :: r => by
    have ih := join_two s a b (q :: r)
    show p ++ (s ++ TL.joinL s ((q :: r) ++ [a ++ (s ++ b)])) = p ++ (s ++ TL.joinL s ((q :: r) ++ [a] ++ [b]))
    rw [ih]
theorem scan_back (L : List Nat) : ∀ (r : List Nat) (i : Nat) (ps : List (List Nat)) (n : Int) (s : Nat), L.drop i = r → TL.joinL [44, 32] (ps ++ [L.drop s]) = L → (s ≤ i ∨ (s = i + 1 ∧ L[i]? = some 32)) →
    TL.joinL [44, 32] ((scan L r i (ps, n, s)).1 ++ [L.drop (scan L r i (ps, n, s)).2.2]) = L := by
  intro r
  induction r with
  | nil => exact fun i ps n s _ h _ => h
  | cons c r ih =>
    intro i ps n s hd h hs
    have hc : L[i]? = some c := by
      have z : (L.drop i)[0]? = some c := by rw [hd]; rfl
      rw [List.getElem?_drop] at z
      simpa using z
    have hd' : L.drop (i + 1) = r := by rw [← List.drop_drop, hd]; rfl
    have stay : ∀ n', TL.joinL [44, 32] ((scan L r (i + 1) (ps, n', s)).1 ++ [L.drop (scan L r (i + 1) (ps, n', s)).2.2]) = L := fun n' => ih (i + 1) ps n' s hd' h (.inl (by rcases hs with hs | hs <;> omega))
    show TL.joinL [44, 32] ((scan L r (i + 1) (stepP L (ps, n, s) i c)).1 ++ [L.drop (scan L r (i + 1) (stepP L (ps, n, s) i c)).2.2]) = L
    by_cases h1 : c ∈ [91, 40]
    · rw [show stepP L (ps, n, s) i c = (ps, n + 1, s) from if_pos h1]
      exact stay _
    · by_cases h2 : c ∈ [41, 93]
      · rw [show stepP L (ps, n, s) i c = (ps, n - 1, s) from (if_neg h1).trans (if_pos h2)]
        exact stay _
      · by_cases h3 : n = 0 ∧ (L.drop i).take 2 = [44, 32]
        · rw [show stepP L (ps, n, s) i c = (ps ++ [(L.drop s).take (i - s)], n, i + 2) from (if_neg h1).trans ((if_neg h2).trans (if_pos h3))]
          have e2 := h3.2
          rw [hd] at e2
          obtain ⟨r2, rfl, rfl⟩ : ∃ r2, c = 44 ∧ r = 32 :: r2 := by
            cases r with
            | nil => simp at e2
            | cons d r2 =>
              simp at e2
              exact ⟨r2, e2.1, by rw [e2.2]⟩
          have hsi : s ≤ i := by
            rcases hs with hs | ⟨_, hs⟩
            · exact hs
            · rw [hc] at hs
              cases hs
          have d2 : L.drop (i + 2) = r2 := by
            rw [show i + 2 = i + 1 + 1 by omega, ← List.drop_drop, hd']
            rfl
          refine ih (i + 1) _ n (i + 2) hd' ?_ (.inr ⟨rfl, ?_⟩)
          · have e3 : L.drop s = (L.drop s).take (i - s) ++ ([44, 32] ++ L.drop (i + 2)) := by
              have z := List.take_append_drop (i - s) (L.drop s)
              rw [List.drop_drop, show s + (i - s) = i by omega, hd] at z
              rw [d2]
              exact z.symm
            rw [← join_two, ← e3]
            exact h
          · have z : (L.drop (i + 1))[0]? = some 32 := by rw [hd']; rfl
            rw [List.getElem?_drop] at z
            simpa using z
        · rw [show stepP L (ps, n, s) i c = (ps, n, s) from (if_neg h1).trans ((if_neg h2).trans (if_neg h3))]
          exact stay _
theorem parts_back (L : List Nat) : TL.joinL [44, 32] (partsOf L) = L := by
  unfold partsOf
  exact scan_back L L 0 [] 0 0 rfl rfl (.inl (Nat.le_refl 0))
theorem parts_ne (L : List Nat) : partsOf L ≠ [] := by
  unfold partsOf
  simp
theorem inner_back {t : List Nat} (h1 : t.head? = some 91) (h2 : t.getLast? = some 93) : t = 91 :: (inner t ++ [93]) := by
  cases t with
  | nil => cases h1
  | cons c r =>
    have e : c = 91 := by simpa using h1
    subst e
    rcases List.eq_nil_or_concat r with rfl | ⟨m, d, rfl⟩
    · simp at h2
    · rw [List.concat_eq_append, ← List.cons_append, List.getLast?_append] at h2
      have e : d = 93 := by simpa using h2
      subst e
      unfold inner
      rw [List.concat_eq_append]
      simp
theorem map_of {α β : Type} {f : α → β} {P : α → Prop} : ∀ (l : List β), (∀ x ∈ l, ∃ a, f a = x ∧ P a) → ∃ as : List α, as.map f = l ∧ ∀ a ∈ as, P a
  | [], _ => ⟨[], rfl, fun a h => by cases h⟩
  | x :: l, h => by
    obtain ⟨a, h1, h2⟩ := h x List.mem_cons_self
    obtain ⟨as, h3, h4⟩ := map_of l fun y hy => h y (List.mem_cons_of_mem _ hy)
    refine ⟨a :: as, by rw [List.map_cons, h1, h3], fun b hb => ?_⟩
    rcases List.mem_cons.mp hb with rfl | hb
    · exact h2
    · exact h4 b hb
theorem slim_iff' (n : Nat) (l : List (Tre n)) : slim (n + 1) l = true ↔ l.length ≤ 3 ∧ ∀ x ∈ l, slim n x = true := by
  show (decide (l.length ≤ 3) && l.all (slim n)) = true ↔ _
  rw [Bool.and_eq_true, List.all_eq_true, decide_eq_true_eq]
theorem form_tree : ∀ (n : Nat) (t : List Nat), hasForm n t = true → ∃ tr : Tre n, txt n tr = t ∧ slim n tr = true
  | 0, t, h => ⟨(), (of_decide_eq_true h : t = [46]).symm, rfl⟩
  | n + 1, t, h => by
    have h' : (decide (t = [46]) || ((t.head? == some 91) && (t.getLast? == some 93) && (decide ((partsOf (inner t)).length ≤ 3) && (partsOf (inner t)).all (hasForm n)))) = true := h
    rw [Bool.or_eq_true] at h'
    rcases h' with h' | h'
    · exact ⟨([] : List (Tre n)), (of_decide_eq_true h').symm, rfl⟩
    · rw [Bool.and_eq_true, Bool.and_eq_true, Bool.and_eq_true, List.all_eq_true, decide_eq_true_eq] at h'
      obtain ⟨⟨a, b⟩, c, d⟩ := h'
      obtain ⟨l, h1, h2⟩ := map_of (f := txt n) (P := fun x => slim n x = true) (partsOf (inner t)) fun p hp => form_tree n p (d p hp)
      have hl : l.length ≤ 3 := by rw [← List.length_map (f := txt n), h1]; exact c
      cases l with
      | nil => exact absurd h1.symm (parts_ne _)
      | cons x r =>
        refine ⟨(x :: r : List (Tre n)), ?_, (slim_iff' n (x :: r)).mpr ⟨hl, h2⟩⟩
        rw [txt_cons, h1, parts_back]
        exact (inner_back (eq_of_beq a) (eq_of_beq b)).symm
/-! ### the law's own reader -/
def lloop (g : Nat → Option Nat) (L : List Nat) : Nat → Nat → Option Nat
  | 0, _ => none
  | k + 1, h => match g h with
    | none => none
    | some e => if (L.drop e).take 1 = [93] then some (e + 1) else if (L.drop e).take 2 = [44, 32] then lloop g L k (e + 2) else none
def lend : Nat → List Nat → Nat → Option Nat
  | 0, L, a => if (L.drop a).take 1 = [46] then some (a + 1) else none
  | f + 1, L, a => if (L.drop a).take 1 = [46] then some (a + 1) else if (L.drop a).take 1 = [91] then lloop (lend f L) L 3 (a + 1) else none
theorem take1 {L : List Nat} {a c : Nat} (h : (L.drop a).take 1 = [c]) : L.drop a = c :: L.drop (a + 1) := by
  cases q : L.drop a with
  | nil => rw [q] at h; cases h
  | cons d r =>
    rw [q] at h
    have e : d = c := by simpa using h
    subst e
    rw [← List.drop_drop, q]
    rfl
theorem take2 {L : List Nat} {a : Nat} (h : (L.drop a).take 2 = [44, 32]) : L.drop a = [44, 32] ++ L.drop (a + 2) := by
  have z := List.take_append_drop 2 (L.drop a)
  rw [h, List.drop_drop] at z
  exact z.symm
theorem lloop_some {n : Nat} {L : List Nat} (ih : ∀ a e, lend n L a = some e → ∃ tr : Tre n, slim n tr = true ∧ L.drop a = txt n tr ++ L.drop e ∧ e = a + (txt n tr).length) : ∀ (k h e : Nat), lloop (lend n L) L k h = some e →
    ∃ (x : Tre n) (l : List (Tre n)), (x :: l).length ≤ k ∧ (∀ y ∈ x :: l, slim n y = true) ∧ L.drop h = TL.joinL [44, 32] ((x :: l).map (txt n)) ++ (93 :: L.drop e) ∧ e = h + (TL.joinL [44, 32] ((x :: l).map (txt n))).length + 1
  | 0, h, e, q => by cases q
  | k + 1, h, e, q => by
    unfold lloop at q
    cases g : lend n L h with
    | none =>
      rw [g] at q
      cases q
    | some e1 =>
      rw [g] at q
      dsimp only at q
      obtain ⟨x, h1, h2, h3⟩ := ih h e1 g
      by_cases c1 : (L.drop e1).take 1 = [93]
      · rw [if_pos c1] at q
        have e2 := Option.some.inj q
        refine ⟨x, [], by simp, fun y hy => by rw [List.mem_singleton.mp hy]; exact h1, ?_, ?_⟩
        · rw [h2, take1 c1, e2]
          rfl
        · show e = h + (txt n x).length + 1
          omega
      · rw [if_neg c1] at q
        by_cases c2 : (L.drop e1).take 2 = [44, 32]
        · rw [if_pos c2] at q
          obtain ⟨y, l, a1, a2, a3, a4⟩ := lloop_some ih k (e1 + 2) e q
          refine ⟨x, y :: l, by rw [List.length_cons]; omega, fun z hz => ?_, ?_, ?_⟩
          · rcases List.mem_cons.mp hz with rfl | hz
            · exact h1
            · exact a2 z hz
          · rw [List.map_cons, List.map_cons, joinL_cons, h2, take2 c2, a3, List.map_cons]
            simp
          · rw [List.map_cons, List.map_cons, joinL_cons, List.length_append, List.length_append]
            rw [List.map_cons] at a4
            show e = h + ((txt n x).length + (2 + _)) + 1
            omega
        · rw [if_neg c2] at q
          cases q
theorem lend_some : ∀ (n : Nat) (L : List Nat) (a e : Nat), lend n L a = some e → ∃ tr : Tre n, slim n tr = true ∧ L.drop a = txt n tr ++ L.drop e ∧ e = a + (txt n tr).length
  | 0, L, a, e, h => by
    unfold lend at h
    by_cases c : (L.drop a).take 1 = [46]
    · rw [if_pos c] at h
      have e2 := Option.some.inj h
      exact ⟨(), rfl, by rw [take1 c, e2]; rfl, e2.symm⟩
    · rw [if_neg c] at h
      cases h
  | n + 1, L, a, e, h => by
    unfold lend at h
    by_cases c : (L.drop a).take 1 = [46]
    · rw [if_pos c] at h
      have e2 := Option.some.inj h
      exact ⟨([] : List (Tre n)), rfl, by rw [take1 c, e2]; rfl, e2.symm⟩
    · rw [if_neg c] at h
      by_cases c2 : (L.drop a).take 1 = [91]
      · rw [if_pos c2] at h
        obtain ⟨x, l, a1, a2, a3, a4⟩ := lloop_some (lend_some n L) 3 (a + 1) e h
        refine ⟨(x :: l : List (Tre n)), (slim_iff' n (x :: l)).mpr ⟨a1, a2⟩, ?_, ?_⟩
        · rw [txt_cons, take1 c2, a3]
          simp
        · rw [txt_cons, List.length_cons, List.length_append, List.length_singleton]
          omega
      · rw [if_neg c2] at h
        cases h
theorem lloop_txt {n : Nat} {L : List Nat} (ih : ∀ (tr : Tre n) (a : Nat) (r : List Nat), slim n tr = true → L.drop a = txt n tr ++ r → lend n L a = some (a + (txt n tr).length)) : ∀ (l : List (Tre n)) (x : Tre n) (k h : Nat) (r : List Nat), (x :: l).length ≤ k → (∀ y ∈ x :: l, slim n y = true) →
    L.drop h = TL.joinL [44, 32] ((x :: l).map (txt n)) ++ (93 :: r) → lloop (lend n L) L k h = some (h + (TL.joinL [44, 32] ((x :: l).map (txt n))).length + 1)
  | l, x, 0, h, r, hk, _, _ => by simp at hk
  | [], x, k + 1, h, r, hk, hs, hd => by
    have hd' : L.drop h = txt n x ++ (93 :: r) := hd
    unfold lloop
    rw [ih x h (93 :: r) (hs x List.mem_cons_self) hd']
    dsimp only
    have d : L.drop (h + (txt n x).length) = 93 :: r := drop_app hd'
    rw [if_pos (by rw [d]; rfl)]
    rfl
  | y :: l, x, k + 1, h, r, hk, hs, hd => by
    rw [List.map_cons, List.map_cons, joinL_cons] at hd ⊢
    unfold lloop
    rw [ih x h _ (hs x List.mem_cons_self) (by rw [hd, List.append_assoc])]
    dsimp only
    have d : L.drop (h + (txt n x).length) = [44, 32] ++ (TL.joinL [44, 32] (txt n y :: l.map (txt n)) ++ (93 :: r)) := drop_app (a := txt n x) (by rw [hd]; simp)
    have d2 : L.drop (h + (txt n x).length + 2) = TL.joinL [44, 32] ((y :: l).map (txt n)) ++ (93 :: r) := drop_app (a := [44, 32]) d
    rw [if_neg (by rw [d]; simp), if_pos (by rw [d]; rfl), lloop_txt ih l y k _ r (by simpa using hk) (fun z hz => hs z (List.mem_cons_of_mem _ hz)) d2]
    congr 1
    rw [List.length_append, List.length_append, List.map_cons]
    show h + (txt n x).length + 2 + _ + 1 = h + ((txt n x).length + (2 + _)) + 1
    omega
theorem lend_txt : ∀ (n : Nat) (tr : Tre n) (L : List Nat) (a : Nat) (r : List Nat), slim n tr = true → L.drop a = txt n tr ++ r → lend n L a = some (a + (txt n tr).length)
  | 0, _, L, a, r, _, h => by
    unfold lend
    rw [if_pos (by rw [h]; rfl)]
    rfl
  | n + 1, [], L, a, r, _, h => by
    unfold lend
    rw [if_pos (by rw [h]; rfl)]
    rfl
  | n + 1, x :: l, L, a, r, hs, h => by
    have hs' := (slim_iff' n (x :: l)).mp hs
    rw [txt_cons] at h ⊢
    have d1 : L.drop (a + 1) = TL.joinL [44, 32] ((x :: l).map (txt n)) ++ (93 :: r) := drop_app (a := [91]) (by rw [h]; simp)
    unfold lend
    rw [if_neg (by rw [h]; simp), if_pos (by rw [h]; rfl), lloop_txt (fun tr a r => lend_txt n tr L a r) l x 3 (a + 1) r hs'.1 hs'.2 d1]
    rw [List.length_cons, List.length_append, List.length_singleton]
    congr 1
    omega
/-- the two readers say the same -/
theorem lend_form (L : List Nat) : decide (lend 3 L 0 = some L.length) = hasForm 3 L := by
  by_cases h : hasForm 3 L = true
  · rw [h]
    obtain ⟨tr, h1, h2⟩ := form_tree 3 L h
    have z := lend_txt 3 tr L 0 [] h2 (by rw [h1]; simp)
    rw [h1, Nat.zero_add] at z
    exact decide_eq_true z
  · have h' : hasForm 3 L = false := by simpa using h
    rw [h']
    refine decide_eq_false fun z => h ?_
    obtain ⟨tr, h1, h2, h3⟩ := lend_some 3 L 0 _ z
    rw [List.drop_length, List.append_nil] at h2
    have e : L = txt 3 tr := by simpa using h2
    rw [e]
    exact txt_form 3 tr h1
end Hs
/-! module HzSimple -/
set_option maxHeartbeats 4000000
/-! read_simple, for any text. -/
namespace Hz
open PySem PySem.Spec PyProof.Rows L2 Evl Hc Hs Hy
def newD : List Nat := [110, 101, 119, 32]
def copyD : List Nat := [99, 111, 112, 121, 40]
inductive Smp where
  | new (M : List Nat)
  | cpy (p : Pth) (k : Option Int)
  | pth (p : Pth)
def readSimple (L : List Nat) : Option Smp :=
  if startsL L newD = true then (if isShape (L.drop 4) = true then some (.new (L.drop 4)) else none)
  else if startsL L copyD = true then (readPath (copiedPart L).1).map (fun p => .cpy p (copiedPart L).2)
  else (readPath L).map .pth
/-- the classes of rows.py -/
structure Cs where
  path : Addr
  copy : Addr
  new : Addr
def SmpAt (C : Cs) : Smp → Addr → Hp → Prop
  | .new _, x, H => ∃ dx s, H x = some (.ins C.new dx [("shape", s)])
  | .cpy p k, x, H => ∃ dx y, H x = some (.ins C.copy dx [("inner", .ref y), ("floor_count", optV V.int k)]) ∧ PtAt C.path y p H
  | .pth p, x, H => PtAt C.path x p H
theorem SmpAt.ex {C : Cs} {s : Smp} {x : Addr} {H H' : Hp} (h : SmpAt C s x H) (e : Ex H H') : SmpAt C s x H' := by
  cases s with
  | new M =>
    obtain ⟨dx, s, h⟩ := h
    exact ⟨dx, s, e _ _ h⟩
  | cpy p k =>
    obtain ⟨dx, y, h, hp⟩ := h
    exact ⟨dx, y, e _ _ h, hp.ex e⟩
  | pth p => exact PtAt.ex h e
def spNw (C : Addr) : Sp := fun vs H Q _ => ∃ (x dx : Addr) (s : V), vs = [.ref x, s] ∧ H x = some (.ins C dx []) ∧ ∀ H', Hc.Ext (fun b => b = x) H H' → H' x = some (.ins C dx [("shape", s)]) → Q .non H'
def spCp (C : Addr) : Sp := fun vs H Q _ => ∃ (x dx : Addr) (i k : V), vs = [.ref x, i, k] ∧ H x = some (.ins C dx []) ∧ ∀ H', Hc.Ext (fun b => b = x) H H' → H' x = some (.ins C dx [("inner", i), ("floor_count", k)]) → Q .non H'
abbrev sNwInit : Stmt := inClass cNew 0
abbrev sCpInit : Stmt := inClass cCopy 0
theorem scNw : FnScope ["self", "shape"] ["self", "shape"] (defScope sNwInit) := ⟨rfl, rfl, rfl, by decide +kernel, rfl, by decide +kernel, by decide +kernel⟩
theorem scCp : FnScope ["self", "inner", "floor_count"] ["self", "inner", "floor_count"] (defScope sCpInit) := ⟨rfl, rfl, rfl, by decide +kernel, rfl, by decide +kernel, by decide +kernel⟩
structure CsC (K : PySem.W.Frag) (C : Cs) : Prop where
  p : PtC K C.path
  cC : Cls K C.copy
  cI : NoAttr K C.copy "inner"
  cF : NoAttr K C.copy "floor_count"
  nC : Cls K C.new
  nS : NoAttr K C.new "shape"
def spSimple (C : Cs) : Sp := fun vs H Q _ => ∃ L : List Nat, vs = [sv L] ∧ L.length ≤ cap ∧ (match readSimple L with
  | none => ∀ H', Ex H H' → Q .non H'
  | some s => ∀ H' x, H x = none → Ex H H' → SmpAt C s x H' → Q (.ref x) H')
abbrev nSimple : List Str := ["text", "inside", "floor_count", "path"]
theorem scSimple : FnScope nSimple ["text"] (defScope sReadSimple) := ⟨rfl, rfl, rfl, by decide +kernel, rfl, by decide +kernel, by decide +kernel⟩
theorem made_ex {H6 H7 : Hp} {x dx : Addr} {C : Addr} (nx : H6 x = none) (nd : H6 dx = none) (ext : Hc.Ext (fun b => b = x) (upd (upd H6 dx (.own x)) x (.ins C dx [])) H7) : Ex H6 H7 := fun b o hb => by
  have b1 : b ≠ x := ne_of_none hb nx
  have b2 : b ≠ dx := ne_of_none hb nd
  exact ext b o (by rw [upd_ne b1, upd_ne b2]; exact hb) b1
/-- C(te), the value of te told by a reading -/
theorem make1 {D : Addr} {sp : Sp} {te : TE} {σ : L2.St} {H : Hp} {Q : VK} (h : te σ H fun v H1 => ∀ x dx, H1 x = none → H1 dx = none → dx ≠ x → sp [.ref x, v] (upd (upd H1 dx (.own x)) x (.ins D dx [])) (fun z H2 => z = .non ∧ Q (.ref x) H2) E0) : tMake D sp [] E0 (tCons te tNil) σ H Q := h
theorem make2 {D : Addr} {sp : Sp} {te tf : TE} {σ : L2.St} {H : Hp} {Q : VK} (h : te σ H fun v H1 => tf σ H1 fun u H2 => ∀ x dx, H2 x = none → H2 dx = none → dx ≠ x → sp [.ref x, v, u] (upd (upd H2 dx (.own x)) x (.ins D dx [])) (fun z H3 => z = .non ∧ Q (.ref x) H3) E0) : tMake D sp [] E0 (tCons te (tCons tf tNil)) σ H Q := h
section
variable {P : Program} {w : World} {K : PySem.W.Frag} {mg : Str → Option Value} {base : Heap} {C : Cs} {CS f : Addr} {fd : FuncData} {k : Nat}
theorem ok_nw (F : Fun K "__init__" "New.__init__" sNwInit f fd) (c : CsC K C) : FnOk P w K mg base CX0 (k + 1) f fd ["self", "shape"] (spNw C.new) := by
  refine F.ok scNw (fun vs H Q E h => ?_) (fun cdv A outer s H vs Q E hr h => ?_)
  · obtain ⟨x, dx, s, rfl, _⟩ := h
    rfl
  · obtain ⟨x, dx, s, rfl, hx, q⟩ := h
    refine ⟨_, pss_one (ps_fld (pv 0) (pv 1) (by rfl)), ?_⟩
    refine s_fldV (ev_var rfl) (ev_var rfl) hx c.nC c.nS (show 0 < 1000 by decide) fun H1 e1 => ?_
    exact q _ (stepE (S := fun b => b = x) e1 rfl) upd_same
theorem ok_cp (F : Fun K "__init__" "Copy.__init__" sCpInit f fd) (c : CsC K C) : FnOk P w K mg base CX0 (k + 1) f fd ["self", "inner", "floor_count"] (spCp C.copy) := by
  refine F.ok scCp (fun vs H Q E h => ?_) (fun cdv A outer s H vs Q E hr h => ?_)
  · obtain ⟨x, dx, i, j, rfl, _⟩ := h
    rfl
  · obtain ⟨x, dx, i, j, rfl, hx, q⟩ := h
    refine ⟨_, pss_cons (ps_fld (pv 0) (pv 1) (by rfl)) (pss_one (ps_fld (pv 0) (pv 2) (by rfl))), ?_⟩
    refine q_fldV (ev_var rfl) (ev_var rfl) hx c.cC c.cI (show 0 < 1000 by decide) fun H1 e1 => ?_
    refine s_fldV (ev_var rfl) (ev_var rfl) upd_same c.cC c.cF (show 1 < 1000 by decide) fun H2 e2 => ?_
    exact q _ ((stepE (S := fun b => b = x) e1 rfl).trans (stepE e2 rfl)) upd_same
theorem ok_simple (F : Fun K "read_simple" "read_simple" sReadSimple f fd) (rP : Rd P w K mg base "read_path" k ["text"] (spPath C.path)) (rC : Rd P w K mg base "copied_part" k ["text"] spCopied) (rI : Rd P w K mg base "is_shape" k ["text"] spShape) (rS : Hs.Rm P w K mg base "Shape" CS (k - 1) ["self", "text"] (spInit K CS 3)) (rN : Hy.Rm P w K mg base "New" C.new 1 ["self", "shape"] (spNw C.new)) (rO : Hy.Rm P w K mg base "Copy" C.copy 1 ["self", "inner", "floor_count"] (spCp C.copy)) (hk : 2 ≤ k) : FnOk P w K mg base CX0 (k + 1) f fd ["text"] (spSimple C) := by
  refine F.ok scSimple (fun vs H Q E h => ?_) (fun cdv A outer s H vs Q E hr h => ?_)
  · obtain ⟨L, rfl, _⟩ := h
    rfl
  · obtain ⟨L, rfl, hL, q⟩ := h
    refine ⟨_, pss_cons (ps_if (pt_val (pe_m1 PySem.F.slot_str_startswith PySem.F.type_str_startswith mt_startswith (pv 0) pe_str)) (pss_one (ps_ret (pe_ifExp (pt_val (pe_rd rI hr (Nat.le_refl _) (by rfl) (pa_cons (pe_slice sl_str (pv 0) (po_some pe_int) po_none) pa_nil))) (Hy.pe_rm rN hr hk (by rfl) (pa_cons (Hs.pe_rm rS hr (by omega) (by rfl) (pa_cons (pe_slice sl_str (pv 0) (po_some pe_int) po_none) pa_nil)) pa_nil)) pe_non))) pss_nil)
      (pss_cons (ps_if (pt_val (pe_m1 PySem.F.slot_str_startswith PySem.F.type_str_startswith mt_startswith (pv 0) pe_str))
        (pss_cons (ps_asg (pe_rd rC hr (Nat.le_refl _) (by rfl) (pa_cons (pv 0) pa_nil)) (pg_tup (by rfl) (pgs_cons (pg_name (i := 1) scSimple.nd rfl (.inl rfl)) (pgs_cons (pg_name (i := 2) scSimple.nd rfl (.inl rfl)) pgs_nil))))
        (pss_cons (ps_set (i := 3) scSimple.nd rfl (.inl rfl) (pe_rd rP hr (Nat.le_refl _) (by rfl) (pa_cons (pv 1) pa_nil)))
        (pss_one (ps_ret (pe_ifExp (pt_cmpR op_isN (pv 3) pe_non (nomark _)) pe_non (Hy.pe_rm rO hr hk (by rfl) (pa_cons (pv 3) (pa_cons (pv 2) pa_nil)))))))) pss_nil)
      (pss_one (ps_ret (pe_rd rP hr (Nat.le_refl _) (by rfl) (pa_cons (pv 0) pa_nil))))), ?_⟩
    unfold readSimple at q
    refine q_when (b := startsL L newD) (et_B (ev_startsS (L := L) (M := newD) (ev_var rfl) ev_c)) (fun hb H1 e1 => ?_) (fun hb H1 e1 => ?_)
    · rw [if_pos hb] at q
      have hd : (L.drop 4).length ≤ cap := by
        rw [List.length_drop]
        exact Nat.le_trans (Nat.sub_le _ _) hL
      have zs : ∀ H, Ev (tSl rSlS (tVar 0) (tPart (tC (.int 4))) tNoPart) [some (sv L), none, none, none] H (sv (L.drop 4)) := fun H => Evl.ev_is (ev_slS (lo := some 4) (hi := none) (ev_var rfl) (eo_some ev_c) eo_none (by rw [S_len]; exact cap_line hL)) (by rw [show (4 : Int) = ((4 : Nat) : Int) from rfl, cut_n])
      have zt : EvT (tB (tCall spShape [] E0 (tCons (tSl rSlS (tVar 0) (tPart (tC (.int 4))) tNoPart) tNil))) [some (sv L), none, none, none] H1 (isShape (L.drop 4)) := et_B (ev_call (ea_cons (zs _) ea_nil) (sp_shape hd))
      refine zt H1 (Ex.refl H1) _ fun H2 e2 => ?_
      by_cases hs : isShape (L.drop 4) = true
      · rw [if_pos hs] at q ⊢
        have hs2 := hs
        unfold isShape at hs2
        rw [Bool.and_eq_true, decide_eq_true_eq] at hs2
        obtain ⟨tr, htr, hsl⟩ := form_tree 3 _ hs2.2
        have zm := er_make (K := K) (C := CS) (σ := [some (sv L), none, none, none]) (H := H2) (ta := tCons (tSl rSlS (tVar 0) (tPart (tC (.int 4))) tNoPart) tNil) tr (by rw [htr]; exact ea_cons (zs _) ea_nil) hsl (by rw [← txt_count, htr]; exact hs2.1) (by rw [htr]; exact hd)
        show tMake C.new (spNw C.new) [] E0 (tCons (tMake CS (spInit K CS 3) [] E0 (tCons (tSl rSlS (tVar 0) (tPart (tC (.int 4))) tNoPart) tNil)) tNil) [some (sv L), none, none, none] H2 _
        refine make1 (zm H2 (Ex.refl H2) _ fun v H3 e3 _ => ?_)
        intro y dy ny ndy ney
        refine ⟨y, dy, v, rfl, upd_same, fun H5 ext hy => ⟨rfl, ?_⟩⟩
        have e03 := (e1.trans e2).trans e3
        exact q H5 y (fresh_back e03 ny) (e03.trans (made_ex ny ndy ext)) ⟨dy, v, hy⟩
      · rw [if_neg hs] at q ⊢
        exact q H2 (e1.trans e2)
    · rw [if_neg (by rw [hb]; exact Bool.false_ne_true)] at q
      refine q_when (b := startsL L copyD) (et_B (ev_startsS (L := L) (M := copyD) (ev_var rfl) ev_c)) (fun hb2 H2 e2 => ?_) (fun hb2 H2 e2 => ?_)
      · rw [if_pos hb2] at q
        have hcl : (copiedPart L).1.length ≤ cap := Nat.le_trans (copiedPart_len L) hL
        show tSeq (tAsg (tCall spCopied [] E0 (tCons (tVar 0) tNil)) _) _ _ [some (sv L), none, none, none] H2
        refine q_asgG ?_
        refine ⟨_, rfl, L, rfl, hL, fun p H3 np e3 hp => ?_⟩
        refine ⟨p, _, rfl, st_of hp, rfl, _, _, rfl, _, _, rfl, rfl, ?_⟩
        generalize copiedPart L = cp at q hcl hp ⊢
        have e03 := (e1.trans e2).trans e3
        show tSeq (tAsg (tCall (spPath C.path) [] E0 (tCons (tVar 1) tNil)) _) _ _ [some (sv L), some (sv cp.1), some (optV V.int cp.2), none] H3
        refine q_asgX ?_
        refine ⟨_, rfl, cp.1, rfl, hcl, ?_⟩
        cases hpt : readPath cp.1 with
        | none =>
          rw [hpt] at q
          intro H4 e4
          refine s_ret (v := .non) (ev_if (et_test (ev_isN (o := none) (ev_var rfl))) (fun _ => ev_c) (fun z => nomatch z)) fun H5 e5 => q H5 ((e03.trans e4).trans e5)
        | some pt =>
          rw [hpt] at q
          intro H4 y ny e4 hy
          have e04 := e03.trans e4
          have zt : EvT (tTest (tOp (fun x y H Q => y = .non ∧ Q (.bl (decide (x = .non))) H) (tVar 3) (tC .non))) [some (sv L), some (sv cp.1), some (optV V.int cp.2), some (.ref y)] H4 false := et_test (ev_nonR (ev_var rfl))
          refine zt H4 (Ex.refl H4) _ fun H5 e5 => ?_
          rw [if_neg Bool.false_ne_true]
          refine make2 ⟨_, rfl, _, rfl, ?_⟩
          intro z dz nz ndz nez
          refine ⟨z, dz, .ref y, optV V.int cp.2, rfl, upd_same, fun H6 ext hz => ⟨rfl, ?_⟩⟩
          have e6 := made_ex nz ndz ext
          exact q H6 z (fresh_back (e04.trans e5) nz) ((e04.trans e5).trans e6) ⟨dz, y, hz, (hy.ex e5).ex e6⟩
      · rw [if_neg (by rw [hb2]; exact Bool.false_ne_true)] at q
        refine ⟨_, rfl, L, rfl, hL, ?_⟩
        cases hp : readPath L with
        | none =>
          rw [hp] at q
          exact fun H3 e3 => q H3 ((e1.trans e2).trans e3)
        | some p =>
          rw [hp] at q
          exact fun H3 x nx e3 hx => q H3 x (fresh_back (e1.trans e2) nx) ((e1.trans e2).trans e3) hx
end
end Hz
/-! module HzKind -/
set_option maxHeartbeats 4000000
/-! read_kind, for any text. -/
namespace Hz
open PySem PySem.Spec PyProof.Rows L2 Evl Hc Hs Hy
def arrowD : List Nat := [32, 45, 62, 32]
def noneD : List Nat := [110, 111, 110, 101]
def kinds3 : List (List Nat) := [[49], [50], [51]]
/-- the three parts of a text at a sign text -/
def partA (L T : List Nat) : List Nat := TL.tl (Txt.partition (S L) (S T)).1
def partB (L T : List Nat) : List Nat := TL.tl (Txt.partition (S L) (S T)).2.1
def partC (L T : List Nat) : List Nat := TL.tl (Txt.partition (S L) (S T)).2.2
theorem S_tl (x : Str) : S (TL.tl x) = x := by
  obtain ⟨a⟩ := x
  rfl
theorem part_all (L T : List Nat) : Txt.partition (S L) (S T) = (S (partA L T), S (partB L T), S (partC L T)) := by
  unfold partA partB partC
  rw [S_tl, S_tl, S_tl]
theorem sub_len (x : Str) (a b : Nat) : (TL.tl (Builtin.Str.strSub x a b)).length ≤ (TL.tl x).length := by
  unfold Builtin.Str.strSub TL.tl
  simp
  omega
theorem part_len (L T : List Nat) : (partA L T).length ≤ L.length ∧ (partC L T).length ≤ L.length := by
  unfold partA partC Txt.partition
  split
  · exact ⟨sub_len (S L) _ _, sub_len (S L) _ _⟩
  · exact ⟨Nat.le_refl _, Nat.zero_le _⟩
inductive Knd where
  | idx (n : Nat)
  | shp (M : List Nat)
  | fn (M : List Nat) (r : Option (List Nat))
def readKind (L : List Nat) : Option Knd :=
  if L = [49] then some (.idx 1) else if L = [50] then some (.idx 2) else if L = [51] then some (.idx 3)
  else if isShape L = true then some (.shp L)
  else if isShape (partA L arrowD) = true ∧ (partC L arrowD = noneD ∨ isShape (partC L arrowD) = true) then some (.fn (partA L arrowD) (if partC L arrowD = noneD then none else some (partC L arrowD)))
  else none
def KndAt : Knd → V → Hp → Prop
  | .idx n, v, _ => v = .int (n : Int)
  | .shp M, v, _ => v = sv M
  | .fn M r, v, H => ∃ p, v = .ref p ∧ H p = some (.tup [sv M, optV sv r])
theorem KndAt.ex {k : Knd} {v : V} {H H' : Hp} (h : KndAt k v H) (e : Ex H H') : KndAt k v H' := by
  cases k with
  | idx n => exact h
  | shp M => exact h
  | fn M r =>
    obtain ⟨p, h1, h2⟩ := h
    exact ⟨p, h1, e _ _ h2⟩
def spKind : Sp := fun vs H Q _ => ∃ L : List Nat, vs = [sv L] ∧ L.length ≤ cap ∧ (match readKind L with
  | none => ∀ H', Ex H H' → Q .non H'
  | some k => ∀ H' v, Ex H H' → KndAt k v H' → Q v H')
structure KindP (K : PySem.W.Frag) (mg : Str → Option Value) : Prop where
  int : mg "int" = none
  ik : ∃ r, mg "INDEX_KINDS" = some (.ref r) ∧ ∀ H, SqT K H r (kinds3.map fun x => V.str (S x))
abbrev nKind : List Str := ["text", "given", "_", "reply"]
theorem scKind : FnScope nKind ["text"] (defScope sReadKind) := ⟨rfl, rfl, rfl, by decide +kernel, rfl, by decide +kernel, by decide +kernel⟩
section
variable {P : Program} {w : World} {K : PySem.W.Frag} {mg : Str → Option Value} {base : Heap} {f : Addr} {fd : FuncData} {k : Nat}
theorem ok_kind (F : Fun K "read_kind" "read_kind" sReadKind f fd) (T : KindP K mg) (rI : Rd P w K mg base "is_shape" k ["text"] spShape) : FnOk P w K mg base CX0 (k + 1) f fd ["text"] spKind := by
  refine F.ok scKind (fun vs H Q E h => ?_) (fun cdv A outer s H vs Q E hr h => ?_)
  · obtain ⟨L, rfl, _⟩ := h
    rfl
  · obtain ⟨L, rfl, hL, q⟩ := h
    obtain ⟨r, hR, hs⟩ := T.ik
    refine ⟨_, pss_cons (ps_if (pt_cmpR op_in_seq (pv 0) (pe_glob (v := .ref r) (by rfl) hR rfl) (by rfl)) (pss_one (ps_ret (pe_callTy call_int_str (by rfl) T.int boot_int (pa_cons (pv 0) pa_nil)))) pss_nil)
      (pss_cons (ps_if (pt_val (pe_rd rI hr (Nat.le_refl _) (by rfl) (pa_cons (pv 0) pa_nil))) (pss_one (ps_ret (pv 0))) pss_nil)
      (pss_cons (ps_asg (pe_partition (pv 0) pe_str) (pg_tup (by rfl) (pgs_cons (pg_name (i := 1) scKind.nd rfl (.inl rfl)) (pgs_cons (pg_name (i := 2) scKind.nd rfl (.inl rfl)) (pgs_cons (pg_name (i := 3) scKind.nd rfl (.inl rfl)) pgs_nil)))))
      (pss_cons (ps_if (PW.pt (pw_or (pt_not (pt_val (pe_rd rI hr (Nat.le_refl _) (by rfl) (pa_cons (pv 1) pa_nil)))) (pw_or1 (PW.pt (pw_and (pt_cmpR op_ne (pv 3) pe_str (nomark _)) (pw_and1 (pt_not (pt_val (pe_rd rI hr (Nat.le_refl _) (by rfl) (pa_cons (pv 3) pa_nil)))))))))) (pss_one (ps_ret pe_non)) pss_nil)
      (pss_one (ps_ret (pe_tup (pa_cons (pv 1) (pa_cons (pe_ifExp (pt_cmpR op_eq (pv 3) pe_str (nomark _)) pe_non (pv 3)) pa_nil)))))))), ?_⟩
    unfold readKind at q
    refine q_when (et_test (ev_in (Ls := kinds3) (ev_var rfl) ev_c hs)) (fun hi H1 e1 => ?_) (fun hi H1 e1 => ?_)
    · have hm : L = [49] ∨ L = [50] ∨ L = [51] := by
        have z : L ∈ kinds3 := by
          rw [← List.contains_iff_mem]
          exact hi
        simpa [kinds3] using z
      rcases hm with rfl | rfl | rfl
      · exact s_ret (ev_intS (n := 1) (ev_var rfl) (by decide +kernel) (by decide)) fun H2 e2 => q H2 _ (e1.trans e2) rfl
      · exact s_ret (ev_intS (n := 2) (ev_var rfl) (by decide +kernel) (by decide)) fun H2 e2 => q H2 _ (e1.trans e2) rfl
      · exact s_ret (ev_intS (n := 3) (ev_var rfl) (by decide +kernel) (by decide)) fun H2 e2 => q H2 _ (e1.trans e2) rfl
    · have hm : L ∉ kinds3 := by
        rw [← List.contains_iff_mem, hi]
        exact Bool.false_ne_true
      have h1 : L ≠ [49] := fun z => hm (z ▸ by decide)
      have h2 : L ≠ [50] := fun z => hm (z ▸ by decide)
      have h3 : L ≠ [51] := fun z => hm (z ▸ by decide)
      rw [if_neg h1, if_neg h2, if_neg h3] at q
      refine q_when (et_B (ev_call (ea_cons (ev_var rfl) ea_nil) (sp_shape hL))) (fun hb H2 e2 => ?_) (fun hb H2 e2 => ?_)
      · rw [if_pos hb] at q
        exact s_ret (ev_var rfl) fun H3 e3 => q H3 _ ((e1.trans e2).trans e3) rfl
      · rw [if_neg (by rw [hb]; exact Bool.false_ne_true)] at q
        have ha := Nat.le_trans (part_len L arrowD).1 hL
        have hc := Nat.le_trans (part_len L arrowD).2 hL
        show tSeq (tAsg (tM1 _ (tVar 0) (tC (.str (S arrowD)))) _) _ _ [some (sv L), none, none, none] H2
        refine q_asgG ?_
        have zp := eu_part (H := H2) (σ := [some (sv L), none, none, none]) (to := tVar 0) (te := tC (.str (S arrowD))) (L := L) (M := arrowD) hL (by decide) (part_all L arrowD) (ev_var rfl) ev_c
        refine zp H2 (Ex.refl H2) _ fun p H3 np e3 hp => ?_
        refine ⟨p, _, rfl, st_of hp, rfl, _, _, rfl, _, _, rfl, _, _, rfl, rfl, ?_⟩
        generalize partA L arrowD = a at q ha ⊢
        generalize partB L arrowD = b
        generalize partC L arrowD = c at q hc ⊢
        show tSeq _ _ _ [some (sv L), some (sv a), some (sv b), some (sv c)] H3
        have e03 := (e1.trans e2).trans e3
        refine q_when (et_or (et_not (et_B (ev_call (ea_cons (ev_var rfl) ea_nil) (sp_shape ha)))) fun _ => et_and (et_test (Hs.ev_neS (a := c) (b := noneD) (ev_var rfl) ev_c)) fun _ => et_not (et_B (ev_call (ea_cons (ev_var rfl) ea_nil) (sp_shape hc)))) (fun hb4 H4 e4 => ?_) (fun hb4 H4 e4 => ?_)
        · rw [if_neg (fun z => by
            rw [z.1] at hb4
            rcases z.2 with z | z
            · rw [z] at hb4
              simp at hb4
            · rw [z] at hb4
              simp at hb4)] at q
          exact s_ret ev_c fun H5 e5 => q H5 ((e03.trans e4).trans e5)
        · have hsa : isShape a = true ∧ (c = noneD ∨ isShape c = true) := by
            by_cases x : isShape a = true <;> by_cases y : c = noneD <;> simp_all
          rw [if_pos hsa] at q
          refine s_retU (xs := [sv a, optV sv (if c = noneD then none else some c)]) (eu_tup (ea_cons (ev_var rfl) (ea_cons (ev_if (et_test (Hs.ev_eqS (a := c) (b := noneD) (ev_var rfl) ev_c)) (fun z => ?_) (fun z => ?_)) ea_nil)) (show 2 ≤ 100000 by decide)) fun p5 H5 np5 e5 hp5 => q H5 (.ref p5) ((e03.trans e4).trans e5) ⟨p5, rfl, hp5⟩
          · rw [if_pos (of_decide_eq_true z)]
            exact ev_c
          · rw [if_neg (of_decide_eq_false z)]
            exact ev_var rfl
end
end Hz
/-! module HzPar -/
set_option maxHeartbeats 4000000
/-! read_parameter, for any text. -/
namespace Hz
open PySem PySem.Spec PyProof.Rows L2 Evl Hc Hs Hy
def colonD : List Nat := [58, 32]
def readPar (L : List Nat) : Option (List Nat × Knd) := match readKind (partC L colonD) with
  | none => none
  | some k => if isWord (partA L colonD) = true then some (partA L colonD, k) else none
/-- a parameter as a value -/
def ParAt (p : List Nat × Knd) (v : V) (H : Hp) : Prop := ∃ a u, v = .ref a ∧ H a = some (.tup [sv p.1, u]) ∧ KndAt p.2 u H
theorem ParAt.ex {p : List Nat × Knd} {v : V} {H H' : Hp} (h : ParAt p v H) (e : Ex H H') : ParAt p v H' := by
  obtain ⟨a, u, h1, h2, h3⟩ := h
  exact ⟨a, u, h1, e _ _ h2, h3.ex e⟩
def OptPar (o : Option (List Nat × Knd)) (v : V) (H : Hp) : Prop := match o with
  | none => v = .non
  | some p => ParAt p v H
def spPar : Sp := fun vs H Q _ => ∃ L : List Nat, vs = [sv L] ∧ L.length ≤ cap ∧ ∀ H' v, Ex H H' → OptPar (readPar L) v H' → Q v H'
theorem knd_not {k : Knd} {v : V} {H : Hp} (h : KndAt k v H) : v ≠ .non := by
  cases k with
  | idx n =>
    have h' : v = .int (n : Int) := h
    rw [h']
    exact fun z => nomatch z
  | shp M =>
    have h' : v = sv M := h
    rw [h']
    exact fun z => nomatch z
  | fn M r =>
    obtain ⟨p, h1, _⟩ := h
    rw [h1]
    exact fun z => nomatch z
abbrev nPar : List Str := ["text", "word", "_", "rest", "kind"]
theorem scPar : FnScope nPar ["text"] (defScope sReadPar) := ⟨rfl, rfl, rfl, by decide +kernel, rfl, by decide +kernel, by decide +kernel⟩
theorem ev_isNon {σ : L2.St} {H : Hp} {te : TE} {v : V} (h : Ev te σ H v) : Ev (tOp (fun x y H Q => y = .non ∧ Q (.bl (decide (x = .non))) H) te (tC .non)) σ H (.bl (decide (v = .non))) := ev_op h ev_c fun H1 e Q q => ⟨rfl, q H1 (Ex.refl H1)⟩
section
variable {P : Program} {w : World} {K : PySem.W.Frag} {mg : Str → Option Value} {base : Heap} {f : Addr} {fd : FuncData} {k : Nat}
theorem ok_par (F : Fun K "read_parameter" "read_parameter" sReadPar f fd) (rK : Rd P w K mg base "read_kind" k ["text"] spKind) (rW : Rd P w K mg base "is_word" k ["text"] spWord) : FnOk P w K mg base CX0 (k + 1) f fd ["text"] spPar := by
  refine F.ok scPar (fun vs H Q E h => ?_) (fun cdv A outer s H vs Q E hr h => ?_)
  · obtain ⟨L, rfl, _⟩ := h
    rfl
  · obtain ⟨L, rfl, hL, q⟩ := h
    refine ⟨_, pss_cons (ps_asg (pe_partition (pv 0) pe_str) (pg_tup (by rfl) (pgs_cons (pg_name (i := 1) scPar.nd rfl (.inl rfl)) (pgs_cons (pg_name (i := 2) scPar.nd rfl (.inl rfl)) (pgs_cons (pg_name (i := 3) scPar.nd rfl (.inl rfl)) pgs_nil)))))
      (pss_cons (ps_set (i := 4) scPar.nd rfl (.inl rfl) (pe_rd rK hr (Nat.le_refl _) (by rfl) (pa_cons (pv 3) pa_nil)))
      (pss_cons (ps_if (PW.pt (pw_or (pt_cmpR op_isN (pv 4) pe_non (nomark _)) (pw_or1 (pt_not (pt_val (pe_rd rW hr (Nat.le_refl _) (by rfl) (pa_cons (pv 1) pa_nil))))))) (pss_one (ps_ret pe_non)) pss_nil)
      (pss_one (ps_ret (pe_tup (pa_cons (pv 1) (pa_cons (pv 4) pa_nil))))))), ?_⟩
    have ha := Nat.le_trans (part_len L colonD).1 hL
    have hc := Nat.le_trans (part_len L colonD).2 hL
    unfold readPar at q
    show tSeq (tAsg (tM1 _ (tVar 0) (tC (.str (S colonD)))) _) _ _ [some (sv L), none, none, none, none] H
    refine q_asgG ?_
    have zp := eu_part (H := H) (σ := [some (sv L), none, none, none, none]) (to := tVar 0) (te := tC (.str (S colonD))) (L := L) (M := colonD) hL (by decide) (part_all L colonD) (ev_var rfl) ev_c
    refine zp H (Ex.refl H) _ fun p H1 np e1 hp => ?_
    refine ⟨p, _, rfl, st_of hp, rfl, _, _, rfl, _, _, rfl, _, _, rfl, rfl, ?_⟩
    generalize partA L colonD = a at q ha ⊢
    generalize partB L colonD = b
    generalize partC L colonD = c at q hc ⊢
    show tSeq (tAsg (tCall spKind [] E0 (tCons (tVar 3) tNil)) _) _ _ [some (sv L), some (sv a), some (sv b), some (sv c), none] H1
    refine q_asgX ?_
    refine ⟨_, rfl, c, rfl, hc, ?_⟩
    have rest : ∀ (o : Option Knd) (v : V) H2, Ex H1 H2 → o = readKind c → (match o with | none => v = .non | some k => KndAt k v H2) → tSeq (tIfS (tOr (tTest (tOp (fun x y H Q => y = .non ∧ Q (.bl (decide (x = .non))) H) (tVar 4) (tC .non))) (tNot (tB (tCall spWord [] E0 (tCons (tVar 1) tNil))))) (tRet (tC .non)) tNext) (tRet (tTup (tCons (tVar 1) (tCons (tVar 4) tNil)))) { nx := fun _ H' => Q .non H', rt := Q } [some (sv L), some (sv a), some (sv b), some (sv c), some v] H2 := fun o v H2 e2 ho hv => by
      rw [← ho] at q
      have e02 := e1.trans e2
      refine q_when (et_or (et_test (ev_isNon (v := v) (ev_var rfl))) fun _ => et_not (et_B (ev_call (ea_cons (ev_var rfl) ea_nil) (sp_word ha)))) (fun hb H3 e3 => ?_) (fun hb H3 e3 => ?_)
      · refine s_ret ev_c fun H4 e4 => q H4 .non ((e02.trans e3).trans e4) ?_
        cases o with
        | none => rfl
        | some k =>
          have hn := knd_not hv
          rw [decide_eq_false hn] at hb
          show OptPar (if isWord a = true then some (a, k) else none) .non H4
          rw [if_neg (fun z => by rw [z] at hb; cases hb)]
          rfl
      · cases o with
        | none =>
          have hv' : v = .non := hv
          rw [decide_eq_true hv'] at hb
          cases hb
        | some k =>
          have hn := knd_not hv
          rw [decide_eq_false hn] at hb
          have hw : isWord a = true := by
            cases z : isWord a with
            | true => rfl
            | false => rw [z] at hb; cases hb
          refine s_retU (xs := [sv a, v]) (eu_tup (ea_cons (ev_var rfl) (ea_cons (ev_var rfl) ea_nil)) (show 2 ≤ 100000 by decide)) fun p5 H5 np5 e5 hp5 => q H5 (.ref p5) ((e02.trans e3).trans e5) ?_
          show OptPar (if isWord a = true then some (a, k) else none) (.ref p5) H5
          rw [if_pos hw]
          have hv' : KndAt k v H2 := hv
          exact ⟨p5, v, rfl, hp5, (hv'.ex e3).ex e5⟩
    cases hk : readKind c with
    | none => exact fun H2 e2 => rest none .non H2 e2 hk.symm rfl
    | some k => exact fun H2 v e2 hv => rest (some k) v H2 e2 hk.symm hv
end
end Hz
/-! module HzDictT -/
set_option maxHeartbeats 4000000
/-! tuple(a list) that is known to have no dict; dict(such a tuple of pairs); d.get(None, x). -/
namespace Hz
open PySem PySem.Spec PyProof.Rows L2 Evl Hc Hs Hy
section
variable {X : Cx}
theorem call_tupF : CallR X (.type "tuple") (fun xs H Q => ∃ p ys, xs = [.ref p] ∧ SqL X.K H p ys ∧ ∀ l o, H l = none → o.dict = none → Q (.ref l) (upd H l (.frz o (.tup ys)))) := by
  intro pins s σ H xs us Q I r h
  obtain ⟨p, ys, rfl, hq, q⟩ := h
  obtain ⟨u, rfl, rx⟩ := vals1 r
  cases rx
  obtain ⟨its, r', pl, hz⟩ := I.list hq
  have hlen := r'.length
  refine call_tuple_list pl.isList (fun h' kp => ?_) (by simp only [List.size_toArray] <;> omega)
  have I1 : Inv X pins σ H { s with heap := h' } := I.kept (t' := s.toks) kp
  have gn : (h'.push { cls := .type "tuple", data := .seq its.toArray }).get? h'.objs.size = some { cls := .type "tuple", data := .seq its.toArray } := Heap.get?_push_size _ rfl
  have I2 : Inv X pins σ (upd H h'.objs.size (.frz { cls := .type "tuple", data := .seq its.toArray } (.tup ys))) { s with heap := h'.push { cls := .type "tuple", data := .seq its.toArray } } :=
    I1.laid (t' := s.toks) (fun b o e => Heap.get?_push_of_some _ e) (Nat.le_refl _) (show ObjOk X.prog X.w _ _ _ (.frz _ (.tup ys)) from ⟨gn, hz, its, r', IsTup.new _ _⟩)
  exact ⟨.ref h'.objs.size, _, I2, rfl, q _ _ (I1.hok.fresh (Nat.le_refl _)) rfl⟩
theorem pairs_with {pins : List (Addr × Obj)} {σ : L2.St} {H : Hp} {s : Shared} (I : Inv X pins σ H s) : ∀ {ps : List Addr} {kvs : List (Key × V)}, Paired (fun p kv => SqT X.K H p [kV kv.1, kv.2]) ps kvs →
    ∃ (prs : List (Key × Value)) (pvs : List (Value × Value)), KV kvs prs ∧ prs.length = ps.length ∧ pvs.length = ps.length ∧ ∀ (j : Nat) (k v : Value), pvs[j]? = some (k, v) → ∃ (b : Addr) (c : Key), ps[j]? = some b ∧ IsTup s.heap b #[k, v] ∧ prs[j]? = some (c, v) ∧ keyIs c k = true
  | _, _, .nil => ⟨[], [], .nil, rfl, rfl, fun j k v e => by simp at e⟩
  | _, _, .cons (a := p) (b := kv) h t => by
    obtain ⟨prs, pvs, r, hl, hl2, hp⟩ := pairs_with I t
    obtain ⟨its, rv, ht, _⟩ := I.tuple h
    obtain ⟨u, y, ei, ru, ry⟩ := vals2 rv
    subst ei
    refine ⟨(kv.1, y) :: prs, (u, y) :: pvs, .cons ⟨rfl, ry⟩ r, by rw [List.length_cons, List.length_cons, hl], by rw [List.length_cons, List.length_cons, hl2], fun j k v e => ?_⟩
    cases j with
    | zero =>
      have e' : (u, y) = (k, v) := Option.some.inj e
      cases e'
      exact ⟨p, kv.1, rfl, ht, rfl, kV_is (P := X.prog) (w := X.w) ru⟩
    | succ j =>
      obtain ⟨b, c, e1, e2, e3, e4⟩ := hp j k v (by simpa using e)
      exact ⟨b, c, by simpa using e1, e2, by simpa using e3, e4⟩
theorem call_dictT (hcalm : X.calm = true) : CallR X (.type "dict") (fun xs H Q => ∃ (a : Addr) (o : Obj) (ps : List Addr) (kvs : List (Key × V)), xs = [.ref a] ∧ H a = some (.frz o (.tup (ps.map V.ref))) ∧ o.dict = none ∧ Paired (fun p kv => SqT X.K H p [kV kv.1, kv.2]) ps kvs ∧
    ∀ p, H p = none → Q (.ref p) (upd H p (.dK (mergeK [] kvs)))) := by
  intro pins s σ H xs us Q I r q
  obtain ⟨a, o, ps, kvs, ex, ha, hnd, hp, q⟩ := q
  subst ex
  obtain ⟨u, eu, rx⟩ := vals1 r
  subst eu
  cases rx
  obtain ⟨hg, hz, its, rv, o', hg', hc, n, hdat⟩ := (show ObjOk X.prog X.w H s.heap a (.frz o (.tup (ps.map V.ref))) from I.hok a _ ha)
  rw [hg] at hg'
  cases hg'
  have ei := refs_at rv
  subst ei
  rw [List.length_map] at hz
  obtain ⟨prs, pvs, rel, hl, hl2, hpr⟩ := pairs_with I hp
  have ok : PlainSeq "tuple" s.heap a (ps.map Value.ref).toArray ∧ PairItems s.heap (ps.map Value.ref).toArray (fun j => ps.getD j 0) pvs := by
    refine ⟨⟨o, n, hg, hc, hnd, hdat⟩, by simp [hl2], fun j k v e => ?_⟩
    obtain ⟨b, c, e1, e2, _, _⟩ := hpr j k v e
    have eb : ps.getD j 0 = b := by rw [List.getD_eq_getElem?_getD, e1]; rfl
    show (ps.map Value.ref).toArray[j]? = some (.ref (ps.getD j 0)) ∧ PairAt s.heap (ps.getD j 0) k v
    rw [eb]
    refine ⟨by simp [e1], .inl ?_⟩
    obtain ⟨o2, g1, g2, n2, g3⟩ := e2
    exact ⟨o2, g1, g2, n2, g3⟩
  refine PySem.call_dict_pairs (knd := mixKind X.prog X.w) (kvs := prs) (PairArg.tuple a (ps.map Value.ref).toArray (fun j => ps.getD j 0) pvs) (I.ok.hd hcalm) ok ⟨by rw [hl, hl2], fun j k v e => ?_⟩ (by rw [hl2]; exact hz) fun h' tk hd' k => ?_
  · obtain ⟨b, c, _, _, e3, e4⟩ := hpr j k v e
    exact ⟨c, e3, e4⟩
  · have hm : (s.heap.objs.size == sysModules) = false := beq_eq_false_iff_ne.mpr (Nat.ne_of_gt I.big)
    have hlen : (mergeK [] kvs).length ≤ sizeLine := by
      refine Nat.le_trans (length_mergeK kvs []) ?_
      rw [List.length_nil, Nat.zero_add, rel.length, hl]
      exact hz
    exact ⟨.ref s.heap.objs.size, upd H s.heap.objs.size (.dK (mergeK [] kvs)), I.laid (t' := tk) (fun b o e => k b o (by simp) e) (Nat.le_refl _) (show ObjOk X.prog X.w _ _ _ (.dK (mergeK [] kvs)) from ⟨hlen, hm, merged [] prs, KV.merge rel .nil, hd'⟩), rfl, q _ (I.hok.fresh (Nat.le_refl _))⟩
theorem d_get2N {A : Around} {pins : List (Addr × Obj)} {σ : L2.St} {H : Hp} {s : Shared} {a : Addr} {kvs : List (Key × V)} {d : V} {r : Value} {E : Value → Shared → Prop} {Q : Value → Shared → Prop} (I : Inv X pins σ H s) (e : L2.Rd H a (.dK kvs)) (rd : RelV d r) (h : ∀ w' s', Inv X pins σ H s' → RelV d w' → Q w' s') :
    wpAny (model X.prog X.w) A (call (.builtin "dict.get") [.ref a, .none, r]) Q E s := by
  obtain ⟨z, hd, vs, rel, dd⟩ := dk_rd I.hok e
  obtain ⟨f, hm, hf⟩ := none_map dd
  refine call_meetsIn PySem.F.slot_dict_get dd.typeIs PySem.F.entry_dict_get (PySem.F.args_dict_get_3 _ _ _) (meets_dict_get_default (noneKind X.prog X.w) a (show (noneKind X.prog X.w).is none .none = true from rfl) hd r) ⟨f, hm, h _ _ (I.tok _) ?_⟩
  rw [hf]
  exact rd
def tDGet2N (td ty tx : TE) : TE := fun σ H Q => td σ H fun x H1 => ∃ a kvs, x = .ref a ∧ H1 a = some (.dK kvs) ∧ ty σ H1 fun y H2 => y = .non ∧ tx σ H2 fun z H3 => H3 a = some (.dK kvs) ∧ Q z H3
theorem pe_dget2N {o e f : Expr} {apos cpos : Pos} {td ty tx : TE} (ho : PE X o td) (he : PE X e ty) (hf : PE X f tx) (m : M2 X o "get" apos e f cpos) : PE X (.Call (.Attribute o "get" apos) [e, f] [] cpos) (tDGet2N td ty tx) := by
  refine ⟨fun pins s σ H Q I h => ?_⟩
  refine wpAny_Call_method m.base m.few m.line PySem.F.plainAttrs_dict PySem.F.slot_dict_get PySem.F.type_dict_get (thn (ho.run pins s σ H _ I h) fun u s1 ⟨x, H1, I1, rx, a, kvs, ex, d, q1⟩ => ?_)
  subst ex
  obtain rfl : u = Value.ref a := rx
  obtain ⟨t1, t2, _⟩ := isD_at I1 (.inl ⟨kvs, .inl d⟩)
  refine ⟨t1, t2, ?_⟩
  rw [m.trees]
  refine Calls.callWith_builtin rfl (Calls.evalArgs_plain (Calls.spliced_cons (thn (he.run pins s1 σ H1 _ I1 q1) fun iv s2 ⟨y, H2, I2, ry, ey, q2⟩ =>
    Calls.spliced_cons (thn (hf.run pins s2 σ H2 _ I2 q2) fun fv s3 ⟨z, H3, I3, rz, g, q3⟩ => Calls.spliced_nil ?_))))
  subst ey
  obtain rfl : iv = Value.none := ry
  exact d_get2N I3 (.inl g) rz fun w' s4 I4 rw' => ⟨z, H3, I4, rw', q3⟩
end
end Hz
/-! module HzPars -/
set_option maxHeartbeats 4000000
/-! read_parameters, for any text. -/
namespace Hz
open PySem PySem.Spec PyProof.Rows L2 Evl Hc Hs Hy
/-! ### dict(pairs): how long it is -/
theorem put_in {kvs : List (Key × V)} {k : Key} {v : V} (h : k ∈ kvs.map (·.1)) : (putK kvs k v).length = kvs.length := by
  unfold putK
  obtain ⟨e, he, rfl⟩ := List.mem_map.mp h
  rw [if_pos (List.any_eq_true.mpr ⟨e, he, decide_eq_true rfl⟩), List.length_map]
theorem put_out {kvs : List (Key × V)} {k : Key} {v : V} (h : k ∉ kvs.map (·.1)) : putK kvs k v = kvs ++ [(k, v)] := by
  unfold putK
  rw [if_neg]
  intro z
  obtain ⟨e, he, h2⟩ := List.any_eq_true.mp z
  exact h (List.mem_map.mpr ⟨e, he, of_decide_eq_true h2⟩)
theorem merge_le : ∀ (more acc : List (Key × V)), (mergeK acc more).length ≤ acc.length + more.length
  | [], acc => Nat.le_refl _
  | kv :: r, acc => by
    have ih := merge_le r (putK acc kv.1 kv.2)
    have h1 : (putK acc kv.1 kv.2).length ≤ acc.length + 1 := by
      by_cases h : kv.1 ∈ acc.map (·.1)
      · rw [put_in h]
        omega
      · rw [put_out h, List.length_append]
        exact Nat.le_refl _
    show (mergeK (putK acc kv.1 kv.2) r).length ≤ acc.length + (r.length + 1)
    omega
theorem merge_nd : ∀ (more acc : List (Key × V)), (acc.map (·.1) ++ more.map (·.1)).Nodup → mergeK acc more = acc ++ more
  | [], acc, _ => (List.append_nil acc).symm
  | kv :: r, acc, h => by
    have h1 : kv.1 ∉ acc.map (·.1) := fun z => (List.nodup_append.mp h).2.2 _ z _ List.mem_cons_self rfl
    show mergeK (putK acc kv.1 kv.2) r = acc ++ kv :: r
    rw [put_out h1, merge_nd r (acc ++ [(kv.1, kv.2)]) (by rw [List.map_append, List.append_assoc]; exact h), List.append_assoc]
    rfl
theorem merge_lt : ∀ (more acc : List (Key × V)), (acc.map (·.1)).Nodup → ¬ (acc.map (·.1) ++ more.map (·.1)).Nodup → (mergeK acc more).length < acc.length + more.length
  | [], acc, h1, h2 => absurd (by rw [List.map_nil, List.append_nil]; exact h1) h2
  | kv :: r, acc, h1, h2 => by
    by_cases h : kv.1 ∈ acc.map (·.1)
    · have := merge_le r (putK acc kv.1 kv.2)
      rw [put_in h] at this
      show (mergeK (putK acc kv.1 kv.2) r).length < acc.length + (r.length + 1)
      omega
    · have e : ((acc ++ [(kv.1, kv.2)]).map (·.1) ++ r.map (·.1)) = acc.map (·.1) ++ (kv :: r).map (·.1) := by
        rw [List.map_append, List.append_assoc]
        rfl
      have := merge_lt r (acc ++ [(kv.1, kv.2)]) (by
        rw [List.map_append, List.nodup_append]
        refine ⟨h1, by simp, fun a ha b hb => ?_⟩
        have hb' : b = kv.1 := by simpa using hb
        rw [hb']
        rintro rfl
        exact h ha) (by rw [e]; exact h2)
      show (mergeK (putK acc kv.1 kv.2) r).length < acc.length + (r.length + 1)
      rw [put_out h]
      rw [List.length_append] at this
      simp only [List.length_cons, List.length_nil] at this
      omega
/-! ### plain signs -/
def Pln (n : List Nat) : Prop := ∀ c ∈ n, c < 1114112
theorem txt_pln : ∀ (n : Nat) (t : Tre n), Pln (txt n t)
  | 0, _ => fun c hc => by
    have : c = 46 := by simpa [txt] using hc
    omega
  | n + 1, [] => fun c hc => by
    have : c = 46 := by simpa [txt] using hc
    omega
  | n + 1, x :: r => fun c hc => by
    rw [txt_cons] at hc
    rcases List.mem_cons.mp hc with rfl | hc
    · decide
    · rcases List.mem_append.mp hc with hc | hc
      · rcases joinL_mem hc with hc | ⟨y, hy, hc⟩
        · rcases List.mem_cons.mp hc with rfl | hc
          · decide
          · rw [List.mem_singleton.mp hc]
            decide
        · obtain ⟨u, _, rfl⟩ := List.mem_map.mp hy
          exact txt_pln n u c hc
      · rw [List.mem_singleton.mp hc]
        decide
theorem shape_pln {M : List Nat} (h : isShape M = true) : Pln M := by
  unfold isShape at h
  rw [Bool.and_eq_true] at h
  obtain ⟨tr, htr, _⟩ := form_tree 3 _ h.2
  rw [← htr]
  exact txt_pln 3 tr
theorem small_pln : ∀ c ∈ smalls, c < 1114112 := by decide
theorem word_pln {M : List Nat} (h : isWord M = true) : Pln M := by
  unfold isWord areSmall at h
  simp only [Bool.and_eq_true, List.all_eq_true, decide_eq_true_eq] at h
  exact fun c hc => small_pln c (h.1.2 c hc)
/-! ### parameters as data -/
def kd : Knd → PyData
  | .idx n => .int (n : Int)
  | .shp M => .str (S M)
  | .fn M r => .tuple [.str (S M), match r with
    | none => .none
    | some x => .str (S x)]
def parD (p : List Nat × Knd) : PyData := .tuple [.str (S p.1), kd p.2]
def optD : Option (List Nat × Knd) → PyData
  | none => .none
  | some p => parD p
def KndOk : Knd → Prop
  | .idx _ => True
  | .shp M => Pln M
  | .fn M r => Pln M ∧ ∀ x ∈ r, Pln x
theorem kind_ok {L : List Nat} {k : Knd} (h : readKind L = some k) : KndOk k := by
  unfold readKind at h
  split at h
  · cases h
    trivial
  · split at h
    · cases h
      trivial
    · split at h
      · cases h
        trivial
      · split at h
        · rename_i hs
          cases h
          exact shape_pln hs
        · split at h
          · rename_i hs
            cases h
            refine ⟨shape_pln hs.1, fun x hx => ?_⟩
            split at hx
            · cases hx
            · rename_i hn
              cases hx
              exact shape_pln (hs.2.resolve_left hn)
          · cases h
theorem lay_s {n : List Nat} (h : Pln n) : PyData.canLay0 (.str (S n)) = true := by
  unfold PyData.canLay0
  show (S n).cps.all (· < 0x110000) = true
  rw [Array.all_eq_true_iff_forall_mem]
  intro c hc
  exact decide_eq_true (h c (by simpa using hc))
theorem dep_s (x : Str) : PyData.depth (.str x) ≤ 1 := by
  unfold PyData.depth
  omega
theorem kd_lay {k : Knd} (h : KndOk k) : (kd k).canLay0 = true ∧ (kd k).depth ≤ 2 := by
  cases k with
  | idx n =>
    unfold kd PyData.canLay0 PyData.depth
    exact ⟨rfl, by omega⟩
  | shp M => exact ⟨lay_s h, Nat.le_trans (dep_s _) (by decide)⟩
  | fn M r =>
    obtain ⟨h1, h2⟩ := h
    have a1 := lay_s h1
    have a2 := dep_s (S M)
    unfold kd
    cases r with
    | none =>
      constructor
      · unfold PyData.canLay0 PyData.canLayAll0
        rw [a1]
        unfold PyData.canLayAll0 PyData.canLay0 PyData.canLayAll0
        rfl
      · unfold PyData.depth PyData.depthAll PyData.depthAll PyData.depthAll
        unfold PyData.depth
        decide
    | some x =>
      have b1 := lay_s (h2 x rfl)
      constructor
      · unfold PyData.canLay0 PyData.canLayAll0
        rw [a1]
        unfold PyData.canLayAll0
        rw [b1]
        unfold PyData.canLayAll0
        rfl
      · unfold PyData.depth PyData.depthAll PyData.depthAll PyData.depthAll
        unfold PyData.depth
        decide

theorem opt_lay {o : Option (List Nat × Knd)} (h : ∀ p ∈ o, Pln p.1 ∧ KndOk p.2) : (optD o).canLay0 = true ∧ (optD o).depth ≤ 3 := by
  cases o with
  | none =>
    unfold optD PyData.canLay0 PyData.depth
    exact ⟨rfl, by omega⟩
  | some p =>
    obtain ⟨h1, h2⟩ := h p rfl
    have a1 := lay_s h1
    have a2 := dep_s (S p.1)
    obtain ⟨b1, b2⟩ := kd_lay h2
    show (parD p).canLay0 = true ∧ (parD p).depth ≤ 3
    unfold parD
    generalize kd p.2 = d at b1 b2
    constructor
    · unfold PyData.canLay0 PyData.canLayAll0
      rw [a1]
      unfold PyData.canLayAll0
      rw [b1]
      unfold PyData.canLayAll0
      rfl
    · unfold PyData.depth PyData.depthAll PyData.depthAll PyData.depthAll
      omega
theorem opts_lay : ∀ {os : List (Option (List Nat × Knd))}, (∀ o ∈ os, ∀ p ∈ o, Pln p.1 ∧ KndOk p.2) → PyData.canLayAll0 (os.map optD) = true ∧ PyData.depthAll (os.map optD) ≤ 3
  | [], _ => by
    rw [List.map_nil]
    unfold PyData.canLayAll0 PyData.depthAll
    exact ⟨rfl, by omega⟩
  | o :: r, h => by
    obtain ⟨i1, i2⟩ := opts_lay (os := r) fun x hx => h x (List.mem_cons_of_mem _ hx)
    obtain ⟨a1, a2⟩ := opt_lay (h o List.mem_cons_self)
    rw [List.map_cons]
    unfold PyData.canLayAll0 PyData.depthAll
    rw [a1, i1]
    exact ⟨rfl, by omega⟩
theorem opts_shaped {os : List (Option (List Nat × Knd))} (h : ∀ o ∈ os, ∀ p ∈ o, Pln p.1 ∧ KndOk p.2) : SeqAt.shaped (.list (os.map optD)) = true := by
  obtain ⟨i1, i2⟩ := opts_lay h
  unfold SeqAt.shaped
  rw [Bool.and_eq_true]
  refine ⟨?_, decide_eq_true ?_⟩
  · unfold PyData.canLay0
    exact i1
  · unfold PyData.depth
    omega
theorem any_none : ∀ os : List (Option (List Nat × Knd)), ((os.map optD).any fun z => PyData.eqv z .none) = !(os.all Option.isSome)
  | [] => rfl
  | o :: r => by
    have e : PyData.eqv (optD o) .none = !o.isSome := by
      cases o with
      | none => simp [optD, PyData.eqv]
      | some p => simp [optD, parD, PyData.eqv]
    rw [List.map_cons, List.any_cons, List.all_cons, any_none r, e, Bool.not_and]
theorem kd_dp {K : PySem.W.Frag} {k : Knd} {v : V} {H : Hp} (h : KndAt k v H) : Dp K H v (kd k) := by
  cases k with
  | idx n =>
    have h' : v = .int (n : Int) := h
    rw [h']
    exact .int _
  | shp M =>
    have h' : v = sv M := h
    rw [h']
    exact .str _
  | fn M r =>
    obtain ⟨p, h1, h2⟩ := h
    rw [h1]
    refine .tup (st_of h2) (.cons (.str _) (.cons ?_ .nil))
    cases r with
    | none => exact .non
    | some x => exact .str _
theorem opt_dp {K : PySem.W.Frag} {o : Option (List Nat × Knd)} {v : V} {H : Hp} (h : OptPar o v H) : Dp K H v (optD o) := by
  cases o with
  | none =>
    have h' : v = .non := h
    rw [h']
    exact .non
  | some p =>
    obtain ⟨a, u, h1, h2, h3⟩ := h
    rw [h1]
    exact .tup (st_of h2) (.cons (.str _) (.cons (kd_dp h3) .nil))
theorem opts_dp {K : PySem.W.Frag} {H : Hp} : ∀ {ps : List (List Nat)} {xs : List V}, All2 (fun m v H => OptPar (readPar m) v H) ps xs H → DpAll K H xs ((ps.map readPar).map optD)
  | [], xs, h => by
    have : xs = [] := List.length_eq_zero_iff.mp h.1
    rw [this]
    exact .nil
  | m :: r, [], h => by cases h.1
  | m :: r, x :: xs, h => .cons (opt_dp (h.2 0 m x rfl rfl)) (opts_dp (ps := r) (xs := xs) ⟨by have := h.1; simpa using this, fun i n y a b => h.2 (i + 1) n y (by simpa using a) (by simpa using b)⟩)
theorem par_mon : ∀ m : List Nat, ExMon fun v H => OptPar (readPar m) v H := fun m v H H' e h => by
  cases q : readPar m with
  | none =>
    rw [q] at h
    exact h
  | some p =>
    rw [q] at h
    obtain ⟨a, u, h1, h2, h3⟩ := h
    refine ⟨a, u, h1, e _ _ h2 gd_tup, ?_⟩
    cases p with
    | mk w k =>
      cases k with
      | idx n => exact h3
      | shp M => exact h3
      | fn M r =>
        obtain ⟨t, h4, h5⟩ := h3
        exact ⟨t, h4, e _ _ h5 gd_tup⟩
/-! ### the def -/
def parsOf (L : List Nat) : List (List Nat) := if L = [] then [] else partsOf L
abbrev Pars := List (List Nat × Knd)
def readPars (L : List Nat) : Option Pars :=
  if ((parsOf L).map readPar).all Option.isSome = true ∧ (parsOf L).length ≤ 3 ∧ (((parsOf L).filterMap readPar).map (·.1)).Nodup then some ((parsOf L).filterMap readPar) else none
/-- parameters as a tuple of values -/
def ParsAt (ps : Pars) (t : Addr) (H : Hp) : Prop := ∃ xs o, H t = some (.frz o (.tup xs)) ∧ o.dict = none ∧ All2 (fun p v H => ParAt p v H) ps xs H
def spPars : Sp := fun vs H Q _ => ∃ L : List Nat, vs = [sv L] ∧ L.length ≤ cap ∧ (match readPars L with
  | none => ∀ H', Ex H H' → Q .non H'
  | some ps => ∀ H' t, H t = none → Ex H H' → ParsAt ps t H' → Q (.ref t) H')
structure ParsP (mg : Str → Option Value) : Prop where
  len : mg "len" = none
  dict : mg "dict" = none
  tup : mg "tuple" = none
  most : ∃ t, mg "MOST_PARAMETERS" = some (.int 3 t)
abbrev nPars : List Str := ["text", "parts", "found", "part"]
theorem scPars : FnScope nPars ["text"] (defScope sReadPars) := ⟨rfl, rfl, rfl, by decide +kernel, rfl, by decide +kernel, by decide +kernel⟩
theorem boot_dict' : bootBuiltins "dict" = some (.type "dict") := by decide +kernel
theorem el_ifL {t : TT} {ta tb : TE} {σ : L2.St} {H : Hp} {b : Bool} {xs ys : List V} (h : EvT t σ H b) (h1 : b = true → EvL ta σ H xs) (h2 : b = false → EvL tb σ H ys) : EvL (tIf t ta tb) σ H (if b = true then xs else ys) := fun H1 e Q q => h H1 e _ fun H2 e2 => by
  cases b with
  | true => exact h1 rfl H2 (e.trans e2) Q fun p H3 np e3 hp => q p H3 (fresh_back e2 np) (e2.trans e3) hp
  | false => exact h2 rfl H2 (e.trans e2) Q fun p H3 np e3 hp => q p H3 (fresh_back e2 np) (e2.trans e3) hp
/-- the pairs as dict's rule wants them -/
theorem pars_pair {K : PySem.W.Frag} {H : Hp} : ∀ {ps : List (List Nat)} {xs : List V}, All2 (fun m v H => OptPar (readPar m) v H) ps xs H → (ps.map readPar).all Option.isSome = true → ∃ (as : List Addr) (kvs : List (Key × V)), xs = as.map V.ref ∧ Paired (fun p kv => SqT K H p [kV kv.1, kv.2]) as kvs ∧ kvs.map (·.1) = ((ps.filterMap readPar).map (·.1)).map kN ∧ All2 (fun p v H => ParAt p v H) (ps.filterMap readPar) xs H
  | [], xs, h, _ => by
    have : xs = [] := List.length_eq_zero_iff.mp h.1
    rw [this]
    exact ⟨[], [], rfl, .nil, rfl, All2.nil⟩
  | m :: r, [], h, _ => by cases h.1
  | m :: r, x :: xs, h, ha => by
    rw [List.map_cons, List.all_cons, Bool.and_eq_true] at ha
    obtain ⟨p, hp⟩ := Option.isSome_iff_exists.mp ha.1
    have h0 : OptPar (readPar m) x H := h.2 0 m x rfl rfl
    rw [hp] at h0
    have h0' := h0
    obtain ⟨a, u, rfl, h2, h3⟩ := h0
    have hr : All2 (fun m v H => OptPar (readPar m) v H) r xs H := ⟨by have := h.1; simpa using this, fun i n y a b => h.2 (i + 1) n y (by simpa using a) (by simpa using b)⟩
    obtain ⟨as, kvs, rfl, hpr, hk, hall⟩ := pars_pair (K := K) hr ha.2
    refine ⟨a :: as, (kN p.1, u) :: kvs, rfl, .cons (st_of h2) hpr, ?_, ?_⟩
    · rw [List.filterMap_cons_some hp, List.map_cons, hk]
      rfl
    · rw [List.filterMap_cons_some hp]
      refine ⟨by rw [List.length_cons, hall.1]; rfl, fun i n y b1 b2 => ?_⟩
      cases i with
      | zero =>
        cases b1
        cases b2
        exact h0'
      | succ i => exact hall.2 i n y (by simpa using b1) (by simpa using b2)
theorem pair_ex {K : PySem.W.Frag} {H H' : Hp} (e : Ex H H') : ∀ {as : List Addr} {kvs : List (Key × V)}, Paired (fun p kv => SqT K H p [kV kv.1, kv.2]) as kvs → Paired (fun p kv => SqT K H' p [kV kv.1, kv.2]) as kvs
  | _, _, .nil => .nil
  | _, _, .cons h t => .cons (ex_t e h) (pair_ex e t)
theorem pair_len {α β : Type} {F : α → β → Prop} : ∀ {as : List α} {bs : List β}, Paired F as bs → as.length = bs.length
  | _, _, .nil => rfl
  | _, _, .cons _ t => congrArg (· + 1) (pair_len t)
theorem nodup_kN {l : List Nm} : (l.map kN).Nodup ↔ l.Nodup := by
  rw [List.nodup_iff_pairwise_ne, List.pairwise_map, List.nodup_iff_pairwise_ne]
  exact ⟨fun h => h.imp fun n z => n (congrArg kN z), fun h => h.imp fun n z => n (S_inj (Sum.inr.inj z))⟩
section
variable {P : Program} {w : World} {K : PySem.W.Frag} {mg : Str → Option Value} {base : Heap} {f : Addr} {fd : FuncData} {k : Nat}
theorem ok_pars (F : Fun K "read_parameters" "read_parameters" sReadPars f fd) (T : ParsP mg) (rA : Rd P w K mg base "parts_of" k ["text"] spParts) (rP : Rd P w K mg base "read_parameter" k ["text"] spPar) : FnOk P w K mg base CX0 (k + 1) f fd ["text"] spPars := by
  refine F.ok scPars (fun vs H Q E h => ?_) (fun cdv A outer s H vs Q E hr h => ?_)
  · obtain ⟨L, rfl, _⟩ := h
    rfl
  · obtain ⟨L, rfl, hL, q⟩ := h
    obtain ⟨tM, hM⟩ := T.most
    have hu65 : (A.deeper (envOfC (Str.ofString "read_parameters") (defScope sReadPars) s.heap.objs.size f cdv)).units + 65 < cLine := by
      have := hr.un
      omega
    refine ⟨_, pss_cons (ps_set (i := 1) scPars.nd rfl (.inl rfl) (pe_ifExp (pt_cmpR op_eq (pv 0) pe_str (nomark _)) (pe_lst pa_nil) (pe_rd rA hr (Nat.le_refl _) (by rfl) (pa_cons (pv 0) pa_nil))))
      (pss_cons (ps_setLc (i := 2) (own := [("part", 3)]) (g := gName 3) (tt := tYes) rfl scPars.nd rfl rfl (sw_true rfl rfl rfl (by decide +kernel)) (pi_list (pv 1)) (blkOk_by (N := nPars) (sc := defScope sReadPars) (by decide +kernel)) (fun _ _ _ _ _ => pg_name (i := 3) scPars.nd rfl (.inl rfl)) (fun _ _ _ _ _ => pts_nil)
          (fun _ _ _ _ _ => pe_rd rP hr (Nat.le_refl _) (by rfl) (pa_cons (pv 3) pa_nil)))
      (pss_cons (ps_if (PW.pt (pw_or (pt_cmpR (op_inD hu65) pe_non (pv 2) (by rfl)) (pw_or (pt_cmpR op_gt (pe_callB call_len_seq (by rfl) T.len PySem.boot_len (pa_cons (pv 2) pa_nil)) (pe_glob (v := .int 3) (by rfl) hM ⟨_, rfl⟩) (nomark _))
          (pw_or1 (pt_cmpR op_lt (pe_callB call_lenD (by rfl) T.len PySem.boot_len (pa_cons (pe_callTy (call_dictP rfl) (by rfl) T.dict boot_dict' (pa_cons (pv 2) pa_nil)) pa_nil)) (pe_callB call_len_seq (by rfl) T.len PySem.boot_len (pa_cons (pv 2) pa_nil)) (nomark _)))))) (pss_one (ps_ret pe_non)) pss_nil)
      (pss_one (ps_ret (pe_callTy call_tupF (by rfl) T.tup boot_tuple (pa_cons (pv 2) pa_nil)))))), ?_⟩
    -- parts
    have hpl : (parsOf L).length ≤ 30001 := by
      unfold parsOf
      split
      · decide
      · have := partsOf_len L
        have h3 : L.length ≤ 30000 := hL
        omega
    have hpi : ∀ m ∈ parsOf L, m.length ≤ cap := fun m hm => by
      unfold parsOf at hm
      split at hm
      · cases hm
      · exact Nat.le_trans (partsOf_items L m hm) hL
    refine q_asgL (xs := (parsOf L).map sv) ?_ fun pp H1 npp e1 hpp => ?_
    · have z := el_ifL (H := H) (σ := [some (sv L), none, none, none]) (b := decide (L = [])) (t := tTest (tOp rEq (tVar 0) (tC (.str (S []))))) (ta := tLst tNil) (tb := tCall spParts [] E0 (tCons (tVar 0) tNil)) (et_test (Hs.ev_eqS (a := L) (b := []) (ev_var rfl) ev_c)) (fun _ => el_lst ea_nil (Nat.zero_le _)) (fun _ => el_call (ea_cons (ev_var rfl) ea_nil) (sp_parts hL))
      have e : (if decide (L = []) = true then ([] : List V) else (partsOf L).map fun x => V.str (S x)) = (parsOf L).map sv := by
        unfold parsOf
        by_cases h0 : L = []
        · rw [if_pos h0, if_pos (decide_eq_true h0)]
          rfl
        · rw [if_neg h0, if_neg (fun z => h0 (of_decide_eq_true z))]
      rw [e] at z
      exact z
    unfold readPars at q
    generalize parsOf L = ps at q hpl hpi hpp
    -- found
    refine q_asgX ?_
    refine er_lcL (K := K) (σ := [some (sv L), some (.ref pp), none, none]) (R := fun m v H => OptPar (readPar m) v H) (a := pp) (tl := tVar 1) (te := tCall spPar [] E0 (tCons (tVar 3) tNil)) (j := 3) (vs := [3]) par_mon ps (ps.map sv) (List.length_map _) (ev_var rfl) (sq_of hpp) (by omega) Hs.wipe1 (fun i m y H2 e2 hm hy => ?_) H1 (Ex.refl H1) _ fun pf xs H2 npf e2 hpf hall => ?_
    · rw [List.getElem?_map, hm] at hy
      cases hy
      exact fun H3 e3 Q3 q3 => ⟨_, rfl, m, rfl, hpi m (List.mem_of_getElem? hm), fun H4 v e4 hv => q3 v H4 e4 hv⟩
    show tSeq _ _ _ [some (sv L), some (.ref pp), some (.ref pf), none] H2
    have e12 := e1.trans e2
    have hxl : xs.length = ps.length := hall.1
    have hgood : ∀ o ∈ ps.map readPar, ∀ p ∈ o, Pln p.1 ∧ KndOk p.2 := fun o ho p hp => by
      obtain ⟨m, _, rfl⟩ := List.mem_map.mp ho
      unfold readPar at hp
      split at hp
      · cases hp
      · rename_i k hk
        split at hp
        · rename_i hw
          cases hp
          exact ⟨word_pln hw, kind_ok hk⟩
        · cases hp
    have hmon : ∀ {H3 : Hp}, Ex H2 H3 → All2 (fun m v H => OptPar (readPar m) v H) ps xs H3 := fun e => hall.ex par_mon (NL.ex e)
    have t1 : EvT (tTest (tOp (rInD K) (tC .non) (tVar 2))) [some (sv L), some (.ref pp), some (.ref pf), none] H2 (!((ps.map readPar).all Option.isSome)) := by
      refine et_test (Evl.ev_is (ev_op ev_c (ev_var rfl) (z := .bl (((ps.map readPar).map optD).any fun z => PyData.eqv z .none)) fun H3 e3 Q3 q3 => ⟨.none, (ps.map readPar).map optD, .non, .lst (sq_of (e3 _ _ hpf)) (opts_dp (hmon e3)), by unfold SeqAt.shaped PyData.canLay0 PyData.depth; decide, opts_shaped hgood, q3 H3 (Ex.refl H3)⟩) (by rw [any_none]))
    have tlen : ∀ {H3 : Hp}, Ex H2 H3 → Ev (tCB (fun xs H Q => ∃ p ys, xs = [.ref p] ∧ (SqL K H p ys ∨ SqT K H p ys) ∧ Q (.int (ys.length : Nat)) H) (tCons (tVar 2) tNil)) [some (sv L), some (.ref pp), some (.ref pf), none] H3 (.int ((ps.length : Nat) : Int)) := fun e3 => Evl.ev_is (ev_len (ev_var rfl) (sq_of (e3 _ _ hpf))) (by rw [hxl])
    by_cases hs : (ps.map readPar).all Option.isSome = true
    · obtain ⟨as, kvs, rfl, hpair, hkeys, hpar⟩ := pars_pair (K := K) hall hs
      have t3 : EvT (tTest (tOp (rI0 fun i j => .bl (decide (i < j))) (tCB (fun xs H Q => ∃ a kvs, xs = [V.ref a] ∧ H a = some (.dK kvs) ∧ Q (.int kvs.length) H) (tCons (tCB (fun xs H Q => ∃ (a : Addr) (ps : List Addr) (kvs : List (Key × V)), xs = [.ref a] ∧ SqL K H a (ps.map V.ref) ∧ Paired (fun p kv => SqT K H p [kV kv.1, kv.2]) ps kvs ∧ ∀ p, H p = none → Q (.ref p) (upd H p (.dK (mergeK [] kvs)))) (tCons (tVar 2) tNil)) tNil)) (tCB (fun xs H Q => ∃ p ys, xs = [.ref p] ∧ (SqL K H p ys ∨ SqT K H p ys) ∧ Q (.int (ys.length : Nat)) H) (tCons (tVar 2) tNil)))) [some (sv L), some (.ref pp), some (.ref pf), none] H2 (decide ((((mergeK [] kvs).length : Nat) : Int) < ((ps.length : Nat) : Int))) := by
        refine et_test (fun H3 e3 Q3 q3 => ⟨_, rfl, pf, as, kvs, rfl, sq_of (e3 _ _ hpf), ?_, fun d nd => ⟨d, _, rfl, upd_same, ?_⟩⟩)
        · exact pair_ex e3 hpair
        · exact tlen (e3.trans (Ex.new nd)) _ (Ex.refl _) _ fun H4 e4 => ⟨_, _, rfl, rfl, q3 H4 ((Ex.new nd).trans e4)⟩
      have hkl : kvs.length = ps.length := by
        rw [← pair_len hpair, ← hxl, List.length_map]
      have t2 : EvT (tTest (tOp (rI0 fun i j => .bl (decide (j < i))) (tCB (fun xs H Q => ∃ p ys, xs = [.ref p] ∧ (SqL K H p ys ∨ SqT K H p ys) ∧ Q (.int (ys.length : Nat)) H) (tCons (tVar 2) tNil)) (tC (.int 3)))) [some (sv L), some (.ref pp), some (.ref pf), none] H2 (decide ((3 : Int) < ((ps.length : Nat) : Int))) := et_test (ev_op (tlen (Ex.refl H2)) ev_c rv_I0)
      refine q_when (et_or t1 fun _ => et_or t2 fun _ => t3) (fun hb H3 e3 => ?_) (fun hb H3 e3 => ?_)
      · rw [if_neg (fun z => by
          obtain ⟨_, z2, z3⟩ := z
          have hn : (kvs.map (·.1)).Nodup := by
            rw [hkeys, nodup_kN]
            exact z3
          rw [merge_nd kvs [] hn, List.nil_append, hkl, hs, decide_eq_false (by omega), decide_eq_false (by omega)] at hb
          cases hb)] at q
        exact s_ret ev_c fun H4 e4 => q H4 ((e12.trans e3).trans e4)
      · simp only [Bool.or_eq_false_iff, decide_eq_false_iff_not] at hb
        obtain ⟨_, b2, b3⟩ := hb
        have hnd : ((ps.filterMap readPar).map (·.1)).Nodup := by
          apply Classical.byContradiction
          intro hn
          have := merge_lt kvs [] List.nodup_nil (by
            show ¬ (([] : List Key) ++ kvs.map (fun kv => kv.1)).Nodup
            rw [List.nil_append, hkeys, nodup_kN]
            exact hn)
          rw [hkl, List.length_nil] at this
          omega
        rw [if_pos ⟨hs, by omega, hnd⟩] at q
        refine ⟨_, rfl, pf, _, rfl, sq_of (e3 _ _ hpf), fun t ob nt hob => ?_⟩
        have e23 := e12.trans e3
        refine q _ t (fresh_back e23 nt) (e23.trans (Ex.new nt)) ⟨_, ob, upd_same, hob, ?_⟩
        exact hpar.ex (fun p v H H' e h => by
          obtain ⟨a, u, h1, h2, h3⟩ := h
          refine ⟨a, u, h1, e _ _ h2 gd_tup, ?_⟩
          cases p with
          | mk w k =>
            cases k with
            | idx n => exact h3
            | shp M => exact h3
            | fn M r =>
              obtain ⟨t, h4, h5⟩ := h3
              exact ⟨t, h4, e _ _ h5 gd_tup⟩) (NL.ex (e3.trans (Ex.new nt)))
    · have e0 : (!((ps.map readPar).all Option.isSome)) = true := by
        cases z : (ps.map readPar).all Option.isSome with
        | true => exact absurd z hs
        | false => rfl
      rw [e0] at t1
      rw [if_neg (fun z => hs z.1)] at q
      refine q_when (b := true) (et_or (b := false) t1 fun z => nomatch z) (fun _ H3 e3 => ?_) (fun z => nomatch z)
      exact s_ret ev_c fun H4 e4 => q H4 ((e12.trans e3).trans e4)
end
end Hz
/-! module HzRow -/
set_option maxHeartbeats 4000000
/-! read_term of a simple; read_row of PATH = SIMPLE. -/
namespace Hz
open PySem PySem.Spec PyProof.Rows L2 Evl Hc Hs Hy
def spTermS (C : Cs) : Sp := fun vs H Q _ => ∃ (L : List Nat) (s : Smp), vs = [sv L] ∧ L.length ≤ cap ∧ readSimple L = some s ∧ ∀ H' x, H x = none → Ex H H' → SmpAt C s x H' → Q (.ref x) H'
abbrev nTerm : List Str := ["text", "simple", "inside", "floor_count", "call"]
theorem scTerm : FnScope nTerm ["text"] (defScope sReadTerm) := ⟨rfl, rfl, rfl, by decide +kernel, rfl, by decide +kernel, by decide +kernel⟩
def eqD : List Nat := [32, 61, 32]
def rvD : List Nat := [114, 101, 116, 117, 114, 110, 32, 118, 105, 101, 119, 32]
def rtD : List Nat := [114, 101, 116, 117, 114, 110, 32]
def setD : List Nat := [115, 101, 116]
def RowAt (C : Cs) (R : Addr) (p : Pth) (s : Smp) (x : Addr) (H : Hp) : Prop := ∃ dx y z, H x = some (.ins R dx [("way", sv setD), ("path", .ref y), ("term", .ref z)]) ∧ PtAt C.path y p H ∧ SmpAt C s z H
theorem RowAt.ex {C : Cs} {R : Addr} {p : Pth} {s : Smp} {x : Addr} {H H' : Hp} (h : RowAt C R p s x H) (e : Ex H H') : RowAt C R p s x H' := by
  obtain ⟨dx, y, z, h1, h2, h3⟩ := h
  exact ⟨dx, y, z, e _ _ h1, h2.ex e, h3.ex e⟩
structure RwC (K : PySem.W.Frag) (R : Addr) : Prop where
  cl : Cls K R
  nW : NoAttr K R "way"
  nP : NoAttr K R "path"
  nT : NoAttr K R "term"
def spRw (R : Addr) : Sp := fun vs H Q _ => ∃ (x dx : Addr) (a b c : V), vs = [.ref x, a, b, c] ∧ H x = some (.ins R dx []) ∧ ∀ H', Hc.Ext (fun b => b = x) H H' → H' x = some (.ins R dx [("way", a), ("path", b), ("term", c)]) → Q .non H'
abbrev sRwInit : Stmt := inClass cRow 0
theorem scRw : FnScope ["self", "way", "path", "term"] ["self", "way", "path", "term"] (defScope sRwInit) := ⟨rfl, rfl, rfl, by decide +kernel, rfl, by decide +kernel, by decide +kernel⟩
def spRow (C : Cs) (R : Addr) : Sp := fun vs H Q _ => ∃ (L : List Nat) (p : Pth) (s : Smp), vs = [sv L] ∧ L.length ≤ cap ∧ startsL L rvD = false ∧ startsL L rtD = false ∧ partB L eqD ≠ [] ∧ readPath (partA L eqD) = some p ∧ readSimple (partC L eqD) = some s ∧ ∀ H' x, H x = none → Ex H H' → RowAt C R p s x H' → Q (.ref x) H'
abbrev nRow : List Str := ["text", "left", "sign", "right", "path", "way", "term"]
theorem scRow : FnScope nRow ["text"] (defScope sReadRow) := ⟨rfl, rfl, rfl, by decide +kernel, rfl, by decide +kernel, by decide +kernel⟩
theorem make3 {D : Addr} {sp : Sp} {te tf tg : TE} {σ : L2.St} {H : Hp} {Q : VK} (h : te σ H fun v H1 => tf σ H1 fun u H2 => tg σ H2 fun t H3 => ∀ x dx, H3 x = none → H3 dx = none → dx ≠ x → sp [.ref x, v, u, t] (upd (upd H3 dx (.own x)) x (.ins D dx [])) (fun z H4 => z = .non ∧ Q (.ref x) H4) E0) : tMake D sp [] E0 (tCons te (tCons tf (tCons tg tNil))) σ H Q := h
section
variable {P : Program} {w : World} {K : PySem.W.Frag} {mg : Str → Option Value} {base : Heap} {C : Cs} {R f : Addr} {fd : FuncData} {k : Nat}
theorem ok_term (F : Fun K "read_term" "read_term" sReadTerm f fd) (rS : Rd P w K mg base "read_simple" k ["text"] (spSimple C)) : FnOk P w K mg base CX0 (k + 1) f fd ["text"] (spTermS C) := by
  refine F.ok scTerm (fun vs H Q E h => ?_) (fun cdv A outer s H vs Q E hr h => ?_)
  · obtain ⟨L, s, rfl, _⟩ := h
    rfl
  · obtain ⟨L, s, rfl, hL, hs, q⟩ := h
    refine ⟨_, pss_cons (ps_set (i := 1) scTerm.nd rfl (.inl rfl) (pe_rd rS hr (Nat.le_refl _) (by rfl) (pa_cons (pv 0) pa_nil)))
      (pss_cons (ps_if (pt_cmpR op_notN (pv 1) pe_non (nomark _)) (pss_one (ps_ret (pv 1))) pss_nil)
      (pss_cons ps_never (pss_one ps_never))), ?_⟩
    refine q_asgX ?_
    refine ⟨_, rfl, L, rfl, hL, ?_⟩
    rw [hs]
    intro H1 x nx e1 hx
    show tSeq _ _ _ [some (sv L), some (.ref x), none, none, none] H1
    refine q_when (b := true) (et_test (Evl.ev_is (ev_op (ev_var rfl) ev_c (z := .bl (!decide (V.ref x = V.non))) fun H2 e Q q => ⟨rfl, q H2 (Ex.refl H2)⟩) rfl)) (fun _ H2 e2 => s_ret (ev_var rfl) fun H3 e3 => q H3 x nx ((e1.trans e2).trans e3) ((hx.ex e2).ex e3)) (fun z => nomatch z)
theorem ok_rw (F : Fun K "__init__" "Row.__init__" sRwInit f fd) (c : RwC K R) : FnOk P w K mg base CX0 (k + 1) f fd ["self", "way", "path", "term"] (spRw R) := by
  refine F.ok scRw (fun vs H Q E h => ?_) (fun cdv A outer s H vs Q E hr h => ?_)
  · obtain ⟨x, dx, a, b, c, rfl, _⟩ := h
    rfl
  · obtain ⟨x, dx, a, b, t, rfl, hx, q⟩ := h
    refine ⟨_, pss_cons (ps_fld (pv 0) (pv 1) (by rfl)) (pss_cons (ps_fld (pv 0) (pv 2) (by rfl)) (pss_one (ps_fld (pv 0) (pv 3) (by rfl)))), ?_⟩
    refine q_fldV (ev_var rfl) (ev_var rfl) hx c.cl c.nW (show 0 < 1000 by decide) fun H1 e1 => ?_
    refine q_fldV (ev_var rfl) (ev_var rfl) upd_same c.cl c.nP (show 1 < 1000 by decide) fun H2 e2 => ?_
    refine s_fldV (ev_var rfl) (ev_var rfl) upd_same c.cl c.nT (show 2 < 1000 by decide) fun H3 e3 => ?_
    exact q _ (((stepE (S := fun b => b = x) e1 rfl).trans (stepE e2 rfl)).trans (stepE e3 rfl)) upd_same
theorem ok_row (F : Fun K "read_row" "read_row" sReadRow f fd) (rT : Rd P w K mg base "read_term" k ["text"] (spTermS C)) (rP : Rd P w K mg base "read_path" k ["text"] (spPath C.path)) (rR : Hy.Rm P w K mg base "Row" R 1 ["self", "way", "path", "term"] (spRw R)) (hk : 2 ≤ k) : FnOk P w K mg base CX0 (k + 1) f fd ["text"] (spRow C R) := by
  refine F.ok scRow (fun vs H Q E h => ?_) (fun cdv A outer s H vs Q E hr h => ?_)
  · obtain ⟨L, p, s, rfl, _⟩ := h
    rfl
  · obtain ⟨L, p, s, rfl, hL, h1, h2, h3, h4, h5, q⟩ := h
    refine ⟨_, pss_cons (ps_asg (pe_partition (pv 0) pe_str) (pg_tup (by rfl) (pgs_cons (pg_name (i := 1) scRow.nd rfl (.inl rfl)) (pgs_cons (pg_name (i := 2) scRow.nd rfl (.inl rfl)) (pgs_cons (pg_name (i := 3) scRow.nd rfl (.inl rfl)) pgs_nil)))))
      (pss_cons (ps_set (i := 4) scRow.nd rfl (.inl rfl) pe_non)
      (pss_cons (ps_if (pt_val (pe_m1 PySem.F.slot_str_startswith PySem.F.type_str_startswith mt_startswith (pv 0) pe_str)) (pss_cons ps_never (pss_one ps_never))
        (pss_one (ps_if (pt_val (pe_m1 PySem.F.slot_str_startswith PySem.F.type_str_startswith mt_startswith (pv 0) pe_str)) (pss_cons ps_never (pss_one ps_never))
          (pss_one (ps_if (pt_cmpR op_eq (pv 2) pe_str (nomark _)) (pss_cons ps_never (pss_one ps_never))
            (pss_cons (ps_set (i := 5) scRow.nd rfl (.inl rfl) pe_str)
            (pss_cons (ps_set (i := 6) scRow.nd rfl (.inl rfl) (pe_rd rT hr (Nat.le_refl _) (by rfl) (pa_cons (pv 3) pa_nil)))
            (pss_one (ps_set (i := 4) scRow.nd rfl (.inl rfl) (pe_rd rP hr (Nat.le_refl _) (by rfl) (pa_cons (pv 1) pa_nil)))))))))))
      (pss_cons (ps_if (PW.pt (pw_or (pt_cmpR op_isN (pv 6) pe_non (nomark _)) (pw_or1 (PW.pt (pw_and (pt_cmpR op_eq (pv 5) pe_str (nomark _)) (pw_and1 (pt_cmpR op_isN (pv 4) pe_non (nomark _)))))))) (pss_one (ps_ret pe_non)) pss_nil)
      (pss_one (ps_ret (Hy.pe_rm rR hr hk (by rfl) (pa_cons (pv 5) (pa_cons (pv 4) (pa_cons (pv 6) pa_nil))))))))), ?_⟩
    have ha := Nat.le_trans (part_len L eqD).1 hL
    have hc := Nat.le_trans (part_len L eqD).2 hL
    show tSeq (tAsg (tM1 _ (tVar 0) (tC (.str (S eqD)))) _) _ _ [some (sv L), none, none, none, none, none, none] H
    refine q_asgG ?_
    have zp := eu_part (H := H) (σ := [some (sv L), none, none, none, none, none, none]) (to := tVar 0) (te := tC (.str (S eqD))) (L := L) (M := eqD) hL (by decide) (part_all L eqD) (ev_var rfl) ev_c
    refine zp H (Ex.refl H) _ fun pp H1 np e1 hp => ?_
    refine ⟨pp, _, rfl, st_of hp, rfl, _, _, rfl, _, _, rfl, _, _, rfl, rfl, ?_⟩
    generalize partA L eqD = a at h4 ha ⊢
    generalize partB L eqD = b at h3 ⊢
    generalize partC L eqD = c at h5 hc ⊢
    show tSeq (tAsg (tC .non) _) _ _ [some (sv L), some (sv a), some (sv b), some (sv c), none, none, none] H1
    refine q_asg ev_c fun H2 e2 => ?_
    show tSeq (tIfS _ _ _) _ _ [some (sv L), some (sv a), some (sv b), some (sv c), some .non, none, none] H2
    refine q_if (b := false) (et_is (et_B (ev_startsS (L := L) (M := rvD) (ev_var rfl) ev_c)) h1) (fun z => nomatch z) fun _ H3 e3 => ?_
    refine s_if (b := false) (et_is (et_B (ev_startsS (L := L) (M := rtD) (ev_var rfl) ev_c)) h2) (fun z => nomatch z) fun _ H4 e4 => ?_
    refine s_if (b := false) (et_is (et_test (Hs.ev_eqS (a := b) (b := []) (ev_var rfl) ev_c)) (decide_eq_false h3)) (fun z => nomatch z) fun _ H5 e5 => ?_
    refine q_asg (v := sv setD) ev_c fun H6 e6 => ?_
    have e06 := ((((e1.trans e2).trans e3).trans e4).trans e5).trans e6
    show tSeq (tAsg (tCall (spTermS C) [] E0 (tCons (tVar 3) tNil)) _) _ _ [some (sv L), some (sv a), some (sv b), some (sv c), some .non, some (sv setD), none] H6
    refine q_asgX ?_
    refine ⟨_, rfl, c, s, rfl, hc, h5, fun H7 z nz e7 hz => ?_⟩
    show tAsg (tCall (spPath C.path) [] E0 (tCons (tVar 1) tNil)) (gName 4) _ [some (sv L), some (sv a), some (sv b), some (sv c), some .non, some (sv setD), some (.ref z)] H7
    refine s_asgX ?_
    refine ⟨_, rfl, a, rfl, ha, ?_⟩
    rw [h4]
    intro H8 y ny e8 hy
    dsimp only
    show tSeq (tIfS _ _ _) _ _ [some (sv L), some (sv a), some (sv b), some (sv c), some (.ref y), some (sv setD), some (.ref z)] H8
    refine q_when (b := false) (et_is (et_or (et_test (ev_nonR (ev_var rfl))) fun _ => et_and (et_test (Hs.ev_eqS (a := setD) (b := setD) (ev_var rfl) ev_c)) fun _ => et_test (ev_nonR (ev_var rfl))) (by simp)) (fun z => nomatch z) fun _ H9 e9 => ?_
    have e09 := ((e06.trans e7).trans e8).trans e9
    refine make3 ⟨_, rfl, _, rfl, _, rfl, ?_⟩
    intro x dx nx nd ne
    refine ⟨x, dx, sv setD, .ref y, .ref z, rfl, upd_same, fun H10 ext hx => ⟨rfl, ?_⟩⟩
    have e10 := made_ex nx nd ext
    exact q H10 x (fresh_back e09 nx) (e09.trans e10) ⟨dx, y, z, hx, (hy.ex e9).ex e10, ((hz.ex e8).ex e9).ex e10⟩
end
end Hz
/-! module HzStand -/
set_option maxHeartbeats 4000000
/-! lone_word, uncopied, has_super, Definition, can_stand: for rows PATH = SIMPLE at a field. -/
namespace Hz
open PySem PySem.Spec PyProof.Rows L2 Evl Hc Hs Hy
theorem pe_never {X : Cx} {e : Expr} : PE X e (fun _ _ _ => False) := ⟨fun _ _ _ _ _ _ h => h.elim⟩
theorem pt_never {X : Cx} {e : Expr} : PT X e (fun _ _ _ => False) := ⟨fun _ _ _ _ _ _ h => h.elim⟩
/-- what isinstance asks of a class -/
structure IsC (K : PySem.W.Frag) (C : Addr) : Prop where
  cl : Cls K C
  ha : PySem.W.findIn K (.ref C) "__class__" = some (some (.builtin "object.__class__"))
  hn : PySem.W.specialIn K (.builtin "object.__class__") "__get__" = some (some (.builtin "getset_descriptor.__get__"))
  htk : PySem.W.takesIn K (.builtin "object.__class__") = some true
  hm : PySem.W.mroIn K C (.type "object") = some true
theorem IsC.ty {K : PySem.W.Frag} {C a dx : Addr} {fs : List (Str × V)} {H : Hp} (c : IsC K C) (h : H a = some (.ins C dx fs)) : TyX K H (.ref a) (.ref C) := .base (.ins h c.cl c.ha c.hn c.htk c.hm)
structure KitR (K : PySem.W.Frag) (mg : Str → Option Value) (C : Cs) (SC : Addr) : Prop where
  iN : IsC K C.new
  iC : IsC K C.copy
  iP : IsC K C.path
  nc : PySem.W.kitOne K (.ref C.new) (.ref C.copy) = some false
  cc : PySem.W.kitOne K (.ref C.copy) (.ref C.copy) = some true
  pc : PySem.W.kitOne K (.ref C.path) (.ref C.copy) = some false
  ns : PySem.W.kitOne K (.ref C.new) (.ref SC) = some false
  ps : PySem.W.kitOne K (.ref C.path) (.ref SC) = some false
  pp : PySem.W.kitOne K (.ref C.path) (.ref C.path) = some true
  gC : mg "Copy" = some (.ref C.copy)
  gP : mg "Path" = some (.ref C.path)
  gS : mg "SuperCall" = some (.ref SC)
  isi : mg "isinstance" = none
def RowOk (C : Cs) (R x : Addr) (H : Hp) : Prop := ∃ p s, RowAt C R p s x H ∧ p.own = true
theorem RowOk.ex {C : Cs} {R x : Addr} {H H' : Hp} (h : RowOk C R x H) (e : Ex H H') : RowOk C R x H' := by
  obtain ⟨p, s, h, o⟩ := h
  exact ⟨p, s, h.ex e, o⟩
/-- the term of a row without its copy: a path or a new value -/
def Inner (C : Cs) (v : V) (H : Hp) : Prop := ∃ y, v = .ref y ∧ ((∃ dx fs, H y = some (.ins C.new dx fs)) ∨ ∃ dx fs, H y = some (.ins C.path dx fs))
theorem Inner.ex {C : Cs} {v : V} {H H' : Hp} (h : Inner C v H) (e : Ex H H') : Inner C v H' := by
  obtain ⟨y, h0, h⟩ := h
  exact ⟨y, h0, h.imp (fun ⟨dx, fs, h⟩ => ⟨dx, fs, e _ _ h⟩) fun ⟨dx, fs, h⟩ => ⟨dx, fs, e _ _ h⟩⟩
def spUncop (C : Cs) (R : Addr) : Sp := fun vs H Q _ => ∃ x, vs = [.ref x] ∧ RowOk C R x H ∧ ∀ H' v, Ex H H' → Inner C v H' → Q v H'
def spHasSup (C : Cs) (R : Addr) : Sp := fun vs H Q _ => ∃ x, vs = [.ref x] ∧ RowOk C R x H ∧ ∀ H', Ex H H' → Q (.bl false) H'
def spLone (C : Cs) : Sp := fun vs H Q _ => ∃ x p, vs = [.ref x] ∧ PtAt C.path x p H ∧ p.own = true ∧ ∀ H', Ex H H' → Q .non H'
theorem scUncop : FnScope ["row"] ["row"] (defScope sUncopied) := ⟨rfl, rfl, rfl, by decide +kernel, rfl, by decide +kernel, by decide +kernel⟩
theorem scHasSup : FnScope ["row"] ["row"] (defScope sHasSuper) := ⟨rfl, rfl, rfl, by decide +kernel, rfl, by decide +kernel, by decide +kernel⟩
theorem scLone : FnScope ["part"] ["part"] (defScope sLone) := ⟨rfl, rfl, rfl, by decide +kernel, rfl, by decide +kernel, by decide +kernel⟩
theorem ev_isiX {K : PySem.W.Frag} {σ : L2.St} {H : Hp} {te tc : TE} {x c : V} {t u : Value} {b : Bool} (h : Ev te σ H x) (hc : Ev tc σ H c) (kc : ClsV c u) (ty : ∀ H1, Ex H H1 → TyX K H1 x t) (hk : PySem.W.kitOne K t u = some b) : Ev (tCB (rIsi K) (tCons te (tCons tc tNil))) σ H (.bl b) :=
  ev_cb (ea_cons h (ea_cons hc ea_nil)) fun H1 e Q q => ⟨x, c, t, u, b, rfl, kc, ty H1 e, hk, q H1 (Ex.refl H1)⟩
section
variable {P : Program} {w : World} {K : PySem.W.Frag} {mg : Str → Option Value} {base : Heap} {C : Cs} {R SC f : Addr} {fd : FuncData} {k : Nat}
theorem ok_uncop (F : Fun K "uncopied" "uncopied" sUncopied f fd) (T : KitR K mg C SC) (c : CsC K C) (r : RwC K R) : FnOk P w K mg base CX0 (k + 1) f fd ["row"] (spUncop C R) := by
  refine F.ok scUncop (fun vs H Q E h => ?_) (fun cdv A outer s H vs Q E hr h => ?_)
  · obtain ⟨x, rfl, _⟩ := h
    rfl
  · obtain ⟨x, rfl, hx, q⟩ := h
    refine ⟨_, pss_one (ps_ret (pe_ifExp (pt_val (pe_callB call_isi (by rfl) T.isi boot_isinstance (pa_cons (pe_fld (pv 0) (by rfl)) (pa_cons (pe_glob (v := .ref C.copy) (by rfl) T.gC rfl) pa_nil)))) (pe_fld (pe_fld (pv 0) (by rfl)) (by rfl)) (pe_fld (pv 0) (by rfl)))), ?_⟩
    obtain ⟨p, s, ⟨dx, y, z, hrow, hy, hz⟩, hown⟩ := hx
    have zt : ∀ H1, Ex H H1 → Ev (tFld K (tVar 0) "term") [some (.ref x)] H1 (.ref z) := fun H1 e => Hy.ev_fld (ev_var rfl) (e _ _ hrow) r.cl r.nT rfl
    cases s with
    | new M =>
      obtain ⟨dz, sh, hz⟩ := hz
      exact s_ret (v := .ref z) (ev_if (b := false) (et_B (ev_isiX (zt _ (Ex.refl H)) ev_c (.own _) (fun H1 e => T.iN.ty (e _ _ hz)) T.nc)) (fun z => nomatch z) fun _ => zt _ (Ex.refl H)) fun H1 e => q H1 _ e ⟨z, rfl, .inl ⟨dz, _, e _ _ hz⟩⟩
    | cpy pt kk =>
      obtain ⟨dz, u, hz, hu⟩ := hz
      obtain ⟨du, tu, hu1, hu2⟩ := hu
      exact s_ret (v := .ref u) (ev_if (b := true) (et_B (ev_isiX (zt _ (Ex.refl H)) ev_c (.own _) (fun H1 e => T.iC.ty (e _ _ hz)) T.cc)) (fun _ => Hy.ev_fld (zt _ (Ex.refl H)) hz c.cC c.cI rfl) fun z => nomatch z) fun H1 e => q H1 _ e ⟨u, rfl, .inr ⟨du, _, e _ _ hu1⟩⟩
    | pth pt =>
      obtain ⟨dz, tz, hz1, hz2⟩ := hz
      exact s_ret (v := .ref z) (ev_if (b := false) (et_B (ev_isiX (zt _ (Ex.refl H)) ev_c (.own _) (fun H1 e => T.iP.ty (e _ _ hz1)) T.pc)) (fun z => nomatch z) fun _ => zt _ (Ex.refl H)) fun H1 e => q H1 _ e ⟨z, rfl, .inr ⟨dz, _, e _ _ hz1⟩⟩
theorem ok_hassup (F : Fun K "has_super" "has_super" sHasSuper f fd) (T : KitR K mg C SC) (rU : Rd P w K mg base "uncopied" k ["row"] (spUncop C R)) : FnOk P w K mg base CX0 (k + 1) f fd ["row"] (spHasSup C R) := by
  refine F.ok scHasSup (fun vs H Q E h => ?_) (fun cdv A outer s H vs Q E hr h => ?_)
  · obtain ⟨x, rfl, _⟩ := h
    rfl
  · obtain ⟨x, rfl, hx, q⟩ := h
    refine ⟨_, pss_one (ps_ret (pe_callB call_isi (by rfl) T.isi boot_isinstance (pa_cons (pe_rd rU hr (Nat.le_refl _) (by rfl) (pa_cons (pv 0) pa_nil)) (pa_cons (pe_glob (v := .ref SC) (by rfl) T.gS rfl) pa_nil)))), ?_⟩
    refine ⟨_, rfl, x, rfl, hx, fun H1 v e1 hv => ?_⟩
    obtain ⟨y, rfl, ⟨dy, fs, hy⟩ | ⟨dy, fs, hy⟩⟩ := hv
    · exact ⟨_, _, _, _, _, rfl, .own _, T.iN.ty hy, T.ns, q H1 e1⟩
    · exact ⟨_, _, _, _, _, rfl, .own _, T.iP.ty hy, T.ps, q H1 e1⟩
theorem ok_lone (F : Fun K "lone_word" "lone_word" sLone f fd) (T : KitR K mg C SC) (c : CsC K C) : FnOk P w K mg base CX0 (k + 1) f fd ["part"] (spLone C) := by
  refine F.ok scLone (fun vs H Q E h => ?_) (fun cdv A outer s H vs Q E hr h => ?_)
  · obtain ⟨x, p, rfl, _⟩ := h
    rfl
  · obtain ⟨x, p, rfl, ⟨dx, t, hx, ht⟩, hown, q⟩ := h
    refine ⟨_, pss_cons (ps_if (PW.pt (pw_and (pt_val (pe_callB call_isi (by rfl) T.isi boot_isinstance (pa_cons (pv 0) (pa_cons (pe_glob (v := .ref C.path) (by rfl) T.gP rfl) pa_nil)))) (pw_and (pt_not (pt_val (pe_fld (pv 0) (by rfl)))) (pw_and1 pt_never)))) (pss_one ps_never) pss_nil) (pss_one (ps_ret pe_non)), ?_⟩
    have hl : (ptF p.own p.word t).lookup ("of_self" : Str) = some (.bl true) := by rw [hown]; rfl
    refine q_when (b := false) (et_is (et_and (a := true) (et_B (ev_isiX (ev_var rfl) ev_c (.own _) (fun H1 e => T.iP.ty (e _ _ hx)) T.pp)) fun _ => et_and (a := false) (b := false) (et_not (et_B (Hy.ev_fld (ev_var rfl) hx c.p.cl c.p.nO hl))) fun z => nomatch z) rfl) (fun z => nomatch z) fun _ H1 e1 => s_ret ev_c fun H2 e2 => q H2 (e1.trans e2)
end
end Hz
/-! module HzDefn -/
set_option maxHeartbeats 4000000
/-! Definition, can_stand. -/
namespace Hz
open PySem PySem.Spec PyProof.Rows L2 Evl Hc Hs Hy
def defF (ow nm mk : V) (t r : Addr) : List (Str × V) := [("owner", ow), ("name", nm), ("mark", mk), ("parameters", .ref t), ("rows", .ref r)]
structure DfC (K : PySem.W.Frag) (D : Addr) : Prop where
  cl : Cls K D
  nO : NoAttr K D "owner"
  nN : NoAttr K D "name"
  nM : NoAttr K D "mark"
  nP : NoAttr K D "parameters"
  nR : NoAttr K D "rows"
def DefAt (C : Cs) (R D d : Addr) (ps : Pars) (n : Nat) (H : Hp) : Prop := ∃ (dx : Addr) (ow nm mk : V) (t r : Addr) (xs : List Addr), H d = some (.ins D dx (defF ow nm mk t r)) ∧ ParsAt ps t H ∧ H r = some (.lst (xs.map V.ref)) ∧ xs.length = n ∧ ∀ x ∈ xs, RowOk C R x H
def spDf (D : Addr) : Sp := fun vs H Q _ => ∃ (x dx : Addr) (ow nm mk : V) (t : Addr), vs = [.ref x, ow, nm, mk, .ref t] ∧ H x = some (.ins D dx []) ∧ ∀ H' r, H r = none → Hc.Ext (fun b => b = x) H H' → H' x = some (.ins D dx (defF ow nm mk t r)) → H' r = some (.lst []) → Q .non H'
abbrev sDfInit : Stmt := inClass cDefn 0
theorem scDf : FnScope ["self", "owner", "name", "mark", "parameters"] ["self", "owner", "name", "mark", "parameters"] (defScope sDfInit) := ⟨rfl, rfl, rfl, by decide +kernel, rfl, by decide +kernel, by decide +kernel⟩
def spStand (C : Cs) (R D : Addr) : Sp := fun vs H Q _ => ∃ (x d : Addr) (ps : Pars) (n : Nat), vs = [.ref x, .ref d] ∧ RowOk C R x H ∧ DefAt C R D d ps n H ∧ n ≤ 6 ∧ ((ps.map (·.1)).Nodup) ∧ ∀ H', Ex H H' → Q (.bl (decide (n ≠ 6))) H'
abbrev nStand : List Str := ["row", "definition", "above", "kind", "other"]
theorem scStand : FnScope nStand ["row", "definition"] (defScope sCanStand) := ⟨rfl, rfl, rfl, by decide +kernel, rfl, by decide +kernel, by decide +kernel⟩
structure StandP (mg : Str → Option Value) : Prop where
  len : mg "len" = none
  dict : mg "dict" = none
  isi : mg "isinstance" = none
  str : mg "str" = none
  most : ∃ t, mg "MOST_ROWS" = some (.int 6 t)
theorem boot_strZ : bootBuiltins "str" = some (.type "str") := by decide +kernel
/-- o.f = [] -/
theorem s_fldL0 {K : PySem.W.Frag} {σ : L2.St} {H : Hp} {D : Ends} {ta : TE} {f : Str} {C a dx : Addr} {fs : List (Str × V)} (ho : ∀ H1, Ex H H1 → Ev ta σ H1 (.ref a)) (ha : H a = some (.ins C dx fs)) (c : Cls K C) (n : NoAttr K C f) (hl : fs.length < 1000)
    (k : ∀ p H1, H p = none → Ex H H1 → H1 p = some (.lst []) → D.nx σ (upd H1 a (.ins C dx (putF f (.ref p) fs)))) : sFld K ta (tLst tNil) f D σ H := ⟨Nat.zero_le _, fun p np =>
  ho (upd H p (.lst [])) (Ex.new np) _ (Ex.refl _) _ fun H2 e2 => ⟨a, C, dx, fs, rfl, e2 _ _ ((Ex.new np) _ _ ha), c, n, hl, k p H2 np ((Ex.new np).trans e2) (e2 _ _ upd_same)⟩⟩
/-- the pairs of parameters as dict's rule wants them -/
theorem pars_dict {K : PySem.W.Frag} {H : Hp} : ∀ {ps : Pars} {xs : List V}, All2 (fun p v H => ParAt p v H) ps xs H → ∃ (as : List Addr) (kvs : List (Key × V)), xs = as.map V.ref ∧ Paired (fun p kv => SqT K H p [kV kv.1, kv.2]) as kvs
  | [], xs, h => by
    have : xs = [] := List.length_eq_zero_iff.mp h.1
    rw [this]
    exact ⟨[], [], rfl, .nil⟩
  | p :: r, [], h => by cases h.1
  | p :: r, x :: xs, h => by
    obtain ⟨a, u, h1, h2, h3⟩ := h.2 0 p x rfl rfl
    obtain ⟨as, kvs, rfl, hp⟩ := pars_dict (K := K) (ps := r) (xs := xs) ⟨by have := h.1; simpa using this, fun i n y a b => h.2 (i + 1) n y (by simpa using a) (by simpa using b)⟩
    rw [h1]
    exact ⟨a :: as, (kN p.1, u) :: kvs, rfl, .cons (st_of h2) hp⟩
section
variable {P : Program} {w : World} {K : PySem.W.Frag} {mg : Str → Option Value} {base : Heap} {C : Cs} {R D SC f : Addr} {fd : FuncData} {k : Nat}
theorem ok_df (F : Fun K "__init__" "Definition.__init__" sDfInit f fd) (c : DfC K D) : FnOk P w K mg base CX0 (k + 1) f fd ["self", "owner", "name", "mark", "parameters"] (spDf D) := by
  refine F.ok scDf (fun vs H Q E h => ?_) (fun cdv A outer s H vs Q E hr h => ?_)
  · obtain ⟨x, dx, ow, nm, mk, t, rfl, _⟩ := h
    rfl
  · obtain ⟨x, dx, ow, nm, mk, t, rfl, hx, q⟩ := h
    refine ⟨_, pss_cons (ps_fld (pv 0) (pv 1) (by rfl)) (pss_cons (ps_fld (pv 0) (pv 2) (by rfl)) (pss_cons (ps_fld (pv 0) (pv 3) (by rfl)) (pss_cons (ps_fld (pv 0) (pv 4) (by rfl)) (pss_one (ps_fld (pv 0) (pe_lst pa_nil) (by rfl)))))), ?_⟩
    refine q_fldV (ev_var rfl) (ev_var rfl) hx c.cl c.nO (show 0 < 1000 by decide) fun H1 e1 => ?_
    refine q_fldV (ev_var rfl) (ev_var rfl) upd_same c.cl c.nN (show 1 < 1000 by decide) fun H2 e2 => ?_
    refine q_fldV (ev_var rfl) (ev_var rfl) upd_same c.cl c.nM (show 2 < 1000 by decide) fun H3 e3 => ?_
    refine q_fldV (ev_var rfl) (ev_var rfl) upd_same c.cl c.nP (show 3 < 1000 by decide) fun H4 e4 => ?_
    refine s_fldL0 (fun _ _ => ev_var rfl) upd_same c.cl c.nR (show 4 < 1000 by decide) fun r H5 nr e5 hr5 => ?_
    have ext4 : Hc.Ext (fun b => b = x) H (upd H4 x (.ins D dx (putF "parameters" (.ref t) (putF "mark" mk (putF "name" nm (putF "owner" ow [])))))) := (((stepE (S := fun b => b = x) e1 rfl).trans (stepE e2 rfl)).trans (stepE e3 rfl)).trans (stepE e4 rfl)
    have rx : r ≠ x := fun z => by
      rw [z, upd_same] at nr
      cases nr
    have nrH : H r = none := by
      cases z : H r with
      | none => rfl
      | some o =>
        have := ext4 r o z rx
        rw [nr] at this
        cases this
    exact q _ r nrH (ext4.trans (stepE e5 rfl)) upd_same ((upd_ne rx).trans hr5)
theorem ok_stand (F : Fun K "can_stand" "can_stand" sCanStand f fd) (T : StandP mg) (c : DfC K D) (r : RwC K R) (rS : Rd P w K mg base "has_super" k ["row"] (spHasSup C R)) (rL : Rd P w K mg base "lone_word" k ["part"] (spLone C)) : FnOk P w K mg base CX0 (k + 1) f fd ["row", "definition"] (spStand C R D) := by
  refine F.ok scStand (fun vs H Q E h => ?_) (fun cdv A outer s H vs Q E hr h => ?_)
  · obtain ⟨x, d, ps, n, rfl, _⟩ := h
    rfl
  · obtain ⟨x, d, ps, n, rfl, hx, hd, hn, hnd, q⟩ := h
    obtain ⟨tM, hM⟩ := T.most
    have hu := hu_of hr
    refine ⟨_, pss_cons (ps_set (i := 2) scStand.nd rfl (.inl rfl) (pe_fld (pv 1) (by rfl)))
      (pss_cons (ps_if (PW.pt (pw_or (pt_cmpR op_eq (pe_callB call_len_seq (by rfl) T.len PySem.boot_len (pa_cons (pv 2) pa_nil)) (pe_glob (v := .int 6) (by rfl) hM ⟨_, rfl⟩) (nomark _)) (pw_or1 (PW.pt (pw_and (pt_truth (pv 2) (by intro _; rfl)) (pw_and1 (pt_cmpR op_in_seq (pe_fld (pe_ix ix_list (pv 2) (pe_un un_neg pe_int) (fun _ _ => rfl)) (by rfl)) (pe_tup (pa_cons pe_str (pa_cons pe_str pa_nil))) (by rfl)))))))) (pss_one (ps_ret pe_bl)) pss_nil)
      (pss_cons (ps_if (PW.pt (pw_and (pt_val (pe_rd rS hr (Nat.le_refl _) (by rfl) (pa_cons (pv 0) pa_nil))) (pw_and1 pt_never))) (pss_one ps_never) pss_nil)
      (pss_cons (ps_set (i := 3) scStand.nd rfl (.inl rfl) (pe_dget2N (pe_callTy (call_dictT rfl) (by rfl) T.dict boot_dict' (pa_cons (pe_fld (pv 1) (by rfl)) pa_nil)) (pe_rd rL hr (Nat.le_refl _) (by rfl) (pa_cons (pe_fld (pv 0) (by rfl)) pa_nil)) pe_str ⟨by rfl, by rfl, by rfl, by rfl⟩))
      (pss_one (ps_ret (pe_callB call_isi (by rfl) T.isi boot_isinstance (pa_cons (pv 3) (pa_cons (pe_bltn (v := .ty "str") (by rfl) T.str boot_strZ rfl) pa_nil)))))))), ?_⟩
    obtain ⟨dx, ow, nm, mk, t, ra, xs, hd1, ⟨pxs, ob, ht, hob, hall⟩, hr1, hxl, hrows⟩ := hd
    refine q_asg (v := .ref ra) (Hy.ev_fld (ev_var rfl) hd1 c.cl c.nR rfl) fun H1 e1 => ?_
    have hr2 := e1 _ _ hr1
    show tSeq _ _ _ [some (.ref x), some (.ref d), some (.ref ra), none, none] H1
    have hlen : (xs.map V.ref).length = n := by rw [List.length_map, hxl]
    have tin : ∀ {te : TE} {σ : L2.St} {H2 : Hp}, Ev te σ H2 (sv setD) → Ev (tOp (rIn K false) te (tTup (tCons (tC (.str (Str.ofString "return"))) (tCons (tC (.str (Str.ofString "view"))) tNil)))) σ H2 (.bl false) := fun h H3 e Q q => h H3 e _ fun H4 e4 => ⟨(show 2 ≤ sizeLine by decide), fun p np => ⟨p, _, rfl, .inr (st_of upd_same), rfl, rfl, q _ (e4.trans (Ex.new np))⟩⟩
    refine q_when (b := decide (n = 6)) (et_is (et_or (et_test (ev_eqI (a := ((n : Nat) : Int)) (b := 6) (Evl.ev_is (ev_len (ev_var rfl) (sq_of hr2)) (by rw [hlen])) ev_c)) fun _ => et_and (a := !(xs.map V.ref).isEmpty) (b := false) (et_truth (ev_var rfl) (sq_of hr2)) fun hne => ?_) (by
        rw [Bool.and_false, Bool.or_false]
        congr 1
        rw [eq_iff_iff]
        omega)) (fun hb H2 e2 => ?_) (fun hb H2 e2 => ?_)
    · obtain ⟨ys, y, rfl⟩ : ∃ ys y, xs = ys ++ [y] := by
        rcases List.eq_nil_or_concat xs with h | ⟨l, a, h⟩
        · rw [h] at hne
          cases hne
        · exact ⟨l, a, by rw [h, List.concat_eq_append]⟩
      obtain ⟨p, sm, ⟨ry, py, zy, h1, h2, h3⟩, _⟩ := hrows y (by simp)
      exact et_test (tin (Hy.ev_fld (ev_op (ev_var rfl) (ev_un ev_c ru_neg) (rv_ixL (sq_of hr2) (by rw [List.map_append]; exact atI_last _ _))) (e1 _ _ h1) r.cl r.nW rfl))
    · rw [show decide (n ≠ 6) = false by rw [decide_eq_false_iff_not]; exact fun z => z (of_decide_eq_true hb)] at q
      exact s_ret ev_c fun H3 e3 => q H3 ((e1.trans e2).trans e3)
    · rw [show decide (n ≠ 6) = true from decide_eq_true (of_decide_eq_false hb)] at q
      have e12 := e1.trans e2
      show tSeq _ _ _ [some (.ref x), some (.ref d), some (.ref ra), none, none] H2
      refine q_when (b := false) (et_and (a := false) (b := false) (et_B (ev_call (ea_cons (ev_var rfl) ea_nil) fun H3 e3 Q3 q3 E3 => ⟨x, rfl, (hx.ex e12).ex e3, q3⟩)) fun z => nomatch z) (fun z => nomatch z) fun _ H3 e3 => ?_
      have e13 := e12.trans e3
      refine q_asgX ?_
      have zf : Ev (tFld K (tVar 1) "parameters") [some (.ref x), some (.ref d), some (.ref ra), none, none] H3 (.ref t) := Hy.ev_fld (ev_var rfl) (e13 _ _ hd1) c.cl c.nP rfl
      obtain ⟨as, kvs, rfl, hpair⟩ := pars_dict (K := K) hall
      obtain ⟨p, sm, ⟨rdx, py, zy, hrow, hpy, hzy⟩, hown⟩ := hx
      refine zf H3 (Ex.refl H3) _ fun H4 e4 => ?_
      have e14 := e13.trans e4
      refine ⟨t, ob, as, kvs, rfl, e14 _ _ ht, hob, pair_ex e14 hpair, fun pd npd => ⟨pd, _, rfl, upd_same, ?_⟩⟩
      have e5 : Ex H4 (upd H4 pd (.dK (mergeK [] kvs))) := Ex.new npd
      have hpd : (upd H4 pd (.dK (mergeK [] kvs))) pd = some (.dK (mergeK [] kvs)) := upd_same
      generalize upd H4 pd (.dK (mergeK [] kvs)) = H5 at e5 hpd ⊢
      have e15 := e14.trans e5
      have zp : Ev (tFld K (tVar 0) "path") [some (.ref x), some (.ref d), some (.ref ra), none, none] H5 (.ref py) := Hy.ev_fld (ev_var rfl) (e15 _ _ hrow) r.cl r.nP rfl
      refine zp H5 (Ex.refl H5) _ fun H6 e6 => ?_
      refine ⟨py, p, rfl, (hpy.ex e15).ex e6, hown, fun H7 e7 => ⟨rfl, e7 _ _ (e6 _ _ hpd), ?_⟩⟩
      show tRet _ _ [some (.ref x), some (.ref d), some (.ref ra), some (.str (Str.ofString "")), none] H7
      exact s_ret (ev_isiX (ev_var rfl) ev_c (.ty "str") (fun _ _ => .base (.str _)) (kit_ty rfl)) fun H8 e8 => q H8 (((e15.trans e6).trans e7).trans e8)
end
end Hz
/-! module HzTakeF -/
set_option maxHeartbeats 4000000
/-! Reader._take_field, _take_row. -/
namespace Hz
open PySem PySem.Spec PyProof.Rows L2 Evl Hc Hs Hy
abbrev Fls := List (Nm × List Nat)
def fsK (fs : Fls) : List (Key × V) := fs.map fun p => (kN p.1, sv p.2)
theorem fs_in (w : Nm) : ∀ fs : Fls, (valV (fsK fs) (kN w)).isSome = decide (w ∈ fs.map (·.1))
  | [] => rfl
  | p :: r => by
    by_cases h : p.1 = w
    · have e : valV (fsK (p :: r)) (kN w) = some (sv p.2) := valV_pos (congrArg kN h)
      rw [e]
      exact (decide_eq_true (by rw [List.map_cons, h]; exact List.mem_cons_self)).symm
    · have e : valV (fsK (p :: r)) (kN w) = valV (fsK r) (kN w) := valV_neg fun z => h (S_inj (Sum.inr.inj z))
      rw [e, fs_in w r, List.map_cons]
      congr 1
      rw [eq_iff_iff, List.mem_cons]
      exact ⟨.inr, fun z => z.resolve_left fun q => h q.symm⟩
abbrev mTakeF : Stmt := inClass cReader 4
abbrev nTakeF : List Str := ["self", "text", "word", "_", "shape", "fields"]
theorem scTakeF : FnScope nTakeF ["self", "text"] (defScope mTakeF) := ⟨rfl, rfl, rfl, by decide +kernel, rfl, by decide +kernel, by decide +kernel⟩
def fldOk (me : V) (fs : Fls) (L : List Nat) : Bool := decide (me = .non) && (!decide (partA L colonD ∈ fs.map (·.1)) && (!decide (fs.length = 4) && (isWord (partA L colonD) && isShape (partC L colonD))))
def spTakeF (CR CT : Addr) : Sp := fun vs H Q _ => ∃ (r dr x dx fd dd d : Addr) (n : Nm) (l : Addr) (me : V) (fs : Fls) (L : List Nat), vs = [.ref r, sv L] ∧ L.length ≤ cap ∧ H r = some (.ins CR dr (rdF d (.ref x) me)) ∧ H x = some (.ins CT dx (ctF n l fd dd)) ∧ H fd = some (.dK (fsK fs)) ∧ fs.length ≤ 4 ∧
  (if fldOk me fs L = true then ∀ H', Hc.Ext (fun b => b = fd) H H' → H' fd = some (.dK (fsK (fs ++ [(partA L colonD, partC L colonD)]))) → Q (.bl true) H' else ∀ H', Ex H H' → Q (.bl false) H')
structure TakeP (mg : Str → Option Value) : Prop where
  len : mg "len" = none
  mf : ∃ t, mg "MOST_FIELDS" = some (.int 4 t)
section
variable {P : Program} {w : World} {K : PySem.W.Frag} {mg : Str → Option Value} {base : Heap} {C : Cs} {R D CR CT f : Addr} {fd : FuncData} {k : Nat}
theorem ok_takeF (F : Fun K "_take_field" "Reader._take_field" mTakeF f fd) (T : TakeP mg) (c : RdC K CR) (ct : CtC K CT) (rW : Rd P w K mg base "is_word" k ["text"] spWord) (rI : Rd P w K mg base "is_shape" k ["text"] spShape) : FnOk P w K mg base CX0 (k + 1) f fd ["self", "text"] (spTakeF CR CT) := by
  refine F.ok scTakeF (fun vs H Q E h => ?_) (fun cdv A outer s H vs Q E hr h => ?_)
  · obtain ⟨r, dr, x, dx, fd, dd, d, n, l, me, fs, L, rfl, _⟩ := h
    rfl
  · obtain ⟨r, dr, x, dx, fdd, dd, d, n, l, me, fs, L, rfl, hL, hr1, hx1, hf1, hfl, q⟩ := h
    obtain ⟨tM, hM⟩ := T.mf
    have hu := hu_of hr
    refine ⟨_, pss_cons (ps_asg (pe_partition (pv 1) pe_str) (pg_tup (by rfl) (pgs_cons (pg_name (i := 2) scTakeF.nd rfl (.inl rfl)) (pgs_cons (pg_name (i := 3) scTakeF.nd rfl (.inl rfl)) (pgs_cons (pg_name (i := 4) scTakeF.nd rfl (.inl rfl)) pgs_nil)))))
      (pss_cons (ps_set (i := 5) scTakeF.nd rfl (.inl rfl) (pe_fld (pe_fld (pv 0) (by rfl)) (by rfl)))
      (pss_cons (ps_if (PW.pt (pw_or (pt_cmpR op_notN (pe_fld (pv 0) (by rfl)) pe_non (nomark _)) (pw_or (pt_cmp (pc_din hu (pv 2) (pv 5))) (pw_or1 (pt_cmpR op_eq (pe_callB call_lenD (by rfl) T.len PySem.boot_len (pa_cons (pv 5) pa_nil)) (pe_glob (v := .int 4) (by rfl) hM ⟨_, rfl⟩) (nomark _)))))) (pss_one (ps_ret pe_bl)) pss_nil)
      (pss_cons (ps_if (PW.pt (pw_or (pt_not (pt_val (pe_rd rW hr (Nat.le_refl _) (by rfl) (pa_cons (pv 2) pa_nil)))) (pw_or1 (pt_not (pt_val (pe_rd rI hr (Nat.le_refl _) (by rfl) (pa_cons (pv 4) pa_nil))))))) (pss_one (ps_ret pe_bl)) pss_nil)
      (pss_cons (ps_dput hu (pv 5) (pv 2) (pv 4) (by rfl))
      (pss_one (ps_ret pe_bl)))))), ?_⟩
    have ha := Nat.le_trans (part_len L colonD).1 hL
    have hc := Nat.le_trans (part_len L colonD).2 hL
    unfold fldOk at q
    show tSeq (tAsg (tM1 _ (tVar 1) (tC (.str (S colonD)))) _) _ _ [some (.ref r), some (sv L), none, none, none, none] H
    refine q_asgG ?_
    have zp := eu_part (H := H) (σ := [some (.ref r), some (sv L), none, none, none, none]) (to := tVar 1) (te := tC (.str (S colonD))) (L := L) (M := colonD) hL (by decide) (part_all L colonD) (ev_var rfl) ev_c
    refine zp H (Ex.refl H) _ fun pp H1 np e1 hp => ?_
    refine ⟨pp, _, rfl, st_of hp, rfl, _, _, rfl, _, _, rfl, _, _, rfl, rfl, ?_⟩
    generalize partA L colonD = a at q ha ⊢
    generalize partB L colonD = b
    generalize partC L colonD = sh at q hc ⊢
    show tSeq (tAsg _ _) _ _ [some (.ref r), some (sv L), some (sv a), some (sv b), some (sv sh), none] H1
    have lo : (rdF d (.ref x) me).lookup ("_owner" : Str) = some (.ref x) := rfl
    have lm : (rdF d (.ref x) me).lookup ("_method" : Str) = some me := rfl
    have lf : (ctF n l fdd dd).lookup ("fields" : Str) = some (.ref fdd) := rfl
    refine q_asg (v := .ref fdd) (Hy.ev_fld (Hy.ev_fld (ev_var rfl) (e1 _ _ hr1) c.cl c.nO lo) (e1 _ _ hx1) ct.cl ct.nF lf) fun H2 e2 => ?_
    have e12 := e1.trans e2
    have hf2 := e12 _ _ hf1
    show tSeq (tIfS _ _ _) _ _ [some (.ref r), some (sv L), some (sv a), some (sv b), some (sv sh), some (.ref fdd)] H2
    refine q_when (b := !decide (me = .non) || (decide (a ∈ fs.map (·.1)) || decide (fs.length = 4))) (et_is (et_or (et_test (ev_op (Hy.ev_fld (ev_var rfl) (e12 _ _ hr1) c.cl c.nM lm) ev_c (z := .bl (!decide (me = .non))) fun H3 e Q q => ⟨rfl, q H3 (Ex.refl H3)⟩)) fun _ => et_or (et_B (Evl.ev_is (ev_din (n := a) (kvs := fsK fs) (ev_var rfl) (ev_var rfl) hf2) (by rw [fs_in]))) fun _ => et_test (ev_eqI (a := ((fs.length : Nat) : Int)) (b := 4) (Evl.ev_is (ev_lenD (kvs := fsK fs) (ev_var rfl) hf2) (by unfold fsK; rw [List.length_map])) ev_c)) (by
      congr 2
      rw [decide_eq_decide]
      omega)) (fun hb H3 e3 => ?_) (fun hb H3 e3 => ?_)
    · rw [if_neg (fun z => by
        simp only [Bool.and_eq_true, Bool.not_eq_true', decide_eq_true_eq, decide_eq_false_iff_not] at z
        simp only [Bool.or_eq_true, Bool.not_eq_true', decide_eq_true_eq, decide_eq_false_iff_not] at hb
        rcases hb with hb | hb | hb
        · exact hb z.1
        · exact z.2.1 hb
        · exact z.2.2.1 hb)] at q
      exact s_ret ev_c fun H4 e4 => q H4 ((e12.trans e3).trans e4)
    · simp only [Bool.or_eq_false_iff, Bool.not_eq_false', decide_eq_true_eq, decide_eq_false_iff_not] at hb
      obtain ⟨b1, b2, b3⟩ := hb
      rw [decide_eq_true b1, decide_eq_false b2, decide_eq_false b3, Bool.true_and, Bool.not_false, Bool.true_and, Bool.true_and] at q
      refine q_when (et_or (et_not (et_B (ev_call (ea_cons (ev_var rfl) ea_nil) (sp_word ha)))) fun _ => et_not (et_B (ev_call (ea_cons (ev_var rfl) ea_nil) (sp_shape hc)))) (fun hb4 H4 e4 => ?_) (fun hb4 H4 e4 => ?_)
      · rw [if_neg (fun z => by
          rw [Bool.and_eq_true] at z
          rw [z.1, z.2] at hb4
          cases hb4)] at q
        exact s_ret ev_c fun H5 e5 => q H5 (((e12.trans e3).trans e4).trans e5)
      · rw [if_pos (by
          cases x1 : isWord a <;> cases x2 : isShape sh <;> rw [x1, x2] at hb4 <;> first | rfl | cases hb4)] at q
        have e14 := (e12.trans e3).trans e4
        have hnone : valV (fsK fs) (kN a) = none := by
          have := fs_in a fs
          rw [decide_eq_false b2] at this
          cases z : valV (fsK fs) (kN a) with
          | none => rfl
          | some v => rw [z] at this; cases this
        refine q_dput (n := a) (kvs := fsK fs) (v := sv sh) (ev_var rfl) (ev_var rfl) (ev_var rfl) (e4 _ _ (e3 _ _ hf2)) (by unfold fsK; rw [List.length_map]; omega) fun H5 e5 => ?_
        rw [putK_new (v := sv sh) hnone]
        refine s_ret ev_c fun H6 e6 => q H6 ((stepE (S := fun b => b = fdd) (e14.trans e5) rfl).trans (ext_ex e6)) (e6 _ _ ?_)
        rw [upd_same]
        unfold fsK
        rw [List.map_append]
        rfl
end
end Hz
/-! module HzTakeM -/
set_option maxHeartbeats 4000000
/-! Reader._take_method. -/
namespace Hz
open PySem PySem.Spec PyProof.Rows L2 Evl Hc Hs Hy
abbrev Dfs := List (Nm × Addr)
def dsK (ds : Dfs) : List (Key × V) := ds.map fun p => (kN p.1, V.ref p.2)
theorem ds_in (w : Nm) : ∀ ds : Dfs, (valV (dsK ds) (kN w)).isSome = decide (w ∈ ds.map (·.1))
  | [] => rfl
  | p :: r => by
    by_cases h : p.1 = w
    · have e : valV (dsK (p :: r)) (kN w) = some (.ref p.2) := valV_pos (congrArg kN h)
      rw [e]
      exact (decide_eq_true (by rw [List.map_cons, h]; exact List.mem_cons_self)).symm
    · have e : valV (dsK (p :: r)) (kN w) = valV (dsK r) (kN w) := valV_neg fun z => h (S_inj (Sum.inr.inj z))
      rw [e, ds_in w r, List.map_cons]
      congr 1
      rw [eq_iff_iff, List.mem_cons]
      exact ⟨.inr, fun z => z.resolve_left fun q => h q.symm⟩
def parenD : List Nat := [40]
def closeD : List Nat := [41, 58]
def endsG (a b : List Nat) : Bool := Txt.endswith (S a) (S b)
theorem ev_endsG {σ : L2.St} {H : Hp} {to te : TE} {L M : List Nat} (h1 : Ev to σ H (.str (S L))) (h2 : Ev te σ H (.str (S M))) : Ev (tM1 (fun x xs H Q => ∃ a b, x = .str a ∧ xs = [.str b] ∧ Q (.bl (Txt.endswith a b)) H) to te) σ H (.bl (endsG L M)) := ev_m1 h1 h2 fun H1 Q q => ⟨S L, S M, rfl, rfl, q⟩
abbrev mTakeM : Stmt := inClass cReader 5
abbrev nTakeM : List Str := ["self", "mark", "text", "word", "_", "rest", "definitions", "parameters"]
theorem scTakeM : FnScope nTakeM ["self", "mark", "text"] (defScope mTakeM) := ⟨rfl, rfl, rfl, by decide +kernel, rfl, by decide +kernel, by decide +kernel⟩
def parL (L : List Nat) : List Nat := (partC L parenD).take ((partC L parenD).length - 2)
def mthOk (ds : Dfs) (L : List Nat) : Bool := isWord (partA L parenD) && (!decide (partA L parenD ∈ ds.map (·.1)) && (!decide (ds.length = 5) && ((readPars (parL L)).isSome && endsG (partC L parenD) closeD)))
/-- a method just made: no rows yet, all of it new -/
def DefN (D d : Addr) (ps : Pars) (H H' : Hp) : Prop := ∃ (dx : Addr) (ow nm mk : V) (t r : Addr), H' d = some (.ins D dx (defF ow nm mk t r)) ∧ ParsAt ps t H' ∧ H' r = some (.lst ([] : List V)) ∧ H r = none
def spTakeM (C : Cs) (R D CR CT : Addr) : Sp := fun vs H Q _ => ∃ (r dr x dx fd dd d : Addr) (n : Nm) (l : Addr) (me : V) (ds : Dfs) (M L : List Nat), vs = [.ref r, sv M, sv L] ∧ L.length ≤ cap ∧ H r = some (.ins CR dr (rdF d (.ref x) me)) ∧ H x = some (.ins CT dx (ctF n l fd dd)) ∧ H dd = some (.dK (dsK ds)) ∧ ds.length ≤ 5 ∧ dd ≠ r ∧
  (if mthOk ds L = true then ∀ H' m ps, readPars (parL L) = some ps → H m = none → Hc.Ext (fun b => b = r ∨ b = dd) H H' → H' r = some (.ins CR dr (rdF d (.ref x) (.ref m))) → H' dd = some (.dK (dsK (ds ++ [(partA L parenD, m)]))) → DefN D m ps H H' → Q (.bl true) H' else ∀ H', Ex H H' → Q (.bl false) H')
theorem make4 {D : Addr} {sp : Sp} {te tf tg th : TE} {σ : L2.St} {H : Hp} {Q : VK} (h : te σ H fun v H1 => tf σ H1 fun u H2 => tg σ H2 fun t H3 => th σ H3 fun o H4 => ∀ x dx, H4 x = none → H4 dx = none → dx ≠ x → sp [.ref x, v, u, t, o] (upd (upd H4 dx (.own x)) x (.ins D dx [])) (fun z H5 => z = .non ∧ Q (.ref x) H5) E0) : tMake D sp [] E0 (tCons te (tCons tf (tCons tg (tCons th tNil)))) σ H Q := h
theorem q_fldX {K : PySem.W.Frag} {σ : L2.St} {H : Hp} {D : Ends} {tz : TS} {ta tv : TE} {f : Str} (h : tv σ H fun v H1 => ta σ H1 fun y H2 => ∃ a C dx fs, y = .ref a ∧ H2 a = some (.ins C dx fs) ∧ Cls K C ∧ NoAttr K C f ∧ fs.length < 1000 ∧ tz D σ (upd H2 a (.ins C dx (putF f v fs)))) : tSeq (sFld K ta tv f) tz D σ H := h
structure MthP (mg : Str → Option Value) : Prop where
  len : mg "len" = none
  mm : ∃ t, mg "MOST_METHODS" = some (.int 5 t)
section
variable {P : Program} {w : World} {K : PySem.W.Frag} {mg : Str → Option Value} {base : Heap} {C : Cs} {R D CR CT f : Addr} {fd : FuncData} {k : Nat}
theorem ok_takeM (F : Fun K "_take_method" "Reader._take_method" mTakeM f fd) (T : MthP mg) (c : RdC K CR) (ct : CtC K CT) (rW : Rd P w K mg base "is_word" k ["text"] spWord) (rP : Rd P w K mg base "read_parameters" k ["text"] spPars) (rD : Hy.Rm P w K mg base "Definition" D 1 ["self", "owner", "name", "mark", "parameters"] (spDf D)) (hk : 2 ≤ k) : FnOk P w K mg base CX0 (k + 1) f fd ["self", "mark", "text"] (spTakeM C R D CR CT) := by
  refine F.ok scTakeM (fun vs H Q E h => ?_) (fun cdv A outer s H vs Q E hr h => ?_)
  · obtain ⟨r, dr, x, dx, fd, dd, d, n, l, me, ds, M, L, rfl, _⟩ := h
    rfl
  · obtain ⟨r, dr, x, dx, fdd, dd, d, n, l, me, ds, M, L, rfl, hL, hr1, hx1, hd1, hdl, dr_ne, q⟩ := h
    obtain ⟨tM, hM⟩ := T.mm
    have hu := hu_of hr
    refine ⟨_, pss_cons (ps_asg (pe_partition (pv 2) pe_str) (pg_tup (by rfl) (pgs_cons (pg_name (i := 3) scTakeM.nd rfl (.inl rfl)) (pgs_cons (pg_name (i := 4) scTakeM.nd rfl (.inl rfl)) (pgs_cons (pg_name (i := 5) scTakeM.nd rfl (.inl rfl)) pgs_nil)))))
      (pss_cons (ps_set (i := 6) scTakeM.nd rfl (.inl rfl) (pe_fld (pe_fld (pv 0) (by rfl)) (by rfl)))
      (pss_cons (ps_if (PW.pt (pw_or (pt_not (pt_val (pe_rd rW hr (Nat.le_refl _) (by rfl) (pa_cons (pv 3) pa_nil)))) (pw_or (pt_cmp (pc_din hu (pv 3) (pv 6))) (pw_or1 (pt_cmpR op_eq (pe_callB call_lenD (by rfl) T.len PySem.boot_len (pa_cons (pv 6) pa_nil)) (pe_glob (v := .int 5) (by rfl) hM ⟨_, rfl⟩) (nomark _)))))) (pss_one (ps_ret pe_bl)) pss_nil)
      (pss_cons (ps_set (i := 7) scTakeM.nd rfl (.inl rfl) (pe_rd rP hr (Nat.le_refl _) (by rfl) (pa_cons (pe_slice sl_str (pv 5) po_none (po_some (pe_un un_neg pe_int))) pa_nil)))
      (pss_cons (ps_if (PW.pt (pw_or (pt_cmpR op_isN (pv 7) pe_non (nomark _)) (pw_or1 (pt_not (pt_val (pe_m1 PySem.F.slot_str_endswith PySem.F.type_str_endswith mt_endswith (pv 5) pe_str)))))) (pss_one (ps_ret pe_bl)) pss_nil)
      (pss_cons (ps_fld (pv 0) (Hy.pe_rm rD hr hk (by rfl) (pa_cons (pe_fld (pe_fld (pv 0) (by rfl)) (by rfl)) (pa_cons (pv 3) (pa_cons (pv 1) (pa_cons (pv 7) pa_nil))))) (by rfl))
      (pss_cons (ps_dput hu (pv 6) (pv 3) (pe_fld (pv 0) (by rfl)) (by rfl))
      (pss_one (ps_ret pe_bl)))))))), ?_⟩
    have ha := Nat.le_trans (part_len L parenD).1 hL
    have hc := Nat.le_trans (part_len L parenD).2 hL
    unfold mthOk parL at q
    show tSeq (tAsg (tM1 _ (tVar 2) (tC (.str (S parenD)))) _) _ _ [some (.ref r), some (sv M), some (sv L), none, none, none, none, none] H
    refine q_asgG ?_
    have zp := eu_part (H := H) (σ := [some (.ref r), some (sv M), some (sv L), none, none, none, none, none]) (to := tVar 2) (te := tC (.str (S parenD))) (L := L) (M := parenD) hL (by decide) (part_all L parenD) (ev_var rfl) ev_c
    refine zp H (Ex.refl H) _ fun pp H1 np e1 hp => ?_
    refine ⟨pp, _, rfl, st_of hp, rfl, _, _, rfl, _, _, rfl, _, _, rfl, rfl, ?_⟩
    generalize partA L parenD = a at q ha ⊢
    generalize partB L parenD = b
    generalize partC L parenD = sh at q hc ⊢
    show tSeq (tAsg _ _) _ _ [some (.ref r), some (sv M), some (sv L), some (sv a), some (sv b), some (sv sh), none, none] H1
    have lo : ∀ me, (rdF d (.ref x) me).lookup ("_owner" : Str) = some (.ref x) := fun _ => rfl
    have ld : (ctF n l fdd dd).lookup ("definitions" : Str) = some (.ref dd) := rfl
    have ln : (ctF n l fdd dd).lookup ("name" : Str) = some (sv n) := rfl
    refine q_asg (v := .ref dd) (Hy.ev_fld (Hy.ev_fld (ev_var rfl) (e1 _ _ hr1) c.cl c.nO (lo me)) (e1 _ _ hx1) ct.cl ct.nD ld) fun H2 e2 => ?_
    have e12 := e1.trans e2
    have hd2 := e12 _ _ hd1
    show tSeq (tIfS _ _ _) _ _ [some (.ref r), some (sv M), some (sv L), some (sv a), some (sv b), some (sv sh), some (.ref dd), none] H2
    refine q_when (b := !isWord a || (decide (a ∈ ds.map (·.1)) || decide (ds.length = 5))) (et_is (et_or (et_not (et_B (ev_call (ea_cons (ev_var rfl) ea_nil) (sp_word ha)))) fun _ => et_or (et_B (Evl.ev_is (ev_din (n := a) (kvs := dsK ds) (ev_var rfl) (ev_var rfl) hd2) (by rw [ds_in]))) fun _ => et_test (ev_eqI (a := ((ds.length : Nat) : Int)) (b := 5) (Evl.ev_is (ev_lenD (kvs := dsK ds) (ev_var rfl) hd2) (by unfold dsK; rw [List.length_map])) ev_c)) (by
      congr 2
      rw [decide_eq_decide]
      omega)) (fun hb H3 e3 => ?_) (fun hb H3 e3 => ?_)
    · rw [if_neg (fun z => by
        simp only [Bool.and_eq_true, Bool.not_eq_true', decide_eq_true_eq, decide_eq_false_iff_not] at z
        simp only [Bool.or_eq_true, Bool.not_eq_true', decide_eq_true_eq] at hb
        rcases hb with hb | hb | hb
        · rw [z.1] at hb
          cases hb
        · exact z.2.1 hb
        · exact z.2.2.1 hb)] at q
      exact s_ret ev_c fun H4 e4 => q H4 ((e12.trans e3).trans e4)
    · simp only [Bool.or_eq_false_iff, Bool.not_eq_false', decide_eq_false_iff_not] at hb
      obtain ⟨b1, b2, b3⟩ := hb
      rw [b1, decide_eq_false b2, decide_eq_false b3, Bool.true_and, Bool.not_false, Bool.true_and, Bool.true_and] at q
      have e13 := e12.trans e3
      have zsl : Ev (tSl rSlS (tVar 5) tNoPart (tPart (tUn (rU fun i => .int (-i)) (tC (.int 2))))) [some (.ref r), some (sv M), some (sv L), some (sv a), some (sv b), some (sv sh), some (.ref dd), none] H3 (sv (sh.take (sh.length - 2))) := Evl.ev_is (ev_slS (lo := none) (hi := some (-2)) (ev_var rfl) eo_none (eo_some (ev_un ev_c ru_neg)) (by rw [S_len]; exact cap_line hc)) (by rw [show (-2 : Int) = -((2 : Nat) : Int) from rfl, cut_toM _ _ (by decide)])
      show tSeq (tAsg (tCall spPars [] E0 (tCons _ tNil)) _) _ _ [some (.ref r), some (sv M), some (sv L), some (sv a), some (sv b), some (sv sh), some (.ref dd), none] H3
      refine q_asgX ?_
      refine zsl H3 (Ex.refl H3) _ fun H4 e4 => ?_
      have e14 := e13.trans e4
      refine ⟨_, rfl, by rw [List.length_take]; exact Nat.le_trans (Nat.min_le_right _ _) hc, ?_⟩
      cases hps : readPars (sh.take (sh.length - 2)) with
      | none =>
        rw [hps] at q
        intro H5 e5
        show tSeq (tIfS _ _ _) _ _ [some (.ref r), some (sv M), some (sv L), some (sv a), some (sv b), some (sv sh), some (.ref dd), some .non] H5
        refine q_when (b := true) (et_or (a := true) (b := false) (et_test (ev_isNon (v := .non) (ev_var rfl))) fun z => nomatch z) (fun _ H6 e6 => ?_) (fun z => nomatch z)
        rw [if_neg (by simp)] at q
        exact s_ret ev_c fun H7 e7 => q H7 (((e14.trans e5).trans e6).trans e7)
      | some ps =>
        rw [hps] at q
        intro H5 t nt e5 hpt
        show tSeq (tIfS _ _ _) _ _ [some (.ref r), some (sv M), some (sv L), some (sv a), some (sv b), some (sv sh), some (.ref dd), some (.ref t)] H5
        refine q_when (et_or (a := false) (et_test (ev_nonR (ev_var rfl))) fun _ => et_not (et_B (ev_endsG (L := sh) (M := closeD) (ev_var rfl) ev_c))) (fun hb6 H6 e6 => ?_) (fun hb6 H6 e6 => ?_)
        · rw [if_neg (fun z => by
            simp only [Option.isSome_some, Bool.true_and] at z
            rw [z] at hb6
            cases hb6)] at q
          exact s_ret ev_c fun H7 e7 => q H7 (((e14.trans e5).trans e6).trans e7)
        · have he : endsG sh closeD = true := by
            cases z : endsG sh closeD with
            | true => rfl
            | false => rw [z] at hb6; cases hb6
          rw [if_pos (by rw [he]; rfl)] at q
          have e16 := (e14.trans e5).trans e6
          show tSeq (sFld K (tVar 0) (tMake D (spDf D) [] E0 (tCons _ (tCons _ (tCons _ (tCons _ tNil))))) "_method") _ _ [some (.ref r), some (sv M), some (sv L), some (sv a), some (sv b), some (sv sh), some (.ref dd), some (.ref t)] H6
          have zn : Ev (tFld K (tFld K (tVar 0) "_owner") "name") [some (.ref r), some (sv M), some (sv L), some (sv a), some (sv b), some (sv sh), some (.ref dd), some (.ref t)] H6 (sv n) := Hy.ev_fld (Hy.ev_fld (ev_var rfl) (e16 _ _ hr1) c.cl c.nO (lo me)) (e16 _ _ hx1) ct.cl ct.nN ln
          refine q_fldX (make4 (zn H6 (Ex.refl H6) _ fun H7 e7 => ⟨_, rfl, _, rfl, _, rfl, ?_⟩))
          intro m dm nm ndm nem
          have e17 := e16.trans e7
          refine ⟨m, dm, sv n, sv a, sv M, t, rfl, upd_same, fun H8 rl nrl ext hm8 hrl8 => ⟨rfl, _, rfl, r, CR, dr, rdF d (.ref x) me, rfl, ?_⟩⟩
          have e8 : Ex H7 H8 := made_ex nm ndm ext
          have e18 := e17.trans e8
          have hr8 := e18 _ _ hr1
          have hd8 := e18 _ _ hd1
          have hpt8 : ParsAt ps t H8 := by
            obtain ⟨xs, ob, h1, h2, h3⟩ := hpt
            exact ⟨xs, ob, (e6.trans (e7.trans e8)) _ _ h1, h2, h3.ex (fun p v H H' e h => by
              obtain ⟨a, u, h1, h2, h3⟩ := h
              refine ⟨a, u, h1, e _ _ h2 gd_tup, ?_⟩
              cases p with
              | mk w k =>
                cases k with
                | idx n => exact h3
                | shp M => exact h3
                | fn M r =>
                  obtain ⟨t, h4, h5⟩ := h3
                  exact ⟨t, h4, e _ _ h5 gd_tup⟩) (NL.ex (e6.trans (e7.trans e8)))⟩
          have mH : H m = none := fresh_back e17 nm
          have mr : m ≠ r := fun z => by
            rw [z, hr1] at mH
            cases mH
          have md : m ≠ dd := fun z => by
            rw [z, hd1] at mH
            cases mH
          have rl7 : H7 rl = none := by
            have : rl ≠ m := fun z => by
              rw [z, upd_same] at nrl
              cases nrl
            have h2 : rl ≠ dm := fun z => by
              rw [z, upd_ne nem, upd_same] at nrl
              cases nrl
            rw [upd_ne this, upd_ne h2] at nrl
            exact nrl
          have rlH : H rl = none := fresh_back e17 rl7
          have rlr : rl ≠ r := fun z => by
            rw [z, hr1] at rlH
            cases rlH
          have rld : rl ≠ dd := fun z => by
            rw [z, hd1] at rlH
            cases rlH
          refine ⟨hr8, c.cl, c.nM, (show 3 < 1000 by decide), ?_⟩
          have hr9 : (upd H8 r (.ins CR dr (putF "_method" (.ref m) (rdF d (.ref x) me)))) r = some (.ins CR dr (rdF d (.ref x) (.ref m))) := upd_same
          have hd9 : (upd H8 r (.ins CR dr (putF "_method" (.ref m) (rdF d (.ref x) me)))) dd = some (.dK (dsK ds)) := (upd_ne dr_ne).trans hd8
          have ext9 : Hc.Ext (fun b => b = r ∨ b = dd) H (upd H8 r (.ins CR dr (putF "_method" (.ref m) (rdF d (.ref x) me)))) := stepE e18 (.inl rfl)
          have hm9 : (upd H8 r (.ins CR dr (putF "_method" (.ref m) (rdF d (.ref x) me)))) m = some (.ins D dm (defF (sv n) (sv a) (sv M) t rl)) := (upd_ne mr).trans hm8
          have hrl9 : (upd H8 r (.ins CR dr (putF "_method" (.ref m) (rdF d (.ref x) me)))) rl = some (.lst []) := (upd_ne rlr).trans hrl8
          have hpt9 : ∀ {H9 : Hp}, Hc.Ext (fun b => b = r ∨ b = dd) H8 H9 → ParsAt ps t H9 := fun {H9} e => by
            have keep : ∀ (b : Addr) (xs : List V), H8 b = some (.tup xs) → H9 b = some (.tup xs) := fun b xs h => e _ _ h fun z => z.elim (fun z => by
              rw [z, hr8] at h
              cases h) fun z => by
              rw [z, hd8] at h
              cases h
            obtain ⟨xs, ob, h1, h2, h3⟩ := hpt8
            have hno : ¬ (t = r ∨ t = dd) := fun z => by
              rcases z with z | z
              · rw [z, hr8] at h1
                cases h1
              · rw [z, hd8] at h1
                cases h1
            refine ⟨xs, ob, e _ _ h1 hno, h2, h3.1, fun i p v a1 a2 => ?_⟩
            obtain ⟨a, u, g1, g2, g3⟩ := h3.2 i p v a1 a2
            refine ⟨a, u, g1, keep _ _ g2, ?_⟩
            cases p with
            | mk w k =>
              cases k with
              | idx n => exact g3
              | shp M => exact g3
              | fn M r =>
                obtain ⟨t, h4, h5⟩ := g3
                exact ⟨t, h4, keep _ _ h5⟩
          generalize hH9 : upd H8 r (.ins CR dr (putF "_method" (.ref m) (rdF d (.ref x) me))) = H9 at hr9 hd9 ext9 hm9 hrl9 ⊢
          refine q_dput (n := a) (kvs := dsK ds) (v := .ref m) (Hy.ev_fld (fs := rdF d (.ref x) (.ref m)) (ev_var rfl) hr9 c.cl c.nM rfl) (ev_var rfl) (ev_var rfl) hd9 (by unfold dsK; rw [List.length_map]; omega) fun H10 e10 => ?_
          have hnone : valV (dsK ds) (kN a) = none := by
            have := ds_in a ds
            rw [decide_eq_false b2] at this
            cases z : valV (dsK ds) (kN a) with
            | none => rfl
            | some v => rw [z] at this; cases this
          rw [putK_new (v := V.ref m) hnone]
          refine s_ret ev_c fun H11 e11 => ?_
          have ext11 : Hc.Ext (fun b => b = r ∨ b = dd) H9 H11 := (stepE (S := fun b => b = r ∨ b = dd) e10 (.inr rfl)).trans (ext_ex e11)
          have ext8 : Hc.Ext (fun b => b = r ∨ b = dd) H8 H9 := by
            rw [← hH9]
            exact Ext.put (.inl rfl)
          refine q H11 m ps rfl mH (ext9.trans ext11) ?_ ?_ ⟨dm, sv n, sv a, sv M, t, rl, ?_, hpt9 (ext8.trans ext11), ?_, rlH⟩
          · exact e11 _ _ ((upd_ne (Ne.symm dr_ne)).trans (e10 _ _ hr9))
          · refine e11 _ _ ?_
            rw [upd_same]
            unfold dsK
            rw [List.map_append]
            rfl
          · exact ext11 _ _ hm9 fun z => z.elim mr md
          · exact ext11 _ _ hrl9 fun z => z.elim rlr rld
end
end Hz
/-! module HzTakeR -/
set_option maxHeartbeats 4000000
/-! Reader._take_row, for rows PATH = SIMPLE at a field. -/
namespace Hz
open PySem PySem.Spec PyProof.Rows L2 Evl Hc Hs Hy
structure RowLine (L : List Nat) : Prop where
  nv : startsL L rvD = false
  nr : startsL L rtD = false
  eq : partB L eqD ≠ []
  pt : ∃ p, readPath (partA L eqD) = some p ∧ p.own = true
  tm : ∃ s, readSimple (partC L eqD) = some s
abbrev mTakeR : Stmt := inClass cReader 6
abbrev nTakeR : List Str := ["self", "text", "row"]
theorem scTakeR : FnScope nTakeR ["self", "text"] (defScope mTakeR) := ⟨rfl, rfl, rfl, by decide +kernel, rfl, by decide +kernel, by decide +kernel⟩
def spTakeR (C : Cs) (R D CR : Addr) : Sp := fun vs H Q _ => ∃ (r dr d : Addr) (ow : V) (m dm : Addr) (o n k : V) (t rl : Addr) (ps : Pars) (xs : List Addr) (L : List Nat), vs = [.ref r, sv L] ∧ L.length ≤ cap ∧ RowLine L ∧ H r = some (.ins CR dr (rdF d ow (.ref m))) ∧ H m = some (.ins D dm (defF o n k t rl)) ∧ ParsAt ps t H ∧ ((ps.map (·.1)).Nodup) ∧ H rl = some (.lst (xs.map V.ref)) ∧ xs.length ≤ 6 ∧ (∀ x ∈ xs, RowOk C R x H) ∧
  (if xs.length = 6 then ∀ H', Ex H H' → Q (.bl false) H' else ∀ H' z, Hc.Ext (fun b => b = rl) H H' → H' rl = some (.lst ((xs ++ [z]).map V.ref)) → (∀ x ∈ xs ++ [z], RowOk C R x H') → Q (.bl true) H')
/-- rows stay where only a list of rows is written -/
theorem RowOk.put {C : Cs} {R x rl : Addr} {H : Hp} {ys zs : List V} (h : RowOk C R x H) (hl : H rl = some (.lst ys)) : RowOk C R x (upd H rl (.lst zs)) := by
  have ni : ∀ {b A' dx fs}, H b = some (.ins A' dx fs) → (upd H rl (.lst zs)) b = some (.ins A' dx fs) := fun {b A' dx fs} e => (upd_ne fun z => by
    rw [z, hl] at e
    cases e).trans e
  have nt : ∀ {b us}, H b = some (.tup us) → (upd H rl (.lst zs)) b = some (.tup us) := fun {b us} e => (upd_ne fun z => by
    rw [z, hl] at e
    cases e).trans e
  have np : ∀ {y p}, PtAt C.path y p H → PtAt C.path y p (upd H rl (.lst zs)) := fun ⟨dx, t, h1, h2⟩ => ⟨dx, t, ni h1, nt h2⟩
  obtain ⟨p, s, ⟨dx, y, z, h1, h2, h3⟩, ho⟩ := h
  refine ⟨p, s, ⟨dx, y, z, ni h1, np h2, ?_⟩, ho⟩
  cases s with
  | new M =>
    obtain ⟨dz, sh, h⟩ := h3
    exact ⟨dz, sh, ni h⟩
  | cpy q k =>
    obtain ⟨dz, u, h, hq⟩ := h3
    exact ⟨dz, u, ni h, np hq⟩
  | pth q => exact np h3
section
variable {P : Program} {w : World} {K : PySem.W.Frag} {mg : Str → Option Value} {base : Heap} {C : Cs} {R D CR CT f : Addr} {fd : FuncData} {k : Nat}
theorem ok_takeR (F : Fun K "_take_row" "Reader._take_row" mTakeR f fd) (c : RdC K CR) (dc : DfC K D) (rR : Rd P w K mg base "read_row" k ["text"] (spRow C R)) (rS : Rd P w K mg base "can_stand" k ["row", "definition"] (spStand C R D)) : FnOk P w K mg base CX0 (k + 1) f fd ["self", "text"] (spTakeR C R D CR) := by
  refine F.ok scTakeR (fun vs H Q E h => ?_) (fun cdv A outer s H vs Q E hr h => ?_)
  · obtain ⟨r, dr, d, ow, m, dm, o, n, kk, t, rl, ps, xs, L, rfl, _⟩ := h
    rfl
  · obtain ⟨r, dr, d, ow, m, dm, o, n, kk, t, rl, ps, xs, L, rfl, hL, hrow, hr1, hm1, hps, hnd, hrl, hxl, hxs, q⟩ := h
    refine ⟨_, pss_cons (ps_set (i := 2) scTakeR.nd rfl (.inl rfl) (pe_rd rR hr (Nat.le_refl _) (by rfl) (pa_cons (pv 1) pa_nil)))
      (pss_cons (ps_if (PW.pt (pw_or (pt_cmpR op_isN (pv 2) pe_non (nomark _)) (pw_or (pt_cmpR op_isN (pe_fld (pv 0) (by rfl)) pe_non (nomark _)) (pw_or1 (pt_not (pt_val (pe_rd rS hr (Nat.le_refl _) (by rfl) (pa_cons (pv 2) (pa_cons (pe_fld (pv 0) (by rfl)) pa_nil))))))))) (pss_one (ps_ret pe_bl)) pss_nil)
      (pss_cons (ps_expr (pe_bm PySem.F.plainAttrs_list PySem.F.slot_list_append PySem.F.type_list_append mt_append (pe_fld (pe_fld (pv 0) (by rfl)) (by rfl)) (pa_cons (pv 2) pa_nil)))
      (pss_one (ps_ret pe_bl)))), ?_⟩
    obtain ⟨p, hp, hown⟩ := hrow.pt
    obtain ⟨sm, hsm⟩ := hrow.tm
    have lm : (rdF d ow (.ref m)).lookup ("_method" : Str) = some (.ref m) := rfl
    refine q_asgX ?_
    refine ⟨_, rfl, L, p, sm, rfl, hL, hrow.nv, hrow.nr, hrow.eq, hp, hsm, fun H1 z nz e1 hz => ?_⟩
    have hzo : RowOk C R z H1 := ⟨p, sm, hz, hown⟩
    show tSeq (tIfS _ _ _) _ _ [some (.ref r), some (sv L), some (.ref z)] H1
    have zm : ∀ {H2 : Hp}, Ex H H2 → Ev (tFld K (tVar 0) "_method") [some (.ref r), some (sv L), some (.ref z)] H2 (.ref m) := fun e => Hy.ev_fld (ev_var rfl) (e _ _ hr1) c.cl c.nM lm
    have hpsx : ∀ {H2 : Hp}, Ex H H2 → ParsAt ps t H2 := fun e => by
      obtain ⟨us, ob, h1, h2, h3⟩ := hps
      exact ⟨us, ob, e _ _ h1, h2, h3.1, fun i p v a b => (h3.2 i p v a b).ex e⟩
    refine q_when (b := decide (xs.length = 6)) (et_is (et_or (et_test (ev_nonR (ev_var rfl))) fun _ => et_or (et_test (ev_nonR (zm e1))) fun _ => et_not (a := decide (xs.length ≠ 6)) (et_B (ev_call (ea_cons (ev_var rfl) (ea_cons (zm e1) ea_nil)) fun H2 e2 Q2 q2 E2 => ⟨z, m, ps, xs.length, rfl, hzo.ex e2, ⟨dm, o, n, kk, t, rl, xs, (e1.trans e2) _ _ hm1, hpsx (e1.trans e2), (e1.trans e2) _ _ hrl, rfl, fun x hx => (hxs x hx).ex (e1.trans e2)⟩, hxl, hnd, q2⟩))) (by
      rw [Bool.false_or, Bool.false_or, Bool.eq_iff_iff]
      simp)) (fun hb H2 e2 => ?_) (fun hb H2 e2 => ?_)
    · rw [if_pos (of_decide_eq_true hb)] at q
      exact s_ret ev_c fun H3 e3 => q H3 ((e1.trans e2).trans e3)
    · have hne := of_decide_eq_false hb
      rw [if_neg hne] at q
      have e12 := e1.trans e2
      refine q_app (l := rl) (xs := xs.map V.ref) (e12 _ _ hrl) (Hy.ev_fld (zm e12) (e12 _ _ hm1) dc.cl dc.nR rfl) (v := .ref z) (ev_var rfl) (by rw [List.length_map]; omega) fun H3 e3 => ?_
      have e13 := e12.trans e3
      refine s_ret ev_c fun H4 e4 => q H4 z ((stepE (S := fun b => b = rl) e13 rfl).trans (ext_ex e4)) ?_ fun x hx => ?_
      · refine e4 _ _ ?_
        rw [upd_same, List.map_append]
        rfl
      · refine RowOk.ex ?_ e4
        refine RowOk.put ?_ (e13 _ _ hrl)
        rcases List.mem_append.mp hx with hx | hx
        · exact (hxs x hx).ex e13
        · rw [List.mem_singleton.mp hx]
          exact hzo.ex (e2.trans e3)
end
end Hz
/-! module HzTake -/
set_option maxHeartbeats 4000000
/-! Reader._take_member, take: lines of members and rows. -/
namespace Hz
open PySem PySem.Spec PyProof.Rows L2 Evl Hc Hs Hy
def blankD : List Nat := [32]
def marks3 : List (List Nat) := [[100, 101, 102], [101, 110, 116, 101, 114], [101, 120, 105, 116]]
def bl4 : List Nat := [32, 32, 32, 32]
def bl8 : List Nat := [32, 32, 32, 32, 32, 32, 32, 32]
abbrev mTakeMb : Stmt := inClass cReader 3
abbrev nTakeMb : List Str := ["self", "text", "mark", "_", "rest"]
theorem scTakeMb : FnScope nTakeMb ["self", "text"] (defScope mTakeMb) := ⟨rfl, rfl, rfl, by decide +kernel, rfl, by decide +kernel, by decide +kernel⟩
/-- a member's line: what its reader makes of it -/
def spMember (C : Cs) (R D CR CT : Addr) : Sp := fun vs H Q E => ∃ (r dr x d : Addr) (me : V) (L : List Nat), vs = [.ref r, sv L] ∧ L.length ≤ cap ∧ H r = some (.ins CR dr (rdF d (.ref x) me)) ∧
  (if partA L blankD ∈ marks3 then ∀ H', Ex H H' → spTakeM C R D CR CT [.ref r, sv (partA L blankD), sv (partC L blankD)] H' Q E else ∀ H', Ex H H' → spTakeF CR CT [.ref r, sv L] H' Q E)
structure MarkP (K : PySem.W.Frag) (mg : Str → Option Value) : Prop where
  tu : ∃ r, mg "MARKS" = some (.ref r) ∧ ∀ H, SqT K H r (marks3.map fun x => V.str (S x))
abbrev mTake6 : Stmt := inClass cReader 1
theorem scTake6 : FnScope ["self", "line"] ["self", "line"] (defScope mTake6) := ⟨rfl, rfl, rfl, by decide +kernel, rfl, by decide +kernel, by decide +kernel⟩
def spTakeL (C : Cs) (R D CR CT : Addr) : Sp := fun vs H Q E => ∃ (r dr : Addr) (fs : List (Str × V)) (L : List Nat), vs = [.ref r, sv L] ∧ L.length ≤ cap ∧ H r = some (.ins CR dr fs) ∧ fs.lookup ("_take_row" : Str) = none ∧ fs.lookup ("_take_member" : Str) = none ∧
  (if startsL L bl8 = true then ∀ H', Ex H H' → spTakeR C R D CR [.ref r, sv (L.drop 8)] H' Q E else startsL L bl4 = true ∧ ∀ H', Ex H H' → spMember C R D CR CT [.ref r, sv (L.drop 4)] H' Q E)
section
variable {P : Program} {w : World} {K : PySem.W.Frag} {mg : Str → Option Value} {base : Heap} {C : Cs} {R D CR CT f : Addr} {fd : FuncData} {k : Nat}
theorem ok_member (F : Fun K "_take_member" "Reader._take_member" mTakeMb f fd) (T : MarkP K mg) (c : RdC K CR) (rM : Hy.Rt P w K mg base CR "_take_method" k ["self", "mark", "text"] (spTakeM C R D CR CT)) (rF : Hy.Rt P w K mg base CR "_take_field" k ["self", "text"] (spTakeF CR CT)) : FnOk P w K mg base CX0 (k + 1) f fd ["self", "text"] (spMember C R D CR CT) := by
  refine F.ok scTakeMb (fun vs H Q E h => ?_) (fun cdv A outer s H vs Q E hr h => ?_)
  · obtain ⟨r, dr, x, d, me, L, rfl, _⟩ := h
    rfl
  · obtain ⟨r, dr, x, d, me, L, rfl, hL, hr1, q⟩ := h
    obtain ⟨rk, hK, hs⟩ := T.tu
    refine ⟨_, pss_cons (ps_asg (pe_partition (pv 1) pe_str) (pg_tup (by rfl) (pgs_cons (pg_name (i := 2) scTakeMb.nd rfl (.inl rfl)) (pgs_cons (pg_name (i := 3) scTakeMb.nd rfl (.inl rfl)) (pgs_cons (pg_name (i := 4) scTakeMb.nd rfl (.inl rfl)) pgs_nil)))))
      (pss_cons (ps_if (pt_cmpR op_isN (pe_fld (pv 0) (by rfl)) pe_non (nomark _)) (pss_one (ps_ret pe_bl)) pss_nil)
      (pss_cons (ps_if (pt_cmpR op_in_seq (pv 2) (pe_glob (v := .ref rk) (by rfl) hK rfl) (by rfl)) (pss_one (ps_ret (Hy.pe_rt (pv 0) c.cl rM hr (Nat.le_refl _) (pa_cons (pv 2) (pa_cons (pv 4) pa_nil))))) pss_nil)
      (pss_one (ps_ret (Hy.pe_rt (pv 0) c.cl rF hr (Nat.le_refl _) (pa_cons (pv 1) pa_nil)))))), ?_⟩
    show tSeq (tAsg (tM1 _ (tVar 1) (tC (.str (S blankD)))) _) _ _ [some (.ref r), some (sv L), none, none, none] H
    refine q_asgG ?_
    have zp := eu_part (H := H) (σ := [some (.ref r), some (sv L), none, none, none]) (to := tVar 1) (te := tC (.str (S blankD))) (L := L) (M := blankD) hL (by decide) (part_all L blankD) (ev_var rfl) ev_c
    refine zp H (Ex.refl H) _ fun pp H1 np e1 hp => ?_
    refine ⟨pp, _, rfl, st_of hp, rfl, _, _, rfl, _, _, rfl, _, _, rfl, rfl, ?_⟩
    show tSeq (tIfS _ _ _) _ _ [some (.ref r), some (sv L), some (sv (partA L blankD)), some (sv (partB L blankD)), some (sv (partC L blankD))] H1
    have lo : (rdF d (.ref x) me).lookup ("_owner" : Str) = some (.ref x) := rfl
    refine q_when (b := false) (et_test (ev_nonR (Hy.ev_fld (ev_var rfl) (e1 _ _ hr1) c.cl c.nO lo))) (fun z => nomatch z) fun _ H2 e2 => ?_
    refine q_when (et_test (ev_in (Ls := marks3) (ev_var rfl) ev_c hs)) (fun hb H3 e3 => ?_) (fun hb H3 e3 => ?_)
    · rw [if_pos (by rw [← List.contains_iff_mem]; exact hb)] at q
      have e13 := (e1.trans e2).trans e3
      exact ⟨_, rfl, r, dr, _, rfl, e13 _ _ hr1, rfl, _, rfl, _, rfl, q H3 e13⟩
    · rw [if_neg (by rw [← List.contains_iff_mem, hb]; exact Bool.false_ne_true)] at q
      have e13 := (e1.trans e2).trans e3
      exact ⟨_, rfl, r, dr, _, rfl, e13 _ _ hr1, rfl, _, rfl, q H3 e13⟩
theorem ok_take6 (F : Fun K "take" "Reader.take" mTake6 f fd) (c : RdC K CR) (rM : Hy.Rt P w K mg base CR "_take_member" k ["self", "text"] (spMember C R D CR CT)) (rR : Hy.Rt P w K mg base CR "_take_row" k ["self", "text"] (spTakeR C R D CR)) : FnOk P w K mg base CX0 (k + 1) f fd ["self", "line"] (spTakeL C R D CR CT) := by
  refine F.ok scTake6 (fun vs H Q E h => ?_) (fun cdv A outer s H vs Q E hr h => ?_)
  · obtain ⟨r, dr, fs, L, rfl, _⟩ := h
    rfl
  · obtain ⟨r, dr, fs, L, rfl, hL, hr1, l1, l2, q⟩ := h
    refine ⟨_, pss_cons (ps_if (pt_val (pe_m1 PySem.F.slot_str_startswith PySem.F.type_str_startswith mt_startswith (pv 1) pe_str)) (pss_one (ps_ret (Hy.pe_rt (pv 0) c.cl rR hr (Nat.le_refl _) (pa_cons (pe_slice sl_str (pv 1) (po_some pe_int) po_none) pa_nil)))) pss_nil)
      (pss_cons (ps_if (pt_val (pe_m1 PySem.F.slot_str_startswith PySem.F.type_str_startswith mt_startswith (pv 1) pe_str)) (pss_one (ps_ret (Hy.pe_rt (pv 0) c.cl rM hr (Nat.le_refl _) (pa_cons (pe_slice sl_str (pv 1) (po_some pe_int) po_none) pa_nil)))) pss_nil)
      (pss_one ps_never)), ?_⟩
    have zs : ∀ (i : Nat) H, Ev (tSl rSlS (tVar 1) (tPart (tC (.int (i : Int)))) tNoPart) [some (.ref r), some (sv L)] H (sv (L.drop i)) := fun i H => Evl.ev_is (ev_slS (lo := some (i : Int)) (hi := none) (ev_var rfl) (eo_some ev_c) eo_none (by rw [S_len]; exact cap_line hL)) (by rw [cut_n])
    refine q_when (et_B (ev_startsS (L := L) (M := bl8) (ev_var rfl) ev_c)) (fun hb H1 e1 => ?_) (fun hb H1 e1 => ?_)
    · rw [if_pos hb] at q
      exact ⟨_, rfl, r, dr, fs, rfl, e1 _ _ hr1, l1, zs 8 H1 H1 (Ex.refl H1) _ fun H2 e2 => q H2 (e1.trans e2)⟩
    · rw [if_neg (by rw [hb]; exact Bool.false_ne_true)] at q
      refine q_when (b := true) (et_is (et_B (ev_startsS (L := L) (M := bl4) (ev_var rfl) ev_c)) q.1) (fun _ H2 e2 => ?_) (fun z => nomatch z)
      exact ⟨_, rfl, r, dr, fs, rfl, e2 _ _ (e1 _ _ hr1), l2, zs 4 H2 H2 (Ex.refl H2) _ fun H3 e3 => q.2 H3 ((e1.trans e2).trans e3)⟩
end
end Hz
/-! module HzCls -/
set_option maxHeartbeats 4000000
/-! read_class_line, for any text. -/
namespace Hz
open PySem PySem.Spec PyProof.Rows L2 Evl Hc Hs Hy
def colD : List Nat := [58]
def shutD : List Nat := [41]
def commaD : List Nat := [44, 32]
/-- the pieces between commas -/
def pieces (L : List Nat) : List (List Nat) := (Txt.split (S L) (S commaD)).map TL.tl
theorem pieces_S (L : List Nat) : Txt.split (S L) (S commaD) = (pieces L).map S := by
  unfold pieces
  rw [List.map_map]
  have : (S ∘ TL.tl) = id := funext fun x => S_tl x
  rw [this, List.map_id]
def headL (L : List Nat) : List Nat := (L.drop 6).take (L.length - 1 - 6)
def readCls (L : List Nat) : Option (List Nat × List (List Nat)) :=
  if startsL L cls6 = true ∧ endsG L colD = true then
    (if isClassName (partA (headL L) parenD) = true then
      (if partB (headL L) parenD = [] then some (partA (headL L) parenD, [])
       else if endsG (partC (headL L) parenD) shutD = true ∧ (pieces (partC (headL L) parenD).dropLast).length ≤ 3 then some (partA (headL L) parenD, pieces (partC (headL L) parenD).dropLast) else none)
     else none)
  else none
def spReadC : Sp := fun vs H Q _ => ∃ L : List Nat, vs = [sv L] ∧ L.length ≤ cap ∧ (match readCls L with
  | none => ∀ H', Ex H H' → Q .non H'
  | some (n, bs) => ∀ t l H', H t = none → H l = none → Ex H H' → H' t = some (.tup [sv n, .ref l]) → H' l = some (.lst (bs.map sv)) → Q (.ref t) H')
theorem el_splitG {σ : L2.St} {H : Hp} {to te : TE} {L : List Nat} (hL : L.length ≤ cap) (h1 : Ev to σ H (.str (S L))) (h2 : Ev te σ H (.str (S commaD))) :
    EvL (tM1 (fun x xs H Q => ∃ a b, x = .str a ∧ xs = [.str b] ∧ (b.length == 0) = false ∧ a.length + 2 ≤ sizeLine ∧ rNewStrs (Txt.split a b) H Q) to te) σ H ((pieces L).map sv) := fun H1 f1 Q q =>
  h1 H1 f1 _ fun H2 f2 => ⟨⟨_, rfl⟩, h2 H2 (f1.trans f2) _ fun H3 f3 => ⟨_, _, rfl, rfl, by rw [S_len]; rfl, by rw [S_len]; exact Nat.le_trans (Nat.add_le_add_right hL 2) (by decide), fun p np => by
    refine q p _ (fresh_back (f2.trans f3) np) ((f2.trans f3).trans (Ex.new np)) ?_
    rw [upd_same, pieces_S, List.map_map]
    rfl⟩⟩
section
variable {P : Program} {w : World} {K : PySem.W.Frag} {mg : Str → Option Value} {base : Heap} {f : Addr} {fd : FuncData} {k : Nat}
theorem ok_readC (F : Fun K "read_class_line" "read_class_line" sReadClass f fd) (T : LibP mg) (rC : Rd P w K mg base "is_class_name" k ["text"] spClass) : FnOk P w K mg base CX0 (k + 1) f fd ["line"] spReadC := by
  refine F.ok scRead (fun vs H Q E h => ?_) (fun cdv A outer s H vs Q E hr h => ?_)
  · obtain ⟨L, rfl, _⟩ := h
    rfl
  · obtain ⟨L, rfl, hL, q⟩ := h
    obtain ⟨tB, hB⟩ := T.mB
    refine ⟨_, pss_cons (ps_if (PW.pt (pw_or (pt_not (pt_val (pe_m1 PySem.F.slot_str_startswith PySem.F.type_str_startswith mt_startswith (pv 0) pe_str))) (pw_or1 (pt_not (pt_val (pe_m1 PySem.F.slot_str_endswith PySem.F.type_str_endswith mt_endswith (pv 0) pe_str)))))) (pss_one (ps_ret pe_non)) pss_nil)
      (pss_cons (ps_asg (pe_partition (pe_slice sl_str (pv 0) (po_some pe_int) (po_some (pe_un un_neg pe_int))) pe_str) (pg_tup (by rfl) (pgs_cons (pg_name (i := 1) scRead.nd rfl (.inl rfl)) (pgs_cons (pg_name (i := 2) scRead.nd rfl (.inl rfl)) (pgs_cons (pg_name (i := 3) scRead.nd rfl (.inl rfl)) pgs_nil)))))
      (pss_cons (ps_if (pt_not (pt_val (pe_rd rC hr (Nat.le_refl _) (by rfl) (pa_cons (pv 1) pa_nil)))) (pss_one (ps_ret pe_non)) pss_nil)
      (pss_cons (ps_if (pt_cmpR op_eq (pv 2) pe_str (nomark _)) (pss_one (ps_ret (pe_tup (pa_cons (pv 1) (pa_cons (pe_lst pa_nil) pa_nil))))) pss_nil)
      (pss_cons (ps_set (i := 4) scRead.nd rfl (.inl rfl) (pe_split (pe_slice sl_str (pv 3) po_none (po_some (pe_un un_neg pe_int))) pe_str))
      (pss_cons (ps_if (PW.pt (pw_or (pt_not (pt_val (pe_m1 PySem.F.slot_str_endswith PySem.F.type_str_endswith mt_endswith (pv 3) pe_str))) (pw_or1 (pt_cmpR op_gt (pe_callB call_len_seq (by rfl) T.len PySem.boot_len (pa_cons (pv 4) pa_nil)) (pe_glob (v := .int 3) (by rfl) hB ⟨_, rfl⟩) (nomark _))))) (pss_one (ps_ret pe_non)) pss_nil)
      (pss_one (ps_ret (pe_tup (pa_cons (pv 1) (pa_cons (pv 4) pa_nil)))))))))), ?_⟩
    have hh : (headL L).length ≤ cap := by
      unfold headL
      rw [List.length_take, List.length_drop]
      have : L.length ≤ 30000 := hL
      show _ ≤ 30000
      omega
    unfold readCls at q
    refine q_when (et_or (et_not (et_B (ev_startsS (L := L) (M := cls6) (ev_var rfl) ev_c))) fun _ => et_not (et_B (ev_endsG (L := L) (M := colD) (ev_var rfl) ev_c))) (fun hb H1 e1 => ?_) (fun hb H1 e1 => ?_)
    · rw [if_neg (fun z => by
        rw [z.1, z.2] at hb
        cases hb)] at q
      exact s_ret ev_c fun H2 e2 => q H2 (e1.trans e2)
    rw [if_pos (by
      cases x1 : startsL L cls6 <;> cases x2 : endsG L colD <;> rw [x1, x2] at hb <;> first | exact ⟨rfl, rfl⟩ | cases hb)] at q
    have sl : Ev (tSl rSlS (tVar 0) (tPart (tC (.int 6))) (tPart (tUn (rU fun i => .int (-i)) (tC (.int 1))))) [some (sv L), none, none, none, none] H1 (sv (headL L)) := Evl.ev_is (ev_slS (lo := some 6) (hi := some (-1)) (ev_var rfl) (eo_some ev_c) (eo_some (ev_un ev_c ru_neg)) (by rw [S_len]; exact cap_line hL)) (by rw [cut_6]; rfl)
    have ha := Nat.le_trans (part_len (headL L) parenD).1 hh
    have hc := Nat.le_trans (part_len (headL L) parenD).2 hh
    refine q_asgG ?_
    refine eu_part (L := headL L) (M := parenD) hh (by decide) (part_all (headL L) parenD) sl ev_c H1 (Ex.refl H1) _ fun pt H2 npt e2 hpt => ?_
    refine ⟨pt, _, rfl, st_of hpt, rfl, _, _, rfl, _, _, rfl, _, _, rfl, rfl, ?_⟩
    generalize partA (headL L) parenD = n at q ha ⊢
    generalize partB (headL L) parenD = bk at q ⊢
    generalize partC (headL L) parenD = rs at q hc ⊢
    have e12 := e1.trans e2
    show tSeq (tIfS _ _ _) _ _ [some (sv L), some (sv n), some (sv bk), some (sv rs), none] H2
    refine q_when (et_not (et_B (ev_call (ea_cons (ev_var rfl) ea_nil) (sp_class (L := n) ha)))) (fun hb3 H3 e3 => ?_) (fun hb3 H3 e3 => ?_)
    · rw [if_neg (fun z => by
        rw [z] at hb3
        cases hb3)] at q
      exact s_ret ev_c fun H4 e4 => q H4 ((e12.trans e3).trans e4)
    rw [if_pos (by
      cases x1 : isClassName n with
      | true => rfl
      | false => rw [x1] at hb3; cases hb3)] at q
    refine q_when (et_test (Hs.ev_eqS (a := bk) (b := []) (ev_var rfl) ev_c)) (fun hb4 H4 e4 => ?_) (fun hb4 H4 e4 => ?_)
    · rw [if_pos (of_decide_eq_true hb4)] at q
      have e14 := (e12.trans e3).trans e4
      refine ⟨_, rfl, Nat.zero_le _, fun l nl => ⟨(show 2 ≤ sizeLine by decide), fun t nt => ?_⟩⟩
      have lt : l ≠ t := fun z => by
        rw [← z, upd_same] at nt
        cases nt
      have ntH : H4 t = none := by rw [← nt, upd_ne (Ne.symm lt)]
      refine q t l _ (fresh_back e14 ntH) (fresh_back e14 nl) ((e14.trans (Ex.new nl)).trans (Ex.new nt)) upd_same ?_
      rw [upd_ne lt, upd_same]
      rfl
    rw [if_neg (of_decide_eq_false hb4)] at q
    have e14 := (e12.trans e3).trans e4
    have hdl : rs.dropLast.length ≤ cap := by
      rw [List.length_dropLast]
      exact Nat.le_trans (Nat.sub_le _ _) hc
    have zsl : Ev (tSl rSlS (tVar 3) tNoPart (tPart (tUn (rU fun i => .int (-i)) (tC (.int 1))))) [some (sv L), some (sv n), some (sv bk), some (sv rs), none] H4 (sv rs.dropLast) := Evl.ev_is (ev_slS (lo := none) (hi := some (-1)) (ev_var rfl) eo_none (eo_some (ev_un ev_c ru_neg)) (by rw [S_len]; exact cap_line hc)) (by rw [cut_last'])
    refine q_asgL (xs := (pieces rs.dropLast).map sv) (el_splitG hdl zsl ev_c) fun pl H5 npl e5 hpl => ?_
    show tSeq (tIfS _ _ _) _ _ [some (sv L), some (sv n), some (sv bk), some (sv rs), some (.ref pl)] H5
    have e15 := e14.trans e5
    refine q_when (et_or (et_not (et_B (ev_endsG (L := rs) (M := shutD) (ev_var rfl) ev_c))) fun _ => et_test (ev_op (Evl.ev_is (ev_len (ev_var rfl) (sq_of hpl)) (by rw [List.length_map])) ev_c rv_I0)) (fun hb6 H6 e6 => ?_) (fun hb6 H6 e6 => ?_)
    · rw [if_neg (fun z => by
        rw [z.1, decide_eq_false (by omega)] at hb6
        cases hb6)] at q
      exact s_ret ev_c fun H7 e7 => q H7 ((e15.trans e6).trans e7)
    · simp only [Bool.or_eq_false_iff, Bool.not_eq_false', decide_eq_false_iff_not] at hb6
      rw [if_pos ⟨hb6.1, by omega⟩] at q
      have e16 := e15.trans e6
      refine s_retU (xs := [sv n, .ref pl]) (eu_tup (ea_cons (ev_var rfl) (ea_cons (ev_var rfl) ea_nil)) (show 2 ≤ 100000 by decide)) fun t H7 nt e7 ht => q t pl H7 (fresh_back e16 nt) (fresh_back e14 npl) (e16.trans e7) ht (e7 _ _ (e6 _ _ hpl))
end
end Hz
/-! module HzTakeCN -/
set_option maxHeartbeats 4000000
/-! Reader._take_class for lines that are wrong by their form, their name or the bound; take of such lines; two promises of one def. -/
namespace Hz
open PySem PySem.Spec PyProof.Rows L2 Evl Hc Hs Hy
def spTakeN (CR CT : Addr) : Sp := fun vs H Q _ => ∃ (r d dr : Addr) (es : List Ent) (ow me : V) (L : List Nat), vs = [.ref r, sv L] ∧ L.length ≤ cap ∧ H r = some (.ins CR dr (rdF d ow me)) ∧ DbOk H CT d es ∧ es.length ≤ 8 ∧
  (match readCls L with
    | none => True
    | some (n, _) => n ∈ es.map (·.nm) ∨ es.length = 8) ∧ ∀ H', Ex H H' → Q (.bl false) H'
theorem ent_in {es : List Ent} {n : Nm} : (valV (kvsOf es) (kN n)).isSome = decide (n ∈ es.map (·.nm)) := by
  by_cases h : n ∈ es.map (·.nm)
  · obtain ⟨e, he, _⟩ := ent_some h
    rw [val_kvs, he, decide_eq_true h]
    rfl
  · rw [val_kvs, ent_none h, decide_eq_false h]
    rfl
/-- two promises of one def -/
theorem ok_or {P : Program} {w : World} {K : PySem.W.Frag} {mg : Str → Option Value} {base : Heap} {CX : CXT} {k : Nat} {f : Addr} {fd : FuncData} {ps : List Str} {s1 s2 : Sp} (h1 : FnOk P w K mg base CX k f fd ps s1) (h2 : FnOk P w K mg base CX k f fd ps s2) : FnOk P w K mg base CX k f fd ps (fun vs H Q E => s1 vs H Q E ∨ s2 vs H Q E) :=
  ⟨fun vs H Q E h => h.elim (h1.len vs H Q E) (h2.len vs H Q E), fun A st s H a us vs Q E hr e0 hb r h => h.elim (h1.run A st s H a us vs Q E hr e0 hb r) (h2.run A st s H a us vs Q E hr e0 hb r)⟩
section
variable {P : Program} {w : World} {K : PySem.W.Frag} {mg : Str → Option Value} {base : Heap} {CR CT f : Addr} {fd : FuncData} {k : Nat}
theorem ok_takeN (F : Fun K "_take_class" "Reader._take_class" sTakeC f fd) (T : LibP mg) (c : RdC K CR) (rR : Rd P w K mg base "read_class_line" k ["line"] spReadC) : FnOk P w K mg base CX0 (k + 1) f fd ["self", "line"] (spTakeN CR CT) := by
  refine F.ok scTakeC (fun vs H Q E h => ?_) (fun cdv A outer s H vs Q E hr h => ?_)
  · obtain ⟨r, d, dr, es, ow, me, L, rfl, _⟩ := h
    rfl
  · obtain ⟨r, d, dr, es, ow, me, L, rfl, hL, hrr, hdb, h8, hbad, q⟩ := h
    obtain ⟨tC', hC⟩ := T.mC
    have hu := hu_of hr
    have hlk : (rdF d ow me).lookup ("classes" : Str) = some (.ref d) := rfl
    refine ⟨_, pss_cons (ps_set (i := 2) scTakeC.nd rfl (.inl rfl) (pe_rd rR hr (Nat.le_refl _) (by rfl) (pa_cons (pv 1) pa_nil)))
      (pss_cons (ps_if (PW.pt (pw_or (pt_cmpR op_isN (pv 2) pe_non (nomark _)) (pw_or (pt_cmp (pc_din hu (pe_ix ix_tup (pv 2) pe_int (fun _ _ => rfl)) (pe_fld (pv 0) (by rfl)))) (pw_or1 (pt_cmpR op_eq (pe_callB call_lenD (by rfl) T.len PySem.boot_len (pa_cons (pe_fld (pv 0) (by rfl)) pa_nil)) (pe_glob (v := .int 8) (by rfl) hC ⟨_, rfl⟩) (nomark _)))))) (pss_one (ps_ret pe_bl)) pss_nil)
      (pss_cons ps_never (pss_cons ps_never (pss_cons ps_never (pss_cons ps_never (pss_cons ps_never (pss_cons ps_never (pss_cons ps_never (pss_one ps_never))))))))), ?_⟩
    refine q_asgX ?_
    refine ⟨_, rfl, L, rfl, hL, ?_⟩
    cases hc : readCls L with
    | none =>
      intro H1 e1
      show tSeq (tIfS _ _ _) _ _ [some (.ref r), some (sv L), some .non, none, none, none, none] H1
      refine q_when (b := true) (et_or (a := true) (b := false) (et_test (ev_isNon (v := .non) (ev_var rfl))) fun z => nomatch z) (fun _ H2 e2 => ?_) (fun z => nomatch z)
      exact s_ret ev_c fun H3 e3 => q H3 ((e1.trans e2).trans e3)
    | some p =>
      obtain ⟨n, bs⟩ := p
      rw [hc] at hbad
      intro t l H1 nt nl e1 ht hl
      show tSeq (tIfS _ _ _) _ _ [some (.ref r), some (sv L), some (.ref t), none, none, none, none] H1
      refine q_when (b := true) (et_is (et_or (et_test (ev_nonR (ev_var rfl))) fun _ => et_or (et_B (ev_din (n := n) (kvs := kvsOf es) (ev_op (ev_var rfl) ev_c (rv_ixT (st_of ht) (atI_nat (j := 0) rfl))) (Hy.ev_fld (ev_var rfl) (e1 _ _ hrr) c.cl c.nC hlk) (e1 _ _ hdb.1))) fun _ => et_test (ev_eqI (ev_lenD (kvs := kvsOf es) (Hy.ev_fld (ev_var rfl) (e1 _ _ hrr) c.cl c.nC hlk) (e1 _ _ hdb.1)) ev_c)) (by
        rw [ent_in, Bool.false_or]
        rcases hbad with h | h
        · rw [decide_eq_true h]
          rfl
        · have : decide (((Hy.kvsOf es).length : Int) = 8) = true := decide_eq_true (by unfold Hy.kvsOf; rw [List.length_map, h]; rfl)
          rw [this, Bool.or_true])) (fun _ H2 e2 => ?_) (fun z => nomatch z)
      exact s_ret ev_c fun H3 e3 => q H3 ((e1.trans e2).trans e3)
theorem ok_takeNT (F : Fun K "take" "Reader.take" sTake f fd) (c : RdC K CR) (rT : Hy.Rt P w K mg base CR "_take_class" k ["self", "line"] (spTakeN CR CT)) : FnOk P w K mg base CX0 (k + 1) f fd ["self", "line"] (fun vs H Q E => spTakeN CR CT vs H Q E ∧ ∃ r L, vs = [.ref r, sv L] ∧ startsL L bl4 = false) := by
  refine F.ok scTake (fun vs H Q E h => ?_) (fun cdv A outer s H vs Q E hr h => ?_)
  · obtain ⟨⟨r, d, dr, es, ow, me, L, rfl, _⟩, _⟩ := h
    rfl
  · obtain ⟨⟨r, d, dr, es, ow, me, L, rfl, hL, hrr, hdb, h8, hbad, q⟩, r', L', hv, hs4⟩ := h
    obtain rfl : L = L' := S_inj (V.str.inj (List.cons.inj (List.cons.inj hv).2).1)
    refine ⟨_, pss_cons (ps_if (pt_val (pe_m1 PySem.F.slot_str_startswith PySem.F.type_str_startswith mt_startswith (pv 1) pe_str)) (pss_one ps_never) pss_nil)
      (pss_cons (ps_if (pt_val (pe_m1 PySem.F.slot_str_startswith PySem.F.type_str_startswith mt_startswith (pv 1) pe_str)) (pss_one ps_never) pss_nil)
      (pss_one (ps_ret (Hy.pe_rt (pv 0) c.cl rT hr (Nat.le_refl _) (pa_cons (pv 1) pa_nil))))), ?_⟩
    have hs8 : startsL L bl8 = false := by
      cases z : startsL L bl8 with
      | false => rfl
      | true =>
        unfold startsL at z hs4
        rw [Bool.and_eq_true, decide_eq_true_eq, beq_iff_eq] at z
        have e8 : bl8.length = 8 := rfl
        have e4 : bl4.length = 4 := rfl
        rw [e8] at z
        rw [e4] at hs4
        have h4 : L.take 4 = bl4 := by
          have : (L.take 8).take 4 = bl8.take 4 := by rw [z.2]
          rw [List.take_take] at this
          exact this
        rw [h4, decide_eq_true (by omega)] at hs4
        cases hs4
    refine q_when (b := false) (et_is (et_B (ev_startsS (L := L) (M := bl8) (ev_var rfl) ev_c)) hs8) (fun z => nomatch z) fun _ H1 e1 => ?_
    refine q_when (b := false) (et_is (et_B (ev_startsS (L := L) (M := bl4) (ev_var rfl) ev_c)) hs4) (fun z => nomatch z) fun _ H2 e2 => ?_
    have e12 := e1.trans e2
    exact ⟨_, rfl, r, dr, _, rfl, e12 _ _ hrr, rfl, _, rfl, r, d, dr, es, ow, me, L, rfl, hL, e12 _ _ hrr, hdb.ex e12, h8, hbad, fun H3 e3 => q H3 (e12.trans e3)⟩
end
end Hz
/-! module HyExc -/
set_option maxHeartbeats 4000000
/-! BadLine, NoClass: made, raised; C(e) that may raise. -/
namespace Hy
open PySem PySem.Spec PyProof.Rows L2 Evl Hc Hs
/-! ### C(e) that may raise -/
def tMakeS (C : Addr) (sp : Sp) (E : L2.St → XK) (t : TA) : TE := fun σ H Q => t σ H fun vs H1 => ∀ x dx, H1 x = none → H1 dx = none → dx ≠ x →
  sp (.ref x :: vs) (upd (upd H1 dx (.own x)) x (.ins C dx [])) (fun v H2 => v = .non ∧ Q (.ref x) H2) (E σ)
theorem pe_makeS {X : Cx} {CX : CXT} {C f : Addr} {k : Nat} {fd : FuncData} {ps : List Str} {sp : Sp} {E : L2.St → XK} {x : Str} {e : Expr} {es : List Expr} {t : TA} {p pos : Pos} (M : Mk X.K C f) (F : FnOk X.prog X.w X.K X.mg X.base CX k f fd ps sp) (hr : Room (k + 1) X.A) (hg : Gl X x) (hm : X.mg x = some (.ref C)) (hb : Binds X.K fd ps [])
    (hx : ∀ σ, PassesAt CX X σ (E σ)) (ha : PA X (e :: es) t) (hdb : (x == ("__debug__" : Str)) = false := by decide) (he : starEach (e :: es) X.env = (false, eval e X.env) :: starEach es X.env := by rfl) (hpl : (backTo pos (starEach es X.env)).any (·.1) = false := by rfl) :
    PE X (.Call (.Name x p) (e :: es) [] pos) (tMakeS C sp E t) := by
  refine ⟨fun pins s σ H Q I h => ?_⟩
  refine wpAny_Call_Name_kw (ld_glob I hg hm ?_ hdb)
  refine PySem.W.callWith_K (h₀ := X.base) I.ok.mod.kin M.kp (thn (ha.run pos pins s σ H _ I h) fun us s1 ⟨vs, H1, I1, r, q⟩ => ⟨I1.kIn, ?_⟩) he hpl
  have hq := q (s1.heap.objs.size + 1) s1.heap.objs.size (I1.hok.fresh (Nat.le_succ _)) (I1.hok.fresh (Nat.le_refl _)) (Nat.ne_of_lt (Nat.lt_succ_self _))
  have I2 := Inv.made (C := C) I1
  have r2 : Vals (V.ref (s1.heap.objs.size + 1) :: vs) (Value.ref (s1.heap.objs.size + 1) :: us) := .cons rfl r
  have hl : (Value.ref (s1.heap.objs.size + 1) :: us).length = ps.length := by
    have z := r2.length
    rw [F.len _ _ _ _ hq] at z
    exact z.symm
  have hb2 := hb _ (Value.ref (s1.heap.objs.size + 1) :: us) I2.kIn (by rw [List.append_nil]; exact hl)
  rw [List.append_nil] at hb2
  refine wpAny_call (make_map (f := f) I1.kIn M.makes M.init (beq_iff_eq.mp M.fn) (codeAny_mono (F.run _ X.stack _ _ ⟨Value.ref (s1.heap.objs.size + 1) :: us, []⟩ (Value.ref (s1.heap.objs.size + 1) :: us) _ _ (E σ) (hr.make C us [])
    (I2.env0.make C us []) hb2 r2 hq) fun r s' hq' => ?_))
  cases r with
  | error e => exact hx σ pins _ _ e s' I2 hq'
  | ok fl =>
    cases fl with
    | ret u =>
      obtain ⟨v, H', I3, rv, ev, q3⟩ := I2.after hq'
      subst ev
      exact ⟨rv, ⟨V.ref (s1.heap.objs.size + 1), H', I3, rfl, q3⟩⟩
    | next => exact False.elim hq'
    | brk => exact False.elim hq'
    | cont => exact False.elim hq'
/-! ### an exception class with one field -/
structure XcC (K : PySem.W.Frag) (mg : Str → Option Value) (x : Str) (B : Addr) (f : Str) (fI : Addr) : Prop where
  gB : mg x = some (.ref B)
  ox : OexC K B
  iC : PySem.W.findIn K (.ref B) "__init__" = some (some (.ref fI))
  tI : PySem.W.typeIn K (.ref fI) = some (.type "function")
  xf : XfC K B
  noF : PySem.W.findIn K (.ref B) f = some none
  exm : PySem.W.exmOne K (.ref B) (.ref B) = some true
def spXI (B : Addr) (f : Str) : Sp := fun vs H Q _ => ∃ (a : Addr) (y : V), vs = [.ref a, y] ∧ H a = some (exo a B none) ∧ ∀ dx, H dx = none → dx ≠ a → Q .non (upd (upd H dx (exd dx [(f, y)])) a (exo a B (some dx)))
abbrev sBLI : Stmt := inClass cBadLine 0
abbrev sNCI : Stmt := inClass cNoClass 0
theorem scBLI : FnScope ["self", "at"] ["self", "at"] (defScope sBLI) := ⟨rfl, rfl, rfl, by decide +kernel, rfl, by decide +kernel, by decide +kernel⟩
theorem scNCI : FnScope ["self", "name"] ["self", "name"] (defScope sNCI) := ⟨rfl, rfl, rfl, by decide +kernel, rfl, by decide +kernel, by decide +kernel⟩
/-- what a raise of such a class leaves -/
def Raised (B : Addr) (f : Str) (y : V) (H : Hp) (E : XK) : Prop := ∀ d H', Ex H H' → H d = none → H' d = some (.xd [(f, y)]) → E (.ref B) (some d) H'
theorem Raised.mono {B : Addr} {f : Str} {y : V} {H H1 : Hp} {E : XK} (h : Raised B f y H E) (e : Ex H H1) : Raised B f y H1 E := fun d H' e2 hd => h d H' (e.trans e2) (fresh_back e hd)
section
variable {P : Program} {w : World} {K : PySem.W.Frag} {mg : Str → Option Value} {base : Heap} {B fB f : Addr} {fd : FuncData} {k : Nat}
theorem ok_bli (F : Fun K "__init__" "BadLine.__init__" sBLI f fd) (N : XcC K mg "BadLine" B "at" fB) : FnOk P w K mg base CX0 (k + 1) f fd ["self", "at"] (spXI B "at") := by
  refine F.ok scBLI (fun vs H Q E h => ?_) (fun cdv A outer s H vs Q E hr h => ?_)
  · obtain ⟨a, y, rfl, _⟩ := h
    rfl
  · obtain ⟨a, y, rfl, ha, q⟩ := h
    refine ⟨_, pss_one (ps_ost (pv 0) (pv 1)), ?_⟩
    exact ⟨_, rfl, _, rfl, a, B, rfl, N.ox, N.noF, .inl ⟨ha, fun dx n ne => q dx n ne⟩⟩
theorem ok_nci (F : Fun K "__init__" "NoClass.__init__" sNCI f fd) (N : XcC K mg "NoClass" B "name" fB) : FnOk P w K mg base CX0 (k + 1) f fd ["self", "name"] (spXI B "name") := by
  refine F.ok scNCI (fun vs H Q E h => ?_) (fun cdv A outer s H vs Q E hr h => ?_)
  · obtain ⟨a, y, rfl, _⟩ := h
    rfl
  · obtain ⟨a, y, rfl, ha, q⟩ := h
    refine ⟨_, pss_one (ps_ost (pv 0) (pv 1)), ?_⟩
    exact ⟨_, rfl, _, rfl, a, B, rfl, N.ox, N.noF, .inl ⟨ha, fun dx n ne => q dx n ne⟩⟩
/-- what raising makes of the heap -/
theorem raised_end {H1 : Hp} {B : Addr} {f : Str} {y : V} {E : XK} (h : Raised B f y H1 E) {a dx : Addr} (na : H1 a = none) (nd : (upd H1 a (exo a B none)) dx = none) (ne : dx ≠ a) : E (.ref B) (some dx) (upd (del (upd (upd (upd H1 a (exo a B none)) dx (exd dx [(f, y)])) a (exo a B (some dx))) a) dx (.xd [(f, y)])) := by
  have nd1 : H1 dx = none := (upd_ne ne).symm.trans nd
  refine h dx _ (fun b o hb => ?_) nd1 upd_same
  have b1 : b ≠ dx := ne_of_none hb nd1
  have b2 : b ≠ a := ne_of_none hb na
  rw [upd_ne b1, del_ne b2, upd_ne b2, upd_ne b1, upd_ne b2]
  exact hb
end
end Hy
/-! module HyLib -/
set_option maxHeartbeats 4000000
/-! Library(text) for class lines: read, or refused. -/
namespace Hy
open PySem PySem.Spec PyProof.Rows L2 Evl Hc Hs
/-! ### reading, abstractly -/
abbrev Ab := List (Nm × List Nm)
abbrev Ln := Nm × List Nm
def prE (e : Ent) : Nm × List Nm := (e.nm, e.ord)
def ordA (ab : Ab) (b : Nm) : List Nm := match ab.find? fun e => decide (e.1 = b) with
  | some e => e.2
  | none => []
def rowsA (ab : Ab) (bs : List Nm) : Rows Nm := bs.map (ordA ab) ++ [bs]
structure Fit (ab : Ab) (n : Nm) (bs : List Nm) : Prop where
  gn : GoodNm n
  gb : ∀ b ∈ bs, GoodNm b
  nd : bs.Nodup
  le3 : bs.length ≤ 3
  new : n ∉ ab.map (·.1)
  old : ∀ b ∈ bs, b ∈ ab.map (·.1)
  lt8 : ab.length < 8
  ol : ∀ e ∈ ab, e.2.length ≤ 8
def abStep (ab : Ab) (p : Ln) : Ab := match merge (rowsA ab p.2) with
  | some m => ab ++ [(p.1, p.1 :: m)]
  | none => ab
def abOf (ls : List Ln) : Ab := ls.foldl abStep []
theorem abOf_snoc (ls : List Ln) (p : Ln) : abOf (ls ++ [p]) = abStep (abOf ls) p := by
  unfold abOf
  rw [List.foldl_append]
  rfl
/-- lines that are right, one behind the other -/
def Fits (ls : List Ln) : Prop := ∀ i p, ls[i]? = some p → Fit (abOf (ls.take i)) p.1 p.2 ∧ ∃ m, merge (rowsA (abOf (ls.take i)) p.2) = some m
def cl (p : Ln) : List Nat := cline p.1 p.2
theorem ord_pr (es : List Ent) (b : Nm) : ordOf es b = ordA (es.map prE) b := by
  unfold ordOf ordA entOf
  rw [List.find?_map]
  show _ = (match Option.map prE (es.find? fun e => decide (e.nm = b)) with | some e => e.2 | none => [])
  cases es.find? fun e => decide (e.nm = b) <;> rfl
theorem rows_pr (es : List Ent) (bs : List Nm) : rowsB es bs = rowsA (es.map prE) bs := by
  unfold rowsB rowsA
  congr 1
  exact List.map_congr_left fun b _ => ord_pr es b
theorem nm_pr (es : List Ent) : es.map (·.nm) = (es.map prE).map (·.1) := by
  rw [List.map_map]
  rfl
/-- a class line handed to the reader -/
theorem take_fit {CR CT r d dr : Addr} {n : Nm} {bs : List Nm} {es : List Ent} {ow me : V} {H : Hp} {Q : VK} {E : XK} (F : Fit (es.map prE) n bs) (hr : H r = some (.ins CR dr (rdF d ow me))) (hd : DbOk H CT d es)
    (q : match merge (rowsA (es.map prE) bs) with
      | none => ∀ H', Ex H H' → Q (.bl false) H'
      | some m => ∀ H' (e : Ent), prE e = (n, n :: m) → Hc.Ext (fun b => b = r ∨ b = d) H H' → H' r = some (.ins CR dr (rdF d (.ref e.cls) .non)) → DbOk H' CT d (es ++ [e]) → Q (.bl true) H') : spTake CR CT [.ref r, sv (cline n bs)] H Q E := by
  refine ⟨r, d, dr, n, bs, es, ow, me, rfl, F.gn, F.gb, F.nd, F.le3, by rw [nm_pr]; exact F.new, fun b hb => by rw [nm_pr]; exact F.old b hb, by have := F.lt8; rwa [List.length_map] at this, fun e he => F.ol (prE e) (List.mem_map.mpr ⟨e, he, rfl⟩), hr, hd, ?_⟩
  rw [rows_pr]
  cases hm : merge (rowsA (es.map prE) bs) with
  | none =>
    rw [hm] at q
    exact q
  | some m =>
    rw [hm] at q
    exact fun H' e h1 h2 => q H' e (by unfold prE; rw [h1, h2])
theorem fits_next {ls : List Ln} (F : Fits ls) {i : Nat} {p : Ln} (h : ls[i]? = some p) : ∃ m, merge (rowsA (abOf (ls.take i)) p.2) = some m ∧ abOf (ls.take (i + 1)) = abOf (ls.take i) ++ [(p.1, p.1 :: m)] := by
  obtain ⟨_, m, hm⟩ := F i p h
  refine ⟨m, hm, ?_⟩
  have e : ls.take (i + 1) = ls.take i ++ [p] := by
    rw [List.take_add_one, h]
    rfl
  rw [e, abOf_snoc]
  unfold abStep
  rw [hm]
/-! ### the object -/
def lbF (T : List Nat) (tp d : Addr) : List (Str × V) := [("text", sv T), ("names", .ref tp), ("_classes", .ref d)]
structure LbC (K : PySem.W.Frag) (C : Addr) : Prop where
  cl : Cls K C
  nT : NoAttr K C "text"
  nN : NoAttr K C "names"
  nC : NoAttr K C "_classes"
def LibAt (CL CT x : Addr) (ab : Ab) (H : Hp) : Prop := ∃ dx T tp d es, H x = some (.ins CL dx (lbF T tp d)) ∧ DbOk H CT d es ∧ es.map prE = ab
theorem LibAt.ex {CL CT x : Addr} {ab : Ab} {H H' : Hp} (h : LibAt CL CT x ab H) (e : Ex H H') : LibAt CL CT x ab H' := by
  obtain ⟨dx, T, tp, d, es, h1, h2, h3⟩ := h
  exact ⟨dx, T, tp, d, es, e _ _ h1, h2.ex e, h3⟩
def LinesOk (ls : List (List Nat)) : Prop := TL.joinL [10] ls ≠ [] ∧ ls ≠ [] ∧ (∀ l ∈ ls, 10 ∉ l) ∧ (TL.joinL [10] ls).length ≤ cap
def spLibG (CL CT : Addr) : Sp := fun vs H Q _ => ∃ (x dx : Addr) (ls : List Ln), vs = [.ref x, sv (TL.joinL [10] (ls.map cl))] ∧ H x = some (.ins CL dx []) ∧ Fits ls ∧ LinesOk (ls.map cl) ∧ ∀ H', Hc.Ext (fun b => b = x) H H' → LibAt CL CT x (abOf ls) H' → Q .non H'
def spLibB (B : Addr) : Sp := fun vs H _ E => ∃ (x : Addr) (ls : List Ln) (n : Nm) (bs : List Nm) (tl : List (List Nat)), vs = [.ref x, sv (TL.joinL [10] (ls.map cl ++ cline n bs :: tl))] ∧ Fits ls ∧ Fit (abOf ls) n bs ∧ merge (rowsA (abOf ls) bs) = none ∧ LinesOk (ls.map cl ++ cline n bs :: tl) ∧ Raised B "at" (.int (ls.length : Int)) H E
abbrev sLibInit : Stmt := inClass cLib 0
abbrev nLibI : List Str := ["self", "text", "reader", "at", "line"]
theorem scLibI : FnScope nLibI ["self", "text"] (defScope sLibInit) := ⟨rfl, rfl, rfl, by decide +kernel, rfl, by decide +kernel, by decide +kernel⟩
theorem boot_strT : bootBuiltins "str" = some (.type "str") := by decide +kernel
theorem ev_isi {K : PySem.W.Frag} {σ : L2.St} {H : Hp} {te tc : TE} {x c : V} {t u : Value} {b : Bool} (h : Ev te σ H x) (hc : Ev tc σ H c) (kc : ClsV c u) (ty : ∀ H1, Ex H H1 → TyX K H1 x t) (hk : PySem.W.kitOne K t u = some b) : Ev (tCB (rIsi K) (tCons te (tCons tc tNil))) σ H (.bl b) :=
  ev_cb (ea_cons h (ea_cons hc ea_nil)) fun H1 e Q q => ⟨x, c, t, u, b, rfl, kc, ty H1 e, hk, q H1 (Ex.refl H1)⟩
theorem DbOk.put {H : Hp} {C d x CL dx : Addr} {es : List Ent} {fs : List (Str × V)} {u : HO} (h : DbOk H C d es) (hx : H x = some (.ins CL dx fs)) (hn : fs.length < 4) : DbOk (upd H x u) C d es := by
  refine ⟨?_, fun e he => ?_⟩
  · rw [upd_ne (fun z => ?_)]
    · exact h.1
    · have h1 := h.1
      rw [z, hx] at h1
      cases h1
  · obtain ⟨⟨dx', fd, dd, h1⟩, h2⟩ := h.2 e he
    refine ⟨⟨dx', fd, dd, ?_⟩, ?_⟩
    · rw [upd_ne (fun z => ?_)]
      · exact h1
      · rw [z, hx] at h1
        injection h1 with h1
        injection h1 with _ _ h1
        rw [h1] at hn
        exact absurd hn (show ¬ 4 < 4 by decide)
    · rw [upd_ne (fun z => ?_)]
      · exact h2
      · rw [z, hx] at h2
        cases h2
def rTupOf (K : PySem.W.Frag) : List V → Hp → VK → Prop := fun xs H Q => ∃ p ys, xs = [.ref p] ∧ ((SqL K H p ys ∧ ∀ l, H l = none → Q (.ref l) (upd H l (.tup ys))) ∨ (SqT K H p ys ∧ Q (.ref p) H))
theorem eu_tupOf {K : PySem.W.Frag} {σ : L2.St} {H : Hp} {tl : TE} {xs : List V} (h : EvL tl σ H xs) : EvU (tCB (rTupOf K) (tCons tl tNil)) σ H xs := fun H1 e Q q => h H1 e _ fun p H2 np e2 hp => ⟨p, xs, rfl, .inl ⟨sq_of hp, fun l nl => q l _ (fresh_back e2 nl) (e2.trans (Ex.new nl)) upd_same⟩⟩
theorem el_listD {σ : L2.St} {H : Hp} {te : TE} {d : Addr} {kvs : List (Key × V)} (h : Ev te σ H (.ref d)) (hd : H d = some (.dK kvs)) : EvL (tCB rListD (tCons te tNil)) σ H (kvs.map fun kv => kV kv.1) := fun H1 e Q q => h H1 e _ fun H2 e2 => ⟨d, kvs, rfl, (e.trans e2) _ _ hd, fun l nl => q l _ (fresh_back e2 nl) (e2.trans (Ex.new nl)) upd_same⟩
theorem q_fldU {K : PySem.W.Frag} {σ : L2.St} {H : Hp} {tv : TE} {xs : List V} {D : Ends} {tz : TS} {ta : TE} {f : Str} {C a dx : Addr} {fs : List (Str × V)} (hv : EvU tv σ H xs) (ho : ∀ H1, Ex H H1 → Ev ta σ H1 (.ref a)) (ha : H a = some (.ins C dx fs)) (c : Cls K C) (n : NoAttr K C f) (hl : fs.length < 1000)
    (k : ∀ p H1, H p = none → Ex H H1 → H1 p = some (.tup xs) → tz D σ (upd H1 a (.ins C dx (putF f (.ref p) fs)))) : tSeq (sFld K ta tv f) tz D σ H :=
  hv H (Ex.refl H) _ fun p H1 np e1 hp => ho H1 e1 H1 (Ex.refl H1) _ fun H2 e2 => ⟨a, C, dx, fs, rfl, e2 _ _ (e1 _ _ ha), c, n, hl, k p H2 np (e1.trans e2) (e2 _ _ hp)⟩
/-- if not o.m(x): .. -/
theorem if_notM {C a dx : Addr} {fs : List (Str × V)} {m : Str} {sp : Sp} {σ : L2.St} {H : Hp} {D : Ends} {tu tw : TS} {i j : Nat} {v : V} (hi : σ[i]? = some (some (.ref a))) (ha : H a = some (.ins C dx fs)) (hl : fs.lookup m = none) (hj : σ[j]? = some (some v))
    (h : sp [.ref a, v] H (fun z H1 => ∃ b, z = .bl b ∧ (if (!b) = true then tu D σ H1 else tw D σ H1)) E0) : tIfS (tNot (tB (tMeth C m sp [] E0 (tVar i) (tCons (tVar j) tNil)))) tu tw D σ H := ⟨_, hi, a, dx, fs, rfl, ha, hl, _, hj, h⟩
/-- between the turns -/
def LW (H : Hp) (CR CT x r d dr : Addr) (T : List Nat) (ls : List Ln) (i : Nat) (σ : L2.St) (H' : Hp) : Prop := ∃ (es : List Ent) (ow : V) (v3 v4 : Option V), σ = [some (.ref x), some (sv T), some (.ref r), v3, v4] ∧ Ex H H' ∧ H r = none ∧ H d = none ∧ H' r = some (.ins CR dr (rdF d ow .non)) ∧ DbOk H' CT d es ∧ es.map prE = abOf (ls.take i)
section
variable {P : Program} {w : World} {K : PySem.W.Frag} {mg : Str → Option Value} {base : Heap} {CL CR CT B fB f : Addr} {fd fdB : FuncData}
theorem reader_new {H H1 : Hp} {r dr : Addr} (nr : H r = none) (nd : H dr = none) (ne : dr ≠ r) (e : Hc.Ext (fun b => b = r) (upd (upd H dr (.own r)) r (.ins CR dr [])) H1) : Ex H H1 := fun b o hb => by
  have b1 : b ≠ r := ne_of_none hb nr
  have b2 : b ≠ dr := ne_of_none hb nd
  exact e b o (by rw [upd_ne b1, upd_ne b2]; exact hb) b1
theorem ok_libG {k : Nat} (F : Fun K "__init__" "Library.__init__" sLibInit f fd) (T : LibP mg) (c : LbC K CL) (rc : RdC K CR) (rL : Rd P w K mg base "lines_of" 1 ["text"] spLines) (rR : Rm P w K mg base "Reader" CR 1 ["self"] (spRd CR)) (rT : Rt P w K mg base CR "take" k ["self", "line"] (spTake CR CT)) (hk : 2 ≤ k) :
    FnOk P w K mg base CX0 (k + 1) f fd ["self", "text"] (spLibG CL CT) := by
  refine F.ok scLibI (fun vs H Q E h => ?_) (fun cdv A outer s H vs Q E hr h => ?_)
  · obtain ⟨x, dx, ls, rfl, _⟩ := h
    rfl
  · obtain ⟨x, dx, ls, rfl, hx, F, ⟨l1, l2, l3, l4⟩, q⟩ := h
    refine ⟨_, pss_cons (ps_if (pt_not (pt_val (pe_callB call_isi (by rfl) T.isi boot_isinstance (pa_cons (pv 1) (pa_cons (pe_bltn (v := .ty "str") (by rfl) T.str boot_strT rfl) pa_nil))))) (pss_one ps_never) pss_nil)
      (pss_cons (ps_set (i := 2) scLibI.nd rfl (.inl rfl) (pe_rm0 rR hr hk (by rfl)))
      (pss_cons (ps_for PassesOwn.never rfl (pi_enum (by rfl) T.enu (pa_cons (pe_rd rL hr (Nat.le_trans (by decide) hk) (by rfl) (pa_cons (pv 1) pa_nil)) pa_nil)) (pg_tup (by rfl) (pgs_cons (pg_name (i := 3) scLibI.nd rfl (.inl rfl)) (pgs_cons (pg_name (i := 4) scLibI.nd rfl (.inl rfl)) pgs_nil)))
        (pss_one (ps_if (pt_not (pt_val (pe_rt (pv 2) rc.cl rT hr (Nat.le_refl _) (pa_cons (pv 4) pa_nil)))) (pss_one ps_never) pss_nil)))
      (pss_cons (ps_fld (pv 0) (pv 1) (by rfl))
      (pss_cons (ps_fld (pv 0) (pe_callTy call_tuple_of (by rfl) T.tup boot_tuple (pa_cons (pe_callTy (call_list_dK rfl) (by rfl) T.lst boot_list' (pa_cons (pe_fld (pv 2) (by rfl)) pa_nil)) pa_nil)) (by rfl))
      (pss_one (ps_fld (pv 0) (pe_fld (pv 2) (by rfl)) (by rfl))))))), ?_⟩
    refine q_when (b := false) (et_is (et_not (et_B (ev_isi (ev_var rfl) ev_c (.ty "str") (fun _ _ => .base (.str _)) (kit_ty rfl)))) rfl) (fun z => nomatch z) fun _ H1 e1 => ?_
    refine q_asgX ?_
    intro r dr nr ndr ne
    refine ⟨r, dr, rfl, upd_same, fun H2 d nd ex hr2 hd2 => ⟨rfl, ?_⟩⟩
    have e2 : Ex H1 H2 := reader_new nr ndr ne ex
    have d_r : d ≠ r := fun z => by
      rw [z, upd_same] at nd
      cases nd
    have d_dr : d ≠ dr := fun z => by
      rw [z, upd_ne ne, upd_same] at nd
      cases nd
    rw [upd_ne d_r, upd_ne d_dr] at nd
    have nrH := fresh_back e1 nr
    have ndH := fresh_back e1 nd
    have e12 := e1.trans e2
    show tSeq _ _ _ [some (.ref x), some (sv (TL.joinL [10] (ls.map cl))), some (.ref r), none, none] H2
    refine ⟨_, rfl, ls.map cl, rfl, l1, l2, l3, l4, fun pa H3 npa e3 hpa => ⟨pa, _, rfl, sq_of hpa, ?_⟩⟩
    have pr : pa ≠ r := fun z => by
      rw [z, hr2] at npa
      cases npa
    have pd : pa ≠ d := fun z => by
      rw [z, hd2] at npa
      cases npa
    refine for_it (walk_enum (xs := (ls.map cl).map sv)) (fun i σ' H' => LW H CR CT x r d dr (TL.joinL [10] (ls.map cl)) ls i σ' H' ∧ H' pa = some (.lst ((ls.map cl).map sv))) ⟨⟨[], .non, none, none, rfl, e12.trans e3, nrH, ndH, e3 _ _ hr2, ⟨e3 _ _ hd2, fun e he => (by cases he)⟩, rfl⟩, hpa⟩ (fun i σ' H' _ z => sq_of z.2) (fun i v σ' H' H'' hi z y => ?_) (fun σ' H' z => ?_)
    · obtain ⟨⟨es, ow, v3, v4, rfl, ez, _, _, hrz, hdz, hes⟩, hpz⟩ := z
      obtain ⟨Ta, y1, y2, rfl, nT, rfl, hy1, hy2⟩ := y
      have eT : Ex H' (upd H' Ta (.tup [y1, y2])) := Ex.new nT
      have hy2' : (ls.map (sv ∘ cl))[i]? = some y2 := by
        rw [← List.map_map]
        exact hy2
      rw [List.getElem?_map] at hy2'
      obtain ⟨p, hp, rfl⟩ := Option.map_eq_some_iff.mp hy2'
      cases hy1
      obtain ⟨m, hm, hab⟩ := fits_next F hp
      refine ⟨Ta, _, rfl, st_of upd_same, rfl, _, _, rfl, _, _, rfl, rfl, ?_⟩
      refine if_notM (i := 2) (j := 4) (v := sv (cline p.1 p.2)) rfl (eT _ _ hrz) rfl rfl ?_
      refine take_fit (es := es) (n := p.1) (bs := p.2) (by rw [hes]; exact (F i p hp).1) (eT _ _ hrz) (hdz.ex eT) ?_
      rw [hes, hm]
      refine fun H5 e he ext hr5 hd5 => ⟨true, rfl, iteF ?_⟩
      have e5 : Ex H H5 := fun b o hb => by
        have h1 := eT _ _ (ez _ _ hb)
        refine ext b o h1 fun hz => ?_
        rcases hz with hz | hz
        · rw [hz, nrH] at hb
          cases hb
        · rw [hz, ndH] at hb
          cases hb
      refine ⟨⟨es ++ [e], .ref e.cls, _, _, rfl, e5, nrH, ndH, hr5, hd5, ?_⟩, ext _ _ (eT _ _ hpz) fun hz => hz.elim pr pd⟩
      rw [hab, List.map_append, hes, List.map_singleton, he]
    · obtain ⟨⟨es, ow, v3, v4, rfl, ez, _, _, hrz, hdz, hes⟩, _⟩ := z
      have hes2 : es.map prE = abOf ls := by
        rw [hes, List.length_map, List.length_map, List.take_length]
      have rx : r ≠ x := fun z => by
        rw [z, hx] at nrH
        cases nrH
      have dx' : d ≠ x := fun z => by
        rw [z, hx] at ndH
        cases ndH
      refine q_fldV (ev_var rfl) (ev_var rfl) (ez _ _ hx) c.cl c.nT (show 0 < 1000 by decide) fun H4 e4 => ?_
      have hx4 := e4 _ _ (ez _ _ hx)
      have hr4 : (upd H4 x (.ins CL dx (putF "text" (sv (TL.joinL [10] (ls.map cl))) []))) r = some (.ins CR dr (rdF d ow .non)) := by
        rw [upd_ne rx]
        exact e4 _ _ hrz
      have hd4 := (hdz.ex e4).put (u := .ins CL dx (putF "text" (sv (TL.joinL [10] (ls.map cl))) [])) hx4 (show 0 < 4 by decide)
      have o4 : Hc.Ext (fun b => b = x) H (upd H4 x (.ins CL dx (putF "text" (sv (TL.joinL [10] (ls.map cl))) []))) := stepE (ez.trans e4) rfl
      have hx4' : (upd H4 x (.ins CL dx (putF "text" (sv (TL.joinL [10] (ls.map cl))) []))) x = some (.ins CL dx [("text", sv (TL.joinL [10] (ls.map cl)))]) := upd_same
      generalize upd H4 x (.ins CL dx (putF "text" (sv (TL.joinL [10] (ls.map cl))) [])) = K4 at hr4 hd4 o4 hx4' ⊢
      have hlk : (rdF d ow .non).lookup ("classes" : Str) = some (.ref d) := rfl
      refine q_fldU (eu_tupOf (el_listD (ev_fld (ev_var rfl) hr4 rc.cl rc.nC hlk) hd4.1)) (fun _ _ => ev_var rfl) hx4' c.cl c.nN (show 1 < 1000 by decide) fun tp H5 _ e5 _ => ?_
      have hr5 : (upd H5 x (.ins CL dx (putF "names" (.ref tp) [("text", sv (TL.joinL [10] (ls.map cl)))]))) r = some (.ins CR dr (rdF d ow .non)) := by
        rw [upd_ne rx]
        exact e5 _ _ hr4
      have hd5 := (hd4.ex e5).put (u := .ins CL dx (putF "names" (.ref tp) [("text", sv (TL.joinL [10] (ls.map cl)))])) (e5 _ _ hx4') (show 1 < 4 by decide)
      have o5 : Hc.Ext (fun b => b = x) H (upd H5 x (.ins CL dx (putF "names" (.ref tp) [("text", sv (TL.joinL [10] (ls.map cl)))]))) := o4.trans (stepE e5 rfl)
      have hx5' : (upd H5 x (.ins CL dx (putF "names" (.ref tp) [("text", sv (TL.joinL [10] (ls.map cl)))]))) x = some (.ins CL dx [("text", sv (TL.joinL [10] (ls.map cl))), ("names", .ref tp)]) := upd_same
      generalize upd H5 x (.ins CL dx (putF "names" (.ref tp) [("text", sv (TL.joinL [10] (ls.map cl)))])) = K5 at hr5 hd5 o5 hx5' ⊢
      refine s_fldV (ev_fld (ev_var rfl) hr5 rc.cl rc.nC hlk) (ev_var rfl) hx5' c.cl c.nC (show 2 < 1000 by decide) fun H6 e6 => ?_
      exact q _ (o5.trans (stepE e6 rfl)) ⟨dx, _, tp, d, es, upd_same, (hd5.ex e6).put (e6 _ _ hx5') (show 2 < 4 by decide), hes2⟩
/-- a text with a wrong class line -/
theorem ok_libB {k : Nat} (F : Fun K "__init__" "Library.__init__" sLibInit f fd) (T : LibP mg) (N : XcC K mg "BadLine" B "at" fB) (FB : FnOk P w K mg base CX0 1 fB fdB ["self", "at"] (spXI B "at")) (bB : Binds K fdB ["self", "at"] []) (rc : RdC K CR) (rL : Rd P w K mg base "lines_of" 1 ["text"] spLines) (rR : Rm P w K mg base "Reader" CR 1 ["self"] (spRd CR)) (rT : Rt P w K mg base CR "take" k ["self", "line"] (spTake CR CT)) (hk : 2 ≤ k) :
    FnOk P w K mg base (L2.CX P w) (k + 1) f fd ["self", "text"] (spLibB B) := by
  refine F.okX scLibI (fun vs H Q E h => ?_) (fun cdv A outer s H vs Q E hr h => ?_)
  · obtain ⟨x, ls, n, bs, tl, rfl, _⟩ := h
    rfl
  · obtain ⟨x, ls, n, bs, tl, rfl, F, Ft, hmn, ⟨l1, l2, l3, l4⟩, q⟩ := h
    refine ⟨_, pss_cons (ps_if (pt_not (pt_val (pe_callB call_isi (by rfl) T.isi boot_isinstance (pa_cons (pv 1) (pa_cons (pe_bltn (v := .ty "str") (by rfl) T.str boot_strT rfl) pa_nil))))) (pss_one ps_never) pss_nil)
      (pss_cons (ps_set (i := 2) scLibI.nd rfl (.inl rfl) (pe_rm0 rR hr hk (by rfl)))
      (pss_cons (ps_for (passes_of rfl) rfl (pi_enum (by rfl) T.enu (pa_cons (pe_rd rL hr (Nat.le_trans (by decide) hk) (by rfl) (pa_cons (pv 1) pa_nil)) pa_nil)) (pg_tup (by rfl) (pgs_cons (pg_name (i := 3) scLibI.nd rfl (.inl rfl)) (pgs_cons (pg_name (i := 4) scLibI.nd rfl (.inl rfl)) pgs_nil)))
        (pss_one (ps_if (pt_not (pt_val (pe_rt (pv 2) rc.cl rT hr (Nat.le_refl _) (pa_cons (pv 4) pa_nil)))) (pss_one (ps_raise rfl (takes_of rfl rfl rfl rfl) (pmk_oex N.ox N.iC N.tI FB (hr.mono hk) bB .nil pass0 (by rfl) N.gB (pa_cons (pv 3) pa_nil)))) pss_nil)))
      (pss_cons ps_never (pss_cons ps_never (pss_one ps_never))))), ?_⟩
    refine q_when (b := false) (et_is (et_not (et_B (ev_isi (ev_var rfl) ev_c (.ty "str") (fun _ _ => .base (.str _)) (kit_ty rfl)))) rfl) (fun z => nomatch z) fun _ H1 e1 => ?_
    refine q_asgX ?_
    intro r dr nr ndr ne
    refine ⟨r, dr, rfl, upd_same, fun H2 d nd ex hr2 hd2 => ⟨rfl, ?_⟩⟩
    have e2 : Ex H1 H2 := reader_new nr ndr ne ex
    have d_r : d ≠ r := fun z => by
      rw [z, upd_same] at nd
      cases nd
    have d_dr : d ≠ dr := fun z => by
      rw [z, upd_ne ne, upd_same] at nd
      cases nd
    rw [upd_ne d_r, upd_ne d_dr] at nd
    have nrH := fresh_back e1 nr
    have ndH := fresh_back e1 nd
    have e12 := e1.trans e2
    generalize hall : ls.map cl ++ cline n bs :: tl = all at l1 l2 l3 l4 ⊢
    show tSeq _ _ _ [some (.ref x), some (sv (TL.joinL [10] all)), some (.ref r), none, none] H2
    refine ⟨_, rfl, all, rfl, l1, l2, l3, l4, fun pa H3 npa e3 hpa => ⟨pa, _, rfl, sq_of hpa, ?_⟩⟩
    have pr : pa ≠ r := fun z => by
      rw [z, hr2] at npa
      cases npa
    have pd : pa ≠ d := fun z => by
      rw [z, hd2] at npa
      cases npa
    have hget : ∀ i, i < ls.length → all[i]? = (ls.map cl)[i]? := fun i hi => by
      rw [← hall, List.getElem?_append_left (by rw [List.length_map]; exact hi)]
    have hbad : all[ls.length]? = some (cline n bs) := by
      rw [← hall, List.getElem?_append_right (by rw [List.length_map]; exact Nat.le_refl _), List.length_map, Nat.sub_self]
      rfl
    refine for_it (walk_enum (xs := all.map sv)) (fun i σ' H' => i ≤ ls.length ∧ LW H CR CT x r d dr (TL.joinL [10] all) ls i σ' H' ∧ H' pa = some (.lst (all.map sv))) ⟨Nat.zero_le _, ⟨[], .non, none, none, rfl, e12.trans e3, nrH, ndH, e3 _ _ hr2, ⟨e3 _ _ hd2, fun e he => (by cases he)⟩, rfl⟩, hpa⟩ (fun i σ' H' _ z => sq_of z.2.2) (fun i v σ' H' H'' hi z y => ?_) (fun σ' H' z => ?_)
    · obtain ⟨hle, ⟨es, ow, v3, v4, rfl, ez, _, _, hrz, hdz, hes⟩, hpz⟩ := z
      obtain ⟨Ta, y1, y2, rfl, nT, rfl, hy1, hy2⟩ := y
      have eT : Ex H' (upd H' Ta (.tup [y1, y2])) := Ex.new nT
      have hy2' : (all.map sv)[i]? = some y2 := hy2
      rw [List.getElem?_map] at hy2'
      cases hy1
      by_cases hlt : i < ls.length
      · rw [hget i hlt, List.getElem?_map] at hy2'
        have hp : ls[i]? = some ls[i] := List.getElem?_eq_getElem hlt
        generalize ls[i] = p at hp
        rw [hp] at hy2'
        have hy3 := Option.some.inj hy2'
        subst hy3
        obtain ⟨m, hm, hab⟩ := fits_next F hp
        refine ⟨Ta, _, rfl, st_of upd_same, rfl, _, _, rfl, _, _, rfl, rfl, ?_⟩
        refine if_notM (i := 2) (j := 4) (v := sv (cline p.1 p.2)) rfl (eT _ _ hrz) rfl rfl ?_
        refine take_fit (es := es) (n := p.1) (bs := p.2) (by rw [hes]; exact (F i p hp).1) (eT _ _ hrz) (hdz.ex eT) ?_
        rw [hes, hm]
        refine fun H5 e he ext hr5 hd5 => ⟨true, rfl, iteF ?_⟩
        have e5 : Ex H H5 := fun b o hb => by
          have h1 := eT _ _ (ez _ _ hb)
          refine ext b o h1 fun hz => ?_
          rcases hz with hz | hz
          · rw [hz, nrH] at hb
            cases hb
          · rw [hz, ndH] at hb
            cases hb
        refine ⟨hlt, ⟨es ++ [e], .ref e.cls, _, _, rfl, e5, nrH, ndH, hr5, hd5, ?_⟩, ext _ _ (eT _ _ hpz) fun hz => hz.elim pr pd⟩
        rw [hab, List.map_append, hes, List.map_singleton, he]
      · have hie : i = ls.length := by omega
        subst hie
        rw [hbad] at hy2'
        have hy3 := Option.some.inj hy2'
        subst hy3
        rw [List.take_length] at hes
        refine ⟨Ta, _, rfl, st_of upd_same, rfl, _, _, rfl, _, _, rfl, rfl, ?_⟩
        refine if_notM (i := 2) (j := 4) (v := sv (cline n bs)) rfl (eT _ _ hrz) rfl rfl ?_
        refine take_fit (es := es) (n := n) (bs := bs) (by rw [hes]; exact Ft) (eT _ _ hrz) (hdz.ex eT) ?_
        rw [hes, hmn]
        refine fun H5 e5 => ⟨false, rfl, iteT ?_⟩
        refine ⟨_, rfl, (show 1 ≤ 1000 by decide), fun a na => ⟨a, _, rfl, upd_same, fun dx nd ne => ⟨rfl, dx, [("at", .int (ls.length : Int))], upd_same, (upd_ne ne).trans upd_same, (upd_ne ne).symm.trans nd, ?_⟩⟩⟩
        exact raised_end (q.mono ((ez.trans eT).trans e5)) na nd ne
    · have hz := z.1
      rw [List.length_map, ← hall, List.length_append, List.length_cons, List.length_map] at hz
      omega
end
end Hy
/-! module HzLib -/
set_option maxHeartbeats 4000000
/-! Library(text) for any lines that some machine tells. -/
namespace Hz
open PySem PySem.Spec PyProof.Rows L2 Evl Hc Hs Hy
/-- lists of texts stay -/
def Kp (H H' : Hp) : Prop := ∀ (b : Addr) (v : Nm) (xs : List V), H b = some (.lst (sv v :: xs)) → H' b = some (.lst (sv v :: xs))
/-- what a reader's lines do, line by line; stop: the first wrong one -/
structure Mach (CR : Addr) (sp : Sp) (H0 : Hp) (Ls : List (List Nat)) (stop : Option Nat) where
  J : Addr → Addr → Addr → Nat → Hp → Prop
  start : ∀ r dr d H1, H0 r = none → H0 d = none → Ex H0 H1 → H1 r = some (.ins CR dr (rdF d .non .non)) → H1 d = some (.dK []) → J r dr d 0 H1
  ex : ∀ r dr d i H1 H2, J r dr d i H1 → Ex H1 H2 → J r dr d i H2
  at_ : ∀ r dr d i H1, J r dr d i H1 → ∃ ow me kvs, H1 r = some (.ins CR dr (rdF d ow me)) ∧ H1 d = some (.dK kvs)
  old : ∀ r dr d i H1, J r dr d i H1 → Ex H0 H1
  step : ∀ r dr d i L H1 (Q : VK), Ls[i]? = some L → (∀ k, stop = some k → i < k) → J r dr d i H1 → (∀ H2, J r dr d (i + 1) H2 → Kp H1 H2 → Q (.bl true) H2) → sp [.ref r, sv L] H1 Q E0
  bad : ∀ r dr d i L H1 (Q : VK), Ls[i]? = some L → stop = some i → J r dr d i H1 → (∀ H2, Ex H1 H2 → Q (.bl false) H2) → sp [.ref r, sv L] H1 Q E0
def spLib6 (CL CR : Addr) (sp : Sp) : Sp := fun vs H Q _ => ∃ (x dx : Addr) (Ls : List (List Nat)), vs = [.ref x, sv (TL.joinL [10] Ls)] ∧ H x = some (.ins CL dx []) ∧ LinesOk Ls ∧ Nonempty (Mach CR sp H Ls none) ∧ ∀ H', Hc.Ext (fun b => b = x) H H' → Q .non H'
def spLib6B (CR B : Addr) (sp : Sp) : Sp := fun vs H _ E => ∃ (x : Addr) (Ls : List (List Nat)) (k : Nat), vs = [.ref x, sv (TL.joinL [10] Ls)] ∧ LinesOk Ls ∧ k < Ls.length ∧ Nonempty (Mach CR sp H Ls (some k)) ∧ Raised B "at" (.int (k : Int)) H E
section
variable {P : Program} {w : World} {K : PySem.W.Frag} {mg : Str → Option Value} {base : Heap} {CL CR B fB f : Addr} {fd fdB : FuncData} {sp : Sp}
theorem ok_lib6 {k : Nat} (F : Fun K "__init__" "Library.__init__" sLibInit f fd) (T : LibP mg) (c : LbC K CL) (rc : RdC K CR) (rL : Rd P w K mg base "lines_of" 1 ["text"] spLines) (rR : Hy.Rm P w K mg base "Reader" CR 1 ["self"] (spRd CR)) (rT : Hy.Rt P w K mg base CR "take" k ["self", "line"] sp) (hk : 2 ≤ k) :
    FnOk P w K mg base CX0 (k + 1) f fd ["self", "text"] (spLib6 CL CR sp) := by
  refine F.ok scLibI (fun vs H Q E h => ?_) (fun cdv A outer s H vs Q E hr h => ?_)
  · obtain ⟨x, dx, Ls, rfl, _⟩ := h
    rfl
  · obtain ⟨x, dx, Ls, rfl, hx, ⟨l1, l2, l3, l4⟩, ⟨M⟩, q⟩ := h
    refine ⟨_, pss_cons (ps_if (pt_not (pt_val (pe_callB call_isi (by rfl) T.isi boot_isinstance (pa_cons (pv 1) (pa_cons (pe_bltn (v := .ty "str") (by rfl) T.str Hy.boot_strT rfl) pa_nil))))) (pss_one ps_never) pss_nil)
      (pss_cons (ps_set (i := 2) scLibI.nd rfl (.inl rfl) (Hy.pe_rm0 rR hr hk (by rfl)))
      (pss_cons (ps_for PassesOwn.never rfl (pi_enum (by rfl) T.enu (pa_cons (pe_rd rL hr (Nat.le_trans (by decide) hk) (by rfl) (pa_cons (pv 1) pa_nil)) pa_nil)) (pg_tup (by rfl) (pgs_cons (pg_name (i := 3) scLibI.nd rfl (.inl rfl)) (pgs_cons (pg_name (i := 4) scLibI.nd rfl (.inl rfl)) pgs_nil)))
        (pss_one (ps_if (pt_not (pt_val (Hy.pe_rt (pv 2) rc.cl rT hr (Nat.le_refl _) (pa_cons (pv 4) pa_nil)))) (pss_one ps_never) pss_nil)))
      (pss_cons (ps_fld (pv 0) (pv 1) (by rfl))
      (pss_cons (ps_fld (pv 0) (pe_callTy call_tuple_of (by rfl) T.tup boot_tuple (pa_cons (pe_callTy (call_list_dK rfl) (by rfl) T.lst boot_list' (pa_cons (pe_fld (pv 2) (by rfl)) pa_nil)) pa_nil)) (by rfl))
      (pss_one (ps_fld (pv 0) (pe_fld (pv 2) (by rfl)) (by rfl))))))), ?_⟩
    refine q_when (b := false) (et_is (et_not (et_B (ev_isiX (ev_var rfl) ev_c (.ty "str") (fun _ _ => .base (.str _)) (kit_ty rfl)))) rfl) (fun z => nomatch z) fun _ H1 e1 => ?_
    refine q_asgX ?_
    intro r dr nr ndr ne
    refine ⟨r, dr, rfl, upd_same, fun H2 d nd ex hr2 hd2 => ⟨rfl, ?_⟩⟩
    have e2 : Ex H1 H2 := reader_new nr ndr ne ex
    have d_r : d ≠ r := fun z => by
      rw [z, upd_same] at nd
      cases nd
    have d_dr : d ≠ dr := fun z => by
      rw [z, upd_ne ne, upd_same] at nd
      cases nd
    rw [upd_ne d_r, upd_ne d_dr] at nd
    have nrH := fresh_back e1 nr
    have ndH := fresh_back e1 nd
    have e12 := e1.trans e2
    have J0 := M.start r dr d H2 nrH ndH e12 hr2 hd2
    show tSeq _ _ _ [some (.ref x), some (sv (TL.joinL [10] Ls)), some (.ref r), none, none] H2
    refine ⟨_, rfl, Ls, rfl, l1, l2, l3, l4, fun pa H3 npa e3 hpa => ⟨pa, _, rfl, sq_of hpa, ?_⟩⟩
    obtain ⟨L0, Lr, hL0⟩ : ∃ L0 Lr, Ls = L0 :: Lr := by
      cases Ls with
      | nil => exact absurd rfl l2
      | cons a b => exact ⟨a, b, rfl⟩
    refine for_it (walk_enum (xs := Ls.map sv)) (fun i σ' H' => (∃ v3 v4, σ' = [some (.ref x), some (sv (TL.joinL [10] Ls)), some (.ref r), v3, v4]) ∧ M.J r dr d i H' ∧ H' pa = some (.lst (Ls.map sv))) ⟨⟨none, none, rfl⟩, M.ex _ _ _ _ _ _ J0 e3, hpa⟩ (fun i σ' H' _ z => sq_of z.2.2) (fun i v σ' H' H'' hi z y => ?_) (fun σ' H' z => ?_)
    · obtain ⟨⟨v3, v4, rfl⟩, hJ, hpz⟩ := z
      obtain ⟨Ta, y1, y2, rfl, nT, rfl, hy1, hy2⟩ := y
      have eT : Ex H' (upd H' Ta (.tup [y1, y2])) := Ex.new nT
      have hy2' : (Ls.map sv)[i]? = some y2 := hy2
      rw [List.getElem?_map] at hy2'
      obtain ⟨L, hL, rfl⟩ := Option.map_eq_some_iff.mp hy2'
      cases hy1
      have hJT := M.ex _ _ _ _ _ _ hJ eT
      obtain ⟨ow, me, kvs, hrT, hdT⟩ := M.at_ _ _ _ _ _ hJT
      refine ⟨Ta, _, rfl, st_of upd_same, rfl, _, _, rfl, _, _, rfl, rfl, ?_⟩
      refine if_notM (i := 2) (j := 4) (v := sv L) rfl hrT rfl rfl ?_
      refine M.step r dr d i L _ _ hL (fun k hk => nomatch hk) hJT fun H5 hJ5 hkp => ⟨true, rfl, iteF ?_⟩
      refine ⟨⟨_, _, rfl⟩, hJ5, ?_⟩
      have h1 := eT _ _ hpz
      rw [hL0, List.map_cons] at h1 ⊢
      exact hkp _ _ _ h1
    · obtain ⟨⟨v3, v4, rfl⟩, hJ, _⟩ := z
      obtain ⟨ow, me, kvs, hrz, hdz⟩ := M.at_ _ _ _ _ _ hJ
      have ez := M.old _ _ _ _ _ hJ
      have rx : r ≠ x := fun z => by
        rw [z, hx] at nrH
        cases nrH
      have dx' : d ≠ x := fun z => by
        rw [z, hx] at ndH
        cases ndH
      refine q_fldV (ev_var rfl) (ev_var rfl) (ez _ _ hx) c.cl c.nT (show 0 < 1000 by decide) fun H4 e4 => ?_
      have hr4 : (upd H4 x (.ins CL dx (putF "text" (sv (TL.joinL [10] Ls)) []))) r = some (.ins CR dr (rdF d ow me)) := (upd_ne rx).trans (e4 _ _ hrz)
      have hd4 : (upd H4 x (.ins CL dx (putF "text" (sv (TL.joinL [10] Ls)) []))) d = some (.dK kvs) := (upd_ne dx').trans (e4 _ _ hdz)
      have o4 : Hc.Ext (fun b => b = x) H (upd H4 x (.ins CL dx (putF "text" (sv (TL.joinL [10] Ls)) []))) := stepE (ez.trans e4) rfl
      have hx4' : (upd H4 x (.ins CL dx (putF "text" (sv (TL.joinL [10] Ls)) []))) x = some (.ins CL dx [("text", sv (TL.joinL [10] Ls))]) := upd_same
      generalize upd H4 x (.ins CL dx (putF "text" (sv (TL.joinL [10] Ls)) [])) = K4 at hr4 hd4 o4 hx4' ⊢
      have hlk : (rdF d ow me).lookup ("classes" : Str) = some (.ref d) := rfl
      refine q_fldU (eu_tupOf (el_listD (Hy.ev_fld (ev_var rfl) hr4 rc.cl rc.nC hlk) hd4)) (fun _ _ => ev_var rfl) hx4' c.cl c.nN (show 1 < 1000 by decide) fun tp H5 _ e5 _ => ?_
      have hr5 : (upd H5 x (.ins CL dx (putF "names" (.ref tp) [("text", sv (TL.joinL [10] Ls))]))) r = some (.ins CR dr (rdF d ow me)) := (upd_ne rx).trans (e5 _ _ hr4)
      have o5 : Hc.Ext (fun b => b = x) H (upd H5 x (.ins CL dx (putF "names" (.ref tp) [("text", sv (TL.joinL [10] Ls))]))) := o4.trans (stepE e5 rfl)
      have hx5' : (upd H5 x (.ins CL dx (putF "names" (.ref tp) [("text", sv (TL.joinL [10] Ls))]))) x = some (.ins CL dx [("text", sv (TL.joinL [10] Ls)), ("names", .ref tp)]) := upd_same
      generalize upd H5 x (.ins CL dx (putF "names" (.ref tp) [("text", sv (TL.joinL [10] Ls))])) = K5 at hr5 o5 hx5' ⊢
      refine s_fldV (Hy.ev_fld (ev_var rfl) hr5 rc.cl rc.nC hlk) (ev_var rfl) hx5' c.cl c.nC (show 2 < 1000 by decide) fun H6 e6 => ?_
      exact q _ (o5.trans (stepE e6 rfl))
theorem ok_lib6B {k : Nat} (F : Fun K "__init__" "Library.__init__" sLibInit f fd) (T : LibP mg) (N : XcC K mg "BadLine" B "at" fB) (FB : FnOk P w K mg base CX0 1 fB fdB ["self", "at"] (spXI B "at")) (bB : Binds K fdB ["self", "at"] []) (rc : RdC K CR) (rL : Rd P w K mg base "lines_of" 1 ["text"] spLines) (rR : Hy.Rm P w K mg base "Reader" CR 1 ["self"] (spRd CR)) (rT : Hy.Rt P w K mg base CR "take" k ["self", "line"] sp) (hk : 2 ≤ k) :
    FnOk P w K mg base (L2.CX P w) (k + 1) f fd ["self", "text"] (spLib6B CR B sp) := by
  refine F.okX scLibI (fun vs H Q E h => ?_) (fun cdv A outer s H vs Q E hr h => ?_)
  · obtain ⟨x, Ls, kk, rfl, _⟩ := h
    rfl
  · obtain ⟨x, Ls, kk, rfl, ⟨l1, l2, l3, l4⟩, hkl, ⟨M⟩, q⟩ := h
    refine ⟨_, pss_cons (ps_if (pt_not (pt_val (pe_callB call_isi (by rfl) T.isi boot_isinstance (pa_cons (pv 1) (pa_cons (pe_bltn (v := .ty "str") (by rfl) T.str Hy.boot_strT rfl) pa_nil))))) (pss_one ps_never) pss_nil)
      (pss_cons (ps_set (i := 2) scLibI.nd rfl (.inl rfl) (Hy.pe_rm0 rR hr hk (by rfl)))
      (pss_cons (ps_for (passes_of rfl) rfl (pi_enum (by rfl) T.enu (pa_cons (pe_rd rL hr (Nat.le_trans (by decide) hk) (by rfl) (pa_cons (pv 1) pa_nil)) pa_nil)) (pg_tup (by rfl) (pgs_cons (pg_name (i := 3) scLibI.nd rfl (.inl rfl)) (pgs_cons (pg_name (i := 4) scLibI.nd rfl (.inl rfl)) pgs_nil)))
        (pss_one (ps_if (pt_not (pt_val (Hy.pe_rt (pv 2) rc.cl rT hr (Nat.le_refl _) (pa_cons (pv 4) pa_nil)))) (pss_one (ps_raise rfl (takes_of rfl rfl rfl rfl) (pmk_oex N.ox N.iC N.tI FB (hr.mono hk) bB .nil pass0 (by rfl) N.gB (pa_cons (pv 3) pa_nil)))) pss_nil)))
      (pss_cons ps_never (pss_cons ps_never (pss_one ps_never))))), ?_⟩
    refine q_when (b := false) (et_is (et_not (et_B (ev_isiX (ev_var rfl) ev_c (.ty "str") (fun _ _ => .base (.str _)) (kit_ty rfl)))) rfl) (fun z => nomatch z) fun _ H1 e1 => ?_
    refine q_asgX ?_
    intro r dr nr ndr ne
    refine ⟨r, dr, rfl, upd_same, fun H2 d nd ex hr2 hd2 => ⟨rfl, ?_⟩⟩
    have e2 : Ex H1 H2 := reader_new nr ndr ne ex
    have d_r : d ≠ r := fun z => by
      rw [z, upd_same] at nd
      cases nd
    have d_dr : d ≠ dr := fun z => by
      rw [z, upd_ne ne, upd_same] at nd
      cases nd
    rw [upd_ne d_r, upd_ne d_dr] at nd
    have nrH := fresh_back e1 nr
    have ndH := fresh_back e1 nd
    have e12 := e1.trans e2
    have J0 := M.start r dr d H2 nrH ndH e12 hr2 hd2
    show tSeq _ _ _ [some (.ref x), some (sv (TL.joinL [10] Ls)), some (.ref r), none, none] H2
    refine ⟨_, rfl, Ls, rfl, l1, l2, l3, l4, fun pa H3 npa e3 hpa => ⟨pa, _, rfl, sq_of hpa, ?_⟩⟩
    obtain ⟨L0, Lr, hL0⟩ : ∃ L0 Lr, Ls = L0 :: Lr := by
      cases Ls with
      | nil => exact absurd rfl l2
      | cons a b => exact ⟨a, b, rfl⟩
    refine for_it (walk_enum (xs := Ls.map sv)) (fun i σ' H' => i ≤ kk ∧ (∃ v3 v4, σ' = [some (.ref x), some (sv (TL.joinL [10] Ls)), some (.ref r), v3, v4]) ∧ M.J r dr d i H' ∧ H' pa = some (.lst (Ls.map sv))) ⟨Nat.zero_le _, ⟨none, none, rfl⟩, M.ex _ _ _ _ _ _ J0 e3, hpa⟩ (fun i σ' H' _ z => sq_of z.2.2.2) (fun i v σ' H' H'' hi z y => ?_) (fun σ' H' z => ?_)
    · obtain ⟨hle, ⟨v3, v4, rfl⟩, hJ, hpz⟩ := z
      obtain ⟨Ta, y1, y2, rfl, nT, rfl, hy1, hy2⟩ := y
      have eT : Ex H' (upd H' Ta (.tup [y1, y2])) := Ex.new nT
      have hy2' : (Ls.map sv)[i]? = some y2 := hy2
      rw [List.getElem?_map] at hy2'
      obtain ⟨L, hL, rfl⟩ := Option.map_eq_some_iff.mp hy2'
      cases hy1
      have hJT := M.ex _ _ _ _ _ _ hJ eT
      obtain ⟨ow, me, kvs, hrT, hdT⟩ := M.at_ _ _ _ _ _ hJT
      refine ⟨Ta, _, rfl, st_of upd_same, rfl, _, _, rfl, _, _, rfl, rfl, ?_⟩
      refine if_notM (i := 2) (j := 4) (v := sv L) rfl hrT rfl rfl ?_
      by_cases hlt : i < kk
      · refine M.step r dr d i L _ _ hL (fun k hk => by cases hk; exact hlt) hJT fun H5 hJ5 hkp => ⟨true, rfl, iteF ?_⟩
        refine ⟨hlt, ⟨_, _, rfl⟩, hJ5, ?_⟩
        have h1 := eT _ _ hpz
        rw [hL0, List.map_cons] at h1 ⊢
        exact hkp _ _ _ h1
      · obtain rfl : i = kk := by omega
        have ez := M.old _ _ _ _ _ hJT
        refine M.bad r dr d i L _ _ hL rfl hJT fun H5 e5 => ⟨false, rfl, iteT ?_⟩
        refine ⟨_, rfl, (show 1 ≤ 1000 by decide), fun a na => ⟨a, _, rfl, upd_same, fun dx nd ne => ⟨rfl, dx, [("at", .int (i : Int))], upd_same, (upd_ne ne).trans upd_same, (upd_ne ne).symm.trans nd, ?_⟩⟩⟩
        exact raised_end (q.mono (ez.trans e5)) na nd ne
    · have hz := z.1
      rw [List.length_map] at hz
      omega
end
end Hz
/-! module HzTakeC -/
set_option maxHeartbeats 4000000
/-! ClassText made and a class line taken, with the new class's empty fields and definitions told. -/
namespace Hz
open PySem PySem.Spec PyProof.Rows L2 Evl Hc Hs Hy
def spCt2 (C : Addr) : Sp := fun vs H Q _ => ∃ (x dx : Addr) (n : Nm) (l : Addr), vs = [.ref x, sv n, .ref l] ∧ H x = some (.ins C dx []) ∧ ∀ H' fd dd, H fd = none → H dd = none → fd ≠ dd → Hc.Ext (fun b => b = x) H H' → H' x = some (.ins C dx (ctF n l fd dd)) → H' fd = some (.dK []) → H' dd = some (.dK []) → Q .non H'
section
variable {P : Program} {w : World} {K : PySem.W.Frag} {mg : Str → Option Value} {base : Heap} {C f : Addr} {fd : FuncData} {k : Nat}
theorem ok_ct2 (F : Fun K "__init__" "ClassText.__init__" sCtInit f fd) (c : CtC K C) : FnOk P w K mg base CX0 (k + 1) f fd ["self", "name", "lineage"] (spCt2 C) := by
  refine F.ok scCt (fun vs H Q E h => ?_) (fun cdv A outer s H vs Q E hr h => ?_)
  · obtain ⟨x, dx, n, l, rfl, _⟩ := h
    rfl
  · obtain ⟨x, dx, n, l, rfl, hx, q⟩ := h
    refine ⟨_, pss_cons (ps_fld (pv 0) (pv 1) (by rfl)) (pss_cons (ps_fld (pv 0) (pv 2) (by rfl)) (pss_cons (ps_fld (pv 0) pe_dnewK (by rfl)) (pss_one (ps_fld (pv 0) pe_dnewK (by rfl))))), ?_⟩
    refine q_fldV (ev_var rfl) (ev_var rfl) hx c.cl c.nN (show 0 < 1000 by decide) fun H1 e1 => ?_
    refine q_fldV (ev_var rfl) (ev_var rfl) upd_same c.cl c.nL (show 1 < 1000 by decide) fun H2 e2 => ?_
    have x2 : Hc.Ext (fun b => b = x) H (upd H2 x (.ins C dx (putF "lineage" (.ref l) (putF "name" (sv n) [])))) := (stepE (S := fun b => b = x) e1 rfl).trans (stepE e2 rfl)
    refine q_fldD (fun _ _ => ev_var rfl) upd_same c.cl c.nF (show 2 < 1000 by decide) fun p H3 np e3 hp => ?_
    have px : p ≠ x := fun z => by
      rw [z, upd_same] at np
      cases np
    have npH := x2.free np px
    have x3 := x2.trans (stepE (S := fun b => b = x) (p := x) (o := .ins C dx (putF "fields" (.ref p) (putF "lineage" (.ref l) (putF "name" (sv n) [])))) e3 rfl)
    have hp3 : (upd H3 x (.ins C dx (putF "fields" (.ref p) (putF "lineage" (.ref l) (putF "name" (sv n) []))))) p = some (.dK []) := (upd_ne px).trans hp
    refine s_fldD (fun _ _ => ev_var rfl) upd_same c.cl c.nD (show 3 < 1000 by decide) fun p' H4 np' e4 hp' => ?_
    have px' : p' ≠ x := fun z => by
      rw [z, upd_same] at np'
      cases np'
    have pp : p ≠ p' := fun z => by
      rw [← z, hp3] at np'
      cases np'
    exact q _ p p' npH (x3.free np' px') pp (x3.trans (stepE (S := fun b => b = x) e4 rfl)) upd_same ((upd_ne px).trans (e4 _ _ hp3)) ((upd_ne px').trans hp')
end
def spTake2 (CR CT : Addr) : Sp := fun vs H Q _ => ∃ (r d dr : Addr) (n : Nm) (bs : List Nm) (es : List Ent) (ow me : V), vs = [.ref r, sv (cline n bs)] ∧ GoodNm n ∧ (∀ b ∈ bs, GoodNm b) ∧ bs.Nodup ∧ bs.length ≤ 3 ∧ n ∉ es.map (·.nm) ∧ (∀ b ∈ bs, b ∈ es.map (·.nm)) ∧ es.length < 8 ∧
  (∀ e ∈ es, e.ord.length ≤ 8) ∧ H r = some (.ins CR dr (rdF d ow me)) ∧ DbOk H CT d es ∧
  (match merge (rowsB es bs) with
    | none => ∀ H', Ex H H' → Q (.bl false) H'
    | some m => ∀ H' (e : Ent) dx fd dd, e.nm = n → e.ord = n :: m → Hc.Ext (fun b => b = r ∨ b = d) H H' → H' r = some (.ins CR dr (rdF d (.ref e.cls) .non)) → DbOk H' CT d (es ++ [e]) → H' e.cls = some (.ins CT dx (ctF n e.lin fd dd)) → H' fd = some (.dK []) → H' dd = some (.dK []) → fd ≠ dd → (fd ≠ r ∧ fd ≠ d) → (dd ≠ r ∧ dd ≠ d) → H fd = none → H dd = none → Q (.bl true) H')
section
variable {P : Program} {w : World} {K : PySem.W.Frag} {mg : Str → Option Value} {base : Heap} {CR CT : Addr}
theorem ok_takeC2 {f : Addr} {fd : FuncData} {k : Nat} (F : Fun K "_take_class" "Reader._take_class" sTakeC f fd) (T : LibP mg) (c : RdC K CR) (ct : CtC K CT) (rR : Hs.Rd P w K mg base "read_class_line" k ["line"] spRead) (rM : Hs.Rd P w K mg base "merged" k ["rows"] (spMerged K)) (rC : Hy.Rm P w K mg base "ClassText" CT 1 ["self", "name", "lineage"] (spCt2 CT)) (hk : 2 ≤ k) :
    FnOk P w K mg base CX0 (k + 1) f fd ["self", "line"] (spTake2 CR CT) := by
  refine F.ok scTakeC (fun vs H Q E h => ?_) (fun cdv A outer s H vs Q E hr h => ?_)
  · obtain ⟨r, d, dr, n, bs, es, ow, me, rfl, _⟩ := h
    rfl
  · obtain ⟨r, d, dr, n, bs, es, ow, me, rfl, gn, gb, nd, hb3, hn, hbs, h8, ho8, hrr, hdb, q⟩ := h
    obtain ⟨tk8, hC⟩ := T.mC
    have hu := hu_of hr
    refine ⟨_, pss_cons (ps_set (i := 2) scTakeC.nd rfl (.inl rfl) (pe_rd rR hr (Nat.le_refl _) (by rfl) (pa_cons (pv 1) pa_nil)))
      (pss_cons (ps_if (PW.pt (pw_or (pt_cmpR op_isN (pv 2) pe_non (nomark _)) (pw_or (pt_cmp (pc_din hu (pe_ix ix_tup (pv 2) pe_int (fun _ _ => rfl)) (pe_fld (pv 0) (by rfl)))) (pw_or1 (pt_cmpR op_eq (pe_callB call_lenD (by rfl) T.len PySem.boot_len (pa_cons (pe_fld (pv 0) (by rfl)) pa_nil)) (pe_glob (v := .int 8) (by rfl) hC ⟨_, rfl⟩) (nomark _)))))) (pss_one (ps_ret pe_bl)) pss_nil)
      (pss_cons (ps_asg (pv 2) (pg_tup (by rfl) (pgs_cons (pg_name (i := 3) scTakeC.nd rfl (.inl rfl)) (pgs_cons (pg_name (i := 4) scTakeC.nd rfl (.inr rfl)) pgs_nil))))
      (pss_cons (ps_if (pt_not (pt_val (pe_callB (cr_all rfl) (by rfl) T.all boot_all (pa_cons (pe_lc (own := [("base", 6)]) (g := gName 6) (tt := tYes) rfl scTakeC.nd (pi_list (pv 4)) (blkOk_by (N := nTakeC) (sc := defScope sTakeC) (by decide +kernel)) (fun _ _ _ _ _ => pg_name (i := 6) scTakeC.nd rfl (.inl rfl)) (fun _ _ _ _ _ => pts_nil)
          (fun _ _ _ _ _ => pe_and (pe_cmp (pc_din hu (pv 6) (show PE _ _ (tFld K (tVar 0) "classes") from pe_fld (pv 0) (by rfl))) rfl) (pe_one (pe_cmpR op_eq (show PE _ _ (tBM K "list" (rCntF K) (tVar 4) (tCons (tVar 6) tNil)) from pe_bm PySem.F.plainAttrs_list PySem.F.slot_list_count PySem.F.type_list_count mt_countF (pv 4) (pa_cons (pv 6) pa_nil)) pe_int (nomark _))))) pa_nil)))) (pss_one (ps_ret pe_bl)) pss_nil)
      (pss_cons (ps_set (i := 5) scTakeC.nd rfl (.inl rfl) (pe_rd rM hr (Nat.le_refl _) (by rfl) (pa_cons (pe_op op_cat (pe_lc (own := [("base", 6)]) (g := gName 6) (tt := tYes) rfl scTakeC.nd (pi_list (pv 4)) (blkOk_by (N := nTakeC) (sc := defScope sTakeC) (by decide +kernel)) (fun _ _ _ _ _ => pg_name (i := 6) scTakeC.nd rfl (.inl rfl)) (fun _ _ _ _ _ => pts_nil)
          (fun _ _ _ _ _ => show PE _ _ (tFld K (tDGet (tFld K (tVar 0) "classes") (tVar 6)) "lineage") from pe_fld (pe_dget hu (pe_fld (pv 0) (by rfl)) (pv 6) (fun _ _ => rfl)) (by rfl))) (pe_lst (pa_cons (pv 4) pa_nil))) pa_nil)))
      (pss_cons (ps_if (pt_cmpR op_isN (pv 5) pe_non (nomark _)) (pss_one (ps_ret pe_bl)) pss_nil)
      (pss_cons (ps_fld (pv 0) (Hy.pe_rm rC hr hk (by rfl) (pa_cons (pv 3) (pa_cons (pe_op op_cat (pe_lst (pa_cons (pv 3) pa_nil)) (pv 5)) pa_nil))) (by rfl))
      (pss_cons (ps_fld (pv 0) pe_non (by rfl))
      (pss_cons (ps_dput hu (pe_fld (pv 0) (by rfl)) (pv 3) (pe_fld (pv 0) (by rfl)) (by rfl))
      (pss_one (ps_ret pe_bl)))))))))), ?_⟩
    -- head
    refine q_asgX ?_
    refine ⟨_, rfl, n, bs, rfl, gn, gb, hb3, fun t l H1 nt nl e1 ht hl => ?_⟩
    have hlk : (rdF d ow me).lookup ("classes" : Str) = some (.ref d) := rfl
    -- the test
    refine q_when (b := false) (et_is (et_or (et_test (ev_nonR (ev_var rfl))) fun _ => et_or (et_B (ev_din (n := n) (kvs := Hy.kvsOf es) (ev_op (ev_var rfl) ev_c (rv_ixT (st_of ht) (atI_nat (j := 0) rfl))) (Hy.ev_fld (ev_var rfl) (e1 _ _ hrr) c.cl c.nC hlk) (e1 _ _ hdb.1))) fun _ => et_test (ev_eqI (ev_lenD (kvs := Hy.kvsOf es) (Hy.ev_fld (ev_var rfl) (e1 _ _ hrr) c.cl c.nC hlk) (e1 _ _ hdb.1)) ev_c)) (by
      rw [val_kvs, ent_none hn, decide_eq_false (by unfold Hy.kvsOf; rw [List.length_map]; omega)]
      rfl)) (fun z => nomatch z) fun _ H2 f2 => ?_
    refine q_asgG ?_
    refine ⟨_, rfl, t, _, rfl, st_of (f2 _ _ ht), rfl, _, _, rfl, _, _, rfl, rfl, ?_⟩
    show tSeq _ _ _ [some (.ref r), some (sv (cline n bs)), some (.ref t), some (sv n), some (.ref l), none, none] H2
    have e2 := e1.trans f2
    have hl2 := f2 _ _ hl
    -- the bases
    refine q_when (b := false) (et_is (et_not (et_B (ev_all (bs := List.replicate bs.length true) ?_))) (by rw [all_true]; rfl)) (fun z => nomatch z) fun _ H3 f3 => ?_
    · have z := el_map (K := K) (H := H2) (σ := [some (.ref r), some (sv (cline n bs)), some (.ref t), some (sv n), some (.ref l), none, none]) (a := l) (tl := tVar 4) (te := tAndV (tDIn (tVar 6) (tFld K (tVar 0) "classes")) (tOp rEq (tBM K "list" (rCntF K) (tVar 4) (tCons (tVar 6) tNil)) (tC (.int 1)))) (t := tYes) (j := 6) (vs := [6]) bs sv (fun _ => true) (fun _ => V.bl true) (ev_var rfl) (sq_of hl2) (Nat.le_trans hb3 (by decide)) wipe1 (fun _ _ _ _ => et_yes) (fun b H4 e4 hb _ => by
        obtain ⟨eb, he1, he2, he3⟩ := ent_some (hbs b hb)
        refine Evl.ev_is (ev_andV (a := true) (b := true) (Evl.ev_is (ev_din (n := b) (kvs := Hy.kvsOf es) (ev_var rfl) (Hy.ev_fld (ev_var rfl) ((e2.trans e4) _ _ hrr) c.cl c.nC hlk) ((e2.trans e4) _ _ hdb.1)) (by rw [val_kvs, he1]; rfl)) fun _ => Evl.ev_is (ev_eqI (b := 1) (ev_cnt (ev_var rfl) (ev_var rfl) (sq_of (e4 _ _ hl2)) rfl (flat_N bs)) ev_c) (by rw [countP_one nd hb]; rfl)) rfl)
      rw [List.filter_eq_self.mpr (fun _ _ => rfl)] at z
      rw [List.map_replicate, ← List.map_const']
      exact z
    -- merged
    refine q_asgX ?_
    have e3 := e2.trans f3
    have hl3 := f3 _ _ hl2
    have hlin : ∀ b ∈ bs, H3 (linOf es b) = some (.lst ((ordOf es b).map sv)) := fun b hb => by
      obtain ⟨eb, he1, he2, he3⟩ := ent_some (hbs b hb)
      have := e3 _ _ (hdb.2 eb he2).2
      unfold linOf ordOf
      rw [he1]
      exact this
    let ns : List Rw := bs.map (fun b => (linOf es b, ordOf es b)) ++ [(l, bs)]
    have hns2 : ns.map (·.2) = rowsB es bs := by
      show (bs.map _ ++ [_]).map _ = _
      rw [List.map_append, List.map_map]
      rfl
    have zl : EvL (tOp rCat (tLc (iList K (tVar 4)) (gName 6) tYes (tFld K (tDGet (tFld K (tVar 0) "classes") (tVar 6)) "lineage") [6]) (tLst (tCons (tVar 4) tNil))) [some (.ref r), some (sv (cline n bs)), some (.ref t), some (sv n), some (.ref l), none, none] H3 (ns.map rf) := by
      have z := el_map (K := K) (H := H3) (σ := [some (.ref r), some (sv (cline n bs)), some (.ref t), some (sv n), some (.ref l), none, none]) (a := l) (tl := tVar 4) (te := tFld K (tDGet (tFld K (tVar 0) "classes") (tVar 6)) "lineage") (t := tYes) (j := 6) (vs := [6]) bs sv (fun _ => true) (fun b => V.ref (linOf es b)) (ev_var rfl) (sq_of hl3) (Nat.le_trans hb3 (by decide)) wipe1 (fun _ _ _ _ => et_yes) (fun b H4 e4 hb _ => by
        obtain ⟨eb, he1, he2, he3⟩ := ent_some (hbs b hb)
        obtain ⟨⟨dx, fd, dd, hcl⟩, _⟩ := hdb.2 eb he2
        have hlo : linOf es b = eb.lin := by
          unfold linOf
          rw [he1]
        rw [hlo]
        exact Hy.ev_fld (ev_dget (n := b) (kvs := Hy.kvsOf es) (Hy.ev_fld (ev_var rfl) ((e3.trans e4) _ _ hrr) c.cl c.nC hlk) (ev_var rfl) ((e3.trans e4) _ _ hdb.1) (by rw [val_kvs, he1]; rfl)) ((e3.trans e4) _ _ hcl) ct.cl ct.nL rfl)
      rw [List.filter_eq_self.mpr (fun _ _ => rfl)] at z
      have ens : ns.map rf = bs.map (fun b => V.ref (linOf es b)) ++ [V.ref l] := by
        show (bs.map _ ++ [_]).map _ = _
        rw [List.map_append, List.map_map]
        rfl
      rw [ens]
      exact Hy.el_cat z (el_lst (ea_cons (ev_var rfl) ea_nil) (show 1 ≤ 100000 by decide)) (by
        rw [List.length_map]
        show bs.length + 1 ≤ 100000
        omega)
    refine zl H3 (Ex.refl H3) _ fun pa H4 npa f4 hpa => ?_
    have e4 := e3.trans f4
    have ro : RowsOk H4 ns := fun m hm => by
      rcases List.mem_append.mp hm with hm | hm
      · obtain ⟨b, hb, rfl⟩ := List.mem_map.mp hm
        exact f4 _ _ (hlin b hb)
      · rw [List.mem_singleton] at hm
        subst hm
        exact f4 _ _ hl3
    have tot : total (ns.map (·.2)) ≤ 1000 := by
      rw [hns2]
      unfold rowsB
      rw [total_app]
      have h1 := total_le (as := bs.map (ordOf es)) (m := 8) fun a ha => by
        obtain ⟨b, _, rfl⟩ := List.mem_map.mp ha
        exact ord_len ho8 b
      rw [List.length_map] at h1
      have h2 : total [bs] = bs.length := by simp [total]
      omega
    refine ⟨pa, ns, rfl, sq_of hpa, ro, ?_, tot, ?_⟩
    · show (bs.map _ ++ [_]).length ≤ 1000
      rw [List.length_append, List.length_map]
      show bs.length + 1 ≤ 1000
      omega
    rw [hns2]
    cases hm : merge (rowsB es bs) with
    | none =>
      rw [hm] at q
      intro H5 f5
      refine q_when (b := true) (et_test (ev_isN (o := none) (ev_var rfl))) (fun _ H6 f6 => ?_) (fun z => nomatch z)
      exact s_ret ev_c fun H7 f7 => q H7 (((e4.trans f5).trans f6).trans f7)
    | some m =>
      rw [hm] at q
      intro p H5 np f5 hp
      refine q_when (b := false) (et_test (ev_nonR (ev_var rfl))) (fun z => nomatch z) fun _ H6 f6 => ?_
      have e6 := (e4.trans f5).trans f6
      have hp6 := f6 _ _ hp
      show tSeq _ _ _ [some (.ref r), some (sv (cline n bs)), some (.ref t), some (sv n), some (.ref l), some (.ref p), none] H6
      have hrr6 := e6 _ _ hrr
      have hd6 := e6 _ _ hdb.1
      have hz : ([sv n] : List V).length + (m.map sv).length ≤ 100000 := by
        have F := fine (rs := rowsB es bs) (m := m)
        have hl := merge_len hm
        have h2 : total (rowsB es bs) ≤ 1000 := by rw [← hns2]; exact tot
        rw [List.length_map]
        show 1 + m.length ≤ 100000
        omega
      refine ⟨_, rfl, ?_⟩
      refine el_catR (xs := [sv n]) (ys := m.map sv) (el_lst (ea_cons (ev_var rfl) ea_nil) (show 1 ≤ 100000 by decide)) (ev_var rfl) hp6 hz H6 (Ex.refl H6) _ fun pl H7 npl f7 hpl => ?_
      intro x dx nx ndx ne
      refine ⟨x, dx, n, pl, rfl, upd_same, fun H8 fd8 dd8 nf8 nd8 fdne ex8 hx8 hf8 hdd8 => ⟨rfl, _, rfl, ?_⟩⟩
      have e7 := e6.trans f7
      have e78 : Ex H7 H8 := fun b o hb => by
        have b1 : b ≠ x := ne_of_none hb nx
        have b2 : b ≠ dx := ne_of_none hb ndx
        exact ex8 b o (by rw [upd_ne b1, upd_ne b2]; exact hb) b1
      have e8 := e7.trans e78
      have hrr8 := e8 _ _ hrr
      have hd8 := e8 _ _ hdb.1
      have hpl8 := e78 _ _ hpl
      have xr : x ≠ r := fun z => by
        rw [z, e7 _ _ hrr] at nx
        cases nx
      have xd : x ≠ d := fun z => by
        rw [z, e7 _ _ hdb.1] at nx
        cases nx
      have plr : pl ≠ r := fun z => by
        rw [z, hrr6] at npl
        cases npl
      have pld : pl ≠ d := fun z => by
        rw [z, hd6] at npl
        cases npl
      have dr' : d ≠ r := fun z => by
        have h1 := hdb.1
        rw [z, hrr] at h1
        cases h1
      have far8 : ∀ {b : Addr}, (upd (upd H7 dx (.own x)) x (.ins CT dx [])) b = none → (b ≠ r ∧ b ≠ d) ∧ H b = none := fun {b} nb0 => by
        have nb : H7 b = none := by
          by_cases h1 : b = x
          · rw [h1, upd_same] at nb0
            cases nb0
          · by_cases h2 : b = dx
            · rw [upd_ne h1, h2, upd_same] at nb0
              cases nb0
            · rw [upd_ne h1, upd_ne h2] at nb0
              exact nb0
        refine ⟨?_, fresh_back e7 nb⟩
        constructor
        · intro z
          rw [z, e7 _ _ hrr] at nb
          cases nb
        · intro z
          rw [z, e7 _ _ hdb.1] at nb
          cases nb
      refine ⟨r, CR, dr, rdF d ow me, rfl, hrr8, c.cl, c.nO, (show 3 < 1000 by decide), ?_⟩
      refine q_fldV ev_c (ev_var rfl) upd_same c.cl c.nM (show 3 < 1000 by decide) fun H9 f9 => ?_
      have hr10 : (upd H9 r (.ins CR dr (putF "_method" V.non (putF "_owner" (V.ref x) (rdF d ow me))))) r = some (.ins CR dr (rdF d (.ref x) .non)) := upd_same
      have ext10 : Hc.Ext (fun b => b = r ∨ b = d) H8 (upd H9 r (.ins CR dr (putF "_method" V.non (putF "_owner" (V.ref x) (rdF d ow me))))) := (Ext.put (.inl rfl)).trans (stepE f9 (.inl rfl))
      have hd10 : (upd H9 r (.ins CR dr (putF "_method" V.non (putF "_owner" (V.ref x) (rdF d ow me))))) d = some (.dK (Hy.kvsOf es)) := by
        rw [upd_ne dr']
        refine f9 _ _ ?_
        rw [upd_ne dr']
        exact hd8
      generalize upd H9 r (.ins CR dr (putF "_method" V.non (putF "_owner" (V.ref x) (rdF d ow me)))) = H10 at hr10 ext10 hd10 ⊢
      refine q_dput (n := n) (kvs := Hy.kvsOf es) (v := .ref x) (Hy.ev_fld (fs := rdF d (.ref x) .non) (ev_var rfl) hr10 c.cl c.nO rfl) (Hy.ev_fld (fs := rdF d (.ref x) .non) (ev_var rfl) hr10 c.cl c.nC rfl) (ev_var rfl) hd10 (by unfold Hy.kvsOf; rw [List.length_map]; omega) fun H12 f12 => ?_
      rw [putK_new (v := V.ref x) (by rw [val_kvs, ent_none hn]; rfl)]
      refine s_ret ev_c fun H13 f13 => ?_
      have ext13 : Hc.Ext (fun b => b = r ∨ b = d) H8 H13 := ((ext10.trans (ext_ex f12)).trans (Ext.put (.inr rfl))).trans (ext_ex f13)
      refine q H13 ⟨n, x, pl, n :: m⟩ dx fd8 dd8 rfl rfl ((ext_ex e8).trans ext13) ?_ ⟨?_, fun e he => ?_⟩ (ext13 _ _ hx8 fun hb => hb.elim xr xd) (ext13 _ _ hf8 fun hb => hb.elim (far8 nf8).1.1 (far8 nf8).1.2) (ext13 _ _ hdd8 fun hb => hb.elim (far8 nd8).1.1 (far8 nd8).1.2) fdne (far8 nf8).1 (far8 nd8).1 (far8 nf8).2 (far8 nd8).2
      · refine f13 _ _ ?_
        rw [upd_ne (Ne.symm dr')]
        exact f12 _ _ hr10
      · refine f13 _ _ ?_
        rw [upd_same]
        unfold Hy.kvsOf
        rw [List.map_append]
        rfl
      · rcases List.mem_append.mp he with he | he
        · obtain ⟨⟨dx', fd', dd', h1⟩, h2⟩ := hdb.2 e he
          have far : ∀ b, b = r ∨ b = d → H b ≠ some (.lst (e.ord.map sv)) ∧ H b ≠ some (.ins CT dx' (ctF e.nm e.lin fd' dd')) := fun b hb => by
            rcases hb with hb | hb
            · rw [hb, hrr]
              refine ⟨fun z => (by cases z), fun z => ?_⟩
              injection z with z
              injection z with _ _ z
              injection z with z _
              injection z with z _
              exact absurd z (by decide)
            · rw [hb, hdb.1]
              exact ⟨fun z => (by cases z), fun z => (by cases z)⟩
          exact ⟨⟨dx', fd', dd', ext13 _ _ (e8 _ _ h1) fun hb => (far _ hb).2 h1⟩, ext13 _ _ (e8 _ _ h2) fun hb => (far _ hb).1 h2⟩
        · rw [List.mem_singleton] at he
          subst he
          exact ⟨⟨dx, fd8, dd8, ext13 _ _ hx8 fun hb => hb.elim xr xd⟩, ext13 _ _ hpl8 fun hb => hb.elim plr pld⟩
end
end Hz
/-! module HzMach -/
set_option maxHeartbeats 4000000
/-! The lines of a text with one kind of rows, as a machine: what is kept between them. -/
namespace Hz
open PySem PySem.Spec PyProof.Rows L2 Evl Hc Hs Hy
structure S6 where
  ab : Ab
  fs : Fls
  ds : List Nm
  cur : Option Nat
/-- the method that rows go to -/
def CurAt (C : Cs) (R D : Addr) (H0 : Hp) (cur : Option Nat) (me : V) (H : Hp) : Prop := match cur with
  | none => me = .non
  | some k => ∃ (m dm : Addr) (o n j : V) (t rl : Addr) (ps : Pars) (xs : List Addr), me = .ref m ∧ H m = some (.ins D dm (defF o n j t rl)) ∧ ParsAt ps t H ∧ (ps.map (·.1)).Nodup ∧ H rl = some (.lst (xs.map V.ref)) ∧ xs.length = k ∧ k ≤ 6 ∧ (∀ x ∈ xs, RowOk C R x H) ∧ H0 rl = none
/-- the class that fields and methods go to -/
def OwnAt (C : Cs) (R D CT : Addr) (H0 : Hp) (r d : Addr) (s : S6) (ow me : V) (H : Hp) : Prop := ∃ (x dx : Addr) (n : Nm) (l fd dd : Addr) (dsA : Dfs), ow = .ref x ∧ H x = some (.ins CT dx (ctF n l fd dd)) ∧ H fd = some (.dK (fsK s.fs)) ∧ H dd = some (.dK (dsK dsA)) ∧ dsA.map (·.1) = s.ds ∧ fd ≠ dd ∧ (fd ≠ r ∧ fd ≠ d) ∧ (dd ≠ r ∧ dd ≠ d) ∧ H0 fd = none ∧ H0 dd = none ∧ CurAt C R D H0 s.cur me H
def J6 (C : Cs) (R D CR CT : Addr) (H0 : Hp) (s : S6) (r dr d : Addr) (H : Hp) : Prop := Ex H0 H ∧ H0 r = none ∧ H0 d = none ∧ ∃ (es : List Ent) (ow me : V), H r = some (.ins CR dr (rdF d ow me)) ∧ DbOk H CT d es ∧ es.map prE = s.ab ∧ (∀ p ∈ s.ab, p.2 ≠ []) ∧ s.fs.length ≤ 4 ∧ s.ds.length ≤ 5 ∧ (s.ab ≠ [] → OwnAt C R D CT H0 r d s ow me H)
section
variable {C : Cs} {R D CR CT : Addr} {H0 H H' : Hp} {s : S6} {r dr d : Addr}
theorem ParsAt.ex {ps : Pars} {t : Addr} (h : ParsAt ps t H) (e : Ex H H') : ParsAt ps t H' := by
  obtain ⟨us, ob, h1, h2, h3⟩ := h
  exact ⟨us, ob, e _ _ h1, h2, h3.1, fun i p v a b => (h3.2 i p v a b).ex e⟩
theorem CurAt.ex {cur : Option Nat} {me : V} (h : CurAt C R D H0 cur me H) (e : Ex H H') : CurAt C R D H0 cur me H' := by
  cases cur with
  | none => exact h
  | some k =>
    obtain ⟨m, dm, o, n, j, t, rl, ps, xs, h1, h2, h3, h4, h5, h6, h7, h8, h9⟩ := h
    exact ⟨m, dm, o, n, j, t, rl, ps, xs, h1, e _ _ h2, h3.ex e, h4, e _ _ h5, h6, h7, fun x hx => (h8 x hx).ex e, h9⟩
theorem OwnAt.ex {ow me : V} (h : OwnAt C R D CT H0 r d s ow me H) (e : Ex H H') : OwnAt C R D CT H0 r d s ow me H' := by
  obtain ⟨x, dx, n, l, fd, dd, dsA, h1, h2, h3, h4, h5, h6, h7, h8, h9, h10, h11⟩ := h
  exact ⟨x, dx, n, l, fd, dd, dsA, h1, e _ _ h2, e _ _ h3, e _ _ h4, h5, h6, h7, h8, h9, h10, h11.ex e⟩
theorem J6.ex (h : J6 C R D CR CT H0 s r dr d H) (e : Ex H H') : J6 C R D CR CT H0 s r dr d H' := by
  obtain ⟨h1, h2, h3, es, ow, me, h4, h5, h6, h7, h8, h9, h10⟩ := h
  exact ⟨h1.trans e, h2, h3, es, ow, me, e _ _ h4, h5.ex e, h6, h7, h8, h9, fun z => (h10 z).ex e⟩
theorem J6.start (h1 : H0 r = none) (h2 : H0 d = none) (e : Ex H0 H) (h3 : H r = some (.ins CR dr (rdF d .non .non))) (h4 : H d = some (.dK [])) : J6 C R D CR CT H0 ⟨[], [], [], none⟩ r dr d H :=
  ⟨e, h1, h2, [], .non, .non, h3, ⟨h4, fun e he => (by cases he)⟩, rfl, (by simp), Nat.zero_le _, Nat.zero_le _, fun z => absurd rfl z⟩
/-- what stays where places that are no such things are written -/
structure Sp6 (W : Addr → Prop) (H : Hp) : Prop where
  ins : ∀ b C' dx fs, H b = some (.ins C' dx fs) → ¬ W b
  tup : ∀ b xs, H b = some (.tup xs) → ¬ W b
  frz : ∀ b o u, H b = some (.frz o u) → ¬ W b
  txt : ∀ b v xs, H b = some (.lst (sv v :: xs)) → ¬ W b
theorem kp_of {W : Addr → Prop} (w : Sp6 W H) (e : Hc.Ext W H H') : Kp H H' := fun b v xs h => e _ _ h (w.txt _ _ _ h)
theorem pt_of {W : Addr → Prop} (w : Sp6 W H) (e : Hc.Ext W H H') {x : Addr} {p : Pth} (h : PtAt C.path x p H) : PtAt C.path x p H' := by
  obtain ⟨dx, t, h1, h2⟩ := h
  exact ⟨dx, t, e _ _ h1 (w.ins _ _ _ _ h1), e _ _ h2 (w.tup _ _ h2)⟩
theorem row_of {W : Addr → Prop} (w : Sp6 W H) (e : Hc.Ext W H H') {x : Addr} (h : RowOk C R x H) : RowOk C R x H' := by
  obtain ⟨p, s, ⟨dx, y, z, h1, h2, h3⟩, ho⟩ := h
  refine ⟨p, s, ⟨dx, y, z, e _ _ h1 (w.ins _ _ _ _ h1), pt_of w e h2, ?_⟩, ho⟩
  cases s with
  | new M =>
    obtain ⟨dz, sh, h⟩ := h3
    exact ⟨dz, sh, e _ _ h (w.ins _ _ _ _ h)⟩
  | cpy q k =>
    obtain ⟨dz, u, h, hq⟩ := h3
    exact ⟨dz, u, e _ _ h (w.ins _ _ _ _ h), pt_of w e hq⟩
  | pth q => exact pt_of w e h3
theorem pars_of {W : Addr → Prop} (w : Sp6 W H) (e : Hc.Ext W H H') {ps : Pars} {t : Addr} (h : ParsAt ps t H) : ParsAt ps t H' := by
  obtain ⟨us, ob, h1, h2, h3⟩ := h
  refine ⟨us, ob, e _ _ h1 (w.frz _ _ _ h1), h2, h3.1, fun i p v a b => ?_⟩
  obtain ⟨a', u, g1, g2, g3⟩ := h3.2 i p v a b
  refine ⟨a', u, g1, e _ _ g2 (w.tup _ _ g2), ?_⟩
  cases p with
  | mk w' k =>
    cases k with
    | idx n => exact g3
    | shp M => exact g3
    | fn M r =>
      obtain ⟨t', h4, h5⟩ := g3
      exact ⟨t', h4, e _ _ h5 (w.tup _ _ h5)⟩
theorem db_of {W : Addr → Prop} (w : Sp6 W H) (e : Hc.Ext W H H') {es : List Ent} (h : DbOk H CT d es) (hd : ¬ W d) (ho : ∀ x ∈ es, x.ord ≠ []) : DbOk H' CT d es := by
  refine ⟨e _ _ h.1 hd, fun x hx => ?_⟩
  obtain ⟨⟨dx, fd, dd, h1⟩, h2⟩ := h.2 x hx
  refine ⟨⟨dx, fd, dd, e _ _ h1 (w.ins _ _ _ _ h1)⟩, e _ _ h2 ?_⟩
  cases q : x.ord with
  | nil => exact absurd q (ho x hx)
  | cons a b =>
    rw [q, List.map_cons] at h2
    exact w.txt _ _ _ h2
end
end Hz
/-! module HzStep -/
set_option maxHeartbeats 4000000
/-! One line after the other: fields, rows. -/
namespace Hz
open PySem PySem.Spec PyProof.Rows L2 Evl Hc Hs Hy
section
variable {C : Cs} {R D CR CT : Addr} {H0 H : Hp} {s : S6} {r dr d : Addr}
theorem ords_ne {es : List Ent} (h1 : es.map prE = s.ab) (h2 : ∀ p ∈ s.ab, p.2 ≠ []) : ∀ x ∈ es, x.ord ≠ [] := fun x hx => h2 (prE x) (by rw [← h1]; exact List.mem_map.mpr ⟨x, hx, rfl⟩)
/-- a dict alone is written -/
theorem dict_off {fd : Addr} {kvs : List (Key × V)} (h : H fd = some (.dK kvs)) : Sp6 (fun b => b = fd) H where
  ins b C' dx fs e z := by
    rw [show b = fd from z, h] at e
    cases e
  tup b xs e z := by
    rw [show b = fd from z, h] at e
    cases e
  frz b o u e z := by
    rw [show b = fd from z, h] at e
    cases e
  txt b v xs e z := by
    rw [show b = fd from z, h] at e
    cases e
/-- a list of rows alone is written -/
theorem rows_off {rl : Addr} {xs : List Addr} (h : H rl = some (.lst (xs.map V.ref))) : Sp6 (fun b => b = rl) H where
  ins b C' dx fs e z := by
    rw [show b = rl from z, h] at e
    cases e
  tup b ys e z := by
    rw [show b = rl from z, h] at e
    cases e
  frz b o u e z := by
    rw [show b = rl from z, h] at e
    cases e
  txt b v ys e z := by
    rw [show b = rl from z, h] at e
    cases xs with
    | nil => cases e
    | cons a t => cases e
def fld6 (s : S6) (L : List Nat) : Bool := decide (s.cur = none) && (!decide (partA L colonD ∈ s.fs.map (·.1)) && (!decide (s.fs.length = 4) && (isWord (partA L colonD) && isShape (partC L colonD))))
theorem cur_none {cur : Option Nat} {me : V} (h : CurAt C R D H0 cur me H) : decide (me = .non) = decide (cur = none) := by
  cases cur with
  | none =>
    have h' : me = .non := h
    rw [h', decide_eq_true rfl, decide_eq_true rfl]
  | some k =>
    obtain ⟨m, dm, o, n, j, t, rl, ps, xs, h1, _⟩ := h
    rw [h1, decide_eq_false (fun z => nomatch z), decide_eq_false (fun z => nomatch z)]
theorem step_fld {L : List Nat} {Q : VK} {E : XK} (hJ : J6 C R D CR CT H0 s r dr d H) (hab : s.ab ≠ []) (hL : L.length ≤ cap) (hm : partA L blankD ∉ marks3)
    (q : if fld6 s L = true then ∀ H', J6 C R D CR CT H0 { s with fs := s.fs ++ [(partA L colonD, partC L colonD)] } r dr d H' → Kp H H' → Q (.bl true) H' else ∀ H', Ex H H' → Q (.bl false) H') : spMember C R D CR CT [.ref r, sv L] H Q E := by
  obtain ⟨h1, h2, h3, es, ow, me, h4, h5, h6, h7, h8, h9, h10⟩ := hJ
  obtain ⟨x, dx, n, l, fd, dd, dsA, rfl, g2, g3, g4, g5, g6, g7, g8, g9, g10, g11⟩ := h10 hab
  refine ⟨r, dr, x, d, me, L, rfl, hL, h4, ?_⟩
  rw [if_neg hm]
  intro H1 e1
  refine ⟨r, dr, x, dx, fd, dd, d, n, l, me, s.fs, L, rfl, hL, e1 _ _ h4, e1 _ _ g2, e1 _ _ g3, h8, ?_⟩
  have ef : fldOk me s.fs L = fld6 s L := by
    unfold fldOk fld6
    rw [cur_none g11]
  rw [ef]
  by_cases hf : fld6 s L = true
  · rw [if_pos hf] at q ⊢
    intro H2 ext hfd
    have w := dict_off (e1 _ _ g3)
    have hl4 : s.fs.length ≠ 4 := by
      unfold fld6 at hf
      simp only [Bool.and_eq_true, Bool.not_eq_true', decide_eq_false_iff_not] at hf
      exact hf.2.2.1
    have kp := kp_of w ext
    refine q H2 ⟨fun b o hb => ?_, h2, h3, es, .ref x, me, ext _ _ (e1 _ _ h4) (w.ins _ _ _ _ (e1 _ _ h4)), db_of w ext (h5.ex e1) (Ne.symm g7.2) (ords_ne h6 h7), h6, h7, ?_, h9, fun _ => ⟨x, dx, n, l, fd, dd, dsA, rfl, ext _ _ (e1 _ _ g2) (w.ins _ _ _ _ (e1 _ _ g2)), hfd, ext _ _ (e1 _ _ g4) (Ne.symm g6), g5, g6, g7, g8, g9, g10, ?_⟩⟩ fun b v xs hb => kp b v xs (e1 _ _ hb)
    · exact ext _ _ (e1 _ _ (h1 _ _ hb)) (ne_of_none hb g9)
    · rw [List.length_append]
      show s.fs.length + 1 ≤ 4
      omega
    · have g12 := g11.ex e1
      cases hc : s.cur with
      | none =>
        rw [hc] at g12
        exact g12
      | some k =>
        unfold fld6 at hf
        rw [hc] at hf
        cases hf
  · rw [if_neg hf] at q ⊢
    exact fun H2 e2 => q H2 (e1.trans e2)
theorem step_row {L : List Nat} {k : Nat} {Q : VK} {E : XK} (hJ : J6 C R D CR CT H0 s r dr d H) (hab : s.ab ≠ []) (hL : L.length ≤ cap) (hrow : RowLine L) (hc : s.cur = some k)
    (q : if k = 6 then ∀ H', Ex H H' → Q (.bl false) H' else ∀ H', J6 C R D CR CT H0 { s with cur := some (k + 1) } r dr d H' → Kp H H' → Q (.bl true) H') : spTakeR C R D CR [.ref r, sv L] H Q E := by
  obtain ⟨h1, h2, h3, es, ow, me, h4, h5, h6, h7, h8, h9, h10⟩ := hJ
  obtain ⟨x, dx, n, l, fd, dd, dsA, rfl, g2, g3, g4, g5, g6, g7, g8, g9, g10, g11⟩ := h10 hab
  rw [hc] at g11
  obtain ⟨m, dm, o, nn, j, t, rl, ps, xs, rfl, c2, c3, c4, c5, rfl, c7, c8, c9⟩ := g11
  refine ⟨r, dr, d, .ref x, m, dm, o, nn, j, t, rl, ps, xs, L, rfl, hL, hrow, h4, c2, c3, c4, c5, c7, c8, ?_⟩
  by_cases hk : xs.length = 6
  · rw [if_pos hk] at q ⊢
    exact q
  · rw [if_neg hk] at q ⊢
    intro H2 z ext hrl hrows
    have w := rows_off c5
    have offd : ∀ {b kvs}, H b = some (.dK kvs) → ¬ b = rl := fun {b kvs} hb z => by
      rw [z, c5] at hb
      cases hb
    refine q H2 ⟨fun b o hb => ext _ _ (h1 _ _ hb) (ne_of_none hb c9), h2, h3, es, .ref x, .ref m, ext _ _ h4 (w.ins _ _ _ _ h4), db_of w ext h5 (offd h5.1) (ords_ne h6 h7), h6, h7, h8, h9, fun _ => ⟨x, dx, n, l, fd, dd, dsA, rfl, ext _ _ g2 (w.ins _ _ _ _ g2), ext _ _ g3 (offd g3), ext _ _ g4 (offd g4), g5, g6, g7, g8, g9, g10, m, dm, o, nn, j, t, rl, ps, xs ++ [z], rfl, ext _ _ c2 (w.ins _ _ _ _ c2), pars_of w ext c3, c4, hrl, ?_, ?_, hrows, c9⟩⟩ (kp_of w ext)
    · rw [List.length_append]
      rfl
    · omega
end
end Hz
/-! module HzStep2 -/
set_option maxHeartbeats 4000000
/-! Methods and classes. -/
namespace Hz
open PySem PySem.Spec PyProof.Rows L2 Evl Hc Hs Hy
section
variable {C : Cs} {R D CR CT : Addr} {H0 H : Hp} {s : S6} {r dr d : Addr}
def mth6 (s : S6) (L : List Nat) : Bool := isWord (partA L parenD) && (!decide (partA L parenD ∈ s.ds) && (!decide (s.ds.length = 5) && ((readPars (parL L)).isSome && endsG (partC L parenD) closeD)))
theorem pars_nd {L : List Nat} {ps : Pars} (h : readPars L = some ps) : (ps.map (·.1)).Nodup := by
  unfold readPars at h
  split at h
  · rename_i hc
    cases h
    exact hc.2.2
  · cases h
theorem two_off {r fd : Addr} {C' dx : Addr} {fs : List (Str × V)} {kvs : List (Key × V)} (h1 : H fd = some (.dK kvs)) (h2 : H r = some (.ins C' dx fs)) : ∀ b, (∀ C2 dx2 fs2, H b = some (.ins C2 dx2 fs2) → b ≠ fd) ∧ (∀ xs, H b = some (.tup xs) → ¬ (b = r ∨ b = fd)) ∧ (∀ o u, H b = some (.frz o u) → ¬ (b = r ∨ b = fd)) ∧ (∀ v xs, H b = some (.lst (sv v :: xs)) → ¬ (b = r ∨ b = fd)) := fun b => by
  refine ⟨fun C2 dx2 fs2 e z => ?_, fun xs e z => ?_, fun o u e z => ?_, fun v xs e z => ?_⟩
  · rw [z, h1] at e
    cases e
  · rcases z with z | z
    · rw [z, h2] at e
      cases e
    · rw [z, h1] at e
      cases e
  · rcases z with z | z
    · rw [z, h2] at e
      cases e
    · rw [z, h1] at e
      cases e
  · rcases z with z | z
    · rw [z, h2] at e
      cases e
    · rw [z, h1] at e
      cases e
theorem step_mth {L : List Nat} {Q : VK} {E : XK} (hJ : J6 C R D CR CT H0 s r dr d H) (hab : s.ab ≠ []) (hrc : CR ≠ CT) (hL : L.length ≤ cap) (hm : partA L blankD ∈ marks3)
    (q : if mth6 s (partC L blankD) = true then ∀ H', J6 C R D CR CT H0 { s with ds := s.ds ++ [partA (partC L blankD) parenD], cur := some 0 } r dr d H' → Kp H H' → Q (.bl true) H' else ∀ H', Ex H H' → Q (.bl false) H') : spMember C R D CR CT [.ref r, sv L] H Q E := by
  obtain ⟨h1, h2, h3, es, ow, me, h4, h5, h6, h7, h8, h9, h10⟩ := hJ
  obtain ⟨x, dx, n, l, fd, dd, dsA, rfl, g2, g3, g4, g5, g6, g7, g8, g9, g10, g11⟩ := h10 hab
  refine ⟨r, dr, x, d, me, L, rfl, hL, h4, ?_⟩
  rw [if_pos hm]
  intro H1 e1
  have hlen : dsA.length = s.ds.length := by rw [← g5, List.length_map]
  generalize partA L blankD = mk
  have hT := Nat.le_trans (part_len L blankD).2 hL
  generalize partC L blankD = T at q hT ⊢
  refine ⟨r, dr, x, dx, fd, dd, d, n, l, me, dsA, mk, T, rfl, hT, e1 _ _ h4, e1 _ _ g2, e1 _ _ g4, by omega, g8.1, ?_⟩
  have ef : mthOk dsA T = mth6 s T := by
    unfold mthOk mth6
    rw [g5, hlen]
  rw [ef]
  by_cases hf : mth6 s T = true
  · rw [if_pos hf] at q ⊢
    intro H2 m ps hps hm0 ext hr2 hd2 hdef
    have off := two_off (e1 _ _ g4) (e1 _ _ h4)
    have hl5 : s.ds.length ≠ 5 := by
      unfold mth6 at hf
      simp only [Bool.and_eq_true, Bool.not_eq_true', decide_eq_false_iff_not] at hf
      exact hf.2.2.1
    have xr : x ≠ r := fun z => by
      have h := e1 _ _ g2
      rw [z, e1 _ _ h4] at h
      injection h with h
      injection h with h
      exact hrc h
    obtain ⟨dm, o, nn, j, t, rl, m1, m2, m3, m4⟩ := hdef
    have fdn : fd ≠ r ∧ fd ≠ dd := ⟨g7.1, g6⟩
    refine q H2 ⟨fun b o hb => ext _ _ (e1 _ _ (h1 _ _ hb)) fun z => z.elim (ne_of_none hb h2) (ne_of_none hb g10), h2, h3, es, .ref x, .ref m, hr2, ⟨ext _ _ (e1 _ _ h5.1) fun z => z.elim (fun z => by
      have h := h5.1
      rw [z, h4] at h
      cases h) (fun z => g8.2 z.symm), fun y hy => ?_⟩, h6, h7, h8, ?_, fun _ => ⟨x, dx, n, l, fd, dd, dsA ++ [(partA T parenD, m)], rfl, ext _ _ (e1 _ _ g2) fun z => z.elim xr (fun z => (off x).1 _ _ _ (e1 _ _ g2) z), ext _ _ (e1 _ _ g3) fun z => z.elim fdn.1 fdn.2, hd2, ?_, g6, g7, g8, g9, g10, m, dm, o, nn, j, t, rl, ps, [], rfl, m1, m2, pars_nd hps, m3, rfl, Nat.zero_le _, (fun x hx => by cases hx), ?_⟩⟩ fun b v xs hb => ext _ _ (e1 _ _ hb) ((off b).2.2.2 _ _ (e1 _ _ hb))
    · obtain ⟨⟨dx', fd', dd', y1⟩, y2⟩ := h5.2 y hy
      refine ⟨⟨dx', fd', dd', ext _ _ (e1 _ _ y1) fun z => z.elim (fun z => ?_) fun z => (off y.cls).1 _ _ _ (e1 _ _ y1) z⟩, ext _ _ (e1 _ _ y2) ?_⟩
      · rw [z, h4] at y1
        injection y1 with y1
        injection y1 with y1
        exact hrc y1
      · cases qo : y.ord with
        | nil => exact absurd qo (ords_ne h6 h7 y hy)
        | cons a b =>
          rw [qo, List.map_cons] at y2
          exact (off y.lin).2.2.2 _ _ (e1 _ _ y2)
    · rw [List.length_append]
      show s.ds.length + 1 ≤ 5
      omega
    · rw [List.map_append, g5]
      rfl
    · cases z : H0 rl with
      | none => rfl
      | some o =>
        rw [e1 _ _ (h1 _ _ z)] at m4
        cases m4
  · rw [if_neg hf] at q ⊢
    exact fun H2 e2 => q H2 (e1.trans e2)
end
end Hz
/-! module HzText6 -/
set_option maxHeartbeats 4000000
/-! Texts of lines as machines. -/
namespace Hz
open PySem PySem.Spec PyProof.Rows L2 Evl Hc Hs Hy
section
variable {C : Cs} {R D CR CT : Addr} {H0 H : Hp} {s : S6} {r dr d : Addr}
theorem step_cls {n : Nm} {bs : List Nm} {Q : VK} {E : XK} (hJ : J6 C R D CR CT H0 s r dr d H) (hrc : CR ≠ CT) (F : Fit s.ab n bs)
    (q : match merge (rowsA s.ab bs) with
      | none => ∀ H', Ex H H' → Q (.bl false) H'
      | some m => ∀ H', J6 C R D CR CT H0 ⟨s.ab ++ [(n, n :: m)], [], [], none⟩ r dr d H' → Kp H H' → Q (.bl true) H') : spTake2 CR CT [.ref r, sv (cline n bs)] H Q E := by
  obtain ⟨h1, h2, h3, es, ow, me, h4, h5, h6, h7, h8, h9, h10⟩ := hJ
  have F' := F
  rw [← h6] at F'
  refine ⟨r, d, dr, n, bs, es, ow, me, rfl, F'.gn, F'.gb, F'.nd, F'.le3, by rw [nm_pr]; exact F'.new, fun b hb => by rw [nm_pr]; exact F'.old b hb, by have := F'.lt8; rwa [List.length_map] at this, fun e he => F'.ol (prE e) (List.mem_map.mpr ⟨e, he, rfl⟩), h4, h5, ?_⟩
  rw [rows_pr, h6]
  cases hm : merge (rowsA s.ab bs) with
  | none =>
    rw [hm] at q
    exact q
  | some m =>
    rw [hm] at q
    intro H2 e dx fd dd he1 he2 ext hr2 hdb2 hcl hfd hdd fdne f1 f2 nf nd
    have n0 : ∀ {b}, H b = none → H0 b = none := fun {b} hn => by
      cases z : H0 b with
      | none => rfl
      | some o =>
        rw [h1 _ _ z] at hn
        cases hn
    refine q H2 ⟨fun b o hb => ext _ _ (h1 _ _ hb) fun z => z.elim (ne_of_none hb h2) (ne_of_none hb h3), h2, h3, es ++ [e], .ref e.cls, .non, hr2, hdb2, ?_, ?_, Nat.zero_le _, Nat.zero_le _, fun _ => ⟨e.cls, dx, n, e.lin, fd, dd, [], rfl, hcl, hfd, hdd, rfl, fdne, f1, f2, n0 nf, n0 nd, rfl⟩⟩ fun b v xs hb => ext _ _ hb fun z => ?_
    · rw [List.map_append, h6]
      show s.ab ++ [(e.nm, e.ord)] = _
      rw [he1, he2]
    · intro p hp
      rcases List.mem_append.mp hp with hp | hp
      · exact h7 p hp
      · rw [List.mem_singleton.mp hp]
        simp
    · rcases z with z | z
      · rw [z, h4] at hb
        cases hb
      · rw [z, h5.1] at hb
        cases hb
end
end Hz
/-! module HzMach6 -/
set_option maxHeartbeats 4000000
/-! k06's lines as a machine for Library. -/
namespace Hz
open PySem PySem.Spec PyProof.Rows L2 Evl Hc Hs Hy
inductive L6 where
  | cls (n : Nm) (bs : List Nm)
  | odd (L : List Nat)
  | mem (L : List Nat)
  | row (L : List Nat)
def tx6 : L6 → List Nat
  | .cls n bs => cline n bs
  | .odd L => L
  | .mem L => bl4 ++ L
  | .row L => bl8 ++ L
def next6 (s : S6) : L6 → Option S6
  | .cls n bs => (merge (rowsA s.ab bs)).map fun m => ⟨s.ab ++ [(n, n :: m)], [], [], none⟩
  | .odd _ => none
  | .mem L => if partA L blankD ∈ marks3 then (if mth6 s (partC L blankD) = true then some { s with ds := s.ds ++ [partA (partC L blankD) parenD], cur := some 0 } else none) else (if fld6 s L = true then some { s with fs := s.fs ++ [(partA L colonD, partC L colonD)] } else none)
  | .row _ => match s.cur with
    | none => none
    | some k => if k = 6 then none else some { s with cur := some (k + 1) }
def pre6 (s : S6) : L6 → Prop
  | .cls n bs => Fit s.ab n bs
  | .odd L => L.length ≤ cap ∧ startsL L bl4 = false ∧ s.ab.length ≤ 8 ∧ (match readCls L with
    | none => True
    | some (n, _) => n ∈ s.ab.map (·.1) ∨ s.ab.length = 8)
  | .mem L => s.ab ≠ [] ∧ L.length + 4 ≤ cap ∧ startsL L bl4 = false
  | .row L => s.ab ≠ [] ∧ L.length + 8 ≤ cap ∧ RowLine L ∧ s.cur ≠ none
def spOdd (CR CT : Addr) : Sp := fun vs H Q E => spTakeN CR CT vs H Q E ∧ ∃ r L, vs = [.ref r, sv L] ∧ startsL L bl4 = false
def sp6 (C : Cs) (R D CR CT : Addr) : Sp := fun vs H Q E => spTake2 CR CT vs H Q E ∨ (spOdd CR CT vs H Q E ∨ spTakeL C R D CR CT vs H Q E)
theorem starts_app (a b : List Nat) : startsL (a ++ b) a = true := by
  unfold startsL
  rw [List.take_left, List.length_append, Bool.and_eq_true]
  exact ⟨decide_eq_true (Nat.le_add_right _ _), beq_self_eq_true a⟩
theorem starts48 {L : List Nat} (h : startsL L bl4 = false) : startsL (bl4 ++ L) bl8 = false := by
  cases z : startsL (bl4 ++ L) bl8 with
  | false => rfl
  | true =>
    unfold startsL at z h
    rw [Bool.and_eq_true, decide_eq_true_eq, beq_iff_eq] at z
    have e : (bl4 ++ L).take 8 = bl4 ++ L.take 4 := by
      rw [List.take_append]
      rfl
    have z2 : bl4 ++ L.take 4 = bl4 ++ bl4 := by rw [← e]; exact z.2
    have h4 := List.append_cancel_left z2
    have hl : 4 ≤ L.length := by
      have := z.1
      rw [List.length_append] at this
      have e8 : bl8.length = 8 := rfl
      have e4 : bl4.length = 4 := rfl
      omega
    have e4 : bl4.length = 4 := rfl
    rw [e4, decide_eq_true hl, h4] at h
    cases h
section
variable {C : Cs} {R D CR CT : Addr} {H0 H : Hp} {s : S6} {r dr d : Addr}
theorem kp_ex {H H1 H2 : Hp} (e : Ex H H1) (k : Kp H1 H2) : Kp H H2 := fun b v xs h => k b v xs (e _ _ h)
theorem step6 {l : L6} {Q : VK} {E : XK} (hJ : J6 C R D CR CT H0 s r dr d H) (hrc : CR ≠ CT) (p : pre6 s l)
    (q : match next6 s l with
      | none => ∀ H', Ex H H' → Q (.bl false) H'
      | some s' => ∀ H', J6 C R D CR CT H0 s' r dr d H' → Kp H H' → Q (.bl true) H') : sp6 C R D CR CT [.ref r, sv (tx6 l)] H Q E := by
  obtain ⟨es, ow, me, h4, h5, h6⟩ : ∃ es ow me, H r = some (.ins CR dr (rdF d ow me)) ∧ DbOk H CT d es ∧ es.map prE = s.ab := by
    obtain ⟨_, _, _, es, ow, me, h4, h5, h6, _⟩ := hJ
    exact ⟨es, ow, me, h4, h5, h6⟩
  cases l with
  | cls n bs =>
    refine .inl (step_cls hJ hrc p ?_)
    have e : next6 s (.cls n bs) = (merge (rowsA s.ab bs)).map fun m => ⟨s.ab ++ [(n, n :: m)], [], [], none⟩ := rfl
    rw [e] at q
    cases hm : merge (rowsA s.ab bs) with
    | none =>
      rw [hm] at q
      exact q
    | some m =>
      rw [hm] at q
      exact q
  | odd L =>
    obtain ⟨p1, p2, p3, p4⟩ := p
    refine .inr (.inl ⟨⟨r, d, dr, es, ow, me, L, rfl, p1, h4, h5, by rw [← List.length_map (f := prE), h6]; exact p3, ?_, q⟩, r, L, rfl, p2⟩)
    cases hc : readCls L with
    | none => trivial
    | some nb =>
      obtain ⟨n, bs⟩ := nb
      rw [hc] at p4
      rcases p4 with p4 | p4
      · exact .inl (by rw [nm_pr, h6]; exact p4)
      · exact .inr (by rw [← List.length_map (f := prE), h6]; exact p4)
  | mem L =>
    obtain ⟨p1, p2, p3⟩ := p
    have hl : (bl4 ++ L).length ≤ cap := by
      rw [List.length_append]
      have e4 : bl4.length = 4 := rfl
      omega
    refine .inr (.inr ⟨r, dr, _, bl4 ++ L, rfl, hl, h4, rfl, rfl, ?_⟩)
    rw [if_neg (by rw [starts48 p3]; exact Bool.false_ne_true)]
    refine ⟨starts_app _ _, fun H1 e1 => ?_⟩
    have ed : (bl4 ++ L).drop 4 = L := rfl
    rw [ed]
    have hL : L.length ≤ cap := by omega
    have e : next6 s (.mem L) = if partA L blankD ∈ marks3 then (if mth6 s (partC L blankD) = true then some { s with ds := s.ds ++ [partA (partC L blankD) parenD], cur := some 0 } else none) else (if fld6 s L = true then some { s with fs := s.fs ++ [(partA L colonD, partC L colonD)] } else none) := rfl
    rw [e] at q
    by_cases hm : partA L blankD ∈ marks3
    · rw [if_pos hm] at q
      refine step_mth (hJ.ex e1) p1 hrc hL hm ?_
      by_cases hf : mth6 s (partC L blankD) = true
      · rw [if_pos hf] at q ⊢
        exact fun H2 j k => q H2 j (kp_ex e1 k)
      · rw [if_neg hf] at q ⊢
        exact fun H2 e2 => q H2 (e1.trans e2)
    · rw [if_neg hm] at q
      refine step_fld (hJ.ex e1) p1 hL hm ?_
      by_cases hf : fld6 s L = true
      · rw [if_pos hf] at q ⊢
        exact fun H2 j k => q H2 j (kp_ex e1 k)
      · rw [if_neg hf] at q ⊢
        exact fun H2 e2 => q H2 (e1.trans e2)
  | row L =>
    obtain ⟨p1, p2, p3, p4⟩ := p
    have hl : (bl8 ++ L).length ≤ cap := by
      rw [List.length_append]
      have e8 : bl8.length = 8 := rfl
      omega
    refine .inr (.inr ⟨r, dr, _, bl8 ++ L, rfl, hl, h4, rfl, rfl, ?_⟩)
    rw [if_pos (starts_app _ _)]
    intro H1 e1
    have ed : (bl8 ++ L).drop 8 = L := rfl
    rw [ed]
    cases hc : s.cur with
    | none => exact absurd hc p4
    | some k =>
      have e : next6 s (.row L) = if k = 6 then none else some { s with cur := some (k + 1) } := by
        show (match s.cur with
          | none => none
          | some k => if k = 6 then none else some { s with cur := some (k + 1) }) = _
        rw [hc]
      rw [e] at q
      refine step_row (hJ.ex e1) p1 (by omega) p3 hc ?_
      by_cases hk : k = 6
      · rw [if_pos hk] at q ⊢
        exact fun H2 e2 => q H2 (e1.trans e2)
      · rw [if_neg hk] at q ⊢
        exact fun H2 j kp => q H2 j (kp_ex e1 kp)
/-- the states before each line -/
def st6 (s : S6) : List L6 → S6
  | [] => s
  | l :: r => st6 ((next6 s l).getD s) r
def s0 : S6 := ⟨[], [], [], none⟩
def stAt (ls : List L6) (i : Nat) : S6 := st6 s0 (ls.take i)
theorem st6_snoc (l : L6) : ∀ (ls : List L6) (s : S6), st6 s (ls ++ [l]) = (next6 (st6 s ls) l).getD (st6 s ls)
  | [], s => rfl
  | a :: r, s => st6_snoc l r _
theorem stAt_succ {ls : List L6} {i : Nat} {l : L6} (h : ls[i]? = some l) : stAt ls (i + 1) = (next6 (stAt ls i) l).getD (stAt ls i) := by
  unfold stAt
  have e : ls.take (i + 1) = ls.take i ++ [l] := by
    rw [List.take_add_one, h]
    rfl
  rw [e, st6_snoc]
/-- right lines, up to the first wrong one -/
def Runs (ls : List L6) (stop : Option Nat) : Prop := ∀ i l, ls[i]? = some l → (∀ k, stop = some k → i ≤ k) → pre6 (stAt ls i) l ∧ (if stop = some i then next6 (stAt ls i) l = none else ∃ s', next6 (stAt ls i) l = some s')
theorem mach6 {ls : List L6} {stop : Option Nat} (hrc : CR ≠ CT) (h : Runs ls stop) : Nonempty (Mach CR (sp6 C R D CR CT) H0 (ls.map tx6) stop) := ⟨{
  J := fun r dr d i H => J6 C R D CR CT H0 (stAt ls i) r dr d H
  start := fun r dr d H1 h1 h2 e h3 h4 => J6.start h1 h2 e h3 h4
  ex := fun r dr d i H1 H2 j e => j.ex e
  at_ := fun r dr d i H1 j => by
    obtain ⟨_, _, _, es, ow, me, h4, h5, _⟩ := j
    exact ⟨ow, me, _, h4, h5.1⟩
  old := fun r dr d i H1 j => j.1
  step := fun r dr d i L H1 Q hL hlt j q => by
    rw [List.getElem?_map] at hL
    obtain ⟨l, hl, rfl⟩ := Option.map_eq_some_iff.mp hL
    obtain ⟨p, hn⟩ := h i l hl fun k hk => Nat.le_of_lt (hlt k hk)
    rw [if_neg (fun z => Nat.lt_irrefl _ (hlt i z))] at hn
    obtain ⟨s', hs'⟩ := hn
    refine step6 j hrc p ?_
    rw [hs']
    intro H' j' k
    refine q H' ?_ k
    rw [stAt_succ hl, hs']
    exact j'
  bad := fun r dr d i L H1 Q hL hst j q => by
    rw [List.getElem?_map] at hL
    obtain ⟨l, hl, rfl⟩ := Option.map_eq_some_iff.mp hL
    obtain ⟨p, hn⟩ := h i l hl fun k hk => by
      rw [hst] at hk
      cases hk
      exact Nat.le_refl _
    rw [if_pos hst] at hn
    refine step6 j hrc p ?_
    rw [hn]
    exact q }⟩
end
end Hz
/-! module HzTold -/
set_option maxHeartbeats 4000000
/-! _law_told of any lines that a machine tells. -/
namespace Hz
open PySem PySem.Spec PyProof.Rows L2 Evl Hc Hs Hy
section
variable {P : Program} {w : World} {K : PySem.W.Frag} {mg : Str → Option Value} {base : Heap} {CL CR B fB f : Addr} {fd fdB : FuncData} {sp : Sp}
theorem ok_lib6X {k : Nat} (F : Fun K "__init__" "Library.__init__" sLibInit f fd) (T : LibP mg) (c : LbC K CL) (rc : RdC K CR) (rL : Rd P w K mg base "lines_of" 1 ["text"] spLines) (rR : Hy.Rm P w K mg base "Reader" CR 1 ["self"] (spRd CR)) (rT : Hy.Rt P w K mg base CR "take" k ["self", "line"] sp) (hk : 2 ≤ k) :
    FnOk P w K mg base (L2.CX P w) (k + 1) f fd ["self", "text"] (spLib6 CL CR sp) := by
  refine F.okX scLibI (fun vs H Q E h => ?_) (fun cdv A outer s H vs Q E hr h => ?_)
  · obtain ⟨x, dx, Ls, rfl, _⟩ := h
    rfl
  · obtain ⟨x, dx, Ls, rfl, hx, ⟨l1, l2, l3, l4⟩, ⟨M⟩, q⟩ := h
    refine ⟨_, pss_cons (ps_if (pt_not (pt_val (pe_callB call_isi (by rfl) T.isi boot_isinstance (pa_cons (pv 1) (pa_cons (pe_bltn (v := .ty "str") (by rfl) T.str Hy.boot_strT rfl) pa_nil))))) (pss_one ps_never) pss_nil)
      (pss_cons (ps_set (i := 2) scLibI.nd rfl (.inl rfl) (Hy.pe_rm0 rR hr hk (by rfl)))
      (pss_cons (ps_for (passes_of rfl) rfl (pi_enum (by rfl) T.enu (pa_cons (pe_rd rL hr (Nat.le_trans (by decide) hk) (by rfl) (pa_cons (pv 1) pa_nil)) pa_nil)) (pg_tup (by rfl) (pgs_cons (pg_name (i := 3) scLibI.nd rfl (.inl rfl)) (pgs_cons (pg_name (i := 4) scLibI.nd rfl (.inl rfl)) pgs_nil)))
        (pss_one (ps_if (pt_not (pt_val (Hy.pe_rt (pv 2) rc.cl rT hr (Nat.le_refl _) (pa_cons (pv 4) pa_nil)))) (pss_one ps_never) pss_nil)))
      (pss_cons (ps_fld (pv 0) (pv 1) (by rfl))
      (pss_cons (ps_fld (pv 0) (pe_callTy call_tuple_of (by rfl) T.tup boot_tuple (pa_cons (pe_callTy (call_list_dK rfl) (by rfl) T.lst boot_list' (pa_cons (pe_fld (pv 2) (by rfl)) pa_nil)) pa_nil)) (by rfl))
      (pss_one (ps_fld (pv 0) (pe_fld (pv 2) (by rfl)) (by rfl))))))), ?_⟩
    refine q_when (b := false) (et_is (et_not (et_B (ev_isiX (ev_var rfl) ev_c (.ty "str") (fun _ _ => .base (.str _)) (kit_ty rfl)))) rfl) (fun z => nomatch z) fun _ H1 e1 => ?_
    refine q_asgX ?_
    intro r dr nr ndr ne
    refine ⟨r, dr, rfl, upd_same, fun H2 d nd ex hr2 hd2 => ⟨rfl, ?_⟩⟩
    have e2 : Ex H1 H2 := reader_new nr ndr ne ex
    have d_r : d ≠ r := fun z => by
      rw [z, upd_same] at nd
      cases nd
    have d_dr : d ≠ dr := fun z => by
      rw [z, upd_ne ne, upd_same] at nd
      cases nd
    rw [upd_ne d_r, upd_ne d_dr] at nd
    have nrH := fresh_back e1 nr
    have ndH := fresh_back e1 nd
    have e12 := e1.trans e2
    have J0 := M.start r dr d H2 nrH ndH e12 hr2 hd2
    show tSeq _ _ _ [some (.ref x), some (sv (TL.joinL [10] Ls)), some (.ref r), none, none] H2
    refine ⟨_, rfl, Ls, rfl, l1, l2, l3, l4, fun pa H3 npa e3 hpa => ⟨pa, _, rfl, sq_of hpa, ?_⟩⟩
    obtain ⟨L0, Lr, hL0⟩ : ∃ L0 Lr, Ls = L0 :: Lr := by
      cases Ls with
      | nil => exact absurd rfl l2
      | cons a b => exact ⟨a, b, rfl⟩
    refine for_it (walk_enum (xs := Ls.map sv)) (fun i σ' H' => (∃ v3 v4, σ' = [some (.ref x), some (sv (TL.joinL [10] Ls)), some (.ref r), v3, v4]) ∧ M.J r dr d i H' ∧ H' pa = some (.lst (Ls.map sv))) ⟨⟨none, none, rfl⟩, M.ex _ _ _ _ _ _ J0 e3, hpa⟩ (fun i σ' H' _ z => sq_of z.2.2) (fun i v σ' H' H'' hi z y => ?_) (fun σ' H' z => ?_)
    · obtain ⟨⟨v3, v4, rfl⟩, hJ, hpz⟩ := z
      obtain ⟨Ta, y1, y2, rfl, nT, rfl, hy1, hy2⟩ := y
      have eT : Ex H' (upd H' Ta (.tup [y1, y2])) := Ex.new nT
      have hy2' : (Ls.map sv)[i]? = some y2 := hy2
      rw [List.getElem?_map] at hy2'
      obtain ⟨L, hL, rfl⟩ := Option.map_eq_some_iff.mp hy2'
      cases hy1
      have hJT := M.ex _ _ _ _ _ _ hJ eT
      obtain ⟨ow, me, kvs, hrT, hdT⟩ := M.at_ _ _ _ _ _ hJT
      refine ⟨Ta, _, rfl, st_of upd_same, rfl, _, _, rfl, _, _, rfl, rfl, ?_⟩
      refine if_notM (i := 2) (j := 4) (v := sv L) rfl hrT rfl rfl ?_
      refine M.step r dr d i L _ _ hL (fun k hk => nomatch hk) hJT fun H5 hJ5 hkp => ⟨true, rfl, iteF ?_⟩
      refine ⟨⟨_, _, rfl⟩, hJ5, ?_⟩
      have h1 := eT _ _ hpz
      rw [hL0, List.map_cons] at h1 ⊢
      exact hkp _ _ _ h1
    · obtain ⟨⟨v3, v4, rfl⟩, hJ, _⟩ := z
      obtain ⟨ow, me, kvs, hrz, hdz⟩ := M.at_ _ _ _ _ _ hJ
      have ez := M.old _ _ _ _ _ hJ
      have rx : r ≠ x := fun z => by
        rw [z, hx] at nrH
        cases nrH
      have dx' : d ≠ x := fun z => by
        rw [z, hx] at ndH
        cases ndH
      refine q_fldV (ev_var rfl) (ev_var rfl) (ez _ _ hx) c.cl c.nT (show 0 < 1000 by decide) fun H4 e4 => ?_
      have hr4 : (upd H4 x (.ins CL dx (putF "text" (sv (TL.joinL [10] Ls)) []))) r = some (.ins CR dr (rdF d ow me)) := (upd_ne rx).trans (e4 _ _ hrz)
      have hd4 : (upd H4 x (.ins CL dx (putF "text" (sv (TL.joinL [10] Ls)) []))) d = some (.dK kvs) := (upd_ne dx').trans (e4 _ _ hdz)
      have o4 : Hc.Ext (fun b => b = x) H (upd H4 x (.ins CL dx (putF "text" (sv (TL.joinL [10] Ls)) []))) := stepE (ez.trans e4) rfl
      have hx4' : (upd H4 x (.ins CL dx (putF "text" (sv (TL.joinL [10] Ls)) []))) x = some (.ins CL dx [("text", sv (TL.joinL [10] Ls))]) := upd_same
      generalize upd H4 x (.ins CL dx (putF "text" (sv (TL.joinL [10] Ls)) [])) = K4 at hr4 hd4 o4 hx4' ⊢
      have hlk : (rdF d ow me).lookup ("classes" : Str) = some (.ref d) := rfl
      refine q_fldU (eu_tupOf (el_listD (Hy.ev_fld (ev_var rfl) hr4 rc.cl rc.nC hlk) hd4)) (fun _ _ => ev_var rfl) hx4' c.cl c.nN (show 1 < 1000 by decide) fun tp H5 _ e5 _ => ?_
      have hr5 : (upd H5 x (.ins CL dx (putF "names" (.ref tp) [("text", sv (TL.joinL [10] Ls))]))) r = some (.ins CR dr (rdF d ow me)) := (upd_ne rx).trans (e5 _ _ hr4)
      have o5 : Hc.Ext (fun b => b = x) H (upd H5 x (.ins CL dx (putF "names" (.ref tp) [("text", sv (TL.joinL [10] Ls))]))) := o4.trans (stepE e5 rfl)
      have hx5' : (upd H5 x (.ins CL dx (putF "names" (.ref tp) [("text", sv (TL.joinL [10] Ls))]))) x = some (.ins CL dx [("text", sv (TL.joinL [10] Ls)), ("names", .ref tp)]) := upd_same
      generalize upd H5 x (.ins CL dx (putF "names" (.ref tp) [("text", sv (TL.joinL [10] Ls))])) = K5 at hr5 o5 hx5' ⊢
      refine s_fldV (Hy.ev_fld (ev_var rfl) hr5 rc.cl rc.nC hlk) (ev_var rfl) hx5' c.cl c.nC (show 2 < 1000 by decide) fun H6 e6 => ?_
      exact q _ (o5.trans (stepE e6 rfl))
end
abbrev nTold6 : List Str := ["_law_lines", "_law_told_here", "e"]
theorem scTold6 : FnScope nTold6 ["_law_lines"] (defScope sLTold) := ⟨rfl, rfl, rfl, by decide +kernel, rfl, by decide +kernel, by decide +kernel⟩
def optI : Option Nat → V
  | none => .non
  | some k => .int (k : Int)
/-- what the machine says of the lines -/
def spTold6 (CR : Addr) (sp : Sp) : Sp := fun vs H Q _ => ∃ (a : Addr) (Ls : List (List Nat)) (stop : Option Nat), vs = [.ref a] ∧ H a = some (.lst (Ls.map sv)) ∧ LinesOk Ls ∧ (Ls.map List.length).sum + Ls.length ≤ 16777216 ∧ (∀ k, stop = some k → k < Ls.length) ∧ (∀ H', Ex H H' → Nonempty (Mach CR sp H' Ls stop)) ∧ ∀ H', Ex H H' → Q (optI stop) H'
def rJoin6 (K : PySem.W.Frag) : V → List V → Hp → VK → Prop := fun x xs H Q => ∃ a p, ∃ ys : List Str, x = .str a ∧ xs = [.ref p] ∧ (SqL K H p (ys.map V.str) ∨ SqT K H p (ys.map V.str)) ∧ (ys.map (·.length)).sum + ys.length * a.length ≤ 16777216 ∧ Q (.str (Txt.join a ys)) H
theorem ev_xf6 {σ : L2.St} {H : Hp} {te : TE} {a D dd : Addr} {fs : List (Str × V)} {f : Str} {v : V} (h : Ev te σ H (.ref a)) (hd : H dd = some (.xd fs)) (hl : fs.lookup f = some v) : Ev (tXf a (.ref D) (some dd) D f te) σ H v := fun H1 e Q q =>
  h H1 e _ fun H2 e2 => ⟨rfl, rfl, dd, fs, v, rfl, e2 _ _ (e _ _ hd), hl, q H2 e2⟩
section
variable {P : Program} {w : World} {K : PySem.W.Frag} {mg : Str → Option Value} {base : Heap}
theorem ok_told6 {f CL CR B fB fS : Addr} {fd fdS : FuncData} {sp : Sp} {k : Nat} (F : Fun K "_law_told" "_law_told" sLTold f fd) (N : XcC K mg "BadLine" B "at" fB) (gS : mg "Library" = some (.ref CL)) (M : Mk K CL fS) (FS : FnOk P w K mg base (L2.CX P w) k fS fdS ["self", "text"] (fun vs H Q E => spLib6 CL CR sp vs H Q E ∨ spLib6B CR B sp vs H Q E)) (bS : Binds K fdS ["self", "text"] []) :
    FnOk P w K mg base CX0 (k + 2) f fd ["_law_lines"] (spTold6 CR sp) := by
  refine F.ok scTold6 (fun vs H Q E h => ?_) (fun cdv A outer s H vs Q E hr h => ?_)
  · obtain ⟨a, Ls, stop, rfl, _⟩ := h
    rfl
  · obtain ⟨a, Ls, stop, rfl, ha, hlo, hsz, hst, hM, q⟩ := h
    refine ⟨_, pss_cons (ps_set (i := 1) scTold6.nd rfl (.inl rfl) pe_non)
      (pss_cons (ps_try_as (i := 2) rfl rfl scTold6.nd rfl rfl ⟨rfl, by decide, .inl N.gB⟩ takes0
        (fun W pn xe tk _ => pss_one (ps_expr (pe_makeS (es := []) M FS hr (by rfl) gS bS (fun σ => passAt tk σ) (pa_cons (pe_m1 PySem.F.slot_str_join PySem.F.type_str_join (show MtR _ "str.join" (rJoin6 K) from mt_join) pe_str (pv 0)) pa_nil))))
        (fun a oe cls d pn hz hf => pss_one (ps_set (i := 1) scTold6.nd rfl (.inl rfl) (pe_xf N.xf N.noF hz hf (pv 2)))))
      (pss_one (ps_ret (pv 1)))), ?_⟩
    refine q_asg ev_c fun H1 e1 => ?_
    show tM1 (rJoin6 K) (tC (.str (S [10]))) (tVar 0) [some (.ref a), some .non, none] H1 _
    refine ev_join (T := [10]) (xs := Ls) (by show _ + Ls.length * 1 ≤ 16777216; omega) ev_c (ev_var rfl) (sq_of (e1 _ _ ha)) H1 (Ex.refl H1) _ fun H2 e2 => ?_
    intro x dx nx nd ne
    have ex1 : Ex H2 (upd (upd H2 dx (.own x)) x (.ins CL dx [])) := (Ex.new nd).trans (Ex.new ((upd_ne (Ne.symm ne)).trans nx))
    have e3 := (e1.trans e2).trans ex1
    cases stop with
    | none =>
      refine .inl ⟨x, dx, Ls, rfl, upd_same, hlo, hM _ e3, fun H' ext => ⟨rfl, ?_⟩⟩
      have e4 : Ex H2 H' := made_ex nx nd ext
      exact ⟨_, rfl, q H' ((e1.trans e2).trans e4)⟩
    | some kk =>
      refine .inr ⟨x, Ls, kk, rfl, hlo, hst kk rfl, hM _ e3, fun dd H' e4 hdd hxd => ⟨true, N.exm, fun _ aa na => ?_, fun z => nomatch z⟩⟩
      have e5 : Ex H H' := e3.trans e4
      refine s_asg (v := .int (kk : Int)) (ev_xf6 (ev_var rfl) hxd rfl) fun H5 e6 => ?_
      exact ⟨_, rfl, q H5 (e5.trans e6)⟩
end
end Hz
/-! module HzKinds -/
set_option maxHeartbeats 4000000
/-! The kinds of parameters that the law of bounds draws, as read. -/
namespace Hz
open PySem PySem.Spec PyProof.Rows L2 Evl Hc Hs Hy
def kd1 : List Nat := [46]
def kd2 : List Nat := [50]
def kd3 : List Nat := [91, 46, 93]
def kd4 : List Nat := [46, 32, 45, 62, 32, 46]
def kd5 : List Nat := [91, 46, 93, 32, 45, 62, 32, 110, 111, 110, 101]
theorem shape_kinds : isShape kd1 = true ∧ isShape kd3 = true ∧ isShape kd4 = false ∧ isShape kd5 = false := by decide +kernel
theorem part_kd4 : partA kd4 arrowD = [46] ∧ partC kd4 arrowD = [46] := by decide +kernel
theorem part_kd5 : partA kd5 arrowD = [91, 46, 93] ∧ partC kd5 arrowD = noneD := by decide +kernel
theorem read_kd1 : readKind kd1 = some (.shp kd1) := by
  unfold readKind
  rw [if_neg (by decide), if_neg (by decide), if_neg (by decide), if_pos shape_kinds.1]
theorem read_kd2 : readKind kd2 = some (.idx 2) := by
  unfold readKind
  rw [if_neg (by decide), if_pos (by decide)]
theorem read_kd3 : readKind kd3 = some (.shp kd3) := by
  unfold readKind
  rw [if_neg (by decide), if_neg (by decide), if_neg (by decide), if_pos shape_kinds.2.1]
theorem read_kd4 : readKind kd4 = some (.fn [46] (some [46])) := by
  unfold readKind
  rw [if_neg (by decide), if_neg (by decide), if_neg (by decide), if_neg (by rw [shape_kinds.2.2.1]; exact Bool.false_ne_true), part_kd4.1, part_kd4.2, if_pos ⟨by decide +kernel, .inr (by decide +kernel)⟩, if_neg (by decide)]
theorem read_kd5 : readKind kd5 = some (.fn [91, 46, 93] none) := by
  unfold readKind
  rw [if_neg (by decide), if_neg (by decide), if_neg (by decide), if_neg (by rw [shape_kinds.2.2.2]; exact Bool.false_ne_true), part_kd5.1, part_kd5.2, if_pos ⟨by decide +kernel, .inl rfl⟩, if_pos rfl]
/-- a text at a sign that its first part has not -/
theorem part_at {s : Nat} {T a b : List Nat} (h : s ∉ a) : partA (a ++ (s :: T) ++ b) (s :: T) = a ∧ partB (a ++ (s :: T) ++ b) (s :: T) = s :: T ∧ partC (a ++ (s :: T) ++ b) (s :: T) = b := by
  have e : Txt.partition (S (a ++ (s :: T) ++ b)) (S (s :: T)) = (S a, S (s :: T), S b) := by
    have e2 : S (a ++ (s :: T) ++ b) = S a ++ S (s :: T) ++ S b := by rw [S_cat, S_cat]
    rw [e2]
    exact TL.partition_app (s := s) (S := T) rfl h
  unfold partA partB partC
  rw [e]
  exact ⟨rfl, rfl, rfl⟩
/-- a parameter's text, word and kind -/
theorem read_par {w k : List Nat} {K : Knd} (hw : isWord w = true) (hk : readKind k = some K) : readPar (w ++ colonD ++ k) = some (w, K) := by
  have hn : 58 ∉ w := fun h => by
    unfold isWord areSmall at hw
    simp only [Bool.and_eq_true, List.all_eq_true, decide_eq_true_eq] at hw
    exact absurd (hw.1.2 58 h) (by decide)
  obtain ⟨h1, _, h3⟩ := part_at (s := 58) (T := [32]) (a := w) (b := k) hn
  unfold readPar colonD
  rw [h1, h3, hk]
  show (if isWord w = true then some (w, K) else none) = _
  rw [if_pos hw]
end Hz
/-! module HzParts -/
set_option maxHeartbeats 4000000
/-! Parameters between commas, cut again. -/
namespace Hz
open PySem PySem.Spec PyProof.Rows L2 Evl Hc Hs Hy
/-- a text that leaves the scan as it was -/
def Calm (a : List Nat) : Prop := ∀ (L r : List Nat) (i : Nat) (p : List (List Nat)) (k : Int) (s : Nat), 0 ≤ k → L.drop i = a ++ r → scan L a i (p, k, s) = (p, k, s)
theorem calm_nil : Calm [] := fun _ _ _ _ _ _ _ _ => rfl
theorem calm_app {a b : List Nat} (ha : Calm a) (hb : Calm b) : Calm (a ++ b) := fun L r i p k s hk h => by
  rw [List.append_assoc] at h
  rw [scan_app, ha L (b ++ r) i p k s hk h]
  exact hb L r _ p k s hk (drop_app h)
/-- a sign that is no bracket and no comma -/
theorem calm_one {c : Nat} (h1 : c ∉ [91, 40]) (h2 : c ∉ [41, 93]) (h3 : c ≠ 44) : Calm [c] := fun L r i p k s hk h => by
  show stepP L (p, k, s) i c = (p, k, s)
  unfold stepP
  rw [if_neg h1, if_neg h2, if_neg]
  rintro ⟨_, z⟩
  rw [h] at z
  have := congrArg List.head? z
  simp at this
  exact h3 this
theorem calm_all : ∀ {a : List Nat}, (∀ c ∈ a, c ∉ [91, 40] ∧ c ∉ [41, 93] ∧ c ≠ 44) → Calm a
  | [], _ => calm_nil
  | c :: r, h => by
    obtain ⟨h1, h2, h3⟩ := h c List.mem_cons_self
    exact calm_app (a := [c]) (calm_one h1 h2 h3) (calm_all fun x hx => h x (List.mem_cons_of_mem _ hx))
/-- a calm text in brackets -/
theorem calm_br {a : List Nat} (h : Calm a) : Calm (91 :: (a ++ [93])) := fun L r i p k s hk e => by
  show scan L (a ++ [93]) (i + 1) (stepP L (p, k, s) i 91) = (p, k, s)
  have e1 : stepP L (p, k, s) i 91 = (p, k + 1, s) := by
    unfold stepP
    rw [if_pos (by decide)]
  rw [e1, scan_app, h L ([93] ++ r) (i + 1) p (k + 1) s (by omega) (by
    rw [← List.drop_drop, e]
    simp)]
  show stepP L (p, k + 1, s) (i + 1 + a.length) 93 = (p, k, s)
  unfold stepP
  rw [if_neg (by decide), if_pos (by decide)]
  show (p, k + 1 - 1, s) = (p, k, s)
  rw [Int.add_sub_cancel]
theorem calm_kinds : Calm kd1 ∧ Calm kd2 ∧ Calm kd3 ∧ Calm kd4 ∧ Calm kd5 := by
  refine ⟨calm_all (by decide), calm_all (by decide), calm_br (a := [46]) (calm_all (by decide)), calm_all (by decide), ?_⟩
  exact calm_app (a := [91, 46, 93]) (b := [32, 45, 62, 32, 110, 111, 110, 101]) (calm_br (a := [46]) (calm_all (by decide))) (calm_all (by decide))
theorem small_calm : ∀ c ∈ smalls, c ∉ [91, 40] ∧ c ∉ [41, 93] ∧ c ≠ 44 := by decide
theorem calm_word {w : List Nat} (h : isWord w = true) : Calm w := by
  unfold isWord areSmall at h
  simp only [Bool.and_eq_true, List.all_eq_true, decide_eq_true_eq] at h
  exact calm_all fun c hc => small_calm c (h.1.2 c hc)
theorem calm_par {w k : List Nat} (hw : isWord w = true) (hk : Calm k) : Calm (w ++ colonD ++ k) := calm_app (calm_app (calm_word hw) (calm_all (by decide))) hk
theorem cut_join : ∀ (l : List (List Nat)) (x : List Nat) (L : List Nat) (i : Nat) (p : List (List Nat)), (∀ y ∈ x :: l, Calm y) → L.drop i = TL.joinL [44, 32] (x :: l) →
    (scan L (TL.joinL [44, 32] (x :: l)) i (p, 0, i)).1 ++ [L.drop (scan L (TL.joinL [44, 32] (x :: l)) i (p, 0, i)).2.2] = p ++ (x :: l)
  | [], x, L, i, p, hc, h => by
    have e := hc x List.mem_cons_self L [] i p 0 i (Int.le_refl 0) (by rw [List.append_nil]; exact h)
    show (scan L x i (p, 0, i)).1 ++ [L.drop (scan L x i (p, 0, i)).2.2] = p ++ [x]
    rw [e, show L.drop (p, (0 : Int), i).2.2 = x from h]
  | y :: l, x, L, i, p, hc, h => by
    rw [joinL_cons] at h ⊢
    rw [scan_app, scan_app, hc x List.mem_cons_self L _ i p 0 i (Int.le_refl 0) h]
    have d1 : L.drop (i + x.length) = [44, 32] ++ TL.joinL [44, 32] (y :: l) := drop_app h
    have s1 : stepP L (p, 0, i) (i + x.length) 44 = (p ++ [x], 0, i + x.length + 2) := by
      unfold stepP
      rw [if_neg (by decide), if_neg (by decide), if_pos ⟨rfl, by rw [d1]; rfl⟩]
      show (p ++ [(L.drop i).take (i + x.length - i)], _, _) = _
      rw [h, Nat.add_sub_cancel_left, List.take_left]
    have d2 : L.drop (i + x.length + 1) = 32 :: TL.joinL [44, 32] (y :: l) := by
      rw [← List.drop_drop, d1]
      rfl
    have s2 : stepP L (p ++ [x], 0, i + x.length + 2) (i + x.length + 1) 32 = (p ++ [x], 0, i + x.length + 2) := by
      unfold stepP
      rw [if_neg (by decide), if_neg (by decide), if_neg (by rw [d2]; rintro ⟨_, z⟩; simp at z)]
    have s3 : scan L [44, 32] (i + x.length) (p, 0, i) = (p ++ [x], 0, i + x.length + 2) := by
      show stepP L (stepP L (p, 0, i) _ 44) _ 32 = _
      rw [s1, s2]
    rw [s3]
    have z := cut_join l y L (i + x.length + 2) (p ++ [x]) (fun u hu => hc u (List.mem_cons_of_mem _ hu)) (drop_app (a := [44, 32]) d1)
    refine z.trans ?_
    simp
theorem parts_join {x : List Nat} {l : List (List Nat)} (hc : ∀ y ∈ x :: l, Calm y) : partsOf (TL.joinL [44, 32] (x :: l)) = x :: l := by
  unfold partsOf
  exact cut_join l x _ 0 [] hc rfl
end Hz
/-! module HvGo -/
set_option maxHeartbeats 4000000
/-! k06's texts: what the lines lead to, one behind the other. -/
namespace Hv
open PySem PySem.Spec PyProof.Rows L2 Evl Hc Hs Hy Hz
def Go : S6 → List L6 → S6 → Prop
  | s, [], t => s = t
  | s, l :: r, t => pre6 s l ∧ ∃ u, next6 s l = some u ∧ Go u r t
theorem go_app : ∀ {a b : List L6} {s t u : S6}, Go s a t → Go t b u → Go s (a ++ b) u
  | [], b, s, t, u, h, k => by
    have e : s = t := h
    rw [e]
    exact k
  | l :: a, b, s, t, u, h, k => by
    obtain ⟨p, v, n, g⟩ := h
    exact ⟨p, v, n, go_app g k⟩
theorem go_one {s t : S6} {l : L6} (p : pre6 s l) (n : next6 s l = some t) : Go s [l] t := ⟨p, t, n, rfl⟩
theorem go_st : ∀ {ls : List L6} {s t : S6}, Go s ls t → st6 s ls = t
  | [], s, t, h => h
  | l :: r, s, t, h => by
    obtain ⟨p, u, n, g⟩ := h
    show st6 ((next6 s l).getD s) r = t
    rw [n]
    exact go_st g
theorem go_at : ∀ {ls : List L6} {s t : S6}, Go s ls t → ∀ i l, ls[i]? = some l → pre6 (st6 s (ls.take i)) l ∧ ∃ u, next6 (st6 s (ls.take i)) l = some u
  | [], s, t, h, i, l, hl => by simp at hl
  | a :: r, s, t, h, 0, l, hl => by
    obtain ⟨p, u, n, g⟩ := h
    have e : a = l := by simpa using hl
    subst e
    exact ⟨p, u, n⟩
  | a :: r, s, t, h, i + 1, l, hl => by
    obtain ⟨p, u, n, g⟩ := h
    have hl' : r[i]? = some l := by simpa using hl
    have z := go_at g i l hl'
    show pre6 (st6 ((next6 s a).getD s) (r.take i)) l ∧ _
    rw [List.take_succ_cons]
    have e : st6 s (a :: r.take i) = st6 u (r.take i) := by
      show st6 ((next6 s a).getD s) (r.take i) = _
      rw [n]
      rfl
    rw [e]
    have e2 : (next6 s a).getD s = u := by rw [n]; rfl
    rw [e2]
    exact z
theorem runs_ok {ls : List L6} {t : S6} (h : Go s0 ls t) : Runs ls none := fun i l hl _ => by
  obtain ⟨p, u, n⟩ := go_at h i l hl
  exact ⟨p, by rw [if_neg (by simp)]; exact ⟨u, n⟩⟩
theorem runs_bad {a b : List L6} {t : S6} {l : L6} (h : Go s0 a t) (p : pre6 t l) (n : next6 t l = none) : Runs (a ++ l :: b) (some a.length) := fun i m hm hle => by
  have hi : i ≤ a.length := hle _ rfl
  unfold stAt
  by_cases e : i = a.length
  · subst e
    rw [List.take_left, if_pos rfl, go_st h]
    have : m = l := by simpa using hm.symm
    rw [this]
    exact ⟨p, n⟩
  · have lt : i < a.length := by omega
    rw [List.take_append_of_le_length hi, if_neg (fun z => e (Option.some.inj z).symm)]
    rw [List.getElem?_append_left lt] at hm
    exact go_at h i m hm
/-! ### lines -/
structure GoodL (l : List Nat) : Prop where
  ne : l ≠ []
  nl : 10 ∉ l
  le : l.length ≤ 200
theorem sum_le' {c : Nat} : ∀ {l : List (List Nat)}, (∀ x ∈ l, x.length ≤ c) → (l.map List.length).sum ≤ l.length * c
  | [], _ => Nat.zero_le _
  | x :: l, h => by
    have h1 := sum_le' (l := l) fun y hy => h y (List.mem_cons_of_mem _ hy)
    have h2 := h x List.mem_cons_self
    rw [List.map_cons, List.sum_cons, List.length_cons, Nat.add_mul]
    omega
theorem lines_good {Ls : List (List Nat)} (n : Ls ≠ []) (h : ∀ l ∈ Ls, GoodL l) (few : Ls.length ≤ 60) : LinesOk Ls ∧ (Ls.map List.length).sum + Ls.length ≤ 16777216 := by
  have hle := joinL_len (T := [10]) (m := 200) (xs := Ls) fun x hx => (h x hx).le
  have hs := sum_le' (c := 200) (l := Ls) fun x hx => (h x hx).le
  refine ⟨⟨?_, n, fun l hl => (h l hl).nl, ?_⟩, by omega⟩
  · cases Ls with
    | nil => exact absurd rfl n
    | cons a r =>
      have ha := (h a List.mem_cons_self).ne
      cases r with
      | nil => exact ha
      | cons b r =>
        rw [joinL_cons]
        intro z
        exact ha (List.append_eq_nil_iff.mp z).1
  · have e1 : ([10] : List Nat).length = 1 := rfl
    rw [e1] at hle
    show _ ≤ 30000
    have : Ls.length * (200 + 1) ≤ 60 * (200 + 1) := Nat.mul_le_mul_right _ few
    omega
theorem no_start {L : List Nat} {c : Nat} {r : List Nat} (h : L.head? ≠ some c) : startsL L (c :: r) = false := by
  unfold startsL
  cases L with
  | nil => rfl
  | cons d m =>
    have : d ≠ c := fun z => h (by rw [z]; rfl)
    simp [this]
theorem yes_start (a b : List Nat) : startsL (a ++ b) a = true := starts_app a b
theorem endsG_app (a b : List Nat) : endsG (a ++ b) b = true := by
  unfold endsG Txt.endswith
  rw [StrLaws.subAt_eq, S_len, S_len]
  show (decide (0 + b.length ≤ (a ++ b).length) && (((a ++ b).drop ((a ++ b).length - b.length)).take b.length == b)) = true
  rw [List.length_append, Nat.add_sub_cancel, List.drop_left, List.take_of_length_le (Nat.le_refl _), Bool.and_eq_true]
  exact ⟨decide_eq_true (by omega), beq_self_eq_true b⟩
theorem word_all {w : List Nat} (h : isWord w = true) : (∀ c ∈ w, c ∈ smalls) ∧ 1 ≤ w.length ∧ w.length ≤ 8 := by
  unfold isWord areSmall at h
  simp only [Bool.and_eq_true, List.all_eq_true, decide_eq_true_eq] at h
  exact ⟨h.1.2, h.1.1.1, h.1.1.2⟩
theorem word_no {w : List Nat} (h : isWord w = true) {c : Nat} (hc : c ∉ smalls) : c ∉ w := fun z => hc ((word_all h).1 c z)
theorem word_head {w : List Nat} (h : isWord w = true) {c : Nat} (hc : c ∉ smalls) (r : List Nat) : (w ++ r).head? ≠ some c := by
  obtain ⟨h1, h2, _⟩ := word_all h
  cases w with
  | nil => exact absurd h2 (by simp)
  | cons d m =>
    intro z
    have e : d = c := by simpa using z
    exact hc (e ▸ h1 d List.mem_cons_self)
theorem cuts_none {s : Nat} : ∀ {L : List Nat}, s ∉ L → cuts s L = [L]
  | [], _ => rfl
  | c :: r, h => by
    have h1 : c ≠ s := fun z => h (z ▸ List.mem_cons_self)
    have h2 : s ∉ r := fun z => h (List.mem_cons_of_mem _ z)
    unfold cuts
    rw [if_neg h1, cuts_none h2]
/-! ### fields -/
structure Fl where
  w : List Nat
  sh : List Nat
structure FlOk (f : Fl) : Prop where
  w : isWord f.w = true
  sh : isShape f.sh = true
  le : f.sh.length ≤ 105
  nl : 10 ∉ f.sh
def fX (f : Fl) : List Nat := f.w ++ colonD ++ f.sh
def fL (f : Fl) : L6 := .mem (fX f)
def fP (f : Fl) : List Nat × List Nat := (f.w, f.sh)
theorem m58 : ∀ m ∈ marks3, 58 ∉ m := by decide
theorem m32 : ∀ m ∈ marks3, 32 ∉ m := by decide
theorem fX_parts {f : Fl} (h : isWord f.w = true) : partA (fX f) blankD ∉ marks3 ∧ partA (fX f) colonD = f.w ∧ partC (fX f) colonD = f.sh := by
  have h1 := part_at (s := 58) (T := [32]) (a := f.w) (b := f.sh) (word_no h (by decide))
  have n32 : 32 ∉ f.w ++ [58] := fun z => (List.mem_append.mp z).elim (word_no h (by decide)) (by decide)
  have h2 := part_at (s := 32) (T := []) (a := f.w ++ [58]) (b := f.sh) n32
  have e : fX f = (f.w ++ [58]) ++ [32] ++ f.sh := by
    unfold fX colonD
    simp
  refine ⟨?_, h1.1, h1.2.2⟩
  rw [e]
  have e2 : partA ((f.w ++ [58]) ++ [32] ++ f.sh) blankD = f.w ++ [58] := h2.1
  rw [e2]
  intro z
  exact m58 _ z (List.mem_append_right _ List.mem_cons_self)
theorem fX_len {f : Fl} (h : FlOk f) : (fX f).length ≤ 115 := by
  have := (word_all h.w).2.2
  have := h.le
  unfold fX colonD
  rw [List.length_append, List.length_append]
  show f.w.length + 2 + f.sh.length ≤ 115
  omega
theorem pre_mem {s : S6} {L : List Nat} (ha : s.ab ≠ []) (hl : L.length ≤ 192) (hh : L.head? ≠ some 32) : pre6 s (.mem L) := ⟨ha, by show L.length + 4 ≤ 30000; omega, no_start hh⟩
theorem fX_pre {s : S6} {f : Fl} (h : FlOk f) (ha : s.ab ≠ []) : pre6 s (fL f) := pre_mem ha (Nat.le_trans (fX_len h) (by decide)) (by
  unfold fX
  rw [List.append_assoc]
  exact word_head h.w (by decide) _)
theorem fX_next {s : S6} {f : Fl} (h : isWord f.w = true) : next6 s (fL f) = if fld6 s (fX f) = true then some { s with fs := s.fs ++ [fP f] } else none := by
  obtain ⟨h1, h2, h3⟩ := fX_parts h
  show (if partA (fX f) blankD ∈ marks3 then _ else _) = _
  rw [if_neg h1, h2, h3]
  rfl
theorem fX_fld {s : S6} {f : Fl} (h : isWord f.w = true) (hs : isShape f.sh = true) : fld6 s (fX f) = (decide (s.cur = none) && (!decide (f.w ∈ s.fs.map (·.1)) && !decide (s.fs.length = 4))) := by
  obtain ⟨h1, h2, h3⟩ := fX_parts h
  unfold fld6
  rw [h2, h3, h, hs]
  simp
theorem fX_go {s : S6} {f : Fl} (h : FlOk f) (ha : s.ab ≠ []) (hc : s.cur = none) (hn : f.w ∉ s.fs.map (·.1)) (hl : s.fs.length < 4) : Go s [fL f] { s with fs := s.fs ++ [fP f] } :=
  go_one (fX_pre h ha) (by
    rw [fX_next h.w, fX_fld h.w h.sh, if_pos]
    rw [decide_eq_true hc, decide_eq_false hn, decide_eq_false (by omega)]
    rfl)
theorem go_fields : ∀ (fs : List Fl) (s : S6), (∀ f ∈ fs, FlOk f) → s.ab ≠ [] → s.cur = none → (s.fs.map (·.1) ++ fs.map Fl.w).Nodup → s.fs.length + fs.length ≤ 4 → Go s (fs.map fL) { s with fs := s.fs ++ fs.map fP }
  | [], s, _, _, _, _, _ => by
    show s = _
    rw [List.map_nil, List.append_nil]
  | f :: r, s, hf, ha, hc, hn, hl => by
    have nn : f.w ∉ s.fs.map (·.1) := fun z => by
      rw [List.map_cons, List.nodup_append] at hn
      exact hn.2.2 _ z _ List.mem_cons_self rfl
    rw [List.length_cons] at hl
    have g1 := fX_go (s := s) (hf f List.mem_cons_self) ha hc nn (by omega)
    have g2 := go_fields r { s with fs := s.fs ++ [fP f] } (fun x hx => hf x (List.mem_cons_of_mem _ hx)) ha hc (by
      show ((s.fs ++ [fP f]).map (·.1) ++ r.map Fl.w).Nodup
      rw [List.map_append, List.append_assoc]
      exact hn) (by
      show (s.fs ++ [fP f]).length + r.length ≤ 4
      rw [List.length_append, List.length_singleton]
      omega)
    have g := go_app g1 g2
    rw [List.singleton_append, ← List.map_cons] at g
    have e : (s.fs ++ [fP f]) ++ r.map fP = s.fs ++ (f :: r).map fP := by simp
    rw [← e]
    exact g
/-! ### methods and rows -/
structure Mt where
  w : List Nat
  mr : List Nat
  ps : List Nat
  rx : List Nat
structure MtOk (m : Mt) : Prop where
  w : isWord m.w = true
  mr : m.mr ∈ marks3
  ps : (readPars m.ps).isSome = true
  pl : m.ps.length ≤ 150
  pn : 10 ∉ m.ps
  row : RowLine m.rx
  rl : m.rx.length ≤ 100
  rn : 10 ∉ m.rx
def mX (w mk ps : List Nat) : List Nat := mk ++ [32] ++ (w ++ [40] ++ (ps ++ closeD))
def mL (m : Mt) : List L6 := .mem (mX m.w m.mr m.ps) :: List.replicate 6 (.row m.rx)
theorem mX_parts {w mk ps : List Nat} (hm : mk ∈ marks3) (hw : 40 ∉ w) : partA (mX w mk ps) blankD = mk ∧ partC (mX w mk ps) blankD = w ++ [40] ++ (ps ++ closeD) ∧ partA (w ++ [40] ++ (ps ++ closeD)) parenD = w ∧ partC (w ++ [40] ++ (ps ++ closeD)) parenD = ps ++ closeD ∧ parL (w ++ [40] ++ (ps ++ closeD)) = ps := by
  have h1 := part_at (s := 32) (T := []) (a := mk) (b := w ++ [40] ++ (ps ++ closeD)) (m32 _ hm)
  have h2 := part_at (s := 40) (T := []) (a := w) (b := ps ++ closeD) hw
  have e4 : partC (w ++ [40] ++ (ps ++ closeD)) parenD = ps ++ closeD := h2.2.2
  refine ⟨h1.1, h1.2.2, h2.1, e4, ?_⟩
  unfold parL
  rw [e4, List.length_append]
  have : closeD.length = 2 := rfl
  rw [this, Nat.add_sub_cancel, List.take_left]
theorem mark_le : ∀ m ∈ marks3, m.length ≤ 5 ∧ m.head? ≠ some 32 ∧ m ≠ [] ∧ 10 ∉ m := by decide
theorem mX_pre {s : S6} {w mk ps : List Nat} (ha : s.ab ≠ []) (hm : mk ∈ marks3) (hw : w.length ≤ 9) (hp : ps.length ≤ 150) : pre6 s (.mem (mX w mk ps)) := by
  obtain ⟨h1, h2, h3, _⟩ := mark_le mk hm
  refine pre_mem ha ?_ ?_
  · unfold mX closeD
    simp only [List.length_append, List.length_cons, List.length_nil]
    omega
  · unfold mX
    cases mk with
    | nil => exact absurd rfl h3
    | cons c r => exact h2
theorem mX_next {s : S6} {w mk ps : List Nat} (hm : mk ∈ marks3) (hw : 40 ∉ w) : next6 s (.mem (mX w mk ps)) = if (isWord w && (!decide (w ∈ s.ds) && (!decide (s.ds.length = 5) && (readPars ps).isSome))) = true then some { s with ds := s.ds ++ [w], cur := some 0 } else none := by
  obtain ⟨h1, h2, h3, h4, h5⟩ := mX_parts (ps := ps) hm hw
  show (if partA (mX w mk ps) blankD ∈ marks3 then _ else _) = _
  rw [h1, if_pos hm, h2, h3]
  have e : mth6 s (w ++ [40] ++ (ps ++ closeD)) = (isWord w && (!decide (w ∈ s.ds) && (!decide (s.ds.length = 5) && (readPars ps).isSome))) := by
    unfold mth6
    rw [h3, h4, h5, endsG_app, Bool.and_true]
  rw [e]
theorem go_mX {s : S6} {w mk ps : List Nat} (ha : s.ab ≠ []) (hm : mk ∈ marks3) (hw : isWord w = true) (hp : ps.length ≤ 150) (hr : (readPars ps).isSome = true) (hn : w ∉ s.ds) (hl : s.ds.length < 5) : Go s [.mem (mX w mk ps)] { s with ds := s.ds ++ [w], cur := some 0 } :=
  go_one (mX_pre ha hm (Nat.le_trans (word_all hw).2.2 (by decide)) hp) (by
    rw [mX_next hm (word_no hw (by decide)), if_pos]
    rw [hw, decide_eq_false hn, decide_eq_false (by omega), hr]
    rfl)
theorem row_next {s : S6} {L : List Nat} {k : Nat} (hc : s.cur = some k) : next6 s (.row L) = if k = 6 then none else some { s with cur := some (k + 1) } := by
  show (match s.cur with
    | none => none
    | some k => if k = 6 then none else some { s with cur := some (k + 1) }) = _
  rw [hc]
theorem row_pre {s : S6} {L : List Nat} {k : Nat} (ha : s.ab ≠ []) (hr : RowLine L) (hl : L.length ≤ 100) (hc : s.cur = some k) : pre6 s (.row L) := ⟨ha, by show L.length + 8 ≤ 30000; omega, hr, by rw [hc]; simp⟩
theorem go_rows {L : List Nat} (hr : RowLine L) (hl : L.length ≤ 100) : ∀ (n k : Nat) (s : S6), s.ab ≠ [] → s.cur = some k → k + n ≤ 6 → Go s (List.replicate n (.row L)) { s with cur := some (k + n) }
  | 0, k, s, _, hc, _ => by
    show s = _
    rw [Nat.add_zero, ← hc]
  | n + 1, k, s, ha, hc, hk => by
    refine ⟨row_pre ha hr hl hc, { s with cur := some (k + 1) }, by rw [row_next hc, if_neg (by omega)], ?_⟩
    have g := go_rows hr hl n (k + 1) { s with cur := some (k + 1) } ha rfl (by omega)
    have e : k + 1 + n = k + (n + 1) := by omega
    rw [e] at g
    exact g
theorem go_meth {s : S6} {m : Mt} (h : MtOk m) (ha : s.ab ≠ []) (hn : m.w ∉ s.ds) (hl : s.ds.length < 5) : Go s (mL m) { s with ds := s.ds ++ [m.w], cur := some 6 } := by
  have g1 := go_mX (s := s) ha h.mr h.w h.pl h.ps hn hl
  have g2 := go_rows h.row h.rl 6 0 { s with ds := s.ds ++ [m.w], cur := some 0 } ha rfl (by decide)
  exact go_app g1 g2
theorem go_meths : ∀ (ms : List Mt) (s : S6), (∀ m ∈ ms, MtOk m) → s.ab ≠ [] → (s.ds ++ ms.map Mt.w).Nodup → s.ds.length + ms.length ≤ 5 → Go s (ms.flatMap mL) { s with ds := s.ds ++ ms.map Mt.w, cur := if ms = [] then s.cur else some 6 }
  | [], s, _, _, _, _ => by
    show s = _
    rw [List.map_nil, List.append_nil, if_pos rfl]
  | m :: r, s, hm, ha, hn, hl => by
    have nn : m.w ∉ s.ds := fun z => by
      rw [List.map_cons, List.nodup_append] at hn
      exact hn.2.2 _ z _ List.mem_cons_self rfl
    rw [List.length_cons] at hl
    have g1 := go_meth (s := s) (hm m List.mem_cons_self) ha nn (by omega)
    have g2 := go_meths r { s with ds := s.ds ++ [m.w], cur := some 6 } (fun x hx => hm x (List.mem_cons_of_mem _ hx)) ha (by
      show ((s.ds ++ [m.w]) ++ r.map Mt.w).Nodup
      rw [List.append_assoc]
      exact hn) (by
      show (s.ds ++ [m.w]).length + r.length ≤ 5
      rw [List.length_append, List.length_singleton]
      omega)
    have g := go_app g1 g2
    rw [← List.flatMap_cons] at g
    have e : (s.ds ++ [m.w]) ++ r.map Mt.w = s.ds ++ (m :: r).map Mt.w := by simp
    have e2 : (if r = [] then some 6 else some 6) = some 6 := by split <;> rfl
    show Go s _ { s with ds := _, cur := if m :: r = [] then s.cur else some 6 }
    rw [← e, if_neg (by simp)]
    have g' : Go s ((m :: r).flatMap mL) { s with ds := (s.ds ++ [m.w]) ++ r.map Mt.w, cur := if r = [] then some 6 else some 6 } := g
    rw [e2] at g'
    exact g'
/-! ### the text of one class -/
def s1 (n : Nm) : S6 := ⟨[(n, [n])], [], [], none⟩
theorem go_head {n : Nm} (g : GoodNm n) : Go s0 [.cls n []] (s1 n) := by
  refine go_one ⟨g, (fun b hb => by cases hb), List.nodup_nil, by decide, (by simp [s0]), (fun b hb => by cases hb), by decide, (fun e he => by cases he)⟩ ?_
  have e : next6 s0 (.cls n []) = (merge (rowsA ([] : Ab) [])).map fun m => (⟨[] ++ [(n, n :: m)], [], [], none⟩ : S6) := rfl
  rw [e, show merge (rowsA ([] : Ab) []) = some [] from merge_nil rfl]
  rfl
def st1 (n : Nm) (fs : List Fl) (ms : List Mt) : S6 := ⟨[(n, [n])], fs.map fP, ms.map Mt.w, if ms = [] then none else some 6⟩
def lines1 (n : Nm) (fs : List Fl) (ms : List Mt) : List L6 := [.cls n []] ++ fs.map fL ++ ms.flatMap mL
theorem go_lines {n : Nm} {fs : List Fl} {ms : List Mt} (g : GoodNm n) (hf : ∀ f ∈ fs, FlOk f) (hm : ∀ m ∈ ms, MtOk m) (nf : (fs.map Fl.w).Nodup) (nm : (ms.map Mt.w).Nodup) (lf : fs.length ≤ 4) (lm : ms.length ≤ 5) : Go s0 (lines1 n fs ms) (st1 n fs ms) := by
  have ne : (s1 n).ab ≠ [] := by simp [s1]
  have g2 := go_fields fs (s1 n) hf ne rfl (by simpa [s1] using nf) (by simpa [s1] using lf)
  have g3 := go_meths ms { s1 n with fs := (s1 n).fs ++ fs.map fP } hm ne (by simpa [s1] using nm) (by simpa [s1] using lm)
  have g4 := go_app (go_app (go_head g) g2) g3
  have e : ({ ({ s1 n with fs := (s1 n).fs ++ fs.map fP } : S6) with ds := ({ s1 n with fs := (s1 n).fs ++ fs.map fP } : S6).ds ++ ms.map Mt.w, cur := if ms = [] then ({ s1 n with fs := (s1 n).fs ++ fs.map fP } : S6).cur else some 6 } : S6) = st1 n fs ms := by
    simp [s1, st1]
  rw [e] at g4
  exact g4
end Hv
/-! module HvBad -/
set_option maxHeartbeats 4000000
/-! k06's lines: rows, parameters, what is wrong. -/
namespace Hv
open PySem PySem.Spec PyProof.Rows L2 Evl Hc Hs Hy Hz
/-! ### rows -/
def selfP (w : List Nat) : List Nat := selfD ++ w
theorem path_self {w : List Nat} (h : isWord w = true) : readPath (selfP w) = some ⟨true, w, []⟩ := by
  unfold readPath removePre selfP
  rw [yes_start, if_pos rfl]
  have e : (selfD ++ w).drop selfD.length = w := List.drop_left
  rw [e, cuts_none (word_no h (by decide))]
  show (if isWord w = true ∧ ([] : List (List Nat)).length ≤ 3 ∧ _ then _ else _) = _
  rw [if_pos ⟨h, Nat.zero_le _, rfl⟩]
  rfl
def newT : List Nat := newD ++ [46]
def copyT (w : List Nat) : List Nat := copyD ++ (selfP w ++ [41])
inductive TermOk : List Nat → Prop where
  | new : TermOk newT
  | cpy {w} (h : isWord w = true) : TermOk (copyT w)
  | pth {w} (h : isWord w = true) : TermOk (selfP w)
theorem self_no {w : List Nat} (h : isWord w = true) {c : Nat} (h1 : c ∉ smalls) (h2 : c ≠ 46) : c ∉ selfP w := by
  unfold selfP
  intro z
  rcases List.mem_append.mp z with z | z
  · have : ∀ x ∈ selfD, x ∈ smalls ∨ x = 46 := by decide
    exact (this c z).elim h1 h2
  · exact word_no h h1 z
theorem self_len {w : List Nat} (h : isWord w = true) : (selfP w).length ≤ 13 := by
  have := (word_all h).2.2
  unfold selfP
  rw [List.length_append]
  show 5 + w.length ≤ 13
  omega
theorem term_simple {t : List Nat} (h : TermOk t) : ∃ s, readSimple t = some s := by
  cases h with
  | new =>
    refine ⟨.new [46], ?_⟩
    unfold readSimple newT
    rw [if_pos (yes_start _ _)]
    have e : (newD ++ [46]).drop 4 = [46] := rfl
    rw [e, if_pos (by decide +kernel)]
  | @cpy w h =>
    refine ⟨.cpy ⟨true, w, []⟩ none, ?_⟩
    unfold readSimple copyT
    rw [if_neg (by
      rw [show newD = 110 :: [101, 119, 32] from rfl, no_start (by simp [copyD])]
      exact Bool.false_ne_true), if_pos (yes_start _ _)]
    have e : copiedPart (copyD ++ (selfP w ++ [41])) = (selfP w, none) := by
      unfold copiedPart
      rw [if_pos (by
        rw [← List.append_assoc, List.getLast?_append]
        rfl)]
      have em : ((copyD ++ (selfP w ++ [41])).drop 5).take ((copyD ++ (selfP w ++ [41])).length - 1 - 5) = selfP w := by
        have e1 : (copyD ++ (selfP w ++ [41])).drop 5 = selfP w ++ [41] := rfl
        have e2 : (copyD ++ (selfP w ++ [41])).length - 1 - 5 = (selfP w).length := by
          rw [List.length_append, List.length_append]
          show 5 + ((selfP w).length + 1) - 1 - 5 = _
          omega
        rw [e1, e2, List.take_left]
      have n44 : ∀ d, lastN (selfP w) 3 ≠ [44, 32, d] := fun d z => by
        have : (44 : Nat) ∈ lastN (selfP w) 3 := by rw [z]; exact List.mem_cons_self
        exact self_no h (c := 44) (by decide) (by decide) (List.mem_of_mem_drop this)
      dsimp only
      rw [em, if_neg (n44 _), if_neg (n44 _), if_neg (n44 _)]
    rw [e]
    show (readPath (selfP w)).map _ = _
    rw [path_self h]
    rfl
  | @pth w h =>
    refine ⟨.pth ⟨true, w, []⟩, ?_⟩
    unfold readSimple
    rw [if_neg (by
      rw [show newD = 110 :: [101, 119, 32] from rfl, no_start (by simp [selfP, selfD])]
      exact Bool.false_ne_true), if_neg (by
      rw [show copyD = 99 :: [111, 112, 121, 40] from rfl, no_start (by simp [selfP, selfD])]
      exact Bool.false_ne_true), path_self h]
    rfl
theorem term_len {t : List Nat} (h : TermOk t) : t.length ≤ 20 ∧ 10 ∉ t := by
  cases h with
  | new => decide
  | @cpy w h =>
    have := self_len h
    unfold copyT copyD
    refine ⟨by simp only [List.length_append, List.length_cons, List.length_nil]; omega, fun z => ?_⟩
    rcases List.mem_append.mp z with z | z
    · revert z
      decide
    · rcases List.mem_append.mp z with z | z
      · exact self_no h (by decide) (by decide) z
      · revert z
        decide
  | @pth w h => exact ⟨Nat.le_trans (self_len h) (by decide), self_no h (by decide) (by decide)⟩
def rX (w t : List Nat) : List Nat := selfP w ++ eqD ++ t
theorem row_line {w t : List Nat} (h : isWord w = true) (ht : TermOk t) : RowLine (rX w t) := by
  have hh : (rX w t).head? = some 115 := rfl
  obtain ⟨h1, h2, h3⟩ := part_at (s := 32) (T := [61, 32]) (a := selfP w) (b := t) (self_no h (by decide) (by decide))
  have e1 : partA (rX w t) eqD = selfP w := h1
  have e2 : partB (rX w t) eqD = eqD := h2
  have e3 : partC (rX w t) eqD = t := h3
  exact ⟨no_start (by rw [hh]; decide), no_start (by rw [hh]; decide), by rw [e2]; decide, by rw [e1]; exact ⟨_, path_self h, rfl⟩, by rw [e3]; exact term_simple ht⟩
theorem rX_len {w t : List Nat} (h : isWord w = true) (ht : TermOk t) : (rX w t).length ≤ 100 ∧ 10 ∉ rX w t := by
  have := self_len h
  obtain ⟨h1, h2⟩ := term_len ht
  unfold rX
  refine ⟨by
    rw [List.length_append, List.length_append]
    show (selfP w).length + 3 + t.length ≤ 100
    omega, fun z => ?_⟩
  rcases List.mem_append.mp z with z | z
  · rcases List.mem_append.mp z with z | z
    · exact self_no h (by decide) (by decide) z
    · revert z
      decide
  · exact h2 z
/-! ### parameters -/
structure PaOk (p : List Nat × List Nat) : Prop where
  w : isWord p.1 = true
  k : ∃ K, readKind p.2 = some K
  c : Calm p.2
  le : p.2.length ≤ 11
  nl : 10 ∉ p.2
def pX (p : List Nat × List Nat) : List Nat := p.1 ++ colonD ++ p.2
def psX (l : List (List Nat × List Nat)) : List Nat := TL.joinL [44, 32] (l.map pX)
theorem kind_of {k : List Nat} (h : k ∈ [kd1, kd2, kd3, kd4, kd5]) : (∃ K, readKind k = some K) ∧ Calm k ∧ k.length ≤ 11 ∧ 10 ∉ k := by
  obtain ⟨c1, c2, c3, c4, c5⟩ := calm_kinds
  simp only [List.mem_cons, List.not_mem_nil, or_false] at h
  rcases h with rfl | rfl | rfl | rfl | rfl
  · exact ⟨⟨_, read_kd1⟩, c1, by decide, by decide⟩
  · exact ⟨⟨_, read_kd2⟩, c2, by decide, by decide⟩
  · exact ⟨⟨_, read_kd3⟩, c3, by decide, by decide⟩
  · exact ⟨⟨_, read_kd4⟩, c4, by decide, by decide⟩
  · exact ⟨⟨_, read_kd5⟩, c5, by decide, by decide⟩
theorem pa_ok {w k : List Nat} (hw : isWord w = true) (h : k ∈ [kd1, kd2, kd3, kd4, kd5]) : PaOk (w, k) := by
  obtain ⟨h1, h2, h3, h4⟩ := kind_of h
  exact ⟨hw, h1, h2, h3, h4⟩
theorem pX_ne {p : List Nat × List Nat} : pX p ≠ [] := by
  unfold pX colonD
  simp
theorem psX_ne {p : List Nat × List Nat} {l : List (List Nat × List Nat)} : psX (p :: l) ≠ [] := by
  unfold psX
  cases l with
  | nil => exact pX_ne
  | cons q r =>
    rw [List.map_cons, List.map_cons, joinL_cons]
    intro z
    exact pX_ne (List.append_eq_nil_iff.mp z).1
theorem parsOf_psX {l : List (List Nat × List Nat)} (h : ∀ p ∈ l, PaOk p) : parsOf (psX l) = l.map pX := by
  unfold parsOf
  cases l with
  | nil => rfl
  | cons p r =>
    rw [if_neg psX_ne]
    unfold psX
    rw [List.map_cons]
    refine parts_join fun y hy => ?_
    rw [← List.map_cons] at hy
    obtain ⟨q, hq, rfl⟩ := List.mem_map.mp hy
    exact calm_par (h q hq).w (h q hq).c
theorem readPar_pX {p : List Nat × List Nat} (h : PaOk p) : ∃ K, readPar (pX p) = some (p.1, K) := by
  obtain ⟨K, hK⟩ := h.k
  exact ⟨K, read_par h.w hK⟩
theorem filter_pX : ∀ {l : List (List Nat × List Nat)}, (∀ p ∈ l, PaOk p) → (((l.map pX).filterMap readPar).map (·.1)) = l.map (·.1) ∧ ((l.map pX).map readPar).all Option.isSome = true
  | [], _ => ⟨rfl, rfl⟩
  | p :: r, h => by
    obtain ⟨K, hK⟩ := readPar_pX (h p List.mem_cons_self)
    obtain ⟨i1, i2⟩ := filter_pX (l := r) fun x hx => h x (List.mem_cons_of_mem _ hx)
    rw [List.map_cons, List.filterMap_cons, hK]
    refine ⟨?_, ?_⟩
    · show p.1 :: _ = _
      rw [i1]
      rfl
    · rw [List.map_cons, List.all_cons, i2, hK]
      rfl
theorem pars_ok {l : List (List Nat × List Nat)} (h : ∀ p ∈ l, PaOk p) (nd : (l.map (·.1)).Nodup) (l3 : l.length ≤ 3) : (readPars (psX l)).isSome = true := by
  obtain ⟨h1, h2⟩ := filter_pX h
  unfold readPars
  rw [parsOf_psX h, if_pos ⟨h2, by rw [List.length_map]; exact l3, by rw [h1]; exact nd⟩]
  rfl
theorem pars_bad {l : List (List Nat × List Nat)} (h : ∀ p ∈ l, PaOk p) (l3 : 3 < l.length) : (readPars (psX l)).isSome = false := by
  unfold readPars
  rw [parsOf_psX h, if_neg (fun z => absurd z.2.1 (by rw [List.length_map]; omega))]
  rfl
theorem psX_len {l : List (List Nat × List Nat)} (h : ∀ p ∈ l, PaOk p) (few : l.length ≤ 4) : (psX l).length ≤ 150 ∧ 10 ∉ psX l := by
  have h1 := joinL_len (T := [44, 32]) (m := 21) (xs := l.map pX) fun x hx => by
    obtain ⟨p, hp, rfl⟩ := List.mem_map.mp hx
    have a := (word_all (h p hp).w).2.2
    have b := (h p hp).le
    unfold pX colonD
    rw [List.length_append, List.length_append]
    show p.1.length + 2 + p.2.length ≤ 21
    omega
  rw [List.length_map] at h1
  have e2 : ([44, 32] : List Nat).length = 2 := rfl
  rw [e2] at h1
  refine ⟨by
    show (TL.joinL [44, 32] (l.map pX)).length ≤ 150
    omega, fun z => ?_⟩
  rcases joinL_mem z with z | ⟨x, hx, z⟩
  · revert z
    decide
  · obtain ⟨p, hp, rfl⟩ := List.mem_map.mp hx
    rcases List.mem_append.mp z with z | z
    · rcases List.mem_append.mp z with z | z
      · exact word_no (h p hp).w (by decide) z
      · revert z
        decide
    · exact (h p hp).nl z
/-! ### the texts of lines -/
theorem good_fL {f : Fl} (h : FlOk f) : GoodL (tx6 (fL f)) := by
  refine ⟨by show bl4 ++ _ ≠ []; simp [bl4], ?_, ?_⟩
  · show 10 ∉ bl4 ++ fX f
    intro z
    rcases List.mem_append.mp z with z | z
    · revert z
      decide
    · rcases List.mem_append.mp z with z | z
      · rcases List.mem_append.mp z with z | z
        · exact word_no h.w (by decide) z
        · revert z
          decide
      · exact h.nl z
  · show (bl4 ++ fX f).length ≤ 200
    have := fX_len h
    rw [List.length_append]
    have : bl4.length = 4 := rfl
    omega
theorem good_mX {w mk ps : List Nat} (hm : mk ∈ marks3) (hw : w.length ≤ 9) (hn : 10 ∉ w) (hp : ps.length ≤ 150) (pn : 10 ∉ ps) : GoodL (tx6 (.mem (mX w mk ps))) := by
  obtain ⟨h1, h2, h3, h4⟩ := mark_le mk hm
  refine ⟨by show bl4 ++ _ ≠ []; simp [bl4], ?_, ?_⟩
  · show 10 ∉ bl4 ++ mX w mk ps
    unfold mX closeD bl4
    simp only [List.mem_append, List.mem_cons, List.not_mem_nil, or_false, not_or]
    exact ⟨by decide, ⟨h4, by decide⟩, ⟨hn, by decide⟩, pn, by decide⟩
  · show (bl4 ++ mX w mk ps).length ≤ 200
    unfold mX closeD bl4
    simp only [List.length_append, List.length_cons, List.length_nil]
    omega
theorem good_row {L : List Nat} (hl : L.length ≤ 100) (hn : 10 ∉ L) : GoodL (tx6 (.row L)) := by
  refine ⟨by show bl8 ++ _ ≠ []; simp [bl8], ?_, ?_⟩
  · show 10 ∉ bl8 ++ L
    intro z
    rcases List.mem_append.mp z with z | z
    · revert z
      decide
    · exact hn z
  · show (bl8 ++ L).length ≤ 200
    rw [List.length_append]
    have : bl8.length = 8 := rfl
    omega
theorem good_mL {m : Mt} (h : MtOk m) : ∀ l ∈ mL m, GoodL (tx6 l) := fun l hl => by
  rcases List.mem_cons.mp hl with rfl | hl
  · exact good_mX h.mr (Nat.le_trans (word_all h.w).2.2 (by decide)) (word_no h.w (by decide)) h.pl h.pn
  · rw [List.eq_of_mem_replicate hl]
    exact good_row h.rl h.rn
theorem good_cls {n : Nm} {bs : List Nm} (g : GoodNm n) (gb : ∀ b ∈ bs, GoodNm b) (hb : bs.length ≤ 3) : GoodL (cline n bs) := by
  obtain ⟨h1, h2⟩ := cline_len g gb hb
  exact ⟨fun z => by rw [z] at h2; exact absurd h2 (by decide), cline_no g gb, Nat.le_trans h1 (by decide)⟩
theorem good_lines1 {n : Nm} {fs : List Fl} {ms : List Mt} (g : GoodNm n) (hf : ∀ f ∈ fs, FlOk f) (hm : ∀ m ∈ ms, MtOk m) : ∀ l ∈ lines1 n fs ms, GoodL (tx6 l) := fun l hl => by
  unfold lines1 at hl
  rcases List.mem_append.mp hl with hl | hl
  · rcases List.mem_append.mp hl with hl | hl
    · rw [List.mem_singleton.mp hl]
      exact good_cls g (fun b hb => by cases hb) (Nat.zero_le _)
    · obtain ⟨f, hf', rfl⟩ := List.mem_map.mp hl
      exact good_fL (hf f hf')
  · obtain ⟨m, hm', hl⟩ := List.mem_flatMap.mp hl
    exact good_mL (hm m hm') l hl
theorem len_mL (m : Mt) : (mL m).length = 7 := by
  unfold mL
  rw [List.length_cons, List.length_replicate]
theorem len_flat : ∀ ms : List Mt, (ms.flatMap mL).length = 7 * ms.length
  | [] => rfl
  | m :: r => by
    rw [List.flatMap_cons, List.length_append, len_mL, len_flat r, List.length_cons]
    omega
theorem len_lines1 (n : Nm) (fs : List Fl) (ms : List Mt) : (lines1 n fs ms).length = 1 + fs.length + 7 * ms.length := by
  unfold lines1
  rw [List.length_append, List.length_append, List.length_map, len_flat]
  rfl
end Hv
/-! module HvWrong -/
set_option maxHeartbeats 4000000
/-! k06's texts that are wrong at one line, and those that are right. -/
namespace Hv
open PySem PySem.Spec PyProof.Rows L2 Evl Hc Hs Hy Hz
def defM : List Nat := [100, 101, 102]
theorem def_in : defM ∈ marks3 := by decide
/-- lines of a text, told -/
structure Told (ls : List L6) (stop : Option Nat) : Prop where
  ne : ls ≠ []
  good : ∀ l ∈ ls, GoodL (tx6 l)
  few : ls.length ≤ 60
  runs : Runs ls stop
  lt : ∀ k, stop = some k → k < ls.length
theorem told_ok {ls : List L6} {t : S6} (ne : ls ≠ []) (g : ∀ l ∈ ls, GoodL (tx6 l)) (few : ls.length ≤ 60) (h : Go s0 ls t) : Told ls none := ⟨ne, g, few, runs_ok h, fun k hk => (by cases hk)⟩
theorem told_bad {a b : List L6} {l : L6} {t : S6} (g : ∀ x ∈ a ++ l :: b, GoodL (tx6 x)) (few : (a ++ l :: b).length ≤ 60) (h : Go s0 a t) (p : pre6 t l) (n : next6 t l = none) : Told (a ++ l :: b) (some a.length) := ⟨by simp, g, few, runs_bad h p n, fun k hk => by
  cases hk
  rw [List.length_append, List.length_cons]
  omega⟩
structure Txt1 (n : Nm) (ws : List Nm) (fs : List Fl) (ms : List Mt) : Prop where
  g : GoodNm n
  w6 : ws.length = 6
  nd : ws.Nodup
  wd : ∀ w ∈ ws, isWord w = true
  fo : ∀ f ∈ fs, FlOk f
  mo : ∀ m ∈ ms, MtOk m
  fn : fs.map Fl.w = ws.take 4
  mn : ms.map Mt.w = ws.take 5
section
variable {n : Nm} {ws : List Nm} {fs : List Fl} {ms : List Mt}
theorem Txt1.f4 (T : Txt1 n ws fs ms) : fs.length = 4 := by
  have := congrArg List.length T.fn
  rw [List.length_map, List.length_take, T.w6] at this
  exact this
theorem Txt1.m5 (T : Txt1 n ws fs ms) : ms.length = 5 := by
  have := congrArg List.length T.mn
  rw [List.length_map, List.length_take, T.w6] at this
  exact this
theorem Txt1.nf (T : Txt1 n ws fs ms) : (fs.map Fl.w).Nodup := by
  rw [T.fn]
  exact T.nd.sublist (List.take_sublist _ _)
theorem Txt1.nm (T : Txt1 n ws fs ms) : (ms.map Mt.w).Nodup := by
  rw [T.mn]
  exact T.nd.sublist (List.take_sublist _ _)
/-- the text with its first fields and its first methods -/
theorem Txt1.go (T : Txt1 n ws fs ms) (i j : Nat) : Go s0 (lines1 n (fs.take i) (ms.take j)) (st1 n (fs.take i) (ms.take j)) := by
  have lf := T.f4
  have lm := T.m5
  refine go_lines T.g (fun f hf => T.fo f (List.mem_of_mem_take hf)) (fun m hm => T.mo m (List.mem_of_mem_take hm)) ?_ ?_ (by rw [List.length_take]; omega) (by rw [List.length_take]; omega)
  · rw [List.map_take]
    exact T.nf.sublist (List.take_sublist _ _)
  · rw [List.map_take]
    exact T.nm.sublist (List.take_sublist _ _)
theorem Txt1.good (T : Txt1 n ws fs ms) (i j : Nat) : ∀ l ∈ lines1 n (fs.take i) (ms.take j), GoodL (tx6 l) := good_lines1 T.g (fun f hf => T.fo f (List.mem_of_mem_take hf)) fun m hm => T.mo m (List.mem_of_mem_take hm)
theorem Txt1.len (T : Txt1 n ws fs ms) (i j : Nat) : (lines1 n (fs.take i) (ms.take j)).length ≤ 40 := by
  have lf := T.f4
  have lm := T.m5
  rw [len_lines1, List.length_take, List.length_take]
  omega
theorem Txt1.right (T : Txt1 n ws fs ms) : Told (lines1 n fs ms) none := by
  have h := T.go 4 5
  have g := T.good 4 5
  have l := T.len 4 5
  rw [List.take_of_length_le (Nat.le_of_eq T.f4), List.take_of_length_le (Nat.le_of_eq T.m5)] at h g l
  exact told_ok (by unfold lines1; simp) g (by omega) h
theorem Txt1.lenF (T : Txt1 n ws fs ms) : (lines1 n fs ms).length = 40 := by
  rw [len_lines1, T.f4, T.m5]
theorem app_good {a b : List L6} (h1 : ∀ l ∈ a, GoodL (tx6 l)) (h2 : ∀ l ∈ b, GoodL (tx6 l)) : ∀ l ∈ a ++ b, GoodL (tx6 l) := fun l hl => (List.mem_append.mp hl).elim (h1 l) (h2 l)
theorem cons_good {l : L6} {b : List L6} (h1 : GoodL (tx6 l)) (h2 : ∀ x ∈ b, GoodL (tx6 x)) : ∀ x ∈ l :: b, GoodL (tx6 x) := fun x hx => by
  rcases List.mem_cons.mp hx with rfl | hx
  · exact h1
  · exact h2 x hx
theorem nil_good : ∀ x ∈ ([] : List L6), GoodL (tx6 x) := fun x hx => by cases hx
theorem kd3_fl {w : Nm} (h : isWord w = true) : FlOk ⟨w, kd3⟩ := ⟨h, shape_kinds.2.1, (show kd3.length ≤ 105 by decide), (show 10 ∉ kd3 by decide)⟩
/-- a fifth field -/
theorem Txt1.late (T : Txt1 n ws fs ms) {w : Nm} (hw : isWord w = true) : Told (([.cls n []] ++ fs.map fL) ++ fL ⟨w, kd3⟩ :: ms.flatMap mL) (some 5) := by
  have h := T.go 4 0
  rw [List.take_of_length_le (Nat.le_of_eq T.f4)] at h
  have e : lines1 n fs (ms.take 0) = [.cls n []] ++ fs.map fL := by
    unfold lines1
    simp
  rw [e] at h
  have el : ([.cls n []] ++ fs.map fL : List L6).length = 5 := by
    rw [List.length_append, List.length_map, T.f4]
    rfl
  have g := T.good 4 5
  rw [List.take_of_length_le (Nat.le_of_eq T.f4), List.take_of_length_le (Nat.le_of_eq T.m5)] at g
  unfold lines1 at g
  have z := told_bad (b := ms.flatMap mL) (l := fL ⟨w, kd3⟩) (app_good (fun l hl => g l (List.mem_append_left _ hl)) (cons_good (good_fL (kd3_fl hw)) fun l hl => g l (List.mem_append_right _ hl))) (by
    rw [List.length_append, el, List.length_cons, len_flat, T.m5]
    decide) h (fX_pre (kd3_fl hw) (by simp [st1])) (by
    rw [fX_next hw, fX_fld hw shape_kinds.2.1, if_neg]
    have : (st1 n fs (ms.take 0)).fs.length = 4 := by
      show (fs.map fP).length = 4
      rw [List.length_map]
      exact T.f4
    rw [decide_eq_true this]
    simp)
  rw [el] at z
  exact z
/-- a method line that is wrong behind the first fields and methods -/
theorem Txt1.badM (T : Txt1 n ws fs ms) (i j : Nat) {w ps : List Nat} {b : List L6} (hw : w.length ≤ 9) (h40 : 40 ∉ w) (h10 : 10 ∉ w) (hp : ps.length ≤ 150) (pn : 10 ∉ ps)
    (hbad : (isWord w && (!decide (w ∈ (ms.take j).map Mt.w) && (!decide ((ms.take j).length = 5) && (readPars ps).isSome))) = false) (hb : ∀ l ∈ b, GoodL (tx6 l)) (lb : b.length ≤ 10) :
    Told (lines1 n (fs.take i) (ms.take j) ++ .mem (mX w defM ps) :: b) (some (lines1 n (fs.take i) (ms.take j)).length) := by
  have hl := T.len i j
  refine told_bad (app_good (T.good i j) (cons_good (good_mX def_in hw h10 hp pn) hb)) (by
    rw [List.length_append, List.length_cons]
    omega) (T.go i j) (mX_pre (by simp [st1]) def_in hw hp) ?_
  rw [mX_next def_in h40, if_neg]
  show ¬ (isWord w && (!decide (w ∈ (ms.take j).map Mt.w) && (!decide (((ms.take j).map Mt.w).length = 5) && (readPars ps).isSome))) = true
  rw [List.length_map, hbad]
  exact Bool.false_ne_true
/-- a method line that is right -/
theorem Txt1.okM (T : Txt1 n ws fs ms) (i j : Nat) {w : List Nat} (hw : isWord w = true) (hn : w ∉ (ms.take j).map Mt.w) (hj : j < 5) : Told (lines1 n (fs.take i) (ms.take j) ++ [.mem (mX w defM [])]) none := by
  have hl := T.len i j
  have lm := T.m5
  refine told_ok (by simp) (app_good (T.good i j) (cons_good (good_mX def_in (Nat.le_trans (word_all hw).2.2 (by decide)) (word_no hw (by decide)) (Nat.zero_le _) (by decide)) nil_good)) (by
    rw [List.length_append, List.length_singleton]
    omega) (go_app (T.go i j) (go_mX (by simp [st1]) def_in hw (Nat.zero_le _) rfl hn (by
    show ((ms.take j).map Mt.w).length < 5
    rw [List.length_map, List.length_take]
    omega)))
theorem Txt1.w5 (T : Txt1 n ws fs ms) {w : Nm} (h : ws[5]? = some w) : isWord w = true ∧ ∀ j, w ∉ (ms.take j).map Mt.w := by
  refine ⟨T.wd w (List.mem_of_getElem? h), fun j z => ?_⟩
  rw [List.map_take, T.mn, List.take_take] at z
  obtain ⟨i, hi, e⟩ := List.getElem_of_mem z
  rw [List.getElem_take] at e
  rw [List.length_take] at hi
  have hil : i < ws.length := by omega
  have := (List.getElem?_inj hil T.nd (j := 5)).mp (by rw [List.getElem?_eq_getElem hil, e, h])
  omega
/-- a seventh row -/
theorem Txt1.longer (T : Txt1 n ws fs ms) {j : Nat} {m : Mt} (h : ms[j]? = some m) : Told ([.cls n []] ++ fs.map fL ++ ((ms.map mL).set j (mL m ++ [.row m.rx])).flatten) (some (5 + 7 * j + 7)) := by
  obtain ⟨hj, ej⟩ := List.getElem?_eq_some_iff.mp h
  have lm := T.m5
  have hm := T.mo m (List.mem_of_getElem? h)
  have e1 : ((ms.map mL).set j (mL m ++ [.row m.rx])).flatten = (ms.take (j + 1)).flatMap mL ++ .row m.rx :: (ms.drop (j + 1)).flatMap mL := by
    rw [List.set_eq_take_append_cons_drop, if_pos (by rw [List.length_map]; exact hj), List.flatten_append, List.flatten_cons, ← List.map_take, ← List.map_drop, List.take_add_one, h]
    rw [List.flatMap_append, ← List.flatMap_def, ← List.flatMap_def]
    simp
  have hg := T.go 4 (j + 1)
  have gg := T.good 4 (j + 1)
  have gd := T.good 4 5
  rw [List.take_of_length_le (Nat.le_of_eq T.f4)] at hg gg gd
  rw [List.take_of_length_le (Nat.le_of_eq T.m5)] at gd
  have el : (lines1 n fs (ms.take (j + 1))).length = 5 + 7 * j + 7 := by
    rw [len_lines1, T.f4, List.length_take]
    omega
  have gdrop : ∀ l ∈ (ms.drop (j + 1)).flatMap mL, GoodL (tx6 l) := fun l hl => by
    obtain ⟨m', hm', hl⟩ := List.mem_flatMap.mp hl
    exact good_mL (T.mo m' (List.mem_of_mem_drop hm')) l hl
  have hc : (st1 n fs (ms.take (j + 1))).cur = some 6 := by
    show (if ms.take (j + 1) = [] then none else some 6) = some 6
    rw [if_neg]
    intro z
    have := congrArg List.length z
    rw [List.length_take, List.length_nil] at this
    omega
  have z := told_bad (b := (ms.drop (j + 1)).flatMap mL) (l := .row m.rx) (app_good gg (cons_good (good_row hm.rl hm.rn) gdrop)) (by
    rw [List.length_append, el, List.length_cons, len_flat, List.length_drop]
    omega) hg (row_pre (by simp [st1]) hm.row hm.rl hc) (by rw [row_next hc, if_pos rfl])
  rw [el] at z
  have e2 : [.cls n []] ++ fs.map fL ++ ((ms.map mL).set j (mL m ++ [.row m.rx])).flatten = lines1 n fs (ms.take (j + 1)) ++ .row m.rx :: (ms.drop (j + 1)).flatMap mL := by
    rw [e1]
    unfold lines1
    simp
  rw [e2]
  exact z
end
/-! ### classes -/
def abN (ns : List Nm) : Ab := ns.map fun n => (n, [n])
theorem abN_names (ns : List Nm) : (abN ns).map (·.1) = ns := by
  unfold abN
  rw [List.map_map]
  exact List.map_id _
theorem abN_len (ns : List Nm) : (abN ns).length = ns.length := List.length_map ..
theorem ordA_self : ∀ {ns : List Nm} {b : Nm}, b ∈ ns → ordA (abN ns) b = [b]
  | [], b, h => by cases h
  | a :: r, b, h => by
    unfold ordA abN
    rw [List.map_cons, List.find?_cons]
    by_cases e : a = b
    · subst e
      simp
    · have hb : b ∈ r := (List.mem_cons.mp h).resolve_left fun z => e z.symm
      have ih := ordA_self hb
      unfold ordA abN at ih
      simp only [e, decide_false]
      exact ih
def stN (ns : List Nm) : S6 := ⟨abN ns, [], [], none⟩
theorem fitN {ns : List Nm} {n : Nm} {bs : List Nm} (g : GoodNm n) (gb : ∀ b ∈ bs, GoodNm b) (nd : bs.Nodup) (l3 : bs.length ≤ 3) (new : n ∉ ns) (old : ∀ b ∈ bs, b ∈ ns) (lt : ns.length < 8) : Fit (abN ns) n bs :=
  ⟨g, gb, nd, l3, by rw [abN_names]; exact new, fun b hb => by rw [abN_names]; exact old b hb, by rw [abN_len]; exact lt, fun e he => by
    obtain ⟨x, _, rfl⟩ := List.mem_map.mp he
    show 1 ≤ 8
    decide⟩
theorem go_cls1 {ns : List Nm} {n : Nm} (g : GoodNm n) (new : n ∉ ns) (lt : ns.length < 8) : Go (stN ns) [.cls n []] (stN (ns ++ [n])) := by
  refine go_one (fitN g (fun b hb => by cases hb) List.nodup_nil (by decide) new (fun b hb => by cases hb) lt) ?_
  have e : next6 (stN ns) (.cls n []) = (merge (rowsA (abN ns) [])).map fun m => (⟨abN ns ++ [(n, n :: m)], [], [], none⟩ : S6) := rfl
  rw [e, show merge (rowsA (abN ns) []) = some [] from merge_nil rfl]
  show some (⟨abN ns ++ [(n, [n])], [], [], none⟩ : S6) = some (stN (ns ++ [n]))
  unfold stN abN
  rw [List.map_append]
  rfl
theorem go_clss : ∀ (ns ab : List Nm), (∀ n ∈ ns, GoodNm n) → (ab ++ ns).Nodup → ab.length + ns.length ≤ 8 → Go (stN ab) (ns.map fun n => .cls n []) (stN (ab ++ ns))
  | [], ab, _, _, _ => by
    show stN ab = _
    rw [List.append_nil]
  | n :: r, ab, g, nd, l => by
    have nn : n ∉ ab := fun z => by
      rw [List.nodup_append] at nd
      exact nd.2.2 _ z _ List.mem_cons_self rfl
    rw [List.length_cons] at l
    have g1 := go_cls1 (g n List.mem_cons_self) nn (by omega)
    have g2 := go_clss r (ab ++ [n]) (fun x hx => g x (List.mem_cons_of_mem _ hx)) (by rw [List.append_assoc]; exact nd) (by
      rw [List.length_append, List.length_singleton]
      omega)
    have z := go_app g1 g2
    rw [List.append_assoc] at z
    exact z
theorem go_names {ns : List Nm} (g : ∀ n ∈ ns, GoodNm n) (nd : ns.Nodup) (l : ns.length ≤ 8) : Go s0 (ns.map fun n => .cls n []) (stN ns) := go_clss ns [] g nd (by rw [List.length_nil]; omega)
theorem good_names {ns : List Nm} (g : ∀ n ∈ ns, GoodNm n) : ∀ l ∈ ns.map fun n => L6.cls n [], GoodL (tx6 l) := fun l hl => by
  obtain ⟨n, hn, rfl⟩ := List.mem_map.mp hl
  exact good_cls (g n hn) (fun b hb => by cases hb) (Nat.zero_le _)
theorem ends_col (n : Nm) (bs : List Nm) : endsG (cline n bs) colD = true := by
  have e : cline n bs = (cls6 ++ (n ++ bpart bs)) ++ colD := by
    unfold cline colD
    simp
  rw [e]
  exact endsG_app _ _
theorem head_parts {n : Nm} (h : 40 ∉ n) : ∀ bs : List Nm, partA (headL (cline n bs)) parenD = n ∧ (bs = [] → partB (headL (cline n bs)) parenD = []) ∧ (bs ≠ [] → partB (headL (cline n bs)) parenD = parenD ∧ partC (headL (cline n bs)) parenD = TL.joinL [44, 32] bs ++ [41])
  | [] => by
    have e : headL (cline n []) = n := by
      unfold headL
      rw [cline_cut]
      exact List.append_nil _
    have z := partition_no h
    rw [e]
    unfold partA partB parenD
    rw [z]
    exact ⟨rfl, fun _ => rfl, fun h => absurd rfl h⟩
  | b :: r => by
    have e : headL (cline n (b :: r)) = n ++ 40 :: (TL.joinL [44, 32] (b :: r) ++ [41]) := by
      unfold headL
      rw [cline_cut]
      rfl
    have z := partition_S (b := TL.joinL [44, 32] (b :: r) ++ [41]) h
    rw [e]
    unfold partA partB partC parenD
    rw [z]
    exact ⟨rfl, (fun h => by cases h), fun _ => ⟨rfl, rfl⟩⟩
theorem cls_not {n : Nm} (h : isClassName n = false) (h40 : 40 ∉ n) (bs : List Nm) : readCls (cline n bs) = none := by
  unfold readCls
  rw [(head_parts h40 bs).1, h]
  split <;> rfl
theorem cls_plain {n : Nm} (g : GoodNm n) : readCls (cline n []) = some (n, []) := by
  have h40 : 40 ∉ n := g.no (by decide) (by decide)
  obtain ⟨h1, h2, _⟩ := head_parts h40 []
  unfold readCls
  rw [if_pos ⟨cline_starts n [], ends_col n []⟩, h1, h2 rfl, if_pos g.ok, if_pos rfl]
theorem cls_four {n : Nm} {bs : List Nm} (g : GoodNm n) (gb : ∀ b ∈ bs, GoodNm b) (h4 : bs.length = 4) : readCls (cline n bs) = none := by
  have h40 : 40 ∉ n := g.no (by decide) (by decide)
  have hb : bs ≠ [] := fun z => by rw [z] at h4; cases h4
  obtain ⟨h1, _, h3⟩ := head_parts h40 bs
  obtain ⟨h5, h6⟩ := h3 hb
  have hp : pieces (TL.joinL [44, 32] bs) = bs := by
    unfold pieces commaD
    rw [split_S (s := 44) (T := [32]) rfl hb fun x hx => (gb x hx).no (by decide) (by decide), List.map_map]
    have : (TL.tl ∘ S) = id := funext fun x => rfl
    rw [this, List.map_id]
  unfold readCls
  rw [if_pos ⟨cline_starts n bs, ends_col n bs⟩, h1, if_pos g.ok, h5, h6, if_neg (by decide), rest_cut, hp, if_neg (fun z => absurd z.2 (by rw [h4]; decide))]
theorem odd_pre {s : S6} {n : Nm} {bs : List Nm} (hl : (cline n bs).length ≤ 200) (l8 : s.ab.length ≤ 8) (h : match readCls (cline n bs) with
    | none => True
    | some (m, _) => m ∈ s.ab.map (·.1) ∨ s.ab.length = 8) : pre6 s (.odd (cline n bs)) := ⟨by show _ ≤ 30000; omega, no_start (by
      show (99 :: _ : List Nat).head? ≠ _
      simp), l8, h⟩
structure Cls9 (ns : List Nm) : Prop where
  l : ns.length = 9
  g : ∀ n ∈ ns, GoodNm n
  nd : ns.Nodup
section
variable {ns : List Nm}
theorem Cls9.gk (T : Cls9 ns) (k : Nat) : ∀ n ∈ ns.take k, GoodNm n := fun n hn => T.g n (List.mem_of_mem_take hn)
theorem Cls9.go (T : Cls9 ns) {k : Nat} (hk : k ≤ 8) : Go s0 ((ns.take k).map fun n => .cls n []) (stN (ns.take k)) := go_names (T.gk k) (T.nd.sublist (List.take_sublist _ _)) (by rw [List.length_take]; omega)
theorem Cls9.eight (T : Cls9 ns) : Told ((ns.take 8).map fun n => .cls n []) none := told_ok (by
  intro z
  have := congrArg List.length z
  rw [List.length_map, List.length_take, T.l] at this
  cases this) (good_names (T.gk 8)) (by rw [List.length_map, List.length_take]; omega) (T.go (Nat.le_refl _))
theorem Cls9.ninth (T : Cls9 ns) {n : Nm} (g : GoodNm n) : Told (((ns.take 8).map fun n => .cls n []) ++ [.odd (cline n [])]) (some 8) := by
  have hl : ((ns.take 8).map fun n => L6.cls n []).length = 8 := by rw [List.length_map, List.length_take, T.l]; rfl
  have gc := good_cls g (bs := []) (fun b hb => by cases hb) (Nat.zero_le _)
  have z := told_bad (b := []) (l := .odd (cline n [])) (app_good (good_names (T.gk 8)) (cons_good gc nil_good)) (by rw [List.length_append, hl, List.length_singleton]; decide) (T.go (Nat.le_refl _)) (odd_pre gc.le (by
    show (abN _).length ≤ 8
    rw [abN_len, List.length_take]
    omega) (by
    rw [cls_plain g]
    refine .inr ?_
    show (abN _).length = 8
    rw [abN_len, List.length_take, T.l]
    rfl)) rfl
  rw [hl] at z
  exact z
theorem merge3 {α : Type} [DecidableEq α] {a b c : α} (h1 : a ≠ b) (h2 : a ≠ c) (h3 : b ≠ c) : ∃ m, merge [[a], [b], [c], [a, b, c]] = some m := by
  refine ⟨[a, b, c], ?_⟩
  have h1' := h1.symm
  have h2' := h2.symm
  have h3' := h3.symm
  simp [merge, mergeN, full, cut, nextOf, heads, freeIn, total, cutRow, h1, h2, h3, h1', h2', h3']
theorem at_in {ns : List Nm} {i k : Nat} {n : Nm} (h : ns[i]? = some n) (hi : i < k) : n ∈ ns.take k := by
  have : (ns.take k)[i]? = some n := by rw [List.getElem?_take_of_lt hi]; exact h
  exact List.mem_of_getElem? this
theorem at_ne {ns : List Nm} (nd : ns.Nodup) {i j : Nat} {a b : Nm} (ha : ns[i]? = some a) (hb : ns[j]? = some b) (h : i ≠ j) : a ≠ b := fun z => by
  obtain ⟨h1, e1⟩ := List.getElem?_eq_some_iff.mp ha
  exact h ((List.getElem?_inj h1 nd).mp (by rw [ha, hb, z]))
theorem at_out {ns : List Nm} (nd : ns.Nodup) {i k : Nat} {n : Nm} (h : ns[i]? = some n) (hi : k ≤ i) : n ∉ ns.take k := fun z => by
  obtain ⟨j, hj, e⟩ := List.getElem_of_mem z
  rw [List.getElem_take] at e
  rw [List.length_take] at hj
  have hjl : j < ns.length := by omega
  have := (List.getElem?_inj hjl nd (j := i)).mp (by rw [List.getElem?_eq_getElem hjl, e, h])
  omega
theorem Cls9.three (T : Cls9 ns) {a b c d : Nm} (ha : ns[2]? = some a) (hb : ns[1]? = some b) (hc : ns[0]? = some c) (hd : ns[7]? = some d) : Told (((ns.take 7).map fun n => .cls n []) ++ [.cls d [a, b, c]]) none := by
  have hl : ((ns.take 7).map fun n => L6.cls n []).length = 7 := by rw [List.length_map, List.length_take, T.l]; rfl
  have ga := T.g a (List.mem_of_getElem? ha)
  have gb := T.g b (List.mem_of_getElem? hb)
  have gc := T.g c (List.mem_of_getElem? hc)
  have gd := T.g d (List.mem_of_getElem? hd)
  have ab := at_ne T.nd ha hb (by decide)
  have ac := at_ne T.nd ha hc (by decide)
  have bc := at_ne T.nd hb hc (by decide)
  have g3 : ∀ x ∈ [a, b, c], GoodNm x := fun x hx => by
    simp only [List.mem_cons, List.not_mem_nil, or_false] at hx
    rcases hx with rfl | rfl | rfl
    · exact ga
    · exact gb
    · exact gc
  have o3 : ∀ x ∈ [a, b, c], x ∈ ns.take 7 := fun x hx => by
    simp only [List.mem_cons, List.not_mem_nil, or_false] at hx
    rcases hx with rfl | rfl | rfl
    · exact at_in ha (by decide)
    · exact at_in hb (by decide)
    · exact at_in hc (by decide)
  obtain ⟨m, hm⟩ := merge3 ab ac bc
  have er : rowsA (abN (ns.take 7)) [a, b, c] = [[a], [b], [c], [a, b, c]] := by
    show [ordA _ a, ordA _ b, ordA _ c] ++ [[a, b, c]] = _
    rw [ordA_self (o3 a (by simp)), ordA_self (o3 b (by simp)), ordA_self (o3 c (by simp))]
    rfl
  refine told_ok (by simp) (app_good (good_names (T.gk 7)) (cons_good (good_cls gd g3 (show 3 ≤ 3 by decide)) nil_good)) (by rw [List.length_append, hl, List.length_singleton]; decide) (go_app (T.go (by decide)) (go_one (t := ⟨abN (ns.take 7) ++ [(d, d :: m)], [], [], none⟩) (fitN gd g3 (by simp [ab, ac, bc]) (show 3 ≤ 3 by decide) (at_out T.nd hd (by decide)) o3 (by rw [List.length_take, T.l]; decide)) ?_))
  have e : next6 (stN (ns.take 7)) (.cls d [a, b, c]) = (merge (rowsA (abN (ns.take 7)) [a, b, c])).map fun m => (⟨abN (ns.take 7) ++ [(d, d :: m)], [], [], none⟩ : S6) := rfl
  rw [e, er, hm]
  rfl
theorem four_len {n : Nm} {bs : List Nm} (g : GoodNm n) (gb : ∀ b ∈ bs, GoodNm b) (h4 : bs.length = 4) : GoodL (cline n bs) := by
  have hl := joinL_len (T := [44, 32]) (m := 8) (xs := bs) fun x hx => (gb x hx).len.2
  have hn := g.len.2
  have e2 : ([44, 32] : List Nat).length = 2 := rfl
  rw [h4, e2] at hl
  refine ⟨by unfold cline cls6; simp, cline_no g gb, ?_⟩
  have hb : bs ≠ [] := fun z => by rw [z] at h4; cases h4
  unfold cline bpart cls6
  rw [if_neg hb]
  simp only [List.length_append, List.length_cons, List.length_nil]
  omega
theorem Cls9.four (T : Cls9 ns) {n : Nm} {bs : List Nm} {b : List L6} (g : GoodNm n) (gb : ∀ b ∈ bs, GoodNm b) (h4 : bs.length = 4) (hb : ∀ l ∈ b, GoodL (tx6 l)) (lb : b.length ≤ 10) : Told (((ns.take 7).map fun n => .cls n []) ++ .odd (cline n bs) :: b) (some 7) := by
  have hl : ((ns.take 7).map fun n => L6.cls n []).length = 7 := by rw [List.length_map, List.length_take, T.l]; rfl
  have gc := four_len g gb h4
  have z := told_bad (b := b) (l := .odd (cline n bs)) (app_good (good_names (T.gk 7)) (cons_good gc hb)) (by rw [List.length_append, hl, List.length_cons]; omega) (T.go (by decide)) (odd_pre gc.le (by
    show (abN _).length ≤ 8
    rw [abN_len, List.length_take]
    omega) (by
    rw [cls_four g gb h4]
    trivial)) rfl
  rw [hl] at z
  exact z
theorem Cls9.long (T : Cls9 ns) {k : Nat} (hk : k ≤ 8) {n : Nm} (hn : isClassName n = false) (h40 : 40 ∉ n) (h10 : 10 ∉ n) (h9 : n.length ≤ 9) {b : List L6} (hb : ∀ l ∈ b, GoodL (tx6 l)) (lb : b.length ≤ 10) : Told (((ns.take k).map fun n => .cls n []) ++ .odd (cline n []) :: b) (some k) := by
  have hl : ((ns.take k).map fun n => L6.cls n []).length = k := by
    rw [List.length_map, List.length_take, T.l]
    omega
  have gc : GoodL (cline n []) := by
    refine ⟨by unfold cline cls6; simp, ?_, ?_⟩
    · unfold cline bpart cls6
      rw [if_pos rfl]
      simp only [List.mem_append, List.mem_cons, List.not_mem_nil, or_false, not_or]
      exact ⟨by decide, h10, not_false, by decide⟩
    · unfold cline bpart cls6
      rw [if_pos rfl]
      simp only [List.length_append, List.length_cons, List.length_nil]
      omega
  have z := told_bad (b := b) (l := .odd (cline n [])) (app_good (good_names (T.gk k)) (cons_good gc hb)) (by rw [List.length_append, hl, List.length_cons]; omega) (T.go hk) (odd_pre gc.le (by
    show (abN _).length ≤ 8
    rw [abN_len, List.length_take]
    omega) (by
    rw [cls_not hn h40]
    trivial)) rfl
  rw [hl] at z
  exact z
theorem Cls9.last (T : Cls9 ns) {n : Nm} (g : GoodNm n) (new : n ∉ ns.take 7) : Told (((ns.take 7).map fun n => .cls n []) ++ [.cls n []]) none := by
  have hl : ((ns.take 7).map fun n => L6.cls n []).length = 7 := by rw [List.length_map, List.length_take, T.l]; rfl
  exact told_ok (by simp) (app_good (good_names (T.gk 7)) (cons_good (good_cls g (fun b hb => by cases hb) (Nat.zero_le _)) nil_good)) (by rw [List.length_append, hl, List.length_singleton]; decide) (go_app (T.go (by decide)) (go_cls1 g new (by rw [List.length_take, T.l]; decide)))
end
end Hv
/-! module HvFlat -/
set_option maxHeartbeats 4000000
/-! xs += ys on lists; _law_flat. -/
namespace Hv
open PySem PySem.Spec PyProof.Rows L2 Evl Hc Hs Hy Hz
section
variable {prog : Program} {w : World} {A : Around} {E : Value → Shared → Prop} {s : Shared}
theorem seq_list_iadd : seqSlot? (.type "list") (dunderI "add") = pure (some (.builtin "list.__iadd__")) := PySem.seqSlot_of PySem.F.slot_list_iadd.lookup (by decide +kernel)
theorem no_fill_iadd : fillsInplaceSlot (.type "list") "add" (Operator.Add == .Add) = pure false := by
  unfold fillsInplaceSlot
  show (typeLookup (.type "list") (dunderI "add") >>= fun fi => pure (fi.isSome && !isSeqSlot fi)) = pure false
  rw [PySem.F.slot_list_iadd.lookup]
  have e : isSeqSlot (some (.builtin "list.__iadd__")) = true := by
    show isSeqSlotId "list.__iadd__" = true
    decide +kernel
  show (pure (true && !isSeqSlot (some (.builtin "list.__iadd__"))) : Sem Bool) = _
  rw [e]
  rfl
theorem iadd_list {a b : Value} {Q : Value → Shared → Prop} (ha : s.TypeIs a "list") (hb : s.TypeIs b "list") (hc : wpAny (model prog w) A (call (.builtin "list.__iadd__") [a, b]) Q E s) : wpAny (model prog w) A (inplaceOp .Add a b) Q E s := by
  unfold inplaceOp
  refine wpAny_holding ?_
  refine wpAny_bind (wpAny_typeOf ha (wpAny_bind (wpAny_of_eq no_fill_iadd ?_)))
  show wpAny _ A (if false = true then _ else _) Q E s
  rw [if_neg Bool.false_ne_true]
  refine wpAny_bind (wpAny_binaryOp1_none (nm := "add") ha hb noFill_list_add ?_)
  refine wpAny_bind (wpAny_of_eq seq_list_iadd ?_)
  exact wpAny_bind (wpAny_rule hc)
end
def ipCat : TIp := fun x y H Q => ∃ l b xs zs, x = .ref l ∧ y = .ref b ∧ H l = some (.lst xs) ∧ H b = some (.lst zs) ∧ xs.length + zs.length ≤ 100000 ∧ Q (.ref l) (upd H l (.lst (xs ++ zs)))
theorem ip_cat {X : Cx} : PIp X .Add ipCat := by
  intro pins s σ H x y v u Q I rx ry h
  obtain ⟨l, b, xs, zs, rfl, rfl, hH, hB, hz, q⟩ := h
  cases rx
  cases ry
  obtain ⟨z, its, n, r, hl, e⟩ := I.lstM hH
  obtain ⟨z2, its2, n2, r2, hl2, e2⟩ := I.lstM hB
  have hsz : its.toArray.size + its2.toArray.size ≤ sizeLine := by
    rw [List.size_toArray, List.size_toArray]
    exact Nat.le_trans (by omega) (sz_of hz)
  have hd : ¬ (!its.toArray.isEmpty && Builtin.List.listTooLong (its.toArray.size + its2.toArray.size)) = true := by
    rw [notLongL hsz, Bool.and_false]
    exact Bool.false_ne_true
  refine iadd_list ⟨_, e, rfl⟩ ⟨_, e2, rfl⟩ (call_meets PySem.F.slot_list_iadd ⟨_, e, rfl⟩ PySem.F.entry_list_iadd (PySem.F.args_list_iadd_2 _ _) (AutoSeq1.list___iadd___list_list_0 l its.toArray n b its2.toArray n2 hd (by omega) (by omega)) ⟨e, e2, ?_⟩)
  refine ⟨.ref l, _, I.lset (its' := its ++ its2) (ys := xs ++ zs) hH e ?_ (r.append r2) ?_, rfl, q⟩
  · show its.toArray ++ its2.toArray = (its ++ its2).toArray
    simp
  · rw [List.length_append]
    exact sz_of hz
/-! ### lists of texts -/
def tv (ls : List L6) : List V := (ls.map tx6).map sv
theorem tv_app (a b : List L6) : tv (a ++ b) = tv a ++ tv b := by
  unfold tv
  rw [List.map_append, List.map_append]
theorem tv_len (a : List L6) : (tv a).length = a.length := by
  unfold tv
  rw [List.length_map, List.length_map]
theorem tv_take (a : List L6) (k : Nat) : (tv a).take k = tv (a.take k) := by
  unfold tv
  rw [List.map_take, List.map_take]
theorem tv_drop (a : List L6) (k : Nat) : (tv a).drop k = tv (a.drop k) := by
  unfold tv
  rw [List.map_drop, List.map_drop]
def PAt (lss : List (List L6)) (as : List Addr) (H : Hp) : Prop := as.length = lss.length ∧ ∀ (i : Nat) (l : List L6) (a : Addr), lss[i]? = some l → as[i]? = some a → H a = some (.lst (tv l))
theorem PAt.ex {lss : List (List L6)} {as : List Addr} {H H' : Hp} (h : PAt lss as H) (e : Ex H H') : PAt lss as H' := ⟨h.1, fun i l a x y => e _ _ (h.2 i l a x y)⟩
theorem PAt.ext {lss : List (List L6)} {as : List Addr} {S : Addr → Prop} {H H' : Hp} (h : PAt lss as H) (e : Hc.Ext S H H') (n : ∀ a ∈ as, ¬ S a) : PAt lss as H' := ⟨h.1, fun i l a x y => e _ _ (h.2 i l a x y) (n a (List.mem_of_getElem? y))⟩
theorem PAt.snoc {lss : List (List L6)} {as : List Addr} {H : Hp} {l : List L6} {a : Addr} (h : PAt lss as H) (ha : H a = some (.lst (tv l))) : PAt (lss ++ [l]) (as ++ [a]) H := by
  refine ⟨by rw [List.length_append, List.length_append, h.1]; rfl, fun i m b x y => ?_⟩
  by_cases hi : i < lss.length
  · rw [List.getElem?_append_left hi] at x
    rw [List.getElem?_append_left (by rw [h.1]; exact hi)] at y
    exact h.2 i m b x y
  · rw [List.getElem?_append_right (by omega)] at x
    rw [List.getElem?_append_right (by rw [h.1]; omega), h.1] at y
    obtain ⟨k, hk⟩ : ∃ k, i - lss.length = k := ⟨_, rfl⟩
    rw [hk] at x y
    cases k with
    | zero =>
      simp at x y
      subst x
      subst y
      exact ha
    | succ k => simp at x
theorem PAt.take {lss : List (List L6)} {as : List Addr} {H : Hp} (h : PAt lss as H) (k : Nat) : PAt (lss.take k) (as.take k) H := by
  refine ⟨by rw [List.length_take, List.length_take, h.1], fun i l a x y => ?_⟩
  rw [List.getElem?_take] at x y
  split at x
  · rename_i hi
    rw [if_pos hi] at y
    exact h.2 i l a x y
  · cases x
def spFlat (K : PySem.W.Frag) : Sp := fun vs H Q _ => ∃ (a : Addr) (as : List Addr) (lss : List (List L6)), vs = [.ref a] ∧ SqL K H a (as.map V.ref) ∧ PAt lss as H ∧ lss.flatten.length ≤ 1000 ∧ ∀ p H', H p = none → Ex H H' → H' p = some (.lst (tv lss.flatten)) → Q (.ref p) H'
abbrev nLFlat : List Str := ["_law_pieces", "_law_lines", "_law_piece"]
theorem scLFlat : FnScope nLFlat ["_law_pieces"] (defScope sLFlat) := ⟨rfl, rfl, rfl, by decide +kernel, rfl, by decide +kernel, by decide +kernel⟩
theorem flat_le {α : Type} : ∀ (l : List (List α)) (k : Nat), (l.take k).flatten.length ≤ l.flatten.length
  | [], k => by simp
  | a :: r, 0 => by simp
  | a :: r, k + 1 => by
    have := flat_le r k
    rw [List.take_succ_cons, List.flatten_cons, List.flatten_cons, List.length_append, List.length_append]
    omega
section
variable {P : Program} {w : World} {K : PySem.W.Frag} {mg : Str → Option Value} {base : Heap}
theorem ok_flat {f : Addr} {fd : FuncData} {k : Nat} (F : Fun K "_law_flat" "_law_flat" sLFlat f fd) : FnOk P w K mg base CX0 (k + 1) f fd ["_law_pieces"] (spFlat K) := by
  refine F.ok scLFlat (fun vs H Q E h => ?_) (fun cdv A outer s H vs Q E hr h => ?_)
  · obtain ⟨a, as, lss, rfl, _⟩ := h
    rfl
  · obtain ⟨a, as, lss, rfl, hx, hp, hz, q⟩ := h
    refine ⟨_, pss_cons (ps_set (i := 1) scLFlat.nd rfl (.inl rfl) (pe_lst pa_nil))
      (pss_cons (ps_for PassesOwn.never rfl (pi_list (pv 0)) (pg_name (i := 2) scLFlat.nd rfl (.inl rfl)) (pss_one (ps_aug (i := 1) scLFlat.nd rfl (.inl rfl) (pv 2) ip_cat)))
      (pss_one (ps_ret (pv 1)))), ?_⟩
    refine q_asgL (xs := []) (el_lst ea_nil (Nat.zero_le _)) fun p H1 np e1 hp1 => ?_
    refine q_forLn (xs := as.map V.ref) (ev_var rfl) (ex_l e1 hx) (fun i σ' H' => ∃ v2, σ' = [some (.ref a), some (.ref p), v2] ∧ Ex H H' ∧ H' p = some (.lst (tv (lss.take i).flatten))) (fun H2 e2 => ⟨_, rfl, e1.trans e2, e2 _ _ hp1⟩) (fun i σ' H' _ z => ?_) (fun i y σ' H' hy z => ?_) (fun σ' H' z => ?_)
    · obtain ⟨_, _, ez, _⟩ := z
      exact ex_l ez hx
    · obtain ⟨v2, rfl, ez, hpz⟩ := z
      rw [List.getElem?_map] at hy
      obtain ⟨b, hb, rfl⟩ := Option.map_eq_some_iff.mp hy
      have hi : i < lss.length := by
        rw [← hp.1]
        exact (List.getElem?_eq_some_iff.mp hb).1
      have hl : lss[i]? = some lss[i] := List.getElem?_eq_getElem hi
      have hbH := hp.2 i _ b hl hb
      have e2 : (lss.take (i + 1)).flatten = (lss.take i).flatten ++ lss[i] := by
        rw [take_succ' hl, List.flatten_append]
        simp
      have hle := flat_le lss (i + 1)
      rw [e2, List.length_append] at hle
      show tAug 1 (tVar 2) ipCat _ [some (.ref a), some (.ref p), some (.ref b)] H'
      refine ⟨_, rfl, _, rfl, p, b, _, _, rfl, rfl, hpz, ez _ _ hbH, by rw [tv_len, tv_len]; omega, ?_⟩
      refine ⟨_, rfl, ez.mut np, ?_⟩
      rw [upd_same, e2, tv_app]
    · obtain ⟨v2, rfl, ez, hpz⟩ := z
      rw [List.length_map, List.take_of_length_le (by rw [hp.1]; exact Nat.le_refl _)] at hpz
      refine s_ret (v := .ref p) (ev_var rfl) fun H3 e3 => q p H3 np (ez.trans e3) (e3 _ _ hpz)
end
end Hv
/-! module HvCase -/
set_option maxHeartbeats 4000000
/-! upper and lower of names; words that are still free. -/
namespace Hy
open PySem PySem.Spec PyProof.Rows L2 Evl Hc Hs
theorem low_small : ∀ c ∈ smalls, Unicode.lowerOf c = [c] := by decide +kernel
theorem low_large : ∀ c ∈ larges, Unicode.lowerOf c = [c + 32] := by decide +kernel
theorem up_small : ∀ c ∈ smalls, Unicode.upperOf c = [c - 32] := by decide +kernel
theorem flatten_arr (ls : List (List Nat)) : (ls.map List.toArray).toArray.flatten = ls.flatten.toArray := by simp
theorem lower_S (L : List Nat) (h : ∀ c ∈ L, c ≠ 931) : Txt.lower (S L) = S (L.flatMap Unicode.lowerOf) := by
  have e : (S L).cps.mapIdx (fun i _ => (Unicode.lowerAt (S L).cps i).toArray) = ((L.map Unicode.lowerOf).map List.toArray).toArray := by
    apply Array.ext
    · simp
    · intro i h1 h2
      have hi : i < L.length := by simpa using h1
      have hc : L[i] ∈ L := List.getElem_mem hi
      have hn : (L[i] == 931) = false := by simpa using h _ hc
      simp [Unicode.lowerAt, hi, hn]
      intro hx
      exact absurd hx (h _ hc)
  show (⟨((S L).cps.mapIdx fun i _ => (Unicode.lowerAt (S L).cps i).toArray).flatten⟩ : Str) = _
  rw [e, flatten_arr, List.flatMap_def]
theorem upper_S (L : List Nat) : Txt.upper (S L) = S (L.flatMap Unicode.upperOf) := by
  have e : (S L).cps.mapIdx (fun _ c => (Unicode.upperOf c).toArray) = ((L.map Unicode.upperOf).map List.toArray).toArray := by
    apply Array.ext
    · simp
    · intro i h1 h2
      simp
  show (⟨((S L).cps.mapIdx fun _ c => (Unicode.upperOf c).toArray).flatten⟩ : Str) = _
  rw [e, flatten_arr, List.flatMap_def]
/-- a word with a large first letter -/
def capd : List Nat → List Nat
  | [] => []
  | c :: m => (c - 32) :: m
theorem sm_lt {c : Nat} (h : c ∈ smalls) : 97 ≤ c ∧ c ≤ 122 := by
  revert c
  decide
theorem la_of {c : Nat} (h : c ∈ smalls) : c - 32 ∈ larges := by
  revert c
  decide
theorem flat_low {m : List Nat} (h : ∀ c ∈ m, c ∈ smalls) : m.flatMap Unicode.lowerOf = m := by
  induction m with
  | nil => rfl
  | cons c m ih =>
    rw [List.flatMap_cons, low_small c (h c List.mem_cons_self), ih fun x hx => h x (List.mem_cons_of_mem _ hx)]
    rfl
structure Small (w : List Nat) : Prop where
  all : ∀ c ∈ w, c ∈ smalls
  le : w.length ≤ 8
  pos : 1 ≤ w.length
theorem Small.good {w : List Nat} (h : Small w) : GoodNm (capd w) := by
  cases w with
  | nil => exact absurd h.pos (by simp)
  | cons c m =>
    refine ⟨?_⟩
    show (decide (((c - 32) :: m).length ≤ 8) && decide (c - 32 ∈ larges) && areSmall m) = true
    rw [Bool.and_eq_true, Bool.and_eq_true]
    refine ⟨⟨decide_eq_true (by have := h.le; simpa using this), decide_eq_true (la_of (h.all c List.mem_cons_self))⟩, ?_⟩
    unfold areSmall
    rw [List.all_eq_true]
    exact fun x hx => decide_eq_true (h.all x (List.mem_cons_of_mem _ hx))
theorem Small.lower {w : List Nat} (h : Small w) : Txt.lower (S (capd w)) = S w := by
  cases w with
  | nil => exact absurd h.pos (by simp)
  | cons c m =>
    have hc := h.all c List.mem_cons_self
    have hm : ∀ x ∈ m, x ∈ smalls := fun x hx => h.all x (List.mem_cons_of_mem _ hx)
    rw [lower_S _ (fun x hx => by
      rcases List.mem_cons.mp hx with rfl | hx
      · have := sm_lt hc
        omega
      · have := sm_lt (hm x hx)
        omega)]
    congr 2
    show ((c - 32) :: m).flatMap Unicode.lowerOf = c :: m
    rw [List.flatMap_cons, low_large _ (la_of hc), flat_low hm]
    have := sm_lt hc
    show (c - 32 + 32) :: m = c :: m
    rw [Nat.sub_add_cancel (by omega)]
theorem Small.upper {w : List Nat} (h : Small w) : Txt.upper (S (w.take 1)) = S ((capd w).take 1) := by
  cases w with
  | nil => exact absurd h.pos (by simp)
  | cons c m =>
    rw [upper_S]
    show S (List.flatMap Unicode.upperOf [c]) = S [c - 32]
    rw [List.flatMap_cons, up_small c (h.all c List.mem_cons_self)]
    rfl
theorem capd_drop (w : List Nat) : (capd w).take 1 ++ w.drop 1 = capd w := by cases w <;> rfl
theorem capd_inj {v w : List Nat} (hv : Small v) (hw : Small w) (e : capd v = capd w) : v = w := by
  have h1 := hv.lower
  rw [e, hw.lower] at h1
  exact (S_inj h1).symm
/-! ### free words -/
theorem free_word {w : List Nat} (h : ∀ c ∈ w, c ∈ smalls) {tk : List Nm} (ht : tk.length ≤ 8) : ∃ c ∈ smalls, (w.take 7 ++ [c]) ∉ tk ++ resv := by
  by_cases hx : ∃ c ∈ smalls, (w.take 7 ++ [c]) ∉ tk ++ resv
  · exact hx
  · exfalso
    have hsub : smalls.map (fun c => w.take 7 ++ [c]) ⊆ tk ++ resv := fun x hx2 => by
      obtain ⟨c, hc, rfl⟩ := List.mem_map.mp hx2
      apply Classical.byContradiction
      intro hz
      exact hx ⟨c, hc, hz⟩
    have hnd : (smalls.map fun c => w.take 7 ++ [c]).Nodup := by
      have h0 : smalls.Nodup := by decide
      rw [List.nodup_iff_pairwise_ne] at h0 ⊢
      refine List.Pairwise.map _ (fun a b hab z => hab ?_) h0
      have := List.append_cancel_left z
      simpa using this
    have hl := List.Nodup.length_le_of_subset hnd hsub
    rw [List.length_map, List.length_append] at hl
    have h1 : smalls.length = 26 := rfl
    have h2 : resv.length = 14 := by decide
    omega
end Hy
/-! module HsDraw -/
set_option maxHeartbeats 4000000
/-! The draws of a law: where its state stands, and that each draw gives some number below its bound and leaves all else. -/
namespace Hc
open PySem PySem.Spec PyProof.Rows L2

/-- a draw's state: the list st, with the great numbers at g, the small ones at sm -/
def DrawSt (H : Hp) (st g sm : Addr) : Prop := ∃ (gs ss : List Int) (n z : Int), H st = some (.lst [.ref g, .ref sm, .int n, .int z]) ∧ H g = some (.lst (gs.map V.int)) ∧ H sm = some (.lst (ss.map V.int)) ∧
  (∀ x ∈ gs, 0 ≤ x) ∧ (∀ x ∈ ss, 0 ≤ x ∧ x < 2 ^ 40) ∧ ss.length ≤ 63 ∧ gs.length ≤ 63 ∧ 0 ≤ n ∧ 0 ≤ z ∧ z < 2 ^ 63 ∧ g ≠ sm
/-- what a draw writes -/
def Dr (st g : Addr) : Addr → Prop := fun b => b = st ∨ b = g
theorem DrawSt.ext {H H' : Hp} {st g sm : Addr} {S : Addr → Prop} (d : DrawSt H st g sm) (e : Ext S H H') (h1 : ¬ S st) (h2 : ¬ S g) (h3 : ¬ S sm) : DrawSt H' st g sm := by
  obtain ⟨gs, ss, n, z, a1, a2, a3, r⟩ := d
  exact ⟨gs, ss, n, z, e _ _ a1 h1, e _ _ a2 h2, e _ _ a3 h3, r⟩
theorem DrawSt.same {H H' : Hp} {st g sm : Addr} (d : DrawSt H st g sm) (e : Same H H') : DrawSt H' st g sm := by
  obtain ⟨gs, ss, n, z, a1, a2, a3, r⟩ := d
  exact ⟨gs, ss, n, z, e _ _ a1, e _ _ a2, e _ _ a3, r⟩

/-- a free place is none of the state's -/
theorem DrawSt.off {H : Hp} {st g sm p : Addr} (d : DrawSt H st g sm) (h : H p = none) : p ≠ st ∧ p ≠ g ∧ p ≠ sm := by
  obtain ⟨_, _, _, _, a1, a2, a3, _⟩ := d
  exact ⟨(ne_of_none a1 h).symm, (ne_of_none a2 h).symm, (ne_of_none a3 h).symm⟩
theorem DrawSt.put {H : Hp} {st g sm p : Addr} {o : HO} (d : DrawSt H st g sm) (n : p ≠ st ∧ p ≠ g ∧ p ≠ sm) : DrawSt (upd H p o) st g sm := by
  obtain ⟨gs, ss, a, z, a1, a2, a3, r⟩ := d
  exact ⟨gs, ss, a, z, (upd_ne n.1.symm).trans a1, (upd_ne n.2.1.symm).trans a2, (upd_ne n.2.2.symm).trans a3, r⟩
theorem dr_off {st g sm p : Addr} (n : p ≠ st ∧ p ≠ g ∧ p ≠ sm) : ¬ Dr st g p := fun z => z.elim n.1 n.2.1
/-- what was written behind H at a place that is free in H -/
theorem Ext.puts {S : Addr → Prop} {H H' : Hp} {p : Addr} {o : HO} (e : Ext S H H') (h : H p = none) : Ext S H (upd H' p o) := fun b u z n => by
  rw [upd_ne (ne_of_none z h)]
  exact e b u z n

structure TxtD (mg : Str → Option Value) : Prop where
  int : mg "int" = none
  abs : mg "abs" = none
  len : mg "len" = none

def spStart (K : PySem.W.Frag) : Sp := fun vs H Q _ => ∃ (a : Addr) (ns : List Int), vs = [.ref a] ∧ SqL K H a (ns.map V.int) ∧ ns.length ≤ 63 ∧
  ∀ (H' : Hp) (st g sm : Addr), Same H H' → H st = none → H g = none → H sm = none → DrawSt H' st g sm → Q (.ref st) H'
def spDraw : Sp := fun vs H Q _ => ∃ (st g sm : Addr) (m : Int), vs = [.ref st, .int m] ∧ DrawSt H st g sm ∧ 0 < m ∧ m < 2 ^ 60 ∧
  ∀ (r : Int) (H' : Hp), 0 ≤ r → r < m → Ext (Dr st g) H H' → DrawSt H' st g sm → Q (.int r) H'
def spOf (K : PySem.W.Frag) : Sp := fun vs H Q _ => ∃ (st g sm l : Addr) (xs : List V), vs = [.ref st, .ref l] ∧ DrawSt H st g sm ∧ (SqL K H l xs ∨ SqT K H l xs) ∧ ¬ Dr st g l ∧ 0 < xs.length ∧ xs.length < 2 ^ 60 ∧
  ∀ (i : Nat) (v : V) (H' : Hp), xs[i]? = some v → Ext (Dr st g) H H' → DrawSt H' st g sm → Q v H'

section
variable {P : Program} {w : World} {K : PySem.W.Frag} {mg : Str → Option Value} {base : Heap}
abbrev nStart : List Str := ["_law_script", "_law_cells", "_law_great", "_law_small", "_law_cell"]
theorem scStart : FnScope nStart ["_law_script"] (defScope sStart) := ⟨rfl, rfl, rfl, by decide +kernel, rfl, by decide +kernel, by decide +kernel⟩
theorem scDraw : FnScope ["_law_state", "_law_many", "_law_great", "_law_small", "_law_taken", "_law_own", "_law_mixed"] ["_law_state", "_law_many"] (defScope sDraw) := ⟨rfl, rfl, rfl, by decide +kernel, rfl, by decide +kernel, by decide +kernel⟩
theorem scOf : FnScope ["_law_state", "_law_some"] ["_law_state", "_law_some"] (defScope sOf) := ⟨rfl, rfl, rfl, by decide +kernel, rfl, by decide +kernel, by decide +kernel⟩

theorem boot_int : bootBuiltins "int" = some (.type "int") := by decide +kernel
theorem boot_abs : bootBuiltins "abs" = some (.builtin "abs") := by decide +kernel

theorem ok_draw {f : Addr} {fd : FuncData} {k : Nat} (F : Fun K "_law_draw" "_law_draw" sDraw f fd) (T : TxtD mg) : FnOk P w K mg base CX0 (k + 1) f fd ["_law_state", "_law_many"] spDraw := by
  refine F.ok scDraw (fun vs H Q E h => ?_) (fun cdv A outer s H vs Q E hr h => ?_)
  · obtain ⟨st, g, sm, m, rfl, _⟩ := h
    rfl
  · obtain ⟨st, g, sm, m, rfl, ⟨gs, ss, n, z, hst, hg, hsm, gpos, spos, slen, glen, n0, z0, z1, gsm⟩, m0, m1, q⟩ := h
    refine ⟨_, pss_cons (ps_par (i := 2) (j := 3) (by rfl) scDraw.nd rfl rfl (by decide) rfl rfl (pa_cons (pe_ix ix_list (pv 0) pe_int (fun _ _ => rfl)) (pa_cons (pe_ix ix_list (pv 0) pe_int (fun _ _ => rfl)) pa_nil)) (by rfl))
      (pss_cons (ps_augS (pv 0) pe_int pg_list pe_int ip_add set_list)
      (Evl.pss_cut (ps_if (PW.pt (pw_and (pt_truth (pv 2) (by intro _; rfl)) (pw_and1 (pt_cmpR op_eq (pe_ix ix_list (pv 2) pe_int (fun _ _ => rfl)) pe_int (nomark _)))))
          (pss_one (ps_expr (pe_bm PySem.F.plainAttrs_list PySem.F.slot_list_pop PySem.F.type_list_pop mt_popAt (pv 2) (pa_cons pe_int pa_nil)))) pss_nil)
      (pss_cons (ps_if (pt_truth (pv 2) (by intro _; rfl))
          (pss_cons (ps_set (i := 4) scDraw.nd rfl (.inl rfl) (pe_op op_mod (pe_callTy call_int1 (by rfl) T.int boot_int (pa_cons (pe_ix ix_list (pv 2) pe_int (fun _ _ => rfl)) pa_nil)) (pv 1)))
            (pss_cons (ps_asg (pe_op op_fdivW (pe_ix ix_list (pv 2) pe_int (fun _ _ => rfl)) (pv 1)) (pg_sub (pv 2) pe_int set_list))
            (pss_one (ps_ret (pv 4))))) pss_nil)
      (Evl.pss_cut (ps_set (i := 5) scDraw.nd rfl (.inl rfl) (pe_ifExp (pt_truth (pv 3) (by intro _; rfl)) (pe_ix ix_list (pv 3) (pe_op op_mod (pe_callTy call_int1 (by rfl) T.int boot_int (pa_cons (pe_ix ix_list (pv 0) pe_int (fun _ _ => rfl)) pa_nil)) (pe_callB call_len_seq (by rfl) T.len PySem.boot_len (pa_cons (pv 3) pa_nil))) (fun _ _ => rfl)) pe_int))
      (pss_cons (ps_asg (pe_op op_mod (pe_callTy call_int1 (by rfl) T.int boot_int (pa_cons
            (pe_op op_add (pe_op op_add (pe_op op_add (pe_op op_mul (pe_ix ix_list (pv 0) pe_int (fun _ _ => rfl)) pe_int) (pe_op op_mul (pv 5) pe_int)) (pe_op op_mul (pe_ix ix_list (pv 0) pe_int (fun _ _ => rfl)) pe_int)) pe_int) pa_nil)) pe_int) (pg_sub (pv 0) pe_int set_list))
      (pss_cons (ps_set (i := 6) scDraw.nd rfl (.inl rfl) (pe_op op_mod (pe_callTy call_int1 (by rfl) T.int boot_int (pa_cons
            (pe_op op_add (pe_op op_mul (pe_ix ix_list (pv 0) pe_int (fun _ _ => rfl)) (pe_ix ix_list (pv 0) pe_int (fun _ _ => rfl))) (pe_op op_mul pe_int (pe_ix ix_list (pv 0) pe_int (fun _ _ => rfl)))) pa_nil)) pe_int))
      (pss_one (ps_ret (pe_op op_mod (pe_callTy call_int1 (by rfl) T.int boot_int (pa_cons (pe_op op_fdiv (pv 6) pe_int) pa_nil)) (pv 1)))))))))), ?_⟩
    have nsg : st ≠ g := ne_of hst hg (by intro z; cases gs <;> cases z)
    have nss : st ≠ sm := ne_of hst hsm (by intro z; cases ss <;> cases z)
    -- great, small = (state[0], state[1])
    refine ⟨_, rfl, st, _, 0, _, rfl, rfl, SqL.of hst, atI_nat (j := 0) rfl, _, rfl, st, _, 1, _, rfl, rfl, SqL.of hst, atI_nat (j := 1) rfl, _, _, rfl, ?_⟩
    -- state[2] += 1
    refine ⟨_, rfl, st, _, 2, _, rfl, rfl, SqL.of hst, atI_nat (j := 2) rfl, n, 1, rfl, rfl, st, _, 2, 2, rfl, rfl, hst, rfl, ?_⟩
    -- if great and great[0] == 0: great.pop(0)
    refine ⟨fun σ' H' => σ' = [some (.ref st), some (.int m), some (.ref g), some (.ref sm), none, none, none] ∧ ∃ gs' : List Int, H' st = some (.lst [.ref g, .ref sm, .int (n + 1), .int z]) ∧ H' g = some (.lst (gs'.map V.int)) ∧
      Ext (Dr st g) H H' ∧ (∀ x ∈ gs', 0 ≤ x) ∧ gs'.length ≤ 63, ?_, ?_⟩
    · have e1 : (upd H st (.lst ([V.ref g, V.ref sm, V.int n, V.int z].set 2 (V.int (n + 1))))) g = some (.lst (gs.map V.int)) := by
        rw [upd_ne nsg.symm]
        exact hg
      refine ⟨_, rfl, !(gs.map V.int).isEmpty, .inl ⟨_, SqL.of e1, rfl⟩, ?_⟩
      cases gs with
      | nil => exact iteF (iteF ⟨rfl, [], upd_same, e1, Ext.put (.inl rfl), gpos, glen⟩)
      | cons x r =>
        refine iteT ⟨_, rfl, g, _, 0, _, rfl, rfl, SqL.of e1, atI_nat (j := 0) rfl, rfl, _, rfl, ?_⟩
        refine ite2 (fun _ => ?_) (fun _ => ?_)
        · refine ⟨_, rfl, .inl ⟨rfl, _, SqL.of e1⟩, g, _, 0, 0, _, rfl, rfl, e1, by decide, by decide, seqIndex_of (by decide) (by rw [List.length_map, List.length_cons]; omega), rfl, ?_⟩
          refine ⟨rfl, r, ?_, ?_, (Ext.put (.inl rfl)).trans (Ext.put (.inr rfl)), fun y hy => gpos y (List.mem_cons_of_mem _ hy), by rw [List.length_cons] at glen; omega⟩
          · rw [upd_ne nsg, upd_same]
            rfl
          · rw [upd_same]
            rfl
        · exact ⟨rfl, x :: r, upd_same, e1, Ext.put (.inl rfl), gpos, glen⟩
    · rintro σ' H1 ⟨rfl, gs', f1, f2, ex, gpos', glen'⟩
      -- if great: ..
      have f3 : H1 sm = some (.lst (ss.map V.int)) := ex _ _ hsm (by rintro (e | e); exact nss e.symm; exact gsm e.symm)
      refine ⟨_, rfl, !(gs'.map V.int).isEmpty, .inl ⟨_, SqL.of f2, rfl⟩, ?_⟩
      cases gs' with
      | cons x r =>
        have x0 : 0 ≤ x := gpos' x List.mem_cons_self
        refine iteT ⟨_, rfl, g, _, 0, _, rfl, rfl, SqL.of f2, atI_nat (j := 0) rfl, .inl ⟨x, rfl, ?_⟩⟩
        refine ⟨_, rfl, x, m, rfl, rfl, m0, ?_⟩
        refine ⟨_, rfl, g, _, 0, _, rfl, rfl, SqL.of f2, atI_nat (j := 0) rfl, _, rfl, x, m, rfl, rfl, wide_div (b := 60) m0 (by omega) (by decide) (by decide), ?_⟩
        refine ⟨_, rfl, g, _, 0, 0, rfl, rfl, f2, Evl.ixN_nat (j := 0) (by rw [List.length_map, List.length_cons]; omega), ?_⟩
        refine ⟨_, rfl, q _ _ (Int.emod_nonneg _ (by omega)) (Int.emod_lt_of_pos _ m0) (ex.trans (Ext.put (.inr rfl))) ⟨(x / m) :: r, ss, n + 1, z, ?_, ?_, ?_, ?_, spos, slen, glen', by omega, z0, z1, gsm⟩⟩
        · rw [upd_ne nsg]
          exact f1
        · rw [upd_same]
          rfl
        · rw [upd_ne (Ne.symm gsm)]
          exact f3
        · intro y hy
          rcases List.mem_cons.mp hy with e | hy
          · rw [e]
            exact Int.ediv_nonneg x0 (by omega)
          · exact gpos' y (List.mem_cons_of_mem _ hy)
      | nil =>
        refine iteF ?_
        -- own = small[..] if small else 3
        refine ⟨fun σ' H' => H' = H1 ∧ ∃ o : Int, 0 ≤ o ∧ o < 2 ^ 40 ∧ σ' = [some (.ref st), some (.int m), some (.ref g), some (.ref sm), none, some (.int o), none], ?_, ?_⟩
        · refine ⟨_, rfl, !(ss.map V.int).isEmpty, .inl ⟨_, SqL.of f3, rfl⟩, ?_⟩
          cases ss with
          | nil => exact iteF ⟨rfl, 3, by decide, by decide, rfl⟩
          | cons y r =>
            have hl : (0 : Int) < (((y :: r).map V.int).length : Nat) := by simp
            have h1 := Int.emod_nonneg (n + 1) (show ((((y :: r).map V.int).length : Nat) : Int) ≠ 0 by omega)
            have h2 := Int.emod_lt_of_pos (n + 1) hl
            obtain ⟨j, hj⟩ := Int.eq_ofNat_of_zero_le h1
            have hj2 : j < (y :: r).length := by
              rw [hj] at h2
              rw [List.length_map] at h2
              omega
            have hv : ((y :: r).map V.int)[j]? = some (.int (y :: r)[j]) := by
              rw [List.getElem?_map, List.getElem?_eq_getElem hj2]
              rfl
            have hm := spos _ (List.getElem_mem hj2)
            refine iteT ⟨_, rfl, _, rfl, st, _, 2, _, rfl, rfl, SqL.of f1, atI_nat (j := 2) rfl, .inl ⟨_, rfl, ?_⟩⟩
            refine ⟨_, rfl, sm, _, rfl, .inl (SqL.of f3), n + 1, _, rfl, rfl, hl, sm, _, _, _, rfl, rfl, SqL.of f3, at_of hj hv, rfl, _, hm.1, hm.2, rfl⟩
        · rintro σ' H' ⟨rfl, o, o0, o1, rfl⟩
          -- state[3] = ..
          refine ⟨_, rfl, st, _, 3, _, rfl, rfl, SqL.of f1, atI_nat (j := 3) rfl, z, 48271, rfl, rfl, .inr (by decide), ?_⟩
          refine ⟨_, rfl, o, 40692, rfl, rfl, .inr (by decide), _, _, rfl, rfl, ?_⟩
          refine ⟨_, rfl, st, _, 2, _, rfl, rfl, SqL.of f1, atI_nat (j := 2) rfl, n + 1, 69621, rfl, rfl, .inr (by decide), _, _, rfl, rfl, _, _, rfl, rfl, .inl ⟨_, rfl, ?_⟩⟩
          refine ⟨_, _, rfl, rfl, by show (0 : Int) < 2305843009213693951; decide, ?_⟩
          refine ⟨_, rfl, st, _, 3, 3, rfl, rfl, f1, rfl, ?_⟩
          dsimp only
          generalize hz' : (z * 48271 + o * 40692 + (n + 1) * 69621 + 11) % 2305843009213693951 = z'
          have z0' : 0 ≤ z' := by
            rw [← hz']
            exact Int.emod_nonneg _ (by decide)
          have z1' : z' < 2305843009213693951 := by
            rw [← hz']
            exact Int.emod_lt_of_pos _ (by decide)
          have e1 : (upd H' st (.lst ([V.ref g, V.ref sm, V.int (n + 1), V.int z].set 3 (V.int z')))) st = some (.lst [V.ref g, V.ref sm, V.int (n + 1), V.int z']) := upd_same
          -- mixed = ..
          refine ⟨_, rfl, st, _, 3, _, rfl, rfl, SqL.of e1, atI_nat (j := 3) rfl, _, rfl, st, _, 3, _, rfl, rfl, SqL.of e1, atI_nat (j := 3) rfl, z', z', rfl, rfl, .inl ⟨by omega, by omega⟩, ?_⟩
          refine ⟨_, rfl, st, _, 2, _, rfl, rfl, SqL.of e1, atI_nat (j := 2) rfl, 1000003, n + 1, rfl, rfl, .inl (by decide), _, _, rfl, rfl, .inl ⟨_, rfl, ?_⟩⟩
          refine ⟨_, _, rfl, rfl, by show (0 : Int) < 2305843009213693921; decide, ?_⟩
          refine ⟨_, rfl, _, _, rfl, rfl, ⟨by decide, by decide⟩, .inl ⟨_, rfl, ?_⟩⟩
          refine ⟨_, rfl, _, m, rfl, rfl, m0, ?_⟩
          refine q _ _ (Int.emod_nonneg _ (by omega)) (Int.emod_lt_of_pos _ m0) (ex.trans (Ext.put (.inl rfl))) ⟨[], ss, n + 1, z', e1, ?_, ?_, fun y hy => (nomatch hy), spos, slen, by decide, by omega, z0', by omega, gsm⟩
          · rw [upd_ne nsg.symm]
            exact f2
          · rw [upd_ne nss.symm]
            exact f3

theorem cut63 (xs : List V) (h : xs.length ≤ 63) : cutV xs none (some 63) = xs := by
  unfold cutV
  rw [HT.sIx_none, show ((63 : Int)) = ((63 : Nat) : Int) from rfl, HT.sIx_nat, List.drop_zero, Nat.sub_zero, Nat.min_eq_right h, List.take_length]
theorem wipe1 {σ : L2.St} {j : Nat} (x : V) : wipe ((wipe σ [j]).set j (some x)) [j] = wipe σ [j] := by
  show ((σ.set j none).set j (some x)).set j none = σ.set j none
  rw [List.set_set, List.set_set]
theorem absI (n : Int) : (if n < 0 then -n else n) = (n.natAbs : Int) := by
  by_cases h : n < 0
  · rw [if_pos h]
    omega
  · rw [if_neg h]
    omega
open Evl in
theorem ev_int {σ : L2.St} {H : Hp} {te : TE} {n : Int} (h : Ev te σ H (.int n)) : Ev (tCB (fun (xs : List V) (H : Hp) (Q : VK) => (∃ i, xs = [.int i] ∧ Q (.int i) H) ∨ ∃ k, xs = [.bl k] ∧ Q (.int (if k then 1 else 0)) H) (tCons te tNil)) σ H (.int n) :=
  ev_cb (ea_cons h ea_nil) fun H1 _ Q q => .inl ⟨n, rfl, q H1 (Ex.refl H1)⟩
open Evl in
theorem ev_abs {σ : L2.St} {H : Hp} {te : TE} {n : Int} (h : Ev te σ H (.int n)) : Ev (tCB (fun (xs : List V) (H : Hp) (Q : VK) => ∃ i, xs = [.int i] ∧ Q (.int (if i < 0 then -i else i)) H) (tCons te tNil)) σ H (.int (n.natAbs : Int)) :=
  ev_cb (ea_cons h ea_nil) fun H1 _ Q q => ⟨n, rfl, by rw [absI]; exact q H1 (Ex.refl H1)⟩
open Evl in
theorem ok_start {f : Addr} {fd : FuncData} {k : Nat} (F : Fun K "_law_start" "_law_start" sStart f fd) (T : TxtD mg) : FnOk P w K mg base CX0 (k + 1) f fd ["_law_script"] (spStart K) := by
  refine F.ok scStart (fun vs H Q E h => ?_) (fun cdv A outer s H vs Q E hr h => ?_)
  · obtain ⟨a, ns, rfl, _⟩ := h
    rfl
  · obtain ⟨a, ns, rfl, hS, hlen, q⟩ := h
    refine ⟨_, pss_cons (ps_setLc (i := 1) (own := [("_law_cell", 4)]) (g := gName 4) (tt := tYes) rfl scStart.nd rfl rfl (sw_true rfl rfl rfl (by decide +kernel)) (pi_list (pe_slice sl_list (pv 0) po_none (po_some pe_int)))
          (blkOk_by (N := nStart) (sc := defScope sStart) (by decide +kernel)) (fun _ _ _ _ _ => pg_name (i := 4) scStart.nd rfl (.inl rfl)) (fun _ _ _ _ _ => pts_nil) (fun _ _ _ _ _ => pe_callTy call_int1 (by rfl) T.int boot_int (pa_cons (pv 4) pa_nil)))
      (pss_cons (ps_setLc (i := 2) (own := [("_law_cell", 4)]) (g := gName 4) rfl scStart.nd rfl rfl (sw_true rfl rfl rfl (by decide +kernel)) (pi_list (pv 1))
          (blkOk_by (N := nStart) (sc := defScope sStart) (by decide +kernel)) (fun _ _ _ _ _ => pg_name (i := 4) scStart.nd rfl (.inl rfl)) (fun _ _ _ _ _ => pts_one (pt_cmpR op_ge (pe_callB call_abs (by rfl) T.abs boot_abs (pa_cons (pv 4) pa_nil)) (pe_op op_pow pe_int pe_int) (nomark _)))
          (fun _ _ _ _ _ => pe_callB call_abs (by rfl) T.abs boot_abs (pa_cons (pv 4) pa_nil)))
      (pss_cons (ps_setLc (i := 3) (own := [("_law_cell", 4)]) (g := gName 4) rfl scStart.nd rfl rfl (sw_true rfl rfl rfl (by decide +kernel)) (pi_list (pv 1))
          (blkOk_by (N := nStart) (sc := defScope sStart) (by decide +kernel)) (fun _ _ _ _ _ => pg_name (i := 4) scStart.nd rfl (.inl rfl)) (fun _ _ _ _ _ => pts_one (pt_cmpR op_lt (pe_callB call_abs (by rfl) T.abs boot_abs (pa_cons (pv 4) pa_nil)) (pe_op op_pow pe_int pe_int) (nomark _)))
          (fun _ _ _ _ _ => pe_op op_add (pe_op op_mod (pe_callTy call_int1 (by rfl) T.int boot_int (pa_cons (pv 4) pa_nil)) pe_int) pe_int))
      (pss_one (ps_ret (pe_lst (pa_cons (pv 2) (pa_cons (pv 3) (pa_cons pe_int (pa_cons (pe_op op_add pe_int (pe_callB call_len_seq (by rfl) T.len PySem.boot_len (pa_cons (pv 1) pa_nil))) pa_nil))))))))), ?_⟩
    have hpow : ∀ (H1 : Hp) (σ : L2.St), Ev (tOp (rI CPow fun i j => V.int (i ^ j.toNat)) (tC (.int 10)) (tC (.int 18))) σ H1 (.int (10 ^ 18)) := fun H1 σ => ev_op ev_c ev_c (rv_I ⟨by decide, by decide, by decide⟩)
    -- cells
    refine q_asgL (el_mapN ns V.int (fun _ => true) V.int (by
      have z := el_sl (K := K) (te := tVar 0) (tl := tNoPart) (th := tPart (tC (.int 63))) (σ := start ["_law_script", "_law_cells", "_law_great", "_law_small", "_law_cell"] [V.ref a]) (H := H) (ev_var rfl) eo_none (eo_some ev_c) hS
      rw [cut63 _ (by rw [List.length_map]; exact hlen)] at z
      exact z) (by omega) wipe1 (fun x H1 _ _ => et_yes) (fun x H1 _ _ _ => ev_int (ev_var rfl))) fun c H1 nc e1 hc => ?_
    rw [List.filter_eq_self.mpr (fun _ _ => rfl)] at hc
    -- great
    refine q_asgL (el_map ns V.int (fun x => decide (10 ^ 18 ≤ (x.natAbs : Int))) (fun x => V.int (x.natAbs : Int)) (ev_var rfl) (SqL.of hc) (by omega) wipe1 (fun x H1 _ _ => et_test (ev_op (ev_abs (ev_var rfl)) (hpow _ _) rv_I0)) (fun x H1 _ _ _ => ev_abs (ev_var rfl))) fun g H2 ng e2 hg => ?_
    -- small
    refine q_asgL (el_map ns V.int (fun x => decide ((x.natAbs : Int) < 10 ^ 18)) (fun x => V.int (x % 2147483629 + 1)) (ev_var rfl) (SqL.of (e2 _ _ hc)) (by omega) wipe1 (fun x H1 _ _ => et_test (ev_op (ev_abs (ev_var rfl)) (hpow _ _) rv_I0)) (fun x H1 _ _ _ => ev_op (ev_op (ev_int (ev_var rfl)) ev_c (rv_I (by decide))) ev_c rv_I0)) fun sm H3 nsm e3 hsm => ?_
    -- return
    refine s_retL (el_lst (ea_cons (ev_var rfl) (ea_cons (ev_var rfl) (ea_cons ev_c (ea_cons (ev_op ev_c (ev_len (ev_var rfl) (SqL.of (e3 _ _ (e2 _ _ hc)))) rv_I0) ea_nil)))) (by show 4 ≤ 100000; decide)) fun st H4 nst e4 hst => ?_
    have f1 : H g = none := fresh_back e1 ng
    have f2 : H sm = none := fresh_back (e1.trans e2) nsm
    have f3 : H st = none := fresh_back ((e1.trans e2).trans e3) nst
    refine q H4 st g sm (((e1.trans e2).trans e3).trans e4) f3 f1 f2 ⟨(ns.filter fun x => decide (10 ^ 18 ≤ (x.natAbs : Int))).map fun x => (x.natAbs : Int), (ns.filter fun x => decide ((x.natAbs : Int) < 10 ^ 18)).map fun x => x % 2147483629 + 1, 0, 7 + (ns.length : Int), ?_, ?_, ?_, ?_, ?_, ?_, ?_, by decide, by omega, by omega, ?_⟩
    · rw [List.length_map] at hst
      exact hst
    · rw [List.map_map]
      exact e4 _ _ (e3 _ _ hg)
    · rw [List.map_map]
      exact e4 _ _ hsm
    · intro x hx
      obtain ⟨y, _, rfl⟩ := List.mem_map.mp hx
      omega
    · intro x hx
      obtain ⟨y, _, rfl⟩ := List.mem_map.mp hx
      have h1 := Int.emod_nonneg y (show (2147483629 : Int) ≠ 0 by decide)
      have h2 := Int.emod_lt_of_pos y (show (0 : Int) < 2147483629 by decide)
      omega
    · rw [List.length_map]
      exact Nat.le_trans (List.length_filter_le _ _) hlen
    · rw [List.length_map]
      exact Nat.le_trans (List.length_filter_le _ _) hlen
    · exact ne_of_none hg nsm

theorem ok_of {f fD : Addr} {fd fdD : FuncData} {k : Nat} (F : Fun K "_law_of" "_law_of" sOf f fd) (T : TxtD mg) (FD : Fun K "_law_draw" "_law_draw" sDraw fD fdD) (bD : Binds K fdD ["_law_state", "_law_many"] []) (gD : mg "_law_draw" = some (.ref fD)) :
    FnOk P w K mg base CX0 (k + 2) f fd ["_law_state", "_law_some"] (spOf K) := by
  have GD : FnOk P w K mg base CX0 (k + 1) fD fdD ["_law_state", "_law_many"] spDraw := ok_draw FD T
  refine F.ok scOf (fun vs H Q E h => ?_) (fun cdv A outer s H vs Q E hr h => ?_)
  · obtain ⟨st, g, sm, l, xs, rfl, _⟩ := h
    rfl
  · obtain ⟨st, g, sm, l, xs, rfl, hd, hl, nl, l0, l1, q⟩ := h
    refine ⟨_, pss_one (ps_ret (pe_ix ix_seq (pv 1) (pe_call GD hr rfl gD FD.kp bD .nil pass0 (pa_cons (pv 0) (pa_cons (pe_callB call_len_seq (by rfl) T.len PySem.boot_len (pa_cons (pv 1) pa_nil)) pa_nil))) (fun _ _ => rfl))), ?_⟩
    refine ⟨_, rfl, _, rfl, _, rfl, l, xs, rfl, hl, st, g, sm, _, rfl, hd, by omega, by omega, fun r H1 r0 r1 e1 d1 => ?_⟩
    obtain ⟨j, hj⟩ := Int.eq_ofNat_of_zero_le r0
    have hj2 : j < xs.length := by omega
    rcases hl with hl | hl
    · exact .inl ⟨l, xs, r, xs[j], rfl, rfl, e1.seq nl hl, at_of hj (List.getElem?_eq_getElem hj2), q j _ H1 (List.getElem?_eq_getElem hj2) e1 d1⟩
    · exact .inr (.inl ⟨l, xs, r, xs[j], rfl, rfl, e1.seqT nl hl, at_of hj (List.getElem?_eq_getElem hj2), q j _ H1 (List.getElem?_eq_getElem hj2) e1 d1⟩)
end
end Hc
/-! module HvWord -/
set_option maxHeartbeats 4000000
/-! _law_word: some word that is free. -/
namespace Hy
open PySem PySem.Spec PyProof.Rows L2 Evl Hc Hs
structure LawP (mg : Str → Option Value) : Prop extends LibP mg where
  rng : mg "range" = none
  min : mg "min" = none
  set : mg "set" = none
  srt : mg "sorted" = none
def spLWord : Sp := fun vs H Q _ => ∃ (st g sm ta : Addr) (tk : List Nm), vs = [.ref st, .ref ta] ∧ DrawSt H st g sm ∧ H ta = some (.lst (tk.map sv)) ∧ ¬ Dr st g ta ∧ tk.length ≤ 8 ∧
  ∀ (w : List Nat) H', Small w → w ∉ tk → w ∉ resv → Hc.Ext (Dr st g) H H' → DrawSt H' st g sm → Q (sv w) H'
abbrev nLWord : List Str := ["_law_state", "_law_taken", "_law_letters", "_law_drawn", "_law_kept", "_law_ways", "_law_turn", "_law_letter", "_law_way"]
theorem scLWord : FnScope nLWord ["_law_state", "_law_taken"] (defScope sLWord) := ⟨rfl, rfl, rfl, by decide +kernel, rfl, by decide +kernel, by decide +kernel⟩
theorem join_single (cs : List Nat) : TL.joinL [] (cs.map fun c => [c]) = cs := by
  induction cs with
  | nil => rfl
  | cons c r ih =>
    cases r with
    | nil => rfl
    | cons d r =>
      show [c] ++ ([] ++ TL.joinL [] ((d :: r).map fun c => [c])) = c :: d :: r
      rw [ih]
      rfl
theorem sum_ones (cs : List Nat) : ((cs.map fun c => [c]).map List.length).sum = cs.length := by
  induction cs with
  | nil => rfl
  | cons c r ih =>
    rw [List.map_cons, List.map_cons, List.sum_cons, ih]
    show 1 + r.length = r.length + 1
    omega
theorem take7 (w : List Nat) : cutS (S w) none (some (7 : Int)) = S (w.take 7) := by
  have := cut_nn w 0 7
  unfold cutS at this ⊢
  rw [HT.sIx_none]
  rw [show ((0 : Nat) : Int) = 0 from rfl] at this
  have e0 : HT.sIx (S w).length 0 (some (0 : Int)) = 0 := by
    rw [show (0 : Int) = ((0 : Nat) : Int) from rfl, HT.sIx_nat]
    exact Nat.zero_min _
  rw [e0] at this
  rw [show (7 : Int) = ((7 : Nat) : Int) from rfl, this]
  rfl
section
variable {P : Program} {w : World} {K : PySem.W.Frag} {mg : Str → Option Value} {base : Heap}
theorem ok_lword {f : Addr} {fd : FuncData} {k : Nat} (F : Fun K "_law_word" "_law_word" sLWord f fd) (T : LawP mg) (rD : Rd P w K mg base "_law_draw" k ["_law_state", "_law_many"] spDraw) : FnOk P w K mg base CX0 (k + 1) f fd ["_law_state", "_law_taken"] spLWord := by
  refine F.ok scLWord (fun vs H Q E h => ?_) (fun cdv A outer s H vs Q E hr h => ?_)
  · obtain ⟨st, g, sm, ta, tk, rfl, _⟩ := h
    rfl
  · obtain ⟨st, g, sm, ta, tk, rfl, hd, hta, nta, htk, q⟩ := h
    refine ⟨_, pss_cons (ps_set (i := 2) scLWord.nd rfl (.inr rfl) pe_str)
      (pss_cons (ps_set (i := 3) scLWord.nd rfl (.inr rfl) (pe_join pe_str (pe_lc (own := [("_law_turn", 6)]) (g := gName 6) (tt := tYes) rfl scLWord.nd (pi_range1 (by rfl) T.rng (pa_cons (pe_op op_add pe_int (pe_rd rD hr (Nat.le_refl _) (by rfl) (pa_cons (pv 0) (pa_cons pe_int pa_nil)))) pa_nil)) (blkOk_by (N := nLWord) (sc := defScope sLWord) (by decide +kernel)) (fun _ _ _ _ _ => pg_name (i := 6) scLWord.nd rfl (.inl rfl)) (fun _ _ _ _ _ => pts_nil)
          (fun _ _ _ _ _ => pe_ix ix_str (pv 2) (pe_rd rD hr (Nat.le_refl _) (by rfl) (pa_cons (pv 0) (pa_cons pe_int pa_nil))) (fun _ _ => rfl)))))
      (pss_cons (ps_set (i := 4) scLWord.nd rfl (.inr rfl) (pe_lst (pa_cons pe_str (pa_cons pe_str (pa_cons pe_str (pa_cons pe_str (pa_cons pe_str (pa_cons pe_str (pa_cons pe_str (pa_cons pe_str (pa_cons pe_str (pa_cons pe_str (pa_cons pe_str (pa_cons pe_str (pa_cons pe_str (pa_cons pe_str pa_nil))))))))))))))))
      (pss_cons (ps_set (i := 5) scLWord.nd rfl (.inl rfl) (pe_op op_cat (pe_lst (pa_cons (pv 3) pa_nil)) (pe_lc (own := [("_law_letter", 7)]) (g := gName 7) (tt := tYes) rfl scLWord.nd (pi_str (pv 2)) (blkOk_by (N := nLWord) (sc := defScope sLWord) (by decide +kernel)) (fun _ _ _ _ _ => pg_name (i := 7) scLWord.nd rfl (.inl rfl)) (fun _ _ _ _ _ => pts_nil)
          (fun _ _ _ _ _ => pe_op op_add_str (pe_slice sl_str (pv 3) po_none (po_some pe_int)) (pv 7)))))
      (pss_one (ps_ret (pe_ix ix_list (pe_lc (own := [("_law_way", 8)]) (g := gName 8) (tt := tAnd (tTest (tOp (rIn K true) (tVar 8) (tVar 1))) (tTest (tOp (rIn K true) (tVar 8) (tVar 4)))) rfl scLWord.nd (pi_list (pv 5)) (blkOk_by (N := nLWord) (sc := defScope sLWord) (by decide +kernel)) (fun _ _ _ _ _ => pg_name (i := 8) scLWord.nd rfl (.inl rfl))
          (fun _ _ _ _ _ => pts_one (PW.pt (pw_and (pt_cmpR (show OpR _ (compareOp .NotIn) (rIn K true) from op_notIn_seq) (pv 8) (pv 1) (by rfl)) (pw_and1 (pt_cmpR (show OpR _ (compareOp .NotIn) (rIn K true) from op_notIn_seq) (pv 8) (pv 4) (by rfl)))))) (fun _ _ _ _ _ => pv 8)) pe_int (fun _ _ => rfl))))))), ?_⟩
    refine q_asg (v := sv smalls) ev_c fun H1 e1 => ?_
    have hd1 := hd.same e1
    refine q_asgX ?_
    refine ⟨⟨_, rfl⟩, ?_⟩
    refine ⟨_, rfl, st, g, sm, 7, rfl, hd1, by decide, by decide, fun r H2 r0 r7 e2 d2 => ?_⟩
    refine ⟨1, r, rfl, rfl, ?_⟩
    refine ⟨1 + r, rfl, by omega, by omega, fun D nD => ?_⟩
    have x2 : Hc.Ext (Dr st g) H H2 := (Hc.Ext.same e1).trans e2
    refine lc_range (lo := 0) (n := (1 + r).toNat) (fun i H' => ∃ cs : List Nat, cs.length = i ∧ (∀ c ∈ cs, c ∈ smalls) ∧ H' D = some (.lst (cs.map fun c => sv [c])) ∧ Hc.Ext (Dr st g) H2 H' ∧ DrawSt H' st g sm) ⟨[], rfl, (fun c hc => by cases hc), upd_same, Hc.Ext.new nD, d2.put (d2.off nD)⟩ (fun i H3 hi z => ?_) (fun H3 z => ?_)
    · obtain ⟨cs, hl, hs, hD, x3, d3⟩ := z
      refine ⟨Hs.wipe1 _, ?_⟩
      show (tOp rIxS (tVar 2) (tCall spDraw [] E0 (tCons (tVar 0) (tCons (tC (.int 26)) tNil)))) _ H3 _
      refine ⟨_, rfl, _, rfl, st, g, sm, 26, rfl, d3, by decide, by decide, fun r2 H4 r20 r26 e4 d4 => ?_⟩
      obtain ⟨j, rfl⟩ := Int.eq_ofNat_of_zero_le r20
      have hj : j < smalls.length := by
        show j < 26
        omega
      refine ⟨S smalls, (j : Int), smalls[j], rfl, rfl, (by show 26 ≤ sizeLine; decide), atI_nat (List.getElem?_eq_getElem hj), ?_⟩
      have hD4 := e4 _ _ hD (dr_off (d2.off nD))
      refine ⟨_, hD4, sz_lt (by rw [List.length_map]; omega), cs ++ [smalls[j]], by rw [List.length_append, hl]; rfl, ?_, ?_, (x3.trans e4).puts nD, d4.put (d2.off nD)⟩
      · intro c hc
        rcases List.mem_append.mp hc with hc | hc
        · exact hs c hc
        · rw [List.mem_singleton] at hc
          rw [hc]
          exact List.getElem_mem hj
      · rw [upd_same, List.map_append]
        rfl
    · obtain ⟨cs, hl, hs, hD, x3, d3⟩ := z
      have hpos : 1 ≤ cs.length ∧ cs.length ≤ 7 := by omega
      refine ⟨S [], D, (cs.map fun c => [c]).map S, rfl, rfl, .inl (sq_of (by rw [hD, List.map_map, List.map_map]; rfl)), ?_, ?_⟩
      · rw [List.map_map, List.length_map]
        have : ((fun x : Str => x.length) ∘ S) = List.length := funext fun a => S_len a
        rw [this, sum_ones, List.length_map, S_len]
        show cs.length + cs.length * 0 ≤ 16777216
        omega
      rw [join_S, join_single]
      have x03 : Hc.Ext (Dr st g) H H3 := x2.trans x3
      have hta3 := x03 _ _ hta nta
      refine q_asgL (xs := resv.map sv) (el_lst (vs := resv.map sv) (ea_cons ev_c (ea_cons ev_c (ea_cons ev_c (ea_cons ev_c (ea_cons ev_c (ea_cons ev_c (ea_cons ev_c (ea_cons ev_c (ea_cons ev_c (ea_cons ev_c (ea_cons ev_c (ea_cons ev_c (ea_cons ev_c (ea_cons ev_c ea_nil)))))))))))))) (by rw [List.length_map]; show 14 ≤ 100000; decide)) fun pk H4 npk e4 hpk => ?_
      refine q_asgL (xs := (cs :: smalls.map fun c => cs.take 7 ++ [c]).map sv) ?_ fun pw H5 npw e5 hpw => ?_
      · have z := el_lcS (H := H4) (σ := [some (.ref st), some (.ref ta), some (sv smalls), some (sv cs), some (.ref pk), none, none, none, none]) (L := smalls) (tl := tVar 2) (te := tOp (fun x y H Q => ∃ i j, x = .str i ∧ y = .str j ∧ i.length + j.length ≤ sizeLine ∧ Q (.str (i ++ j)) H) (tSl rSlS (tVar 3) tNoPart (tPart (tC (.int 7)))) (tVar 7)) (j := 7) (vs := [7]) (fun c => sv (cs.take 7 ++ [c])) (ev_var rfl) (by decide) Hs.wipe1 (fun c H6 e6 hc => ev_addS (by rw [List.length_take]; show _ + 1 ≤ 30000; omega) (Evl.ev_is (ev_slS (lo := none) (hi := some 7) (ev_var rfl) eo_none (eo_some ev_c) (by rw [S_len]; exact sz_of (by omega))) (by rw [take7])) (ev_var rfl))
        have e : (cs :: smalls.map fun c => cs.take 7 ++ [c]).map sv = [sv cs] ++ smalls.map fun c => sv (cs.take 7 ++ [c]) := by
          rw [List.map_cons, List.map_map]
          rfl
        rw [e]
        exact el_cat (el_lst (ea_cons (ev_var rfl) ea_nil) (show 1 ≤ 100000 by decide)) z (by rw [List.length_map]; show 1 + 26 ≤ 100000; decide)
      · generalize hways : (cs :: smalls.map fun c => cs.take 7 ++ [c]) = ways at hpw
        have hta5 := e5 _ _ (e4 _ _ hta3)
        have hpk5 := e5 _ _ hpk
        have hsm : ∀ x ∈ ways, Small x := fun x hx => by
          rw [← hways] at hx
          rcases List.mem_cons.mp hx with rfl | hx
          · exact ⟨hs, by omega, hpos.1⟩
          · obtain ⟨c, hc, rfl⟩ := List.mem_map.mp hx
            refine ⟨fun y hy => ?_, by rw [List.length_append, List.length_take, List.length_singleton]; omega, by rw [List.length_append, List.length_singleton]; omega⟩
            rcases List.mem_append.mp hy with hy | hy
            · exact hs y (List.mem_of_mem_take hy)
            · rw [List.mem_singleton] at hy
              rw [hy]
              exact hc
        have hwl : ways.length = 27 := by
          rw [← hways, List.length_cons, List.length_map]
          rfl
        have z := el_map (K := K) (H := H5) (σ := [some (.ref st), some (.ref ta), some (sv smalls), some (sv cs), some (.ref pk), some (.ref pw), none, none, none]) (a := pw) (tl := tVar 5) (te := tVar 8) (t := tAnd (tTest (tOp (rIn K true) (tVar 8) (tVar 1))) (tTest (tOp (rIn K true) (tVar 8) (tVar 4)))) (j := 8) (vs := [8]) ways sv (fun x => !decide (x ∈ tk) && !decide (x ∈ resv)) sv (ev_var rfl) (sq_of hpw) (by omega) Hs.wipe1
          (fun x H6 e6 hx => et_and (et_test (ev_niLs (ev_var rfl) (ev_var rfl) (sq_of (e6 _ _ hta5)))) fun _ => et_test (ev_niLs (ev_var rfl) (ev_var rfl) (sq_of (e6 _ _ hpk5)))) (fun x H6 e6 hx _ => ev_var rfl)
        obtain ⟨x, rest, hfil⟩ : ∃ x rest, ways.filter (fun x => !decide (x ∈ tk) && !decide (x ∈ resv)) = x :: rest := by
          obtain ⟨c, hc, hno⟩ := free_word (w := cs) hs htk
          have hin : (cs.take 7 ++ [c]) ∈ ways.filter (fun x => !decide (x ∈ tk) && !decide (x ∈ resv)) := by
            refine List.mem_filter.mpr ⟨?_, ?_⟩
            · rw [← hways]
              exact List.mem_cons_of_mem _ (List.mem_map.mpr ⟨c, hc, rfl⟩)
            · rw [List.mem_append, not_or] at hno
              rw [decide_eq_false hno.1, decide_eq_false hno.2]
              rfl
          cases q2 : ways.filter (fun x => !decide (x ∈ tk) && !decide (x ∈ resv)) with
          | nil => rw [q2] at hin; cases hin
          | cons x rest => exact ⟨x, rest, rfl⟩
        rw [hfil] at z
        have hx : x ∈ ways.filter (fun x => !decide (x ∈ tk) && !decide (x ∈ resv)) := by rw [hfil]; exact List.mem_cons_self
        obtain ⟨hx1, hx2⟩ := List.mem_filter.mp hx
        rw [Bool.and_eq_true, Bool.not_eq_true', Bool.not_eq_true', decide_eq_false_iff_not, decide_eq_false_iff_not] at hx2
        refine s_ret (v := sv x) (ev_opL1 z (fun _ _ => ev_c) fun p H6 hp e6 => rv_ixL (sq_of hp) (atI_nat (j := 0) rfl)) fun H6 e6 => ?_
        exact q x H6 (hsm x hx1) hx2.1 hx2.2 ((x03.trans (Hc.Ext.same (e4.trans e5))).trans (Hc.Ext.same e6)) ((d3.same (e4.trans e5)).same e6)
end
end Hy
/-! module HsTree -/
set_option maxHeartbeats 4000000
/-! The law's trees: nested tuples; their lists, depth and text. -/
namespace Hs
open PySem PySem.Spec PyProof.Rows L2 Evl
def TrV (K : PySem.W.Frag) : (n : Nat) → Tre n → V → Hp → Prop
  | 0, _, v, H => ∃ a, v = .ref a ∧ SqT K H a []
  | n + 1, (l : List (Tre n)), v, H => ∃ a xs, v = .ref a ∧ SqT K H a xs ∧ All2 (fun t v H => TrV K n t v H) l xs H
theorem trV_mon {K : PySem.W.Frag} : ∀ (n : Nat) (t : Tre n), ExMon (TrV K n t)
  | 0, t => fun v H H' e h => by
    obtain ⟨a, h1, h2⟩ := h
    exact ⟨a, h1, e.seqT h2⟩
  | n + 1, l => fun v H H' e h => by
    obtain ⟨a, xs, h1, h2, h3⟩ := h
    exact ⟨a, xs, h1, e.seqT h2, h3.ex (fun t => trV_mon n t) e⟩
def kids : (n : Nat) → Tre n → List (Tre (n - 1))
  | 0, _ => []
  | n + 1, (l : List (Tre n)) => l
theorem trV_iff {K : PySem.W.Frag} : ∀ (n : Nat) (t : Tre n) (v : V) (H : Hp), TrV K n t v H ↔ ∃ a xs, v = .ref a ∧ SqT K H a xs ∧ All2 (fun t v H => TrV K (n - 1) t v H) (kids n t) xs H
  | 0, _, v, H => ⟨fun ⟨a, h1, h2⟩ => ⟨a, [], h1, h2, All2.nil⟩, fun ⟨a, xs, h1, h2, h3⟩ => by
    have e : xs = [] := List.length_eq_zero_iff.mp h3.1
    subst e
    exact ⟨a, h1, h2⟩⟩
  | n + 1, l, v, H => Iff.rfl
def dat : (n : Nat) → Tre n → PyData
  | 0, _ => .tuple []
  | n + 1, (l : List (Tre n)) => .tuple (l.map (dat n))
theorem dat_dp {K : PySem.W.Frag} {H : Hp} : ∀ (n : Nat) (t : Tre n) (v : V), TrV K n t v H → Dp K H v (dat n t)
  | 0, _, v, h => by
    obtain ⟨a, rfl, h2⟩ := h
    exact .tup h2 .nil
  | n + 1, l, v, h => by
    obtain ⟨a, xs, rfl, h2, h3⟩ := h
    refine .tup h2 ?_
    have key : ∀ (l : List (Tre n)) (xs : List V), All2 (fun t v H => TrV K n t v H) l xs H → DpAll K H xs (l.map (dat n)) := by
      intro l
      induction l with
      | nil =>
        intro xs h
        have e : xs = [] := List.length_eq_zero_iff.mp h.1
        subst e
        exact .nil
      | cons t l ih =>
        intro xs h
        cases xs with
        | nil => exact absurd h.1 (by simp)
        | cons x xs =>
          refine .cons (dat_dp n t x (h.2 0 t x rfl rfl)) (ih xs ⟨by have := h.1; simpa using this, fun i m y a b => h.2 (i + 1) m y (by simpa using a) (by simpa using b)⟩)
    exact key l xs h3
theorem dat_lay : ∀ (n : Nat) (t : Tre n), (dat n t).canLay0 = true
  | 0, _ => by
    show PyData.canLay0 (.tuple []) = true
    unfold PyData.canLay0
    rfl
  | n + 1, l => by
    show PyData.canLay0 (.tuple (List.map (dat n) l)) = true
    unfold PyData.canLay0
    have key : ∀ (l : List (Tre n)), PyData.canLayAll0 (l.map (dat n)) = true := by
      intro l
      induction l with
      | nil => rfl
      | cons t l ih =>
        rw [List.map_cons]
        unfold PyData.canLayAll0
        rw [dat_lay n t, ih]
        rfl
    exact key l
theorem dat_depth : ∀ (n : Nat) (t : Tre n), (dat n t).depth ≤ n + 1
  | 0, _ => by
    show PyData.depth (.tuple []) ≤ 1
    unfold PyData.depth PyData.depthAll
    omega
  | n + 1, l => by
    show PyData.depth (.tuple (List.map (dat n) l)) ≤ n + 2
    unfold PyData.depth
    have key : ∀ (l : List (Tre n)), PyData.depthAll (l.map (dat n)) ≤ n + 1 := by
      intro l
      induction l with
      | nil =>
        rw [List.map_nil]
        unfold PyData.depthAll
        omega
      | cons t l ih =>
        rw [List.map_cons]
        unfold PyData.depthAll
        have := dat_depth n t
        omega
    have := key l
    omega
theorem dat_shaped {n : Nat} (hn : n ≤ 3) (t : Tre n) : SeqAt.shaped (dat n t) = true := by
  unfold SeqAt.shaped
  rw [dat_lay, Bool.true_and]
  have := dat_depth n t
  exact decide_eq_true (by omega)
theorem dat_eqv : ∀ (n : Nat) (a b : Tre n), PyData.eqv (dat n a) (dat n b) = decide (txt n a = txt n b)
  | 0, _, _ => by
    show PyData.eqv (.tuple []) (.tuple []) = decide ([46] = [46])
    unfold PyData.eqv PyData.eqvAll
    rfl
  | n + 1, a, b => by
    have key : ∀ (a b : List (Tre n)), PyData.eqvAll (a.map (dat n)) (b.map (dat n)) = decide (a.map (txt n) = b.map (txt n)) := by
      intro a
      induction a with
      | nil =>
        intro b
        cases b with
        | nil =>
          show PyData.eqvAll [] [] = _
          unfold PyData.eqvAll
          rfl
        | cons y b =>
          show PyData.eqvAll [] (dat n y :: b.map (dat n)) = _
          unfold PyData.eqvAll
          rfl
      | cons x a ih =>
        intro b
        cases b with
        | nil =>
          show PyData.eqvAll (dat n x :: a.map (dat n)) [] = _
          unfold PyData.eqvAll
          rfl
        | cons y b =>
          show PyData.eqvAll (dat n x :: a.map (dat n)) (dat n y :: b.map (dat n)) = _
          unfold PyData.eqvAll
          rw [dat_eqv n x y, ih b, List.map_cons, List.map_cons]
          by_cases h1 : txt n x = txt n y <;> by_cases h2 : a.map (txt n) = b.map (txt n) <;> simp [h1, h2]
    have e1 : PyData.eqv (dat (n + 1) a) (dat (n + 1) b) = PyData.eqvAll (List.map (dat n) a) (List.map (dat n) b) := by
      show PyData.eqv (.tuple (List.map (dat n) a)) (.tuple (List.map (dat n) b)) = _
      rw [PyData.eqv]
    rw [e1, key a b]
    refine decide_eq_decide.mpr ⟨fun h => ?_, fun h => ?_⟩
    · match a, b, h with
      | [], [], _ => rfl
      | x :: a, y :: b, h =>
        rw [txt_cons, txt_cons, show (x :: a).map (txt n) = (y :: b).map (txt n) from h]
      | [], y :: b, h => simp at h
      | x :: a, [], h => simp at h
    · rw [txt_inj (n + 1) a b h]
/-- a tree that is () -/
def leaf : (n : Nat) → Tre n
  | 0 => ()
  | n + 1 => ([] : List (Tre n))
theorem txt_leaf : ∀ n, txt n (leaf n) = [46]
  | 0 => rfl
  | n + 1 => rfl
theorem dat_leaf : ∀ n, dat n (leaf n) = .tuple []
  | 0 => rfl
  | n + 1 => rfl
theorem leaf_V {K : PySem.W.Frag} {H : Hp} {a : Addr} (h : SqT K H a []) : ∀ n, TrV K n (leaf n) (.ref a) H
  | 0 => ⟨a, rfl, h⟩
  | n + 1 => ⟨a, [], rfl, h, All2.nil⟩
theorem lsts_leaf : ∀ n, lsts n (leaf n) = 0
  | 0 => rfl
  | n + 1 => rfl
theorem slim_leaf : ∀ n, slim n (leaf n) = true
  | 0 => rfl
  | n + 1 => rfl
theorem txt_len : ∀ (n : Nat) (t : Tre n), slim n t = true → (txt n t).length + 3 ≤ 4 * 3 ^ n
  | 0, _, _ => by show 1 + 3 ≤ 4; decide
  | n + 1, [], _ => by
    rw [txt_nil]
    have : 0 < 3 ^ (n + 1) := Nat.pow_pos (by decide)
    show 1 + 3 ≤ _
    omega
  | n + 1, x :: l, h => by
    have h' : (decide ((x :: l).length ≤ 3) && (x :: l).all (slim n)) = true := h
    rw [Bool.and_eq_true, List.all_eq_true, decide_eq_true_eq] at h'
    obtain ⟨h1, h2⟩ := h'
    have key : ∀ (l : List (Tre n)), (∀ t ∈ l, slim n t = true) → (TL.joinL [44, 32] (l.map (txt n))).length ≤ l.length * (4 * 3 ^ n - 3) + (l.length - 1) * 2 := by
      intro l
      induction l with
      | nil => exact fun _ => Nat.zero_le _
      | cons y l ih =>
        intro hl
        have hy := txt_len n y (hl y List.mem_cons_self)
        cases l with
        | nil =>
          show (txt n y).length ≤ _
          rw [List.length_singleton]
          omega
        | cons z l =>
          have := ih fun t ht => hl t (List.mem_cons_of_mem _ ht)
          rw [List.map_cons, List.map_cons, joinL_cons, List.length_append, List.length_append]
          have hk : 1 ≤ (z :: l).length := by simp
          rw [List.map_cons] at this
          rw [show (y :: z :: l).length = (z :: l).length + 1 from rfl, Nat.succ_mul]
          show _ + (2 + _) ≤ _
          generalize (z :: l).length * (4 * 3 ^ n - 3) = M at this ⊢
          omega
    have hk := key (x :: l) h2
    rw [txt_cons, List.length_cons, List.length_append, List.length_singleton]
    have hp : 1 ≤ 3 ^ n := Nat.pow_pos (by decide)
    rw [Nat.pow_succ]
    have h3 : (x :: l).length * (4 * 3 ^ n - 3) ≤ 3 * (4 * 3 ^ n - 3) := Nat.mul_le_mul_right _ h1
    omega
theorem txt_cap {n : Nat} (hn : n ≤ 3) {t : Tre n} (h : slim n t = true) : (txt n t).length ≤ 105 := by
  have h1 := txt_len n t h
  have h2 : 3 ^ n ≤ 3 ^ 3 := Nat.pow_le_pow_right (by decide) hn
  omega
theorem cap_of {n : Nat} (hn : n ≤ 3) {t : Tre n} (h : slim n t = true) : (txt n t).length ≤ cap := Nat.le_trans (txt_cap hn h) (by decide)
theorem slim_iff (n : Nat) (l : List (Tre n)) : slim (n + 1) l = true ↔ l.length ≤ 3 ∧ ∀ x ∈ l, slim n x = true := by
  show (decide (l.length ≤ 3) && l.all (slim n)) = true ↔ _
  rw [Bool.and_eq_true, List.all_eq_true, decide_eq_true_eq]
theorem kids_slim : ∀ {n : Nat} {t : Tre n}, slim n t = true → (kids n t).length ≤ 3 ∧ ∀ x ∈ kids n t, slim (n - 1) x = true
  | 0, _, _ => ⟨Nat.zero_le _, fun x h => nomatch h⟩
  | n + 1, l, h => (slim_iff n l).mp h
end Hs
/-! module HsFns -/
set_option maxHeartbeats 4000000
namespace Hs
open PySem PySem.Spec PyProof.Rows L2 Evl Hc
theorem lsts_kids : ∀ {n : Nat} {t : Tre n}, txt n t ≠ [46] → lsts n t = 1 + ((kids n t).map (lsts (n - 1))).sum
  | 0, _, h => absurd rfl h
  | n + 1, [], h => absurd rfl h
  | n + 1, x :: l, _ => rfl
theorem dep_kids : ∀ {n : Nat} {t : Tre n}, txt n t ≠ [46] → dep n t = 1 + ((kids n t).map (dep (n - 1))).foldl max 0
  | 0, _, h => absurd rfl h
  | n + 1, [], h => absurd rfl h
  | n + 1, x :: l, _ => rfl
theorem txt_kids : ∀ {n : Nat} {t : Tre n}, txt n t ≠ [46] → txt n t = 91 :: (TL.joinL [44, 32] ((kids n t).map (txt (n - 1))) ++ [93])
  | 0, _, h => absurd rfl h
  | n + 1, [], h => absurd rfl h
  | n + 1, x :: l, _ => rfl
theorem kids_ne : ∀ {n : Nat} {t : Tre n}, txt n t ≠ [46] → kids n t ≠ []
  | 0, _, h => absurd rfl h
  | n + 1, [], h => absurd rfl h
  | n + 1, x :: l, _ => by
    intro z
    cases z
theorem leaf_val : ∀ {n : Nat} {t : Tre n}, txt n t = [46] → lsts n t = 0 ∧ dep n t = 0
  | 0, _, _ => ⟨rfl, rfl⟩
  | n + 1, [], _ => ⟨rfl, rfl⟩
  | n + 1, x :: l, h => absurd h txt_dot
section
variable {K : PySem.W.Frag} {σ : L2.St} {H : Hp} {te tl : TE}
theorem range_opt {α : Type} (g : α → V) (l : List α) : (List.range l.length).map (fun i => (l[i]?).elim .non g) = l.map g := by
  apply List.ext_getElem
  · simp
  · intro i h1 h2
    simp at h1
    simp [h1]
theorem el_kids {n : Nat} {t : Tre n} {v : V} {j : Nat} {vs : List Nat} (g : Tre (n - 1) → V) (h : TrV K n t v H) (hs : slim n t = true) (hv : Ev tl σ H v) (hw : ∀ x, wipe ((wipe σ vs).set j (some x)) vs = wipe σ vs)
    (he : ∀ x y H1, Ex H H1 → x ∈ kids n t → TrV K (n - 1) x y H1 → Ev te ((wipe σ vs).set j (some y)) H1 (g x)) : EvL (tLc (iTup K tl) (gName j) tYes te vs) σ H ((kids n t).map g) := by
  obtain ⟨a, xs, rfl, hx, hal⟩ := (trV_iff n t v H).mp h
  have z := el_lcT (K := K) (te := te) (fun i => ((kids n t)[i]?).elim .non g) hv hx (by rw [hal.1]; have := (kids_slim hs).1; omega) hw (fun i y H1 e1 hy => by
    have hi : i < (kids n t).length := by rw [← hal.1]; exact (List.getElem?_eq_some_iff.mp hy).1
    have hk := List.getElem?_eq_getElem hi
    rw [hk]
    exact he _ y H1 e1 (List.getElem_mem hi) (trV_mon (n - 1) _ y H H1 (NL.ex e1) (hal.2 i _ y hk hy)))
  rw [hal.1, range_opt] at z
  exact z
theorem ev_eqD {x y : V} {d e : PyData} {ta tb : TE} (ha : Ev ta σ H x) (hb : Ev tb σ H y) (hx : ∀ H1, Ex H H1 → Dp K H1 x d) (hy : ∀ H1, Ex H H1 → Dp K H1 y e) (sd : SeqAt.shaped d = true) (se : SeqAt.shaped e = true) : Ev (tOp (rEqD K) ta tb) σ H (.bl (PyData.eqv d e)) :=
  ev_op ha hb (fun H1 e1 Q q => ⟨d, e, hx H1 e1, hy H1 e1, sd, se, q H1 (Ex.refl H1)⟩)
theorem trV_ex {n : Nat} {t : Tre n} {v : V} {H' : Hp} (h : TrV K n t v H) (e : Ex H H') : TrV K n t v H' := trV_mon n t v H H' (NL.ex e) h
theorem et_leaf {n : Nat} {t : Tre n} {v : V} (hn : n ≤ 3) (h : TrV K n t v H) (hv : Ev te σ H v) : EvT (tTest (tOp (rEqD K) te (tTup tNil))) σ H (decide (txt n t = [46])) := by
  refine et_is (et_test (ev_opU (z := .bl (PyData.eqv (dat n t) (dat n (leaf n)))) hv (eu_tup ea_nil (Nat.zero_le _)) fun p H1 hp e1 => fun H2 e2 Q q => ?_)) (by rw [dat_eqv, txt_leaf])
  exact ⟨dat n t, dat n (leaf n), dat_dp n t v (trV_ex h (e1.trans e2)), dat_dp n (leaf n) _ (leaf_V (SqT.of (e2 _ _ hp)) n), dat_shaped hn t, dat_shaped hn _, q H2 (Ex.refl H2)⟩
def rJoin (K : PySem.W.Frag) : V → List V → Hp → VK → Prop := fun x xs H Q => ∃ a p, ∃ ys : List Str, x = .str a ∧ xs = [.ref p] ∧ (SqL K H p (ys.map V.str) ∨ SqT K H p (ys.map V.str)) ∧ (ys.map (·.length)).sum + ys.length * a.length ≤ 16777216 ∧ Q (.str (Txt.join a ys)) H
theorem ev_join {a : List Nat} {ys : List (List Nat)} {to : TE} (h1 : Ev to σ H (.str (S a))) (h2 : EvL tl σ H ((ys.map S).map V.str)) (hz : ((ys.map S).map (·.length)).sum + (ys.map S).length * (S a).length ≤ 16777216) : Ev (tM1 (rJoin K) to tl) σ H (.str (S (TL.joinL a ys))) := fun H1 e Q q =>
  h1 H1 e _ fun H2 e2 => ⟨⟨_, rfl⟩, h2 H2 (e.trans e2) _ fun p H3 np e3 hp => ⟨S a, p, ys.map S, rfl, rfl, .inl (SqL.of hp), hz, by rw [join_S]; exact q H3 (e2.trans e3)⟩⟩
theorem ev_addS {x y : Str} {ta tb : TE} (h1 : Ev ta σ H (.str x)) (h2 : Ev tb σ H (.str y)) (hz : x.length + y.length ≤ sizeLine) : Ev (tOp (fun x y H Q => ∃ i j, x = .str i ∧ y = .str j ∧ i.length + j.length ≤ sizeLine ∧ Q (.str (i ++ j)) H) ta tb) σ H (.str (x ++ y)) :=
  ev_op h1 h2 fun H1 e Q q => ⟨x, y, rfl, rfl, hz, q H1 (Ex.refl H1)⟩
theorem sum_le {c : Nat} : ∀ l : List Nat, (∀ x ∈ l, x ≤ c) → l.sum ≤ l.length * c
  | [], _ => Nat.zero_le _
  | x :: l, h => by
    have h1 := h x List.mem_cons_self
    have h2 := sum_le l fun y hy => h y (List.mem_cons_of_mem _ hy)
    rw [List.sum_cons, List.length_cons, Nat.succ_mul]
    omega
theorem evl_is {xs ys : List V} (h : EvL te σ H xs) (e : xs = ys) : EvL te σ H ys := e ▸ h
theorem ev_sum {ns : List Int} (h : EvL tl σ H (ns.map V.int)) : Ev (tCB (rSum K) (tCons tl tNil)) σ H (.int ns.sum) := fun H1 e Q q =>
  h H1 e _ fun p H2 np e2 hp => ⟨p, ns, rfl, SqL.of hp, q H2 e2⟩
end
def spLists (K : PySem.W.Frag) (n : Nat) : Sp := fun vs H Q _ => ∃ v t, vs = [v] ∧ TrV K n t v H ∧ slim n t = true ∧ ∀ H', Ex H H' → Q (.int ((lsts n t : Nat) : Int)) H'
def spDepth (K : PySem.W.Frag) (n : Nat) : Sp := fun vs H Q _ => ∃ v t, vs = [v] ∧ TrV K n t v H ∧ slim n t = true ∧ ∀ H', Ex H H' → Q (.int ((dep n t : Nat) : Int)) H'
def spText (K : PySem.W.Frag) (n : Nat) : Sp := fun vs H Q _ => ∃ v t, vs = [v] ∧ TrV K n t v H ∧ slim n t = true ∧ ∀ H', Ex H H' → Q (.str (S (txt n t))) H'
theorem sp_lists {K : PySem.W.Frag} {n : Nat} {t : Tre n} {v : V} {H : Hp} (h : TrV K n t v H) (hs : slim n t = true) : SpV (spLists K n) ([v] ++ []) H (.int ((lsts n t : Nat) : Int)) := fun H1 e Q q E => ⟨v, t, rfl, trV_ex h e, hs, q⟩
theorem sp_depth {K : PySem.W.Frag} {n : Nat} {t : Tre n} {v : V} {H : Hp} (h : TrV K n t v H) (hs : slim n t = true) : SpV (spDepth K n) ([v] ++ []) H (.int ((dep n t : Nat) : Int)) := fun H1 e Q q E => ⟨v, t, rfl, trV_ex h e, hs, q⟩
theorem sp_text {K : PySem.W.Frag} {n : Nat} {t : Tre n} {v : V} {H : Hp} (h : TrV K n t v H) (hs : slim n t = true) : SpV (spText K n) ([v] ++ []) H (.str (S (txt n t))) := fun H1 e Q q E => ⟨v, t, rfl, trV_ex h e, hs, q⟩
structure TxtF (mg : Str → Option Value) : Prop extends TxtS mg where
  sum : mg "sum" = none
abbrev nF : List Str := ["_law_tree_here", "_law_item"]
theorem scL : FnScope nF ["_law_tree_here"] (defScope sLists) := ⟨rfl, rfl, rfl, by decide +kernel, rfl, by decide +kernel, by decide +kernel⟩
theorem scD : FnScope nF ["_law_tree_here"] (defScope sDepth) := ⟨rfl, rfl, rfl, by decide +kernel, rfl, by decide +kernel, by decide +kernel⟩
theorem scT : FnScope nF ["_law_tree_here"] (defScope sText) := ⟨rfl, rfl, rfl, by decide +kernel, rfl, by decide +kernel, by decide +kernel⟩
section
variable {P : Program} {w : World} {K : PySem.W.Frag} {mg : Str → Option Value} {base : Heap}
theorem ok_lists1 {f : Addr} {fd : FuncData} {k n : Nat} {spP : Sp} (F : Fun K "_law_lists" "_law_lists" sLists f fd) (T : TxtF mg) (rL : Rd P w K mg base "_law_lists" k ["_law_tree_here"] spP) (hn : n ≤ 3) (hc : n = 0 ∨ ∃ m, n = m + 1 ∧ spP = spLists K m) : FnOk P w K mg base CX0 (k + 1) f fd ["_law_tree_here"] (spLists K n) := by
  refine F.ok scL (fun vs H Q E h => ?_) (fun cdv A outer s H vs Q E hr h => ?_)
  · obtain ⟨v, t, rfl, _⟩ := h
    rfl
  · obtain ⟨v, t, rfl, ht, hs, q⟩ := h
    refine ⟨_, pss_one (ps_ret (pe_ifExp (pt_cmpR (op_eqD hr.units) (pv 0) (pe_tup pa_nil) (nomark _)) pe_int (pe_op op_add pe_int (pe_callB (cr_sum rfl) (by rfl) T.sum boot_sum (pa_cons (pe_lc (own := [("_law_item", 1)]) (g := gName 1) (tt := tYes) rfl scL.nd (pi_tup (pv 0)) (blkOk_by (N := nF) (sc := defScope sLists) (by decide +kernel))
      (fun _ _ _ _ _ => pg_name (i := 1) scL.nd rfl (.inl rfl)) (fun _ _ _ _ _ => pts_nil) (fun _ _ _ _ _ => pe_rd rL hr (Nat.le_refl _) (by rfl) (pa_cons (pv 1) pa_nil))) pa_nil))))), ?_⟩
    refine s_ret (ev_if (et_leaf hn ht (ev_var rfl)) (fun hb => ?_) (fun hb => ?_)) q
    · rw [(leaf_val (of_decide_eq_true hb)).1]
      exact ev_c
    · have hb' := of_decide_eq_false hb
      obtain ⟨m, rfl, rfl⟩ : ∃ m, n = m + 1 ∧ spP = spLists K m := by
        rcases hc with rfl | h
        · exact absurd rfl hb'
        · exact h
      have hk := kids_slim hs
      have z := el_kids (K := K) (n := m + 1) (t := t) (σ := [some v, none]) (H := H) (tl := tVar 0) (te := tCall (spLists K m) [] E0 (tCons (tVar 1) tNil)) (j := 1) (vs := [1]) (fun x => V.int ((lsts m x : Nat) : Int)) ht hs (ev_var rfl) wipe1 (fun x y H1 e1 hx hy => ev_call (ea_cons (ev_var rfl) ea_nil) (sp_lists hy (hk.2 x hx)))
      have e0 : (kids (m + 1) t).map (fun x => V.int ((lsts m x : Nat) : Int)) = ((kids (m + 1) t).map (fun x => ((lsts m x : Nat) : Int))).map V.int := by rw [List.map_map]; rfl
      replace z := evl_is z e0
      have e1 : ((lsts (m + 1) t : Nat) : Int) = 1 + ((kids (m + 1) t).map (fun x => ((lsts m x : Nat) : Int))).sum := by
        rw [lsts_kids hb']
        have key : ∀ l : List (Tre m), (((l.map (lsts m)).sum : Nat) : Int) = (l.map (fun x => ((lsts m x : Nat) : Int))).sum := by
          intro l
          induction l with
          | nil => rfl
          | cons x l ih =>
            rw [List.map_cons, List.map_cons, List.sum_cons, List.sum_cons, ← ih]
            omega
        have := key (kids (m + 1) t)
        show ((1 + ((kids (m + 1) t).map (lsts m)).sum : Nat) : Int) = _
        omega
      rw [e1]
      exact ev_op ev_c (ev_sum z) rv_I0
theorem ok_depth1 {f : Addr} {fd : FuncData} {k n : Nat} {spP : Sp} (F : Fun K "_law_depth" "_law_depth" sDepth f fd) (T : TxtF mg) (rL : Rd P w K mg base "_law_depth" k ["_law_tree_here"] spP) (hn : n ≤ 3) (hc : n = 0 ∨ ∃ m, n = m + 1 ∧ spP = spDepth K m) : FnOk P w K mg base CX0 (k + 1) f fd ["_law_tree_here"] (spDepth K n) := by
  refine F.ok scD (fun vs H Q E h => ?_) (fun cdv A outer s H vs Q E hr h => ?_)
  · obtain ⟨v, t, rfl, _⟩ := h
    rfl
  · obtain ⟨v, t, rfl, ht, hs, q⟩ := h
    refine ⟨_, pss_one (ps_ret (pe_ifExp (pt_cmpR (op_eqD hr.units) (pv 0) (pe_tup pa_nil) (nomark _)) pe_int (pe_op op_add pe_int (pe_callB (cr_max rfl) (by rfl) T.max boot_max (pa_cons (pe_lc (own := [("_law_item", 1)]) (g := gName 1) (tt := tYes) rfl scD.nd (pi_tup (pv 0)) (blkOk_by (N := nF) (sc := defScope sDepth) (by decide +kernel))
      (fun _ _ _ _ _ => pg_name (i := 1) scD.nd rfl (.inl rfl)) (fun _ _ _ _ _ => pts_nil) (fun _ _ _ _ _ => pe_rd rL hr (Nat.le_refl _) (by rfl) (pa_cons (pv 1) pa_nil))) pa_nil))))), ?_⟩
    refine s_ret (ev_if (et_leaf hn ht (ev_var rfl)) (fun hb => ?_) (fun hb => ?_)) q
    · rw [(leaf_val (of_decide_eq_true hb)).2]
      exact ev_c
    · have hb' := of_decide_eq_false hb
      obtain ⟨m, rfl, rfl⟩ : ∃ m, n = m + 1 ∧ spP = spDepth K m := by
        rcases hc with rfl | h
        · exact absurd rfl hb'
        · exact h
      have hk := kids_slim hs
      have hne : kids (m + 1) t ≠ [] := kids_ne hb'
      have z := el_kids (K := K) (n := m + 1) (t := t) (σ := [some v, none]) (H := H) (tl := tVar 0) (te := tCall (spDepth K m) [] E0 (tCons (tVar 1) tNil)) (j := 1) (vs := [1]) (fun x => V.int ((dep m x : Nat) : Int)) ht hs (ev_var rfl) wipe1 (fun x y H1 e1 hx hy => ev_call (ea_cons (ev_var rfl) ea_nil) (sp_depth hy (hk.2 x hx)))
      have e0 : (kids (m + 1) t).map (fun x => V.int ((dep m x : Nat) : Int)) = ((kids (m + 1) t).map (fun x => ((dep m x : Nat) : Int))).map V.int := by rw [List.map_map]; rfl
      replace z := evl_is z e0
      have e1 : ((dep (m + 1) t : Nat) : Int) = 1 + ((((kids (m + 1) t).map (dep m)).foldl max 0 : Nat) : Int) := by
        rw [dep_kids hb']
        show ((1 + ((kids (m + 1) t).map (dep m)).foldl max 0 : Nat) : Int) = _
        omega
      rw [e1]
      refine ev_op ev_c (ev_max z ?_ ?_) rv_I0
      · rw [List.length_map]
        exact List.length_pos_iff.mpr hne
      · intro mx h1 h2
        obtain ⟨a1, a2⟩ := fold_max ((kids (m + 1) t).map (dep m)) 0
        generalize ((kids (m + 1) t).map (dep m)).foldl max 0 = M at a1 a2 ⊢
        obtain ⟨x, hx, rfl⟩ := List.mem_map.mp h1
        have b1 := a2 (dep m x) (List.mem_cons_of_mem _ (List.mem_map.mpr ⟨x, hx, rfl⟩))
        rcases List.mem_cons.mp a1 with e | e
        · omega
        · obtain ⟨y, hy, rfl⟩ := List.mem_map.mp e
          have := h2 _ (List.mem_map.mpr ⟨y, hy, rfl⟩)
          omega
theorem ok_text1 {f : Addr} {fd : FuncData} {k n : Nat} {spP : Sp} (F : Fun K "_law_text" "_law_text" sText f fd) (T : TxtF mg) (rL : Rd P w K mg base "_law_text" k ["_law_tree_here"] spP) (hn : n ≤ 3) (hc : n = 0 ∨ ∃ m, n = m + 1 ∧ spP = spText K m) : FnOk P w K mg base CX0 (k + 1) f fd ["_law_tree_here"] (spText K n) := by
  refine F.ok scT (fun vs H Q E h => ?_) (fun cdv A outer s H vs Q E hr h => ?_)
  · obtain ⟨v, t, rfl, _⟩ := h
    rfl
  · obtain ⟨v, t, rfl, ht, hs, q⟩ := h
    refine ⟨_, pss_one (ps_ret (pe_ifExp (pt_cmpR (op_eqD hr.units) (pv 0) (pe_tup pa_nil) (nomark _)) pe_str (pe_op op_add_str (pe_op op_add_str pe_str (pe_join pe_str (pe_lc (own := [("_law_item", 1)]) (g := gName 1) (tt := tYes) rfl scT.nd (pi_tup (pv 0)) (blkOk_by (N := nF) (sc := defScope sText) (by decide +kernel))
      (fun _ _ _ _ _ => pg_name (i := 1) scT.nd rfl (.inl rfl)) (fun _ _ _ _ _ => pts_nil) (fun _ _ _ _ _ => pe_rd rL hr (Nat.le_refl _) (by rfl) (pa_cons (pv 1) pa_nil))))) pe_str))), ?_⟩
    refine s_ret (ev_if (et_leaf hn ht (ev_var rfl)) (fun hb => ?_) (fun hb => ?_)) q
    · rw [show txt n t = [46] from of_decide_eq_true hb]
      exact ev_c
    · have hb' := of_decide_eq_false hb
      obtain ⟨m, rfl, rfl⟩ : ∃ m, n = m + 1 ∧ spP = spText K m := by
        rcases hc with rfl | h
        · exact absurd rfl hb'
        · exact h
      have hk := kids_slim hs
      have z := el_kids (K := K) (n := m + 1) (t := t) (σ := [some v, none]) (H := H) (tl := tVar 0) (te := tCall (spText K m) [] E0 (tCons (tVar 1) tNil)) (j := 1) (vs := [1]) (fun x => V.str (S (txt m x))) ht hs (ev_var rfl) wipe1 (fun x y H1 e1 hx hy => ev_call (ea_cons (ev_var rfl) ea_nil) (sp_text hy (hk.2 x hx)))
      have e0 : (kids (m + 1) t).map (fun x => V.str (S (txt m x))) = (((kids (m + 1) t).map (txt m)).map S).map V.str := by rw [List.map_map, List.map_map]; rfl
      replace z := evl_is z e0
      have hl := txt_cap hn hs
      have et := txt_kids hb'
      have hj : (TL.joinL [44, 32] ((kids (m + 1) t).map (txt m))).length ≤ 105 := by
        rw [et] at hl
        have hl' : (91 :: (TL.joinL [44, 32] ((kids (m + 1) t).map (txt m)) ++ [93])).length ≤ 105 := hl
        rw [List.length_cons, List.length_append] at hl'
        omega
      have hz : ((((kids (m + 1) t).map (txt m)).map S).map (·.length)).sum + (((kids (m + 1) t).map (txt m)).map S).length * (S [44, 32]).length ≤ 16777216 := by
        have h1 := sum_le (c := 105) ((((kids (m + 1) t).map (txt m)).map S).map (·.length)) (fun y hy => by
          obtain ⟨u, hu, rfl⟩ := List.mem_map.mp hy
          obtain ⟨L, hL, rfl⟩ := List.mem_map.mp hu
          obtain ⟨x, hx, rfl⟩ := List.mem_map.mp hL
          show (S (txt m x)).length ≤ 105
          rw [S_len]
          exact txt_cap (by omega) (hk.2 x hx))
        rw [List.length_map, List.length_map, List.length_map] at h1
        rw [List.length_map, List.length_map, S_len]
        have h3 := hk.1
        have h4 : (kids (m + 1) t).length * 105 ≤ 3 * 105 := Nat.mul_le_mul_right _ h3
        have h5 : (kids (m + 1) t).length * 2 ≤ 3 * 2 := Nat.mul_le_mul_right _ h3
        show _ + (kids (m + 1) t).length * 2 ≤ _
        omega
      rw [et]
      have e3 : (91 :: (TL.joinL [44, 32] ((kids (m + 1) t).map (txt (m + 1 - 1))) ++ [93])) = ([91] ++ TL.joinL [44, 32] ((kids (m + 1) t).map (txt m))) ++ [93] := by
        show 91 :: (TL.joinL [44, 32] ((kids (m + 1) t).map (txt m)) ++ [93]) = _
        simp
      rw [e3, ← S_cat, ← S_cat]
      refine ev_addS (ev_addS ev_c (ev_join (a := [44, 32]) ev_c z hz) ?_) ev_c ?_
      · rw [S_len, S_len]
        exact cap_line (Nat.le_trans (Nat.add_le_add (Nat.le_refl 1) hj) (by decide))
      · rw [S_cat, S_len, S_len, List.length_append]
        exact cap_line (Nat.le_trans (Nat.add_le_add (Nat.add_le_add (Nat.le_refl 1) hj) (Nat.le_refl 1)) (by decide))
theorem rd_lists {f : Addr} {fd : FuncData} (F : Fun K "_law_lists" "_law_lists" sLists f fd) (g : mg "_law_lists" = some (.ref f)) (b : Binds K fd ["_law_tree_here"] []) (T : TxtF mg) : ∀ n, n ≤ 3 → Rd P w K mg base "_law_lists" (1 + n) ["_law_tree_here"] (spLists K n)
  | 0, h => ⟨f, fd, g, F.kp, b, ok_lists1 F T (rd_no F g b 0) h (.inl rfl)⟩
  | n + 1, h => ⟨f, fd, g, F.kp, b, ok_lists1 F T (rd_lists F g b T n (by omega)) h (.inr ⟨n, rfl, rfl⟩)⟩
theorem rd_depth {f : Addr} {fd : FuncData} (F : Fun K "_law_depth" "_law_depth" sDepth f fd) (g : mg "_law_depth" = some (.ref f)) (b : Binds K fd ["_law_tree_here"] []) (T : TxtF mg) : ∀ n, n ≤ 3 → Rd P w K mg base "_law_depth" (1 + n) ["_law_tree_here"] (spDepth K n)
  | 0, h => ⟨f, fd, g, F.kp, b, ok_depth1 F T (rd_no F g b 0) h (.inl rfl)⟩
  | n + 1, h => ⟨f, fd, g, F.kp, b, ok_depth1 F T (rd_depth F g b T n (by omega)) h (.inr ⟨n, rfl, rfl⟩)⟩
theorem rd_text {f : Addr} {fd : FuncData} (F : Fun K "_law_text" "_law_text" sText f fd) (g : mg "_law_text" = some (.ref f)) (b : Binds K fd ["_law_tree_here"] []) (T : TxtF mg) : ∀ n, n ≤ 3 → Rd P w K mg base "_law_text" (1 + n) ["_law_tree_here"] (spText K n)
  | 0, h => ⟨f, fd, g, F.kp, b, ok_text1 F T (rd_no F g b 0) h (.inl rfl)⟩
  | n + 1, h => ⟨f, fd, g, F.kp, b, ok_text1 F T (rd_text F g b T n (by omega)) h (.inr ⟨n, rfl, rfl⟩)⟩
end
end Hs
/-! module HsLawT -/
set_option maxHeartbeats 4000000
/-! The law's drawn trees. -/
namespace Hs
open PySem PySem.Spec PyProof.Rows L2 Evl Hc
def spTree (K : PySem.W.Frag) (m : Nat) : Sp := fun vs H Q _ => ∃ (st g sm : Addr) (room : Int), vs = [.ref st, .int ((m + 1 : Nat) : Int), .int room] ∧ DrawSt H st g sm ∧ 1 ≤ room ∧ room ≤ 5 ∧
  ∀ (t : Tre (m + 1)) (v : V) (H' : Hp), TrV K (m + 1) t v H' → slim (m + 1) t = true → ((lsts (m + 1) t : Nat) : Int) ≤ room → Hc.Ext (Dr st g) H H' → DrawSt H' st g sm → Q v H'
theorem nl_draw {H H' : Hp} {st g sm : Addr} (d : DrawSt H st g sm) (e : Hc.Ext (Dr st g) H H') : NL H H' := fun b o h n => by
  obtain ⟨gs, ss, a, z, a1, a2, a3, r⟩ := d
  refine e b o h ?_
  rintro (e | e)
  · rw [e, a1] at h
    exact n.1 _ (Option.some.inj h).symm
  · rw [e, a2] at h
    exact n.1 _ (Option.some.inj h).symm
structure TxtT (mg : Str → Option Value) : Prop extends TxtF mg where
  rng : mg "range" = none
abbrev nTree : List Str := ["_law_state", "_law_floors", "_law_room", "_law_items", "_law_left", "_law_turn"]
theorem scTree : FnScope nTree ["_law_state", "_law_floors", "_law_room"] (defScope sTree) := ⟨rfl, rfl, rfl, by decide +kernel, rfl, by decide +kernel, by decide +kernel⟩
section
variable {P : Program} {w : World} {K : PySem.W.Frag} {mg : Str → Option Value} {base : Heap}
/-- what the loop of _law_tree keeps -/
def IvT (K : PySem.W.Frag) (m : Nat) (H : Hp) (st g sm p : Addr) (room : Int) (i : Nat) (σ : L2.St) (H' : Hp) : Prop := ∃ (ts : List (Tre m)) (xs : List V) (lf : Int) (v5 : Option V), σ = [some (.ref st), some (.int ((m + 1 : Nat) : Int)), some (.int room), some (.ref p), some (.int lf), v5] ∧
  H' p = some (.lst xs) ∧ All2 (fun t v H => TrV K m t v H) ts xs H' ∧ ts.length = i ∧ (∀ t ∈ ts, slim m t = true) ∧ 0 ≤ lf ∧ lf + (((ts.map (lsts m)).sum : Nat) : Int) = room - 1 ∧ Hc.Ext (Dr st g) H H' ∧ DrawSt H' st g sm
def D0 : Ends := ⟨fun _ _ => False, fun _ _ => False, fun _ _ => False, fun _ _ => False⟩
theorem sum_snoc (l : List Nat) (x : Nat) : (l ++ [x]).sum = l.sum + x := by simp
theorem ok_tree1 {f : Addr} {fd : FuncData} {k m : Nat} {spP : Sp} (F : Fun K "_law_tree" "_law_tree" sTree f fd) (T : TxtT mg) (rD : Rd P w K mg base "_law_draw" k ["_law_state", "_law_many"] spDraw) (rL : Rd P w K mg base "_law_lists" k ["_law_tree_here"] (spLists K m))
    (rT : Rd P w K mg base "_law_tree" k ["_law_state", "_law_floors", "_law_room"] spP) (hm : m ≤ 2) (hc : m = 0 ∨ ∃ j, m = j + 1 ∧ spP = spTree K j) : FnOk P w K mg base CX0 (k + 1) f fd ["_law_state", "_law_floors", "_law_room"] (spTree K m) := by
  refine F.ok scTree (fun vs H Q E h => ?_) (fun cdv A outer s H vs Q E hr h => ?_)
  · obtain ⟨st, g, sm, room, rfl, _⟩ := h
    rfl
  · obtain ⟨st, g, sm, room, rfl, hd, room1, room5, q⟩ := h
    refine ⟨_, pss_cons (ps_set (i := 3) scTree.nd rfl (.inl rfl) (pe_lst pa_nil)) (pss_cons (ps_set (i := 4) scTree.nd rfl (.inl rfl) (pe_op op_sub (pv 2) pe_int))
      (pss_cons (ps_for PassesOwn.never rfl (pi_range1 (by rfl) T.rng (pa_cons (pe_op op_add pe_int (pe_rd rD hr (Nat.le_refl _) (by rfl) (pa_cons (pv 0) (pa_cons pe_int pa_nil)))) pa_nil)) (pg_name (i := 5) scTree.nd rfl (.inl rfl))
        (pss_one (ps_if (PW.pt (pw_and (pt_cmpR op_gt (pv 1) pe_int (nomark _)) (pw_and (pt_cmpR op_gt (pv 4) pe_int (nomark _)) (pw_and1 (pt_truth (pe_rd rD hr (Nat.le_refl _) (by rfl) (pa_cons (pv 0) (pa_cons pe_int pa_nil))) (by intro _; rfl))))))
          (pss_cons (ps_expr (pe_bm PySem.F.plainAttrs_list PySem.F.slot_list_append PySem.F.type_list_append mt_append (pv 3) (pa_cons (pe_rd rT hr (Nat.le_refl _) (by rfl) (pa_cons (pv 0) (pa_cons (pe_op op_sub (pv 1) pe_int) (pa_cons (pv 4) pa_nil)))) pa_nil)))
            (pss_one (ps_aug (i := 4) scTree.nd rfl (.inl rfl) (pe_rd rL hr (Nat.le_refl _) (by rfl) (pa_cons (pe_ix ix_list (pv 3) (pe_un un_neg pe_int) (fun _ _ => rfl)) pa_nil)) ip_sub)))
          (pss_one (ps_expr (pe_bm PySem.F.plainAttrs_list PySem.F.slot_list_append PySem.F.type_list_append mt_append (pv 3) (pa_cons (pe_tup pa_nil) pa_nil)))))))
      (pss_one (ps_ret (pe_callTy call_tuple_of (by rfl) T.tup boot_tuple (pa_cons (pv 3) pa_nil)))))), ?_⟩
    refine ⟨Nat.zero_le _, fun p np => ?_⟩
    have off := hd.off np
    refine q_asg (ev_op (ev_var rfl) ev_c rv_I0) fun H1 f1 => ?_
    have d1 : DrawSt H1 st g sm := (hd.put off).same f1
    have e1 : Hc.Ext (Dr st g) H H1 := (Hc.Ext.new np).trans (Hc.Ext.same f1)
    have p1 := f1 _ _ upd_same
    refine ⟨_, rfl, st, g, sm, 3, rfl, d1, by decide, by decide, fun r H2 r0 r3 e2 d2 => ?_⟩
    have p2 := e2 _ _ p1 (dr_off off)
    refine ⟨1, r, rfl, rfl, ?_⟩
    refine ⟨1 + r, rfl, by omega, by omega, for_range (lo := 0) (n := (1 + r).toNat) (IvT K m H st g sm p room) ?_ ?_ ?_⟩
    · exact ⟨[], [], room - 1, none, rfl, p2, All2.nil, rfl, (fun t h => by cases h), by omega, by simp, e1.trans e2, d2⟩
    · rintro i σ H3 hi ⟨ts, xs, lf, v5, rfl, p3, al, hlen, hsl, lf0, hsum, e3, d3⟩
      have hi3 : i < 3 := by omega
      have hxl : xs.length < 100000 := by rw [al.1]; omega
      -- a value that is appended, told by its tree
      have nxt : ∀ (t : Tre m) (v : V) (H5 : Hp) (lf' : Int), TrV K m t v H5 → slim m t = true → 0 ≤ lf' → lf' + ((lsts m t : Nat) : Int) = lf → NL H3 H5 → H5 p = some (.lst (xs ++ [v])) → Hc.Ext (Dr st g) H H5 → DrawSt H5 st g sm →
          IvT K m H st g sm p room (i + 1) [some (.ref st), some (.int ((m + 1 : Nat) : Int)), some (.int room), some (.ref p), some (.int lf'), some (.int (0 + (i : Int)))] H5 := by
        intro t v H5 lf' hv hs l0 l1 n5 p5 e5 d5
        refine ⟨ts ++ [t], xs ++ [v], lf', _, rfl, p5, (al.ex (fun t => trV_mon m t) n5).snoc hv, by rw [List.length_append, hlen]; rfl, fun u hu => ?_, l0, ?_, e5, d5⟩
        · rcases List.mem_append.mp hu with hu | hu
          · exact hsl u hu
          · rw [List.mem_singleton.mp hu]
            exact hs
        · rw [List.map_append, List.map_singleton, sum_snoc]
          omega
      -- items.append(())
      have els : ∀ (D : Ends) H4, Hc.Ext (Dr st g) H3 H4 → DrawSt H4 st g sm → tDrop (tBM K "list" rAppend (tVar 3) (tCons (tTup tNil) tNil)) { D with nx := IvT K m H st g sm p room (i + 1) }
          [some (.ref st), some (.int ((m + 1 : Nat) : Int)), some (.int room), some (.ref p), some (.int lf), some (.int (0 + (i : Int)))] H4 := by
        intro D H4 e4 d4
        have p4 := e4 _ _ p3 (dr_off off)
        refine s_appU p4 (ev_var rfl) (eu_tup ea_nil (Nat.zero_le _)) hxl fun u H5 nu e5 hu => ?_
        have p5 := e5 _ _ p4
        have d5 := d4.same e5
        have o5 : p ≠ st ∧ p ≠ g ∧ p ≠ sm := off
        have nt : ¬ u = p := fun z => by rw [z, p4] at nu; cases nu
        have np5 : NL H5 (upd H5 p (.lst (xs ++ [.ref u]))) := NL.put p5
        have e6 : Hc.Ext (Dr st g) H (upd H5 p (.lst (xs ++ [.ref u]))) := ((e3.trans e4).trans (Hc.Ext.same e5)).puts np
        exact nxt (leaf m) (.ref u) _ lf (leaf_V (SqT.of ((upd_ne nt).trans hu)) m) (slim_leaf m) lf0 (by rw [lsts_leaf]; omega) (((nl_draw d3 e4).trans (NL.ex e5)).trans np5) upd_same e6 (d5.put o5)
      refine et_test (ev_op (ev_var rfl) ev_c rv_I0) H3 (Ex.refl H3) _ fun H4 f4 => ?_
      have e4 : Hc.Ext (Dr st g) H3 H4 := Hc.Ext.same f4
      have d4 := d3.same f4
      rcases hc with rfl | ⟨j, rfl, rfl⟩
      · exact iteF (iteF (els D0 H4 e4 d4))
      · rw [show decide ((1 : Int) < ((j + 1 + 1 : Nat) : Int)) = true from decide_eq_true (by omega)]
        refine iteT ?_
        refine et_test (ev_op (ev_var rfl) ev_c rv_I0) H4 (Ex.refl H4) _ fun H5 f5 => ?_
        have e5 := e4.trans (Hc.Ext.same (S := Dr st g) f5)
        have d5 := d4.same f5
        by_cases hlf : (0 : Int) < lf
        · rw [decide_eq_true hlf]
          refine iteT ⟨_, rfl, st, g, sm, 2, rfl, d5, by decide, by decide, fun r2 H6 r20 r22 e6 d6 => ?_⟩
          have e6' := e5.trans e6
          refine ⟨(r2 != 0), rfl, ?_⟩
          refine ite2 (fun _ => ?_) (fun _ => els D0 H6 e6' d6)
          have p6 := e6' _ _ p3 (dr_off off)
          refine ⟨_, rfl, .inl ⟨rfl, _, SqL.of p6⟩, ?_⟩
          refine ⟨_, rfl, _, rfl, ((j + 1 + 1 : Nat) : Int), 1, rfl, rfl, _, rfl, st, g, sm, lf, by
            show [V.ref st, V.int (((j + 1 + 1 : Nat) : Int) - 1), V.int lf] = _
            rw [show (((j + 1 + 1 : Nat) : Int) - 1) = ((j + 1 : Nat) : Int) by omega], d6, by omega, by omega, fun t v H7 hv hs hl e7 d7 => ?_⟩
          have p7 := e7 _ _ p6 (dr_off off)
          refine ⟨p, xs, v, rfl, rfl, p7, sz_lt hxl, ?_⟩
          have p8 : (upd H7 p (.lst (xs ++ [v]))) p = some (.lst (xs ++ [v])) := upd_same
          have d8 : DrawSt (upd H7 p (.lst (xs ++ [v]))) st g sm := d7.put off
          have n7 : NL H7 (upd H7 p (.lst (xs ++ [v]))) := NL.put p7
          have n8 := ((nl_draw d3 e6').trans (nl_draw d6 e7)).trans n7
          have e8 : Hc.Ext (Dr st g) H (upd H7 p (.lst (xs ++ [v]))) := ((e3.trans e6').trans e7).puts np
          have v8 := trV_mon (j + 1) t v _ _ n7 hv
          generalize upd H7 p (.lst (xs ++ [v])) = K8 at p8 d8 n8 e8 v8 ⊢
          refine s_aug (f := fun i j => i - j) (a := lf) (b := ((lsts (j + 1) t : Nat) : Int)) rfl (ev_call (ea_cons (ev_op (ev_var rfl) (ev_un ev_c ru_neg) (rv_ixL (SqL.of p8) (atI_last xs v))) ea_nil) (sp_lists v8 hs)) fun H9 f9 => ?_
          exact nxt t v H9 _ (trV_ex v8 f9) hs (by omega) (by omega) (n8.trans (NL.ex f9)) (f9 _ _ p8) (e8.trans (Hc.Ext.same f9)) (d8.same f9)
        · rw [decide_eq_false hlf]
          exact iteF (iteF (els D0 H5 e5 d5))
    · rintro σ H3 ⟨ts, xs, lf, v5, rfl, p3, al, hlen, hsl, lf0, hsum, e3, d3⟩
      refine ⟨_, rfl, p, xs, rfl, .inl ⟨SqL.of p3, fun u nu => ?_⟩⟩
      have hts : ts.length ≤ 3 := by omega
      refine q ts (.ref u) _ ⟨u, xs, rfl, SqT.of upd_same, al.ex (fun t => trV_mon m t) (NL.ex (Ex.new nu))⟩ ((slim_iff m ts).mpr ⟨hts, hsl⟩) ?_ (e3.trans (Hc.Ext.new nu)) (d3.put (d3.off nu))
      have hl : lsts (m + 1) ts ≤ 1 + (ts.map (lsts m)).sum := by
        match ts with
        | [] => exact Nat.zero_le _
        | x :: l => exact Nat.le_refl _
      omega
theorem rd_tree {f : Addr} {fd : FuncData} (F : Fun K "_law_tree" "_law_tree" sTree f fd) (g : mg "_law_tree" = some (.ref f)) (b : Binds K fd ["_law_state", "_law_floors", "_law_room"] []) (T : TxtT mg) (rD : Rd P w K mg base "_law_draw" 1 ["_law_state", "_law_many"] spDraw)
    (rL : ∀ n, n ≤ 3 → Rd P w K mg base "_law_lists" (1 + n) ["_law_tree_here"] (spLists K n)) : ∀ m, m ≤ 2 → Rd P w K mg base "_law_tree" (5 + m) ["_law_state", "_law_floors", "_law_room"] (spTree K m)
  | 0, h => ⟨f, fd, g, F.kp, b, (ok_tree1 F T (rD.mono (by decide)) (rL 0 (by omega)) (rd_no F g b 1) h (.inl rfl)).mono (by decide)⟩
  | m + 1, h => ⟨f, fd, g, F.kp, b, ok_tree1 F T (rD.mono (show 1 ≤ 5 + m by omega)) ((rL (m + 1) (by omega)).mono (show 1 + (m + 1) ≤ 5 + m by omega)) (rd_tree F g b T rD rL m (by omega)) h (.inr ⟨m, rfl, rfl⟩)⟩
end
end Hs
/-! module HkTree3 -/
set_option maxHeartbeats 8000000
namespace Hs
open PySem PySem.Spec PyProof.Rows L2 Evl Hc
/-! ### a tree with room for one floor more -/
def lift1 : (n : Nat) → Tre n → Tre (n + 1)
  | 0, _ => ([] : List (Tre 0))
  | n + 1, (l : List (Tre n)) => (l.map (lift1 n) : List (Tre (n + 1)))
theorem trV_lift {K : PySem.W.Frag} {H : Hp} : ∀ (n : Nat) (t : Tre n) (v : V), TrV K n t v H → TrV K (n + 1) (lift1 n t) v H
  | 0, _, v, h => by
    obtain ⟨a, h1, h2⟩ := h
    exact ⟨a, [], h1, h2, All2.nil⟩
  | n + 1, l, v, h => by
    obtain ⟨a, xs, h1, h2, h3⟩ := h
    refine ⟨a, xs, h1, h2, ?_⟩
    have key : ∀ (l : List (Tre n)) (xs : List V), All2 (fun t v H => TrV K n t v H) l xs H → All2 (fun t v H => TrV K (n + 1) t v H) (l.map (lift1 n)) xs H := by
      intro l xs h
      refine ⟨h.1.trans (List.length_map ..).symm, fun i u x hu hx => ?_⟩
      rw [List.getElem?_map] at hu
      cases e : l[i]? with
      | none =>
        rw [e] at hu
        cases hu
      | some y =>
        rw [e] at hu
        rw [← Option.some.inj hu]
        exact trV_lift n y x (h.2 i y x e hx)
    exact key l xs h3
theorem slim_lift : ∀ (n : Nat) (t : Tre n), slim n t = true → slim (n + 1) (lift1 n t) = true
  | 0, _, _ => rfl
  | n + 1, l, h => by
    obtain ⟨h1, h2⟩ := (slim_iff n l).mp h
    refine (slim_iff (n + 1) (List.map (lift1 n) (l : List (Tre n)))).mpr ⟨by rw [List.length_map (as := (l : List (Tre n)))]; exact h1, fun x hx => ?_⟩
    obtain ⟨y, hy, rfl⟩ := List.mem_map.mp hx
    exact slim_lift n y (h2 y hy)
theorem lsts_lift : ∀ (n : Nat) (t : Tre n), lsts (n + 1) (lift1 n t) = lsts n t
  | 0, _ => rfl
  | n + 1, [] => rfl
  | n + 1, x :: l => by
    show 1 + (((x :: l).map (lift1 n)).map (lsts (n + 1))).sum = 1 + ((x :: l).map (lsts n)).sum
    rw [List.map_map]
    congr 2
    exact List.map_congr_left fun y _ => lsts_lift n y
def spTree3 (K : PySem.W.Frag) : Sp := fun vs H Q _ => ∃ (st g sm : Addr) (fl room : Int), vs = [.ref st, .int fl, .int room] ∧ DrawSt H st g sm ∧ 1 ≤ fl ∧ fl ≤ 3 ∧ 1 ≤ room ∧ room ≤ 5 ∧
  ∀ (t : Tre 3) (v : V) (H' : Hp), TrV K 3 t v H' → slim 3 t = true → lsts 3 t ≤ 5 → Hc.Ext (Dr st g) H H' → DrawSt H' st g sm → Q v H'
section
variable {P : Program} {w : World} {K : PySem.W.Frag} {mg : Str → Option Value} {base : Heap} {C : Addr} {f : Addr} {fd : FuncData}
theorem fn_tree (F : Fun K "_law_tree" "_law_tree" sTree f fd) (g : mg "_law_tree" = some (.ref f)) (b : Binds K fd ["_law_state", "_law_floors", "_law_room"] []) (T : TxtT mg) (rD : Rd P w K mg base "_law_draw" 1 ["_law_state", "_law_many"] spDraw)
    (rL : ∀ n, n ≤ 3 → Rd P w K mg base "_law_lists" (1 + n) ["_law_tree_here"] (spLists K n)) : ∀ m, m ≤ 2 → FnOk P w K mg base CX0 (5 + m) f fd ["_law_state", "_law_floors", "_law_room"] (spTree K m)
  | 0, h => (ok_tree1 F T (rD.mono (by decide)) (rL 0 (by omega)) (rd_no F g b 1) h (.inl rfl)).mono (by decide)
  | m + 1, h => ok_tree1 F T (rD.mono (show 1 ≤ 5 + m by omega)) ((rL (m + 1) (by omega)).mono (show 1 + (m + 1) ≤ 5 + m by omega)) ⟨f, fd, g, F.kp, b, fn_tree F g b T rD rL m (by omega)⟩ h (.inr ⟨m, rfl, rfl⟩)
theorem fn_tree3 (h : ∀ m, m ≤ 2 → FnOk P w K mg base CX0 (5 + m) f fd ["_law_state", "_law_floors", "_law_room"] (spTree K m)) : FnOk P w K mg base CX0 7 f fd ["_law_state", "_law_floors", "_law_room"] (spTree3 K) := by
  have key : ∀ vs H Q E, spTree3 K vs H Q E → ∃ m, m ≤ 2 ∧ spTree K m vs H Q E := by
    rintro vs H Q E ⟨st, g, sm, fl, room, rfl, d, f1, f3, r1, r5, q⟩
    have hfl : fl = 1 ∨ fl = 2 ∨ fl = 3 := by omega
    rcases hfl with rfl | rfl | rfl
    · refine ⟨0, by decide, st, g, sm, room, rfl, d, r1, r5, fun t v H' ht hs hl e d' => q (lift1 2 (lift1 1 t)) v H' (trV_lift 2 _ v (trV_lift 1 t v ht)) (slim_lift 2 _ (slim_lift 1 t hs)) ?_ e d'⟩
      rw [lsts_lift, lsts_lift]
      have hl' : ((lsts 1 t : Nat) : Int) ≤ room := hl
      omega
    · refine ⟨1, by decide, st, g, sm, room, rfl, d, r1, r5, fun t v H' ht hs hl e d' => q (lift1 2 t) v H' (trV_lift 2 t v ht) (slim_lift 2 t hs) ?_ e d'⟩
      rw [lsts_lift]
      have hl' : ((lsts 2 t : Nat) : Int) ≤ room := hl
      omega
    · refine ⟨2, by decide, st, g, sm, room, rfl, d, r1, r5, fun t v H' ht hs hl e d' => q t v H' ht hs ?_ e d'⟩
      have hl' : ((lsts 3 t : Nat) : Int) ≤ room := hl
      omega
  refine ⟨fun vs H Q E hq => ?_, fun A outer s H args us vs Q E hr he hb hv hq => ?_⟩
  · obtain ⟨m, hm, hq⟩ := key vs H Q E hq
    exact (h m hm).len vs H Q E hq
  · obtain ⟨m, hm, hq⟩ := key vs H Q E hq
    exact ((h m hm).mono (show 5 + m ≤ 7 by omega)).run A outer s H args us vs Q E hr he hb hv hq
end
end Hs
/-! module HvFull -/
set_option maxHeartbeats 4000000
/-! _law_full. -/
namespace Hv
open PySem PySem.Spec PyProof.Rows L2 Evl Hc Hs Hy Hz
theorem txt_signs : ∀ (n : Nat) (t : Tre n), ∀ c ∈ txt n t, c ∈ [46, 91, 44, 32, 93]
  | 0, _, c, h => by
    have h' : c ∈ ([46] : List Nat) := h
    rw [List.mem_singleton.mp h']
    decide
  | n + 1, [], c, h => by
    have h' : c ∈ ([46] : List Nat) := h
    rw [List.mem_singleton.mp h']
    decide
  | n + 1, x :: l, c, h => by
    rw [txt_cons] at h
    rcases List.mem_cons.mp h with rfl | h
    · decide
    · rcases List.mem_append.mp h with h | h
      · rcases joinL_mem h with h | ⟨y, hy, h⟩
        · exact (by decide : ∀ c ∈ ([44, 32] : List Nat), c ∈ ([46, 91, 44, 32, 93] : List Nat)) c h
        · obtain ⟨u, hu, rfl⟩ := List.mem_map.mp hy
          exact txt_signs n u c h
      · rw [List.mem_singleton.mp h]
        decide
theorem txt_shape {t : Tre 3} (hs : slim 3 t = true) (hl : lsts 3 t ≤ 5) : isShape (txt 3 t) = true ∧ (txt 3 t).length ≤ 105 ∧ 10 ∉ txt 3 t := by
  refine ⟨?_, txt_cap (Nat.le_refl _) hs, fun h => absurd (txt_signs 3 t 10 h) (by decide)⟩
  unfold isShape
  rw [txt_count, txt_form 3 t hs, decide_eq_true hl]
  rfl
theorem cutV_to (xs : List V) (k : Nat) : cutV xs none (some (k : Int)) = xs.take k := by
  unfold cutV
  rw [HT.sIx_none, HT.sIx_nat, List.drop_zero, Nat.sub_zero, ← List.take_eq_take_min]
theorem cutV_from (xs : List V) (k : Nat) : cutV xs (some (k : Int)) none = xs.drop k := by
  unfold cutV
  rw [HT.sIx_none, HT.sIx_nat]
  by_cases h : k ≤ xs.length
  · rw [Nat.min_eq_left h, List.take_of_length_le (by rw [List.length_drop]; exact Nat.le_refl _)]
  · rw [Nat.min_eq_right (by omega), List.drop_of_length_le (Nat.le_refl _), List.drop_of_length_le (by omega)]
    simp
section
variable {K : PySem.W.Frag} {σ : L2.St} {H : Hp} {te ta tb : TE}
theorem el_slN {tl th : TO} {xs : List V} {lo hi : Option Int} (h : EvL te σ H xs) (h1 : ∀ H1, Ex H H1 → EvO tl σ H1 lo) (h2 : ∀ H1, Ex H H1 → EvO th σ H1 hi) : EvL (tSl (rSlL K) te tl th) σ H (cutV xs lo hi) := fun H1 e Q q =>
  h H1 e _ fun a H2 na e2 ha => h1 H2 (e.trans e2) H2 (Ex.refl H2) _ fun H3 e3 => h2 H3 ((e.trans e2).trans e3) H3 (Ex.refl H3) _ fun H4 e4 => ⟨a, xs, rfl, sq_of ((e3.trans e4) _ _ ha), fun p np => q p _ (fresh_back ((e2.trans e3).trans e4) np) (((e2.trans e3).trans e4).trans (Ex.new np)) upd_same⟩
theorem el_take {a : Addr} {xs : List V} (k : Nat) (h : Ev te σ H (.ref a)) (hs : SqL K H a xs) : EvL (tSl (rSlL K) te tNoPart (tPart (tC (.int (k : Int))))) σ H (xs.take k) := by
  have z := el_sl (K := K) (lo := none) (hi := some (k : Int)) h eo_none (eo_some ev_c) hs
  rw [cutV_to] at z
  exact z
theorem el_takeV {a : Addr} {xs : List V} {k : Nat} (h : Ev te σ H (.ref a)) (hk : Ev ta σ H (.int (k : Int))) (hs : SqL K H a xs) : EvL (tSl (rSlL K) te tNoPart (tPart ta)) σ H (xs.take k) := by
  have z := el_sl (K := K) (lo := none) (hi := some (k : Int)) h eo_none (eo_some hk) hs
  rw [cutV_to] at z
  exact z
theorem el_takeN {xs : List V} (k : Nat) (h : EvL te σ H xs) : EvL (tSl (rSlL K) te tNoPart (tPart (tC (.int (k : Int))))) σ H (xs.take k) := by
  have z := el_slN (K := K) (lo := none) (hi := some (k : Int)) h (fun _ _ => eo_none) (fun _ _ => eo_some ev_c)
  rw [cutV_to] at z
  exact z
theorem el_dropV {a : Addr} {xs : List V} {k : Nat} (h : Ev te σ H (.ref a)) (hk : Ev ta σ H (.int (k : Int))) (hs : SqL K H a xs) : EvL (tSl (rSlL K) te (tPart ta) tNoPart) σ H (xs.drop k) := by
  have z := el_sl (K := K) (lo := some (k : Int)) (hi := none) h (eo_some hk) eo_none hs
  rw [cutV_from] at z
  exact z
/-- one of a new list -/
theorem d_of {st g sm : Addr} {xs : List V} {i : Nat} {Q : VK} (h0 : σ[i]? = some (some (.ref st))) (d : DrawSt H st g sm) (hl : EvL te σ H xs) (pos : 0 < xs.length) (few : xs.length ≤ 1000)
    (q : ∀ (j : Nat) (v : V) H', xs[j]? = some v → Hc.Ext (Dr st g) H H' → DrawSt H' st g sm → Q v H') : tCall (spOf K) [] E0 (tCons (tVar i) (tCons te tNil)) σ H Q :=
  ⟨_, h0, hl H (Ex.refl H) _ fun p H2 np e2 hp => ⟨st, g, sm, p, xs, rfl, d.same e2, .inl (sq_of hp), dr_off (d.off np), pos, Nat.lt_of_le_of_lt few (by decide), fun j v H' hv e d' => q j v H' hv ((ext_ex e2).trans e) d'⟩⟩
/-- one of a list that stands -/
theorem d_ofV {st g sm l : Addr} {xs : List V} {i : Nat} {Q : VK} (h0 : σ[i]? = some (some (.ref st))) (d : DrawSt H st g sm) (hl : Ev te σ H (.ref l)) (hx : SqL K H l xs) (off : ¬ Dr st g l) (pos : 0 < xs.length) (few : xs.length ≤ 1000)
    (q : ∀ (j : Nat) (v : V) H', xs[j]? = some v → Hc.Ext (Dr st g) H H' → DrawSt H' st g sm → Q v H') : tCall (spOf K) [] E0 (tCons (tVar i) (tCons te tNil)) σ H Q :=
  ⟨_, h0, hl H (Ex.refl H) _ fun H2 e2 => ⟨st, g, sm, l, xs, rfl, d.same e2, .inl (ex_l e2 hx), off, pos, Nat.lt_of_le_of_lt few (by decide), fun j v H' hv e d' => q j v H' hv ((ext_ex e2).trans e) d'⟩⟩
end
end Hv
/-! module HvFull2 -/
set_option maxHeartbeats 4000000
/-! _law_full, the def. -/
namespace Hv
open PySem PySem.Spec PyProof.Rows L2 Evl Hc Hs Hy Hz
def spFull (K : PySem.W.Frag) : Sp := fun vs H Q _ => ∃ (st g sm : Addr) (n : Nm) (wa : Addr) (ws : List Nm), vs = [.ref st, sv n, .ref wa] ∧ DrawSt H st g sm ∧ H wa = some (.lst (ws.map sv)) ∧ ¬ Dr st g wa ∧ ws.length = 6 ∧ ws.Nodup ∧ (∀ w ∈ ws, isWord w = true) ∧ n.length ≤ 8 ∧
  ∀ (fs : List Fl) (ms : List Mt) (as : List Addr) (t h f m : Addr) (H' : Hp), (∀ x ∈ fs, FlOk x) → (∀ x ∈ ms, MtOk x) → fs.map Fl.w = ws.take 4 → ms.map Mt.w = ws.take 5 → (H h = none ∧ H f = none ∧ H m = none ∧ ∀ a ∈ as, H a = none) → Hc.Ext (Dr st g) H H' → DrawSt H' st g sm →
    H' t = some (.tup [.ref h, .ref f, .ref m]) → H' h = some (.lst (tv [.cls n []])) → H' f = some (.lst (tv (fs.map fL))) → H' m = some (.lst (as.map V.ref)) → PAt (ms.map mL) as H' → Q (.ref t) H'
abbrev nLFull : List Str := ["_law_state", "_law_name", "_law_words", "_law_fields", "_law_methods", "_law_word_here", "_law_taken", "_law_kinds", "_law_shown", "_law_term", "_law_mark", "_law_line", "_law_one"]
theorem scLFull : FnScope nLFull ["_law_state", "_law_name", "_law_words"] (defScope sLFull) := ⟨rfl, rfl, rfl, by decide +kernel, rfl, by decide +kernel, by decide +kernel⟩
/-- what the loop of methods keeps -/
structure LM (H0 : Hp) (st g sm pf pm : Addr) (ws : List Nm) (fs : List Fl) (i : Nat) (ms : List Mt) (as : List Addr) (H : Hp) : Prop where
  ml : ms.length = i
  mw : ms.map Mt.w = ws.take i
  mo : ∀ m ∈ ms, MtOk m
  hm : H pm = some (.lst (as.map V.ref))
  hp : PAt (ms.map mL) as H
  af : ∀ a ∈ as, H0 a = none ∧ a ≠ pm ∧ a ≠ st ∧ a ≠ g
  hf : H pf = some (.lst (tv (fs.map fL)))
  ex : Hc.Ext (Dr st g) H0 H
  dr : DrawSt H st g sm
section
variable {H0 : Hp} {st g sm pf pm : Addr} {ws : List Nm} {fs : List Fl} {i : Nat} {ms : List Mt} {as : List Addr} {H H' : Hp}
theorem LM.ext (L : LM H0 st g sm pf pm ws fs i ms as H) (e : Hc.Ext (Dr st g) H H') (d : DrawSt H' st g sm) (nm : ¬ Dr st g pm) (nf : ¬ Dr st g pf) : LM H0 st g sm pf pm ws fs i ms as H' :=
  ⟨L.ml, L.mw, L.mo, e _ _ L.hm nm, L.hp.ext e fun a ha z => z.elim (L.af a ha).2.2.1 (L.af a ha).2.2.2, L.af, e _ _ L.hf nf, L.ex.trans e, d⟩
theorem LM.same (L : LM H0 st g sm pf pm ws fs i ms as H) (e : Ex H H') (nm : ¬ Dr st g pm) (nf : ¬ Dr st g pf) : LM H0 st g sm pf pm ws fs i ms as H' := L.ext (ext_ex e) (L.dr.same e) nm nf
/-- one more -/
theorem LM.add (L : LM H0 st g sm pf pm ws fs i ms as H) {m : Mt} {p : Addr} (hw : ws[i]? = some m.w) (ok : MtOk m) (h0 : H0 p = none) (hp : H p = some (.lst (tv (mL m)))) (np : p ≠ pm ∧ p ≠ st ∧ p ≠ g) (nm : H0 pm = none) (npf : pf ≠ pm) (om : pm ≠ st ∧ pm ≠ g ∧ pm ≠ sm) :
    LM H0 st g sm pf pm ws fs (i + 1) (ms ++ [m]) (as ++ [p]) (upd H pm (.lst (as.map V.ref ++ [.ref p]))) := by
  refine ⟨by rw [List.length_append, L.ml]; rfl, ?_, ?_, ?_, ?_, ?_, (upd_ne npf).trans L.hf, L.ex.puts nm, L.dr.put om⟩
  · rw [List.map_append, L.mw, take_succ' hw]
    rfl
  · intro x hx
    rcases List.mem_append.mp hx with hx | hx
    · exact L.mo x hx
    · rw [List.mem_singleton.mp hx]
      exact ok
  · rw [upd_same, List.map_append]
    rfl
  · rw [List.map_append]
    have h1 : PAt (ms.map mL) as (upd H pm (.lst (as.map V.ref ++ [.ref p]))) := ⟨L.hp.1, fun j l a x y => (upd_ne (L.af a (List.mem_of_getElem? y)).2.1).trans (L.hp.2 j l a x y)⟩
    exact h1.snoc ((upd_ne np.1).trans hp)
  · intro a ha
    rcases List.mem_append.mp ha with ha | ha
    · exact L.af a ha
    · rw [List.mem_singleton.mp ha]
      exact ⟨h0, np.1, np.2.1, np.2.2⟩
end
theorem map_filter_sv (ws : List Nm) (w : Nm) : (ws.filter fun x => !decide (sv x = sv w)) = ws.filter fun x => decide (x ≠ w) := by
  apply List.filter_congr
  intro x _
  by_cases h : x = w
  · simp [h]
  · have : sv x ≠ sv w := fun z => h (S_inj (V.str.inj z))
    simp [h, this]
theorem taken_facts {ws : List Nm} (l6 : ws.length = 6) (nd : ws.Nodup) (wd : ∀ w ∈ ws, isWord w = true) (w : Nm) : ((ws.filter fun x => decide (x ≠ w)).take 3).length = 3 ∧ ((ws.filter fun x => decide (x ≠ w)).take 3).Nodup ∧ ∀ x ∈ (ws.filter fun x => decide (x ≠ w)).take 3, isWord x = true := by
  have h1 : 5 ≤ (ws.filter fun x => decide (x ≠ w)).length := by
    have hsub : ws ⊆ w :: ws.filter fun x => decide (x ≠ w) := fun x hx => by
      by_cases h : x = w
      · rw [h]
        exact List.mem_cons_self
      · exact List.mem_cons_of_mem _ (List.mem_filter.mpr ⟨hx, decide_eq_true h⟩)
    have hl := List.Nodup.length_le_of_subset nd hsub
    rw [List.length_cons] at hl
    omega
  refine ⟨by rw [List.length_take]; omega, (nd.sublist List.filter_sublist).sublist (List.take_sublist _ _), fun x hx => wd x (List.mem_filter.mp (List.mem_of_mem_take hx)).1⟩
end Hv
/-! module HvFull3 -/
set_option maxHeartbeats 4000000
/-! _law_full, its promise. -/
namespace Hv
open PySem PySem.Spec PyProof.Rows L2 Evl Hc Hs Hy Hz
section
variable {K : PySem.W.Frag} {σ : L2.St} {H : Hp} {te ta tb : TE}
theorem el_rep {xs : List V} {k : Nat} (h : EvL ta σ H xs) (h2 : ∀ H1, Ex H H1 → Ev tb σ H1 (.int (k : Int))) (hk : xs.length * k ≤ 1000) (k1 : k ≤ 1000) : EvL (tOp rRep ta tb) σ H (List.replicate k xs).flatten := fun H1 e Q q =>
  h H1 e _ fun a H2 na e2 ha => h2 H2 (e.trans e2) H2 (Ex.refl H2) _ fun H3 e3 => ⟨a, (k : Int), xs, rfl, rfl, e3 _ _ ha, by omega, by
    have : (k : Int) ≤ 1000 := by omega
    exact Int.lt_of_le_of_lt this (by decide), by
    rw [Int.toNat_natCast]
    exact sz_of (Nat.le_trans hk (by decide)), fun p np => by
    rw [Int.toNat_natCast]
    exact q p _ (fresh_back (e2.trans e3) np) ((e2.trans e3).trans (Ex.new np)) upd_same⟩
end
theorem join_size {c : Nat} {xs : List (List Nat)} (h : ∀ x ∈ xs, x.length ≤ c) : ((xs.map S).map (·.length)).sum ≤ xs.length * c := by
  have e : (xs.map S).map (·.length) = xs.map List.length := by
    rw [List.map_map]
    exact List.map_congr_left fun x _ => S_len x
  rw [e]
  exact sum_le' h
abbrev rAddS : R2 := fun x y H Q => ∃ i j, x = .str i ∧ y = .str j ∧ i.length + j.length ≤ sizeLine ∧ Q (.str (i ++ j)) H
theorem field_eq (w sh : List Nat) : bl4 ++ w ++ colonD ++ sh = tx6 (fL ⟨w, sh⟩) := by
  show _ = bl4 ++ (w ++ colonD ++ sh)
  simp
theorem line_eq (w mk ps : List Nat) : bl4 ++ mk ++ [32] ++ w ++ [40] ++ ps ++ closeD = tx6 (.mem (mX w mk ps)) := by
  show _ = bl4 ++ (mk ++ [32] ++ (w ++ [40] ++ (ps ++ closeD)))
  simp
theorem row_eq (w t : List Nat) : (bl8 ++ selfD) ++ w ++ eqD ++ t = tx6 (.row (rX w t)) := by
  show _ = bl8 ++ (selfD ++ w ++ eqD ++ t)
  simp
theorem copy_eq (w : List Nat) : (copyD ++ selfD) ++ w ++ [41] = copyT w := by
  unfold copyT selfP
  simp
theorem cls_eq (n : List Nat) : cls6 ++ n ++ [58] = tx6 (.cls n []) := by
  show _ = cline n []
  unfold cline bpart
  rw [if_pos rfl]
  simp
theorem three_term {w t0 : List Nat} (hw : isWord w = true) (h0 : isWord t0 = true) {j : Nat} {v : V} (h : [sv newT, sv (copyT w), sv (selfP t0)][j]? = some v) : ∃ t, v = sv t ∧ TermOk t := by
  rcases j with _ | _ | _ | j
  · exact ⟨newT, (Option.some.inj h).symm, .new⟩
  · exact ⟨copyT w, (Option.some.inj h).symm, .cpy hw⟩
  · exact ⟨selfP t0, (Option.some.inj h).symm, .pth h0⟩
  · simp at h
theorem three_mark {j : Nat} {v : V} (h : (marks3.map sv)[j]? = some v) : ∃ m, v = sv m ∧ m ∈ marks3 := by
  rw [List.getElem?_map] at h
  obtain ⟨m, hm, rfl⟩ := Option.map_eq_some_iff.mp h
  exact ⟨m, rfl, List.mem_of_getElem? hm⟩
def kds : List (List Nat) := [kd1, kd2, kd3, kd4, kd5]
theorem five_kind {j : Nat} {v : V} (h : (kds.map sv)[j]? = some v) : ∃ m, v = sv m ∧ m ∈ [kd1, kd2, kd3, kd4, kd5] := by
  rw [List.getElem?_map] at h
  obtain ⟨m, hm, rfl⟩ := Option.map_eq_some_iff.mp h
  exact ⟨m, rfl, List.mem_of_getElem? hm⟩
section
variable {P : Program} {w : World} {K : PySem.W.Frag} {mg : Str → Option Value} {base : Heap}
theorem ok_full {f : Addr} {fd : FuncData} {k : Nat} (F : Fun K "_law_full" "_law_full" sLFull f fd) (rO : Rd P w K mg base "_law_of" k ["_law_state", "_law_some"] (spOf K)) (rT : Rd P w K mg base "_law_tree" k ["_law_state", "_law_floors", "_law_room"] (spTree3 K)) (rXt : Rd P w K mg base "_law_text" k ["_law_tree_here"] (spText K 3)) :
    FnOk P w K mg base CX0 (k + 1) f fd ["_law_state", "_law_name", "_law_words"] (spFull K) := by
  refine F.ok scLFull (fun vs H Q E h => ?_) (fun cdv A outer s H vs Q E hr h => ?_)
  · obtain ⟨st, g, sm, n, wa, ws, rfl, _⟩ := h
    rfl
  · obtain ⟨st, g, sm, n, wa, ws, rfl, hd, hwa, nwa, l6, nd, wd, n8, q⟩ := h
    refine ⟨_, pss_cons (ps_setLc (i := 3) (own := [("_law_word_here", 5)]) (g := gName 5) (tt := tYes) rfl scLFull.nd rfl rfl (sw_true rfl rfl rfl rfl) (pi_list (pe_slice sl_list (pv 2) po_none (po_some pe_int))) (blkOk_by (N := nLFull) (sc := defScope sLFull) (by decide +kernel)) (fun _ _ _ _ _ => pg_name (i := 5) scLFull.nd rfl (.inl rfl)) (fun _ _ _ _ _ => pts_nil)
        (fun _ _ _ _ _ => pe_op op_add_str (pe_op op_add_str (pe_op op_add_str pe_str (pv 5)) pe_str) (pe_rd rXt hr (Nat.le_refl _) (by rfl) (pa_cons (pe_rd rT hr (Nat.le_refl _) (by rfl) (pa_cons (pv 0) (pa_cons pe_int (pa_cons pe_int pa_nil)))) pa_nil))))
      (pss_cons (ps_set (i := 4) scLFull.nd rfl (.inl rfl) (pe_lst pa_nil))
      (pss_cons (ps_for PassesOwn.never rfl (pi_list (pe_slice sl_list (pv 2) po_none (po_some pe_int))) (pg_name (i := 5) scLFull.nd rfl (.inr rfl))
        (pss_cons (ps_set (i := 6) scLFull.nd rfl (.inl rfl) (pe_slice sl_list (pe_lc (own := [("_law_one", 12)]) (g := gName 12) (tt := tTest (tOp rNe (tVar 12) (tVar 5))) rfl scLFull.nd (pi_list (pv 2)) (blkOk_by (N := nLFull) (sc := defScope sLFull) (by decide +kernel)) (fun _ _ _ _ _ => pg_name (i := 12) scLFull.nd rfl (.inl rfl))
          (fun _ _ _ _ _ => pts_one (pt_cmpR op_ne (pv 12) (pv 5) (nomark _))) (fun _ _ _ _ _ => pv 12)) po_none (po_some pe_int)))
        (pss_cons (ps_set (i := 7) scLFull.nd rfl (.inr rfl) (pe_lst (pa_cons pe_str (pa_cons pe_str (pa_cons pe_str (pa_cons pe_str (pa_cons pe_str pa_nil)))))))
        (pss_cons (ps_set (i := 8) scLFull.nd rfl (.inl rfl) (pe_join pe_str (pe_lc (own := [("_law_one", 12)]) (g := gName 12) (tt := tYes) rfl scLFull.nd (pi_list (pv 6)) (blkOk_by (N := nLFull) (sc := defScope sLFull) (by decide +kernel)) (fun _ _ _ _ _ => pg_name (i := 12) scLFull.nd rfl (.inl rfl)) (fun _ _ _ _ _ => pts_nil)
          (fun _ _ _ _ _ => pe_op op_add_str (pe_op op_add_str (pv 12) pe_str) (pe_rd rO hr (Nat.le_refl _) (by rfl) (pa_cons (pv 0) (pa_cons (pv 7) pa_nil)))))))
        (pss_cons (ps_set (i := 9) scLFull.nd rfl (.inl rfl) (pe_rd rO hr (Nat.le_refl _) (by rfl) (pa_cons (pv 0) (pa_cons (pe_lst (pa_cons pe_str (pa_cons (pe_op op_add_str (pe_op op_add_str pe_str (pv 5)) pe_str) (pa_cons (pe_op op_add_str pe_str (pe_ix ix_list (pv 6) pe_int (fun _ _ => rfl))) pa_nil)))) pa_nil))))
        (pss_cons (ps_set (i := 10) scLFull.nd rfl (.inl rfl) (pe_rd rO hr (Nat.le_refl _) (by rfl) (pa_cons (pv 0) (pa_cons (pe_lst (pa_cons pe_str (pa_cons pe_str (pa_cons pe_str pa_nil)))) pa_nil))))
        (pss_cons (ps_set (i := 11) scLFull.nd rfl (.inl rfl) (pe_op op_add_str (pe_op op_add_str (pe_op op_add_str (pe_op op_add_str (pe_op op_add_str (pe_op op_add_str pe_str (pv 10)) pe_str) (pv 5)) pe_str) (pv 8)) pe_str))
        (pss_one (ps_expr (pe_bm PySem.F.plainAttrs_list PySem.F.slot_list_append PySem.F.type_list_append mt_append (pv 4) (pa_cons (pe_op op_cat (pe_lst (pa_cons (pv 11) pa_nil)) (pe_op op_rep (pe_lst (pa_cons (pe_op op_add_str (pe_op op_add_str (pe_op op_add_str pe_str (pv 5)) pe_str) (pv 9)) pa_nil)) pe_int)) pa_nil)))))))))))
      (pss_one (ps_ret (pe_tup (pa_cons (pe_lst (pa_cons (pe_op op_add_str (pe_op op_add_str pe_str (pv 1)) pe_str) pa_nil)) (pa_cons (pv 3) (pa_cons (pv 4) pa_nil)))))))), ?_⟩
    -- the fields
    refine q_asgX ?_
    refine el_take (K := K) 4 (ev_var rfl) (sq_of hwa) H (Ex.refl H) _ fun pl H1 npl e1 hpl => ?_
    refine ⟨pl, rfl, ⟨_, sq_of hpl⟩, fun D nD => ?_⟩
    have d1 := hd.same e1
    have offD := d1.off nD
    have offpl := hd.off npl
    have nD0 := fresh_back e1 nD
    refine lc_list (K := K) (xs := (ws.map sv).take 4) (fun i H' => ∃ fs : List Fl, fs.length = i ∧ (∀ x ∈ fs, FlOk x) ∧ fs.map Fl.w = ws.take i ∧ H' D = some (.lst (tv (fs.map fL))) ∧ Hc.Ext (Dr st g) H1 H' ∧ DrawSt H' st g sm) ⟨[], rfl, (fun x hx => by cases hx), rfl, upd_same, Hc.Ext.new nD, d1.put offD⟩
      (fun i H' _ z => by
        obtain ⟨_, _, _, _, _, x, _⟩ := z
        exact sq_of (x _ _ hpl (dr_off offpl))) (fun i y H2 hy z => ?_) (fun H2 z => ?_)
    · obtain ⟨fs, fl, fo, fw, hD, x2, d2⟩ := z
      have hi4 : i < 4 := by
        have := (List.getElem?_eq_some_iff.mp hy).1
        rw [List.length_take] at this
        omega
      rw [List.getElem?_take_of_lt hi4, List.getElem?_map] at hy
      obtain ⟨w', hw', rfl⟩ := Option.map_eq_some_iff.mp hy
      have ww := wd w' (List.mem_of_getElem? hw')
      have w8 := (word_all ww).2.2
      refine ⟨Hs.wipe1 _, ?_⟩
      dsimp only [tYes]
      rw [if_pos rfl]
      show tOp rAddS (tOp rAddS (tOp rAddS (tC (sv bl4)) (tVar 5)) (tC (sv colonD))) _ [some (.ref st), some (sv n), some (.ref wa), none, none, some (sv w'), none, none, none, none, none, none, none] H2 _
      have z3 : Ev (tOp rAddS (tOp rAddS (tC (sv bl4)) (tVar 5)) (tC (sv colonD))) [some (.ref st), some (sv n), some (.ref wa), none, none, some (sv w'), none, none, none, none, none, none, none] H2 (sv (bl4 ++ w' ++ colonD)) := (Hy.ev_addS (a := bl4 ++ w') (b := colonD) (by show (bl4 ++ w').length + 2 ≤ 30000; rw [List.length_append]; show 4 + w'.length + 2 ≤ 30000; omega) (Hy.ev_addS (a := bl4) (b := w') (by show 4 + w'.length ≤ 30000; omega) ev_c (ev_var rfl)) ev_c)
      refine z3 H2 (Ex.refl H2) _ fun H3 e3 => ?_
      have d3 := d2.same e3
      refine ⟨_, rfl, st, g, sm, 3, 5, rfl, d3, by decide, by decide, by decide, by decide, fun t v H4 hv hs hl e4 d4 => ?_⟩
      refine ⟨v, t, rfl, hv, hs, fun H5 e5 => ?_⟩
      obtain ⟨s1, s2, s3⟩ := txt_shape hs hl
      refine ⟨_, _, rfl, rfl, ?_, ?_⟩
      · rw [S_len, S_len]
        refine sz_of ?_
        rw [List.length_append, List.length_append]
        show 4 + w'.length + 2 + (txt 3 t).length ≤ 100000
        omega
      rw [S_cat, field_eq]
      have x5 : Hc.Ext (Dr st g) H2 H5 := ((ext_ex e3).trans e4).trans (ext_ex e5)
      have hD5 := x5 _ _ hD (dr_off offD)
      refine ⟨_, hD5, sz_lt (by rw [tv_len, List.length_map]; omega), fs ++ [⟨w', txt 3 t⟩], by rw [List.length_append, fl]; rfl, ?_, ?_, ?_, (x2.trans x5).puts nD, (d4.same e5).put offD⟩
      · intro x hx
        rcases List.mem_append.mp hx with hx | hx
        · exact fo x hx
        · rw [List.mem_singleton.mp hx]
          exact ⟨ww, s1, s2, s3⟩
      · rw [List.map_append, fw, take_succ' hw']
        rfl
      · rw [upd_same, List.map_append, tv_app]
        rfl
    · obtain ⟨fs, fl, fo, fw, hD, x2, d2⟩ := z
      have f4 : fs.length = 4 := by
        rw [fl, List.length_take, List.length_map, l6]
        rfl
      rw [← fl, f4] at fw
      have hwa2 := x2 _ _ (e1 _ _ hwa) nwa
      show tSeq _ _ _ [some (.ref st), some (sv n), some (.ref wa), some (.ref D), none, none, none, none, none, none, none, none, none] H2
      refine q_asgL (xs := []) (el_lst ea_nil (Nat.zero_le _)) fun pm H3 npm e3 hpm => ?_
      have hwa3 := e3 _ _ hwa2
      have offpm := d2.off npm
      have pfpm : D ≠ pm := ne_of_none hD npm
      have npm0 : H pm = none := ((ext_ex e1).trans x2).free npm (dr_off offpm)
      have nwa3 : ¬ Dr st g wa := nwa
      have L3 : LM H st g sm D pm ws fs 0 [] [] H3 := ⟨rfl, rfl, (fun x hx => by cases hx), hpm, ⟨rfl, fun i l a x y => by simp at x⟩, (fun a ha => by cases ha), e3 _ _ hD, ((ext_ex e1).trans x2).trans (ext_ex e3), d2.same e3⟩
      show tSeq _ _ _ [some (.ref st), some (sv n), some (.ref wa), some (.ref D), some (.ref pm), none, none, none, none, none, none, none, none] H3
      refine q_forNLn (K := K) (xs := (ws.map sv).take 5) (el_take (K := K) 5 (ev_var rfl) (sq_of hwa3)) (fun p i σ' H' => ∃ (ms : List Mt) (as : List Addr) (v5 v6 v7 v8 v9 v10 v11 v12 : Option V), σ' = [some (.ref st), some (sv n), some (.ref wa), some (.ref D), some (.ref pm), v5, v6, v7, v8, v9, v10, v11, v12] ∧ LM H st g sm D pm ws fs i ms as H' ∧ H' p = some (.lst ((ws.map sv).take 5)) ∧ ¬ Dr st g p ∧ p ≠ pm ∧ H' wa = some (.lst (ws.map sv)) ∧ wa ≠ pm)
        (fun p H4 np e4 hp => ⟨[], [], none, none, none, none, none, none, none, none, rfl, L3.same e4 (dr_off offpm) (dr_off offD), hp, dr_off (L3.dr.off np), (ne_of_none hpm np).symm, e4 _ _ hwa3, ne_of_none hwa2 npm⟩)
        (fun p i σ' H' _ z => by
          obtain ⟨_, _, _, _, _, _, _, _, _, _, _, _, z, _⟩ := z
          exact sq_of z) (fun p i y σ' H' hy z => ?_) (fun p σ' H' z => ?_)
      · obtain ⟨ms, as, v5, v6, v7, v8, v9, v10, v11, v12, rfl, L, hp, offp, ppm, hwz, wapm⟩ := z
        have hi5 : i < 5 := by
          have := (List.getElem?_eq_some_iff.mp hy).1
          rw [List.length_take] at this
          omega
        rw [List.getElem?_take_of_lt hi5, List.getElem?_map] at hy
        obtain ⟨w', hw', rfl⟩ := Option.map_eq_some_iff.mp hy
        have ww := wd w' (List.mem_of_getElem? hw')
        have w8 := (word_all ww).2.2
        obtain ⟨t3, tn, tw⟩ := taken_facts l6 nd wd w'
        generalize htk : (ws.filter fun x => decide (x ≠ w')).take 3 = tk at t3 tn tw
        show tSeq _ _ _ [some (.ref st), some (sv n), some (.ref wa), some (.ref D), some (.ref pm), some (sv w'), v6, v7, v8, v9, v10, v11, v12] H'
        -- three other words
        refine q_asgL (xs := tk.map sv) ?_ fun ta H5 nta e5 hta => ?_
        · have z := el_takeN (K := K) 3 (el_map (K := K) (H := H') (σ := [some (.ref st), some (sv n), some (.ref wa), some (.ref D), some (.ref pm), some (sv w'), v6, v7, v8, v9, v10, v11, v12]) (a := wa) (tl := tVar 2) (te := tVar 12) (t := tTest (tOp rNe (tVar 12) (tVar 5))) (j := 12) (vs := [12]) ws sv (fun x => !decide (sv x = sv w')) sv (ev_var rfl) (sq_of hwz) (by omega) Hs.wipe1
            (fun x H6 e6 hx => et_test (ev_op (ev_var rfl) (ev_var rfl) (rv_ne rfl))) (fun x H6 e6 hx _ => ev_var rfl))
          rw [map_filter_sv, ← List.map_take, htk] at z
          exact z
        have L5 := L.same e5 (dr_off offpm) (dr_off offD)
        have offta := L.dr.off nta
        show tSeq _ _ _ [some (.ref st), some (sv n), some (.ref wa), some (.ref D), some (.ref pm), some (sv w'), some (.ref ta), v7, v8, v9, v10, v11, v12] H5
        refine q_asgL (xs := kds.map sv) (el_lst (vs := kds.map sv) (ea_cons ev_c (ea_cons ev_c (ea_cons ev_c (ea_cons ev_c (ea_cons ev_c ea_nil))))) (show 5 ≤ 100000 by decide)) fun ka H6 nka e6 hka => ?_
        have L6 := L5.same e6 (dr_off offpm) (dr_off offD)
        have offka := L5.dr.off nka
        have hta6 := e6 _ _ hta
        show tSeq _ _ _ [some (.ref st), some (sv n), some (.ref wa), some (.ref D), some (.ref pm), some (sv w'), some (.ref ta), some (.ref ka), v8, v9, v10, v11, v12] H6
        have hka6 := hka
        refine q_asgX ?_
        refine ⟨⟨_, rfl⟩, ?_⟩
        refine ⟨_, rfl, ta, rfl, ⟨_, sq_of hta6⟩, fun D2 nD2 => ?_⟩
        have offD2 := L6.dr.off nD2
        refine lc_list (K := K) (xs := tk.map sv) (fun i H' => ∃ ps : List (Nm × Nm), ps.length = i ∧ ps.map (·.1) = tk.take i ∧ (∀ p ∈ ps, PaOk p) ∧ H' D2 = some (.lst (ps.map fun p => sv (pX p))) ∧ Hc.Ext (Dr st g) H6 H' ∧ DrawSt H' st g sm) ⟨[], rfl, rfl, (fun x hx => by cases hx), upd_same, Hc.Ext.new nD2, L6.dr.put offD2⟩
          (fun i H' _ z => by
            obtain ⟨_, _, _, _, _, x, _⟩ := z
            exact sq_of (x _ _ hta6 (dr_off offta))) (fun i y H7 hy z => ?_) (fun H7 z => ?_)
        · obtain ⟨ps, pl7, pw, po, hD2, x7, d7⟩ := z
          rw [List.getElem?_map] at hy
          obtain ⟨x', hx', rfl⟩ := Option.map_eq_some_iff.mp hy
          have xw := tw x' (List.mem_of_getElem? hx')
          have x8 := (word_all xw).2.2
          have i3 : i < 3 := by
            rw [← t3]
            exact (List.getElem?_eq_some_iff.mp hx').1
          refine ⟨Hs.wipe1 _, ?_⟩
          dsimp only [tYes]
          rw [if_pos rfl]
          show tOp rAddS (tOp rAddS (tVar 12) (tC (sv colonD))) (tCall (spOf K) [] E0 (tCons (tVar 0) (tCons (tVar 7) tNil))) [some (.ref st), some (sv n), some (.ref wa), some (.ref D), some (.ref pm), some (sv w'), some (.ref ta), some (.ref ka), v8, v9, v10, v11, some (sv x')] H7 _
          have z3 : Ev (tOp rAddS (tVar 12) (tC (sv colonD))) [some (.ref st), some (sv n), some (.ref wa), some (.ref D), some (.ref pm), some (sv w'), some (.ref ta), some (.ref ka), v8, v9, v10, v11, some (sv x')] H7 (sv (x' ++ colonD)) := Hy.ev_addS (a := x') (b := colonD) (by show x'.length + 2 ≤ 30000; omega) (ev_var rfl) ev_c
          refine z3 H7 (Ex.refl H7) _ fun H8 e8 => ?_
          refine d_ofV (K := K) (xs := kds.map sv) rfl (d7.same e8) (ev_var rfl) (sq_of (e8 _ _ (x7 _ _ hka6 (dr_off offka)))) (dr_off offka) (by decide) (by decide) fun j v H9 hv e9 d9 => ?_
          obtain ⟨kk, rfl, hkk⟩ := five_kind hv
          have pk := pa_ok xw hkk
          refine ⟨_, _, rfl, rfl, ?_, ?_⟩
          · rw [S_len, S_len, List.length_append]
            refine sz_of ?_
            have h1 := pk.le
            have h2 : colonD.length = 2 := rfl
            have h3 : kk.length ≤ 11 := h1
            omega
          rw [S_cat]
          have x9 : Hc.Ext (Dr st g) H7 H9 := (ext_ex e8).trans e9
          have hD9 := x9 _ _ hD2 (dr_off offD2)
          refine ⟨_, hD9, sz_lt (by rw [List.length_map]; omega), ps ++ [(x', kk)], by rw [List.length_append, pl7]; rfl, ?_, ?_, ?_, (x7.trans x9).puts nD2, d9.put offD2⟩
          · rw [List.map_append, pw, take_succ' hx']
            rfl
          · intro p hp
            rcases List.mem_append.mp hp with hp | hp
            · exact po p hp
            · rw [List.mem_singleton.mp hp]
              exact pk
          · rw [upd_same, List.map_append]
            rfl
        · obtain ⟨ps, pl7, pw, po, hD2, x7, d7⟩ := z
          rw [List.length_map] at pl7
          rw [List.length_map, List.take_length] at pw
          have p3 : ps.length = 3 := pl7.trans t3
          obtain ⟨psl, psn⟩ := psX_len po (by omega)
          have pso := pars_ok po (by rw [pw]; exact tn) (by omega)
          refine ⟨S [44, 32], D2, (ps.map pX).map S, rfl, rfl, .inl (sq_of (by rw [hD2, List.map_map, List.map_map]; rfl)), ?_, ?_⟩
          · have hs := join_size (c := 21) (xs := ps.map pX) fun x hx => by
              obtain ⟨p, hp, rfl⟩ := List.mem_map.mp hx
              have a := (word_all (po p hp).w).2.2
              have b := (po p hp).le
              unfold pX
              rw [List.length_append, List.length_append]
              show p.1.length + 2 + p.2.length ≤ 21
              omega
            rw [List.length_map] at hs
            rw [List.length_map, List.length_map, S_len]
            show _ + ps.length * 2 ≤ 16777216
            omega
          rw [join_S]
          have L7 := L6.ext x7 d7 (dr_off offpm) (dr_off offD)
          have hta7 := x7 _ _ hta6 (dr_off offta)
          obtain ⟨t0, tr, htk0⟩ : ∃ t0 tr, tk = t0 :: tr := by
            cases tk with
            | nil => cases t3
            | cons a b => exact ⟨a, b, rfl⟩
          have w0 := tw t0 (by rw [htk0]; exact List.mem_cons_self)
          have l0 := (word_all w0).2.2
          show tSeq _ _ _ [some (.ref st), some (sv n), some (.ref wa), some (.ref D), some (.ref pm), some (sv w'), some (.ref ta), some (.ref ka), some (sv (psX ps)), v9, v10, v11, v12] H7
          refine q_asgX ?_
          refine d_of (K := K) (xs := [sv newT, sv (copyT w'), sv (selfP t0)]) rfl L7.dr (el_lst (vs := [sv newT, sv (copyT w'), sv (selfP t0)]) (ea_cons ev_c (ea_cons (Evl.ev_is (Hy.ev_addS (a := copyD ++ selfD ++ w') (b := [41]) (by
            rw [List.length_append, List.length_append]
            show 5 + 5 + w'.length + 1 ≤ 30000
            omega) (Hy.ev_addS (a := copyD ++ selfD) (b := w') (by
            rw [List.length_append]
            show 5 + 5 + w'.length ≤ 30000
            omega) ev_c (ev_var rfl)) ev_c) (by rw [copy_eq])) (ea_cons (Hy.ev_addS (a := selfD) (b := t0) (by
            show 5 + t0.length ≤ 30000
            omega) ev_c (ev_head (x := t0) (l := tr) (ev_var rfl) (sq_of (by rw [hta7, htk0])))) ea_nil))) (show 3 ≤ 100000 by decide)) (show 0 < 3 by decide) (show 3 ≤ 1000 by decide) fun j v H9 hv e9 d9 => ?_
          obtain ⟨tm, rfl, htm⟩ := three_term ww w0 hv
          have L9 := L7.ext e9 d9 (dr_off offpm) (dr_off offD)
          show tSeq _ _ _ [some (.ref st), some (sv n), some (.ref wa), some (.ref D), some (.ref pm), some (sv w'), some (.ref ta), some (.ref ka), some (sv (psX ps)), some (sv tm), v10, v11, v12] H9
          refine q_asgX ?_
          refine d_of (K := K) (xs := marks3.map sv) rfl L9.dr (el_lst (vs := marks3.map sv) (ea_cons ev_c (ea_cons ev_c (ea_cons ev_c ea_nil))) (show 3 ≤ 100000 by decide)) (by decide) (by decide) fun j2 v2 H10 hv2 e10 d10 => ?_
          obtain ⟨mk, rfl, hmk⟩ := three_mark hv2
          have L10 := L9.ext e10 d10 (dr_off offpm) (dr_off offD)
          have mk5 := (mark_le mk hmk).1
          show tSeq _ _ _ [some (.ref st), some (sv n), some (.ref wa), some (.ref D), some (.ref pm), some (sv w'), some (.ref ta), some (.ref ka), some (sv (psX ps)), some (sv tm), some (sv mk), v11, v12] H10
          have zl : Ev (tOp rAddS (tOp rAddS (tOp rAddS (tOp rAddS (tOp rAddS (tOp rAddS (tC (sv bl4)) (tVar 10)) (tC (sv [32]))) (tVar 5)) (tC (sv [40]))) (tVar 8)) (tC (sv closeD))) [some (.ref st), some (sv n), some (.ref wa), some (.ref D), some (.ref pm), some (sv w'), some (.ref ta), some (.ref ka), some (sv (psX ps)), some (sv tm), some (sv mk), v11, v12] H10 (sv (bl4 ++ mk ++ [32] ++ w' ++ [40] ++ psX ps ++ closeD)) := by
            have b4 : bl4.length = 4 := rfl
            have c2 : closeD.length = 2 := rfl
            have a1 := Hy.ev_addS (σ := [some (.ref st), some (sv n), some (.ref wa), some (.ref D), some (.ref pm), some (sv w'), some (.ref ta), some (.ref ka), some (sv (psX ps)), some (sv tm), some (sv mk), v11, v12]) (H := H10) (a := bl4) (b := mk) (ta := tC (sv bl4)) (tb := tVar 10) (by show _ ≤ 30000; omega) ev_c (ev_var rfl)
            have a2 := Hy.ev_addS (b := [32]) (tb := tC (sv [32])) (by show _ ≤ 30000; simp only [List.length_append, List.length_cons, List.length_nil]; omega) a1 ev_c
            have a3 := Hy.ev_addS (b := w') (tb := tVar 5) (by show _ ≤ 30000; simp only [List.length_append, List.length_cons, List.length_nil]; omega) a2 (ev_var rfl)
            have a4 := Hy.ev_addS (b := [40]) (tb := tC (sv [40])) (by show _ ≤ 30000; simp only [List.length_append, List.length_cons, List.length_nil]; omega) a3 ev_c
            have a5 := Hy.ev_addS (b := psX ps) (tb := tVar 8) (by show _ ≤ 30000; simp only [List.length_append, List.length_cons, List.length_nil]; omega) a4 (ev_var rfl)
            exact Hy.ev_addS (b := closeD) (tb := tC (sv closeD)) (by show _ ≤ 30000; simp only [List.length_append, List.length_cons, List.length_nil]; omega) a5 ev_c
          refine q_asg (v := sv (tx6 (.mem (mX w' mk (psX ps))))) (Evl.ev_is zl (by rw [line_eq])) fun H11 e11 => ?_
          have L11 := L10.same e11 (dr_off offpm) (dr_off offD)
          show tDrop _ _ [some (.ref st), some (sv n), some (.ref wa), some (.ref D), some (.ref pm), some (sv w'), some (.ref ta), some (.ref ka), some (sv (psX ps)), some (sv tm), some (sv mk), some (sv (tx6 (.mem (mX w' mk (psX ps))))), v12] H11
          obtain ⟨tl, tnl⟩ := term_len htm
          have zr : Ev (tOp rAddS (tOp rAddS (tOp rAddS (tC (sv (bl8 ++ selfD))) (tVar 5)) (tC (sv eqD))) (tVar 9)) [some (.ref st), some (sv n), some (.ref wa), some (.ref D), some (.ref pm), some (sv w'), some (.ref ta), some (.ref ka), some (sv (psX ps)), some (sv tm), some (sv mk), some (sv (tx6 (.mem (mX w' mk (psX ps))))), v12] H11 (sv (bl8 ++ selfD ++ w' ++ eqD ++ tm)) := by
            have b8 : bl8.length = 8 := rfl
            have c5 : selfD.length = 5 := rfl
            have c3 : eqD.length = 3 := rfl
            have a1 := Hy.ev_addS (σ := [some (.ref st), some (sv n), some (.ref wa), some (.ref D), some (.ref pm), some (sv w'), some (.ref ta), some (.ref ka), some (sv (psX ps)), some (sv tm), some (sv mk), some (sv (tx6 (.mem (mX w' mk (psX ps))))), v12]) (H := H11) (a := bl8 ++ selfD) (b := w') (ta := tC (sv (bl8 ++ selfD))) (tb := tVar 5) (by show _ ≤ 30000; simp only [List.length_append, List.length_cons, List.length_nil]; omega) ev_c (ev_var rfl)
            have a2 := Hy.ev_addS (b := eqD) (tb := tC (sv eqD)) (by show _ ≤ 30000; simp only [List.length_append, List.length_cons, List.length_nil]; omega) a1 ev_c
            exact Hy.ev_addS (b := tm) (tb := tVar 9) (by show _ ≤ 30000; simp only [List.length_append, List.length_cons, List.length_nil]; omega) a2 (ev_var rfl)
          obtain ⟨rl, rn⟩ := rX_len ww htm
          have mok : MtOk ⟨w', mk, psX ps, rX w' tm⟩ := ⟨ww, hmk, pso, psl, psn, row_line ww htm, rl, rn⟩
          refine s_appL (K := K) (l := pm) (xs := as.map V.ref) (ys := tv (mL ⟨w', mk, psX ps, rX w' tm⟩)) L11.hm (ev_var rfl) ?_ (by
            have := L11.hp.1
            rw [List.length_map] at this
            have := L11.ml
            rw [List.length_map]
            omega) fun p2 H12 np2 e12 hp2 => ?_
          · have z := Hs.el_cat (el_lst (ea_cons (ev_var (σ := [some (.ref st), some (sv n), some (.ref wa), some (.ref D), some (.ref pm), some (sv w'), some (.ref ta), some (.ref ka), some (sv (psX ps)), some (sv tm), some (sv mk), some (sv (tx6 (.mem (mX w' mk (psX ps))))), v12]) (H := H11) (i := 11) rfl) ea_nil) (show 1 ≤ 100000 by decide)) (el_rep (k := 6) (tb := tC (.int 6)) (el_lst (ea_cons (Evl.ev_is zr (by rw [row_eq])) ea_nil) (show 1 ≤ 100000 by decide)) (fun _ _ => ev_c) (show 1 * 6 ≤ 1000 by decide) (by decide)) (show 1 + 6 ≤ 100000 by decide)
            exact z
          · have L12 := L11.same e12 (dr_off offpm) (dr_off offD)
            have off2 := L11.dr.off np2
            have np20 := L11.ex.free np2 (dr_off off2)
            have xAll : Hc.Ext (Dr st g) H' H12 := (((((((ext_ex e5).trans (ext_ex e6)).trans x7).trans e9).trans e10).trans (ext_ex e11)).trans (ext_ex e12))
            exact ⟨ms ++ [⟨w', mk, psX ps, rX w' tm⟩], as ++ [p2], _, _, _, _, _, _, _, _, rfl, L12.add hw' mok np20 hp2 ⟨(ne_of_none L11.hm np2).symm, off2.1, off2.2.1⟩ npm0 pfpm offpm, (upd_ne ppm).trans (xAll _ _ hp offp), offp, ppm, (upd_ne wapm).trans (xAll _ _ hwz nwa), wapm⟩
      · obtain ⟨ms, as, v5, v6, v7, v8, v9, v10, v11, v12, rfl, L, hp, offp, ppm, hwz, wapm⟩ := z
        have hn5 : ((ws.map sv).take 5).length = 5 := by
          rw [List.length_take, List.length_map, l6]
          rfl
        rw [hn5] at L
        show tRet _ _ [some (.ref st), some (sv n), some (.ref wa), some (.ref D), some (.ref pm), v5, v6, v7, v8, v9, v10, v11, v12] H'
        have c6 : cls6.length = 6 := rfl
        have zc : Ev (tOp rAddS (tOp rAddS (tC (sv cls6)) (tVar 1)) (tC (sv [58]))) [some (.ref st), some (sv n), some (.ref wa), some (.ref D), some (.ref pm), v5, v6, v7, v8, v9, v10, v11, v12] H' (sv (cls6 ++ n ++ [58])) := by
          have a1 := Hy.ev_addS (σ := [some (.ref st), some (sv n), some (.ref wa), some (.ref D), some (.ref pm), v5, v6, v7, v8, v9, v10, v11, v12]) (H := H') (a := cls6) (b := n) (ta := tC (sv cls6)) (tb := tVar 1) (by show _ ≤ 30000; omega) ev_c (ev_var rfl)
          exact Hy.ev_addS (b := [58]) (tb := tC (sv [58])) (by show _ ≤ 30000; simp only [List.length_append, List.length_cons, List.length_nil]; omega) a1 ev_c
        have zh : EvL (tLst (tCons (tOp rAddS (tOp rAddS (tC (sv cls6)) (tVar 1)) (tC (sv [58]))) tNil)) [some (.ref st), some (sv n), some (.ref wa), some (.ref D), some (.ref pm), v5, v6, v7, v8, v9, v10, v11, v12] H' (tv [.cls n []]) := el_lst (ea_cons (Evl.ev_is zc (by rw [cls_eq])) ea_nil) (show 1 ≤ 100000 by decide)
        unfold tRet tTup tCons
        dsimp only
        refine zh H' (Ex.refl H') _ fun ph H5 nph e5 hph => ?_
        refine ⟨_, rfl, _, rfl, (show 3 ≤ sizeLine by decide), fun pt npt => ?_⟩
        have L5 := L.same e5 (dr_off offpm) (dr_off offD)
        have nph0 := L.ex.free nph (dr_off (L.dr.off nph))
        have hptne := fun {b : Addr} {o : HO} (h : H5 b = some o) => ne_of_none h npt
        refine q fs ms as pt ph D pm _ fo L.mo fw L.mw ⟨nph0, ?_, npm0, fun a ha => (L.af a ha).1⟩ (L5.ex.puts (L5.ex.free npt (dr_off (L5.dr.off npt)))) (L5.dr.put (L5.dr.off npt)) upd_same ((upd_ne (hptne hph)).trans hph) ((upd_ne (hptne L5.hf)).trans L5.hf) ((upd_ne (hptne L5.hm)).trans L5.hm) (L5.hp.ex (Ex.new npt))
        exact nD0
end
end Hv
/-! module HvTell -/
set_option maxHeartbeats 8000000
/-! text * n; what is told of texts; lists as values. -/
namespace Hv
open PySem PySem.Spec PyProof.Rows L2 Evl Hc Hs Hy Hz
/-- text * n: what is known of it -/
def rMulS : R2 := fun x y H Q => ∃ (L : List Nat) (n : Int), x = .str (S L) ∧ y = .int n ∧ 2 ≤ n ∧ n ≤ 10000 ∧ 1 ≤ L.length ∧ L.length ≤ 10 ∧ ∀ M : List Nat, M.length = L.length * n.toNat → (∀ c ∈ M, c ∈ L) → Q (.str (S M)) H
theorem fold_app (x : Array Nat) : ∀ (n : Nat) (acc : Array Nat), ((List.replicate n x).foldl (· ++ ·) acc).toList = acc.toList ++ (List.replicate n x.toList).flatten
  | 0, acc => by simp
  | n + 1, acc => by
    rw [List.replicate_succ, List.foldl_cons, fold_app x n, List.replicate_succ, List.flatten_cons]
    simp
theorem op_mulS {X : Cx} : OpR X (binaryOp .Mult) rMulS := by
  intro pins s σ H x y v u Q I rx ry h
  obtain ⟨L, n, rfl, rfl, n2, n4, l1, l10, q⟩ := h
  obtain ⟨t, rfl⟩ := rx
  obtain ⟨t', rfl⟩ := ry
  have hm : L.length * n.toNat ≤ 100000 := Nat.le_trans (Nat.mul_le_mul l10 (show n.toNat ≤ 10000 by omega)) (by decide)
  have hlong : Builtin.Str.tooLong ((S L).length * n.toNat) = false := by
    rw [S_len]
    have h0 : ¬ L.length * n.toNat > 2 ^ 24 := by
      generalize L.length * n.toNat = z at hm
      omega
    simpa [Builtin.Str.tooLong, sizeLine] using h0
  refine P.mul_str (by rw [decide_eq_false (by omega), decide_eq_false (by omega)]; rfl) (fun _ _ => ?_) (fun _ _ => hlong) ?_
  · rw [S_len]
    have h1 : (L.length : Int) ≤ (2 ^ 63 - 1) / n := by
      rw [Int.le_ediv_iff_mul_le (by omega)]
      have h2 : (L.length : Int) * n ≤ 10 * 10000 := Int.mul_le_mul (by omega) n4 (by omega) (by omega)
      omega
    omega
  · rw [if_neg (by omega), if_neg (by
      rw [Bool.or_eq_true]
      rintro (z | z)
      · have := eq_of_beq z
        omega
      · have := eq_of_beq z
        rw [S_len] at this
        omega)]
    obtain ⟨M, hM⟩ : ∃ M, M = ((List.replicate n.toNat (S L).cps).foldl (· ++ ·) #[]).toList := ⟨_, rfl⟩
    have e0 := fold_app (S L).cps n.toNat #[]
    have hflat : M = (List.replicate n.toNat L).flatten := by
      rw [hM, e0]
      simp
    have e1 : (⟨(List.replicate n.toNat (S L).cps).foldl (· ++ ·) #[]⟩ : Str) = S M := by rw [hM]
    rw [e1]
    have hl : M.length = L.length * n.toNat := by
      rw [hflat, List.length_flatten, List.map_replicate, List.sum_replicate_nat, Nat.mul_comm]
    refine ⟨by rw [S_len, hl]; exact sz_of hm, .str (S M), H, I.tok _, ⟨_, rfl⟩, q M hl fun c hc => ?_⟩
    rw [hflat] at hc
    obtain ⟨l, hl1, hl2⟩ := List.mem_flatten.mp hc
    rw [(List.mem_replicate.mp hl1).2] at hl2
    exact hl2
theorem cut_to (L : List Nat) (k : Nat) : cutS (S L) none (some (k : Int)) = S (L.take k) := by
  have := cut_nn L 0 k
  unfold cutS at this ⊢
  rw [HT.sIx_none]
  rw [show ((0 : Nat) : Int) = 0 from rfl] at this
  have e0 : HT.sIx (S L).length 0 (some (0 : Int)) = 0 := by
    rw [show (0 : Int) = ((0 : Nat) : Int) from rfl, HT.sIx_nat]
    exact Nat.zero_min _
  rw [e0] at this
  rw [this]
  rfl
section
variable {K : PySem.W.Frag} {σ : L2.St} {H : Hp} {te ta tb tl : TE}
/-- a list that stands and one more -/
theorem el_catVV {xs ys : List V} {l b : Addr} (ha : Ev ta σ H (.ref l)) (hl : H l = some (.lst xs)) (hb : Ev tb σ H (.ref b)) (hy : H b = some (.lst ys)) (hz : xs.length + ys.length ≤ 100000) : EvL (tOp rCat ta tb) σ H (xs ++ ys) := fun H1 e Q q =>
  ha H1 e _ fun H2 e2 => hb H2 (e.trans e2) _ fun H3 e3 => ⟨l, b, xs, ys, rfl, rfl, ((e.trans e2).trans e3) _ _ hl, ((e.trans e2).trans e3) _ _ hy, sz_of hz, fun t nt => q t _ (fresh_back (e2.trans e3) nt) ((e2.trans e3).trans (Ex.new nt)) upd_same⟩
theorem el_catVL {xs ys : List V} {l : Addr} (ha : Ev ta σ H (.ref l)) (hl : H l = some (.lst xs)) (hb : EvL tb σ H ys) (hz : xs.length + ys.length ≤ 100000) : EvL (tOp rCat ta tb) σ H (xs ++ ys) := fun H1 e Q q =>
  ha H1 e _ fun H2 e2 => hb H2 (e.trans e2) _ fun r H3 n2 e3 h2 => ⟨l, r, xs, ys, rfl, rfl, ((e.trans e2).trans e3) _ _ hl, h2, sz_of hz, fun t nt => q t _ (fresh_back (e2.trans e3) nt) ((e2.trans e3).trans (Ex.new nt)) upd_same⟩
theorem el_catLV {xs ys : List V} {b : Addr} (ha : EvL ta σ H xs) (hb : Ev tb σ H (.ref b)) (hy : H b = some (.lst ys)) (hz : xs.length + ys.length ≤ 100000) : EvL (tOp rCat ta tb) σ H (xs ++ ys) := fun H1 e Q q =>
  ha H1 e _ fun l H2 n2 e2 h2 => hb H2 (e.trans e2) _ fun H3 e3 => ⟨l, b, xs, ys, rfl, rfl, e3 _ _ h2, ((e.trans e2).trans e3) _ _ hy, sz_of hz, fun t nt => q t _ (fresh_back (e2.trans e3) nt) ((e2.trans e3).trans (Ex.new nt)) upd_same⟩
theorem el_flat {a : Addr} {as : List Addr} {lss : List (List L6)} (h : Ev tl σ H (.ref a)) (hx : SqL K H a (as.map V.ref)) (hp : PAt lss as H) (hz : lss.flatten.length ≤ 1000) : EvL (tCall (spFlat K) [] E0 (tCons tl tNil)) σ H (tv lss.flatten) := fun H1 e Q q =>
  h H1 e _ fun H2 e2 => ⟨a, as, lss, rfl, ex_l (e.trans e2) hx, hp.ex (e.trans e2), hz, fun p H3 np e3 hp3 => q p H3 (fresh_back e2 np) (e2.trans e3) hp3⟩
theorem el_flatN {as : List Addr} {lss : List (List L6)} (h : EvL tl σ H (as.map V.ref)) (hp : PAt lss as H) (hz : lss.flatten.length ≤ 1000) : EvL (tCall (spFlat K) [] E0 (tCons tl tNil)) σ H (tv lss.flatten) := fun H1 e Q q =>
  h H1 e _ fun a H2 na e2 ha => ⟨a, as, lss, rfl, sq_of ha, hp.ex (e.trans e2), hz, fun p H3 np e3 hp3 => q p H3 (fresh_back e2 np) (e2.trans e3) hp3⟩
/-- what is told of lines -/
theorem ev_told {C : Cs} {R D CR CT : Addr} {ls : List L6} {stop : Option Nat} (hrc : CR ≠ CT) (T : Told ls stop) (h : EvL tl σ H (tv ls)) : Ev (tCall (spTold6 CR (sp6 C R D CR CT)) [] E0 (tCons tl tNil)) σ H (optI stop) := fun H1 e Q q =>
  h H1 e _ fun p H2 np e2 hp => by
    obtain ⟨g1, g2⟩ := lines_good (Ls := ls.map tx6) (by simpa using T.ne) (fun l hl => by
      obtain ⟨x, hx, rfl⟩ := List.mem_map.mp hl
      exact T.good x hx) (by rw [List.length_map]; exact T.few)
    exact ⟨p, ls.map tx6, stop, rfl, hp, g1, g2, fun k hk => by rw [List.length_map]; exact T.lt k hk, fun H' _ => mach6 hrc T.runs, fun H' e' => q H' (e2.trans e')⟩
abbrev rNotNon : R2 := fun x y H Q => y = .non ∧ Q (.bl (!decide (x = .non))) H
abbrev rIsNon : R2 := fun x y H Q => y = .non ∧ Q (.bl (decide (x = .non))) H
theorem et_notNone (h : Ev te σ H .non) : EvT (tTest (tOp rNotNon te (tC .non))) σ H false :=
  et_test (Evl.ev_is (ev_op h ev_c (z := .bl (!decide (V.non = V.non))) fun H2 e Q q => ⟨rfl, q H2 (Ex.refl H2)⟩) rfl)
theorem ev_isNone (h : Ev te σ H .non) : Ev (tOp rIsNon te (tC .non)) σ H (.bl true) :=
  Evl.ev_is (ev_op h ev_c (z := .bl (decide (V.non = V.non))) fun H2 e Q q => ⟨rfl, q H2 (Ex.refl H2)⟩) rfl
theorem et_neSame {i j : Int} (h1 : Ev ta σ H (.int i)) (h2 : Ev tb σ H (.int j)) (e : i = j) : EvT (tTest (tOp rNe ta tb)) σ H false := by
  subst e
  exact et_test (Evl.ev_is (ev_op h1 h2 (rv_ne rfl)) (by simp))
end
theorem eight_facts {w M : List Nat} (hw : isWord w = true) (hl : M.length = 8) (hm : ∀ c ∈ M, c ∈ [113]) : isWord ((w ++ M).take 8) = true ∧ isWord ((w ++ M).take 9) = false ∧ ((w ++ M).take 9).length = 9 ∧ (∀ c ∈ (w ++ M).take 9, c ∈ smalls) := by
  obtain ⟨h1, h2, h3⟩ := word_all hw
  have hs : ∀ c ∈ w ++ M, c ∈ smalls := fun c hc => by
    rcases List.mem_append.mp hc with hc | hc
    · exact h1 c hc
    · rw [List.mem_singleton.mp (hm c hc)]
      decide
  have l8 : ((w ++ M).take 8).length = 8 := by
    rw [List.length_take, List.length_append, hl]
    omega
  have l9 : ((w ++ M).take 9).length = 9 := by
    rw [List.length_take, List.length_append, hl]
    omega
  refine ⟨?_, ?_, l9, fun c hc => hs c (List.mem_of_mem_take hc)⟩
  · unfold isWord areSmall
    rw [l8]
    have hr : (resv.contains ((w ++ M).take 8)) = false := by
      rw [Bool.eq_false_iff]
      intro z
      have : (w ++ M).take 8 ∈ resv := by simpa using z
      have hh : ∀ m ∈ resv, m.length ≤ 7 := by decide
      have := hh _ this
      omega
    rw [hr]
    simp only [Bool.and_eq_true, List.all_eq_true, decide_eq_true_eq]
    exact ⟨⟨⟨by decide, by decide⟩, fun c hc => hs c (List.mem_of_mem_take hc)⟩, rfl⟩
  · unfold isWord
    rw [l9]
    rfl
end Hv
/-! module HvRight -/
set_option maxHeartbeats 8000000
/-! _law_right. -/
namespace Hv
open PySem PySem.Spec PyProof.Rows L2 Evl Hc Hs Hy Hz
def spRight : Sp := fun vs H Q _ => ∃ (st g sm wa na : Addr) (n : Nm) (ws ns : List Nm), vs = [.ref st, .ref wa, .ref na] ∧ DrawSt H st g sm ∧ H wa = some (.lst (ws.map sv)) ∧ ¬ Dr st g wa ∧ H na = some (.lst (ns.map sv)) ∧ ¬ Dr st g na ∧ ns[0]? = some n ∧ GoodNm n ∧ ws.length = 6 ∧ ws.Nodup ∧ (∀ w ∈ ws, isWord w = true) ∧
  ∀ H', Hc.Ext (Dr st g) H H' → DrawSt H' st g sm → Q (.bl true) H'
abbrev nLRight : List Str := ["_law_state", "_law_words", "_law_names", "_law_head", "_law_fields", "_law_methods", "_law_lines", "_law_late", "_law_many", "_law_above", "_law_at", "_law_longer", "_law_wide", "_law_long", "_law_name", "_law_one", "_law_word_here"]
theorem scLRight : FnScope nLRight ["_law_state", "_law_words", "_law_names"] (defScope sLRight) := ⟨rfl, rfl, rfl, by decide +kernel, rfl, by decide +kernel, by decide +kernel⟩
/-- what stays while the law tells texts -/
structure RB (st g sm wa ph pf pm : Addr) (n : Nm) (ws : List Nm) (fs : List Fl) (ms : List Mt) (as : List Addr) (H : Hp) : Prop where
  dr : DrawSt H st g sm
  hw : H wa = some (.lst (ws.map sv))
  hh : H ph = some (.lst (tv [.cls n []]))
  hf : H pf = some (.lst (tv (fs.map fL)))
  hm : H pm = some (.lst (as.map V.ref))
  hp : PAt (ms.map mL) as H
  ow : ¬ Dr st g wa
  oh : ¬ Dr st g ph
  of_ : ¬ Dr st g pf
  om : ¬ Dr st g pm
  oa : ∀ a ∈ as, ¬ Dr st g a
section
variable {st g sm wa ph pf pm : Addr} {n : Nm} {ws : List Nm} {fs : List Fl} {ms : List Mt} {as : List Addr} {H H' : Hp}
theorem RB.ext (B : RB st g sm wa ph pf pm n ws fs ms as H) (e : Hc.Ext (Dr st g) H H') (d : DrawSt H' st g sm) : RB st g sm wa ph pf pm n ws fs ms as H' :=
  ⟨d, e _ _ B.hw B.ow, e _ _ B.hh B.oh, e _ _ B.hf B.of_, e _ _ B.hm B.om, B.hp.ext e B.oa, B.ow, B.oh, B.of_, B.om, B.oa⟩
theorem RB.same (B : RB st g sm wa ph pf pm n ws fs ms as H) (e : Ex H H') : RB st g sm wa ph pf pm n ws fs ms as H' := B.ext (ext_ex e) (B.dr.same e)
end
theorem PAt.some {lss : List (List L6)} {as : List Addr} {H : Hp} (h : PAt lss as H) {a : Addr} (ha : a ∈ as) : ∃ l, H a = some (.lst (tv l)) := by
  obtain ⟨i, hi, e⟩ := List.getElem_of_mem ha
  have hl : i < lss.length := by rw [← h.1]; exact hi
  exact ⟨lss[i], h.2 i _ a (List.getElem?_eq_getElem hl) (by rw [List.getElem?_eq_getElem hi, e])⟩
theorem tv_lines (n : Nm) (fs : List Fl) (ms : List Mt) : tv [.cls n []] ++ tv (fs.map fL) ++ tv (ms.map mL).flatten = tv (lines1 n fs ms) := by
  unfold lines1
  rw [tv_app, tv_app, List.flatMap_def]
theorem flat_le1 {ms : List Mt} (h : ms.length ≤ 5) : (ms.map mL).flatten.length ≤ 1000 := by
  rw [← List.flatMap_def, len_flat]
  omega
theorem ev_toldV {K : PySem.W.Frag} {σ : L2.St} {H : Hp} {tl : TE} {C : Cs} {R D CR CT l : Addr} {ls : List L6} {stop : Option Nat} (hrc : CR ≠ CT) (T : Told ls stop) (h : Ev tl σ H (.ref l)) (hl : H l = some (.lst (tv ls))) : Ev (tCall (spTold6 CR (sp6 C R D CR CT)) [] E0 (tCons tl tNil)) σ H (optI stop) := fun H1 e Q q =>
  h H1 e _ fun H2 e2 => by
    obtain ⟨g1, g2⟩ := lines_good (Ls := ls.map tx6) (by simpa using T.ne) (fun l hl => by
      obtain ⟨x, hx, rfl⟩ := List.mem_map.mp hl
      exact T.good x hx) (by rw [List.length_map]; exact T.few)
    exact ⟨l, ls.map tx6, stop, rfl, (e.trans e2) _ _ hl, g1, g2, fun k hk => by rw [List.length_map]; exact T.lt k hk, fun H' _ => mach6 hrc T.runs, fun H' e' => q H' (e2.trans e')⟩
theorem ev_at {K : PySem.W.Frag} {σ : L2.St} {H : Hp} {te : TE} {a : Addr} {ws : List Nm} {w : Nm} {j : Nat} (h : Ev te σ H (.ref a)) (ha : H a = some (.lst (ws.map sv))) (hw : ws[j]? = some w) : Ev (tOp (rIxL K) te (tC (.int (j : Int)))) σ H (sv w) :=
  ev_op h ev_c (rv_ixL (sq_of ha) (atI_nat (j := j) (by rw [List.getElem?_map, hw]; rfl)))
theorem ev_q8 {σ : L2.St} {H : Hp} : Ev (tOp rMulS (tC (sv [113])) (tC (.int 8))) σ H (sv (List.replicate 8 113)) := fun H1 e Q q =>
  ⟨[113], 8, rfl, rfl, by decide, by decide, by decide, by decide, fun M hl hm => by
    have e1 : M = List.replicate 8 113 := List.eq_replicate_iff.mpr ⟨hl, fun c hc => List.mem_singleton.mp (hm c hc)⟩
    rw [e1]
    exact q H1 (Ex.refl H1)⟩
theorem def_eq (w : List Nat) : (bl4 ++ defM ++ [32]) ++ w ++ [40, 41, 58] = tx6 (.mem (mX w defM [])) := by
  show _ = bl4 ++ (defM ++ [32] ++ (w ++ [40] ++ ([] ++ closeD)))
  simp [closeD]
theorem late_eq (w : List Nat) : bl4 ++ w ++ [58, 32, 91, 46, 93] = tx6 (fL ⟨w, kd3⟩) := by
  show _ = bl4 ++ (w ++ colonD ++ kd3)
  simp [colonD, kd3]
def wide4 (ws : List Nm) : List (Nm × Nm) := (ws.take 4).map fun w => (w, kd1)
theorem wide_pX (ws : List Nm) : (wide4 ws).map pX = (ws.take 4).map fun w => w ++ [58, 32, 46] := by
  unfold wide4
  rw [List.map_map]
  refine List.map_congr_left fun w _ => ?_
  show w ++ colonD ++ kd1 = _
  simp [colonD, kd1]
theorem wide_ok {ws : List Nm} (wd : ∀ w ∈ ws, isWord w = true) : ∀ p ∈ wide4 ws, PaOk p := fun p hp => by
  obtain ⟨w, hw, rfl⟩ := List.mem_map.mp hp
  exact pa_ok (wd w (List.mem_of_mem_take hw)) (by simp)
section
variable {P : Program} {w : World} {K : PySem.W.Frag} {mg : Str → Option Value} {base : Heap}
theorem ok_right {f : Addr} {fd : FuncData} {k : Nat} {C : Cs} {R D CR CT : Addr} (F : Fun K "_law_right" "_law_right" sLRight f fd) (T : LawP mg) (hrc : CR ≠ CT) (rD : Rd P w K mg base "_law_draw" k ["_law_state", "_law_many"] spDraw) (rU : Rd P w K mg base "_law_full" k ["_law_state", "_law_name", "_law_words"] (spFull K)) (rFl : Rd P w K mg base "_law_flat" k ["_law_pieces"] (spFlat K))
    (rT : Rd P w K mg base "_law_told" k ["_law_lines"] (spTold6 CR (sp6 C R D CR CT))) : FnOk P w K mg base CX0 (k + 1) f fd ["_law_state", "_law_words", "_law_names"] spRight := by
  refine F.ok scLRight (fun vs H Q E h => ?_) (fun cdv A outer s H vs Q E hr h => ?_)
  · obtain ⟨st, g, sm, wa, na, n, ws, ns, rfl, _⟩ := h
    rfl
  · obtain ⟨st, g, sm, wa, na, n, ws, ns, rfl, hd, hwa, nwa, hna, nna, hn0, gn, l6, nd, wd, q⟩ := h
    refine ⟨_, pss_cons (ps_asg (pe_rd rU hr (Nat.le_refl _) (by rfl) (pa_cons (pv 0) (pa_cons (pe_ix ix_list (pv 2) pe_int (fun _ _ => rfl)) (pa_cons (pv 1) pa_nil)))) (pg_tup (by rfl) (pgs_cons (pg_name (i := 3) scLRight.nd rfl (.inl rfl)) (pgs_cons (pg_name (i := 4) scLRight.nd rfl (.inl rfl)) (pgs_cons (pg_name (i := 5) scLRight.nd rfl (.inl rfl)) pgs_nil)))))
      (pss_cons (ps_set (i := 6) scLRight.nd rfl (.inl rfl) (pe_op op_cat (pe_op op_cat (pv 3) (pv 4)) (pe_rd rFl hr (Nat.le_refl _) (by rfl) (pa_cons (pv 5) pa_nil))))
      (pss_cons (ps_if (pt_cmpR op_notN (pe_rd rT hr (Nat.le_refl _) (by rfl) (pa_cons (pv 6) pa_nil)) pe_non (nomark _)) (pss_one (ps_ret pe_bl)) pss_nil)
      (pss_cons (ps_set (i := 7) scLRight.nd rfl (.inl rfl) (pe_op op_add_str (pe_op op_add_str pe_str (pe_ix ix_list (pv 1) pe_int (fun _ _ => rfl))) pe_str))
      (pss_cons (ps_if (pt_cmpR op_ne (pe_rd rT hr (Nat.le_refl _) (by rfl) (pa_cons (pe_op op_cat (pe_op op_cat (pe_op op_cat (pv 3) (pv 4)) (pe_lst (pa_cons (pv 7) pa_nil))) (pe_rd rFl hr (Nat.le_refl _) (by rfl) (pa_cons (pv 5) pa_nil))) pa_nil)) pe_int (nomark _)) (pss_one (ps_ret pe_bl)) pss_nil)
      (pss_cons (ps_set (i := 8) scLRight.nd rfl (.inl rfl) (pe_rd rD hr (Nat.le_refl _) (by rfl) (pa_cons (pv 0) (pa_cons pe_int pa_nil))))
      (pss_cons (ps_set (i := 9) scLRight.nd rfl (.inl rfl) (pe_op op_cat (pe_op op_cat (pv 3) (pe_slice sl_list (pv 4) po_none (po_some (pv 8)))) (pe_rd rFl hr (Nat.le_refl _) (by rfl) (pa_cons (pe_slice sl_list (pv 5) po_none (po_some (pv 8))) pa_nil))))
      (pss_cons (ps_for PassesOwn.never rfl (pi_range1 (by rfl) T.rng (pa_cons (pe_callB call_len_seq (by rfl) T.len PySem.boot_len (pa_cons (pv 5) pa_nil)) pa_nil)) (pg_name (i := 10) scLRight.nd rfl (.inl rfl))
        (pss_cons (ps_setLc (i := 11) (own := [("_law_one", 15)]) (g := gName 15) (tt := tYes) rfl scLRight.nd rfl rfl (sw_true rfl rfl rfl rfl) (pi_list (pv 5)) (blkOk_by (N := nLRight) (sc := defScope sLRight) (by decide +kernel)) (fun _ _ _ _ _ => pg_name (i := 15) scLRight.nd rfl (.inl rfl)) (fun _ _ _ _ _ => pts_nil)
          (fun _ _ _ _ _ => pe_callTy (show CallR _ (.type "list") (rListS K) from call_list_of) (by rfl) T.lst boot_list' (pa_cons (pv 15) pa_nil)))
        (pss_cons (ps_expr (pe_bm PySem.F.plainAttrs_list PySem.F.slot_list_append PySem.F.type_list_append mt_append (pe_ix ix_list (pv 11) (pv 10) (fun _ _ => rfl)) (pa_cons (pe_ix ix_list (pe_ix ix_list (pv 11) (pv 10) (fun _ _ => rfl)) pe_int (fun _ _ => rfl)) pa_nil)))
        (pss_one (ps_if (pt_cmpR op_ne (pe_rd rT hr (Nat.le_refl _) (by rfl) (pa_cons (pe_op op_cat (pe_op op_cat (pv 3) (pv 4)) (pe_rd rFl hr (Nat.le_refl _) (by rfl) (pa_cons (pv 11) pa_nil))) pa_nil)) (pe_op op_add (pe_op op_add pe_int (pe_op op_mul pe_int (pv 10))) pe_int) (nomark _)) (pss_one (ps_ret pe_bl)) pss_nil)))))
      (pss_cons (ps_if (pt_cmpR op_ne (pe_rd rT hr (Nat.le_refl _) (by rfl) (pa_cons (pe_op op_cat (pv 6) (pe_lst (pa_cons (pe_op op_add_str (pe_op op_add_str pe_str (pe_ix ix_list (pv 1) pe_int (fun _ _ => rfl))) pe_str) pa_nil))) pa_nil)) (pe_callB call_len_seq (by rfl) T.len PySem.boot_len (pa_cons (pv 6) pa_nil)) (nomark _)) (pss_one (ps_ret pe_bl)) pss_nil)
      (pss_cons (ps_set (i := 12) scLRight.nd rfl (.inl rfl) (pe_op op_add_str (pe_op op_add_str (pe_op op_add_str (pe_op op_add_str pe_str (pe_ix ix_list (pv 1) pe_int (fun _ _ => rfl))) pe_str) (pe_join pe_str (pe_lc (own := [("_law_word_here", 16)]) (g := gName 16) (tt := tYes) rfl scLRight.nd (pi_list (pe_slice sl_list (pv 1) po_none (po_some pe_int))) (blkOk_by (N := nLRight) (sc := defScope sLRight) (by decide +kernel)) (fun _ _ _ _ _ => pg_name (i := 16) scLRight.nd rfl (.inl rfl)) (fun _ _ _ _ _ => pts_nil)
          (fun _ _ _ _ _ => pe_op op_add_str (pv 16) pe_str)))) pe_str))
      (pss_cons (ps_if (pt_cmpR op_ne (pe_rd rT hr (Nat.le_refl _) (by rfl) (pa_cons (pe_op op_cat (pv 9) (pe_lst (pa_cons (pv 12) (pa_cons (pe_op op_add_str (pe_op op_add_str pe_str (pe_ix ix_list (pv 1) pe_int (fun _ _ => rfl))) pe_str) pa_nil)))) pa_nil)) (pe_callB call_len_seq (by rfl) T.len PySem.boot_len (pa_cons (pv 9) pa_nil)) (nomark _)) (pss_one (ps_ret pe_bl)) pss_nil)
      (pss_cons (ps_set (i := 13) scLRight.nd rfl (.inl rfl) (pe_op op_add_str (pe_op op_add_str pe_str (pe_slice sl_str (pe_op op_add_str (pe_ix ix_list (pv 1) pe_int (fun _ _ => rfl)) (pe_op op_mulS pe_str pe_int)) po_none (po_some pe_int))) pe_str))
      (pss_cons (ps_set (i := 14) scLRight.nd rfl (.inl rfl) (pe_slice sl_str (pe_op op_add_str (pe_ix ix_list (pv 1) pe_int (fun _ _ => rfl)) (pe_op op_mulS pe_str pe_int)) po_none (po_some pe_int)))
      (pss_cons (ps_if (pt_cmpR op_ne (pe_rd rT hr (Nat.le_refl _) (by rfl) (pa_cons (pe_op op_cat (pv 9) (pe_lst (pa_cons (pv 13) pa_nil))) pa_nil)) (pe_callB call_len_seq (by rfl) T.len PySem.boot_len (pa_cons (pv 9) pa_nil)) (nomark _)) (pss_one (ps_ret pe_bl)) pss_nil)
      (pss_one (ps_ret (pe_or (pe_cmpR (show OpR _ (compareOp .In) (rIn K false) from op_in_seq) (pv 14) (pe_slice sl_list (pv 1) po_none (po_some (pv 8))) (by rfl)) (pe_one (pe_cmpR op_isN (pe_rd rT hr (Nat.le_refl _) (by rfl) (pa_cons (pe_op op_cat (pv 9) (pe_lst (pa_cons (pe_op op_add_str (pe_op op_add_str pe_str (pv 14)) pe_str) pa_nil))) pa_nil)) pe_non (nomark _))))))))))))))))))), ?_⟩
    -- the text of one class
    obtain ⟨w5, hw5⟩ : ∃ w5, ws[5]? = some w5 := ⟨_, List.getElem?_eq_getElem (by omega)⟩
    obtain ⟨w0, hw0⟩ : ∃ w0, ws[0]? = some w0 := ⟨_, List.getElem?_eq_getElem (by omega)⟩
    have ww5 := wd w5 (List.mem_of_getElem? hw5)
    have ww0 := wd w0 (List.mem_of_getElem? hw0)
    have w58 := (word_all ww5).2.2
    have w08 := (word_all ww0).2.2
    have b4 : bl4.length = 4 := rfl
    have dm3 : defM.length = 3 := rfl
    refine q_asgG ?_
    refine (ea_cons (ev_var (σ := L2.start nLRight [V.ref st, V.ref wa, V.ref na]) (H := H) (i := 0) rfl) (ea_cons (ev_at (K := K) (j := 0) (ev_var rfl) hna hn0) (ea_cons (ev_var rfl) ea_nil))) H (Ex.refl H) _ fun H1 e1 => ?_
    refine ⟨st, g, sm, n, wa, ws, rfl, hd.same e1, e1 _ _ hwa, nwa, l6, nd, wd, gn.len.2, fun fs ms as tp ph pf pm H2 fo mo fw mw fr e2 d2 htp hh hf hm hp => ?_⟩
    obtain ⟨f1, f2, f3, f4⟩ := fr
    have d1 := hd.same e1
    have T1 : Txt1 n ws fs ms := ⟨gn, l6, nd, wd, fo, mo, fw, mw⟩
    have lf := T1.f4
    have lm := T1.m5
    have B2 : RB st g sm wa ph pf pm n ws fs ms as H2 := ⟨d2, e2 _ _ (e1 _ _ hwa) nwa, hh, hf, hm, hp, nwa, dr_off (d1.off f1), dr_off (d1.off f2), dr_off (d1.off f3), fun a ha => dr_off (d1.off (f4 a ha))⟩
    have x2 : Hc.Ext (Dr st g) H H2 := (ext_ex e1).trans e2
    refine ⟨tp, _, rfl, st_of htp, rfl, _, _, rfl, _, _, rfl, _, _, rfl, rfl, ?_⟩
    show tSeq _ _ _ [some (.ref st), some (.ref wa), some (.ref na), some (.ref ph), some (.ref pf), some (.ref pm), none, none, none, none, none, none, none, none, none, none, none] H2
    -- the whole text
    refine q_asgL (xs := tv (lines1 n fs ms)) ?_ fun pl H3 npl e3 hpl => ?_
    · have z := Hs.el_cat (el_catVV (ev_var (σ := [some (.ref st), some (.ref wa), some (.ref na), some (.ref ph), some (.ref pf), some (.ref pm), none, none, none, none, none, none, none, none, none, none, none]) (H := H2) (i := 3) rfl) B2.hh (ev_var (i := 4) rfl) B2.hf (by rw [tv_len, tv_len, List.length_map, lf]; show 1 + 4 ≤ 100000; decide)) (el_flat (K := K) (tl := tVar 5) (ev_var rfl) (sq_of B2.hm) B2.hp (flat_le1 (by omega))) (by
        have := flat_le1 (ms := ms) (by omega)
        rw [List.length_append, tv_len, tv_len, tv_len, List.length_map, lf, List.length_singleton]
        omega)
      rw [tv_lines] at z
      exact z
    have B3 := B2.same e3
    have opl : ¬ Dr st g pl := dr_off (B2.dr.off npl)
    show tSeq _ _ _ [some (.ref st), some (.ref wa), some (.ref na), some (.ref ph), some (.ref pf), some (.ref pm), some (.ref pl), none, none, none, none, none, none, none, none, none, none] H3
    refine q_when (b := false) (et_notNone (ev_toldV (K := K) hrc T1.right (ev_var rfl) hpl)) (fun z => nomatch z) fun _ H4 e4 => ?_
    have B4 := B3.same e4
    -- a field too many
    refine q_asg (v := sv (tx6 (fL ⟨w5, kd3⟩))) ?_ fun H5 e5 => ?_
    · have a1 := Hy.ev_addS (σ := [some (.ref st), some (.ref wa), some (.ref na), some (.ref ph), some (.ref pf), some (.ref pm), some (.ref pl), none, none, none, none, none, none, none, none, none, none]) (H := H4) (a := bl4) (b := w5) (ta := tC (sv bl4)) (tb := tOp (rIxL K) (tVar 1) (tC (.int 5))) (by show _ ≤ 30000; omega) ev_c (ev_at (K := K) (j := 5) (ev_var rfl) B4.hw hw5)
      have a2 := Hy.ev_addS (b := [58, 32, 91, 46, 93]) (tb := tC (sv [58, 32, 91, 46, 93])) (by show _ ≤ 30000; simp only [List.length_append, List.length_cons, List.length_nil]; omega) a1 ev_c
      exact Evl.ev_is a2 (by rw [late_eq])
    have B5 := B4.same e5
    show tSeq _ _ _ [some (.ref st), some (.ref wa), some (.ref na), some (.ref ph), some (.ref pf), some (.ref pm), some (.ref pl), some (sv (tx6 (fL ⟨w5, kd3⟩))), none, none, none, none, none, none, none, none, none] H5
    refine q_when (b := false) (et_neSame (i := 5) (j := 5) (ev_told (ls := ([.cls n []] ++ fs.map fL) ++ fL ⟨w5, kd3⟩ :: ms.flatMap mL) hrc (T1.late ww5) ?_) ev_c rfl) (fun z => nomatch z) fun _ H6 e6 => ?_
    · have z := Hs.el_cat (Hs.el_cat (el_catVV (ev_var (σ := [some (.ref st), some (.ref wa), some (.ref na), some (.ref ph), some (.ref pf), some (.ref pm), some (.ref pl), some (sv (tx6 (fL ⟨w5, kd3⟩))), none, none, none, none, none, none, none, none, none]) (H := H5) (i := 3) rfl) B5.hh (ev_var (i := 4) rfl) B5.hf (by rw [tv_len, tv_len, List.length_map, lf]; show 1 + 4 ≤ 100000; decide)) (el_lst (ea_cons (ev_var (i := 7) rfl) ea_nil) (show 1 ≤ 100000 by decide)) (by
          rw [List.length_append, tv_len, tv_len, List.length_map, lf]
          show 1 + 4 + 1 ≤ 100000
          decide)) (el_flat (K := K) (tl := tVar 5) (ev_var rfl) (sq_of B5.hm) B5.hp (flat_le1 (by omega))) (by
        have := flat_le1 (ms := ms) (by omega)
        rw [List.length_append, List.length_append, tv_len, tv_len, tv_len, List.length_map, lf, List.length_singleton, List.length_singleton]
        omega)
      have e : tv [.cls n []] ++ tv (fs.map fL) ++ [sv (tx6 (fL ⟨w5, kd3⟩))] ++ tv (ms.map mL).flatten = tv (([.cls n []] ++ fs.map fL) ++ fL ⟨w5, kd3⟩ :: ms.flatMap mL) := by
        rw [tv_app, tv_app, List.flatMap_def]
        show _ = _ ++ (sv (tx6 (fL ⟨w5, kd3⟩)) :: tv (ms.map mL).flatten)
        simp
      rw [e] at z
      exact z
    have B6 := B5.same e6
    have x6 := x2.trans (ext_ex (((e3.trans e4).trans e5).trans e6))
    -- the first fields and methods
    refine q_asgX ?_
    refine ⟨_, rfl, st, g, sm, 5, rfl, B6.dr, by decide, by decide, fun r H7 r0 r5 e7 d7 => ?_⟩
    obtain ⟨j, rfl⟩ := Int.eq_ofNat_of_zero_le r0
    have j5 : j < 5 := by omega
    have B7 := B6.ext e7 d7
    have hpl7 := e7 _ _ ((((e4.trans e5).trans e6)) _ _ hpl) opl
    show tSeq _ _ _ [some (.ref st), some (.ref wa), some (.ref na), some (.ref ph), some (.ref pf), some (.ref pm), some (.ref pl), some (sv (tx6 (fL ⟨w5, kd3⟩))), some (.int (j : Int)), none, none, none, none, none, none, none, none] H7
    refine q_asgL (xs := tv (lines1 n (fs.take j) (ms.take j))) ?_ fun pa H8 npa e8 hpa => ?_
    · have z := Hs.el_cat (el_catVL (ev_var (σ := [some (.ref st), some (.ref wa), some (.ref na), some (.ref ph), some (.ref pf), some (.ref pm), some (.ref pl), some (sv (tx6 (fL ⟨w5, kd3⟩))), some (.int (j : Int)), none, none, none, none, none, none, none, none]) (H := H7) (i := 3) rfl) B7.hh (el_takeV (K := K) (k := j) (ev_var (i := 4) rfl) (ev_var (i := 8) rfl) (sq_of B7.hf)) (by
          rw [tv_len, List.length_take, tv_len, List.length_map, lf, List.length_singleton]
          omega)) (el_flatN (K := K) (as := as.take j) (lss := (ms.map mL).take j) (by
          have z := el_takeV (K := K) (k := j) (σ := [some (.ref st), some (.ref wa), some (.ref na), some (.ref ph), some (.ref pf), some (.ref pm), some (.ref pl), some (sv (tx6 (fL ⟨w5, kd3⟩))), some (.int (j : Int)), none, none, none, none, none, none, none, none]) (H := H7) (te := tVar 5) (ta := tVar 8) (ev_var (i := 5) rfl) (ev_var (i := 8) rfl) (sq_of B7.hm)
          rw [← List.map_take] at z
          exact z) (B7.hp.take j) (by
          rw [← List.map_take]
          exact flat_le1 (by rw [List.length_take]; omega))) (by
        have := flat_le1 (ms := ms.take j) (by rw [List.length_take]; omega)
        rw [← List.map_take, List.length_append, tv_len, List.length_take, tv_len, tv_len, List.length_map, lf, List.length_singleton]
        omega)
      rw [tv_take, ← List.map_take, ← List.map_take, tv_lines] at z
      exact z
    have B8 := B7.same e8
    have hpl8 := e8 _ _ hpl7
    have opa : ¬ Dr st g pa := dr_off (B7.dr.off npa)
    show tSeq _ _ _ [some (.ref st), some (.ref wa), some (.ref na), some (.ref ph), some (.ref pf), some (.ref pm), some (.ref pl), some (sv (tx6 (fL ⟨w5, kd3⟩))), some (.int (j : Int)), some (.ref pa), none, none, none, none, none, none, none] H8
    -- one row too many
    have l5 : (as.map V.ref).length = 5 := by
      have := B8.hp.1
      rw [List.length_map] at this
      rw [List.length_map]
      omega
    have eva : EvA (tCons (tCB (rLenS K) (tCons (tVar 5) tNil)) tNil) [some (.ref st), some (.ref wa), some (.ref na), some (.ref ph), some (.ref pf), some (.ref pm), some (.ref pl), some (sv (tx6 (fL ⟨w5, kd3⟩))), some (.int (j : Int)), some (.ref pa), none, none, none, none, none, none, none] H8 [.int ((as.map V.ref).length : Int)] := ea_cons (ev_len (K := K) (ev_var rfl) (sq_of B8.hm)) ea_nil
    rw [l5] at eva
    refine q_forR1 (n := (5 : Nat)) eva (by decide) (fun _ σ' H' => ∃ v10 v11, σ' = [some (.ref st), some (.ref wa), some (.ref na), some (.ref ph), some (.ref pf), some (.ref pm), some (.ref pl), some (sv (tx6 (fL ⟨w5, kd3⟩))), some (.int (j : Int)), some (.ref pa), v10, v11, none, none, none, none, none] ∧ Ex H8 H') (fun H9 e9 => ⟨_, _, rfl, e9⟩) (fun i σ' H9 hi z => ?_) (fun σ' H9 z => ?_)
    · obtain ⟨v10, v11, rfl, e9⟩ := z
      have B9 := B8.same e9
      have i5 : i < 5 := by omega
      obtain ⟨mi, hmi⟩ : ∃ mi, ms[i]? = some mi := ⟨_, List.getElem?_eq_getElem (by omega)⟩
      show tSeq _ _ _ [some (.ref st), some (.ref wa), some (.ref na), some (.ref ph), some (.ref pf), some (.ref pm), some (.ref pl), some (sv (tx6 (fL ⟨w5, kd3⟩))), some (.int (j : Int)), some (.ref pa), some (.int (i : Int)), v11, none, none, none, none, none] H9
      refine q_asgX ?_
      refine ⟨_, rfl, pm, rfl, ⟨_, sq_of B9.hm⟩, fun Dl nDl => ?_⟩
      have nDl8 := fresh_back e9 nDl
      refine lc_list (K := K) (xs := as.map V.ref) (fun i H' => ∃ bs : List Addr, bs.length = i ∧ H' Dl = some (.lst (bs.map V.ref)) ∧ PAt ((ms.map mL).take i) bs H' ∧ (∀ b ∈ bs, H8 b = none ∧ b ≠ Dl) ∧ bs.Nodup ∧ Ex H8 H') ⟨[], rfl, upd_same, ⟨rfl, fun i l a x y => by simp at y⟩, (fun b hb => by cases hb), List.nodup_nil, e9.mut nDl8⟩
        (fun i H' _ z => by
          obtain ⟨_, _, _, _, _, _, x⟩ := z
          exact sq_of (x _ _ B8.hm)) (fun ii y H10 hy z => ?_) (fun H10 z => ?_)
      · obtain ⟨bs, bl, hD, hP, bf, bn, e10⟩ := z
        rw [List.getElem?_map] at hy
        obtain ⟨a, ha, rfl⟩ := Option.map_eq_some_iff.mp hy
        have hil : ii < (ms.map mL).length := by
          rw [← B8.hp.1]
          exact (List.getElem?_eq_some_iff.mp ha).1
        have hl : (ms.map mL)[ii]? = some (ms.map mL)[ii] := List.getElem?_eq_getElem hil
        have hA := e10 _ _ (B8.hp.2 ii _ a hl ha)
        refine ⟨Hs.wipe1 _, ?_⟩
        dsimp only [tYes]
        rw [if_pos rfl]
        refine el_list (K := K) (σ := [some (.ref st), some (.ref wa), some (.ref na), some (.ref ph), some (.ref pf), some (.ref pm), some (.ref pl), some (sv (tx6 (fL ⟨w5, kd3⟩))), some (.int (j : Int)), some (.ref pa), some (.int (i : Int)), v11, none, none, none, some (.ref a), none]) (ev_var (i := 15) rfl) (sq_of hA) H10 (Ex.refl H10) _ fun p H11 np e11 hp11 => ?_
        have hD11 := e11 _ _ hD
        have pD : p ≠ Dl := (ne_of_none hD np).symm
        refine ⟨_, hD11, sz_lt (by
          rw [List.length_map, bl]
          rw [List.length_map] at hil
          omega), bs ++ [p], by rw [List.length_append, bl]; rfl, ?_, ?_, ?_, ?_, (e10.trans e11).mut nDl8⟩
        · rw [upd_same, List.map_append]
          rfl
        · rw [take_succ' hl]
          have h1 : PAt ((ms.map mL).take ii) bs (upd H11 Dl (.lst (bs.map V.ref ++ [.ref p]))) := ⟨hP.1, fun j l b x y => (upd_ne (bf b (List.mem_of_getElem? y)).2).trans (e11 _ _ (hP.2 j l b x y))⟩
          exact h1.snoc ((upd_ne pD).trans hp11)
        · intro b hb
          rcases List.mem_append.mp hb with hb | hb
          · exact bf b hb
          · rw [List.mem_singleton.mp hb]
            exact ⟨fresh_back e10 np, pD⟩
        · rw [List.nodup_append]
          refine ⟨bn, by simp, fun b hb c hc => ?_⟩
          rw [List.mem_singleton.mp hc]
          obtain ⟨l, hbl⟩ := hP.some hb
          exact ne_of_none hbl np
      · obtain ⟨bs, bl, hD, hP, bf, bn, e10⟩ := z
        rw [l5] at bl
        rw [List.length_map, List.take_of_length_le (by
          have h1 := B8.hp.1
          simp only [List.length_map] at h1 ⊢
          omega)] at hP
        have B10 := B8.same e10
        obtain ⟨bi, hbi⟩ : ∃ bi, bs[i]? = some bi := ⟨_, List.getElem?_eq_getElem (by omega)⟩
        have hmi' : (ms.map mL)[i]? = some (mL mi) := by rw [List.getElem?_map, hmi]; rfl
        have hB := hP.2 i _ bi hmi' hbi
        obtain ⟨bi8, biD⟩ := bf bi (List.mem_of_getElem? hbi)
        show tSeq _ _ _ [some (.ref st), some (.ref wa), some (.ref na), some (.ref ph), some (.ref pf), some (.ref pm), some (.ref pl), some (sv (tx6 (fL ⟨w5, kd3⟩))), some (.int (j : Int)), some (.ref pa), some (.int (i : Int)), some (.ref Dl), none, none, none, none, none] H10
        have evb : ∀ H', Ex H10 H' → Ev (tOp (rIxL K) (tVar 11) (tVar 10)) [some (.ref st), some (.ref wa), some (.ref na), some (.ref ph), some (.ref pf), some (.ref pm), some (.ref pl), some (sv (tx6 (fL ⟨w5, kd3⟩))), some (.int (j : Int)), some (.ref pa), some (.int (i : Int)), some (.ref Dl), none, none, none, none, none] H' (.ref bi) := fun H' e' => ev_op (ev_var rfl) (ev_var rfl) (rv_ixL (sq_of (e' _ _ hD)) (atI_nat (j := i) (by rw [List.getElem?_map, hbi]; rfl)))
        refine q_app (K := K) (l := bi) (xs := tv (mL mi)) (v := sv (tx6 (.row mi.rx))) hB (evb _ (Ex.refl H10)) (ev_op (evb _ (Ex.refl H10)) ev_c (rv_ixL (sq_of hB) (atI_nat (j := 1) rfl))) (by rw [tv_len, len_mL]; decide) fun H11 e11 => ?_
        have e12 : Ex H8 (upd H11 bi (.lst (tv (mL mi) ++ [sv (tx6 (.row mi.rx))]))) := (e10.trans e11).mut bi8
        have hD12 : (upd H11 bi (.lst (tv (mL mi) ++ [sv (tx6 (.row mi.rx))]))) Dl = some (.lst (bs.map V.ref)) := (upd_ne biD.symm).trans (e11 _ _ hD)
        have hP12 : PAt ((ms.map mL).set i (mL mi ++ [.row mi.rx])) bs (upd H11 bi (.lst (tv (mL mi) ++ [sv (tx6 (.row mi.rx))]))) := by
          refine ⟨by rw [List.length_set]; exact hP.1, fun ii l b x y => ?_⟩
          by_cases hii : ii = i
          · subst hii
            have : b = bi := by rw [hbi] at y; exact (Option.some.inj y).symm
            subst this
            have hil : ii < (ms.map mL).length := (List.getElem?_eq_some_iff.mp hmi').1
            rw [List.getElem?_set_self hil] at x
            rw [upd_same, ← Option.some.inj x, tv_app]
            rfl
          · rw [List.getElem?_set_ne (fun z => hii z.symm)] at x
            have hne : b ≠ bi := fun z => by
              rw [z] at y
              have hil : ii < bs.length := (List.getElem?_eq_some_iff.mp y).1
              exact hii ((List.getElem?_inj hil bn).mp (by rw [y, hbi]))
            exact (upd_ne hne).trans (e11 _ _ (hP.2 ii l b x y))
        generalize upd H11 bi (.lst (tv (mL mi) ++ [sv (tx6 (.row mi.rx))])) = H12 at e12 hD12 hP12 ⊢
        have B12 := B8.same e12
        have TL := T1.longer hmi
        have hfl : ((ms.map mL).set i (mL mi ++ [.row mi.rx])).flatten.length ≤ 55 := by
          have := TL.few
          rw [List.length_append, List.length_append, List.length_map, lf] at this
          have hone : ([.cls n []] : List L6).length = 1 := rfl
          omega
        refine s_when (b := false) (et_neSame (i := ((5 + 7 * i + 7 : Nat) : Int)) (j := 5 + 7 * (i : Int) + 7) (ev_told hrc TL ?_) ?_ (by push_cast; rfl)) (fun z => nomatch z) fun _ H13 e13 => ⟨_, _, rfl, e12.trans e13⟩
        · have z := Hs.el_cat (el_catVV (ev_var (σ := [some (.ref st), some (.ref wa), some (.ref na), some (.ref ph), some (.ref pf), some (.ref pm), some (.ref pl), some (sv (tx6 (fL ⟨w5, kd3⟩))), some (.int (j : Int)), some (.ref pa), some (.int (i : Int)), some (.ref Dl), none, none, none, none, none]) (H := H12) (i := 3) rfl) B12.hh (ev_var (i := 4) rfl) B12.hf (by rw [tv_len, tv_len, List.length_map, lf]; show 1 + 4 ≤ 100000; decide)) (el_flat (K := K) (tl := tVar 11) (ev_var rfl) (sq_of hD12) hP12 (by omega)) (by
            rw [List.length_append, tv_len, tv_len, tv_len, List.length_map, lf, List.length_singleton]
            omega)
          rw [tv_app, tv_app]
          exact z
        · exact ev_op (ev_op ev_c (ev_op ev_c (ev_var rfl) (rv_I (.inl ⟨by decide, by decide⟩))) rv_I0) ev_c rv_I0
    · obtain ⟨v10, v11, rfl, e9⟩ := z
      have B9 := B8.same e9
      have hpl9 := e9 _ _ hpl8
      have hpa9 := e9 _ _ hpa
      have ev5 : ∀ {σ : L2.St} {H' : Hp}, σ[1]? = some (some (.ref wa)) → Ex H9 H' → Ev (tOp (rIxL K) (tVar 1) (tC (.int 5))) σ H' (sv w5) := fun hσ e' => ev_at (K := K) (j := 5) (ev_var hσ) (e' _ _ B9.hw) hw5
      have ev0 : ∀ {σ : L2.St} {H' : Hp}, σ[1]? = some (some (.ref wa)) → Ex H9 H' → Ev (tOp (rIxL K) (tVar 1) (tC (.int 0))) σ H' (sv w0) := fun hσ e' => ev_at (K := K) (j := 0) (ev_var hσ) (e' _ _ B9.hw) hw0
      have d8 : (bl4 ++ defM ++ [32]).length = 8 := rfl
      -- '    def ' + words[5] + '():'
      have evD : ∀ {σ : L2.St} {H' : Hp}, σ[1]? = some (some (.ref wa)) → Ex H9 H' → Ev (tOp rAddS (tOp rAddS (tC (sv (bl4 ++ defM ++ [32]))) (tOp (rIxL K) (tVar 1) (tC (.int 5)))) (tC (sv [40, 41, 58]))) σ H' (sv (tx6 (.mem (mX w5 defM [])))) := fun {σ H'} hσ e' => by
        have a1 := Hy.ev_addS (σ := σ) (H := H') (a := bl4 ++ defM ++ [32]) (b := w5) (ta := tC (sv (bl4 ++ defM ++ [32]))) (by show _ ≤ 30000; omega) ev_c (ev5 hσ e')
        have a2 := Hy.ev_addS (b := [40, 41, 58]) (tb := tC (sv [40, 41, 58])) (by show _ ≤ 30000; simp only [List.length_append, List.length_cons, List.length_nil]; omega) a1 ev_c
        exact Evl.ev_is a2 (by rw [def_eq])
      obtain ⟨hw5i, hw5n⟩ := T1.w5 hw5
      have w5n40 : 40 ∉ w5 := word_no ww5 (by decide)
      have w5n10 : 10 ∉ w5 := word_no ww5 (by decide)
      have TB6 := T1.badM 4 5 (w := w5) (ps := []) (b := []) (by omega) w5n40 w5n10 (Nat.zero_le _) (by decide) (by
        rw [List.take_of_length_le (Nat.le_of_eq lm), decide_eq_true lm]
        simp) nil_good (by decide)
      rw [List.take_of_length_le (Nat.le_of_eq lf), List.take_of_length_le (Nat.le_of_eq lm)] at TB6
      show tSeq _ _ _ [some (.ref st), some (.ref wa), some (.ref na), some (.ref ph), some (.ref pf), some (.ref pm), some (.ref pl), some (sv (tx6 (fL ⟨w5, kd3⟩))), some (.int (j : Int)), some (.ref pa), v10, v11, none, none, none, none, none] H9
      refine q_when (b := false) (et_neSame (i := ((lines1 n fs ms).length : Int)) (j := ((lines1 n fs ms).length : Int)) (ev_told (ls := lines1 n fs ms ++ [.mem (mX w5 defM [])]) hrc TB6 ?_) ?_ rfl) (fun z => nomatch z) fun _ H10 e10 => ?_
      · have z := el_catVL (ev_var (σ := [some (.ref st), some (.ref wa), some (.ref na), some (.ref ph), some (.ref pf), some (.ref pm), some (.ref pl), some (sv (tx6 (fL ⟨w5, kd3⟩))), some (.int (j : Int)), some (.ref pa), v10, v11, none, none, none, none, none]) (H := H9) (i := 6) rfl) hpl9 (el_lst (ea_cons (evD rfl (Ex.refl H9)) ea_nil) (show 1 ≤ 100000 by decide)) (by
          rw [tv_len, T1.lenF]
          show 40 + 1 ≤ 100000
          decide)
        rw [tv_app]
        exact z
      · have z := ev_len (K := K) (ev_var (σ := [some (.ref st), some (.ref wa), some (.ref na), some (.ref ph), some (.ref pf), some (.ref pm), some (.ref pl), some (sv (tx6 (fL ⟨w5, kd3⟩))), some (.int (j : Int)), some (.ref pa), v10, v11, none, none, none, none, none]) (H := H9) (i := 6) rfl) (sq_of hpl9)
        rw [tv_len] at z
        exact z
      have B10 := B9.same e10
      have hpa10 := e10 _ _ hpa9
      -- four parameters
      have wok := wide_ok wd
      have wl4 : (wide4 ws).length = 4 := by
        unfold wide4
        rw [List.length_map, List.length_take, l6]
        rfl
      obtain ⟨wpl, wpn⟩ := psX_len wok (by omega)
      show tSeq _ _ _ [some (.ref st), some (.ref wa), some (.ref na), some (.ref ph), some (.ref pf), some (.ref pm), some (.ref pl), some (sv (tx6 (fL ⟨w5, kd3⟩))), some (.int (j : Int)), some (.ref pa), v10, v11, none, none, none, none, none] H10
      refine q_asg (v := sv (tx6 (.mem (mX w5 defM (psX (wide4 ws)))))) ?_ fun H11 e11 => ?_
      · have zj : Ev _ [some (.ref st), some (.ref wa), some (.ref na), some (.ref ph), some (.ref pf), some (.ref pm), some (.ref pl), some (sv (tx6 (fL ⟨w5, kd3⟩))), some (.int (j : Int)), some (.ref pa), v10, v11, none, none, none, none, none] H10 (sv (psX (wide4 ws))) := Hy.ev_joinN (K := K) (T := [44, 32]) (xs := (wide4 ws).map pX) (to := tC (sv [44, 32])) (te := tLc (iList K (tSl (rSlL K) (tVar 1) tNoPart (tPart (tC (.int 4))))) (gName 16) tYes (tOp rAddS (tVar 16) (tC (sv [58, 32, 46]))) [16]) (by
            have hs := sum_le' (c := 21) (l := (wide4 ws).map pX) fun x hx => by
              obtain ⟨p, hp, rfl⟩ := List.mem_map.mp hx
              have a := (word_all (wok p hp).w).2.2
              have b := (wok p hp).le
              unfold pX
              rw [List.length_append, List.length_append]
              show p.1.length + 2 + p.2.length ≤ 21
              omega
            rw [List.length_map, wl4] at hs ⊢
            show _ + 4 * 2 ≤ 16777216
            omega) ev_c (by
            rw [wide_pX, List.map_map]
            have z := el_mapN (K := K) (H := H10) (σ := [some (.ref st), some (.ref wa), some (.ref na), some (.ref ph), some (.ref pf), some (.ref pm), some (.ref pl), some (sv (tx6 (fL ⟨w5, kd3⟩))), some (.int (j : Int)), some (.ref pa), v10, v11, none, none, none, none, none]) (tl := tSl (rSlL K) (tVar 1) tNoPart (tPart (tC (.int 4)))) (te := tOp rAddS (tVar 16) (tC (sv [58, 32, 46]))) (t := tYes) (j := 16) (vs := [16]) (ws.take 4) sv (fun _ => true) (fun w => sv (w ++ [58, 32, 46])) (by
                have z := el_take (K := K) (σ := [some (.ref st), some (.ref wa), some (.ref na), some (.ref ph), some (.ref pf), some (.ref pm), some (.ref pl), some (sv (tx6 (fL ⟨w5, kd3⟩))), some (.int (j : Int)), some (.ref pa), v10, v11, none, none, none, none, none]) (H := H10) (te := tVar 1) 4 (ev_var (i := 1) rfl) (sq_of B10.hw)
                rw [← List.map_take] at z
                exact z) (by rw [List.length_take]; omega) Hs.wipe1 (fun x H6 e6 hx => et_yes) (fun x H6 e6 hx _ => Hy.ev_addS (a := x) (b := [58, 32, 46]) (by
                have := (word_all (wd x (List.mem_of_mem_take hx))).2.2
                show x.length + 3 ≤ 30000
                omega) (ev_var rfl) ev_c)
            rw [List.filter_eq_self.mpr fun _ _ => rfl] at z
            exact z)
        have a1 := Hy.ev_addS (σ := [some (.ref st), some (.ref wa), some (.ref na), some (.ref ph), some (.ref pf), some (.ref pm), some (.ref pl), some (sv (tx6 (fL ⟨w5, kd3⟩))), some (.int (j : Int)), some (.ref pa), v10, v11, none, none, none, none, none]) (H := H10) (a := bl4 ++ defM ++ [32]) (b := w5) (ta := tC (sv (bl4 ++ defM ++ [32]))) (by show _ ≤ 30000; omega) ev_c (ev5 rfl e10)
        have a2 := Hy.ev_addS (b := [40]) (tb := tC (sv [40])) (by show _ ≤ 30000; simp only [List.length_append, List.length_cons, List.length_nil]; omega) a1 ev_c
        have a3 := Hy.ev_addS (by show _ ≤ 30000; simp only [List.length_append, List.length_cons, List.length_nil]; omega) a2 zj
        have a4 := Hy.ev_addS (b := closeD) (tb := tC (sv closeD)) (by
          have c2 : closeD.length = 2 := rfl
          show _ ≤ 30000
          simp only [List.length_append, List.length_cons, List.length_nil]
          omega) a3 ev_c
        exact Evl.ev_is a4 (by rw [← line_eq])
      have B11 := B10.same e11
      have e911 := e10.trans e11
      have hpa11 := e11 _ _ hpa10
      have bad4 := pars_bad wok (by omega)
      have TW := T1.badM j j (w := w5) (ps := psX (wide4 ws)) (b := [.mem (mX w5 defM [])]) (by omega) w5n40 w5n10 wpl wpn (by rw [bad4]; simp) (cons_good (good_mX def_in (by omega) w5n10 (Nat.zero_le _) (by decide)) nil_good) (show 1 ≤ 10 by decide)
      show tSeq _ _ _ [some (.ref st), some (.ref wa), some (.ref na), some (.ref ph), some (.ref pf), some (.ref pm), some (.ref pl), some (sv (tx6 (fL ⟨w5, kd3⟩))), some (.int (j : Int)), some (.ref pa), v10, v11, some (sv (tx6 (.mem (mX w5 defM (psX (wide4 ws)))))), none, none, none, none] H11
      have tlA := T1.len j j
      refine q_when (b := false) (et_neSame (i := ((lines1 n (fs.take j) (ms.take j)).length : Int)) (j := ((lines1 n (fs.take j) (ms.take j)).length : Int)) (ev_told (ls := lines1 n (fs.take j) (ms.take j) ++ [.mem (mX w5 defM (psX (wide4 ws))), .mem (mX w5 defM [])]) hrc TW ?_) ?_ rfl) (fun z => nomatch z) fun _ H12 e12 => ?_
      · have z := el_catVL (ev_var (σ := [some (.ref st), some (.ref wa), some (.ref na), some (.ref ph), some (.ref pf), some (.ref pm), some (.ref pl), some (sv (tx6 (fL ⟨w5, kd3⟩))), some (.int (j : Int)), some (.ref pa), v10, v11, some (sv (tx6 (.mem (mX w5 defM (psX (wide4 ws)))))), none, none, none, none]) (H := H11) (i := 9) rfl) hpa11 (el_lst (ea_cons (ev_var (i := 12) rfl) (ea_cons (evD rfl e911) ea_nil)) (show 2 ≤ 100000 by decide)) (by
          rw [tv_len]
          show _ + 2 ≤ 100000
          omega)
        rw [tv_app]
        exact z
      · have z := ev_len (K := K) (ev_var (σ := [some (.ref st), some (.ref wa), some (.ref na), some (.ref ph), some (.ref pf), some (.ref pm), some (.ref pl), some (sv (tx6 (fL ⟨w5, kd3⟩))), some (.int (j : Int)), some (.ref pa), v10, v11, some (sv (tx6 (.mem (mX w5 defM (psX (wide4 ws)))))), none, none, none, none]) (H := H11) (i := 9) rfl) (sq_of hpa11)
        rw [tv_len] at z
        exact z
      have hpa12 := e12 _ _ hpa11
      have e912 := e911.trans e12
      -- nine letters, eight letters
      have hM8 : (List.replicate 8 113).length = 8 := rfl
      have hMm : ∀ c ∈ List.replicate 8 113, c ∈ [113] := by decide
      obtain ⟨_, n9, l9, s9⟩ := eight_facts ww0 hM8 hMm
      obtain ⟨w8w, _, _, _⟩ := eight_facts ww5 hM8 hMm
      show tSeq _ _ _ [some (.ref st), some (.ref wa), some (.ref na), some (.ref ph), some (.ref pf), some (.ref pm), some (.ref pl), some (sv (tx6 (fL ⟨w5, kd3⟩))), some (.int (j : Int)), some (.ref pa), v10, v11, some (sv (tx6 (.mem (mX w5 defM (psX (wide4 ws)))))), none, none, none, none] H12
      refine q_asg (v := sv (tx6 (.mem (mX ((w0 ++ List.replicate 8 113).take 9) defM [])))) ?_ fun H13 e13 => ?_
      · have z9 : Ev (tSl rSlS (tOp rAddS (tOp (rIxL K) (tVar 1) (tC (.int 0))) (tOp rMulS (tC (sv [113])) (tC (.int 8)))) tNoPart (tPart (tC (.int 9)))) [some (.ref st), some (.ref wa), some (.ref na), some (.ref ph), some (.ref pf), some (.ref pm), some (.ref pl), some (sv (tx6 (fL ⟨w5, kd3⟩))), some (.int (j : Int)), some (.ref pa), v10, v11, some (sv (tx6 (.mem (mX w5 defM (psX (wide4 ws)))))), none, none, none, none] H12 (sv ((w0 ++ List.replicate 8 113).take 9)) := Evl.ev_is (Hs.ev_slS (lo := none) (hi := some ((9 : Nat) : Int)) (Hy.ev_addS (a := w0) (b := List.replicate 8 113) (by show w0.length + 8 ≤ 30000; omega) (ev0 rfl e912) ev_q8) eo_none (eo_some ev_c) (by
          rw [S_len, List.length_append, hM8]
          exact sz_of (by omega))) (by rw [cut_to])
        have a1 := Hy.ev_addS (σ := [some (.ref st), some (.ref wa), some (.ref na), some (.ref ph), some (.ref pf), some (.ref pm), some (.ref pl), some (sv (tx6 (fL ⟨w5, kd3⟩))), some (.int (j : Int)), some (.ref pa), v10, v11, some (sv (tx6 (.mem (mX w5 defM (psX (wide4 ws)))))), none, none, none, none]) (H := H12) (a := bl4 ++ defM ++ [32]) (ta := tC (sv (bl4 ++ defM ++ [32]))) (by show _ ≤ 30000; omega) ev_c z9
        have a2 := Hy.ev_addS (b := [40, 41, 58]) (tb := tC (sv [40, 41, 58])) (by
          show _ ≤ 30000
          rw [List.length_append, d8, l9]
          decide) a1 ev_c
        exact Evl.ev_is a2 (by rw [def_eq])
      have e913 := e912.trans e13
      show tSeq _ _ _ [some (.ref st), some (.ref wa), some (.ref na), some (.ref ph), some (.ref pf), some (.ref pm), some (.ref pl), some (sv (tx6 (fL ⟨w5, kd3⟩))), some (.int (j : Int)), some (.ref pa), v10, v11, some (sv (tx6 (.mem (mX w5 defM (psX (wide4 ws)))))), some (sv (tx6 (.mem (mX ((w0 ++ List.replicate 8 113).take 9) defM [])))), none, none, none] H13
      refine q_asg (v := sv ((w5 ++ List.replicate 8 113).take 8)) (Evl.ev_is (Hs.ev_slS (lo := none) (hi := some ((8 : Nat) : Int)) (Hy.ev_addS (a := w5) (b := List.replicate 8 113) (by show w5.length + 8 ≤ 30000; omega) (ev5 rfl e913) ev_q8) eo_none (eo_some ev_c) (by
          rw [S_len, List.length_append, hM8]
          exact sz_of (by omega))) (by rw [cut_to])) fun H14 e14 => ?_
      have hpa14 := e14 _ _ (e13 _ _ hpa12)
      have e914 := e913.trans e14
      have TG := T1.badM j j (w := (w0 ++ List.replicate 8 113).take 9) (ps := []) (b := []) (by rw [l9]; decide) (fun z => absurd (s9 _ z) (by decide)) (fun z => absurd (s9 _ z) (by decide)) (Nat.zero_le _) (by decide) (by rw [n9]; rfl) nil_good (by decide)
      show tSeq _ _ _ [some (.ref st), some (.ref wa), some (.ref na), some (.ref ph), some (.ref pf), some (.ref pm), some (.ref pl), some (sv (tx6 (fL ⟨w5, kd3⟩))), some (.int (j : Int)), some (.ref pa), v10, v11, some (sv (tx6 (.mem (mX w5 defM (psX (wide4 ws)))))), some (sv (tx6 (.mem (mX ((w0 ++ List.replicate 8 113).take 9) defM [])))), some (sv ((w5 ++ List.replicate 8 113).take 8)), none, none] H14
      refine q_when (b := false) (et_neSame (i := ((lines1 n (fs.take j) (ms.take j)).length : Int)) (j := ((lines1 n (fs.take j) (ms.take j)).length : Int)) (ev_told (ls := lines1 n (fs.take j) (ms.take j) ++ [.mem (mX ((w0 ++ List.replicate 8 113).take 9) defM [])]) hrc TG ?_) ?_ rfl) (fun z => nomatch z) fun _ H15 e15 => ?_
      · have z := el_catVL (ev_var (σ := [some (.ref st), some (.ref wa), some (.ref na), some (.ref ph), some (.ref pf), some (.ref pm), some (.ref pl), some (sv (tx6 (fL ⟨w5, kd3⟩))), some (.int (j : Int)), some (.ref pa), v10, v11, some (sv (tx6 (.mem (mX w5 defM (psX (wide4 ws)))))), some (sv (tx6 (.mem (mX ((w0 ++ List.replicate 8 113).take 9) defM [])))), some (sv ((w5 ++ List.replicate 8 113).take 8)), none, none]) (H := H14) (i := 9) rfl) hpa14 (el_lst (ea_cons (ev_var (i := 13) rfl) ea_nil) (show 1 ≤ 100000 by decide)) (by
          rw [tv_len]
          show _ + 1 ≤ 100000
          omega)
        rw [tv_app]
        exact z
      · have z := ev_len (K := K) (ev_var (σ := [some (.ref st), some (.ref wa), some (.ref na), some (.ref ph), some (.ref pf), some (.ref pm), some (.ref pl), some (sv (tx6 (fL ⟨w5, kd3⟩))), some (.int (j : Int)), some (.ref pa), v10, v11, some (sv (tx6 (.mem (mX w5 defM (psX (wide4 ws)))))), some (sv (tx6 (.mem (mX ((w0 ++ List.replicate 8 113).take 9) defM [])))), some (sv ((w5 ++ List.replicate 8 113).take 8)), none, none]) (H := H14) (i := 9) rfl) (sq_of hpa14)
        rw [tv_len] at z
        exact z
      have hpa15 := e15 _ _ hpa14
      have e915 := e914.trans e15
      have B15 := B9.same e915
      generalize hn8 : (w5 ++ List.replicate 8 113).take 8 = n8 at w8w ⊢
      have l8 := (word_all w8w).2.2
      have hin : Ev (tOp (rIn K false) (tVar 14) (tSl (rSlL K) (tVar 1) tNoPart (tPart (tVar 8)))) [some (.ref st), some (.ref wa), some (.ref na), some (.ref ph), some (.ref pf), some (.ref pm), some (.ref pl), some (sv (tx6 (fL ⟨w5, kd3⟩))), some (.int (j : Int)), some (.ref pa), v10, v11, some (sv (tx6 (.mem (mX w5 defM (psX (wide4 ws)))))), some (sv (tx6 (.mem (mX ((w0 ++ List.replicate 8 113).take 9) defM [])))), some (sv n8), none, none] H15 (.bl (decide (n8 ∈ ws.take j))) := by
        refine Hy.ev_inL (K := K) (x := n8) (l := ws.take j) (ev_var rfl) ?_
        have z := el_takeV (K := K) (k := j) (σ := [some (.ref st), some (.ref wa), some (.ref na), some (.ref ph), some (.ref pf), some (.ref pm), some (.ref pl), some (sv (tx6 (fL ⟨w5, kd3⟩))), some (.int (j : Int)), some (.ref pa), v10, v11, some (sv (tx6 (.mem (mX w5 defM (psX (wide4 ws)))))), some (sv (tx6 (.mem (mX ((w0 ++ List.replicate 8 113).take 9) defM [])))), some (sv n8), none, none]) (H := H15) (te := tVar 1) (ta := tVar 8) (ev_var (i := 1) rfl) (ev_var (i := 8) rfl) (sq_of B15.hw)
        rw [← List.map_take] at z
        exact z
      show tRet _ _ [some (.ref st), some (.ref wa), some (.ref na), some (.ref ph), some (.ref pf), some (.ref pm), some (.ref pl), some (sv (tx6 (fL ⟨w5, kd3⟩))), some (.int (j : Int)), some (.ref pa), v10, v11, some (sv (tx6 (.mem (mX w5 defM (psX (wide4 ws)))))), some (sv (tx6 (.mem (mX ((w0 ++ List.replicate 8 113).take 9) defM [])))), some (sv n8), none, none] H15
      refine s_ret (v := .bl true) (Evl.ev_is (ev_orV (b := true) hin fun hb => ev_isNone (ev_told (ls := lines1 n (fs.take j) (ms.take j) ++ [.mem (mX n8 defM [])]) hrc (T1.okM j j w8w (by
        have hnn := of_decide_eq_false hb
        rw [List.map_take, mw, List.take_take, Nat.min_eq_left (by omega)]
        exact hnn) j5) ?_)) (by rw [Bool.or_true])) fun H16 e16 => ?_
      · have a1 := Hy.ev_addS (σ := [some (.ref st), some (.ref wa), some (.ref na), some (.ref ph), some (.ref pf), some (.ref pm), some (.ref pl), some (sv (tx6 (fL ⟨w5, kd3⟩))), some (.int (j : Int)), some (.ref pa), v10, v11, some (sv (tx6 (.mem (mX w5 defM (psX (wide4 ws)))))), some (sv (tx6 (.mem (mX ((w0 ++ List.replicate 8 113).take 9) defM [])))), some (sv n8), none, none]) (H := H15) (a := bl4 ++ defM ++ [32]) (b := n8) (ta := tC (sv (bl4 ++ defM ++ [32]))) (tb := tVar 14) (by show _ ≤ 30000; omega) ev_c (ev_var rfl)
        have a2 := Hy.ev_addS (b := [40, 41, 58]) (tb := tC (sv [40, 41, 58])) (by show _ ≤ 30000; simp only [List.length_append, List.length_cons, List.length_nil]; omega) a1 ev_c
        have z := el_catVL (ev_var (σ := [some (.ref st), some (.ref wa), some (.ref na), some (.ref ph), some (.ref pf), some (.ref pm), some (.ref pl), some (sv (tx6 (fL ⟨w5, kd3⟩))), some (.int (j : Int)), some (.ref pa), v10, v11, some (sv (tx6 (.mem (mX w5 defM (psX (wide4 ws)))))), some (sv (tx6 (.mem (mX ((w0 ++ List.replicate 8 113).take 9) defM [])))), some (sv n8), none, none]) (H := H15) (i := 9) rfl) hpa15 (el_lst (ea_cons (Evl.ev_is a2 (by rw [def_eq])) ea_nil) (show 1 ≤ 100000 by decide)) (by
          rw [tv_len]
          show _ + 1 ≤ 100000
          omega)
        rw [tv_app]
        exact z
      · exact q H16 ((((x6.trans e7).trans (ext_ex e8)).trans (ext_ex e9)).trans (ext_ex (e915.trans e16))) ((B15.same e16).dr)
end
end Hv
/-! module HvLaw -/
set_option maxHeartbeats 8000000
/-! law. -/
namespace Hv
open PySem PySem.Spec PyProof.Rows L2 Evl Hc Hs Hy Hz
theorem word_of {w : List Nat} (h : Small w) (hr : w ∉ resv) : isWord w = true := by
  unfold isWord areSmall
  have e : resv.contains w = false := by
    rw [Bool.eq_false_iff]
    intro z
    exact hr (by simpa using z)
  rw [e]
  simp only [Bool.and_eq_true, List.all_eq_true, decide_eq_true_eq]
  exact ⟨⟨⟨h.pos, h.le⟩, h.all⟩, rfl⟩
theorem cut_one (w : List Nat) : cutS (S w) none (some (1 : Int)) = S (w.take 1) := cut_to w 1
theorem ev_upp6 {σ : L2.St} {H : Hp} {te : TE} {a : Str} (h : Ev te σ H (.str a)) (hl : a.length ≤ 5592405) : Ev (tM0 (fun x xs H Q => ∃ a, x = .str a ∧ xs = [] ∧ a.length ≤ 5592405 ∧ Q (.str (Txt.upper a)) H) te) σ H (.str (Txt.upper a)) := fun H1 e Q q => h H1 e _ fun H2 e2 => ⟨⟨_, rfl⟩, a, rfl, rfl, hl, q H2 e2⟩
theorem clsT_eq (n : List Nat) : cls6 ++ n ++ [58] = cline n [] := cls_eq n
theorem three_eq (a b c d : List Nat) : cls6 ++ d ++ [40] ++ a ++ [44, 32] ++ b ++ [44, 32] ++ c ++ [41, 58] = cline d [a, b, c] := by
  unfold cline bpart
  rw [if_neg (by simp)]
  simp [TL.joinL]
theorem four_eq (d : List Nat) {bs : List Nm} (h : bs ≠ []) : cls6 ++ d ++ [40] ++ TL.joinL [44, 32] bs ++ [41, 58] = cline d bs := by
  unfold cline bpart
  rw [if_neg h]
  simp
theorem cls_eight {n M : List Nat} (g : GoodNm n) (hl : M.length = 8) (hm : ∀ c ∈ M, c ∈ [113]) : GoodNm ((n ++ M).take 8) ∧ isClassName ((n ++ M).take 9) = false ∧ ((n ++ M).take 9).length = 9 ∧ (∀ c ∈ (n ++ M).take 9, c ∈ larges ∨ c ∈ smalls) := by
  have hn := g.len
  cases n with
  | nil => exact absurd hn.1 (by decide)
  | cons c m =>
    have hok := g.ok
    unfold isClassName at hok
    simp only [Bool.and_eq_true, decide_eq_true_eq] at hok
    have hs : ∀ x ∈ m ++ M, x ∈ smalls := fun x hx => by
      rcases List.mem_append.mp hx with hx | hx
      · have := List.all_eq_true.mp hok.2 x hx
        exact of_decide_eq_true this
      · rw [List.mem_singleton.mp (hm x hx)]
        decide
    have l9 : ((c :: m ++ M).take 9).length = 9 := by
      rw [List.length_take, List.length_append, hl]
      omega
    have e9 : (c :: m ++ M).take 9 = c :: (m ++ M).take 8 := rfl
    have e8 : (c :: m ++ M).take 8 = c :: (m ++ M).take 7 := rfl
    refine ⟨⟨?_⟩, ?_, l9, fun x hx => ?_⟩
    · rw [e8]
      unfold isClassName areSmall
      simp only [Bool.and_eq_true, decide_eq_true_eq, List.all_eq_true]
      exact ⟨⟨by rw [List.length_cons, List.length_take]; omega, hok.1.2⟩, fun x hx => hs x (List.mem_of_mem_take hx)⟩
    · rw [e9] at l9 ⊢
      unfold isClassName
      rw [l9]
      rfl
    · rw [e9] at hx
      rcases List.mem_cons.mp hx with rfl | hx
      · exact .inl hok.1.2
      · exact .inr (hs x (List.mem_of_mem_take hx))
abbrev nLaw6 : List Str := ["_law_script", "_law_state", "_law_words", "_law_names", "_law_turn", "_law_tops", "_law_lines", "_law_ninth", "_law_three", "_law_four", "_law_long", "_law_eight", "_law_at", "_law_name", "_law_top"]
theorem scLaw6 : FnScope nLaw6 ["_law_script"] (defScope sLaw) := ⟨rfl, rfl, rfl, by decide +kernel, rfl, by decide +kernel, by decide +kernel⟩
def spLaw6 (K : PySem.W.Frag) : Sp := fun vs H Q _ => ∃ (a : Addr) (ns : List Int), vs = [.ref a] ∧ SqL K H a (ns.map V.int) ∧ ns.length ≤ 63 ∧ ∀ H', Q (.bl true) H'
/-- what the loops that draw words keep -/
structure WB (st g sm la : Addr) (tk : List Nm) (H : Hp) : Prop where
  dr : DrawSt H st g sm
  hl : H la = some (.lst (tk.map sv))
  ol : la ≠ st ∧ la ≠ g ∧ la ≠ sm
  nd : tk.Nodup
  sm : ∀ w ∈ tk, Small w ∧ w ∉ resv
section
variable {st g sm la : Addr} {tk : List Nm} {H H' : Hp}
theorem WB.ext (B : WB st g sm la tk H) (e : Hc.Ext (Dr st g) H H') (d : DrawSt H' st g sm) : WB st g sm la tk H' := ⟨d, e _ _ B.hl (dr_off B.ol), B.ol, B.nd, B.sm⟩
theorem WB.same (B : WB st g sm la tk H) (e : Ex H H') : WB st g sm la tk H' := B.ext (ext_ex e) (B.dr.same e)
theorem WB.off (B : WB st g sm la tk H) {p : Addr} {o : HO} (h : p ≠ la) (op : p ≠ st ∧ p ≠ g ∧ p ≠ sm) : WB st g sm la tk (upd H p o) := ⟨B.dr.put op, (upd_ne h.symm).trans B.hl, B.ol, B.nd, B.sm⟩
theorem WB.add (B : WB st g sm la tk H) {w : Nm} (hw : Small w) (h1 : w ∉ tk) (h2 : w ∉ resv) : WB st g sm la (tk ++ [w]) (upd H la (.lst (tk.map sv ++ [sv w]))) := by
  refine ⟨B.dr.put B.ol, by rw [upd_same, List.map_append]; rfl, B.ol, ?_, fun x hx => ?_⟩
  · rw [List.nodup_append]
    refine ⟨B.nd, by simp, fun x hx y hy => ?_⟩
    rw [List.mem_singleton.mp hy]
    exact fun z => h1 (z ▸ hx)
  · rcases List.mem_append.mp hx with hx | hx
    · exact B.sm x hx
    · rw [List.mem_singleton.mp hx]
      exact ⟨hw, h2⟩
end
theorem nodup_capd : ∀ {nm : List Nm}, (∀ w ∈ nm, Small w) → nm.Nodup → (nm.map capd).Nodup
  | [], _, _ => List.nodup_nil
  | a :: r, h, n => by
    rw [List.nodup_cons] at n
    rw [List.map_cons, List.nodup_cons]
    refine ⟨fun z => ?_, nodup_capd (fun x hx => h x (List.mem_cons_of_mem _ hx)) n.2⟩
    obtain ⟨b, hb, e⟩ := List.mem_map.mp z
    exact n.1 (capd_inj (h b (List.mem_cons_of_mem _ hb)) (h a List.mem_cons_self) e ▸ hb)
def LN (ns : List Nm) (k : Nat) : List L6 := (ns.take k).map fun n => L6.cls n []
theorem ln_take (ns : List Nm) {k : Nat} (h : k ≤ 8) : (tv (LN ns 8)).take k = tv (LN ns k) := by
  unfold LN
  rw [tv_take, ← List.map_take, List.take_take, Nat.min_eq_left h]
theorem ln_vals (ns : List Nm) (k : Nat) : tv (LN ns k) = ((ns.take k).map fun n => cline n []).map sv := by
  unfold tv LN
  rw [List.map_map, List.map_map, List.map_map]
  rfl
theorem ln_len {ns : List Nm} (h : ns.length = 9) {k : Nat} (hk : k ≤ 8) : (tv (LN ns k)).length = k := by
  unfold LN
  rw [tv_len, List.length_map, List.length_take, h]
  omega
section
variable {P : Program} {w : World} {K : PySem.W.Frag} {mg : Str → Option Value} {base : Heap}
theorem ok_law6 {f : Addr} {fd : FuncData} {k : Nat} {C : Cs} {R D CR CT : Addr} (F : Fun K "law" "law" sLaw f fd) (T : LawP mg) (hrc : CR ≠ CT) (hk : 3 ≤ k) (rS : Rd P w K mg base "_law_start" k ["_law_script"] (spStart K)) (rD : Rd P w K mg base "_law_draw" k ["_law_state", "_law_many"] spDraw) (rW : Rd P w K mg base "_law_word" k ["_law_state", "_law_taken"] spLWord) (rR : Rd P w K mg base "_law_right" k ["_law_state", "_law_words", "_law_names"] spRight)
    (rT : Rd P w K mg base "_law_told" k ["_law_lines"] (spTold6 CR (sp6 C R D CR CT))) : FnOk P w K mg base CX0 (k + 1) f fd ["_law_script"] (spLaw6 K) := by
  refine F.ok scLaw6 (fun vs H Q E h => ?_) (fun cdv A outer s H vs Q E hr h => ?_)
  · obtain ⟨a, ns, rfl, _⟩ := h
    rfl
  · obtain ⟨a, ns, rfl, ha, hlen, q⟩ := h
    refine ⟨_, (pss_cons (ps_set (i := 1) scLaw6.nd rfl (.inl rfl) (pe_rd rS hr (Nat.le_refl _) (by rfl) (pa_cons (pv 0) pa_nil)))
      (pss_cons (ps_par (i := 2) (j := 3) (by rfl) scLaw6.nd rfl rfl (by decide) rfl rfl (pa_cons (pe_lst pa_nil) (pa_cons (pe_lst pa_nil) pa_nil)) (by rfl))
      (pss_cons (ps_for PassesOwn.never rfl (pi_range1 (by rfl) T.rng (pa_cons pe_int pa_nil)) (pg_name (i := 4) scLaw6.nd rfl (.inl rfl)) (pss_one (ps_expr (pe_bm PySem.F.plainAttrs_list PySem.F.slot_list_append PySem.F.type_list_append mt_append (pv 2) (pa_cons (pe_rd rW hr (Nat.le_refl _) (by rfl) (pa_cons (pv 1) (pa_cons (pv 2) pa_nil))) pa_nil)))))
      (pss_cons (ps_for PassesOwn.never rfl (pi_range1 (by rfl) T.rng (pa_cons pe_int pa_nil)) (pg_name (i := 4) scLaw6.nd rfl (.inl rfl)) (pss_one (ps_expr (pe_bm PySem.F.plainAttrs_list PySem.F.slot_list_append PySem.F.type_list_append mt_append (pv 3) (pa_cons (pe_rd rW hr (Nat.le_refl _) (by rfl) (pa_cons (pv 1) (pa_cons (pv 3) pa_nil))) pa_nil)))))
      (pss_cons (ps_setLc (i := 5) (own := [("_law_name", 13)]) (g := gName 13) (tt := tYes) rfl scLaw6.nd rfl rfl (sw_true rfl rfl rfl rfl) (pi_list (pv 3)) (blkOk_by (N := nLaw6) (sc := defScope sLaw) (by decide +kernel)) (fun _ _ _ _ _ => pg_name (i := 13) scLaw6.nd rfl (.inl rfl)) (fun _ _ _ _ _ => pts_nil) (fun _ _ _ _ _ => pe_op op_add_str (pe_upper (pe_slice sl_str (pv 13) po_none (po_some pe_int))) (pe_slice sl_str (pv 13) (po_some pe_int) po_none)))
      (pss_cons (ps_if (pt_not (pt_val (pe_rd rR hr (Nat.le_refl _) (by rfl) (pa_cons (pv 1) (pa_cons (pv 2) (pa_cons (pv 5) pa_nil)))))) (pss_one (ps_ret pe_bl)) pss_nil)
      (pss_cons (ps_setLc (i := 6) (own := [("_law_top", 14)]) (g := gName 14) (tt := tYes) rfl scLaw6.nd rfl rfl (sw_true rfl rfl rfl rfl) (pi_list (pe_slice sl_list (pv 5) po_none (po_some pe_int))) (blkOk_by (N := nLaw6) (sc := defScope sLaw) (by decide +kernel)) (fun _ _ _ _ _ => pg_name (i := 14) scLaw6.nd rfl (.inl rfl)) (fun _ _ _ _ _ => pts_nil) (fun _ _ _ _ _ => pe_op op_add_str (pe_op op_add_str pe_str (pv 14)) pe_str))
      (pss_cons (ps_set (i := 7) scLaw6.nd rfl (.inl rfl) (pe_op op_add_str (pe_op op_add_str pe_str (pe_ix ix_list (pv 5) pe_int (fun _ _ => rfl))) pe_str))
      (pss_cons (ps_set (i := 8) scLaw6.nd rfl (.inl rfl) (pe_op op_add_str (pe_op op_add_str (pe_op op_add_str (pe_op op_add_str (pe_op op_add_str (pe_op op_add_str (pe_op op_add_str (pe_op op_add_str pe_str (pe_ix ix_list (pv 5) pe_int (fun _ _ => rfl))) pe_str) (pe_ix ix_list (pv 5) pe_int (fun _ _ => rfl))) pe_str) (pe_ix ix_list (pv 5) pe_int (fun _ _ => rfl))) pe_str) (pe_ix ix_list (pv 5) pe_int (fun _ _ => rfl))) pe_str))
      (pss_cons (ps_set (i := 9) scLaw6.nd rfl (.inl rfl) (pe_op op_add_str (pe_op op_add_str (pe_op op_add_str (pe_op op_add_str pe_str (pe_ix ix_list (pv 5) pe_int (fun _ _ => rfl))) pe_str) (pe_join pe_str (pe_lst (pa_cons (pe_ix ix_list (pv 5) pe_int (fun _ _ => rfl)) (pa_cons (pe_ix ix_list (pv 5) pe_int (fun _ _ => rfl)) (pa_cons (pe_ix ix_list (pv 5) pe_int (fun _ _ => rfl)) (pa_cons (pe_ix ix_list (pv 5) pe_int (fun _ _ => rfl)) pa_nil))))))) pe_str))
      (pss_cons (ps_if (PW.pt (pw_or (pt_cmpR op_notN (pe_rd rT hr (Nat.le_refl _) (by rfl) (pa_cons (pv 6) pa_nil)) pe_non (nomark _)) (pw_or1 (pt_cmpR op_ne (pe_rd rT hr (Nat.le_refl _) (by rfl) (pa_cons (pe_op op_cat (pv 6) (pe_lst (pa_cons (pv 7) pa_nil))) pa_nil)) pe_int (nomark _))))) (pss_one (ps_ret pe_bl)) pss_nil)
      (pss_cons (ps_if (pt_cmpR op_notN (pe_rd rT hr (Nat.le_refl _) (by rfl) (pa_cons (pe_op op_cat (pe_slice sl_list (pv 6) po_none (po_some pe_int)) (pe_lst (pa_cons (pv 8) pa_nil))) pa_nil)) pe_non (nomark _)) (pss_one (ps_ret pe_bl)) pss_nil)
      (pss_cons (ps_if (pt_cmpR op_ne (pe_rd rT hr (Nat.le_refl _) (by rfl) (pa_cons (pe_op op_cat (pe_slice sl_list (pv 6) po_none (po_some pe_int)) (pe_lst (pa_cons (pv 9) (pa_cons (pv 7) pa_nil)))) pa_nil)) pe_int (nomark _)) (pss_one (ps_ret pe_bl)) pss_nil)
      (pss_cons (ps_set (i := 10) scLaw6.nd rfl (.inl rfl) (pe_op op_add_str (pe_op op_add_str pe_str (pe_slice sl_str (pe_op op_add_str (pe_ix ix_list (pv 5) pe_int (fun _ _ => rfl)) (pe_op op_mulS pe_str pe_int)) po_none (po_some pe_int))) pe_str))
      (pss_cons (ps_set (i := 11) scLaw6.nd rfl (.inl rfl) (pe_op op_add_str (pe_op op_add_str pe_str (pe_slice sl_str (pe_op op_add_str (pe_ix ix_list (pv 5) pe_int (fun _ _ => rfl)) (pe_op op_mulS pe_str pe_int)) po_none (po_some pe_int))) pe_str))
      (pss_cons (ps_set (i := 12) scLaw6.nd rfl (.inl rfl) (pe_rd rD hr (Nat.le_refl _) (by rfl) (pa_cons (pv 1) (pa_cons pe_int pa_nil))))
      (pss_cons (ps_if (pt_cmpR op_ne (pe_rd rT hr (Nat.le_refl _) (by rfl) (pa_cons (pe_op op_cat (pe_op op_cat (pe_slice sl_list (pv 6) po_none (po_some (pv 12))) (pe_lst (pa_cons (pv 10) pa_nil))) (pe_slice sl_list (pv 6) (po_some (pv 12)) po_none)) pa_nil)) (pv 12) (nomark _)) (pss_one (ps_ret pe_bl)) pss_nil)
      (pss_one (ps_ret (pe_or (pe_cmpR (show OpR _ (compareOp .In) (rIn K false) from op_in_seq) (pv 11) (pe_slice sl_list (pv 6) po_none (po_some pe_int)) (by rfl)) (pe_one (pe_cmpR op_isN (pe_rd rT hr (Nat.le_refl _) (by rfl) (pa_cons (pe_op op_cat (pe_slice sl_list (pv 6) po_none (po_some pe_int)) (pe_lst (pa_cons (pv 11) pa_nil))) pa_nil)) pe_non (nomark _))))))))))))))))))))))), ?_⟩
    refine q_asgX ?_
    refine ⟨_, rfl, a, ns, rfl, ha, hlen, fun H1 st g sm e1 nst ng nsm d1 => ?_⟩
    -- two lists
    refine ⟨Nat.zero_le _, fun wa nwa => ⟨Nat.zero_le _, fun na nna => ⟨_, _, rfl, ?_⟩⟩⟩
    have offw := d1.off nwa
    have d2 := d1.put (o := .lst []) offw
    have h2 : (upd H1 wa (.lst [])) wa = some (.lst ([] : List V)) := upd_same
    generalize upd H1 wa (.lst []) = K1 at d2 h2 nna ⊢
    have offn := d2.off nna
    have wn : wa ≠ na := ne_of_none h2 nna
    have W2 : WB st g sm wa [] (upd K1 na (.lst [])) := ⟨d2.put offn, (upd_ne wn).trans h2, offw, List.nodup_nil, fun w hw => by cases hw⟩
    have N2 : WB st g sm na [] (upd K1 na (.lst [])) := ⟨d2.put offn, upd_same, offn, List.nodup_nil, fun w hw => by cases hw⟩
    generalize upd K1 na (.lst []) = K2 at W2 N2 ⊢
    show tSeq _ _ _ [some (.ref a), some (.ref st), some (.ref wa), some (.ref na), none, none, none, none, none, none, none, none, none, none, none] K2
    refine q_forR1 (n := (6 : Nat)) (ea_cons ev_c ea_nil) (by decide) (fun i σ' H' => ∃ v4 tk, σ' = [some (.ref a), some (.ref st), some (.ref wa), some (.ref na), v4, none, none, none, none, none, none, none, none, none, none] ∧ tk.length = i ∧ WB st g sm wa tk H' ∧ WB st g sm na [] H') (fun H' e => ⟨_, [], rfl, rfl, W2.same e, N2.same e⟩) (fun i σ' H' hi z => ?_) (fun σ' H3 z => ?_)
    · obtain ⟨v4, tk, rfl, tl, W, N⟩ := z
      refine ⟨_, rfl, .inl ⟨rfl, _, sq_of W.hl⟩, ?_⟩
      refine ⟨_, rfl, _, rfl, st, g, sm, wa, tk, rfl, W.dr, W.hl, dr_off W.ol, by omega, fun w' H4 hw' nin nrs e4 d4 => ?_⟩
      have W4 := W.ext e4 d4
      exact ⟨wa, _, _, rfl, rfl, W4.hl, sz_lt (by rw [List.length_map]; omega), _, tk ++ [w'], rfl, by rw [List.length_append, tl]; rfl, W4.add hw' nin nrs, (N.ext e4 d4).off wn W.ol⟩
    obtain ⟨v4, ws, rfl, wl, W3, N3⟩ := z
    have l6 : ws.length = 6 := wl
    show tSeq _ _ _ [some (.ref a), some (.ref st), some (.ref wa), some (.ref na), v4, none, none, none, none, none, none, none, none, none, none] H3
    refine q_forR1 (n := (9 : Nat)) (ea_cons ev_c ea_nil) (by decide) (fun i σ' H' => ∃ v4 tk, σ' = [some (.ref a), some (.ref st), some (.ref wa), some (.ref na), v4, none, none, none, none, none, none, none, none, none, none] ∧ tk.length = i ∧ WB st g sm na tk H' ∧ WB st g sm wa ws H') (fun H' e => ⟨_, [], rfl, rfl, N3.same e, W3.same e⟩) (fun i σ' H' hi z => ?_) (fun σ' H4 z => ?_)
    · obtain ⟨v4, tk, rfl, tl, N, W⟩ := z
      refine ⟨_, rfl, .inl ⟨rfl, _, sq_of N.hl⟩, ?_⟩
      refine ⟨_, rfl, _, rfl, st, g, sm, na, tk, rfl, N.dr, N.hl, dr_off N.ol, by omega, fun w' H4 hw' nin nrs e4 d4 => ?_⟩
      have N4 := N.ext e4 d4
      exact ⟨na, _, _, rfl, rfl, N4.hl, sz_lt (by rw [List.length_map]; omega), _, tk ++ [w'], rfl, by rw [List.length_append, tl]; rfl, N4.add hw' nin nrs, (W.ext e4 d4).off wn.symm N.ol⟩
    obtain ⟨v4', nm, rfl, nl, N4, W4⟩ := z
    have l9 : nm.length = 9 := nl
    clear v4
    rename Option V => v4
    show tSeq _ _ _ [some (.ref a), some (.ref st), some (.ref wa), some (.ref na), v4, none, none, none, none, none, none, none, none, none, none] H4
    -- names
    refine q_asgL (xs := (nm.map capd).map sv) ?_ fun ta H5 nta e5 hta => ?_
    · have z := el_map (K := K) (H := H4) (σ := [some (.ref a), some (.ref st), some (.ref wa), some (.ref na), v4, none, none, none, none, none, none, none, none, none, none]) (a := na) (tl := tVar 3) (te := tOp rAddS (tM0 (fun x xs H Q => ∃ a, x = .str a ∧ xs = [] ∧ a.length ≤ 5592405 ∧ Q (.str (Txt.upper a)) H) (tSl rSlS (tVar 13) tNoPart (tPart (tC (.int 1))))) (tSl rSlS (tVar 13) (tPart (tC (.int 1))) tNoPart)) (t := tYes) (j := 13) (vs := [13]) nm sv (fun _ => true) (fun w => sv (capd w)) (ev_var rfl) (sq_of N4.hl) (by omega) Hs.wipe1 (fun x H6 e6 hx => et_yes) (fun x H6 e6 hx _ => by
        have hx' := (N4.sm x hx).1
        have hwl : (S x).length ≤ 8 := by rw [S_len]; exact hx'.le
        exact Evl.ev_is (Hy.ev_addS (a := (capd x).take 1) (b := x.drop 1) (by
          rw [List.length_take, List.length_drop]
          have := hx'.le
          show _ ≤ 30000
          omega) (Evl.ev_is (ev_upp6 (a := S (x.take 1)) (Evl.ev_is (Hs.ev_slS (z := S x) (lo := none) (hi := some 1) (ev_var rfl) eo_none (eo_some ev_c) (sz_of (by omega))) (by rw [cut_one])) (by
            rw [S_len, List.length_take]
            exact Nat.le_trans (Nat.min_le_left _ _) (by decide))) (by rw [hx'.upper]))
          (Evl.ev_is (Hs.ev_slS (z := S x) (lo := some 1) (hi := none) (ev_var rfl) (eo_some ev_c) eo_none (sz_of (by omega))) (by rw [show (1 : Int) = ((1 : Nat) : Int) from rfl, cut_n]))) (by rw [capd_drop]))
      rw [List.filter_eq_self.mpr fun _ _ => rfl] at z
      rw [List.map_map]
      exact z
    have W5 := W4.same e5
    have C9 : Cls9 (nm.map capd) := ⟨by rw [List.length_map]; exact l9, fun n hn => by
      obtain ⟨x, hx, rfl⟩ := List.mem_map.mp hn
      exact (N4.sm x hx).1.good, nodup_capd (fun w hw => (N4.sm w hw).1) N4.nd⟩
    have offta := N4.dr.off nta
    generalize nm.map capd = ts at hta C9
    clear N4 nl l9
    have at_ : ∀ i, i < 9 → ∃ n, ts[i]? = some n ∧ GoodNm n := fun i hi => by
      have hl : i < ts.length := by rw [C9.l]; exact hi
      exact ⟨ts[i], List.getElem?_eq_getElem hl, C9.g _ (List.getElem_mem hl)⟩
    obtain ⟨t0, h0, g0⟩ := at_ 0 (by decide)
    obtain ⟨t1, h1, g1⟩ := at_ 1 (by decide)
    obtain ⟨t2, h2', g2⟩ := at_ 2 (by decide)
    obtain ⟨t6, h6, g6⟩ := at_ 6 (by decide)
    obtain ⟨t7, h7, g7⟩ := at_ 7 (by decide)
    obtain ⟨t8, h8, g8⟩ := at_ 8 (by decide)
    show tSeq _ _ _ [some (.ref a), some (.ref st), some (.ref wa), some (.ref na), v4, some (.ref ta), none, none, none, none, none, none, none, none, none] H5
    refine ⟨_, rfl, _, rfl, _, rfl, st, g, sm, wa, ta, t0, ws, ts, rfl, W5.dr, W5.hl, dr_off W5.ol, hta, dr_off offta, h0, g0, l6, W5.nd, (fun w hw => word_of (W5.sm w hw).1 (W5.sm w hw).2), fun H6 e6 d6 => ⟨true, rfl, iteF ?_⟩⟩
    have hta6 := e6 _ _ hta (dr_off offta)
    have c6 : cls6.length = 6 := rfl
    have evt : ∀ {σ : L2.St} {H' : Hp} {i : Nat} {n : Nm}, σ[5]? = some (some (.ref ta)) → Ex H6 H' → ts[i]? = some n → Ev (tOp (rIxL K) (tVar 5) (tC (.int (i : Int)))) σ H' (sv n) := fun hσ e' hn => ev_at (K := K) (ev_var hσ) (e' _ _ hta6) hn
    dsimp only [tNext]
    show tSeq (tAsg (tLc _ _ _ _ _) _) _ _ [some (.ref a), some (.ref st), some (.ref wa), some (.ref na), v4, some (.ref ta), none, none, none, none, none, none, none, none, none] H6
    refine q_asgL (xs := tv (LN ts 8)) ?_ fun pl H7 npl e7 hpl => ?_
    · have z := el_mapN (K := K) (H := H6) (σ := [some (.ref a), some (.ref st), some (.ref wa), some (.ref na), v4, some (.ref ta), none, none, none, none, none, none, none, none, none]) (tl := tSl (rSlL K) (tVar 5) tNoPart (tPart (tC (.int 8)))) (te := tOp rAddS (tOp rAddS (tC (sv cls6)) (tVar 14)) (tC (sv [58]))) (t := tYes) (j := 14) (vs := [14]) (ts.take 8) sv (fun _ => true) (fun n => sv (cline n [])) (by
          have z := el_take (K := K) (σ := [some (.ref a), some (.ref st), some (.ref wa), some (.ref na), v4, some (.ref ta), none, none, none, none, none, none, none, none, none]) (H := H6) (te := tVar 5) 8 (ev_var (i := 5) rfl) (sq_of hta6)
          rw [← List.map_take] at z
          exact z) (by rw [List.length_take]; omega) Hs.wipe1 (fun x H6 e6 hx => et_yes) (fun x H6 e6 hx _ => by
          have x8 := (C9.gk 8 x hx).len.2
          have a1 := Hy.ev_addS (σ := [some (.ref a), some (.ref st), some (.ref wa), some (.ref na), v4, some (.ref ta), none, none, none, none, none, none, none, none, some (sv x)]) (H := H6) (a := cls6) (b := x) (ta := tC (sv cls6)) (tb := tVar 14) (by show _ ≤ 30000; omega) ev_c (ev_var rfl)
          have a2 := Hy.ev_addS (b := [58]) (tb := tC (sv [58])) (by show _ ≤ 30000; simp only [List.length_append, List.length_cons, List.length_nil]; omega) a1 ev_c
          exact Evl.ev_is a2 (by rw [clsT_eq]))
      rw [List.filter_eq_self.mpr fun _ _ => rfl] at z
      rw [ln_vals, List.map_map]
      exact z
    have ll := ln_len C9.l (Nat.le_refl 8)
    have ll7 := ln_len C9.l (show 7 ≤ 8 by decide)
    have l0 := g0.len.2
    have l1 := g1.len.2
    have l2 := g2.len.2
    have l6' := g6.len.2
    have l7 := g7.len.2
    have l8 := g8.len.2
    show tSeq _ _ _ [some (.ref a), some (.ref st), some (.ref wa), some (.ref na), v4, some (.ref ta), some (.ref pl), none, none, none, none, none, none, none, none] H7
    refine q_asg (v := sv (cline t8 [])) ?_ fun H8 e8 => ?_
    · have a1 := Hy.ev_addS (σ := [some (.ref a), some (.ref st), some (.ref wa), some (.ref na), v4, some (.ref ta), some (.ref pl), none, none, none, none, none, none, none, none]) (H := H7) (a := cls6) (b := t8) (ta := tC (sv cls6)) (tb := tOp (rIxL K) (tVar 5) (tC (.int 8))) (by show _ ≤ 30000; omega) ev_c (evt (i := 8) rfl e7 h8)
      have a2 := Hy.ev_addS (b := [58]) (tb := tC (sv [58])) (by show _ ≤ 30000; simp only [List.length_append, List.length_cons, List.length_nil]; omega) a1 ev_c
      exact Evl.ev_is a2 (by rw [clsT_eq])
    have f8 := e7.trans e8
    show tSeq _ _ _ [some (.ref a), some (.ref st), some (.ref wa), some (.ref na), v4, some (.ref ta), some (.ref pl), some (sv (cline t8 [])), none, none, none, none, none, none, none] H8
    refine q_asg (v := sv (cline t7 [t2, t1, t0])) ?_ fun H9 e9 => ?_
    · have a1 := Hy.ev_addS (σ := [some (.ref a), some (.ref st), some (.ref wa), some (.ref na), v4, some (.ref ta), some (.ref pl), some (sv (cline t8 [])), none, none, none, none, none, none, none]) (H := H8) (a := cls6) (b := t7) (ta := tC (sv cls6)) (tb := tOp (rIxL K) (tVar 5) (tC (.int 7))) (by show _ ≤ 30000; omega) ev_c (evt (i := 7) rfl f8 h7)
      have a2 := Hy.ev_addS (b := [40]) (tb := tC (sv [40])) (by show _ ≤ 30000; simp only [List.length_append, List.length_cons, List.length_nil]; omega) a1 ev_c
      have a3 := Hy.ev_addS (b := t2) (tb := tOp (rIxL K) (tVar 5) (tC (.int 2))) (by show _ ≤ 30000; simp only [List.length_append, List.length_cons, List.length_nil]; omega) a2 (evt (i := 2) rfl f8 h2')
      have a4 := Hy.ev_addS (b := [44, 32]) (tb := tC (sv [44, 32])) (by show _ ≤ 30000; simp only [List.length_append, List.length_cons, List.length_nil]; omega) a3 ev_c
      have a5 := Hy.ev_addS (b := t1) (tb := tOp (rIxL K) (tVar 5) (tC (.int 1))) (by show _ ≤ 30000; simp only [List.length_append, List.length_cons, List.length_nil]; omega) a4 (evt (i := 1) rfl f8 h1)
      have a6 := Hy.ev_addS (b := [44, 32]) (tb := tC (sv [44, 32])) (by show _ ≤ 30000; simp only [List.length_append, List.length_cons, List.length_nil]; omega) a5 ev_c
      have a7 := Hy.ev_addS (b := t0) (tb := tOp (rIxL K) (tVar 5) (tC (.int 0))) (by show _ ≤ 30000; simp only [List.length_append, List.length_cons, List.length_nil]; omega) a6 (evt (i := 0) rfl f8 h0)
      have a8 := Hy.ev_addS (b := [41, 58]) (tb := tC (sv [41, 58])) (by show _ ≤ 30000; simp only [List.length_append, List.length_cons, List.length_nil]; omega) a7 ev_c
      exact Evl.ev_is a8 (by rw [three_eq])
    have f9 := f8.trans e9
    show tSeq _ _ _ [some (.ref a), some (.ref st), some (.ref wa), some (.ref na), v4, some (.ref ta), some (.ref pl), some (sv (cline t8 [])), some (sv (cline t7 [t2, t1, t0])), none, none, none, none, none, none] H9
    refine q_asg (v := sv (cline t7 [t6, t2, t1, t0])) ?_ fun H10 e10 => ?_
    · have a1 := Hy.ev_addS (σ := [some (.ref a), some (.ref st), some (.ref wa), some (.ref na), v4, some (.ref ta), some (.ref pl), some (sv (cline t8 [])), some (sv (cline t7 [t2, t1, t0])), none, none, none, none, none, none]) (H := H9) (a := cls6) (b := t7) (ta := tC (sv cls6)) (tb := tOp (rIxL K) (tVar 5) (tC (.int 7))) (by show _ ≤ 30000; omega) ev_c (evt (i := 7) rfl f9 h7)
      have a2 := Hy.ev_addS (b := [40]) (tb := tC (sv [40])) (by show _ ≤ 30000; simp only [List.length_append, List.length_cons, List.length_nil]; omega) a1 ev_c
      have zj : Ev _ [some (.ref a), some (.ref st), some (.ref wa), some (.ref na), v4, some (.ref ta), some (.ref pl), some (sv (cline t8 [])), some (sv (cline t7 [t2, t1, t0])), none, none, none, none, none, none] H9 (sv (TL.joinL [44, 32] [t6, t2, t1, t0])) := Hy.ev_joinN (K := K) (T := [44, 32]) (xs := [t6, t2, t1, t0]) (to := tC (sv [44, 32])) (te := tLst (tCons (tOp (rIxL K) (tVar 5) (tC (.int 6))) (tCons (tOp (rIxL K) (tVar 5) (tC (.int 2))) (tCons (tOp (rIxL K) (tVar 5) (tC (.int 1))) (tCons (tOp (rIxL K) (tVar 5) (tC (.int 0))) tNil))))) (by
          simp only [List.map_cons, List.map_nil, List.sum_cons, List.sum_nil, List.length_cons, List.length_nil]
          omega) ev_c (el_lst (ea_cons (evt (i := 6) rfl f9 h6) (ea_cons (evt (i := 2) rfl f9 h2') (ea_cons (evt (i := 1) rfl f9 h1) (ea_cons (evt (i := 0) rfl f9 h0) ea_nil)))) (show 4 ≤ 100000 by decide))
      have jl := joinL_len (T := [44, 32]) (m := 8) (xs := [t6, t2, t1, t0]) fun x hx => by
        simp only [List.mem_cons, List.not_mem_nil, or_false] at hx
        rcases hx with rfl | rfl | rfl | rfl
        · exact l6'
        · exact l2
        · exact l1
        · exact l0
      have jl2 : (TL.joinL [44, 32] [t6, t2, t1, t0]).length ≤ 40 := jl
      have a3 := Hy.ev_addS (by show _ ≤ 30000; simp only [List.length_append, List.length_cons, List.length_nil]; omega) a2 zj
      have a4 := Hy.ev_addS (b := [41, 58]) (tb := tC (sv [41, 58])) (by show _ ≤ 30000; simp only [List.length_append, List.length_cons, List.length_nil]; omega) a3 ev_c
      exact Evl.ev_is a4 (by rw [four_eq _ (by simp)])
    have hpl10 := ((e8.trans e9).trans e10) _ _ hpl
    have f10 := f9.trans e10
    show tSeq _ _ _ [some (.ref a), some (.ref st), some (.ref wa), some (.ref na), v4, some (.ref ta), some (.ref pl), some (sv (cline t8 [])), some (sv (cline t7 [t2, t1, t0])), some (sv (cline t7 [t6, t2, t1, t0])), none, none, none, none, none] H10
    have el8 : ∀ {H' : Hp}, Ex H10 H' → EvL (tOp rCat (tVar 6) (tLst (tCons (tVar 7) tNil))) [some (.ref a), some (.ref st), some (.ref wa), some (.ref na), v4, some (.ref ta), some (.ref pl), some (sv (cline t8 [])), some (sv (cline t7 [t2, t1, t0])), some (sv (cline t7 [t6, t2, t1, t0])), none, none, none, none, none] H' (tv (LN ts 8 ++ [.odd (cline t8 [])])) := fun e' => by
      have z := el_catVL (ev_var (σ := [some (.ref a), some (.ref st), some (.ref wa), some (.ref na), v4, some (.ref ta), some (.ref pl), some (sv (cline t8 [])), some (sv (cline t7 [t2, t1, t0])), some (sv (cline t7 [t6, t2, t1, t0])), none, none, none, none, none]) (i := 6) rfl) (e' _ _ hpl10) (el_lst (ea_cons (ev_var (i := 7) rfl) ea_nil) (show 1 ≤ 100000 by decide)) (by rw [ll]; show 8 + 1 ≤ 100000; decide)
      rw [tv_app]
      exact z
    refine q_when (b := false) (et_is (et_or (et_notNone (ev_toldV (K := K) hrc C9.eight (ev_var rfl) hpl10)) fun _ => et_neSame (i := 8) (j := 8) (ev_told hrc (C9.ninth g8) (el8 (Ex.refl _))) ev_c rfl) rfl) (fun z => nomatch z) fun _ H11 e11 => ?_
    have hpl11 := e11 _ _ hpl10
    have f11 := f10.trans e11
    have el7 : ∀ {σ : L2.St} {H' : Hp}, σ[6]? = some (some (.ref pl)) → Ex H11 H' → EvL (tSl (rSlL K) (tVar 6) tNoPart (tPart (tC (.int 7)))) σ H' (tv (LN ts 7)) := fun hσ e' => by
      have z := el_take (K := K) (te := tVar 6) 7 (ev_var (i := 6) hσ) (sq_of (e' _ _ hpl11))
      rw [ln_take ts (by decide)] at z
      exact z
    -- three bases
    refine q_when (b := false) (et_notNone (ev_told (ls := LN ts 7 ++ [.cls t7 [t2, t1, t0]]) hrc (C9.three h2' h1 h0 h7) ?_)) (fun z => nomatch z) fun _ H12 e12 => ?_
    · have z := Hs.el_cat (el7 (σ := [some (.ref a), some (.ref st), some (.ref wa), some (.ref na), v4, some (.ref ta), some (.ref pl), some (sv (cline t8 [])), some (sv (cline t7 [t2, t1, t0])), some (sv (cline t7 [t6, t2, t1, t0])), none, none, none, none, none]) rfl (Ex.refl _)) (el_lst (ea_cons (ev_var (i := 8) rfl) ea_nil) (show 1 ≤ 100000 by decide)) (by rw [ll7]; show 7 + 1 ≤ 100000; decide)
      rw [tv_app]
      exact z
    have g4 : ∀ b ∈ [t6, t2, t1, t0], GoodNm b := fun x hx => by
      simp only [List.mem_cons, List.not_mem_nil, or_false] at hx
      rcases hx with rfl | rfl | rfl | rfl
      · exact g6
      · exact g2
      · exact g1
      · exact g0
    -- four bases
    refine q_when (b := false) (et_neSame (i := 7) (j := 7) (ev_told (ls := LN ts 7 ++ .odd (cline t7 [t6, t2, t1, t0]) :: [.odd (cline t8 [])]) hrc (C9.four g7 g4 rfl (cons_good (l := .odd (cline t8 [])) (good_cls g8 (bs := []) (fun b hb => by cases hb) (Nat.zero_le _)) nil_good) (show 1 ≤ 10 by decide)) ?_) ev_c rfl) (fun z => nomatch z) fun _ H13 e13 => ?_
    · have z := Hs.el_cat (el7 (σ := [some (.ref a), some (.ref st), some (.ref wa), some (.ref na), v4, some (.ref ta), some (.ref pl), some (sv (cline t8 [])), some (sv (cline t7 [t2, t1, t0])), some (sv (cline t7 [t6, t2, t1, t0])), none, none, none, none, none]) rfl e12) (el_lst (ea_cons (ev_var (i := 9) rfl) (ea_cons (ev_var (i := 7) rfl) ea_nil)) (show 2 ≤ 100000 by decide)) (by rw [ll7]; show 7 + 2 ≤ 100000; decide)
      rw [tv_app]
      exact z
    have f13 := (f11.trans e12).trans e13
    have hM8 : (List.replicate 8 113).length = 8 := rfl
    have hMm : ∀ c ∈ List.replicate 8 113, c ∈ [113] := by decide
    obtain ⟨_, c9n, c9l, c9s⟩ := cls_eight g0 hM8 hMm
    obtain ⟨c8g, _, _, _⟩ := cls_eight g8 hM8 hMm
    -- nine signs
    have z9 : ∀ {H' : Hp}, Ex H6 H' → Ev (tSl rSlS (tOp rAddS (tOp (rIxL K) (tVar 5) (tC (.int 0))) (tOp rMulS (tC (sv [113])) (tC (.int 8)))) tNoPart (tPart (tC (.int 9)))) [some (.ref a), some (.ref st), some (.ref wa), some (.ref na), v4, some (.ref ta), some (.ref pl), some (sv (cline t8 [])), some (sv (cline t7 [t2, t1, t0])), some (sv (cline t7 [t6, t2, t1, t0])), none, none, none, none, none] H' (sv ((t0 ++ List.replicate 8 113).take 9)) := fun e' => Evl.ev_is (Hs.ev_slS (lo := none) (hi := some ((9 : Nat) : Int)) (Hy.ev_addS (a := t0) (b := List.replicate 8 113) (by show t0.length + 8 ≤ 30000; omega) (evt (i := 0) rfl e' h0) ev_q8) eo_none (eo_some ev_c) (by
      rw [S_len, List.length_append, hM8]
      exact sz_of (by omega))) (by rw [cut_to])
    generalize hn9 : (t0 ++ List.replicate 8 113).take 9 = n9 at c9n c9l c9s z9
    refine q_asg (v := sv (cline n9 [])) ?_ fun H14 e14 => ?_
    · have a1 := Hy.ev_addS (σ := [some (.ref a), some (.ref st), some (.ref wa), some (.ref na), v4, some (.ref ta), some (.ref pl), some (sv (cline t8 [])), some (sv (cline t7 [t2, t1, t0])), some (sv (cline t7 [t6, t2, t1, t0])), none, none, none, none, none]) (H := H13) (a := cls6) (b := n9) (ta := tC (sv cls6)) (by show _ ≤ 30000; omega) ev_c (z9 f13)
      have a2 := Hy.ev_addS (b := [58]) (tb := tC (sv [58])) (by show _ ≤ 30000; simp only [List.length_append, List.length_cons, List.length_nil]; omega) a1 ev_c
      exact Evl.ev_is a2 (by rw [clsT_eq])
    have f14 := f13.trans e14
    show tSeq _ _ _ [some (.ref a), some (.ref st), some (.ref wa), some (.ref na), v4, some (.ref ta), some (.ref pl), some (sv (cline t8 [])), some (sv (cline t7 [t2, t1, t0])), some (sv (cline t7 [t6, t2, t1, t0])), some (sv (cline n9 [])), none, none, none, none] H14
    have z8 : ∀ {H' : Hp}, Ex H6 H' → Ev (tSl rSlS (tOp rAddS (tOp (rIxL K) (tVar 5) (tC (.int 8))) (tOp rMulS (tC (sv [113])) (tC (.int 8)))) tNoPart (tPart (tC (.int 8)))) [some (.ref a), some (.ref st), some (.ref wa), some (.ref na), v4, some (.ref ta), some (.ref pl), some (sv (cline t8 [])), some (sv (cline t7 [t2, t1, t0])), some (sv (cline t7 [t6, t2, t1, t0])), some (sv (cline n9 [])), none, none, none, none] H' (sv ((t8 ++ List.replicate 8 113).take 8)) := fun e' => Evl.ev_is (Hs.ev_slS (lo := none) (hi := some ((8 : Nat) : Int)) (Hy.ev_addS (a := t8) (b := List.replicate 8 113) (by show t8.length + 8 ≤ 30000; omega) (evt (i := 8) rfl e' h8) ev_q8) eo_none (eo_some ev_c) (by
      rw [S_len, List.length_append, hM8]
      exact sz_of (by omega))) (by rw [cut_to])
    generalize hn8 : (t8 ++ List.replicate 8 113).take 8 = n8 at c8g z8
    have n8l := c8g.len.2
    refine q_asg (v := sv (cline n8 [])) ?_ fun H15 e15 => ?_
    · have a1 := Hy.ev_addS (σ := [some (.ref a), some (.ref st), some (.ref wa), some (.ref na), v4, some (.ref ta), some (.ref pl), some (sv (cline t8 [])), some (sv (cline t7 [t2, t1, t0])), some (sv (cline t7 [t6, t2, t1, t0])), some (sv (cline n9 [])), none, none, none, none]) (H := H14) (a := cls6) (b := n8) (ta := tC (sv cls6)) (by show _ ≤ 30000; omega) ev_c (z8 f14)
      have a2 := Hy.ev_addS (b := [58]) (tb := tC (sv [58])) (by show _ ≤ 30000; simp only [List.length_append, List.length_cons, List.length_nil]; omega) a1 ev_c
      exact Evl.ev_is a2 (by rw [clsT_eq])
    have opl : pl ≠ st ∧ pl ≠ g ∧ pl ≠ sm := d6.off npl
    have d15 := d6.same (f14.trans e15)
    have hpl15 := ((((e12.trans e13).trans e14).trans e15)) _ _ hpl11
    show tSeq _ _ _ [some (.ref a), some (.ref st), some (.ref wa), some (.ref na), v4, some (.ref ta), some (.ref pl), some (sv (cline t8 [])), some (sv (cline t7 [t2, t1, t0])), some (sv (cline t7 [t6, t2, t1, t0])), some (sv (cline n9 [])), some (sv (cline n8 [])), none, none, none] H15
    refine q_asgX ?_
    refine ⟨_, rfl, st, g, sm, 8, rfl, d15, by decide, by decide, fun r H16 r0 r8 e16 d16 => ?_⟩
    obtain ⟨j, rfl⟩ := Int.eq_ofNat_of_zero_le r0
    have j8 : j ≤ 8 := by omega
    have hpl16 := e16 _ _ hpl15 (dr_off opl)
    show tSeq _ _ _ [some (.ref a), some (.ref st), some (.ref wa), some (.ref na), v4, some (.ref ta), some (.ref pl), some (sv (cline t8 [])), some (sv (cline t7 [t2, t1, t0])), some (sv (cline t7 [t6, t2, t1, t0])), some (sv (cline n9 [])), some (sv (cline n8 [])), some (.int (j : Int)), none, none] H16
    have gd : ∀ l ∈ ((ts.take 8).drop j).map fun n => L6.cls n [], GoodL (tx6 l) := good_names fun n hn => C9.gk 8 n (List.mem_of_mem_drop hn)
    have hd8 : (tv (LN ts 8)).drop j = tv (((ts.take 8).drop j).map fun n => L6.cls n []) := by
      unfold LN
      rw [tv_drop, List.map_drop]
    refine q_when (b := false) (et_neSame (i := (j : Int)) (j := (j : Int)) (ev_told (ls := LN ts j ++ .odd (cline n9 []) :: ((ts.take 8).drop j).map fun n => L6.cls n []) hrc (C9.long j8 c9n (fun z => absurd (c9s _ z) (by decide)) (fun z => absurd (c9s _ z) (by decide)) (by omega) gd (by
        rw [List.length_map, List.length_drop, List.length_take]
        omega)) ?_) (ev_var rfl) rfl) (fun z => nomatch z) fun _ H17 e17 => ?_
    · have z1 := el_takeV (K := K) (k := j) (σ := [some (.ref a), some (.ref st), some (.ref wa), some (.ref na), v4, some (.ref ta), some (.ref pl), some (sv (cline t8 [])), some (sv (cline t7 [t2, t1, t0])), some (sv (cline t7 [t6, t2, t1, t0])), some (sv (cline n9 [])), some (sv (cline n8 [])), some (.int (j : Int)), none, none]) (H := H16) (te := tVar 6) (ta := tVar 12) (ev_var (i := 6) rfl) (ev_var (i := 12) rfl) (sq_of hpl16)
      rw [ln_take ts j8] at z1
      have z2 := el_dropV (K := K) (k := j) (σ := [some (.ref a), some (.ref st), some (.ref wa), some (.ref na), v4, some (.ref ta), some (.ref pl), some (sv (cline t8 [])), some (sv (cline t7 [t2, t1, t0])), some (sv (cline t7 [t6, t2, t1, t0])), some (sv (cline n9 [])), some (sv (cline n8 [])), some (.int (j : Int)), none, none]) (H := H16) (te := tVar 6) (ta := tVar 12) (ev_var (i := 6) rfl) (ev_var (i := 12) rfl) (sq_of hpl16)
      rw [hd8] at z2
      have lj := ln_len C9.l j8
      have z := Hs.el_cat (Hs.el_cat z1 (el_lst (ea_cons (ev_var (i := 10) rfl) ea_nil) (show 1 ≤ 100000 by decide)) (by
        rw [lj]
        show j + 1 ≤ 100000
        omega)) z2 (by
        rw [List.length_append, lj, tv_len, List.length_map, List.length_drop, List.length_take, List.length_singleton]
        omega)
      have e : tv (LN ts j) ++ [sv (cline n9 [])] ++ tv (((ts.take 8).drop j).map fun n => L6.cls n []) = tv (LN ts j ++ .odd (cline n9 []) :: ((ts.take 8).drop j).map fun n => L6.cls n []) := by
        rw [tv_app]
        show _ = _ ++ (sv (cline n9 []) :: tv _)
        simp
      rw [e] at z
      exact z
    have hpl17 := e17 _ _ hpl16
    have zt7 : ∀ {H' : Hp}, Ex H17 H' → EvL (tSl (rSlL K) (tVar 6) tNoPart (tPart (tC (.int 7)))) [some (.ref a), some (.ref st), some (.ref wa), some (.ref na), v4, some (.ref ta), some (.ref pl), some (sv (cline t8 [])), some (sv (cline t7 [t2, t1, t0])), some (sv (cline t7 [t6, t2, t1, t0])), some (sv (cline n9 [])), some (sv (cline n8 [])), some (.int (j : Int)), none, none] H' (tv (LN ts 7)) := fun e' => by
      have z := el_take (K := K) (σ := [some (.ref a), some (.ref st), some (.ref wa), some (.ref na), v4, some (.ref ta), some (.ref pl), some (sv (cline t8 [])), some (sv (cline t7 [t2, t1, t0])), some (sv (cline t7 [t6, t2, t1, t0])), some (sv (cline n9 [])), some (sv (cline n8 [])), some (.int (j : Int)), none, none]) (te := tVar 6) 7 (ev_var (i := 6) rfl) (sq_of (e' _ _ hpl17))
      rw [ln_take ts (by decide)] at z
      exact z
    have hin : Ev (tOp (rIn K false) (tVar 11) (tSl (rSlL K) (tVar 6) tNoPart (tPart (tC (.int 7))))) [some (.ref a), some (.ref st), some (.ref wa), some (.ref na), v4, some (.ref ta), some (.ref pl), some (sv (cline t8 [])), some (sv (cline t7 [t2, t1, t0])), some (sv (cline t7 [t6, t2, t1, t0])), some (sv (cline n9 [])), some (sv (cline n8 [])), some (.int (j : Int)), none, none] H17 (.bl (decide (cline n8 [] ∈ (ts.take 7).map fun n => cline n []))) := by
      refine Hy.ev_inL (K := K) (x := cline n8 []) (l := (ts.take 7).map fun n => cline n []) (ev_var rfl) ?_
      have z := zt7 (Ex.refl _)
      rw [ln_vals] at z
      exact z
    show tRet _ _ [some (.ref a), some (.ref st), some (.ref wa), some (.ref na), v4, some (.ref ta), some (.ref pl), some (sv (cline t8 [])), some (sv (cline t7 [t2, t1, t0])), some (sv (cline t7 [t6, t2, t1, t0])), some (sv (cline n9 [])), some (sv (cline n8 [])), some (.int (j : Int)), none, none] H17
    refine s_ret (v := .bl true) (Evl.ev_is (ev_orV (b := true) hin fun hb => ev_isNone (ev_told (ls := LN ts 7 ++ [.cls n8 []]) hrc (C9.last c8g (fun z => by
      have hnn := of_decide_eq_false hb
      exact hnn (List.mem_map.mpr ⟨n8, z, rfl⟩))) ?_)) (by rw [Bool.or_true])) fun H18 e18 => q H18
    have z := Hs.el_cat (zt7 (Ex.refl _)) (el_lst (ea_cons (ev_var (i := 11) rfl) ea_nil) (show 1 ≤ 100000 by decide)) (by rw [ll7]; show 7 + 1 ≤ 100000; decide)
    rw [tv_app]
    exact z
end
end Hv
/-! module HzTakeAll -/
set_option maxHeartbeats 4000000
/-! take of class lines with what the new class holds; all of take. -/
namespace Hz
open PySem PySem.Spec PyProof.Rows L2 Evl Hc Hs Hy
section
variable {P : Program} {w : World} {K : PySem.W.Frag} {mg : Str → Option Value} {base : Heap} {CR CT : Addr}
theorem ok_take2 {f : Addr} {fd : FuncData} {k : Nat} (F : Fun K "take" "Reader.take" sTake f fd) (c : RdC K CR) (rT : Hy.Rt P w K mg base CR "_take_class" k ["self", "line"] (spTake2 CR CT)) (nT : True) : FnOk P w K mg base CX0 (k + 1) f fd ["self", "line"] (spTake2 CR CT) := by
  refine F.ok scTake (fun vs H Q E h => ?_) (fun cdv A outer s H vs Q E hr h => ?_)
  · obtain ⟨r, d, dr, n, bs, es, ow, me, rfl, _⟩ := h
    rfl
  · have h0 := h
    obtain ⟨r, d, dr, n, bs, es, ow, me, rfl, gn, gb, nd, hb3, hn, hbs, h8, ho8, hr', hdb, q⟩ := h
    refine ⟨_, pss_cons (ps_if (pt_val (pe_m1 PySem.F.slot_str_startswith PySem.F.type_str_startswith mt_startswith (pv 1) pe_str)) (pss_one ps_never) pss_nil)
      (pss_cons (ps_if (pt_val (pe_m1 PySem.F.slot_str_startswith PySem.F.type_str_startswith mt_startswith (pv 1) pe_str)) (pss_one ps_never) pss_nil)
      (pss_one (ps_ret (Hy.pe_rt (pv 0) c.cl rT hr (Nat.le_refl _) (pa_cons (pv 1) pa_nil))))), ?_⟩
    have hs : ∀ m : List Nat, startsL (cline n bs) (32 :: m) = false := fun m => by
      unfold startsL
      rw [Bool.and_eq_false_iff]
      refine .inr ?_
      have e : (cline n bs).take (32 :: m).length = 99 :: ((cline n bs).drop 1).take m.length := rfl
      rw [e]
      exact beq_eq_false_iff_ne.mpr fun z => by cases z
    refine q_when (b := false) (et_is (et_B (ev_startsS (M := [32, 32, 32, 32, 32, 32, 32, 32]) (ev_var rfl) ev_c)) (hs _)) (fun z => nomatch z) fun _ H1 f1 => ?_
    refine q_when (b := false) (et_is (et_B (ev_startsS (M := [32, 32, 32, 32]) (ev_var rfl) ev_c)) (hs _)) (fun z => nomatch z) fun _ H2 f2 => ?_
    have e2 := f1.trans f2
    refine ⟨_, rfl, r, dr, _, rfl, e2 _ _ hr', rfl, _, rfl, ?_⟩
    refine ⟨r, d, dr, n, bs, es, ow, me, rfl, gn, gb, nd, hb3, hn, hbs, h8, ho8, e2 _ _ hr', hdb.ex e2, ?_⟩
    cases q2 : merge (rowsB es bs) with
    | none =>
      rw [q2] at q
      exact fun H' ex => q H' (e2.trans ex)
    | some m =>
      rw [q2] at q
      exact fun H' e dx fd dd h1 h2 ex a1 a2 a3 a4 a5 a6 a7 a8 a9 a10 => q H' e dx fd dd h1 h2 ((ext_ex e2).trans ex) a1 a2 a3 a4 a5 a6 a7 a8 (fresh_back e2 a9) (fresh_back e2 a10)
theorem ok_take_all {C : Cs} {R D f : Addr} {fd : FuncData} {k : Nat} (F : Fun K "take" "Reader.take" sTake f fd) (c : RdC K CR) (r1 : Hy.Rt P w K mg base CR "_take_class" k ["self", "line"] (spTake2 CR CT)) (r2 : Hy.Rt P w K mg base CR "_take_class" k ["self", "line"] (spTakeN CR CT)) (r3 : Hy.Rt P w K mg base CR "_take_member" k ["self", "text"] (spMember C R D CR CT)) (r4 : Hy.Rt P w K mg base CR "_take_row" k ["self", "text"] (spTakeR C R D CR)) : FnOk P w K mg base CX0 (k + 1) f fd ["self", "line"] (sp6 C R D CR CT) :=
  ok_or (ok_take2 F c r1 trivial) (ok_or (ok_takeNT F c r2) (ok_take6 F c r3 r4))
end
end Hz
/-! module HvFin -/
set_option maxHeartbeats 8000000
namespace Hv
open PySem PySem.Spec PyProof.Rows L2 Hc Hs Hy Hz
theorem exEx6_ok {K : PySem.W.Frag} {mg : Str → Option Value} {x f : Str} {d : ErrD} (h : exEx6 K x f d = true) (g : mg x = some (.ref (He.ga K x))) : XcC K mg x (He.ga K x) f (He.ma K (He.ga K x) "__init__") := by
  unfold exEx6 at h
  simp only [Bool.and_eq_true, decide_eq_true_eq] at h
  obtain ⟨y1, y2, y3, y4, y5, y6, y7⟩ := h
  have xb := xcOk_ok y2
  exact ⟨g, ⟨oexB_ok y1, xb.sa, xb.xf.exC, y6, xb.kC⟩, y3, y4, xb.xf, y5, y7⟩
theorem clsB_ok {K : PySem.W.Frag} {x : Str} (h : clsB K x = true) : PySem.W.findIn K (.ref (He.ga K x)) "__class__" = some (some (.builtin "object.__class__")) ∧ PySem.W.mroIn K (He.ga K x) (.type "object") = some true := by
  unfold clsB at h
  simp only [Bool.and_eq_true, decide_eq_true_eq] at h
  exact h
theorem getB_ok {K : PySem.W.Frag} (h : getB K = true) : PySem.W.specialIn K (.builtin "object.__class__") "__get__" = some (some (.builtin "getset_descriptor.__get__")) ∧ PySem.W.takesIn K (.builtin "object.__class__") = some true := by
  unfold getB at h
  simp only [Bool.and_eq_true, decide_eq_true_eq] at h
  exact h
theorem strsB_ok : ∀ {vs : List Value} {Ls : List (List Nat)}, strsB vs Ls = true → Vals (Ls.map fun x => V.str (S x)) vs := by
  intro vs
  induction vs with
  | nil =>
    intro Ls h
    cases Ls with
    | nil => exact .nil
    | cons a b => exact absurd h Bool.false_ne_true
  | cons v r ih =>
    intro Ls h
    cases Ls with
    | nil => cases v <;> exact absurd h Bool.false_ne_true
    | cons L ls =>
      cases v with
      | str x t =>
        have h' : (decide (x = S L) && strsB r ls) = true := h
        rw [Bool.and_eq_true, decide_eq_true_eq] at h'
        refine .cons ⟨t, ?_⟩ (ih h'.2)
        rw [h'.1]
      | _ => exact absurd h Bool.false_ne_true
theorem tupB_ok {K : PySem.W.Frag} {x : Str} {Ls : List (List Nat)} (h : tupB K x Ls = true) (H : Hp) : SqT K H (He.ga K x) (Ls.map fun x => V.str (S x)) := by
  unfold tupB at h
  split at h
  · rename_i o ho
    rw [Bool.and_eq_true, decide_eq_true_eq] at h
    obtain ⟨h1, h2⟩ := h
    split at h2
    · rename_i its n hd
      rw [Bool.and_eq_true, decide_eq_true_eq] at h2
      exact .inr ⟨o, its, n, ho, h1, hd, Nat.le_trans h2.1 (by decide), strsB_ok h2.2⟩
    · cases h2
  · cases h
theorem pr_of6 {P : Program} {w : World} {K : PySem.W.Frag} {mg : Str → Option Value} {base : Heap} {C : Addr} {f q fld : Str} {st : Stmt} {p1 p2 p3 : Pos} (h : propB K C f = true) (e : fnA K (gAd K C f) = fnVal f q st) (cd : codeA K (gAd K C f) q = true) (S : FnScope ["self"] ["self"] (defScope st)) (hb : defBody st = [.Return (some (.Attribute (.Name "self" p1) fld p2)) p3])
    (bd : ∀ (kV doc pm : Value) (an : Option Addr) (cdv ct : Value) (us : List Value), us.length = 1 → bindArgs (PySem.W.fnOf f q (defArgs st) (defBody st) (defScope st) .none kV doc pm an cdv ct) ⟨us, []⟩ = pure ((["self"] : List Str).zip us)) (c : Cls K C) (n : NoAttr K C fld) : Pr P w K mg base C f fld 1 := by
  obtain ⟨oc, od, osl, kV, doc, pm, an, cdv, ct, lk, hcd⟩ := fnA_ok e cd
  exact ⟨_, _, _, propB_ok h, .all fun us hl => bd kV doc pm an cdv ct us hl, fn_getter lk hcd S rfl hb c n⟩

theorem facts06 {P : Program} {w : World} {K : PySem.W.Frag} {h : Heap} {mg : Str → Option Value} {f : Addr} (X : K.In h) (G : h.Ns mainGlobals mg) (hfa : mg ("law" : Str) = some (.ref f)) (x : ex06 K = true) (c : He.SaysD fa06 fn06 K) (gg : gt06 K = gv06) :
    ∃ fd : FuncData, (∀ (s : Shared) (v : Value), BindsTo s fd ⟨[v], []⟩ [("_law_script", v)]) ∧ ∀ base : Heap, K.In base → base.Ns mainGlobals mg → FnOk P w K mg base CX0 25 f fd ["_law_script"] (spLaw6 K) := by
  obtain ⟨fd__law_start, F__law_start⟩ := def_of (x := "_law_start") (st := top 70) c 0
  have g__law_start := He.glo_ok X G (c.fact 0 (f := .glo "_law_start") rfl)
  have b__law_start : Binds K fd__law_start ["_law_script"] [] := F__law_start.binds fun _ _ _ _ _ _ us hl => match us, hl with | [_], _ => rfl
  obtain ⟨fd__law_draw, F__law_draw⟩ := def_of (x := "_law_draw") (st := top 71) c 1
  have g__law_draw := He.glo_ok X G (c.fact 1 (f := .glo "_law_draw") rfl)
  have b__law_draw : Binds K fd__law_draw ["_law_state", "_law_many"] [] := F__law_draw.binds fun _ _ _ _ _ _ us hl => match us, hl with | [_, _], _ => rfl
  obtain ⟨fd__law_of, F__law_of⟩ := def_of (x := "_law_of") (st := top 72) c 2
  have g__law_of := He.glo_ok X G (c.fact 2 (f := .glo "_law_of") rfl)
  have b__law_of : Binds K fd__law_of ["_law_state", "_law_some"] [] := F__law_of.binds fun _ _ _ _ _ _ us hl => match us, hl with | [_, _], _ => rfl
  obtain ⟨fd__law_word, F__law_word⟩ := def_of (x := "_law_word") (st := top 73) c 3
  have g__law_word := He.glo_ok X G (c.fact 3 (f := .glo "_law_word") rfl)
  have b__law_word : Binds K fd__law_word ["_law_state", "_law_taken"] [] := F__law_word.binds fun _ _ _ _ _ _ us hl => match us, hl with | [_, _], _ => rfl
  obtain ⟨fd__law_tree, F__law_tree⟩ := def_of (x := "_law_tree") (st := top 74) c 4
  have g__law_tree := He.glo_ok X G (c.fact 4 (f := .glo "_law_tree") rfl)
  have b__law_tree : Binds K fd__law_tree ["_law_state", "_law_floors", "_law_room"] [] := F__law_tree.binds fun _ _ _ _ _ _ us hl => match us, hl with | [_, _, _], _ => rfl
  obtain ⟨fd__law_lists, F__law_lists⟩ := def_of (x := "_law_lists") (st := top 75) c 5
  have g__law_lists := He.glo_ok X G (c.fact 5 (f := .glo "_law_lists") rfl)
  have b__law_lists : Binds K fd__law_lists ["_law_tree_here"] [] := F__law_lists.binds fun _ _ _ _ _ _ us hl => match us, hl with | [_], _ => rfl
  obtain ⟨fd__law_text, F__law_text⟩ := def_of (x := "_law_text") (st := top 77) c 6
  have g__law_text := He.glo_ok X G (c.fact 6 (f := .glo "_law_text") rfl)
  have b__law_text : Binds K fd__law_text ["_law_tree_here"] [] := F__law_text.binds fun _ _ _ _ _ _ us hl => match us, hl with | [_], _ => rfl
  obtain ⟨fd__law_told, F__law_told⟩ := def_of (x := "_law_told") (st := top 78) c 7
  have g__law_told := He.glo_ok X G (c.fact 7 (f := .glo "_law_told") rfl)
  have b__law_told : Binds K fd__law_told ["_law_lines"] [] := F__law_told.binds fun _ _ _ _ _ _ us hl => match us, hl with | [_], _ => rfl
  obtain ⟨fd__law_full, F__law_full⟩ := def_of (x := "_law_full") (st := top 79) c 8
  have g__law_full := He.glo_ok X G (c.fact 8 (f := .glo "_law_full") rfl)
  have b__law_full : Binds K fd__law_full ["_law_state", "_law_name", "_law_words"] [] := F__law_full.binds fun _ _ _ _ _ _ us hl => match us, hl with | [_, _, _], _ => rfl
  obtain ⟨fd__law_flat, F__law_flat⟩ := def_of (x := "_law_flat") (st := top 80) c 9
  have g__law_flat := He.glo_ok X G (c.fact 9 (f := .glo "_law_flat") rfl)
  have b__law_flat : Binds K fd__law_flat ["_law_pieces"] [] := F__law_flat.binds fun _ _ _ _ _ _ us hl => match us, hl with | [_], _ => rfl
  obtain ⟨fd__law_right, F__law_right⟩ := def_of (x := "_law_right") (st := top 81) c 10
  have g__law_right := He.glo_ok X G (c.fact 10 (f := .glo "_law_right") rfl)
  have b__law_right : Binds K fd__law_right ["_law_state", "_law_words", "_law_names"] [] := F__law_right.binds fun _ _ _ _ _ _ us hl => match us, hl with | [_, _, _], _ => rfl
  obtain ⟨fd_law, F_law⟩ := def_of (x := "law") (st := top 82) c 11
  have g_law := He.glo_ok X G (c.fact 11 (f := .glo "law") rfl)
  have b_law : Binds K fd_law ["_law_script"] [] := F_law.binds fun _ _ _ _ _ _ us hl => match us, hl with | [_], _ => rfl
  obtain ⟨fd_are_small, F_are_small⟩ := def_of (x := "are_small") (st := top 11) c 12
  have g_are_small := He.glo_ok X G (c.fact 12 (f := .glo "are_small") rfl)
  have b_are_small : Binds K fd_are_small ["text"] [] := F_are_small.binds fun _ _ _ _ _ _ us hl => match us, hl with | [_], _ => rfl
  obtain ⟨fd_is_word, F_is_word⟩ := def_of (x := "is_word") (st := top 12) c 13
  have g_is_word := He.glo_ok X G (c.fact 13 (f := .glo "is_word") rfl)
  have b_is_word : Binds K fd_is_word ["text"] [] := F_is_word.binds fun _ _ _ _ _ _ us hl => match us, hl with | [_], _ => rfl
  obtain ⟨fd_is_class_name, F_is_class_name⟩ := def_of (x := "is_class_name") (st := top 13) c 14
  have g_is_class_name := He.glo_ok X G (c.fact 14 (f := .glo "is_class_name") rfl)
  have b_is_class_name : Binds K fd_is_class_name ["text"] [] := F_is_class_name.binds fun _ _ _ _ _ _ us hl => match us, hl with | [_], _ => rfl
  obtain ⟨fd_parts_of, F_parts_of⟩ := def_of (x := "parts_of") (st := top 14) c 15
  have g_parts_of := He.glo_ok X G (c.fact 15 (f := .glo "parts_of") rfl)
  have b_parts_of : Binds K fd_parts_of ["text"] [] := F_parts_of.binds fun _ _ _ _ _ _ us hl => match us, hl with | [_], _ => rfl
  obtain ⟨fd_is_shape, F_is_shape⟩ := def_of (x := "is_shape") (st := top 19) c 16
  have g_is_shape := He.glo_ok X G (c.fact 16 (f := .glo "is_shape") rfl)
  have b_is_shape : Binds K fd_is_shape ["text"] [] := F_is_shape.binds fun _ _ _ _ _ _ us hl => match us, hl with | [_], _ => rfl
  obtain ⟨fd_has_form, F_has_form⟩ := def_of (x := "has_form") (st := top 20) c 17
  have g_has_form := He.glo_ok X G (c.fact 17 (f := .glo "has_form") rfl)
  have b_has_form : Binds K fd_has_form ["text", "floors"] [] := F_has_form.binds fun _ _ _ _ _ _ us hl => match us, hl with | [_, _], _ => rfl
  obtain ⟨fd_lone_word, F_lone_word⟩ := def_of (x := "lone_word") (st := top 34) c 18
  have g_lone_word := He.glo_ok X G (c.fact 18 (f := .glo "lone_word") rfl)
  have b_lone_word : Binds K fd_lone_word ["part"] [] := F_lone_word.binds fun _ _ _ _ _ _ us hl => match us, hl with | [_], _ => rfl
  obtain ⟨fd_uncopied, F_uncopied⟩ := def_of (x := "uncopied") (st := top 35) c 19
  have g_uncopied := He.glo_ok X G (c.fact 19 (f := .glo "uncopied") rfl)
  have b_uncopied : Binds K fd_uncopied ["row"] [] := F_uncopied.binds fun _ _ _ _ _ _ us hl => match us, hl with | [_], _ => rfl
  obtain ⟨fd_has_super, F_has_super⟩ := def_of (x := "has_super") (st := top 36) c 20
  have g_has_super := He.glo_ok X G (c.fact 20 (f := .glo "has_super") rfl)
  have b_has_super : Binds K fd_has_super ["row"] [] := F_has_super.binds fun _ _ _ _ _ _ us hl => match us, hl with | [_], _ => rfl
  obtain ⟨fd_read_step, F_read_step⟩ := def_of (x := "read_step") (st := top 37) c 21
  have g_read_step := He.glo_ok X G (c.fact 21 (f := .glo "read_step") rfl)
  have b_read_step : Binds K fd_read_step ["text"] [] := F_read_step.binds fun _ _ _ _ _ _ us hl => match us, hl with | [_], _ => rfl
  obtain ⟨fd_read_path, F_read_path⟩ := def_of (x := "read_path") (st := top 38) c 22
  have g_read_path := He.glo_ok X G (c.fact 22 (f := .glo "read_path") rfl)
  have b_read_path : Binds K fd_read_path ["text"] [] := F_read_path.binds fun _ _ _ _ _ _ us hl => match us, hl with | [_], _ => rfl
  obtain ⟨fd_copied_part, F_copied_part⟩ := def_of (x := "copied_part") (st := top 39) c 23
  have g_copied_part := He.glo_ok X G (c.fact 23 (f := .glo "copied_part") rfl)
  have b_copied_part : Binds K fd_copied_part ["text"] [] := F_copied_part.binds fun _ _ _ _ _ _ us hl => match us, hl with | [_], _ => rfl
  obtain ⟨fd_read_simple, F_read_simple⟩ := def_of (x := "read_simple") (st := top 40) c 24
  have g_read_simple := He.glo_ok X G (c.fact 24 (f := .glo "read_simple") rfl)
  have b_read_simple : Binds K fd_read_simple ["text"] [] := F_read_simple.binds fun _ _ _ _ _ _ us hl => match us, hl with | [_], _ => rfl
  obtain ⟨fd_read_term, F_read_term⟩ := def_of (x := "read_term") (st := top 45) c 25
  have g_read_term := He.glo_ok X G (c.fact 25 (f := .glo "read_term") rfl)
  have b_read_term : Binds K fd_read_term ["text"] [] := F_read_term.binds fun _ _ _ _ _ _ us hl => match us, hl with | [_], _ => rfl
  obtain ⟨fd_read_row, F_read_row⟩ := def_of (x := "read_row") (st := top 46) c 26
  have g_read_row := He.glo_ok X G (c.fact 26 (f := .glo "read_row") rfl)
  have b_read_row : Binds K fd_read_row ["text"] [] := F_read_row.binds fun _ _ _ _ _ _ us hl => match us, hl with | [_], _ => rfl
  obtain ⟨fd_lines_of, F_lines_of⟩ := def_of (x := "lines_of") (st := top 58) c 27
  have g_lines_of := He.glo_ok X G (c.fact 27 (f := .glo "lines_of") rfl)
  have b_lines_of : Binds K fd_lines_of ["text"] [] := F_lines_of.binds fun _ _ _ _ _ _ us hl => match us, hl with | [_], _ => rfl
  obtain ⟨fd_next_merged, F_next_merged⟩ := def_of (x := "next_merged") (st := top 59) c 28
  have g_next_merged := He.glo_ok X G (c.fact 28 (f := .glo "next_merged") rfl)
  have b_next_merged : Binds K fd_next_merged ["rows"] [] := F_next_merged.binds fun _ _ _ _ _ _ us hl => match us, hl with | [_], _ => rfl
  obtain ⟨fd_merged, F_merged⟩ := def_of (x := "merged") (st := top 60) c 29
  have g_merged := He.glo_ok X G (c.fact 29 (f := .glo "merged") rfl)
  have b_merged : Binds K fd_merged ["rows"] [] := F_merged.binds fun _ _ _ _ _ _ us hl => match us, hl with | [_], _ => rfl
  obtain ⟨fd_read_class_line, F_read_class_line⟩ := def_of (x := "read_class_line") (st := top 61) c 30
  have g_read_class_line := He.glo_ok X G (c.fact 30 (f := .glo "read_class_line") rfl)
  have b_read_class_line : Binds K fd_read_class_line ["line"] [] := F_read_class_line.binds fun _ _ _ _ _ _ us hl => match us, hl with | [_], _ => rfl
  obtain ⟨fd_read_kind, F_read_kind⟩ := def_of (x := "read_kind") (st := top 62) c 31
  have g_read_kind := He.glo_ok X G (c.fact 31 (f := .glo "read_kind") rfl)
  have b_read_kind : Binds K fd_read_kind ["text"] [] := F_read_kind.binds fun _ _ _ _ _ _ us hl => match us, hl with | [_], _ => rfl
  obtain ⟨fd_read_parameter, F_read_parameter⟩ := def_of (x := "read_parameter") (st := top 63) c 32
  have g_read_parameter := He.glo_ok X G (c.fact 32 (f := .glo "read_parameter") rfl)
  have b_read_parameter : Binds K fd_read_parameter ["text"] [] := F_read_parameter.binds fun _ _ _ _ _ _ us hl => match us, hl with | [_], _ => rfl
  obtain ⟨fd_read_parameters, F_read_parameters⟩ := def_of (x := "read_parameters") (st := top 64) c 33
  have g_read_parameters := He.glo_ok X G (c.fact 33 (f := .glo "read_parameters") rfl)
  have b_read_parameters : Binds K fd_read_parameters ["text"] [] := F_read_parameters.binds fun _ _ _ _ _ _ us hl => match us, hl with | [_], _ => rfl
  obtain ⟨fd_can_stand, F_can_stand⟩ := def_of (x := "can_stand") (st := top 65) c 34
  have g_can_stand := He.glo_ok X G (c.fact 34 (f := .glo "can_stand") rfl)
  have b_can_stand : Binds K fd_can_stand ["row", "definition"] [] := F_can_stand.binds fun _ _ _ _ _ _ us hl => match us, hl with | [_, _], _ => rfl
  obtain ⟨fd_BadLine__init__, F_BadLine__init__⟩ := mth_of (C := "BadLine") (m := "__init__") (q := "BadLine.__init__") (st := inClass (top 4) 0) c 35
  have b_BadLine__init__ : Binds K fd_BadLine__init__ ["self", "at"] [] := F_BadLine__init__.binds fun _ _ _ _ _ _ us hl => match us, hl with | [_, _], _ => rfl
  obtain ⟨fd_Shape__init__, F_Shape__init__⟩ := mth_of (C := "Shape") (m := "__init__") (q := "Shape.__init__") (st := inClass (top 21) 0) c 36
  have b_Shape__init__ : Binds K fd_Shape__init__ ["self", "text"] [] := F_Shape__init__.binds fun _ _ _ _ _ _ us hl => match us, hl with | [_, _], _ => rfl
  obtain ⟨fd_Path__init__, F_Path__init__⟩ := mth_of (C := "Path") (m := "__init__") (q := "Path.__init__") (st := inClass (top 27) 0) c 37
  have b_Path__init__ : Binds K fd_Path__init__ ["self", "of_self", "word", "steps"] [] := F_Path__init__.binds fun _ _ _ _ _ _ us hl => match us, hl with | [_, _, _, _], _ => rfl
  obtain ⟨fd_Copy__init__, F_Copy__init__⟩ := mth_of (C := "Copy") (m := "__init__") (q := "Copy.__init__") (st := inClass (top 28) 0) c 38
  have b_Copy__init__ : Binds K fd_Copy__init__ ["self", "inner", "floor_count"] [] := F_Copy__init__.binds fun _ _ _ _ _ _ us hl => match us, hl with | [_, _, _], _ => rfl
  obtain ⟨fd_New__init__, F_New__init__⟩ := mth_of (C := "New") (m := "__init__") (q := "New.__init__") (st := inClass (top 29) 0) c 39
  have b_New__init__ : Binds K fd_New__init__ ["self", "shape"] [] := F_New__init__.binds fun _ _ _ _ _ _ us hl => match us, hl with | [_, _], _ => rfl
  obtain ⟨fd_Row__init__, F_Row__init__⟩ := mth_of (C := "Row") (m := "__init__") (q := "Row.__init__") (st := inClass (top 33) 0) c 40
  have b_Row__init__ : Binds K fd_Row__init__ ["self", "way", "path", "term"] [] := F_Row__init__.binds fun _ _ _ _ _ _ us hl => match us, hl with | [_, _, _, _], _ => rfl
  obtain ⟨fd_Definition__init__, F_Definition__init__⟩ := mth_of (C := "Definition") (m := "__init__") (q := "Definition.__init__") (st := inClass (top 56) 0) c 41
  have b_Definition__init__ : Binds K fd_Definition__init__ ["self", "owner", "name", "mark", "parameters"] [] := F_Definition__init__.binds fun _ _ _ _ _ _ us hl => match us, hl with | [_, _, _, _, _], _ => rfl
  obtain ⟨fd_ClassText__init__, F_ClassText__init__⟩ := mth_of (C := "ClassText") (m := "__init__") (q := "ClassText.__init__") (st := inClass (top 57) 0) c 42
  have b_ClassText__init__ : Binds K fd_ClassText__init__ ["self", "name", "lineage"] [] := F_ClassText__init__.binds fun _ _ _ _ _ _ us hl => match us, hl with | [_, _, _], _ => rfl
  obtain ⟨fd_Reader__init__, F_Reader__init__⟩ := mth_of (C := "Reader") (m := "__init__") (q := "Reader.__init__") (st := inClass (top 66) 0) c 43
  have b_Reader__init__ : Binds K fd_Reader__init__ ["self"] [] := F_Reader__init__.binds fun _ _ _ _ _ _ us hl => match us, hl with | [_], _ => rfl
  obtain ⟨fd_Readertake, F_Readertake⟩ := mth_of (C := "Reader") (m := "take") (q := "Reader.take") (st := inClass (top 66) 1) c 44
  have b_Readertake : Binds K fd_Readertake ["self", "line"] [] := F_Readertake.binds fun _ _ _ _ _ _ us hl => match us, hl with | [_, _], _ => rfl
  obtain ⟨fd_Reader_take_class, F_Reader_take_class⟩ := mth_of (C := "Reader") (m := "_take_class") (q := "Reader._take_class") (st := inClass (top 66) 2) c 45
  have b_Reader_take_class : Binds K fd_Reader_take_class ["self", "line"] [] := F_Reader_take_class.binds fun _ _ _ _ _ _ us hl => match us, hl with | [_, _], _ => rfl
  obtain ⟨fd_Reader_take_member, F_Reader_take_member⟩ := mth_of (C := "Reader") (m := "_take_member") (q := "Reader._take_member") (st := inClass (top 66) 3) c 46
  have b_Reader_take_member : Binds K fd_Reader_take_member ["self", "text"] [] := F_Reader_take_member.binds fun _ _ _ _ _ _ us hl => match us, hl with | [_, _], _ => rfl
  obtain ⟨fd_Reader_take_field, F_Reader_take_field⟩ := mth_of (C := "Reader") (m := "_take_field") (q := "Reader._take_field") (st := inClass (top 66) 4) c 47
  have b_Reader_take_field : Binds K fd_Reader_take_field ["self", "text"] [] := F_Reader_take_field.binds fun _ _ _ _ _ _ us hl => match us, hl with | [_, _], _ => rfl
  obtain ⟨fd_Reader_take_method, F_Reader_take_method⟩ := mth_of (C := "Reader") (m := "_take_method") (q := "Reader._take_method") (st := inClass (top 66) 5) c 48
  have b_Reader_take_method : Binds K fd_Reader_take_method ["self", "mark", "text"] [] := F_Reader_take_method.binds fun _ _ _ _ _ _ us hl => match us, hl with | [_, _, _], _ => rfl
  obtain ⟨fd_Reader_take_row, F_Reader_take_row⟩ := mth_of (C := "Reader") (m := "_take_row") (q := "Reader._take_row") (st := inClass (top 66) 6) c 49
  have b_Reader_take_row : Binds K fd_Reader_take_row ["self", "text"] [] := F_Reader_take_row.binds fun _ _ _ _ _ _ us hl => match us, hl with | [_, _], _ => rfl
  obtain ⟨fd_Library__init__, F_Library__init__⟩ := mth_of (C := "Library") (m := "__init__") (q := "Library.__init__") (st := inClass (top 68) 0) c 50
  have b_Library__init__ : Binds K fd_Library__init__ ["self", "text"] [] := F_Library__init__.binds fun _ _ _ _ _ _ us hl => match us, hl with | [_, _], _ => rfl
  have g_BadLine := He.glo_ok X G (c.fact 35 (f := .glo "BadLine") rfl)
  have g_Shape := He.glo_ok X G (c.fact 36 (f := .glo "Shape") rfl)
  have g_Path := He.glo_ok X G (c.fact 37 (f := .glo "Path") rfl)
  have g_Copy := He.glo_ok X G (c.fact 38 (f := .glo "Copy") rfl)
  have g_New := He.glo_ok X G (c.fact 39 (f := .glo "New") rfl)
  have g_SuperCall := He.glo_ok X G (c.fact 40 (f := .glo "SuperCall") rfl)
  have g_Row := He.glo_ok X G (c.fact 41 (f := .glo "Row") rfl)
  have g_Definition := He.glo_ok X G (c.fact 42 (f := .glo "Definition") rfl)
  have g_ClassText := He.glo_ok X G (c.fact 43 (f := .glo "ClassText") rfl)
  have g_Reader := He.glo_ok X G (c.fact 44 (f := .glo "Reader") rfl)
  have g_Library := He.glo_ok X G (c.fact 45 (f := .glo "Library") rfl)
  have g_RESERVED := He.glo_ok X G (c.fact 46 (f := .glo "RESERVED") rfl)
  have g_STEPS := He.glo_ok X G (c.fact 47 (f := .glo "STEPS") rfl)
  have g_COPY_ENDS := He.glo_ok X G (c.fact 48 (f := .glo "COPY_ENDS") rfl)
  have g_INDEX_KINDS := He.glo_ok X G (c.fact 49 (f := .glo "INDEX_KINDS") rfl)
  have g_MARKS := He.glo_ok X G (c.fact 50 (f := .glo "MARKS") rfl)
  have k_Shape := He.cls_ok (c.fact 81 (f := .cls "Shape") rfl)
  have m_Shape := He.mkr_ok (c.fact 82 (f := .mkr "Shape") rfl)
  have k_Path := He.cls_ok (c.fact 87 (f := .cls "Path") rfl)
  have m_Path := He.mkr_ok (c.fact 88 (f := .mkr "Path") rfl)
  have k_Copy := He.cls_ok (c.fact 92 (f := .cls "Copy") rfl)
  have m_Copy := He.mkr_ok (c.fact 93 (f := .mkr "Copy") rfl)
  have k_New := He.cls_ok (c.fact 96 (f := .cls "New") rfl)
  have m_New := He.mkr_ok (c.fact 97 (f := .mkr "New") rfl)
  have k_Row := He.cls_ok (c.fact 99 (f := .cls "Row") rfl)
  have m_Row := He.mkr_ok (c.fact 100 (f := .mkr "Row") rfl)
  have k_Definition := He.cls_ok (c.fact 104 (f := .cls "Definition") rfl)
  have m_Definition := He.mkr_ok (c.fact 105 (f := .mkr "Definition") rfl)
  have k_ClassText := He.cls_ok (c.fact 111 (f := .cls "ClassText") rfl)
  have m_ClassText := He.mkr_ok (c.fact 112 (f := .mkr "ClassText") rfl)
  have k_Reader := He.cls_ok (c.fact 117 (f := .cls "Reader") rfl)
  have m_Reader := He.mkr_ok (c.fact 118 (f := .mkr "Reader") rfl)
  have k_Library := He.cls_ok (c.fact 122 (f := .cls "Library") rfl)
  have m_Library := He.mkr_ok (c.fact 123 (f := .mkr "Library") rfl)
  have t_take := He.meth_ok (c.fact 127 (f := .meth "Reader" "take") rfl)
  have t__take_class := He.meth_ok (c.fact 128 (f := .meth "Reader" "_take_class") rfl)
  have t__take_member := He.meth_ok (c.fact 129 (f := .meth "Reader" "_take_member") rfl)
  have t__take_field := He.meth_ok (c.fact 130 (f := .meth "Reader" "_take_field") rfl)
  have t__take_method := He.meth_ok (c.fact 131 (f := .meth "Reader" "_take_method") rfl)
  have t__take_row := He.meth_ok (c.fact 132 (f := .meth "Reader" "_take_row") rfl)
  unfold ex06 at x
  simp only [Bool.and_eq_true] at x
  obtain ⟨x1, xrc, x2, x3, x4, x5, x6, x7, x8, x9, x10, x11, x12, x13, x14, x15, x16, x17, x18, x19⟩ := x
  have gg1 : fnA K (gAd K (He.ga K "Shape") "depth") = fnVal "depth" "Shape.depth" (inClass (top 21) 1) := (List.cons.inj gg).1
  have NB : XcC K mg "BadLine" (He.ga K "BadLine") "at" (He.ma K (He.ga K "BadLine") "__init__") := exEx6_ok x1 g_BadLine
  obtain ⟨hn, htk⟩ := getB_ok x2
  have TD : TxtD mg := ⟨(He.free_ok X G (c.fact 51 (f := .free "int") rfl)), (He.free_ok X G (c.fact 52 (f := .free "abs") rfl)), (He.free_ok X G (c.fact 53 (f := .free "len") rfl))⟩
  have TP : TxtP mg := ⟨(He.free_ok X G (c.fact 54 (f := .free "enumerate") rfl)), (He.free_ok X G (c.fact 55 (f := .free "all") rfl)), (He.free_ok X G (c.fact 53 (f := .free "len") rfl)), (He.int_ok X G (c.fact 71 (f := .int "MOST_ITEMS" 3) rfl)), (He.int_ok X G (c.fact 72 (f := .int "MOST_DEPTH" 3) rfl)), (He.int_ok X G (c.fact 73 (f := .int "MOST_LISTS" 5) rfl))⟩
  have TS : TxtS mg := ⟨TP, (He.free_ok X G (c.fact 57 (f := .free "isinstance") rfl)), (He.free_ok X G (c.fact 58 (f := .free "str") rfl)), (He.free_ok X G (c.fact 59 (f := .free "tuple") rfl)), (He.free_ok X G (c.fact 66 (f := .free "max") rfl))⟩
  have TF : TxtF mg := ⟨TS, (He.free_ok X G (c.fact 65 (f := .free "sum") rfl))⟩
  have TT : TxtT mg := ⟨TF, (He.free_ok X G (c.fact 61 (f := .free "range") rfl))⟩
  have TL : LibP mg := ⟨(He.free_ok X G (c.fact 55 (f := .free "all") rfl)), (He.free_ok X G (c.fact 56 (f := .free "any") rfl)), (He.free_ok X G (c.fact 53 (f := .free "len") rfl)), (He.free_ok X G (c.fact 60 (f := .free "list") rfl)), (He.free_ok X G (c.fact 59 (f := .free "tuple") rfl)), (He.free_ok X G (c.fact 54 (f := .free "enumerate") rfl)), (He.free_ok X G (c.fact 57 (f := .free "isinstance") rfl)), (He.free_ok X G (c.fact 58 (f := .free "str") rfl)), (He.int_ok X G (c.fact 69 (f := .int "MOST_CLASSES" 8) rfl)), (He.int_ok X G (c.fact 70 (f := .int "MOST_BASES" 3) rfl))⟩
  have T : LawP mg := ⟨TL, (He.free_ok X G (c.fact 61 (f := .free "range") rfl)), (He.free_ok X G (c.fact 62 (f := .free "min") rfl)), (He.free_ok X G (c.fact 63 (f := .free "set") rfl)), (He.free_ok X G (c.fact 64 (f := .free "sorted") rfl))⟩
  have TW : WordC mg := ⟨(He.free_ok X G (c.fact 55 (f := .free "all") rfl)), (He.free_ok X G (c.fact 53 (f := .free "len") rfl)), He.str_ok X G (c.fact 79 (f := .str "SMALL_LETTERS" (S smalls0)) rfl), He.str_ok X G (c.fact 80 (f := .str "LARGE_LETTERS" (S larges0)) rfl), (He.int_ok X G (c.fact 68 (f := .int "MOST_LETTERS" 8) rfl))⟩
  have u_RESERVED : ∃ r, mg "RESERVED" = some (.ref r) ∧ ∀ H, SqT K H r (resv.map fun x => V.str (S x)) := ⟨_, g_RESERVED, fun H => tupB_ok (Ls := tp_RESERVED) x15 H⟩
  have u_STEPS : ∃ r, mg "STEPS" = some (.ref r) ∧ ∀ H, SqT K H r (stps.map fun x => V.str (S x)) := ⟨_, g_STEPS, fun H => tupB_ok (Ls := tp_STEPS) x16 H⟩
  have u_COPY_ENDS : ∃ r, mg "COPY_ENDS" = some (.ref r) ∧ ∀ H, SqT K H r (ends3.map fun x => V.str (S x)) := ⟨_, g_COPY_ENDS, fun H => tupB_ok (Ls := tp_COPY_ENDS) x17 H⟩
  have u_INDEX_KINDS : ∃ r, mg "INDEX_KINDS" = some (.ref r) ∧ ∀ H, SqT K H r (kinds3.map fun x => V.str (S x)) := ⟨_, g_INDEX_KINDS, fun H => tupB_ok (Ls := tp_INDEX_KINDS) x18 H⟩
  have u_MARKS : ∃ r, mg "MARKS" = some (.ref r) ∧ ∀ H, SqT K H r (marks3.map fun x => V.str (S x)) := ⟨_, g_MARKS, fun H => tupB_ok (Ls := tp_MARKS) x19 H⟩
  have TWP : WordP K mg := ⟨TW, u_RESERVED⟩
  have TSt : StepP K mg := ⟨(He.free_ok X G (c.fact 51 (f := .free "int") rfl)), u_STEPS⟩
  have TCo : CopP K mg := ⟨(He.free_ok X G (c.fact 51 (f := .free "int") rfl)), u_COPY_ENDS⟩
  have TPa : PathP mg := ⟨(He.free_ok X G (c.fact 53 (f := .free "len") rfl)), (He.free_ok X G (c.fact 59 (f := .free "tuple") rfl)), (He.int_ok X G (c.fact 74 (f := .int "MOST_STEPS" 3) rfl))⟩
  have TKi : KindP K mg := ⟨(He.free_ok X G (c.fact 51 (f := .free "int") rfl)), u_INDEX_KINDS⟩
  have TPs : ParsP mg := ⟨(He.free_ok X G (c.fact 53 (f := .free "len") rfl)), (He.free_ok X G (c.fact 67 (f := .free "dict") rfl)), (He.free_ok X G (c.fact 59 (f := .free "tuple") rfl)), (He.int_ok X G (c.fact 75 (f := .int "MOST_PARAMETERS" 3) rfl))⟩
  have TMt : MthP mg := ⟨(He.free_ok X G (c.fact 53 (f := .free "len") rfl)), (He.int_ok X G (c.fact 76 (f := .int "MOST_METHODS" 5) rfl))⟩
  have TTf : TakeP mg := ⟨(He.free_ok X G (c.fact 53 (f := .free "len") rfl)), (He.int_ok X G (c.fact 77 (f := .int "MOST_FIELDS" 4) rfl))⟩
  have TSd : StandP mg := ⟨(He.free_ok X G (c.fact 53 (f := .free "len") rfl)), (He.free_ok X G (c.fact 67 (f := .free "dict") rfl)), (He.free_ok X G (c.fact 57 (f := .free "isinstance") rfl)), (He.free_ok X G (c.fact 58 (f := .free "str") rfl)), (He.int_ok X G (c.fact 78 (f := .int "MOST_ROWS" 6) rfl))⟩
  have TMk : MarkP K mg := ⟨u_MARKS⟩
  let C : Cs := ⟨He.ga K "Path", He.ga K "Copy", He.ga K "New"⟩
  have shc : ShC K (He.ga K "Shape") := ⟨k_Shape, (clsB_ok x3).1, hn, htk, (clsB_ok x3).2, (He.noat_ok (c.fact 83 (f := .noat "Shape" "text") rfl)), (He.noat_ok (c.fact 84 (f := .noat "Shape" "_parts") rfl)), (He.noat_ok (c.fact 85 (f := .noat "Shape" "_depth") rfl)), (He.noat_ok (c.fact 86 (f := .noat "Shape" "_lists") rfl))⟩
  have ptc : PtC K C.path := ⟨k_Path, (He.noat_ok (c.fact 89 (f := .noat "Path" "of_self") rfl)), (He.noat_ok (c.fact 90 (f := .noat "Path" "word") rfl)), (He.noat_ok (c.fact 91 (f := .noat "Path" "steps") rfl))⟩
  have csc : CsC K C := ⟨ptc, k_Copy, (He.noat_ok (c.fact 94 (f := .noat "Copy" "inner") rfl)), (He.noat_ok (c.fact 95 (f := .noat "Copy" "floor_count") rfl)), k_New, (He.noat_ok (c.fact 98 (f := .noat "New" "shape") rfl))⟩
  have rwc : RwC K (He.ga K "Row") := ⟨k_Row, (He.noat_ok (c.fact 101 (f := .noat "Row" "way") rfl)), (He.noat_ok (c.fact 102 (f := .noat "Row" "path") rfl)), (He.noat_ok (c.fact 103 (f := .noat "Row" "term") rfl))⟩
  have dfc : DfC K (He.ga K "Definition") := ⟨k_Definition, (He.noat_ok (c.fact 106 (f := .noat "Definition" "owner") rfl)), (He.noat_ok (c.fact 107 (f := .noat "Definition" "name") rfl)), (He.noat_ok (c.fact 108 (f := .noat "Definition" "mark") rfl)), (He.noat_ok (c.fact 109 (f := .noat "Definition" "parameters") rfl)), (He.noat_ok (c.fact 110 (f := .noat "Definition" "rows") rfl))⟩
  have ctc : CtC K (He.ga K "ClassText") := ⟨k_ClassText, (He.noat_ok (c.fact 113 (f := .noat "ClassText" "name") rfl)), (He.noat_ok (c.fact 114 (f := .noat "ClassText" "lineage") rfl)), (He.noat_ok (c.fact 115 (f := .noat "ClassText" "fields") rfl)), (He.noat_ok (c.fact 116 (f := .noat "ClassText" "definitions") rfl))⟩
  have rdc : RdC K (He.ga K "Reader") := ⟨k_Reader, (He.noat_ok (c.fact 119 (f := .noat "Reader" "classes") rfl)), (He.noat_ok (c.fact 120 (f := .noat "Reader" "_owner") rfl)), (He.noat_ok (c.fact 121 (f := .noat "Reader" "_method") rfl))⟩
  have lbc : LbC K (He.ga K "Library") := ⟨k_Library, (He.noat_ok (c.fact 124 (f := .noat "Library" "text") rfl)), (He.noat_ok (c.fact 125 (f := .noat "Library" "names") rfl)), (He.noat_ok (c.fact 126 (f := .noat "Library" "_classes") rfl))⟩
  have kit : KitR K mg C (He.ga K "SuperCall") := ⟨⟨k_New, (clsB_ok x4).1, hn, htk, (clsB_ok x4).2⟩, ⟨k_Copy, (clsB_ok x5).1, hn, htk, (clsB_ok x5).2⟩, ⟨k_Path, (clsB_ok x6).1, hn, htk, (clsB_ok x6).2⟩, of_decide_eq_true x7, of_decide_eq_true x8, of_decide_eq_true x9, of_decide_eq_true x10, of_decide_eq_true x11, of_decide_eq_true x12, g_Copy, g_Path, g_SuperCall, (He.free_ok X G (c.fact 57 (f := .free "isinstance") rfl))⟩
  have hrc : He.ga K "Reader" ≠ He.ga K "ClassText" := of_decide_eq_true xrc
  have e := hfa.symm.trans g_law
  cases e
  refine ⟨fd_law, fun s v => ?_, fun base _ _ => ?_⟩
  · obtain ⟨oc, od, kV, doc, pm, an, cdv, ct, osl, e7, _, _⟩ := F_law.ex
    subst e7
    exact .of_eq rfl
  · have rPa : Hs.Rd P w K mg base "parts_of" 1 ["text"] spParts := ⟨_, fd_parts_of, g_parts_of, F_parts_of.kp, b_parts_of, ok_parts F_parts_of TP⟩
    have rSm : Hs.Rd P w K mg base "are_small" 1 ["text"] (spSmall) := ⟨_, fd_are_small, g_are_small, F_are_small.kp, b_are_small, ok_small F_are_small TW⟩
    have rWo : Hs.Rd P w K mg base "is_word" 2 ["text"] (spWord) := ⟨_, fd_is_word, g_is_word, F_is_word.kp, b_is_word, ok_word F_is_word TWP rSm⟩
    have rCn : Hs.Rd P w K mg base "is_class_name" 2 ["text"] (spClass) := ⟨_, fd_is_class_name, g_is_class_name, F_is_class_name.kp, b_is_class_name, ok_class F_is_class_name TW rSm⟩
    have rF : Hs.Rd P w K mg base "has_form" 5 ["text", "floors"] (spForm 3) := rd_form F_has_form g_has_form b_has_form TP rPa 3
    have rI : Hs.Rd P w K mg base "is_shape" 6 ["text"] (spShape) := ⟨_, fd_is_shape, g_is_shape, F_is_shape.kp, b_is_shape, ok_is F_is_shape TP rF⟩
    have pD : Pr P w K mg base (He.ga K "Shape") "depth" "_depth" 1 := pr_of6 x13 gg1 x14 ⟨rfl, rfl, rfl, by decide +kernel, rfl, by decide +kernel, by decide +kernel⟩ rfl (fun _ _ _ _ _ _ us hl => match us, hl with | [_], _ => rfl) k_Shape shc.nD
    have rSh : Hs.Rm P w K mg base "Shape" (He.ga K "Shape") 14 ["self", "text"] (spInit K (He.ga K "Shape") 3) := rm_init F_Shape__init__ TS shc g_Shape m_Shape b_Shape__init__ rI (rPa.mono (by decide)) pD (by decide) 3 (by decide)
    have rSt : Hs.Rd P w K mg base "read_step" 3 ["text"] (spStep) := ⟨_, fd_read_step, g_read_step, F_read_step.kp, b_read_step, ok_step F_read_step TSt rWo⟩
    have rPt : Hy.Rm P w K mg base "Path" (He.ga K "Path") 1 ["self", "of_self", "word", "steps"] (spPt C.path) := ⟨_, fd_Path__init__, g_Path, m_Path, b_Path__init__, ok_pt F_Path__init__ ptc⟩
    have rPath : Hs.Rd P w K mg base "read_path" 4 ["text"] (spPath C.path) := ⟨_, fd_read_path, g_read_path, F_read_path.kp, b_read_path, ok_path F_read_path TPa rSt (rWo.mono (by decide)) rPt (by decide)⟩
    have rCo : Hs.Rd P w K mg base "copied_part" 1 ["text"] (spCopied) := ⟨_, fd_copied_part, g_copied_part, F_copied_part.kp, b_copied_part, ok_copied F_copied_part TCo⟩
    have rNw : Hy.Rm P w K mg base "New" (He.ga K "New") 1 ["self", "shape"] (spNw C.new) := ⟨_, fd_New__init__, g_New, m_New, b_New__init__, ok_nw F_New__init__ csc⟩
    have rCp : Hy.Rm P w K mg base "Copy" (He.ga K "Copy") 1 ["self", "inner", "floor_count"] (spCp C.copy) := ⟨_, fd_Copy__init__, g_Copy, m_Copy, b_Copy__init__, ok_cp F_Copy__init__ csc⟩
    have rSi : Hs.Rd P w K mg base "read_simple" 16 ["text"] (spSimple C) := ⟨_, fd_read_simple, g_read_simple, F_read_simple.kp, b_read_simple, ok_simple F_read_simple (rPath.mono (by decide)) (rCo.mono (by decide)) (rI.mono (by decide)) rSh rNw rCp (by decide)⟩
    have rTe : Hs.Rd P w K mg base "read_term" 17 ["text"] (spTermS C) := ⟨_, fd_read_term, g_read_term, F_read_term.kp, b_read_term, ok_term F_read_term rSi⟩
    have rRw : Hy.Rm P w K mg base "Row" (He.ga K "Row") 1 ["self", "way", "path", "term"] (spRw (He.ga K "Row")) := ⟨_, fd_Row__init__, g_Row, m_Row, b_Row__init__, ok_rw F_Row__init__ rwc⟩
    have rRo : Hs.Rd P w K mg base "read_row" 18 ["text"] (spRow C (He.ga K "Row")) := ⟨_, fd_read_row, g_read_row, F_read_row.kp, b_read_row, ok_row F_read_row rTe (rPath.mono (by decide)) rRw (by decide)⟩
    have rUn : Hs.Rd P w K mg base "uncopied" 1 ["row"] (spUncop C (He.ga K "Row")) := ⟨_, fd_uncopied, g_uncopied, F_uncopied.kp, b_uncopied, ok_uncop F_uncopied kit csc rwc⟩
    have rHs : Hs.Rd P w K mg base "has_super" 2 ["row"] (spHasSup C (He.ga K "Row")) := ⟨_, fd_has_super, g_has_super, F_has_super.kp, b_has_super, ok_hassup F_has_super kit rUn⟩
    have rLo : Hs.Rd P w K mg base "lone_word" 2 ["part"] (spLone C) := ⟨_, fd_lone_word, g_lone_word, F_lone_word.kp, b_lone_word, ok_lone F_lone_word kit csc⟩
    have rCs : Hs.Rd P w K mg base "can_stand" 3 ["row", "definition"] (spStand C (He.ga K "Row") (He.ga K "Definition")) := ⟨_, fd_can_stand, g_can_stand, F_can_stand.kp, b_can_stand, ok_stand F_can_stand TSd dfc rwc rHs rLo⟩
    have rTr : Hy.Rt P w K mg base (He.ga K "Reader") "_take_row" 19 ["self", "text"] (spTakeR C (He.ga K "Row") (He.ga K "Definition") (He.ga K "Reader")) := ⟨_, fd_Reader_take_row, t__take_row, b_Reader_take_row, ok_takeR F_Reader_take_row rdc dfc rRo (rCs.mono (by decide))⟩
    have rKi : Hs.Rd P w K mg base "read_kind" 7 ["text"] (spKind) := ⟨_, fd_read_kind, g_read_kind, F_read_kind.kp, b_read_kind, ok_kind F_read_kind TKi rI⟩
    have rPr : Hs.Rd P w K mg base "read_parameter" 8 ["text"] (spPar) := ⟨_, fd_read_parameter, g_read_parameter, F_read_parameter.kp, b_read_parameter, ok_par F_read_parameter rKi (rWo.mono (by decide))⟩
    have rPs : Hs.Rd P w K mg base "read_parameters" 9 ["text"] (spPars) := ⟨_, fd_read_parameters, g_read_parameters, F_read_parameters.kp, b_read_parameters, ok_pars F_read_parameters TPs (rPa.mono (by decide)) rPr⟩
    have rDf : Hy.Rm P w K mg base "Definition" (He.ga K "Definition") 1 ["self", "owner", "name", "mark", "parameters"] (spDf (He.ga K "Definition")) := ⟨_, fd_Definition__init__, g_Definition, m_Definition, b_Definition__init__, ok_df F_Definition__init__ dfc⟩
    have rTm : Hy.Rt P w K mg base (He.ga K "Reader") "_take_method" 10 ["self", "mark", "text"] (spTakeM C (He.ga K "Row") (He.ga K "Definition") (He.ga K "Reader") (He.ga K "ClassText")) := ⟨_, fd_Reader_take_method, t__take_method, b_Reader_take_method, ok_takeM F_Reader_take_method TMt rdc ctc (rWo.mono (by decide)) rPs rDf (by decide)⟩
    have rTf : Hy.Rt P w K mg base (He.ga K "Reader") "_take_field" 7 ["self", "text"] (spTakeF (He.ga K "Reader") (He.ga K "ClassText")) := ⟨_, fd_Reader_take_field, t__take_field, b_Reader_take_field, ok_takeF F_Reader_take_field TTf rdc ctc (rWo.mono (by decide)) rI⟩
    have rMb : Hy.Rt P w K mg base (He.ga K "Reader") "_take_member" 11 ["self", "text"] (spMember C (He.ga K "Row") (He.ga K "Definition") (He.ga K "Reader") (He.ga K "ClassText")) := ⟨_, fd_Reader_take_member, t__take_member, b_Reader_take_member, ok_member F_Reader_take_member TMk rdc rTm (rTf.mono (by decide))⟩
    have rRe : Hs.Rd P w K mg base "read_class_line" 3 ["line"] (spRead) := ⟨_, fd_read_class_line, g_read_class_line, F_read_class_line.kp, b_read_class_line, ok_read F_read_class_line TL rCn⟩
    have rRc : Hs.Rd P w K mg base "read_class_line" 3 ["line"] (spReadC) := ⟨_, fd_read_class_line, g_read_class_line, F_read_class_line.kp, b_read_class_line, ok_readC F_read_class_line TL rCn⟩
    have rNx : Hs.Rd P w K mg base "next_merged" 1 ["rows"] (spNext K) := ⟨_, fd_next_merged, g_next_merged, F_next_merged.kp, b_next_merged, ok_next F_next_merged TL⟩
    have rMg : Hs.Rd P w K mg base "merged" 2 ["rows"] (spMerged K) := ⟨_, fd_merged, g_merged, F_merged.kp, b_merged, ok_merged F_merged TL rNx⟩
    have rCt : Hy.Rm P w K mg base "ClassText" (He.ga K "ClassText") 1 ["self", "name", "lineage"] (spCt2 (He.ga K "ClassText")) := ⟨_, fd_ClassText__init__, g_ClassText, m_ClassText, b_ClassText__init__, ok_ct2 F_ClassText__init__ ctc⟩
    have rT2 : Hy.Rt P w K mg base (He.ga K "Reader") "_take_class" 4 ["self", "line"] (spTake2 (He.ga K "Reader") (He.ga K "ClassText")) := ⟨_, fd_Reader_take_class, t__take_class, b_Reader_take_class, ok_takeC2 F_Reader_take_class TL rdc ctc rRe (rMg.mono (by decide)) rCt (by decide)⟩
    have rTN : Hy.Rt P w K mg base (He.ga K "Reader") "_take_class" 4 ["self", "line"] (spTakeN (He.ga K "Reader") (He.ga K "ClassText")) := ⟨_, fd_Reader_take_class, t__take_class, b_Reader_take_class, ok_takeN F_Reader_take_class TL rdc rRc⟩
    have rTk : Hy.Rt P w K mg base (He.ga K "Reader") "take" 20 ["self", "line"] (sp6 C (He.ga K "Row") (He.ga K "Definition") (He.ga K "Reader") (He.ga K "ClassText")) := ⟨_, fd_Readertake, t_take, b_Readertake, ok_take_all F_Readertake rdc (rT2.mono (by decide)) (rTN.mono (by decide)) (rMb.mono (by decide)) rTr⟩
    have rLi : Hs.Rd P w K mg base "lines_of" 1 ["text"] (spLines) := ⟨_, fd_lines_of, g_lines_of, F_lines_of.kp, b_lines_of, ok_lines F_lines_of⟩
    have rRd : Hy.Rm P w K mg base "Reader" (He.ga K "Reader") 1 ["self"] (spRd (He.ga K "Reader")) := ⟨_, fd_Reader__init__, g_Reader, m_Reader, b_Reader__init__, ok_rdI F_Reader__init__ rdc⟩
    have FX := ok_lib6X F_Library__init__ TL lbc rdc rLi rRd rTk (by decide)
    have FB := ok_lib6B F_Library__init__ TL NB (ok_bli F_BadLine__init__ NB) b_BadLine__init__ rdc rLi rRd rTk (by decide)
    have rTo : Hs.Rd P w K mg base "_law_told" 23 ["_law_lines"] (spTold6 (He.ga K "Reader") (sp6 C (He.ga K "Row") (He.ga K "Definition") (He.ga K "Reader") (He.ga K "ClassText"))) := ⟨_, fd__law_told, g__law_told, F__law_told.kp, b__law_told, ok_told6 F__law_told NB g_Library m_Library (ok_or FX FB) b_Library__init__⟩
    have rDr : Hs.Rd P w K mg base "_law_draw" 1 ["_law_state", "_law_many"] (spDraw) := ⟨_, fd__law_draw, g__law_draw, F__law_draw.kp, b__law_draw, ok_draw F__law_draw TD⟩
    have rSta : Hs.Rd P w K mg base "_law_start" 1 ["_law_script"] (spStart K) := ⟨_, fd__law_start, g__law_start, F__law_start.kp, b__law_start, ok_start F__law_start TD⟩
    have rOf : Hs.Rd P w K mg base "_law_of" 2 ["_law_state", "_law_some"] (spOf K) := ⟨_, fd__law_of, g__law_of, F__law_of.kp, b__law_of, ok_of F__law_of TD F__law_draw b__law_draw g__law_draw⟩
    have rWd : Hs.Rd P w K mg base "_law_word" 2 ["_law_state", "_law_taken"] (spLWord) := ⟨_, fd__law_word, g__law_word, F__law_word.kp, b__law_word, ok_lword F__law_word T rDr⟩
    have rLs := rd_lists (P := P) (w := w) (base := base) F__law_lists g__law_lists b__law_lists TF
    have rX := rd_text (P := P) (w := w) (base := base) F__law_text g__law_text b__law_text TF 3 (by decide)
    have rTr3 : Hs.Rd P w K mg base "_law_tree" 7 ["_law_state", "_law_floors", "_law_room"] (spTree3 K) := ⟨_, fd__law_tree, g__law_tree, F__law_tree.kp, b__law_tree, fn_tree3 (fn_tree F__law_tree g__law_tree b__law_tree TT rDr rLs)⟩
    have rFu : Hs.Rd P w K mg base "_law_full" 8 ["_law_state", "_law_name", "_law_words"] (spFull K) := ⟨_, fd__law_full, g__law_full, F__law_full.kp, b__law_full, ok_full F__law_full (rOf.mono (by decide)) rTr3 (rX.mono (by decide))⟩
    have rFl : Hs.Rd P w K mg base "_law_flat" 1 ["_law_pieces"] (spFlat K) := ⟨_, fd__law_flat, g__law_flat, F__law_flat.kp, b__law_flat, ok_flat F__law_flat⟩
    have rRi : Hs.Rd P w K mg base "_law_right" 24 ["_law_state", "_law_words", "_law_names"] (spRight) := ⟨_, fd__law_right, g__law_right, F__law_right.kp, b__law_right, ok_right F__law_right T hrc (rDr.mono (by decide)) (rFu.mono (by decide)) (rFl.mono (by decide)) rTo⟩
    exact ok_law6 F_law T hrc (by decide) (rSta.mono (by decide)) (rDr.mono (by decide)) (rWd.mono (by decide)) rRi (rTo.mono (by decide))
end Hv
open PySem PySem.W PySem.Calls PyProof.Rows
set_option maxHeartbeats 0 in
theorem PySem.Challenge.cw_handedcopies_k06_bounds_of_texts_holds : PySem.Challenge.rw_handedcopies_k06_bounds_of_texts.Holds := by
  w_on; o_law
  refine HandSHeadRun.head_any (r := OpenLaw.row PySem.Challenge.rw_handedcopies_k06_bounds_of_texts) (q := view (OpenLaw.row PySem.Challenge.rw_handedcopies_k06_bounds_of_texts).prog [82]) (H := Hs.hookM Hs.nm06 4 Hs.fa06 Hs.fn06 Hs.ex06 Hs.gt06 Hs.gv06) (ob := Hs.obM Hs.nm06 4 Hs.fa06 Hs.fn06 Hs.ex06 Hs.gt06) (M := 40000) (loose := Hs.lo06) (d := HandSHeadRun.topDef (OpenLaw.row PySem.Challenge.rw_handedcopies_k06_bounds_of_texts).prog 82) (kwd := []) (Hs.obM_eq _ _ _ _ _ _ _)
    (by kernel_rfl) (fun s => by kernel_rfl) Hs.run06 (by kernel_rfl) (by kernel_rfl) (by kernel_rfl) (by rfl) (by first | assumption | decide +kernel) (by decide +kernel) ⟨rfl, rfl, rfl, rfl, rfl, by decide +kernel⟩ ?hw ?hc
  case hw => w_witness2
  case hc =>
    refine L2.walk_ofE (l := PySem.Challenge.rw_handedcopies_k06_bounds_of_texts) (n := 63) (k := 25) (x := "_law_script") (CX := L2.CX0) rfl (by decide) (by kernel_rfl) ⟨rfl, by decide, by decide⟩ ?F (fun _ _ _ _ z => z)
    intro w mg fa h Y G hmg0
    obtain ⟨K, KX, x, c, gg⟩ := Y
    have hmg : mg ("law" : PySem.Str) = some (.ref fa) := by
      have e : (HandSHeadRun.topDef (OpenLaw.row PySem.Challenge.rw_handedcopies_k06_bounds_of_texts).prog 82).name = ("law" : PySem.Str) := by kernel_rfl
      rw [← e]
      exact hmg0
    obtain ⟨fd, hb, hF⟩ := Hv.facts06 (P := (PySem.Challenge.rw_handedcopies_k06_bounds_of_texts).prog) (w := w) KX G hmg x c gg
    exact ⟨K, fd, Hv.spLaw6 K, KX, hb, fun H a ns hl _ hS => ⟨a, ns, rfl, hS, hl, fun _ => rfl⟩, hF⟩
