import PyProof.Rows.All
import Wide.All
import OpenK.AllK
import Wide.FinOn
import PyProof.ListStr
import HandS.Base
import HandS.Call
import HandS.List
import HandS.Comp
import HandS.Ends
import HandS.Dict
import HandS.Iter
import HandS.Text
import HandS.Exc
import HandS.Words
import HandS.WordsList
import HandS.Flow
import HandS.Style
import HandS.NoneIn
import HandS.IsInst
import HandS.Wide
import HandS.Evl
import HandS.Codes
import PySem.Challenge.RW_handedcopies_k43_mends_made
import KE.KStateDown
import Lean
import HandS.Defaults
import HandS.Head0
import HandS.Head1
import HandS.Head2
import HandS.HeadEnd
import HandS.HeadHook1
import HandS.HeadHook2
import HandS.HeadHook4
import HandS.Property
import KE.KExcInit
import KE.KIsAll
import HandS.ExcOwn
import HandS.ExcInit
import HandS.ExcField
import HandS.ExcIs
import HandS.ExcValue
import PyProof.ExcBaseAll.ValueError
import PyProof.ExcBaseAll.RuntimeError
import HandS.HeadNt
import PyProof.Draws
import PyProof.EnumMake
import HandS.DictTup
import HandS.Conv
import KE.SortData
import HandS.Deep
import HandS.More
import HandS.StrMore
import PyProof.StrOps2
import HandS.WordsExc
import HandS.Walk
import KE.GoesEnum
import HandS.Star
import KE.KFmtOwn
import KE.KCallOwn
import PyProof.InstEq
import OpenK.KOps
import HandS.ClsMeth
import KE.SortLaws
import KE.OsSortAny
set_option Elab.async false
set_option linter.all false
set_option maxRecDepth 100000
/-! module HcBase -/
set_option maxHeartbeats 4000000
/-! Rules that hold for any program: xs[i] read by values, list(a text), frames of what stays. -/
namespace Hc
open PySem PySem.Spec PyProof.Rows L2

/-- all that was tracked outside S is as it was -/
def Ext (S : Addr → Prop) (H H' : Hp) : Prop := ∀ b o, H b = some o → ¬ S b → H' b = some o
theorem Ext.refl (S : Addr → Prop) (H : Hp) : Ext S H H := fun _ _ h _ => h
theorem Ext.trans {S : Addr → Prop} {H H1 H2 : Hp} (a : Ext S H H1) (b : Ext S H1 H2) : Ext S H H2 := fun c o h n => b c o (a c o h n) n
theorem Ext.mono {S T : Addr → Prop} {H H1 : Hp} (a : Ext S H H1) (h : ∀ b, S b → T b) : Ext T H H1 := fun c o e n => a c o e fun z => n (h c z)
theorem Ext.same {S : Addr → Prop} {H H1 : Hp} (a : Same H H1) : Ext S H H1 := fun c o e _ => a c o e
theorem Ext.new {S : Addr → Prop} {H : Hp} {p : Addr} {o : HO} (h : H p = none) : Ext S H (upd H p o) := fun b x e _ => by
  rw [upd_ne (ne_of_none e h)]
  exact e
theorem Ext.put {S : Addr → Prop} {H : Hp} {p : Addr} {o : HO} (h : S p) : Ext S H (upd H p o) := fun b x e n => by
  rw [upd_ne (fun z => n (by rw [z]; exact h))]
  exact e
theorem same_new {H : Hp} {p : Addr} {o : HO} (h : H p = none) : Same H (upd H p o) := fun b x e => by
  rw [upd_ne (ne_of_none e h)]
  exact e
/-- what is new in H' was free in H or lay in S -/
theorem Ext.free {S : Addr → Prop} {H H' : Hp} (e : Ext S H H') {l : Addr} (h : H' l = none) (hs : ¬ S l) : H l = none := by
  cases q : H l with
  | none => rfl
  | some o =>
    rw [e l o q hs] at h
    cases h
theorem Ext.seq {S : Addr → Prop} {K : PySem.W.Frag} {H H' : Hp} {a : Addr} {xs : List V} (e : Ext S H H') (n : ¬ S a) (h : SqL K H a xs) : SqL K H' a xs := by
  rcases h with (h | ⟨o, h⟩) | h
  · exact .inl (.inl (e _ _ h n))
  · exact .inl (.inr ⟨o, e _ _ h n⟩)
  · exact .inr h
theorem Ext.seqT {S : Addr → Prop} {K : PySem.W.Frag} {H H' : Hp} {a : Addr} {xs : List V} (e : Ext S H H') (n : ¬ S a) (h : SqT K H a xs) : SqT K H' a xs := by
  rcases h with (h | ⟨o, h⟩) | h
  · exact .inl (.inl (e _ _ h n))
  · exact .inl (.inr ⟨o, e _ _ h n⟩)
  · exact .inr h

section
variable {X : Cx}
/-- xs[i] by values, for xs[i] op= e -/
theorem pg_list : PGet X (rIxL X.K) := by
  intro pins s σ H x y v u Q I rx ry h
  obtain ⟨p, xs, i, z, rfl, rfl, hq, he, q⟩ := h
  cases rx
  obtain ⟨t, rfl⟩ := ry
  obtain ⟨its, r, pl, hz⟩ := I.list hq
  obtain ⟨j, h1, h2, h3, h4, h5⟩ := atI_get he
  obtain ⟨w, ew, rw'⟩ := r.get h2
  have hl := r.length
  have hn := line63
  have fin : EP X pins σ Q w s := ⟨z, H, I, rw', q⟩
  by_cases h0 : 0 ≤ i
  · have hj : i.toNat = j := by
      rw [seqIndex_of h0 h5] at h1
      exact Option.some.inj h1
    exact wpAny_getItem_list pl.isList h0 (by omega) (by rw [hj]; simpa using ew) fin
  · have hj : (i + (its.toArray.size : Int)).toNat = j := by
      rw [seqIndex_neg (by omega) h4] at h1
      rw [List.size_toArray, ← hl]
      exact Option.some.inj h1
    exact wpAny_getItem_list_neg pl.isList (by omega) (by rw [List.size_toArray] <;> omega) (by omega) (by rw [hj]; simpa using ew) fin
/-- the signs of a text, each a text -/
def signs (x : Str) : List V := x.cps.toList.map fun c => V.str ⟨#[c]⟩
theorem vals_signs {x : Str} {acc : Array Value} (h : ItemsOf (SignAt x) acc x.cps.size) : Vals (signs x) acc.toList := by
  obtain ⟨hs, hi⟩ := h
  have key : ∀ (cs : List Nat) (us : List Value), cs.length = us.length → (∀ (j : Nat) (v : Value), us[j]? = some v → ∃ c u, cs[j]? = some c ∧ v = .str ⟨#[c]⟩ u) → Vals (cs.map fun c => V.str ⟨#[c]⟩) us := by
    intro cs
    induction cs with
    | nil =>
      intro us hl _
      cases us with
      | nil => exact .nil
      | cons u r => simp at hl
    | cons c cs ih =>
      intro us hl hx
      cases us with
      | nil => simp at hl
      | cons u r =>
        obtain ⟨c', t, e1, e2⟩ := hx 0 u rfl
        have e1' : c = c' := by simpa using e1
        subst e1'
        exact .cons ⟨t, e2⟩ (ih r (by simpa using hl) fun j v e => by
          obtain ⟨c2, t2, q1, q2⟩ := hx (j + 1) v (by simpa using e)
          exact ⟨c2, t2, by simpa using q1, q2⟩)
  refine key x.cps.toList acc.toList (by simp [hs]) fun j v e => ?_
  obtain ⟨c, u, e1, e2⟩ := hi j v (by rw [← Array.getElem?_toList]; exact e)
  exact ⟨c, u, by rw [Array.getElem?_toList]; exact e1, e2⟩
/-- list(a text): a new list of its signs -/
theorem call_listS (hc : X.calm = true) : CallR X (.type "list") (fun xs H Q => ∃ x : Str, xs = [.str x] ∧ x.cps.size ≤ sizeLine ∧ ∀ l, H l = none → Q (.ref l) (upd H l (.lst (signs x)))) := by
  intro pins s σ H xs us Q I r h
  obtain ⟨x, rfl, hz, q⟩ := h
  obtain ⟨u, rfl, t, rfl⟩ := vals1 r
  refine call_list_str (I.ok.hd hc) x t (fun h' tk acc' c' k hS hi => ?_) hz
  have rv := vals_signs hi
  refine ⟨.ref s.heap.objs.size, upd H s.heap.objs.size (.lst (signs x)), I.laid (t' := tk) k (Nat.le_refl _) ⟨?_, acc'.toList, c', rv, ?_⟩, rfl, q _ (I.hok.fresh (Nat.le_refl _))⟩
  · unfold signs
    rw [List.length_map, Array.length_toList]
    exact hz
  · rw [hS]
end

/-! ### comprehensions over a list whose items are told by things of any kind -/
open Evl in
theorem given_map {α : Type} (d : α) (p : α → Bool) (h : α → V) : ∀ ns : List α, given ns.length (fun i => p (ns.getD i d)) (fun i => h (ns.getD i d)) = (ns.filter p).map h := by
  have key : ∀ (r l : List α), given (l ++ r).length (fun i => p ((l ++ r).getD i d)) (fun i => h ((l ++ r).getD i d)) = given l.length (fun i => p ((l ++ r).getD i d)) (fun i => h ((l ++ r).getD i d)) ++ (r.filter p).map h := by
    intro r
    induction r with
    | nil =>
      intro l
      simp
    | cons x r ih =>
      intro l
      have e : l ++ x :: r = (l ++ [x]) ++ r := by simp
      rw [e, ih (l ++ [x])]
      have hx : ((l ++ [x]) ++ r).getD l.length d = x := by simp
      rw [show (l ++ [x]).length = l.length + 1 by simp]
      cases hp : p x with
      | true =>
        rw [given_yes (by rw [hx]; exact hp), hx, List.filter_cons_of_pos hp]
        simp
      | false =>
        rw [given_no (by rw [hx]; exact hp), List.filter_cons_of_neg (by simp [hp])]
  intro ns
  have e := key ns []
  simpa [given] using e
section
open Evl
variable {K : PySem.W.Frag} {σ : L2.St} {H : Hp} {te : TE} {t : TT}
theorem get_map {α : Type} {ns : List α} {f : α → V} {i : Nat} {x : V} (h : (ns.map f)[i]? = some x) (d : α) : ∃ y, ns[i]? = some y ∧ x = f y ∧ ns.getD i d = y ∧ y ∈ ns := by
  rw [List.getElem?_map] at h
  cases e : ns[i]? with
  | none =>
    rw [e] at h
    cases h
  | some y =>
    rw [e] at h
    exact ⟨y, rfl, (Option.some.inj h).symm, by rw [List.getD_eq_getElem?_getD, e]; rfl, List.mem_of_getElem? e⟩
/-- [te for x in a if t], a a list that stands -/
theorem el_map {α : Type} {a : Addr} {tl : TE} {j : Nat} {vs : List Nat} (ns : List α) (f : α → V) (p : α → Bool) (h : α → V) (hl : Ev tl σ H (.ref a)) (hx : SqL K H a (ns.map f)) (hz : ns.length ≤ 40000) (hw : ∀ x, wipe ((wipe σ vs).set j (some x)) vs = wipe σ vs)
    (ht : ∀ x H1, Ex H H1 → x ∈ ns → EvT t ((wipe σ vs).set j (some (f x))) H1 (p x)) (he : ∀ x H1, Ex H H1 → x ∈ ns → p x = true → Ev te ((wipe σ vs).set j (some (f x))) H1 (h x)) :
    EvL (tLc (iList K tl) (gName j) t te vs) σ H ((ns.filter p).map h) := by
  cases ns with
  | nil => exact el_lcL (fun _ => false) (fun _ => .non) hl hx (Nat.zero_le _) hw (fun i x H1 _ e => nomatch e) (fun i x H1 _ e => nomatch e)
  | cons d r =>
    rw [← given_map d p h (d :: r), show (d :: r).length = ((d :: r).map f).length by simp]
    refine el_lcL _ _ hl hx (by rw [List.length_map]; exact hz) hw (fun i x H1 e hi => ?_) (fun i x H1 e hi hp => ?_)
    · obtain ⟨y, e1, rfl, e2, hm⟩ := get_map hi d
      rw [e2]
      exact ht y H1 e hm
    · obtain ⟨y, e1, rfl, e2, hm⟩ := get_map hi d
      rw [e2] at hp ⊢
      exact he y H1 e hm hp
/-- .. over a new list -/
theorem el_mapN {α : Type} {tl : TE} {j : Nat} {vs : List Nat} (ns : List α) (f : α → V) (p : α → Bool) (h : α → V) (hl : EvL tl σ H (ns.map f)) (hz : ns.length ≤ 40000) (hw : ∀ x, wipe ((wipe σ vs).set j (some x)) vs = wipe σ vs)
    (ht : ∀ x H1, Ex H H1 → x ∈ ns → EvT t ((wipe σ vs).set j (some (f x))) H1 (p x)) (he : ∀ x H1, Ex H H1 → x ∈ ns → p x = true → Ev te ((wipe σ vs).set j (some (f x))) H1 (h x)) :
    EvL (tLc (iList K tl) (gName j) t te vs) σ H ((ns.filter p).map h) := by
  cases ns with
  | nil => exact el_lcNL (fun _ => false) (fun _ => .non) hl (Nat.zero_le _) hw (fun i x H1 _ e => nomatch e) (fun i x H1 _ e => nomatch e)
  | cons d r =>
    rw [← given_map d p h (d :: r), show (d :: r).length = ((d :: r).map f).length by simp]
    refine el_lcNL _ _ hl (by rw [List.length_map]; exact hz) hw (fun i x H1 e hi => ?_) (fun i x H1 e hi hp => ?_)
    · obtain ⟨y, e1, rfl, e2, hm⟩ := get_map hi d
      rw [e2]
      exact ht y H1 e hm
    · obtain ⟨y, e1, rfl, e2, hm⟩ := get_map hi d
      rw [e2] at hp ⊢
      exact he y H1 e hm hp
theorem et_yes : EvT tYes σ H true := fun H1 _ _ q => q H1 (Ex.refl H1)
end
end Hc
/-! module HsMath -/
set_option maxHeartbeats 4000000
/-! Shapes as texts and as trees. -/
namespace Hs
open PySem PySem.Spec PyProof.Rows L2
abbrev S (l : List Nat) : Str := ⟨l.toArray⟩
theorem S_len (a : List Nat) : (S a).length = a.length := by simp [S, Str.length]
theorem S_cat (a b : List Nat) : S a ++ S b = S (a ++ b) := TL.ext_tl (TL.tl_append (S a) (S b))
theorem S_inj {a b : List Nat} (h : S a = S b) : a = b := congrArg (fun x : Str => x.cps.toList) h
theorem S_tl (x : Str) : S x.cps.toList = x := TL.mk_tl x
theorem join_S (a : List Nat) (ys : List (List Nat)) : Txt.join (S a) (ys.map S) = S (TL.joinL a ys) := SX.join_S a ys

/-! ### texts -/
theorem cut_nn (L : List Nat) (i j : Nat) : cutS (S L) (some (i : Int)) (some (j : Int)) = S ((L.drop i).take (j - i)) := by
  unfold cutS
  rw [HT.sIx_nat, HT.sIx_nat, S_len]
  congr 2
  show (L.drop (min i L.length)).take (min j L.length - min i L.length) = (L.drop i).take (j - i)
  by_cases h : i ≤ L.length
  · rw [Nat.min_eq_left h]
    by_cases h2 : j ≤ L.length
    · rw [Nat.min_eq_left h2]
    · rw [Nat.min_eq_right (by omega), List.take_of_length_le (l := L.drop i) (i := L.length - i) (by rw [List.length_drop]; omega), List.take_of_length_le (by rw [List.length_drop]; omega)]
  · rw [Nat.min_eq_right (a := i) (by omega), List.drop_of_length_le (by omega), List.drop_of_length_le (l := L) (i := i) (by omega)]
    simp
theorem cut_n (L : List Nat) (i : Nat) : cutS (S L) (some (i : Int)) none = S (L.drop i) := by
  unfold cutS
  rw [HT.sIx_nat, HT.sIx_none, S_len]
  congr 2
  show (L.drop (min i L.length)).take (L.length - min i L.length) = L.drop i
  by_cases h : i ≤ L.length
  · rw [Nat.min_eq_left h, List.take_of_length_le (by rw [List.length_drop]; omega)]
  · rw [Nat.min_eq_right (by omega), List.drop_of_length_le (by omega), List.drop_of_length_le (l := L) (i := i) (by omega)]
    simp
/-- text[1:-1] -/
def inner (L : List Nat) : List Nat := (L.drop 1).take (L.length - 2)
theorem cut_in (L : List Nat) : cutS (S L) (some (1 : Int)) (some (-1 : Int)) = S (inner L) := by
  unfold cutS inner
  rw [show (1 : Int) = ((1 : Nat) : Int) from rfl, HT.sIx_nat, S_len]
  have e : HT.sIx L.length L.length (some (-((1 : Nat) : Int))) = L.length - 1 := by
    unfold HT.sIx
    dsimp only
    rw [if_pos (by decide)]
    omega
  rw [e]
  congr 2
  show (L.drop (min 1 L.length)).take (L.length - 1 - min 1 L.length) = (L.drop 1).take (L.length - 2)
  by_cases h : 1 ≤ L.length
  · rw [Nat.min_eq_left h, Nat.sub_sub]
  · rw [Nat.min_eq_right (by omega), List.drop_of_length_le (by omega), List.drop_of_length_le (l := L) (i := 1) (by omega)]
    simp
theorem inner_len (L : List Nat) : (inner L).length ≤ L.length := by
  unfold inner
  rw [List.length_take, List.length_drop]
  omega
theorem starts1 (L : List Nat) (c : Nat) : Txt.startswith (S L) (S [c]) = (L.head? == some c) := by
  unfold Txt.startswith
  rw [StrLaws.subAt_eq, S_len, S_len]
  show (decide (0 + 1 ≤ L.length) && ((L.drop 0).take 1 == [c])) = _
  cases L with
  | nil => rfl
  | cons x r =>
    rw [List.drop_zero, List.take_succ_cons, List.take_zero, List.length_cons, List.head?_cons, decide_eq_true (by omega)]
    show ([x] == [c]) = (some x == some c)
    by_cases h : x = c
    · subst h; simp
    · simp [h]
theorem ends1 (L : List Nat) (c : Nat) : Txt.endswith (S L) (S [c]) = (L.getLast? == some c) := by
  unfold Txt.endswith
  rw [StrLaws.subAt_eq, S_len, S_len]
  show (decide (0 + 1 ≤ L.length) && ((L.drop (L.length - 1)).take 1 == [c])) = _
  rcases List.eq_nil_or_concat L with rfl | ⟨l, x, rfl⟩
  · rfl
  · rw [List.concat_eq_append, List.getLast?_append]
    simp
theorem count1 (L : List Nat) (c : Nat) : Txt.count (S L) (S [c]) = ((L.count c : Nat) : Int) := by
  show Txt.count (S L) ⟨#[c]⟩ = _
  rw [count_cnt]
  show cnt c L = _
  induction L with
  | nil => rfl
  | cons x r ih =>
    rw [cnt_cons, ih, List.count_cons]
    by_cases h : x = c
    · subst h
      simp
      omega
    · simp [h]

/-! ### parts -/
abbrev SS := List (List Nat) × Int × Nat
def stepP (L : List Nat) (st : SS) (at_ c : Nat) : SS :=
  if c ∈ [91, 40] then (st.1, st.2.1 + 1, st.2.2)
  else if c ∈ [41, 93] then (st.1, st.2.1 - 1, st.2.2)
  else if st.2.1 = 0 ∧ (L.drop at_).take 2 = [44, 32] then (st.1 ++ [(L.drop st.2.2).take (at_ - st.2.2)], st.2.1, at_ + 2)
  else st
def scan (L : List Nat) : List Nat → Nat → SS → SS
  | [], _, st => st
  | c :: r, i, st => scan L r (i + 1) (stepP L st i c)
def partsOf (L : List Nat) : List (List Nat) := (scan L L 0 ([], 0, 0)).1 ++ [L.drop (scan L L 0 ([], 0, 0)).2.2]

theorem scan_len (L : List Nat) : ∀ (r : List Nat) (i : Nat) (st : SS), (scan L r i st).1.length ≤ st.1.length + r.length
  | [], _, _ => Nat.le_refl _
  | c :: r, i, st => by
    show (scan L r (i + 1) (stepP L st i c)).1.length ≤ _
    have h := scan_len L r (i + 1) (stepP L st i c)
    have h2 : (stepP L st i c).1.length ≤ st.1.length + 1 := by
      unfold stepP
      split
      · exact Nat.le_succ _
      · split
        · exact Nat.le_succ _
        · split
          · simp
          · exact Nat.le_succ _
    rw [List.length_cons]
    omega
theorem partsOf_len (L : List Nat) : (partsOf L).length ≤ L.length + 1 := by
  unfold partsOf
  have h := scan_len L L 0 ([], 0, 0)
  rw [List.length_append, List.length_singleton]
  simpa using h
theorem scan_items (L : List Nat) : ∀ (r : List Nat) (i : Nat) (st : SS), (∀ p ∈ st.1, p.length ≤ L.length) → ∀ p ∈ (scan L r i st).1, p.length ≤ L.length
  | [], _, _, h => h
  | c :: r, i, st, h => by
    refine scan_items L r (i + 1) (stepP L st i c) ?_
    unfold stepP
    split
    · exact h
    · split
      · exact h
      · split
        · intro p hp
          rcases List.mem_append.mp hp with hp | hp
          · exact h p hp
          · rw [List.mem_singleton.mp hp, List.length_take, List.length_drop]
            omega
        · exact h
theorem partsOf_items (L : List Nat) : ∀ p ∈ partsOf L, p.length ≤ L.length := by
  intro p hp
  unfold partsOf at hp
  rcases List.mem_append.mp hp with hp | hp
  · exact scan_items L L 0 ([], 0, 0) (fun p hp => nomatch hp) p hp
  · rw [List.mem_singleton.mp hp, List.length_drop]
    omega

/-! ### forms -/
def hasForm : Nat → List Nat → Bool
  | 0, t => decide (t = [46])
  | f + 1, t => decide (t = [46]) || ((t.head? == some 91) && (t.getLast? == some 93) && (decide ((partsOf (inner t)).length ≤ 3) && (partsOf (inner t)).all (hasForm f)))
def isShape (t : List Nat) : Bool := decide (t.count 91 ≤ 5) && hasForm 3 t
theorem form_up : ∀ (f : Nat) (t : List Nat), hasForm f t = true → hasForm (f + 1) t = true
  | 0, t, h => by
    show (decide (t = [46]) || _) = true
    have h' : decide (t = [46]) = true := h
    rw [h']
    rfl
  | f + 1, t, h => by
    have h' : (decide (t = [46]) || ((t.head? == some 91) && (t.getLast? == some 93) && (decide ((partsOf (inner t)).length ≤ 3) && (partsOf (inner t)).all (hasForm f)))) = true := h
    show (decide (t = [46]) || ((t.head? == some 91) && (t.getLast? == some 93) && (decide ((partsOf (inner t)).length ≤ 3) && (partsOf (inner t)).all (hasForm (f + 1))))) = true
    rw [Bool.or_eq_true] at h' ⊢
    rcases h' with h' | h'
    · exact .inl h'
    · rw [Bool.and_eq_true, Bool.and_eq_true, Bool.and_eq_true] at h' ⊢
      obtain ⟨⟨a, b⟩, c, d⟩ := h'
      refine .inr ⟨⟨a, b⟩, c, ?_⟩
      rw [List.all_eq_true] at d ⊢
      exact fun p hp => form_up f p (d p hp)
theorem form_le {f g : Nat} (h : f ≤ g) {t : List Nat} (x : hasForm f t = true) : hasForm g t = true := by
  induction h with
  | refl => exact x
  | step _ ih => exact form_up _ _ ih

/-! ### trees: lists of lists, n floors at most -/
def Tre : Nat → Type
  | 0 => Unit
  | n + 1 => List (Tre n)
def txt : (n : Nat) → Tre n → List Nat
  | 0, _ => [46]
  | n + 1, (l : List (Tre n)) => if l.isEmpty then [46] else 91 :: (TL.joinL [44, 32] (l.map (txt n)) ++ [93])
def lsts : (n : Nat) → Tre n → Nat
  | 0, _ => 0
  | n + 1, (l : List (Tre n)) => if l.isEmpty then 0 else 1 + (l.map (lsts n)).sum
def dep : (n : Nat) → Tre n → Nat
  | 0, _ => 0
  | n + 1, (l : List (Tre n)) => if l.isEmpty then 0 else 1 + (l.map (dep n)).foldl max 0
def slim : (n : Nat) → Tre n → Bool
  | 0, _ => true
  | n + 1, (l : List (Tre n)) => decide (l.length ≤ 3) && l.all (slim n)
theorem txt_nil (n : Nat) : txt (n + 1) ([] : List (Tre n)) = [46] := rfl
theorem txt_cons (n : Nat) (x : Tre n) (r : List (Tre n)) : txt (n + 1) (x :: r : List (Tre n)) = 91 :: (TL.joinL [44, 32] ((x :: r).map (txt n)) ++ [93]) := rfl
theorem joinL_cons (s p q : List Nat) (r : List (List Nat)) : TL.joinL s (p :: q :: r) = p ++ (s ++ TL.joinL s (q :: r)) := rfl

theorem scan_app (L : List Nat) : ∀ (a r : List Nat) (i : Nat) (st : SS), scan L (a ++ r) i st = scan L r (i + a.length) (scan L a i st)
  | [], r, i, st => rfl
  | c :: a, r, i, st => by
    show scan L (a ++ r) (i + 1) (stepP L st i c) = scan L r (i + (a.length + 1)) (scan L a (i + 1) (stepP L st i c))
    rw [scan_app L a r (i + 1), show i + 1 + a.length = i + (a.length + 1) by omega]
theorem drop_app {L a r : List Nat} {i : Nat} (h : L.drop i = a ++ r) : L.drop (i + a.length) = r := by
  rw [← List.drop_drop, h, List.drop_left]
/-- a text of a shape leaves the scan as it was -/
theorem scan_txt : ∀ (n : Nat) (t : Tre n) (L r : List Nat) (i : Nat) (p : List (List Nat)) (k : Int) (s : Nat), 0 ≤ k → L.drop i = txt n t ++ r → scan L (txt n t) i (p, k, s) = (p, k, s) := by
  have dot : ∀ (L r : List Nat) (i : Nat) (p : List (List Nat)) (k : Int) (s : Nat), L.drop i = [46] ++ r → scan L [46] i (p, k, s) = (p, k, s) := by
    intro L r i p k s h
    show stepP L (p, k, s) i 46 = (p, k, s)
    unfold stepP
    rw [if_neg (by decide), if_neg (by decide), h, if_neg (by simp)]
  intro n
  induction n with
  | zero => exact fun t L r i p k s _ h => dot L r i p k s h
  | succ n ih =>
    intro t L r i p k s hk h
    match t, h with
    | [], h => exact dot L r i p k s h
    | x :: l, h =>
      rw [txt_cons] at h ⊢
      -- the items, within one bracket more
      have items : ∀ (l : List (Tre n)) (x : Tre n) (j : Nat) (q : List Nat) (k : Int), 0 < k → L.drop j = TL.joinL [44, 32] ((x :: l).map (txt n)) ++ q → scan L (TL.joinL [44, 32] ((x :: l).map (txt n))) j (p, k, s) = (p, k, s) := by
        intro l
        induction l with
        | nil =>
          intro x j q k hk h
          exact ih x L q j p k s (by omega) h
        | cons y l ih2 =>
          intro x j q k hk h
          rw [List.map_cons, List.map_cons, joinL_cons] at h ⊢
          rw [scan_app, ih x L ([44, 32] ++ TL.joinL [44, 32] (txt n y :: l.map (txt n)) ++ q) j p k s (by omega) (by rw [h]; simp), scan_app]
          have e : scan L [44, 32] (j + (txt n x).length) (p, k, s) = (p, k, s) := by
            show stepP L (stepP L (p, k, s) _ 44) _ 32 = (p, k, s)
            have one : ∀ (m c : Nat), c ∉ [91, 40] → c ∉ [41, 93] → stepP L (p, k, s) m c = (p, k, s) := by
              intro m c h1 h2
              unfold stepP
              rw [if_neg h1, if_neg h2, if_neg (by rintro ⟨z, _⟩; exact absurd z (by show ¬ k = 0; omega))]
            rw [one _ 44 (by decide) (by decide), one _ 32 (by decide) (by decide)]
          rw [e]
          refine ih2 y _ q k hk ?_
          have d1 : L.drop (j + (txt n x).length) = [44, 32] ++ (TL.joinL [44, 32] (txt n y :: l.map (txt n)) ++ q) := drop_app (a := txt n x) (by rw [h]; simp)
          exact drop_app (a := [44, 32]) d1
      show scan L (TL.joinL [44, 32] ((x :: l).map (txt n)) ++ [93]) (i + 1) (stepP L (p, k, s) i 91) = (p, k, s)
      have e1 : stepP L (p, k, s) i 91 = (p, k + 1, s) := by
        unfold stepP
        rw [if_pos (by decide)]
      rw [e1, scan_app, items l x (i + 1) ([93] ++ r) (k + 1) (by omega) (by
        have := drop_app (a := [91]) (r := TL.joinL [44, 32] ((x :: l).map (txt n)) ++ [93] ++ r) (L := L) (i := i) (by rw [h]; simp)
        rw [show i + 1 = i + [91].length by rfl, this]
        simp)]
      show stepP L (p, k + 1, s) (i + 1 + (TL.joinL [44, 32] ((x :: l).map (txt n))).length) 93 = (p, k, s)
      unfold stepP
      rw [if_neg (by decide), if_pos (by decide)]
      show (p, k + 1 - 1, s) = (p, k, s)
      rw [Int.add_sub_cancel]
theorem scan_join (n : Nat) : ∀ (l : List (Tre n)) (x : Tre n) (L : List Nat) (i : Nat) (p : List (List Nat)), L.drop i = TL.joinL [44, 32] ((x :: l).map (txt n)) →
    (scan L (TL.joinL [44, 32] ((x :: l).map (txt n))) i (p, 0, i)).1 ++ [L.drop (scan L (TL.joinL [44, 32] ((x :: l).map (txt n))) i (p, 0, i)).2.2] = p ++ (x :: l).map (txt n) := by
  intro l
  induction l with
  | nil =>
    intro x L i p h
    have e := scan_txt n x L [] i p 0 i (Int.le_refl 0) (by rw [List.append_nil]; exact h)
    show (scan L (txt n x) i (p, 0, i)).1 ++ [L.drop (scan L (txt n x) i (p, 0, i)).2.2] = p ++ [txt n x]
    rw [e]
    show p ++ [L.drop i] = _
    rw [h]
    rfl
  | cons y l ih =>
    intro x L i p h
    rw [List.map_cons, List.map_cons, joinL_cons] at h ⊢
    rw [scan_app, scan_app, scan_txt n x L _ i p 0 i (Int.le_refl 0) h]
    have d1 : L.drop (i + (txt n x).length) = [44, 32] ++ TL.joinL [44, 32] (txt n y :: l.map (txt n)) := drop_app h
    have e : scan L [44, 32] (i + (txt n x).length) (p, 0, i) = (p ++ [txt n x], 0, i + (txt n x).length + 2) := by
      show stepP L (stepP L (p, 0, i) _ 44) _ 32 = _
      have e1 : stepP L (p, 0, i) (i + (txt n x).length) 44 = (p ++ [txt n x], 0, i + (txt n x).length + 2) := by
        unfold stepP
        rw [if_neg (by decide), if_neg (by decide), if_pos ⟨rfl, by rw [d1]; rfl⟩]
        show (p ++ [(L.drop i).take (i + (txt n x).length - i)], _, _) = _
        rw [h, Nat.add_sub_cancel_left, List.take_left]
      rw [e1]
      have d2 : L.drop (i + (txt n x).length + 1) = 32 :: TL.joinL [44, 32] (txt n y :: l.map (txt n)) := by
        rw [← List.drop_drop, d1]
        rfl
      unfold stepP
      rw [if_neg (by decide), if_neg (by decide), if_neg (by rw [d2]; rintro ⟨_, z⟩; simp at z)]
    rw [e]
    have d3 : L.drop (i + (txt n x).length + 2) = TL.joinL [44, 32] (txt n y :: l.map (txt n)) := drop_app (a := [44, 32]) d1
    have z := ih y L (i + (txt n x).length + 2) (p ++ [txt n x]) d3
    rw [List.map_cons] at z
    refine z.trans ?_
    simp
theorem parts_txt (n : Nat) (x : Tre n) (l : List (Tre n)) : partsOf (inner (txt (n + 1) (x :: l : List (Tre n)))) = (x :: l).map (txt n) := by
  have e : inner (txt (n + 1) (x :: l : List (Tre n))) = TL.joinL [44, 32] ((x :: l).map (txt n)) := by
    rw [txt_cons]
    unfold inner
    rw [List.drop_one, List.tail_cons, List.length_cons, List.length_append, List.length_singleton]
    show List.take (_ + 1 + 1 - 2) _ = _
    rw [show (TL.joinL [44, 32] ((x :: l).map (txt n))).length + 1 + 1 - 2 = (TL.joinL [44, 32] ((x :: l).map (txt n))).length by omega, List.take_left]
  rw [e]
  unfold partsOf
  have z := scan_join n l x (TL.joinL [44, 32] ((x :: l).map (txt n))) 0 [] rfl
  rw [z]
  rfl
theorem txt_head (n : Nat) (x : Tre n) (l : List (Tre n)) : (txt (n + 1) (x :: l : List (Tre n))).head? = some 91 := rfl
theorem txt_last (n : Nat) (x : Tre n) (l : List (Tre n)) : (txt (n + 1) (x :: l : List (Tre n))).getLast? = some 93 := by
  rw [txt_cons, ← List.cons_append, List.getLast?_append]
  rfl
theorem txt_form : ∀ (n : Nat) (t : Tre n), slim n t = true → hasForm n (txt n t) = true
  | 0, _, _ => rfl
  | n + 1, [], _ => rfl
  | n + 1, x :: l, h => by
    have h' : (decide ((x :: l).length ≤ 3) && (x :: l).all (slim n)) = true := h
    rw [Bool.and_eq_true, List.all_eq_true] at h'
    unfold hasForm
    rw [parts_txt, txt_head, txt_last, List.length_map, h'.1, List.all_map]
    have e : (x :: l).all (hasForm n ∘ txt n) = true := List.all_eq_true.mpr fun y hy => txt_form n y (h'.2 y hy)
    rw [e]
    simp
theorem txt_dot {n : Nat} {x : Tre n} {l : List (Tre n)} : txt (n + 1) (x :: l : List (Tre n)) ≠ [46] := by
  rw [txt_cons]
  intro z
  simp at z
theorem count_join (l : List (List Nat)) : (TL.joinL [44, 32] l).count 91 = (l.map (·.count 91)).sum := by
  induction l with
  | nil => rfl
  | cons p r ih =>
    cases r with
    | nil => simp [TL.joinL]
    | cons q r =>
      rw [joinL_cons, List.count_append, List.count_append, ih]
      simp
theorem txt_count : ∀ (n : Nat) (t : Tre n), (txt n t).count 91 = lsts n t
  | 0, _ => rfl
  | n + 1, [] => rfl
  | n + 1, x :: l => by
    rw [txt_cons, List.count_cons, List.count_append, count_join, List.map_map]
    show (((x :: l).map ((·.count 91) ∘ txt n)).sum + [93].count 91) + _ = 1 + ((x :: l).map (lsts n)).sum
    have e : (x :: l).map ((·.count 91) ∘ txt n) = (x :: l).map (lsts n) := List.map_congr_left fun y _ => txt_count n y
    rw [e]
    simp
    omega
/-- trees with one text are one tree -/
theorem txt_inj : ∀ (n : Nat) (a b : Tre n), txt n a = txt n b → a = b
  | 0, _, _, _ => rfl
  | n + 1, [], [], _ => rfl
  | n + 1, [], y :: m, h => absurd h.symm txt_dot
  | n + 1, x :: l, [], h => absurd h txt_dot
  | n + 1, x :: l, y :: m, h => by
    have e : (x :: l).map (txt n) = (y :: m).map (txt n) := by rw [← parts_txt, ← parts_txt, h]
    have key : ∀ (p q : List (Tre n)), p.map (txt n) = q.map (txt n) → p = q := by
      intro p
      induction p with
      | nil =>
        intro q hq
        cases q with
        | nil => rfl
        | cons _ _ => simp at hq
      | cons c p ih =>
        intro q hq
        cases q with
        | nil => simp at hq
        | cons d q =>
          simp only [List.map_cons, List.cons.injEq] at hq
          rw [txt_inj n c d hq.1, ih q hq.2]
    exact key _ _ e
end Hs
/-! module HsTop -/
set_option maxHeartbeats 4000000
namespace Hc
open PySem PySem.Spec PyProof.Rows L2
def top (i : Nat) : Stmt := PySem.Challenge.pw_handedcopies_k43_mends_made.main.body.getD i (.Pass ⟨0, 0, 0, 0⟩)
abbrev cBadMend : Stmt := top 3
abbrev sSmall : Stmt := top 8
abbrev sWord : Stmt := top 9
abbrev sDoor : Stmt := top 16
abbrev sPair : Stmt := top 17
abbrev cMend : Stmt := top 18
abbrev sStart : Stmt := top 20
abbrev sDraw : Stmt := top 21
abbrev sOf : Stmt := top 22
abbrev sLWord : Stmt := top 23
abbrev sLPair : Stmt := top 24
abbrev sLNum : Stmt := top 25
abbrev sLMade : Stmt := top 26
abbrev sLIsAs : Stmt := top 27
abbrev sLaw : Stmt := top 28
end Hc
/-! module HcHead -/
set_option maxHeartbeats 4000000
/-! A head with facts by names and a test of one's own. -/
namespace Hc
open PySem PySem.Spec PyProof.Rows L2
def seenK (n : Nat) (g : Addr → Option Obj) : PySem.W.Frag := He.frG g (He.asD g n)
def obsC (n : Nat) (fa : List He.Fa) (fn : List He.DefD) (ex : PySem.W.Frag → Bool) (g : Addr → Option Obj) : Bool × He.AlD := (ex (seenK n g), He.obsD fa fn (seenK n g))
def hookC (n : Nat) (fa : List He.Fa) (fn : List He.DefD) (ex : PySem.W.Frag → Bool) : PySem.W.Hook where
  α := Bool × He.AlD
  obs := fun s => obsC n fa fn ex s.heap.get?
  val := fun _ => (true, He.valD fn)
  says := fun _ h => ∃ K : PySem.W.Frag, K.In h ∧ ex K = true ∧ He.SaysD fa fn K
  of := fun _ _ e => ⟨_, He.frG_in, congrArg Prod.fst e, congrArg Prod.snd e⟩
  keeps := fun _ _ _ ⟨K, hK, c⟩ k => ⟨K, PySem.W.Frag.In.keeps hK k, c⟩
def obC (n : Nat) (fa : List He.Fa) (fn : List He.DefD) (ex : PySem.W.Frag → Bool) (s : PySem.W.SharedT) : Bool × He.AlD := obsC n fa fn ex (HandSHeadRun.getT s)
theorem obC_eq (n : Nat) (fa : List He.Fa) (fn : List He.DefD) (ex : PySem.W.Frag → Bool) (s : PySem.W.SharedT) : obC n fa fn ex s = (hookC n fa fn ex).obs s.abs := by
  have e : HandSHeadRun.getT s = s.abs.heap.get? := funext (HandSHeadRun.getT_eq s)
  show obsC n fa fn ex (HandSHeadRun.getT s) = obsC n fa fn ex s.abs.heap.get?
  rw [e]
/-- a def of the text without defaults -/
theorem fun_of {K : PySem.W.Frag} {x q : Str} {st : Stmt} {f : Addr} {fd : FuncData} (F : FunD K x q (defArgs st) (defBody st) (defScope st) [] [] f fd) : Fun K x q st f fd := by
  obtain ⟨oc, od, dV, kV, doc, pm, an, cdv, ct, osl, e, lk, hcd, hd, _⟩ := F.ex
  rcases hd with ⟨_, rfl⟩ | ⟨h, _⟩
  · exact ⟨⟨oc, od, kV, doc, pm, an, cdv, ct, osl, e, lk, hcd⟩, F.kp⟩
  · exact absurd rfl h
/-- a global def as data; a class's maker -/
def dk (x : Str) (st : Stmt) : He.DefD := ⟨(x, none), x, x, defArgs st, defBody st, defScope st, [], []⟩
def dmk (C m q : Str) (st : Stmt) : He.DefD := ⟨(C, some m), m, q, defArgs st, defBody st, defScope st, [], []⟩
theorem def_of {fa : List He.Fa} {fn : List He.DefD} {K : PySem.W.Frag} (c : He.SaysD fa fn K) (i : Nat) {x : Str} {st : Stmt} (h : fn[i]? = some (dk x st) := by rfl) : ∃ fd, Fun K x x st (He.ga K x) fd := by
  obtain ⟨fd, F⟩ := c.def_ i h
  exact ⟨fd, fun_of F⟩
theorem mth_of {fa : List He.Fa} {fn : List He.DefD} {K : PySem.W.Frag} (c : He.SaysD fa fn K) (i : Nat) {C m q : Str} {st : Stmt} (h : fn[i]? = some (dmk C m q st) := by rfl) : ∃ fd, Fun K m q st (He.ma K (He.ga K C) m) fd := by
  obtain ⟨fd, F⟩ := c.def_ i h
  exact ⟨fd, fun_of F⟩
end Hc
/-! module HsHead -/
set_option maxHeartbeats 4000000
/-! A head that sees the getters of properties, too. -/
namespace Hc
open PySem PySem.Spec PyProof.Rows L2
def pAd (K : PySem.W.Frag) (C : Addr) (f : Str) : Addr := match PySem.W.findIn K (.ref C) f with
  | some (some (.ref p)) => p
  | _ => 0
def gAd (K : PySem.W.Frag) (C : Addr) (f : Str) : Addr := match PySem.W.recIn K (pAd K C f) "property" with
  | some (.ref g :: _) => g
  | _ => 0
def propB (K : PySem.W.Frag) (C : Addr) (f : Str) : Bool := decide (PySem.W.findIn K (.ref C) f = some (some (.ref (pAd K C f)))) && (decide (PySem.W.specialIn K (.ref (pAd K C f)) "__get__" = some (some (.builtin "property.__get__"))) &&
  (decide (PySem.W.takesIn K (.ref (pAd K C f)) = some true) && (match PySem.W.recIn K (pAd K C f) "property" with
    | some (.ref g :: _) => decide (g = gAd K C f)
    | _ => false)))
theorem propB_ok {K : PySem.W.Frag} {C : Addr} {f : Str} (h : propB K C f = true) : PropOf K C f (pAd K C f) (gAd K C f) := by
  unfold propB at h
  simp only [Bool.and_eq_true, decide_eq_true_eq] at h
  obtain ⟨h1, h2, h3, h4⟩ := h
  refine ⟨h1, h2, h3, ?_⟩
  split at h4
  · rename_i g r e
    rw [of_decide_eq_true h4] at e
    exact ⟨r, e⟩
  · cases h4
def fnA (K : PySem.W.Frag) (a : Addr) : He.FnV := match K.lookup a with
  | some ⟨_, _, .func fd, _⟩ => some (fd.name, fd.qualname, fd.params, fd.body, fd.scope, fd.globals, fd.closure, fd.defaults, fd.builtins)
  | _ => none
def codeA (K : PySem.W.Frag) (a : Addr) (q : Str) : Bool := match K.lookup a with
  | some ⟨_, _, .func fd, _⟩ => PySem.W.codeIn K fd.code q
  | _ => false
def fnVal (x q : Str) (st : Stmt) : He.FnV := some (x, q, defArgs st, .stmts (defBody st), defScope st, mainGlobals, [], .none, builtinsNs)
theorem fnA_ok {K : PySem.W.Frag} {a : Addr} {x q : Str} {st : Stmt} (e : fnA K a = fnVal x q st) (c : codeA K a q = true) :
    ∃ oc od osl kV doc pm an cdv ct, K.lookup a = some ⟨oc, od, .func (PySem.W.fnOf x q (defArgs st) (defBody st) (defScope st) .none kV doc pm an cdv ct), osl⟩ ∧ PySem.W.codeIn K cdv q = true := by
  unfold fnA at e
  unfold codeA at c
  cases z : K.lookup a with
  | none =>
    rw [z] at c
    cases c
  | some o =>
    obtain ⟨oc, od, dt, osl⟩ := o
    rw [z] at c e
    cases dt with
    | func fd =>
      obtain ⟨n1, n2, n3, n4, n5, n6, n7, n8, n9, n10, n11, n12, n13, n14, n15⟩ := fd
      have e2 : (some (n1, n2, n3, n4, n5, n6, n7, n8, n15) : He.FnV) = some (x, q, defArgs st, .stmts (defBody st), defScope st, mainGlobals, [], .none, builtinsNs) := e
      simp only [Option.some.injEq, Prod.mk.injEq] at e2
      obtain ⟨h1, h2, h3, h4, h5, h6, h7, h8, h9⟩ := e2
      subst h1 h2 h3 h4 h5 h6 h7 h8 h9
      exact ⟨oc, od, osl, n9, n10, n11, n12, n13, n14, rfl, c⟩
    | _ => cases c
def obsG3 (n : Nat) (fa : List He.Fa) (fn : List He.DefD) (ex : PySem.W.Frag → Bool) (gt : PySem.W.Frag → List He.FnV) (g : Addr → Option Obj) : Bool × He.AlD × List He.FnV := (ex (seenK n g), He.obsD fa fn (seenK n g), gt (seenK n g))
def hookG (n : Nat) (fa : List He.Fa) (fn : List He.DefD) (ex : PySem.W.Frag → Bool) (gt : PySem.W.Frag → List He.FnV) (gv : List He.FnV) : PySem.W.Hook where
  α := Bool × He.AlD × List He.FnV
  obs := fun s => obsG3 n fa fn ex gt s.heap.get?
  val := fun _ => (true, He.valD fn, gv)
  says := fun _ h => ∃ K : PySem.W.Frag, K.In h ∧ ex K = true ∧ He.SaysD fa fn K ∧ gt K = gv
  of := fun _ _ e => ⟨_, He.frG_in, congrArg Prod.fst e, congrArg (fun z : Bool × He.AlD × List He.FnV => z.2.1) e, congrArg (fun z : Bool × He.AlD × List He.FnV => z.2.2) e⟩
  keeps := fun _ _ _ ⟨K, hK, c⟩ k => ⟨K, PySem.W.Frag.In.keeps hK k, c⟩
def obG (n : Nat) (fa : List He.Fa) (fn : List He.DefD) (ex : PySem.W.Frag → Bool) (gt : PySem.W.Frag → List He.FnV) (s : PySem.W.SharedT) : Bool × He.AlD × List He.FnV := obsG3 n fa fn ex gt (HandSHeadRun.getT s)
theorem obG_eq (n : Nat) (fa : List He.Fa) (fn : List He.DefD) (ex : PySem.W.Frag → Bool) (gt : PySem.W.Frag → List He.FnV) (gv : List He.FnV) (s : PySem.W.SharedT) : obG n fa fn ex gt s = (hookG n fa fn ex gt gv).obs s.abs := by
  have e : HandSHeadRun.getT s = s.abs.heap.get? := funext (HandSHeadRun.getT_eq s)
  show obsG3 n fa fn ex gt (HandSHeadRun.getT s) = obsG3 n fa fn ex gt s.abs.heap.get?
  rw [e]
end Hc
/-! module HcExc -/
set_option maxHeartbeats 4000000
/-! Exceptions of the text's own classes as values, over any built-in base: made by their own maker, their fields stored and read, isinstance. -/
namespace PySem
namespace HcX
open PySem.W PySem.Calls PyProof.Rows PySem.HandSPX
open Builtin Builtin.ObjectAttr
section
variable {prog : Program} {w : World} {A : Around} {E : Value → Shared → Prop} {R : Result → Shared → Prop} {hp : Heap} {g : Array GenState} {d : Drawn} {t : Nat} {os : OsState} {K : W.Frag} {B : String} {bmB : List Value}
/-- the first field of an exception that has no dict yet -/
theorem first_field {name : Str} {tk : Tok} {v : Value} {x C : Addr} {fv : Array Value} (SF : StoreFacts B bmB "object.__setattr__" "object") (X : K.In hp) (hx : hp.get? x = some { cls := .ref C, data := .fields fv })
    (ov : excOver K C bmB = true) (hd : hasDictIn K C = true) (ha : findIn K (.ref C) name = some none)
    (hq : ∀ h' tk' dx, (∀ b o, b ≠ x → hp.get? b = some o → h'.get? b = some o) → hp.objs.size ≤ dx → dx ≠ x → h'.get? x = some { cls := .ref C, dict := some dx, data := .fields fv } →
      h'.Ns1 dx (fun y => if y = name then some v else none) → R (.ok (.ret .none)) ⟨h', g, d, tk', os⟩) :
    codeAny (model prog w) A (.call (.builtin "object.__setattr__") ⟨[.ref x, .str name tk, v], []⟩) R ⟨hp, g, d, t, os⟩ := by
  obtain ⟨cd, hcd, hh⟩ := any_some hd
  have far : x ≠ hp.objs.size := Nat.ne_of_lt (Heap.lt_size hx)
  have taker : takerIn K C name = some none := by
    unfold takerIn
    rw [ha] <;> rfl
  have look : Looks (model prog w) hp (classData C) cd := looks_clsIn X hcd
  refine osa_openX (od := none) (r := none) SF X ⟨hx, rfl, rfl, trivial⟩ ov taker fun b => ?_
  show wpAny _ _ (storeInOwnDict (.ref x) (.ref C) (.str name tk) name v b) _ _ _
  obtain ⟨n1, n2, n3, n4, n5, dct, n6, n7, n8, n9, n10⟩ := cd
  have e : dct = true := hh
  subst e
  unfold storeInOwnDict ownDictForStores
  repeat (first | with_reducible refine store_in_new ?_ ?_ | with_reducible refine wpAny_loadPart_at hx ?_ | with_reducible refine look.at ?_ | wp_step)
  · exact ⟨_, #[], _, (Heap.get?_update_ne _ _ _ _ far.symm).trans (Heap.get?_push_at rfl rfl), rfl, fun e he => absurd he (by simp), fun _ => rfl⟩
  · intro h' tk' hn' hs
    have there : (hp.push { cls := .type "dict", data := .dict #[] }).get? x = some { cls := .ref C, data := .fields fv } := Heap.get?_push_of_some _ hx
    exact hq h' tk' hp.objs.size (fun b o hb ho => (hs.2 b (Nat.ne_of_lt (Heap.lt_size ho))).trans ((Heap.get?_update_ne _ _ _ _ hb).trans (Heap.get?_push_of_some _ ho))) (Nat.le_refl _) far.symm
      ((hs.2 x far).trans (Heap.get?_update_self _ there rfl)) hn'
/-- a further field -/
theorem next_field {name : Str} {tk : Tok} {v : Value} {x C dx : Addr} {fv : Array Value} {m0 : Str → Option Value} {nl : List Str} (SF : StoreFacts B bmB "object.__setattr__" "object") (X : K.In hp)
    (hx : hp.get? x = some { cls := .ref C, dict := some dx, data := .fields fv }) (hns : hp.Ns1 dx m0) (hw : Within m0 nl) (hz : nl.length ≤ 1000) (ov : excOver K C bmB = true) (hd : hasDictIn K C = true) (ha : findIn K (.ref C) name = some none)
    (hq : ∀ h' tk', (∀ b o, b ≠ dx → hp.get? b = some o → h'.get? b = some o) → h'.Ns1 dx (fun y => if y = name then some v else m0 y) → R (.ok (.ret .none)) ⟨h', g, d, tk', os⟩) :
    codeAny (model prog w) A (.call (.builtin "object.__setattr__") ⟨[.ref x, .str name tk, v], []⟩) R ⟨hp, g, d, t, os⟩ := by
  obtain ⟨oD, _, _, hoD, _, _⟩ := hns.count hw
  obtain ⟨cd, hcd, hh⟩ := any_some hd
  have taker : takerIn K C name = some none := by
    unfold takerIn
    rw [ha] <;> rfl
  have look : Looks (model prog w) hp (classData C) cd := looks_clsIn X hcd
  refine osa_openX (od := some oD) (r := none) SF X ⟨hx, rfl, rfl, hoD⟩ ov taker fun b => ?_
  show wpAny _ _ (storeInOwnDict (.ref x) (.ref C) (.str name tk) name v b) _ _ _
  obtain ⟨n1, n2, n3, n4, n5, dct, n6, n7, n8, n9, n10⟩ := cd
  have e : dct = true := hh
  subst e
  unfold storeInOwnDict ownDictForStores
  repeat (first | with_reducible refine OEX.store_in_old hns hw hz ?_ | with_reducible refine wpAny_loadPart_at hx ?_ | with_reducible refine look.at ?_ | wp_step)
  exact fun h' tk' hn' hs => hq h' tk' (fun b o hb ho => (hs.2 b hb).trans ho) hn'
end
end HcX
end PySem

namespace Hc
open PySem PySem.Spec PyProof.Rows L2
/-- what the written part says of an own exception class over B -/
structure Xc (K : PySem.W.Frag) (C : Addr) (bmB : List Value) (newId : String) : Prop where
  ini : PySem.W.excInitIn K C bmB newId = true
  ov : PySem.W.excOver K C bmB = true
  hd : PySem.W.hasDictIn K C = true
  sa : PySem.W.findIn K (.ref C) "__setattr__" = some (some (.builtin "object.__setattr__"))
  kC : PySem.W.keepIn K (.ref C) = true
  xf : XfC K C
  ex : ExcC K C

section
variable {X : Cx} {pins : List (Addr × Obj)} {σ : L2.St} {H : Hp} {s : Shared} {a C dx : Addr} {f : Str} {y : V} {u : Value} {fs : List (Str × V)} {Q : Unit → Shared → Prop} {E : Value → Shared → Prop} {A : Around} {B newId : String} {bmB : List Value}
/-- self.f = y, the first -/
theorem xst_new (SF : StoreFacts B bmB "object.__setattr__" "object") (T : Xc X.K C bmB newId) (I : Inv X pins σ H s) (e : H a = some (exo a C none)) (hno : PySem.W.findIn X.K (.ref C) f = some none) (ry : RelV y u)
    (h : ∀ dx s', H dx = none → dx ≠ a → Inv X pins σ (upd (upd H dx (exd dx [(f, y)])) a (exo a C (some dx))) s' → Q () s') : wpAny (model X.prog X.w) A (setAttr (.ref a) f u) Q E s := by
  obtain ⟨t1, ho⟩ := exo_at I.hok e
  obtain ⟨hp, g, d, t, os⟩ := s
  refine PySem.W.set_plain I.kIn (ox := { cls := .ref C, dict := none, data := .fields #[.ref t1, .none, .none, .none, .bool false, .none] }) (od := none) ⟨ho, rfl, rfl, trivial⟩ T.sa ?_
  refine PySem.HcX.first_field SF I.kIn ho T.ov T.hd hno fun h' tk' dx k dn dne hx hn => ?_
  have hnd : H dx = none := I.hok.fresh dn
  have nd : ∀ {b : Addr} {o : Obj}, hp.get? b = some o → b ≠ dx := fun {b o} q => Nat.ne_of_lt (Nat.lt_of_lt_of_le (Heap.lt_size q) dn)
  have na : ∀ {b : Addr}, H b = none → b ≠ a := fun {b} n z => by
    rw [z, e] at n
    cases n
  have U : Un X.fs [] H (upd (upd H dx (exd dx [(f, y)])) a (exo a C (some dx))) hp h' := {
    keep := fun b o q n _ _ => k b o (na n) q
    slot := fun b o q n _ _ => ⟨o.slots, k b o (na n) q⟩
    free := fun b o q n _ => (upd_ne (na n)).trans ((upd_ne (nd q)).trans n)
    there := fun b o q _ => by
      by_cases hb : b = a
      · exact ⟨_, hb ▸ hx⟩
      · exact ⟨o, k b o hb q⟩
    tups := fun b xs q => (upd_ne (at_ne e q exo_tup)).trans ((upd_ne (ne_of_none q hnd)).trans q)
    frzs := fun b o v q => (upd_ne (at_ne e q exo_frz)).trans ((upd_ne (ne_of_none q hnd)).trans q)
    tbls := fun b ps q => ⟨#[], by rw [upd_ne (at_ne e q exo_tbl), upd_ne (ne_of_none q hnd), q]; simp⟩ }
  refine h dx _ hnd dne (I.un (t' := tk') U fun b o q => ?_)
  by_cases hb : b = a
  · subst hb
    rw [upd_same] at q
    cases q
    exact exo_ok hx
  · rw [upd_ne hb] at q
    by_cases hd : b = dx
    · subst hd
      rw [upd_same] at q
      cases q
      exact exd_ok hn (relO_put (fs := []) ry fun _ => trivial)
    · rw [upd_ne hd] at q
      refine (I.hok b o q).stay (fun c v hc z => k c v (hc.elim (fun i => i ▸ hb) fun i => at_ne e i exo_own) z) (fun c hc => ?_) fun c xs hc => ?_
      · exact (upd_ne (at_ne e hc exo_own)).trans ((upd_ne (ne_of_none hc hnd)).trans hc)
      · exact (upd_ne (at_ne e hc exo_tup)).trans ((upd_ne (ne_of_none hc hnd)).trans hc)
/-- self.f = y, a further one -/
theorem xst_old (SF : StoreFacts B bmB "object.__setattr__" "object") (T : Xc X.K C bmB newId) (I : Inv X pins σ H s) (e : H a = some (exo a C (some dx))) (ed : H dx = some (exd dx fs)) (hl : fs.length ≤ 900) (hno : PySem.W.findIn X.K (.ref C) f = some none) (ry : RelV y u)
    (h : ∀ s', Inv X pins σ (upd H dx (exd dx ((f, y) :: fs))) s' → Q () s') : wpAny (model X.prog X.w) A (setAttr (.ref a) f u) Q E s := by
  obtain ⟨t1, ho⟩ := exo_at I.hok e
  obtain ⟨mA, hns, rel⟩ := exd_at I.hok ed
  have hw := within_of rel
  obtain ⟨hp, g, d, t, os⟩ := s
  obtain ⟨oD, _, _, hoD, _, _⟩ := hns.count hw
  refine PySem.W.set_plain I.kIn (ox := { cls := .ref C, dict := some dx, data := .fields #[.ref t1, .none, .none, .none, .bool false, .none] }) (od := some oD) ⟨ho, rfl, rfl, hoD⟩ T.sa ?_
  refine PySem.HcX.next_field SF I.kIn ho hns hw (by rw [List.length_map]; omega) T.ov T.hd hno fun h' tk' k hn => ?_
  obtain ⟨o2, _, _, e2, _⟩ := id hn
  exact h _ (I.write (t' := tk') (x := dx) (e := dx) (o := exd dx ((f, y) :: fs)) (by rw [ed]; exact True.intro) (.inl rfl) k ⟨o2, e2⟩ (exd_ok hn (relO_put ry rel)))
end

/-- self.f = e in an exception's maker -/
def tXst (K : PySem.W.Frag) (bmB : List Value) (newId : String) (f : Str) (to te : TE) : TS := fun D σ H => te σ H fun y H1 => to σ H1 fun x H2 => ∃ a C : Addr, x = .ref a ∧ Xc K C bmB newId ∧ PySem.W.findIn K (.ref C) f = some none ∧
  ((H2 a = some (exo a C none) ∧ ∀ dx, H2 dx = none → dx ≠ a → D.nx σ (upd (upd H2 dx (exd dx [(f, y)])) a (exo a C (some dx)))) ∨
    ∃ (dx : Addr) (fs : List (Str × V)), H2 a = some (exo a C (some dx)) ∧ H2 dx = some (exd dx fs) ∧ fs.length ≤ 900 ∧ D.nx σ (upd H2 dx (exd dx ((f, y) :: fs))))
/-- C(e, ..) as a value, C's own maker keeping sp -/
def tXmk (C : Addr) (sp : Sp) (ta : TA) : TE := fun σ H Q => ta σ H fun vs H1 => vs.length ≤ 1000 ∧ ∀ a, H1 a = none → sp (.ref a :: vs) (upd H1 a (exo a C none)) (fun v H2 => v = .non ∧ Q (.ref a) H2) (fun _ _ _ => False)
/-- e.f of an exception that has its dict -/
def tXfd (K : PySem.W.Frag) (f : Str) (te : TE) : TE := fun σ H Q => te σ H fun x H1 => ∃ (a C dd : Addr) (fs : List (Str × V)) (v : V), x = .ref a ∧ H1 a = some (exo a C (some dd)) ∧ H1 dd = some (exd dd fs) ∧ XfC K C ∧ PySem.W.findIn K (.ref C) f = some none ∧ fs.lookup f = some v ∧ Q v H1
/-- isinstance(e, c) of an exception -/
def rXis (K : PySem.W.Frag) : List V → Hp → VK → Prop := fun xs H Q => ∃ (a C : Addr) (c : V) (u : Value) (b : Bool), xs = [.ref a, c] ∧ ClsV c u ∧ ExcC K C ∧ (H a = some (exo a C none) ∨ ∃ (dd : Addr) (fs : List (Str × V)), H a = some (exo a C (some dd)) ∧ H dd = some (exd dd fs)) ∧ PySem.W.kitOne K (.ref C) u = some b ∧ Q (.bl b) H

section
variable {X : Cx} {o e : Expr} {es : List Expr} {to te : TE} {ta : TA} {f : Str} {p p' p1 p2 pos : Pos} {B newId initId : String} {bmB : List Value}
theorem ps_xst (SF : StoreFacts B bmB "object.__setattr__" "object") (ho : PE X o to) (he : PE X e te) (hs : swapsWith e (some (.Attribute o f p')) pos.line X.env = pure false := by rfl) : PS X (.Assign [.Attribute o f p'] e pos) (tXst X.K bmB newId f to te) := by
  refine ⟨fun pins s σ H D I h => ?_⟩
  refine plainObj_wpAny_Assign_Attribute (thn (he.run pins s σ H _ I h) fun v s1 ⟨y, H1, I1, r1, q1⟩ => thn (ho.run pins s1 σ H1 _ I1 q1) fun u s2 ⟨x, H2, I2, r2, a, C, ex, T, hno, q⟩ => ?_) hs
  subst ex
  cases (show u = Value.ref a from r2)
  rcases q with ⟨ea, q⟩ | ⟨dx, fs, ea, ed, hl, q⟩
  · exact xst_new SF T I2 ea hno r1 fun dx s' n ne J => ⟨σ, _, J, q dx n ne⟩
  · exact xst_old SF T I2 ea ed hl hno r1 fun s' J => ⟨σ, _, J, q⟩
theorem pe_xmk {x : Str} {C fI : Addr} {k : Nat} {fd : FuncData} {ps : List Str} {sp : Sp} (FB : ExcBaseFacts B newId initId bmB) (T : Xc X.K C bmB newId) (iC : PySem.W.findIn X.K (.ref C) "__init__" = some (some (.ref fI))) (tI : PySem.W.isFn X.K (.ref fI) = true)
    (F1 : FnOk X.prog X.w X.K X.mg X.base CX0 k fI fd ps sp) (hr : Room (k + 1) X.A) (hb : Binds X.K fd ps []) (hg : Gl X x) (hm : X.mg x = some (.ref C)) (ha : PA X (e :: es) ta)
    (hdb : (x == ("__debug__" : Str)) = false := by decide) (he : starEach (e :: es) X.env = (false, eval e X.env) :: starEach es X.env := by rfl) (hpl : (backTo pos (starEach es X.env)).any (·.1) = false := by rfl) :
    PE X (.Call (.Name x p) (e :: es) [] pos) (tXmk C sp ta) := by
  refine ⟨fun pins s σ H Q I h => ?_⟩
  refine wpAny_Call_Name_kw (ld_glob I hg hm ?_ hdb)
  refine PySem.W.callWith_K (h₀ := X.base) I.ok.mod.kin T.kC (thn (ha.run pos pins s σ H _ I h) fun us s1 ⟨vs, H1, I1, r1, hz, q1⟩ => ⟨I1.kIn, ?_⟩) he hpl
  show wpAny _ _ (call (.ref C) us) _ _ _
  obtain ⟨hp, g, dr, tk, os⟩ := s1
  obtain ⟨nm, N, qn, bs, bm, hdct, sn, sub, ab, col, dd, k0, k1, k2, k3, k5, hC, hT⟩ := PySem.W.excInit_of I1.kIn T.ini
  have hn : H1 (hp.objs.size + 1) = none := I1.hok.fresh (Nat.le_succ _)
  have kk : ∀ b o, hp.get? b = some o → ((hp.push (PySem.W.kdv_tup us)).push (PySem.HandSPX.excO C hp.objs.size)).get? b = some o := fun b o z => Heap.get?_push_of_some _ (Heap.get?_push_of_some _ z)
  have hget : ((hp.push (PySem.W.kdv_tup us)).push (PySem.HandSPX.excO C hp.objs.size)).get? (hp.objs.size + 1) = some (PySem.HandSPX.excO C hp.objs.size) := by heap_get
  have I2 : Inv X pins σ (upd H1 (hp.objs.size + 1) (exo (hp.objs.size + 1) C none)) ⟨(hp.push (PySem.W.kdv_tup us)).push (PySem.HandSPX.excO C hp.objs.size), g, dr, tk, os⟩ :=
    I1.laid (t' := tk) (a := hp.objs.size + 1) (o := exo (hp.objs.size + 1) C none) (h' := (hp.push (PySem.W.kdv_tup us)).push (PySem.HandSPX.excO C hp.objs.size)) kk (Nat.le_succ _) (exo_ok hget)
  have hq := q1 (hp.objs.size + 1) hn
  have r2 : Vals (V.ref (hp.objs.size + 1) :: vs) (Value.ref (hp.objs.size + 1) :: us) := .cons rfl r1
  have hl : (Value.ref (hp.objs.size + 1) :: us).length = ps.length := by rw [← r2.length, F1.len _ _ _ _ hq]
  have hus : us.length ≤ sizeLine := by
    rw [← r1.length, sizeLine_eq]
    omega
  have hb' := hb ⟨(hp.push (PySem.W.kdv_tup us)).push (PySem.HandSPX.excO C hp.objs.size), g, dr, tk, os⟩ (Value.ref (hp.objs.size + 1) :: us) I2.kIn (by rw [List.append_nil]; exact hl)
  rw [List.append_nil] at hb'
  refine wpAny_call (PySem.HandSPX.call_own FB hT hC (PySem.W.looks_findIn I1.kIn iC) (fun self => PySem.W.bind_fn I1.kIn self (beq_iff_eq.mp tI)) hus
    (codeAny_mono (F1.run _ X.stack _ _ ⟨Value.ref (hp.objs.size + 1) :: us, []⟩ _ _ _ (fun _ _ _ => False) (hr.make C us []) (I2.env0.make C us []) hb' r2 hq) fun r s' z => ?_))
  cases r with
  | error er => exact False.elim z
  | ok fl =>
    cases fl with
    | ret u =>
      obtain ⟨v, H2, os2, bare2, un2, hok2, rv, ev, q2⟩ := z
      subst ev
      refine ⟨rv, ?_⟩
      refine I1.after (Q := Q) ⟨.ref (hp.objs.size + 1), H2, os2, bare2, ?_, hok2, rfl, q2⟩
      exact (Un.laid (fs := frs X.stack) (ex := []) (o := exo (hp.objs.size + 1) C none) kk (Nat.le_succ _) hn).trans un2
    | next => exact False.elim z
    | brk => exact False.elim z
    | cont => exact False.elim z
/-- what is made of a class without a maker of its own -/
theorem xplain {pins : List (Addr × Obj)} {σ : L2.St} {H : Hp} {s : Shared} {Q : VK} {C : Addr} {vs : List V} {us : List Value} (FB : ExcBaseFacts B newId initId bmB) (q : PySem.W.excIn X.K C bmB newId = true) (I : Inv X pins σ H s) (r : Vals vs us) (hz : vs.length ≤ 1000)
    (q1 : ∀ a, H a = none → Q (.ref a) (upd H a (exo a C none))) : wpAny (model X.prog X.w) X.A (call (.ref C) us) (EP X pins σ Q) X.xe s := by
  obtain ⟨bm, N, nm, qn, bs, hdct, sn, sub, ab, col, dd, k0, k1, k2, k3, k5, mN, hC, hN, hni, T⟩ := exc_obj I.kIn q
  refine wpAny_call_exc_subT FB T hC hN hni (fun h' a hm => ?_) (by rw [← r.length, sizeLine_eq]; omega)
  have hn : H a = none := I.hok.gone hm.new
  obtain ⟨t, ht, _, _⟩ := hm.there
  exact ⟨.ref a, upd H a (exo a C none), I.laidN hm.keeps hm.new hn (exo_ok ht), rfl, q1 a hn⟩
/-- C(e) of such a class: a new exception object -/
theorem pe_xplain1 {x : Str} {C : Addr} (FB : ExcBaseFacts B newId initId bmB) (q : PySem.W.excIn X.K C bmB newId = true) (gC : X.mg x = some (.ref C)) (kC : PySem.W.keepIn X.K (.ref C) = true) (hg : Gl X x) (ha : PA X (e :: es) ta)
    (hdb : (x == ("__debug__" : Str)) = false := by decide) (he : starEach (e :: es) X.env = (false, eval e X.env) :: starEach es X.env := by rfl) (hpl : (backTo pos (starEach es X.env)).any (·.1) = false := by rfl) :
    PE X (.Call (.Name x p) (e :: es) [] pos) (fun σ H Q => ta σ H fun vs H1 => vs.length ≤ 1000 ∧ ∀ a, H1 a = none → Q (.ref a) (upd H1 a (exo a C none))) := by
  refine ⟨fun pins s σ H Q I h => wpAny_Call_Name_kw (ld_glob I hg gC ?_ hdb)⟩
  exact PySem.W.callWith_K (h₀ := X.base) I.ok.mod.kin kC (thn (ha.run pos pins s σ H _ I h) fun us s1 ⟨vs, H1, I1, r1, hz, q1⟩ => ⟨I1.kIn, xplain FB q I1 r1 hz q1⟩) he hpl
/-- C() of such a class -/
theorem pe_xplain0 {x : Str} {C : Addr} (FB : ExcBaseFacts B newId initId bmB) (q : PySem.W.excIn X.K C bmB newId = true) (gC : X.mg x = some (.ref C)) (kC : PySem.W.keepIn X.K (.ref C) = true) (hg : Gl X x)
    (hdb : (x == ("__debug__" : Str)) = false := by decide) :
    PE X (.Call (.Name x p) [] [] pos) (fun σ H Q => ∀ a, H a = none → Q (.ref a) (upd H a (exo a C none))) := by
  refine ⟨fun pins s σ H Q I h => wpAny_Call_Name_kw (ld_glob I hg gC ?_ hdb)⟩
  exact PySem.W.callWith_K0 I.kIn kC (xplain (us := []) FB q I .nil (by decide) h)
theorem pe_xfd (he : PE X e te) (hb : attributeBase e f X.env (eval e X.env) = eval e X.env := by rfl) : PE X (.Attribute e f pos) (tXfd X.K f te) := by
  refine ⟨fun pins s σ H Q I h => ?_⟩
  refine attr_of hb (thn (he.run pins s σ H _ I h) fun u s1 ⟨x, H1, I1, rx, a, C, dd, fs, v, ex, ea, ed, T, hno, l, q⟩ => ?_)
  subst ex
  cases (show u = Value.ref a from rx)
  obtain ⟨t1, ho⟩ := exo_at I1.hok ea
  obtain ⟨mA, hns, hr⟩ := exd_at I1.hok ed
  obtain ⟨od, hod, hl⟩ := lookIn_ns hns
  obtain ⟨w', hu, ru⟩ := RelO.some_of (v := v) (o := mA f) (by rw [← l]; exact hr f)
  have J : PySem.W.InstAt s1.heap a _ C (some od) := ⟨ho, rfl, rfl, hod⟩
  exact HandSPX.exc_get I1.kIn J T.ga T.gg T.exC (PySem.W.findObj_own T.hdC hno rfl (by rw [hl, hu])) (handed_of ru) ⟨v, H1, I1.tok _, ru, q⟩
end
end Hc

namespace PySem.W
open PySem PySem.Spec PySem.Calls PyProof.Rows
section
variable {prog : Program} {w : World} {A : Around} {E : Value → Shared → Prop} {s : Shared} {K : Frag} {x D : Addr} {ox : Obj}
/-- e.__class__ of an exception that has a dict -/
theorem hc_classD {od : Obj} {Q : Option Value → Shared → Prop} (C : L2.ExcC K D) (X : K.In s.heap) (I : InstAt s.heap x ox D (some od)) (h : Q (some (.ref D)) { s with toks := s.toks + 1 }) : wpAny (model prog w) A (getAttr? (.ref x) "__class__") Q E s := by
  have hf : findObj K D (some od) "__class__" = some (.bind (.builtin "getset_descriptor.__get__") (.builtin "object.__class__")) := findObj_data (by obtain ⟨cd, hc, _⟩ := any_some C.hd; rw [hc]; rfl) C.ha C.hn C.ht
  obtain ⟨hp, g, d, t, os⟩ := s
  have M0 := I.type (M := model prog w)
  have M1 := looks_findIn (M := model prog w) X C.hg
  have M2 := looks_findIn (M := model prog w) X C.hk
  have M3 := looks_find (M := model prog w) X I hf
  have isB : Looks (model prog w) hp (isInstance (.ref x) (.type "BaseException")) true := M0.andThen (looks_subIn X C.hs)
  have n1 : (Value.builtin "BaseException.__getattribute__" == Value.builtin "object.__getattribute__") = false := by decide +kernel
  have n2 : (onTheHeap (Value.ref D) && Value.builtin "BaseException.__getattribute__" == Value.builtin "object.__getattribute__") = false := by rw [n1] <;> rfl
  unfold getAttr? getAttrBy? getAttrBy
  refine wpAny_bind (wpAny_mkText (wpAny_bind (wpAny_attempt (wpAny_holding (wpAny_bind (M0.at (wpAny_bind (M1.at ?_))))))))
  show wpAny _ _ (if (onTheHeap (Value.ref D) && Value.builtin "BaseException.__getattribute__" == Value.builtin "object.__getattribute__") = true then _ else _) _ _ _
  rw [n2, if_neg Bool.false_ne_true]
  unfold getAttrByItsOwn hookBefore
  refine wpAny_bind ?_
  rw [if_pos (show onTheHeap (Value.ref D) = true from rfl)]
  refine M2.at (wpAny_bind (wpAny_attempt (wpAny_holding ?_)))
  unfold callGetattribute
  rw [if_neg (show ¬ (false && onTheHeap (Value.builtin "BaseException.__getattribute__")) = true from Bool.false_ne_true)]
  unfold boundAndCalled
  rw [PySem.F.excAttr_ValueError.ga.bind (.ref x)]
  refine wpAny_bind (wpAny_pure ?_)
  show wpAny _ _ (call (.builtin "BaseException.__getattribute__") [.ref x, .str "__class__" t]) _ _ _
  refine wpAny_call (codeAny_call_builtin PySem.F.excAttr_ValueError.ga.plain PySem.F.entry_bexc_ga ?_)
  refine @check_slot (model prog w) _ _ ⟨hp, g, d, t + 1, os⟩ "BaseException.__getattribute__" "BaseException" "__getattribute__" (.ref x) [.str "__class__" t] [] _ (by decide +kernel) (by decide +kernel) isB (PySem.F.args_bexc_ga (.ref x) (.str "__class__" t)) ?_
  unfold Builtin.«object.__getattribute__»
  refine wpAny_bind (wpAny_of_eq (a := ((Value.ref x : Value), [Value.str "__class__" t])) (by first | rfl | (simp only [slotArgs]; rfl)) ?_)
  refine wpAny_bind (wpAny_pure (wpAny_bind (M0.at (wpAny_bind (M3.at ?_)))))
  show wpAny _ _ (holding [Value.builtin "object.__class__"] (call (.builtin "getset_descriptor.__get__") [.builtin "object.__class__", .ref x, .ref D]) >>= ret) _ _ _
  refine wpAny_bind (wpAny_holding (wpAny_call (class_get (s := ⟨hp, g, d, t + 1, os⟩) (ox := ox) (od := some od) X I C.hm ?_)))
  refine wpAny_pure ?_
  show wpAny _ _ (handedOut (.ref D)) _ _ _
  rw [handedOut_of (v := .ref D) rfl]
  first
    | exact wpAny_pure (wpAny_pure h)
    | exact wpAny_pure h
    | exact wpAny_pure (wpAny_bind (wpAny_pure (wpAny_pure h)))
theorem hc_kitD {od : Obj} (C : L2.ExcC K D) : KitX K (.ref x) (.ref D) (fun h => InstAt h x ox D (some od)) where
  ty := fun _ _ _ I => I.type
  it := fun M h X _ => by
    obtain ⟨cd, hc, hh⟩ := any_some C.hd
    clear hh
    unfold clsIn at hc
    split at hc
    · rename_i ho
      intro A' Q' E' s' k q
      unfold isType loadHead
      exact wpAny_bind (wpAny_loadPart (k _ _ (X _ _ ho)) (wpAny_pure q))
    · cases hc
  ne := (handS_kitx_exc (x := x) (ox := ox) C.hg C.hk C.hs C.hd C.ha C.hn C.ht C.hm).ne
  ca := fun X I k => hc_classD C X I k
end
end PySem.W

namespace Hc
open PySem PySem.Spec PyProof.Rows L2
theorem call_xis {X : Cx} : CallR X (.builtin "isinstance") (rXis X.K) := by
  intro pins s σ H xs us Q I r h
  obtain ⟨a, C, c, cv, b, rfl, hcv, T, ho, e, q⟩ := h
  obtain ⟨u1, u2, rfl, r1, r2⟩ := vals2 r
  cases (show u1 = Value.ref a from r1)
  have ec := hcv.eq r2
  subst ec
  rcases ho with ho | ⟨dd, fs, ho, hd⟩
  · obtain ⟨t1, hget⟩ := exo_at I.hok ho
    have J : PySem.W.InstAt s.heap a _ C none := ⟨hget, rfl, rfl, trivial⟩
    exact PySem.W.kia_one (PySem.W.handS_kitx_exc T.hg T.hk T.hs T.hd T.ha T.hn T.ht T.hm) I.kIn J e (fun z => nomatch z) fun tk => ⟨.bl b, H, I.tok tk, rfl, q⟩
  · obtain ⟨t1, hget⟩ := exo_at I.hok ho
    obtain ⟨mA, hns, _⟩ := exd_at I.hok hd
    obtain ⟨od, hod, _⟩ := lookIn_ns hns
    have J : PySem.W.InstAt s.heap a _ C (some od) := ⟨hget, rfl, rfl, hod⟩
    exact PySem.W.kia_one (PySem.W.hc_kitD T) I.kIn J e (fun z => nomatch z) fun tk => ⟨.bl b, H, I.tok tk, rfl, q⟩
end Hc
/-! module HcErr -/
set_option maxHeartbeats 4000000
/-! The text's error classes as data: name, fields, base; what the written part is asked of each, and what follows. -/
namespace Hc
open PySem PySem.Spec PyProof.Rows L2

/-- an error class: its name, the fields of its own maker, whether it stands under RuntimeError -/
structure ErrD where
  name : Str
  fields : List Str
  rt : Bool
def veB : List Value := [.type "ValueError", .type "Exception", .type "BaseException", .type "object"]
def rtB : List Value := [.type "RuntimeError", .type "Exception", .type "BaseException", .type "object"]
def ErrD.bm (d : ErrD) : List Value := if d.rt then rtB else veB
def ErrD.newId (d : ErrD) : String := if d.rt then "RuntimeError.__new__" else "ValueError.__new__"
def eqV2 (a b : Option (Option Value)) : Bool := decide (a = b)
/-- what the written part is asked of the class at C -/
def xcOk (K : PySem.W.Frag) (C : Addr) (d : ErrD) : Bool :=
  PySem.W.excInitIn K C d.bm d.newId && (PySem.W.excOver K C d.bm && (PySem.W.hasDictIn K C && (eqV2 (PySem.W.findIn K (.ref C) "__setattr__") (some (some (.builtin "object.__setattr__"))) && (PySem.W.keepIn K (.ref C) &&
  (eqV2 (PySem.W.findIn K (.ref C) "__getattribute__") (some (some (.builtin "BaseException.__getattribute__"))) && (eqV2 (PySem.W.findIn K (.ref C) "__getattr__") (some none) && (decide (PySem.W.subIn K (.ref C) (.type "BaseException") = some true) &&
  (eqV2 (PySem.W.findIn K (.ref C) "__class__") (some (some (.builtin "object.__class__"))) && (eqV2 (PySem.W.specialIn K (.builtin "object.__class__") "__get__") (some (some (.builtin "getset_descriptor.__get__"))) && (decide (PySem.W.takesIn K (.builtin "object.__class__") = some true) &&
  decide (PySem.W.mroIn K C (.type "object") = some true)))))))))))
theorem xcOk_ok {K : PySem.W.Frag} {C : Addr} {d : ErrD} (h : xcOk K C d = true) : Xc K C d.bm d.newId := by
  unfold xcOk eqV2 at h
  simp only [Bool.and_eq_true, decide_eq_true_eq] at h
  obtain ⟨h1, h2, h3, h4, h5, h6, h7, h8, h9, h10, h11, h12⟩ := h
  exact ⟨h1, h2, h3, h4, h5, ⟨h6, h7, h8, h3⟩, ⟨h6, h7, h8, h3, h9, h10, h11, h12⟩⟩
/-- a class with its own maker: the maker's def, the fields that no class holds -/
def mkOk (K : PySem.W.Frag) (C : Addr) (d : ErrD) : Bool :=
  if d.fields.isEmpty then PySem.W.excIn K C d.bm d.newId else
  eqV2 (PySem.W.findIn K (.ref C) "__init__") (some (some (.ref (He.ma K C "__init__")))) && (PySem.W.isFn K (.ref (He.ma K C "__init__")) && d.fields.all fun f => eqV2 (PySem.W.findIn K (.ref C) f) (some none))
def glOk (K : PySem.W.Frag) (x : Str) : Bool := eqV2 (PySem.W.nsIn K mainGlobals x) (some (some (.ref (He.ga K x))))
/-- the class of the i-th error -/
def ec (K : PySem.W.Frag) (errs : List ErrD) (i : Nat) : Addr := match errs[i]? with
  | some d => He.ga K d.name
  | none => 0
def errOk (K : PySem.W.Frag) (d : ErrD) : Bool := glOk K d.name && (xcOk K (He.ga K d.name) d && mkOk K (He.ga K d.name) d)
def errsOk (K : PySem.W.Frag) (errs : List ErrD) : Bool := errs.all (errOk K)
/-- which is whose -/
def kitOk (K : PySem.W.Frag) (errs : List ErrD) : Bool := (List.range errs.length).all fun i => (List.range errs.length).all fun j => decide (PySem.W.kitOne K (.ref (ec K errs i)) (.ref (ec K errs j)) = some (decide (i = j)))
def kitTo (K : PySem.W.Frag) (errs : List ErrD) (u : Value) (b : ErrD → Bool) : Bool := errs.all fun d => decide (PySem.W.kitOne K (.ref (He.ga K d.name)) u = some (b d))

section
variable {K : PySem.W.Frag} {errs : List ErrD}
theorem err_at (h : errsOk K errs = true) {d : ErrD} (hd : d ∈ errs) : PySem.W.nsIn K mainGlobals d.name = some (some (.ref (He.ga K d.name))) ∧ Xc K (He.ga K d.name) d.bm d.newId ∧ mkOk K (He.ga K d.name) d = true := by
  have h1 := List.all_eq_true.mp h d hd
  unfold errOk glOk eqV2 at h1
  simp only [Bool.and_eq_true, decide_eq_true_eq] at h1
  exact ⟨h1.1, xcOk_ok h1.2.1, h1.2.2⟩
theorem mk_at {C : Addr} {d : ErrD} (h : mkOk K C d = true) (hf : d.fields.isEmpty = false) : PySem.W.findIn K (.ref C) "__init__" = some (some (.ref (He.ma K C "__init__"))) ∧ PySem.W.isFn K (.ref (He.ma K C "__init__")) = true ∧ ∀ f ∈ d.fields, PySem.W.findIn K (.ref C) f = some none := by
  unfold mkOk at h
  rw [hf, if_neg Bool.false_ne_true] at h
  unfold eqV2 at h
  simp only [Bool.and_eq_true, decide_eq_true_eq, List.all_eq_true] at h
  exact ⟨h.1, h.2.1, h.2.2⟩
theorem mk_no {C : Addr} {d : ErrD} (h : mkOk K C d = true) (hf : d.fields.isEmpty = true) : PySem.W.excIn K C d.bm d.newId = true := by
  unfold mkOk at h
  rw [hf, if_pos rfl] at h
  exact h
theorem ec_at {i : Nat} {d : ErrD} (h : errs[i]? = some d) : ec K errs i = He.ga K d.name := by
  unfold ec
  rw [h]
theorem kit_at (h : kitOk K errs = true) {i j : Nat} (hi : i < errs.length) (hj : j < errs.length) : PySem.W.kitOne K (.ref (ec K errs i)) (.ref (ec K errs j)) = some (decide (i = j)) :=
  of_decide_eq_true (List.all_eq_true.mp (List.all_eq_true.mp h i (List.mem_range.mpr hi)) j (List.mem_range.mpr hj))
theorem kit_to {u : Value} {b : ErrD → Bool} (h : kitTo K errs u b = true) {i : Nat} {d : ErrD} (hi : errs[i]? = some d) : PySem.W.kitOne K (.ref (ec K errs i)) u = some (b d) := by
  rw [ec_at hi]
  exact of_decide_eq_true (List.all_eq_true.mp h d (List.mem_of_getElem? hi))
end

/-! ### the makers -/
/-- what a maker of one field does -/
def spIni1 (K : PySem.W.Frag) (bmB : List Value) (newId : String) (f : Str) : Sp := fun vs H Q _ => ∃ (a C : Addr) (v : V), vs = [.ref a, v] ∧ H a = some (exo a C none) ∧ Xc K C bmB newId ∧ PySem.W.findIn K (.ref C) f = some none ∧
  ∀ dx, H dx = none → dx ≠ a → Q .non (upd (upd H dx (exd dx [(f, v)])) a (exo a C (some dx)))
section
variable {P : Program} {w : World} {K : PySem.W.Frag} {mg : Str → Option Value} {base : Heap} {B newId : String} {bmB : List Value}
theorem ok_ini1 {fI : Addr} {fd : FuncData} {qual : Str} {st : Stmt} {fld : Str} {p1 p2 p3 p4 : Pos} (SF : StoreFacts B bmB "object.__setattr__" "object") (F : Fun K "__init__" qual st fI fd) (S : FnScope ["self", fld] ["self", fld] (defScope st))
    (hB : defBody st = [.Assign [.Attribute (.Name "self" p1) fld p2] (.Name fld p3) p4]) (v1 : (defScope st).names.lookup ("self" : Str) = some .local) (v2 : (defScope st).names.lookup fld = some .local)
    (d1 : (fld == ("__debug__" : Str)) = false) (d2 : (fld == ("__classdict__" : Str)) = false) : FnOk P w K mg base CX0 1 fI fd ["self", fld] (spIni1 K bmB newId fld) := by
  refine F.ok S (fun vs H Q E h => ?_) (fun cdv A outer s H vs Q E hr h => ?_)
  · obtain ⟨a, C, v, rfl, _⟩ := h
    rfl
  · obtain ⟨a, C, v, rfl, ha, T, no, q⟩ := h
    rw [hB]
    exact ⟨_, pss_one (ps_xst (newId := newId) SF (pv 0 rfl (Or.inl v1)) (pv 1 rfl (Or.inl v2) d1 d2)), _, rfl, _, rfl, a, C, rfl, T, no, .inl ⟨ha, fun dx n ne => q dx n ne⟩⟩
end

/-! ### what is made and read in passing -/
section
open Evl
variable {K : PySem.W.Frag} {σ : L2.St} {H : Hp} {te : TE} {bmB : List Value} {newId : String} {C : Addr} {f : Str} {v : V}
/-- at a an error of the class at C, with some fields -/
def ErrAt (H : Hp) (a C : Addr) (fs : List (Str × V)) : Prop := ∃ dd, H a = some (exo a C (some dd)) ∧ H dd = some (exd dd fs)
/-- .. of any kind -/
def ErrIs (H : Hp) (a C : Addr) : Prop := H a = some (exo a C none) ∨ ∃ (dd : Addr) (fs : List (Str × V)), H a = some (exo a C (some dd)) ∧ H dd = some (exd dd fs)
theorem ErrAt.is {a C : Addr} {fs : List (Str × V)} (h : ErrAt H a C fs) : ErrIs H a C := by
  obtain ⟨dd, h1, h2⟩ := h
  exact .inr ⟨dd, fs, h1, h2⟩
theorem ErrIs.ex {H' : Hp} {a C : Addr} (h : ErrIs H a C) (e : Ex H H') : ErrIs H' a C := by
  rcases h with h | ⟨dd, fs, h1, h2⟩
  · exact .inl (e _ _ h)
  · exact .inr ⟨dd, fs, e _ _ h1, e _ _ h2⟩
theorem ErrAt.ex {H' : Hp} {a C : Addr} {fs : List (Str × V)} (h : ErrAt H a C fs) (e : Ex H H') : ErrAt H' a C fs := by
  obtain ⟨dd, h1, h2⟩ := h
  exact ⟨dd, e _ _ h1, e _ _ h2⟩
theorem exo_upd {H1 : Hp} {a dx : Addr} {o p : HO} (n : H1 a = none) (nd : H1 dx = none) (ne : dx ≠ a) {q : HO} : Ex H1 (upd (upd (upd H1 a o) dx p) a q) := fun b u e => by
  rw [upd_ne (ne_of_none e n), upd_ne (ne_of_none e nd), upd_ne (ne_of_none e n)]
  exact e
/-- an expression that makes an error of the class at C with such fields -/
def EvE (te : TE) (σ : L2.St) (H : Hp) (C : Addr) (fs : List (Str × V)) : Prop := ∀ H1, Ex H H1 → ∀ Q : VK, (∀ a H2, Ex H1 H2 → H1 a = none → ErrAt H2 a C fs → Q (.ref a) H2) → te σ H1 Q
theorem ee_mk1 (T : Xc K C bmB newId) (no : PySem.W.findIn K (.ref C) f = some none) (h : Ev te σ H v) : EvE (tXmk C (spIni1 K bmB newId f) (tCons te tNil)) σ H C [(f, v)] := fun H1 e Q q =>
  h H1 e _ fun H2 e2 => ⟨by show 1 ≤ 1000; decide, fun a na => ⟨a, C, v, rfl, upd_same, T, no, fun dx nd ne => by
    rw [upd_ne ne] at nd
    refine ⟨rfl, q a _ (e2.trans (exo_upd na nd ne)) (fresh_back e2 na) ⟨dx, upd_same, ?_⟩⟩
    rw [upd_ne ne, upd_same]⟩⟩
theorem ev_fld {fs : List (Str × V)} (T : XfC K C) (no : PySem.W.findIn K (.ref C) f = some none) (h : EvE te σ H C fs) (l : fs.lookup f = some v) : Ev (tXfd K f te) σ H v := fun H1 e Q q =>
  h H1 e _ fun a H2 e2 na ⟨dd, h1, h2⟩ => ⟨a, C, dd, fs, v, rfl, h1, h2, T, no, l, q H2 e2⟩
theorem ev_fldV {fs : List (Str × V)} {a : Addr} (T : XfC K C) (no : PySem.W.findIn K (.ref C) f = some none) (h : Ev te σ H (.ref a)) (x : ErrAt H a C fs) (l : fs.lookup f = some v) : Ev (tXfd K f te) σ H v := fun H1 e Q q =>
  h H1 e _ fun H2 e2 => by
    obtain ⟨dd, h1, h2⟩ := x
    exact ⟨a, C, dd, fs, v, rfl, e2 _ _ (e _ _ h1), e2 _ _ (e _ _ h2), T, no, l, q H2 e2⟩
end

/-! ### makers of two and three fields -/
def spIni2 (K : PySem.W.Frag) (bmB : List Value) (newId : String) (f g : Str) : Sp := fun vs H Q _ => ∃ (a C : Addr) (v u : V), vs = [.ref a, v, u] ∧ H a = some (exo a C none) ∧ Xc K C bmB newId ∧ PySem.W.findIn K (.ref C) f = some none ∧ PySem.W.findIn K (.ref C) g = some none ∧
  ∀ dx (H' : Hp), H dx = none → dx ≠ a → (∀ b, b ≠ a → b ≠ dx → H' b = H b) → H' a = some (exo a C (some dx)) → H' dx = some (exd dx [(g, u), (f, v)]) → Q .non H'
def spIni3 (K : PySem.W.Frag) (bmB : List Value) (newId : String) (f g j : Str) : Sp := fun vs H Q _ => ∃ (a C : Addr) (v u z : V), vs = [.ref a, v, u, z] ∧ H a = some (exo a C none) ∧ Xc K C bmB newId ∧ PySem.W.findIn K (.ref C) f = some none ∧ PySem.W.findIn K (.ref C) g = some none ∧ PySem.W.findIn K (.ref C) j = some none ∧
  ∀ dx (H' : Hp), H dx = none → dx ≠ a → (∀ b, b ≠ a → b ≠ dx → H' b = H b) → H' a = some (exo a C (some dx)) → H' dx = some (exd dx [(j, z), (g, u), (f, v)]) → Q .non H'
section
variable {P : Program} {w : World} {K : PySem.W.Frag} {mg : Str → Option Value} {base : Heap} {B newId : String} {bmB : List Value}
theorem ok_ini2 {fI : Addr} {fd : FuncData} {qual : Str} {st : Stmt} {f g : Str} {p1 p2 p3 p4 q1 q2 q3 q4 : Pos} (SF : StoreFacts B bmB "object.__setattr__" "object") (F : Fun K "__init__" qual st fI fd) (S : FnScope ["self", f, g] ["self", f, g] (defScope st))
    (hB : defBody st = [.Assign [.Attribute (.Name "self" p1) f p2] (.Name f p3) p4, .Assign [.Attribute (.Name "self" q1) g q2] (.Name g q3) q4]) (v1 : (defScope st).names.lookup ("self" : Str) = some .local) (v2 : (defScope st).names.lookup f = some .local) (v3 : (defScope st).names.lookup g = some .local)
    (d1 : (f == ("__debug__" : Str)) = false) (d2 : (f == ("__classdict__" : Str)) = false) (d3 : (g == ("__debug__" : Str)) = false) (d4 : (g == ("__classdict__" : Str)) = false) : FnOk P w K mg base CX0 1 fI fd ["self", f, g] (spIni2 K bmB newId f g) := by
  refine F.ok S (fun vs H Q E h => ?_) (fun cdv A outer s H vs Q E hr h => ?_)
  · obtain ⟨a, C, v, u, rfl, _⟩ := h
    rfl
  · obtain ⟨a, C, v, u, rfl, ha, T, no, no2, q⟩ := h
    rw [hB]
    refine ⟨_, pss_cons (ps_xst (newId := newId) SF (pv 0 rfl (Or.inl v1)) (pv 1 rfl (Or.inl v2) d1 d2)) (pss_one (ps_xst (newId := newId) SF (pv 0 rfl (Or.inl v1)) (pv 2 rfl (Or.inl v3) d3 d4))), _, rfl, _, rfl, a, C, rfl, T, no, .inl ⟨ha, fun dx n ne => ?_⟩⟩
    refine ⟨_, rfl, _, rfl, a, C, rfl, T, no2, .inr ⟨dx, [(f, v)], upd_same, ?_, by show 1 ≤ 900; decide, q dx _ n ne (fun b h1 h2 => ?_) ?_ upd_same⟩⟩
    · rw [upd_ne ne, upd_same]
    · rw [upd_ne h2, upd_ne h1, upd_ne h2]
    · rw [upd_ne ne.symm, upd_same]
theorem ok_ini3 {fI : Addr} {fd : FuncData} {qual : Str} {st : Stmt} {f g j : Str} {p1 p2 p3 p4 q1 q2 q3 q4 r1 r2 r3 r4 : Pos} (SF : StoreFacts B bmB "object.__setattr__" "object") (F : Fun K "__init__" qual st fI fd) (S : FnScope ["self", f, g, j] ["self", f, g, j] (defScope st))
    (hB : defBody st = [.Assign [.Attribute (.Name "self" p1) f p2] (.Name f p3) p4, .Assign [.Attribute (.Name "self" q1) g q2] (.Name g q3) q4, .Assign [.Attribute (.Name "self" r1) j r2] (.Name j r3) r4]) (v1 : (defScope st).names.lookup ("self" : Str) = some .local) (v2 : (defScope st).names.lookup f = some .local) (v3 : (defScope st).names.lookup g = some .local) (v4 : (defScope st).names.lookup j = some .local)
    (d1 : (f == ("__debug__" : Str)) = false) (d2 : (f == ("__classdict__" : Str)) = false) (d3 : (g == ("__debug__" : Str)) = false) (d4 : (g == ("__classdict__" : Str)) = false) (d5 : (j == ("__debug__" : Str)) = false) (d6 : (j == ("__classdict__" : Str)) = false) : FnOk P w K mg base CX0 1 fI fd ["self", f, g, j] (spIni3 K bmB newId f g j) := by
  refine F.ok S (fun vs H Q E h => ?_) (fun cdv A outer s H vs Q E hr h => ?_)
  · obtain ⟨a, C, v, u, z, rfl, _⟩ := h
    rfl
  · obtain ⟨a, C, v, u, z, rfl, ha, T, no, no2, no3, q⟩ := h
    rw [hB]
    refine ⟨_, pss_cons (ps_xst (newId := newId) SF (pv 0 rfl (Or.inl v1)) (pv 1 rfl (Or.inl v2) d1 d2)) (pss_cons (ps_xst (newId := newId) SF (pv 0 rfl (Or.inl v1)) (pv 2 rfl (Or.inl v3) d3 d4)) (pss_one (ps_xst (newId := newId) SF (pv 0 rfl (Or.inl v1)) (pv 3 rfl (Or.inl v4) d5 d6)))), _, rfl, _, rfl, a, C, rfl, T, no, .inl ⟨ha, fun dx n ne => ?_⟩⟩
    refine ⟨_, rfl, _, rfl, a, C, rfl, T, no2, .inr ⟨dx, [(f, v)], upd_same, ?_, by show 1 ≤ 900; decide, ?_⟩⟩
    · rw [upd_ne ne, upd_same]
    refine ⟨_, rfl, _, rfl, a, C, rfl, T, no3, .inr ⟨dx, [(g, u), (f, v)], ?_, upd_same, by show 2 ≤ 900; decide, q dx _ n ne (fun b h1 h2 => ?_) ?_ upd_same⟩⟩
    · rw [upd_ne ne.symm, upd_same]
    · rw [upd_ne h2, upd_ne h2, upd_ne h1, upd_ne h2]
    · rw [upd_ne ne.symm, upd_ne ne.symm, upd_same]
end
section
open Evl
variable {K : PySem.W.Frag} {σ : L2.St} {H : Hp} {te tf tg : TE} {bmB : List Value} {newId : String} {C : Addr} {f g j : Str} {v u z : V}
theorem ext_mk {H1 H' : Hp} {a dx : Addr} {o : HO} (n : H1 a = none) (nd : H1 dx = none) (h : ∀ b, b ≠ a → b ≠ dx → H' b = upd H1 a o b) : Ex H1 H' := fun b x e => by
  rw [h b (ne_of_none e n) (ne_of_none e nd), upd_ne (ne_of_none e n)]
  exact e
theorem ee_mk2 (T : Xc K C bmB newId) (no : PySem.W.findIn K (.ref C) f = some none) (no2 : PySem.W.findIn K (.ref C) g = some none) (h1 : Ev te σ H v) (h2 : Ev tf σ H u) : EvE (tXmk C (spIni2 K bmB newId f g) (tCons te (tCons tf tNil))) σ H C [(g, u), (f, v)] := fun H1 e Q q =>
  h1 H1 e _ fun H2 e2 => h2 H2 (e.trans e2) _ fun H3 e3 => ⟨by show 2 ≤ 1000; decide, fun a na => ⟨a, C, v, u, rfl, upd_same, T, no, no2, fun dx H' nd ne hk ha hd => by
    rw [upd_ne ne] at nd
    exact ⟨rfl, q a _ ((e2.trans e3).trans (ext_mk na nd hk)) (fresh_back (e2.trans e3) na) ⟨dx, ha, hd⟩⟩⟩⟩
theorem ee_mk3 (T : Xc K C bmB newId) (no : PySem.W.findIn K (.ref C) f = some none) (no2 : PySem.W.findIn K (.ref C) g = some none) (no3 : PySem.W.findIn K (.ref C) j = some none) (h1 : Ev te σ H v) (h2 : Ev tf σ H u) (h3 : Ev tg σ H z) :
    EvE (tXmk C (spIni3 K bmB newId f g j) (tCons te (tCons tf (tCons tg tNil)))) σ H C [(j, z), (g, u), (f, v)] := fun H1 e Q q =>
  h1 H1 e _ fun H2 e2 => h2 H2 (e.trans e2) _ fun H3 e3 => h3 H3 ((e.trans e2).trans e3) _ fun H4 e4 => ⟨by show 3 ≤ 1000; decide, fun a na => ⟨a, C, v, u, z, rfl, upd_same, T, no, no2, no3, fun dx H' nd ne hk ha hd => by
    rw [upd_ne ne] at nd
    exact ⟨rfl, q a _ (((e2.trans e3).trans e4).trans (ext_mk na nd hk)) (fresh_back ((e2.trans e3).trans e4) na) ⟨dx, ha, hd⟩⟩⟩⟩
/-- of a class without a maker -/
theorem e0_mk {H1 : Hp} {C : Addr} {Q : VK} (q : ∀ a H2, Ex H1 H2 → H1 a = none → ErrIs H2 a C → Q (.ref a) H2) : ∀ a, H1 a = none → Q (.ref a) (upd H1 a (exo a C none)) := fun a na => q a _ (Ex.new na) na (.inl upd_same)
end
end Hc
/-! module HkHead -/
set_option maxHeartbeats 4000000
namespace Hc
open PySem PySem.Spec PyProof.Rows L2
/-- an own class below ValueError whose instances have a dict -/
def oexB (K : PySem.W.Frag) (C : Addr) : Bool := match K.lookup C with
  | some ⟨.type "type", _, .cls cd, sl⟩ => (match cd.mro, sl.toList with
    | .ref C' :: bm, [_, _, _, _, some (.builtin n), _] => decide (C' = C) && (decide (n = "ValueError.__new__") && (!cd.hasDel && (cd.hasDict && PySem.HandSPX.refsVE bm)))
    | _, _ => false)
  | _ => false
theorem oexB_ok {K : PySem.W.Frag} {C : Addr} (h : oexB K C = true) : ∃ nm q N bs bm sn sub ab col dd k0 k1 k2 k3 k5, K.lookup C = some (excClassObj nm q C N bs bm true sn sub ab col dd k0 k1 k2 k3 k5 "ValueError.__new__") ∧ PySem.HandSPX.refsVE bm = true := by
  unfold oexB at h
  split at h
  · rename_i dd cd sl ho
    split at h
    · rename_i C' bm k0 k1 k2 k3 n k5 hm hs
      simp only [Bool.and_eq_true, decide_eq_true_eq, Bool.not_eq_true'] at h
      obtain ⟨rfl, rfl, hdel, hdict, hve⟩ := h
      obtain ⟨nm, bs, mro, ns, qn, hd, sn, sub, ab, col, del⟩ := cd
      dsimp only at hm hdel hdict
      subst hm hdel hdict
      have hsl : sl = #[k0, k1, k2, k3, some (.builtin "ValueError.__new__"), k5] := by
        rw [← hs]
      subst hsl
      exact ⟨nm, qn, ns, bs, bm, sn, sub, ab, col, dd, k0, k1, k2, k3, k5, ho, hve⟩
    · cases h
  · cases h
end Hc
/-! module HyHead -/
set_option maxHeartbeats 4000000
/-! A head that looks only at what some names lead to: for larger tops. -/
namespace Hc
open PySem PySem.Spec PyProof.Rows L2
/-- one more step, the globals left out -/
def growN (g : Addr → Option Obj) (as : List Addr) : List Addr := (as ++ as.flatMap fun a => match decide (a = mainGlobals) with
  | true => []
  | false => match g a with
    | some o => He.refsD o
    | none => []).eraseDups
def growsN (g : Addr → Option Obj) : Nat → List Addr → List Addr
  | 0, as => as
  | n + 1, as => growsN g n (growN g as)
def rootsN (names : List Str) (g : Addr → Option Obj) : List Addr := names.map fun x => He.ga (He.frG g [mainGlobals]) x
def seenN (names : List Str) (n : Nat) (g : Addr → Option Obj) : PySem.W.Frag := He.frG g (growsN g n (mainGlobals :: rootsN names g))
def obsN (names : List Str) (n : Nat) (fa : List He.Fa) (fn : List He.DefD) (ex : PySem.W.Frag → Bool) (g : Addr → Option Obj) : Bool × He.AlD := (ex (seenN names n g), He.obsD fa fn (seenN names n g))
def hookN (names : List Str) (n : Nat) (fa : List He.Fa) (fn : List He.DefD) (ex : PySem.W.Frag → Bool) : PySem.W.Hook where
  α := Bool × He.AlD
  obs := fun s => obsN names n fa fn ex s.heap.get?
  val := fun _ => (true, He.valD fn)
  says := fun _ h => ∃ K : PySem.W.Frag, K.In h ∧ ex K = true ∧ He.SaysD fa fn K
  of := fun _ _ e => ⟨_, He.frG_in, congrArg Prod.fst e, congrArg Prod.snd e⟩
  keeps := fun _ _ _ ⟨K, hK, c⟩ k => ⟨K, PySem.W.Frag.In.keeps hK k, c⟩
def obN (names : List Str) (n : Nat) (fa : List He.Fa) (fn : List He.DefD) (ex : PySem.W.Frag → Bool) (s : PySem.W.SharedT) : Bool × He.AlD := obsN names n fa fn ex (HandSHeadRun.getT s)
theorem obN_eq (names : List Str) (n : Nat) (fa : List He.Fa) (fn : List He.DefD) (ex : PySem.W.Frag → Bool) (s : PySem.W.SharedT) : obN names n fa fn ex s = (hookN names n fa fn ex).obs s.abs := by
  have e : HandSHeadRun.getT s = s.abs.heap.get? := funext (HandSHeadRun.getT_eq s)
  show obsN names n fa fn ex (HandSHeadRun.getT s) = obsN names n fa fn ex s.abs.heap.get?
  rw [e]
end Hc
/-! module HmRun -/
set_option maxHeartbeats 0
namespace Hs
open PySem PySem.Spec PyProof.Rows L2 Hc
def smalls0 : List Nat := [97, 98, 99, 100, 101, 102, 103, 104, 105, 106, 107, 108, 109, 110, 111, 112, 113, 114, 115, 116, 117, 118, 119, 120, 121, 122]
def result0 : List Nat := [114, 101, 115, 117, 108, 116]
def bmD : ErrD := ⟨"BadMend", ["at"], false⟩
def fn43 : List He.DefD := [dk "_law_start" (top 20), dk "_law_draw" (top 21), dk "_law_of" (top 22), dk "_law_word" (top 23), dk "_law_pair" (top 24), dk "_law_number" (top 25), dk "_law_made" (top 26), dk "_law_is_as" (top 27), dk "law" (top 28), dk "are_small" (top 8), dk "is_word" (top 9), dk "is_door" (top 16), dk "is_pair" (top 17), dmk "BadMend" "__init__" "BadMend.__init__" (inClass (top 3) 0), dmk "Mend" "__init__" "Mend.__init__" (inClass (top 18) 0), dmk "Mend" "__len__" "Mend.__len__" (inClass (top 18) 5), dmk "Mend" "__getitem__" "Mend.__getitem__" (inClass (top 18) 6), dmk "Mend" "__bool__" "Mend.__bool__" (inClass (top 18) 8), dmk "Mend" "__eq__" "Mend.__eq__" (inClass (top 18) 9)]
def fa43_0 : List He.Fa := [.glo "_law_start", .glo "_law_draw", .glo "_law_of", .glo "_law_word", .glo "_law_pair", .glo "_law_number", .glo "_law_made", .glo "_law_is_as", .glo "law", .glo "are_small", .glo "is_word", .glo "is_door", .glo "is_pair", .glo "BadMend", .glo "Mend", .glo "RESERVED", .glo "WAYS", .free "int", .free "abs", .free "len", .free "enumerate", .free "isinstance", .free "str", .free "tuple"]
def fa43_1 : List He.Fa := [.free "list", .free "range", .free "sorted", .free "all", .free "type", .free "bool", .free "sum", .int "MOST_LETTERS" 8, .int "MOST_PARAMETER" 2, .int "MOST_FLOORS" 3, .int "NO_PARAMETER" (-1), .str "SMALL_LETTERS" (S smalls0), .str "RESULT" (S result0), .cls "Mend", .mkr "Mend", .noat "Mend" "pairs", .noat "Mend" "_floors_at", .meth "Mend" "__len__", .meth "Mend" "__getitem__", .meth "Mend" "__bool__", .meth "Mend" "__eq__"]
def fa43 : List He.Fa := fa43_0 ++ (fa43_1)

def exEx6 (K : PySem.W.Frag) (x f : Str) (d : ErrD) : Bool := oexB K (He.ga K x) &&
  (xcOk K (He.ga K x) d &&
  (decide (PySem.W.findIn K (.ref (He.ga K x)) "__init__" = some (some (.ref (He.ma K (He.ga K x) "__init__")))) &&
  (decide (PySem.W.typeIn K (.ref (He.ma K (He.ga K x) "__init__")) = some (.type "function")) &&
  (decide (PySem.W.findIn K (.ref (He.ga K x)) f = some none) &&
  (decide (PySem.W.typeIn K (.ref (He.ga K x)) = some (.type "type")) &&
  decide (PySem.W.exmOne K (.ref (He.ga K x)) (.ref (He.ga K x)) = some true))))))
/-- a global tuple of texts -/
def strsB : List Value → List (List Nat) → Bool
  | [], [] => true
  | .str x _ :: r, L :: t => decide (x = S L) && strsB r t
  | _, _ => false
def tupB (K : PySem.W.Frag) (x : Str) (Ls : List (List Nat)) : Bool := match K.lookup (He.ga K x) with
  | some o => decide (o.cls = .type "tuple") && (match o.data with
    | .seq its _ => decide (its.size ≤ 1000) && strsB its.toList Ls
    | _ => false)
  | none => false
def clsB (K : PySem.W.Frag) (x : Str) : Bool := decide (PySem.W.findIn K (.ref (He.ga K x)) "__class__" = some (some (.builtin "object.__class__"))) && decide (PySem.W.mroIn K (He.ga K x) (.type "object") = some true)
def getB (K : PySem.W.Frag) : Bool := decide (PySem.W.specialIn K (.builtin "object.__class__") "__get__" = some (some (.builtin "getset_descriptor.__get__"))) && decide (PySem.W.takesIn K (.builtin "object.__class__") = some true)
def kitB (K : PySem.W.Frag) (x y : Str) (b : Bool) : Bool := decide (PySem.W.kitOne K (.ref (He.ga K x)) (.ref (He.ga K y)) = some b)
def tp_RESERVED : List (List Nat) := [[99, 108, 97, 115, 115], [100, 101, 102], [101, 110, 116, 101, 114], [101, 120, 105, 116], [114, 101, 116, 117, 114, 110], [118, 105, 101, 119], [99, 111, 112, 121], [110, 101, 119], [115, 117, 112, 101, 114], [119, 114, 97, 112], [115, 101, 108, 102], [110, 111, 110, 101], [115, 101, 101, 110], [111, 117, 116, 115, 105, 100, 101]]
def tp_WAYS : List (List Nat) := [[98, 97, 99, 107], [105, 110], [111, 117, 116], [114, 101, 115, 117, 108, 116]]
def ex43 (K : PySem.W.Frag) : Bool := (exEx6 K "BadMend" "at" bmD && (getB K && (clsB K "Mend" && (kitB K "Mend" "Mend" true && ((["NoneType", "int", "str", "tuple", "list"] : List String).all (fun n => decide (PySem.W.kitOne K (.type n) (.ref (He.ga K "Mend")) = some false)) && (PySem.W.notFirst K (He.ga K "Mend") (.ref (He.ga K "Mend")) && ((["NoneType", "int", "str", "tuple", "list"] : List String).all (fun n => PySem.W.notFirst K (He.ga K "Mend") (.type n)) && (decide (PySem.W.findIn K (.ref (He.ga K "Mend")) "__ne__" = some (some (.builtin "object.__ne__"))) && (propB K (He.ga K "Mend") "floors" && (codeA K (gAd K (He.ga K "Mend") "floors") "Mend.floors" && (PySem.W.keepIn K (.ref (gAd K (He.ga K "Mend") "floors")) && (He5.wrapB K (He.ga K "Mend") "staticmethod" "staticmethod.__get__" "none" && (codeA K (He5.wf K (He.ga K "Mend") "staticmethod" "none") "Mend.none" && (PySem.W.keepIn K (.ref (He5.wf K (He.ga K "Mend") "staticmethod" "none")) && (PySem.W.readsIn K (He.ga K "Mend") (.type "type") && (decide (PySem.W.specialIn K (.ref (He.ga K "Mend")) "__getattribute__" = some (some (.builtin "type.__getattribute__"))) && (tupB K "RESERVED" tp_RESERVED && tupB K "WAYS" tp_WAYS)))))))))))))))))
def gt43 (K : PySem.W.Frag) : List He.FnV := [fnA K (gAd K (He.ga K "Mend") "floors"), fnA K (He5.wf K (He.ga K "Mend") "staticmethod" "none")]
def gv43 : List He.FnV := [fnVal "floors" "Mend.floors" (inClass (top 18) 3), fnVal "none" "Mend.none" (inClass (top 18) 1)]
/-- what some names lead to, each once: a set of places as one number -/
def addsB : List Addr → Nat → List Addr → (Nat → List Addr → List Addr) → List Addr
  | [], m, new, k => k m new
  | a :: r, m, new, k => match Nat.beq (Nat.land (Nat.shiftRight m a) 1) 1 with
    | true => addsB r m new k
    | false => addsB r (Nat.lor m (Nat.shiftLeft 1 a)) (a :: new) k
def frontB (g : Addr → Option Obj) : List Addr → Nat → List Addr → (Nat → List Addr → List Addr) → List Addr
  | [], m, new, k => k m new
  | a :: r, m, new, k => match Nat.beq a mainGlobals with
    | true => frontB g r m new k
    | false => match g a with
      | some o => addsB (He.refsD o) m new fun m new => frontB g r m new k
      | none => frontB g r m new k
def bfsB (g : Addr → Option Obj) : Nat → List Addr → Nat → List Addr
  | 0, fr, _ => fr
  | n + 1, fr, m => fr ++ frontB g fr m [] fun m new => bfsB g n new m
def seenM (names : List Str) (n : Nat) (g : Addr → Option Obj) : PySem.W.Frag := He.frG g ((addsB (mainGlobals :: rootsN names g) 0 [] fun m new => bfsB g n new m) ++ [PySem.cStatics])
/-- the named things alone, with getters -/
def obsM (names : List Str) (n : Nat) (fa : List He.Fa) (fn : List He.DefD) (ex : PySem.W.Frag → Bool) (gt : PySem.W.Frag → List He.FnV) (g : Addr → Option Obj) : Bool × He.AlD × List He.FnV := (ex (seenM names n g), He.obsD fa fn (seenM names n g), gt (seenM names n g))
def hookM (names : List Str) (n : Nat) (fa : List He.Fa) (fn : List He.DefD) (ex : PySem.W.Frag → Bool) (gt : PySem.W.Frag → List He.FnV) (gv : List He.FnV) : PySem.W.Hook where
  α := Bool × He.AlD × List He.FnV
  obs := fun s => obsM names n fa fn ex gt s.heap.get?
  val := fun _ => (true, He.valD fn, gv)
  says := fun _ h => ∃ K : PySem.W.Frag, K.In h ∧ ex K = true ∧ He.SaysD fa fn K ∧ gt K = gv
  of := fun _ _ e => ⟨_, He.frG_in, congrArg Prod.fst e, congrArg (fun z : Bool × He.AlD × List He.FnV => z.2.1) e, congrArg (fun z : Bool × He.AlD × List He.FnV => z.2.2) e⟩
  keeps := fun _ _ _ ⟨K, hK, c⟩ k => ⟨K, PySem.W.Frag.In.keeps hK k, c⟩
def obM (names : List Str) (n : Nat) (fa : List He.Fa) (fn : List He.DefD) (ex : PySem.W.Frag → Bool) (gt : PySem.W.Frag → List He.FnV) (s : PySem.W.SharedT) : Bool × He.AlD × List He.FnV := obsM names n fa fn ex gt (HandSHeadRun.getT s)
theorem obM_eq (names : List Str) (n : Nat) (fa : List He.Fa) (fn : List He.DefD) (ex : PySem.W.Frag → Bool) (gt : PySem.W.Frag → List He.FnV) (gv : List He.FnV) (s : PySem.W.SharedT) : obM names n fa fn ex gt s = (hookM names n fa fn ex gt gv).obs s.abs := by
  have e : HandSHeadRun.getT s = s.abs.heap.get? := funext (HandSHeadRun.getT_eq s)
  show obsM names n fa fn ex gt (HandSHeadRun.getT s) = obsM names n fa fn ex gt s.abs.heap.get?
  rw [e]
abbrev R43 : PySem.W.OpenRow := PySem.W.OpenLaw.row PySem.Challenge.rw_handedcopies_k43_mends_made
def lo43_0 : List Str := ["_wall", "HandedcopiesError", "BadMend", "SMALL_LETTERS", "MOST_LETTERS", "RESERVED", "are_small", "is_word", "RESULT", "WAYS", "NO_PARAMETER", "MOST_PARAMETER", "MOST_FLOORS", "is_door", "is_pair", "Mend", "_law_start", "_law_draw", "_law_of", "_law_word", "_law_pair", "_law_number", "_law_made", "_law_is_as"]
def lo43 : List Str := lo43_0

def nm43_0 : List Str := ["_law_start", "_law_draw", "_law_of", "_law_word", "_law_pair", "_law_number", "_law_made", "_law_is_as", "law", "are_small", "is_word", "is_door", "is_pair", "BadMend", "Mend", "RESERVED", "WAYS"]
def nm43 : List Str := nm43_0

theorem run43 (w : World) : HandSHeadRun.RunEq R43 (PySem.W.view R43.prog [28]) (hookM nm43 4 fa43 fn43 ex43 gt43 gv43) (obM nm43 4 fa43 fn43 ex43 gt43) 40000 lo43 w := by
  intro os
  kernel_rfl
end Hs
/-! module HsEnum -/
set_option maxHeartbeats 4000000
/-! for i, c in enumerate(a text). -/
namespace Hs
open PySem PySem.Spec PyProof.Rows L2
/-- the text's signs, each in a new pair with its index -/
def Iten (x : Str) : It :=
  ⟨fun i _ => i < x.cps.size, fun i H v H' => ∃ T c, v = .ref T ∧ H T = none ∧ H' = upd H T (.tup [.int (i : Nat), .str ⟨#[c]⟩]) ∧ x.cps[i]? = some c, fun i _ => x.cps.size ≤ i⟩
theorem turn_enumS {P : Program} {w : World} {K : PySem.W.Frag} {elts : List Expr} {kk : Nat} {tpos : Pos} (x : Str) (t : Tok) (e it : Addr) :
    Turn P w K (.Tuple elts kk tpos) (Iten x) [e, it] e (fun i h => (∃ old, IsEnum h e it ((i : Nat) : Int) old) ∧ h.IsStrIter it (strIterType x) x t i ∧ e ≠ it ∧ i ≤ x.cps.size) where
  mem := by simp
  obj := fun i h st b hb => by
    obtain ⟨⟨old, he⟩, ⟨o, ho, hc, hd⟩, _, _⟩ := st
    have e' : b = e ∨ b = it := by simpa using hb
    rcases e' with z | z
    · rw [z]; exact ⟨_, he, fun v q => nomatch q⟩
    · rw [z]; exact ⟨o, ho, fun v q => by rw [hd] at q; cases q⟩
  keep := fun i h h' st k => by
    obtain ⟨⟨old, he⟩, ⟨o, ho, r⟩, hne⟩ := st
    exact ⟨⟨old, k e (by simp) _ he⟩, ⟨o, k it (by simp) o ho, r⟩, hne⟩
  item := by
    intro X hP hw hK hc i pins s σ H E I hf st hg
    subst hP hw hK
    obtain ⟨⟨old, he⟩, hit, hne, _⟩ := st
    have hel : e < s.heap.objs.size := Heap.lt_size he
    have hil : it < s.heap.objs.size := by obtain ⟨_, q, _⟩ := hit; exact Heap.lt_size q
    have hd : X.A.in1.handled = none := I.ok.hd hc
    have W : Draws X.prog X.w X.A.in1 it [it] x.cps.size (fun i v => ∃ c u, x.cps[i]? = some c ∧ v = .str ⟨#[c]⟩ u) (fun i h => h.IsStrIter it (strIterType x) x t i) := by
      unfold strIterType
      cases ha : x.cps.all (· < 128)
      · simpa [ha] using Draws.strWide hd it x t
      · simpa [ha] using Draws.strAscii hd it x t
    refine wpAny_pyNext_enum_itemD W he hit hg hne (by simpa using hne) fun u h' tk hu ho hit' hT hsz hk => ?_
    obtain ⟨c, u', hcx, rfl⟩ := hu
    refine ⟨_, rfl, wpAny_letOwnedTupleGo_enum (s := { s with heap := h', toks := tk + 1 }) ho fun h'' he' sb => ?_⟩
    have hT2 : h''.get? s.heap.objs.size = some { cls := .type "tuple", data := .seq #[.int i tk, .str ⟨#[c]⟩ u'] } := (sb.2 _ (Nat.ne_of_gt hel)).trans hT
    have new : ObjOk X.prog X.w (upd H s.heap.objs.size (.tup [.int (i : Nat), .str ⟨#[c]⟩])) h'' s.heap.objs.size (.tup [.int (i : Nat), .str ⟨#[c]⟩]) :=
      ⟨by show 2 ≤ sizeLine; decide, [.int i tk, .str ⟨#[c]⟩ u'], .cons ⟨_, rfl⟩ (.cons ⟨_, rfl⟩ .nil), ⟨_, hT2, rfl, _, rfl⟩⟩
    have I1 : Inv X pins σ (upd H s.heap.objs.size (.tup [.int (i : Nat), .str ⟨#[c]⟩])) { s with heap := h'', toks := tk + 1 } :=
      I.turnedNew (ch := [e, it]) (fun b ob hb q => (sb.2 b (fun z => hb (by simp [z]))).trans (hk b ob (fun z => hb (by simp [z])) (fun z => hb (by simp [z])) q)) hf (Nat.le_refl _) new
    have hit2 : h''.IsStrIter it (strIterType x) x t (i + 1) := by
      obtain ⟨o, ho', r⟩ := hit'
      exact ⟨o, (sb.2 it (Ne.symm hne)).trans ho', r⟩
    refine ⟨.ref s.heap.objs.size, _, I1, rfl, ⟨_, c, rfl, I.hok.fresh (Nat.le_refl _), rfl, hcx⟩, ⟨⟨.str ⟨#[c]⟩ u', ?_⟩, hit2, hne, hg⟩, fun b hb => ?_⟩
    · have e1 : ((i + 1 : Nat) : Int) = (i : Int) + 1 := by omega
      rw [e1]; exact he'
    · have hb' : b < s.heap.objs.size := by
        have e' : b = e ∨ b = it := by simpa using hb
        rcases e' with z | z
        · rw [z]; exact hel
        · rw [z]; exact hil
      rw [upd_ne (Nat.ne_of_lt hb')]
      exact (hf b hb).1
  done := by
    intro X hP hw hK hc i pins s σ H E I hf st hg
    subst hP hw hK
    obtain ⟨⟨old, he⟩, hit, hne, hle⟩ := st
    have ei : i = x.cps.size := Nat.le_antisymm hle hg
    subst ei
    obtain ⟨f0, f1, f2, f3, f4, f5⟩ := hf it (by simp)
    have hd : X.A.in1.handled = none := I.ok.hd hc
    have W : Draws X.prog X.w X.A.in1 it [it] x.cps.size (fun i v => ∃ c u, x.cps[i]? = some c ∧ v = .str ⟨#[c]⟩ u) (fun i h => h.IsStrIter it (strIterType x) x t i) := by
      unfold strIterType
      cases ha : x.cps.all (· < 128)
      · simpa [ha] using Draws.strWide hd it x t
      · simpa [ha] using Draws.strAscii hd it x t
    exact wpAny_pyNext_enum_endD W he hit fun h' eb => ⟨rfl, I.turned (t' := s.toks) (fun b o hb q => eb b o hb q) f0 f1 f3 f4 f5⟩
  self := fun A i s Q E st h => let ⟨⟨_, he⟩, _⟩ := st; wpAny_pyIter_enum he h
def iEnumS (ta : TA) : TI := fun σ H R => ta σ H fun vs H1 => ∃ x, vs = [.str x] ∧ R (Iten x) H1
theorem pi_enumS {X : Cx} {e : Expr} {ta : TA} {p pos tpos : Pos} {elts : List Expr} {kk : Nat} (hg : Gl X "enumerate") (hm : X.mg "enumerate" = none) (ha : PA X [e] ta) (hs : starEach [e] X.env = [(false, eval e X.env)] := by rfl) :
    PI X (.Tuple elts kk tpos) (.Call (.Name "enumerate" p) [e] [] pos) (iEnumS ta) := by
  refine ⟨fun pins s σ H R I h => ?_⟩
  refine Call_ (ld_blt I hg hm boot_enumerate (PyProof.Rows.callWith_type1 (thn (ha.run pos pins s σ H _ I h) fun us s1 ⟨vs, H1, I1, r1, q1⟩ => ?_) hs rfl))
  obtain ⟨x, ex, q⟩ := q1
  subst ex
  cases r1 with
  | cons r rr =>
    cases rr
    obtain ⟨t, rfl⟩ := r
    refine call_enumerate_str fun h' he hit hsz hk => wpAny_pyIter_enum he ?_
    have I2 : Inv X pins σ H1 { s1 with heap := h' } := I1.kept (t' := s1.toks) hk
    refine ⟨s1.heap.objs.size + 1, [s1.heap.objs.size + 1, s1.heap.objs.size], _, _, H1, rfl, I2, turn_enumS x t (s1.heap.objs.size + 1) s1.heap.objs.size, ⟨⟨.none, he⟩, hit, Nat.succ_ne_self _, Nat.zero_le _⟩, fun b hb => ?_, q⟩
    have e' : b = s1.heap.objs.size + 1 ∨ b = s1.heap.objs.size := by simpa using hb
    have hle : s1.heap.objs.size ≤ b := by
      rcases e' with z | z
      · rw [z]; exact Nat.le_add_right _ _
      · rw [z]; exact Nat.le_refl _
    exact I1.fpOk hle (I1.hok.fresh hle)
/-- a for over enumerate(a text) -/
theorem for_enumS {x : Str} {g : TG} {tb : TS} {D : Ends} {σ : L2.St} {H : Hp} (Pv : Nat → L2.St → Hp → Prop) (h0 : Pv 0 σ H)
    (hs : ∀ i c T σ H, x.cps[i]? = some c → Pv i σ H → H T = none → g (.ref T) σ (upd H T (.tup [.int (i : Nat), .str ⟨#[c]⟩])) fun σ2 H2 => tb { D with nx := Pv (i + 1), ct := Pv (i + 1), bk := D.nx } σ2 H2) (hd : ∀ σ H, Pv x.cps.size σ H → D.nx σ H) :
    ∃ W : Nat → Nat → L2.St → Hp → Prop, (∃ m, W 0 m σ H) ∧ ∀ i m σ H, W i m σ H →
      ((Iten x).stop i H ∧ D.nx σ H) ∨ ((Iten x).go i H ∧ ∃ N : L2.St → Hp → Prop, (∀ σ' H', N σ' H' → ∃ m', m' < m ∧ W (i + 1) m' σ' H') ∧ ∀ v H', (Iten x).yld i H v H' → g v σ H' fun σ2 H2 => tb { D with nx := N, ct := N, bk := D.nx } σ2 H2) := by
  refine ⟨fun i m σ H => m = x.cps.size - i ∧ i ≤ x.cps.size ∧ Pv i σ H, ⟨x.cps.size, by simp, Nat.zero_le _, h0⟩, ?_⟩
  rintro i m σ H ⟨rfl, hi, p⟩
  by_cases hlt : i < x.cps.size
  · refine .inr ⟨hlt, Pv (i + 1), fun σ' H' p' => ⟨x.cps.size - (i + 1), by omega, rfl, hlt, p'⟩, fun v H' y => ?_⟩
    obtain ⟨T, c, rfl, nT, rfl, hc⟩ := y
    exact hs i c T σ H hc p nT
  · have e : i = x.cps.size := by omega
    subst e
    exact .inl ⟨Nat.le_refl _, hd σ H p⟩
end Hs
/-! module HsProg -/
set_option maxHeartbeats 4000000
/-! parts_of, has_form, is_shape. -/
namespace Hs
open PySem PySem.Spec PyProof.Rows L2 Evl Hc
/-- the longest text that is looked at -/
def cap : Nat := 30000
theorem cap_line {n : Nat} (h : n ≤ cap) : n ≤ sizeLine := Nat.le_trans h (by decide)
structure TxtP (mg : Str → Option Value) : Prop where
  enu : mg "enumerate" = none
  all : mg "all" = none
  len : mg "len" = none
  mI : ∃ t, mg "MOST_ITEMS" = some (.int 3 t)
  mD : ∃ t, mg "MOST_DEPTH" = some (.int 3 t)
  mL : ∃ t, mg "MOST_LISTS_shapes" = some (.int 5 t)
def spParts : Sp := fun vs H Q _ => ∃ L, vs = [.str (S L)] ∧ L.length ≤ cap ∧ ∀ p H', H p = none → Ex H H' → H' p = some (.lst ((partsOf L).map fun x => V.str (S x))) → Q (.ref p) H'
def spForm (f : Nat) : Sp := fun vs H Q _ => ∃ L, vs = [.str (S L), .int (f : Int)] ∧ L.length ≤ cap ∧ ∀ H', Ex H H' → Q (.bl (hasForm f L)) H'
def spShape : Sp := fun vs H Q _ => ∃ L, vs = [.str (S L)] ∧ L.length ≤ cap ∧ ∀ H', Ex H H' → Q (.bl (isShape L)) H'
section
variable {σ : L2.St} {H : Hp} {te ta tb : TE} {tl th : TO}
theorem ev_slS {z : Str} {lo hi : Option Int} (h : Ev te σ H (.str z)) (h1 : EvO tl σ H lo) (h2 : EvO th σ H hi) (hz : z.length ≤ sizeLine) : Ev (tSl rSlS te tl th) σ H (.str (cutS z lo hi)) := fun H1 e Q q =>
  h H1 e _ fun H2 e2 => h1 H2 (e.trans e2) _ fun H3 e3 => h2 H3 ((e.trans e2).trans e3) _ fun H4 e4 => ⟨z, rfl, hz, q H4 ((e2.trans e3).trans e4)⟩
theorem dec_S {a b : List Nat} : decide (V.str (S a) = V.str (S b)) = decide (a = b) := by
  by_cases h : a = b
  · subst h
    simp
  · rw [decide_eq_false h, decide_eq_false]
    intro z
    exact h (S_inj (V.str.inj z))
theorem dec_I {a b : Int} : decide (V.int a = V.int b) = decide (a = b) := by
  rw [dec_int]
  rfl
theorem ev_eqS {a b : List Nat} (h1 : Ev ta σ H (.str (S a))) (h2 : Ev tb σ H (.str (S b))) : Ev (tOp rEq ta tb) σ H (.bl (decide (a = b))) := by
  rw [← dec_S]
  exact ev_op h1 h2 (rv_eq rfl)
theorem ev_neS {a b : List Nat} (h1 : Ev ta σ H (.str (S a))) (h2 : Ev tb σ H (.str (S b))) : Ev (tOp rNe ta tb) σ H (.bl (!decide (a = b))) := by
  rw [← dec_S]
  exact ev_op h1 h2 (rv_ne rfl)
theorem ev_eqI {a b : Int} (h1 : Ev ta σ H (.int a)) (h2 : Ev tb σ H (.int b)) : Ev (tOp rEq ta tb) σ H (.bl (decide (a = b))) := by
  rw [← dec_I]
  exact ev_op h1 h2 (rv_eq rfl)
end
section
variable {P : Program} {w : World} {K : PySem.W.Frag} {mg : Str → Option Value} {base : Heap}
theorem mem_two (c : Nat) (a b : Nat) : (c ∈ (S [a, b]).cps.toList) = (c ∈ [a, b]) := rfl
structure Rd (P : Program) (w : World) (K : PySem.W.Frag) (mg : Str → Option Value) (base : Heap) (x : Str) (k : Nat) (ps : List Str) (sp : Sp) : Prop where
  ex : ∃ (f : Addr) (fd : FuncData), mg x = some (.ref f) ∧ PySem.W.keepIn K (.ref f) = true ∧ Binds K fd ps [] ∧ FnOk P w K mg base CX0 k f fd ps sp
theorem Rd.mono {x : Str} {j k : Nat} {ps : List Str} {sp : Sp} (r : Rd P w K mg base x j ps sp) (h : j ≤ k) : Rd P w K mg base x k ps sp := by
  obtain ⟨f, fd, g, kp, b, G⟩ := r.ex
  exact ⟨f, fd, g, kp, b, G.mono h⟩
theorem pe_rd {X : Cx} {x : Str} {k j : Nat} {ps : List Str} {sp : Sp} {e : Expr} {es : List Expr} {ta : TA} {p pos : Pos} (r : Rd X.prog X.w X.K X.mg X.base x k ps sp) (hr : Room j X.A) (hk : k ≤ j) (hg : Gl X x) (ha : PA X (e :: es) ta)
    (hdb : (x == ("__debug__" : Str)) = false := by decide) (he : starEach (e :: es) X.env = (false, eval e X.env) :: starEach es X.env := by rfl) (hpl : (backTo pos (starEach es X.env)).any (·.1) = false := by rfl) : PE X (.Call (.Name x p) (e :: es) [] pos) (tCall sp [] E0 ta) := by
  obtain ⟨f, fd, g1, kp, b, G⟩ := r.ex
  exact pe_call G (hr.mono hk) hg g1 kp b .nil pass0 ha hdb he hpl
/-- what is never asked -/
def spNo : Sp := fun _ _ _ _ => False
theorem rd_no {x : Str} {st : Stmt} {f : Addr} {fd : FuncData} {ps : List Str} (F : Fun K x x st f fd) (g : mg x = some (.ref f)) (b : Binds K fd ps []) (k : Nat) : Rd P w K mg base x k ps spNo :=
  ⟨f, fd, g, F.kp, b, ⟨fun _ _ _ _ h => h.elim, fun _ _ _ _ _ _ _ _ _ _ _ _ _ h => h.elim⟩⟩
theorem ev_m1 {σ : L2.St} {H : Hp} {to te : TE} {r : V → List V → Hp → VK → Prop} {a : Str} {y z : V} (h1 : Ev to σ H (.str a)) (h2 : Ev te σ H y) (hr : ∀ (H1 : Hp) (Q : VK), Q z H1 → r (.str a) [y] H1 Q) : Ev (tM1 r to te) σ H z := fun H1 e Q q =>
  h1 H1 e _ fun H2 e2 => ⟨⟨a, rfl⟩, h2 H2 (e.trans e2) _ fun H3 e3 => hr H3 Q (q H3 (e2.trans e3))⟩
theorem ev_all {σ : L2.St} {H : Hp} {tl : TE} {bs : List Bool} (h : EvL tl σ H (bs.map V.bl)) : Ev (tCB (rAll K) (tCons tl tNil)) σ H (.bl (bs.all id)) := fun H1 e Q q =>
  h H1 e _ fun p H2 np e2 hp => ⟨p, bs, rfl, SqL.of hp, q H2 e2⟩
theorem sp_parts {H : Hp} {L : List Nat} (h : L.length ≤ cap) : SpL spParts ([.str (S L)] ++ []) H ((partsOf L).map fun x => V.str (S x)) := fun H1 e Q q E => ⟨L, rfl, h, fun p H' np ex hp => q p H' np ex hp⟩
theorem sp_form {H : Hp} {L : List Nat} {n : Nat} (h : L.length ≤ cap) : SpV (spForm n) ([.str (S L), .int (n : Int)] ++ []) H (.bl (hasForm n L)) := fun H1 e Q q E => ⟨L, rfl, h, fun H' ex => q H' ex⟩
theorem sp_shape {H : Hp} {L : List Nat} (h : L.length ≤ cap) : SpV spShape ([.str (S L)] ++ []) H (.bl (isShape L)) := fun H1 e Q q E => ⟨L, rfl, h, fun H' ex => q H' ex⟩
theorem ev_starts {σ : L2.St} {H : Hp} {to te : TE} {L : List Nat} {c : Nat} (h1 : Ev to σ H (.str (S L))) (h2 : Ev te σ H (.str (S [c]))) :
    Ev (tM1 (fun x xs H Q => ∃ a b, x = .str a ∧ xs = [.str b] ∧ Q (.bl (Txt.startswith a b)) H) to te) σ H (.bl (L.head? == some c)) := ev_m1 h1 h2 fun H1 Q q => ⟨S L, S [c], rfl, rfl, by rw [starts1]; exact q⟩
theorem ev_ends {σ : L2.St} {H : Hp} {to te : TE} {L : List Nat} {c : Nat} (h1 : Ev to σ H (.str (S L))) (h2 : Ev te σ H (.str (S [c]))) :
    Ev (tM1 (fun x xs H Q => ∃ a b, x = .str a ∧ xs = [.str b] ∧ Q (.bl (Txt.endswith a b)) H) to te) σ H (.bl (L.getLast? == some c)) := ev_m1 h1 h2 fun H1 Q q => ⟨S L, S [c], rfl, rfl, by rw [ends1]; exact q⟩
theorem ev_count {σ : L2.St} {H : Hp} {to te : TE} {L : List Nat} {c : Nat} (h1 : Ev to σ H (.str (S L))) (h2 : Ev te σ H (.str (S [c]))) :
    Ev (tM1 (fun x xs H Q => ∃ a b, x = .str a ∧ xs = [.str b] ∧ Q (.int (Txt.count a b)) H) to te) σ H (.int ((L.count c : Nat) : Int)) := ev_m1 h1 h2 fun H1 Q q => ⟨S L, S [c], rfl, rfl, by rw [count1]; exact q⟩
theorem wipe1 {σ : L2.St} {j : Nat} (x : V) : wipe ((wipe σ [j]).set j (some x)) [j] = wipe σ [j] := by
  show ((σ.set j none).set j (some x)).set j none = σ.set j none
  rw [List.set_set, List.set_set]
end
end Hs
/-! module HwWord -/
set_option maxHeartbeats 4000000
/-! are_small, is_word, is_class_name. -/
namespace Hs
open PySem PySem.Spec PyProof.Rows L2 Evl Hc
def smalls : List Nat := [97, 98, 99, 100, 101, 102, 103, 104, 105, 106, 107, 108, 109, 110, 111, 112, 113, 114, 115, 116, 117, 118, 119, 120, 121, 122]
def larges : List Nat := [65, 66, 67, 68, 69, 70, 71, 72, 73, 74, 75, 76, 77, 78, 79, 80, 81, 82, 83, 84, 85, 86, 87, 88, 89, 90]
/-- the words that stand for something else -/
def resv : List (List Nat) := (["class", "def", "enter", "exit", "return", "view", "copy", "new", "super", "wrap", "self", "none", "seen", "outside"] : List String).map fun s => s.toList.map Char.toNat
def areSmall (L : List Nat) : Bool := L.all fun c => decide (c ∈ smalls)
def isWord (L : List Nat) : Bool := decide (1 ≤ L.length) && decide (L.length ≤ 8) && areSmall L && !resv.contains L
def isClassName (L : List Nat) : Bool := match L with
  | [] => false
  | c :: M => decide (L.length ≤ 8) && decide (c ∈ larges) && areSmall M
structure WordC (mg : Str → Option Value) : Prop where
  all : mg "all" = none
  len : mg "len" = none
  sm : ∃ t, mg "SMALL_LETTERS" = some (.str (S smalls) t)
  mo : ∃ t, mg "MOST_LETTERS" = some (.int 8 t)
structure WordP (K : PySem.W.Frag) (mg : Str → Option Value) : Prop extends WordC mg where
  rs : ∃ r, mg "RESERVED" = some (.ref r) ∧ ∀ H, SqT K H r (resv.map fun x => V.str (S x))
def spSmall : Sp := fun vs H Q _ => ∃ L, vs = [.str (S L)] ∧ L.length ≤ cap ∧ ∀ H', Ex H H' → Q (.bl (areSmall L)) H'
def spWord : Sp := fun vs H Q _ => ∃ L, vs = [.str (S L)] ∧ L.length ≤ cap ∧ ∀ H', Ex H H' → Q (.bl (isWord L)) H'
def spClass : Sp := fun vs H Q _ => ∃ L, vs = [.str (S L)] ∧ L.length ≤ cap ∧ ∀ H', Ex H H' → Q (.bl (isClassName L)) H'
/-- a comprehension over a text -/
theorem lc_str {x : Str} {g : TG} {tt : TT} {te : TE} {vs : List Nat} {σ : L2.St} {H1 : Hp} {D : Addr} {Qd : Hp → Prop} (Pv : Nat → Hp → Prop) (h0 : Pv 0 (upd H1 D (HO.lst [])))
    (h : ∀ (i c : Nat) (H : Hp), x.cps[i]? = some c → Pv i H → g (.str ⟨#[c]⟩) (wipe σ vs) H fun σ2 H2 => wipe σ2 vs = wipe σ vs ∧ tt σ2 H2 fun b H3 =>
      if b = true then te σ2 H3 fun y H4 => ∃ acc, H4 D = some (HO.lst acc) ∧ acc.length < sizeLine ∧ Pv (i + 1) (upd H4 D (HO.lst (acc ++ [y]))) else Pv (i + 1) H3)
    (hq : ∀ H, Pv x.cps.size H → Qd H) : ∃ W : Nat → Nat → Hp → Prop, (∃ m, W 0 m (upd H1 D (HO.lst []))) ∧ ∀ (i m : Nat) (H : Hp), W i m H → (Its x).stop i H ∧ Qd H ∨ (Its x).go i H ∧
      ∃ Nx : Hp → Prop, (∀ (H' : Hp), Nx H' → ∃ m', m' < m ∧ W (i + 1) m' H') ∧ ∀ (v : V) (H' : Hp), (Its x).yld i H v H' → g v (wipe σ vs) H' fun σ2 H2 => wipe σ2 vs = wipe σ vs ∧ tt σ2 H2 fun b H3 =>
        if b = true then te σ2 H3 fun y H4 => ∃ acc, H4 D = some (HO.lst acc) ∧ acc.length < sizeLine ∧ Nx (upd H4 D (HO.lst (acc ++ [y]))) else Nx H3 := by
  refine ⟨fun i m H => i + m = x.cps.size ∧ Pv i H, ⟨x.cps.size, by omega, h0⟩, ?_⟩
  rintro i m H ⟨e, p⟩
  by_cases hi : i < x.cps.size
  · refine .inr ⟨hi, Pv (i + 1), fun H' q => ⟨m - 1, by omega, by omega, q⟩, ?_⟩
    rintro v H' ⟨rfl, c, hc, rfl⟩
    exact h i c _ hc p
  · refine .inl ⟨by show x.cps.size ≤ i; omega, hq _ ?_⟩
    have : i = x.cps.size := by omega
    exact this ▸ p
theorem el_lcS {te : TE} {σ : L2.St} {H : Hp} {L : List Nat} {tl : TE} {j : Nat} {vs : List Nat} (v : Nat → V) (h : Ev tl σ H (.str (S L))) (hz : L.length ≤ 40000) (hw : ∀ x, wipe ((wipe σ vs).set j (some x)) vs = wipe σ vs)
    (he : ∀ (c : Nat) H1, Ex H H1 → c ∈ L → Ev te ((wipe σ vs).set j (some (.str (S [c])))) H1 (v c)) :
    EvL (tLc (iStr tl) (gName j) tYes te vs) σ H (L.map v) := fun H0 e Q q => h H0 e _ fun H1 e1 => ⟨S L, rfl, fun Dl hD =>
  lc_str (x := S L) (Cw H1 (fun _ => true) (fun i => v (L.getD i 0)) Dl) ⟨hD, Ex.new hD, upd_same⟩ (fun i c H' hi p => by
      have hi' : L[i]? = some c := by
        have z : (S L).cps[i]? = L[i]? := by simp
        rw [← z]
        exact hi
      have hl : i < L.length := (List.getElem?_eq_some_iff.mp hi').1
      have hg : L.getD i 0 = c := by
        rw [List.getD_eq_getElem?_getD, hi']
        rfl
      refine ⟨hw _, cw_turn p (by omega) et_yes fun _ => ?_⟩
      show Ev te _ _ (v (L.getD i 0))
      rw [hg]
      exact he c H1 (e.trans e1) (List.mem_of_getElem? hi'))
    (fun H' p => q Dl H' (fresh_back e1 p.1) (e1.trans p.2.1) (by
      have z := p.2.2
      unfold given at z
      rw [List.filter_eq_self.mpr (fun _ _ => rfl)] at z
      have hs : (S L).cps.size = L.length := by simp
      rw [hs] at z
      rw [z]
      congr 2
      apply List.ext_getElem?
      intro i
      rw [List.getElem?_map, List.getElem?_map]
      by_cases hi : i < L.length
      · rw [List.getElem?_range hi, List.getElem?_eq_getElem hi]
        simp [hi]
      · rw [List.getElem?_eq_none (by simp; omega), List.getElem?_eq_none (by omega)]
        rfl))⟩
theorem ev_chainI {ta tb tc : TE} {σ : L2.St} {H : Hp} {i j k : Int} (h1 : Ev ta σ H (.int i)) (h2 : Ev tb σ H (.int j)) (h3 : Ev tc σ H (.int k)) :
    Ev (tChain (rI0 fun i j => V.bl (decide (i ≤ j))) (rI0 fun i j => V.bl (decide (i ≤ j))) ta tb tc) σ H (.bl (decide (i ≤ j) && decide (j ≤ k))) := fun H1 e Q q =>
  h1 H1 e _ fun H2 e2 => h2 H2 (e.trans e2) _ fun H3 e3 => ⟨i, j, rfl, rfl, _, rfl, by
    by_cases z : i ≤ j
    · rw [if_pos (decide_eq_true z)]
      rw [decide_eq_true z] at q
      exact h3 H3 ((e.trans e2).trans e3) _ fun H4 e4 => ⟨j, k, rfl, rfl, q H4 ((e2.trans e3).trans e4)⟩
    · rw [if_neg (by rw [decide_eq_false z]; exact Bool.false_ne_true)]
      rw [decide_eq_false z] at q
      exact q H3 (e2.trans e3)⟩
theorem ev_inSign {ta tb : TE} {σ : L2.St} {H : Hp} {c : Nat} {M : List Nat} (h1 : Ev ta σ H (.str (S [c]))) (h2 : Ev tb σ H (.str (S M))) :
    Ev (tOp (fun x y H Q => ∃ c z, x = V.str { cps := #[c] } ∧ y = V.str z ∧ Q (V.bl (decide (c ∈ z.cps.toList))) H) ta tb) σ H (.bl (decide (c ∈ M))) :=
  ev_op h1 h2 fun H1 e Q q => ⟨c, S M, rfl, rfl, q H1 (Ex.refl H1)⟩

theorem atI0 (c : Nat) (M : List Nat) : atI (S (c :: M)).cps.toList 0 = some c := by
  show atI (c :: M) 0 = some c
  unfold atI
  simp [ixN]
theorem ev_lenS {σ : L2.St} {H : Hp} {te : TE} {L : List Nat} (hL : L.length ≤ cap) (h : Ev te σ H (.str (S L))) : Ev (tCB (fun (xs : List V) (H : Hp) (Q : VK) => ∃ z, xs = [.str z] ∧ z.length ≤ sizeLine ∧ Q (.int z.length) H) (tCons te tNil)) σ H (.int (L.length : Int)) := fun H1 e Q q =>
  h H1 e _ fun H2 e2 => ⟨S L, rfl, by rw [S_len]; exact cap_line hL, by rw [S_len]; exact q H2 e2⟩
theorem ev_notIn {K : PySem.W.Frag} {ta tb : TE} {σ : L2.St} {H : Hp} {L : List Nat} {Ls : List (List Nat)} {r : Addr} (h1 : Ev ta σ H (.str (S L))) (h2 : Ev tb σ H (.ref r)) (hs : ∀ H, SqT K H r (Ls.map fun x => V.str (S x))) :
    Ev (tOp (rIn K true) ta tb) σ H (.bl (!Ls.contains L)) := ev_op h1 h2 fun H1 e Q q => ⟨r, _, rfl, .inr (hs H1), rfl, by
      rw [List.all_map, List.all_eq_true]
      intro x _
      rfl, by
      have z : inV (V.str (S L)) (Ls.map fun x => V.str (S x)) = Ls.contains L := by
        unfold inV
        rw [List.any_map]
        clear hs q
        induction Ls with
        | nil => rfl
        | cons M Ms ih' =>
          have hh : eqV (V.str (S M)) (V.str (S L)) = (L == M) := by
            show (S M == S L) = (L == M)
            rw [Bool.eq_iff_iff, beq_iff_eq, beq_iff_eq]
            exact ⟨fun z => (S_inj z).symm, fun z => z ▸ rfl⟩
          show ((eqV (V.str (S M)) (V.str (S L))) || (Ms.any ((fun y => eqV y (V.str (S L))) ∘ fun x => V.str (S x)))) = ((L == M) || Ms.contains L)
          rw [hh, ih']
      rw [if_pos rfl, z]
      exact q H1 (Ex.refl H1)⟩
section
variable {P : Program} {w : World} {K : PySem.W.Frag} {mg : Str → Option Value} {base : Heap}
theorem sp_small {H : Hp} {L : List Nat} (h : L.length ≤ cap) : SpV spSmall ([.str (S L)] ++ []) H (.bl (areSmall L)) := fun H1 e Q q E => ⟨L, rfl, h, fun H' ex => q H' ex⟩
theorem sp_word {H : Hp} {L : List Nat} (h : L.length ≤ cap) : SpV spWord ([.str (S L)] ++ []) H (.bl (isWord L)) := fun H1 e Q q E => ⟨L, rfl, h, fun H' ex => q H' ex⟩
theorem sp_class {H : Hp} {L : List Nat} (h : L.length ≤ cap) : SpV spClass ([.str (S L)] ++ []) H (.bl (isClassName L)) := fun H1 e Q q E => ⟨L, rfl, h, fun H' ex => q H' ex⟩
abbrev nSmall : List Str := ["text", "sign"]
theorem scSmall : FnScope nSmall ["text"] (defScope sSmall) := ⟨rfl, rfl, rfl, by decide +kernel, rfl, by decide +kernel, by decide +kernel⟩
theorem ok_small {f : Addr} {fd : FuncData} {k : Nat} (F : Fun K "are_small" "are_small" sSmall f fd) (T : WordC mg) : FnOk P w K mg base CX0 (k + 1) f fd ["text"] spSmall := by
  refine F.ok scSmall (fun vs H Q E h => ?_) (fun cdv A outer s H vs Q E hr h => ?_)
  · obtain ⟨L, rfl, _⟩ := h
    rfl
  · obtain ⟨L, rfl, hL, q⟩ := h
    obtain ⟨t, ht⟩ := T.sm
    refine ⟨_, pss_one (ps_ret (pe_callB (cr_all rfl) (by rfl) T.all boot_all (pa_cons (pe_lc (own := [("sign", 1)]) (g := gName 1) (tt := tYes) rfl scSmall.nd (pi_str (pv 0)) (blkOk_by (N := nSmall) (sc := defScope sSmall) (by decide +kernel)) (fun _ _ _ _ _ => pg_name (i := 1) scSmall.nd rfl (.inl rfl)) (fun _ _ _ _ _ => pts_nil)
      (fun _ _ _ _ _ => pe_cmpR op_in_sign (pv 1) (pe_glob (v := .str (S smalls)) (by rfl) ht ⟨_, rfl⟩) (by rfl))) pa_nil))), ?_⟩
    refine s_ret (ev_all (bs := L.map fun c => decide (c ∈ smalls)) (by
      rw [List.map_map]
      exact el_lcS (fun c => V.bl (decide (c ∈ smalls))) (ev_var rfl) (Nat.le_trans hL (by decide)) wipe1 fun c H1 e hc => ev_inSign (ev_var rfl) ev_c)) fun H1 f1 => ?_
    have e : areSmall L = (L.map fun c => decide (c ∈ smalls)).all id := by
      rw [List.all_map]
      rfl
    rw [← e]
    exact q H1 f1
theorem scWord : FnScope ["text"] ["text"] (defScope sWord) := ⟨rfl, rfl, rfl, by decide +kernel, rfl, by decide +kernel, by decide +kernel⟩
theorem ok_word {f : Addr} {fd : FuncData} {k : Nat} (F : Fun K "is_word" "is_word" sWord f fd) (T : WordP K mg) (rS : Rd P w K mg base "are_small" k ["text"] spSmall) : FnOk P w K mg base CX0 (k + 1) f fd ["text"] spWord := by
  refine F.ok scWord (fun vs H Q E h => ?_) (fun cdv A outer s H vs Q E hr h => ?_)
  · obtain ⟨L, rfl, _⟩ := h
    rfl
  · obtain ⟨L, rfl, hL, q⟩ := h
    obtain ⟨t, ht⟩ := T.mo
    obtain ⟨r, hR, hs⟩ := T.rs
    refine ⟨_, pss_one (ps_ret (pe_and (pe_chain op_le op_le pe_int (pe_callB call_len_str (by rfl) T.len PySem.boot_len (pa_cons (pv 0) pa_nil)) (pe_glob (v := .int 8) (by rfl) ht ⟨_, rfl⟩))
      (pe_and (pe_rd rS hr (Nat.le_refl _) (by rfl) (pa_cons (pv 0) pa_nil)) (pe_one (pe_cmpR op_notIn_seq (pv 0) (pe_glob (v := .ref r) (by rfl) hR rfl) (by rfl)))))), ?_⟩
    refine s_ret (ev_andV (ev_chainI ev_c (ev_lenS hL (ev_var rfl)) ev_c) fun _ => ev_andV (ev_call (ea_cons (ev_var rfl) ea_nil) (sp_small hL)) fun _ => ev_notIn (ev_var rfl) ev_c hs) fun H1 f1 => ?_
    have e : isWord L = ((decide ((1 : Int) ≤ (L.length : Int)) && decide ((L.length : Int) ≤ 8)) && (areSmall L && !resv.contains L)) := by
      unfold isWord
      rw [Bool.and_assoc]
      congr 2
      · rw [decide_eq_decide]
        omega
      · rw [decide_eq_decide]
        omega
    rw [← e]
    exact q H1 f1
end
end Hs
/-! module HmItems -/
set_option maxHeartbeats 4000000
/-! list(d.items()), the keys of d tuples. -/
namespace Hm
open PySem PySem.Spec PyProof.Rows L2 Hc
section
variable {prog : Program} {w : World} {A : Around} {E : Value → Shared → Prop} {s : Shared} {r d : Addr} {es : Array DictEntry} {ep : Nat}
theorem list_view {Q : Value → Shared → Prop} (hh : A.handled = none) (hv : s.heap.IsItemsView r d) (hm : DT.Raw s.heap d es ep) (hn : es.size ≤ sizeLine)
    (hQ : ∀ (h' : Heap) (tk : Nat) (acc : Array Value) (c : Nat) (as : List Addr), (∀ b o, s.heap.get? b = some o → h'.get? b = some o) → h'.get? s.heap.objs.size = some { cls := .type "list", dict := none, data := .seq acc c, slots := #[] } → as.length = es.size → DT.Made es s.heap.objs.size h' as → acc.toList = as.map Value.ref → Q (.ref s.heap.objs.size) { s with heap := h', toks := tk }) :
    wpAny (model prog w) A (call (.type "list") [.ref r]) Q E s := by
  refine callType_codes (Q₁ := fun obj s₁ => obj = .ref s.heap.objs.size ∧ s₁ = { s with heap := s.heap.push { cls := .type "list", data := .seq #[] } }) PySem.F.called_list (PySem.F.typeCall_list_1 _) PySem.F.entry_list_init
    (code_list_new _ ⟨rfl, rfl⟩) fun obj s₁ h₁ => ?_
  obtain ⟨rfl, rfl⟩ := h₁
  have hS : (s.heap.push { cls := .type "list", data := .seq #[] }).get? s.heap.objs.size = some { cls := .type "list", data := .seq #[] } := Heap.get?_push_size _ rfl
  have hr : r < s.heap.objs.size := let ⟨_, ho, _⟩ := hv; Heap.lt_size ho
  have hd : d < s.heap.objs.size := hm.lt
  refine ⟨⟨_, hS, rfl⟩, PySem.F.args_list_init_2 _ _, ?_⟩
  show wpAny _ _ (do let old ← Builtin.List.listItems (.ref s.heap.objs.size); Builtin.List.listUpdate (.ref s.heap.objs.size) (fun _ => #[]); letGo old.toList.reverse; Builtin.List.listExtendWith (.ref s.heap.objs.size) (.ref r) .none) _ _ _
  refine wpAny_bind ?_
  unfold Builtin.List.listItems
  refine wpAny_bind (wpAny_seqItems hS rfl (wpAny_pure ?_))
  show wpAny _ _ (updateSeq s.heap.objs.size (fun _ => #[]) >>= fun _ => letGo (#[] : Array Value).toList.reverse >>= fun _ => Builtin.List.listExtendWith (.ref s.heap.objs.size) (.ref r) .none) _ _ _
  refine wpAny_bind (wpAny_updateSeq hS rfl ?_)
  have hS₂ := Heap.get?_update_self (Obj.mapSeq (fun _ => (#[] : Array Value))) hS rfl
  obtain ⟨c0, hS3⟩ : ∃ c, ((s.heap.push { cls := .type "list", data := .seq #[] }).update s.heap.objs.size (Obj.mapSeq (fun _ => (#[] : Array Value)))).get? s.heap.objs.size = some { cls := .type "list", data := .seq #[] c } := ⟨_, hS₂⟩
  have oth : ∀ b o, b ≠ s.heap.objs.size → s.heap.get? b = some o → ((s.heap.push { cls := .type "list", data := .seq #[] }).update s.heap.objs.size (Obj.mapSeq (fun _ => (#[] : Array Value)))).get? b = some o :=
    fun b o hb e => (Heap.get?_update_other _ _ (Ne.symm hb)).trans (Heap.get?_push_of_some _ e)
  refine wpAny_bind (wpAny_letGo ?_)
  refine DT.extI (prog := prog) (w := w) (A := A.in1) (R := wants (fun r s₂ => r = .none ∧ Q (.ref s.heap.objs.size) s₂) E) (s := { s with heap := (s.heap.push { cls := .type "list", data := .seq #[] }).update s.heap.objs.size (Obj.mapSeq (fun _ => (#[] : Array Value))) }) (es := es) (ep := ep) hh (let ⟨o, ho, x⟩ := hv; ⟨o, oth _ _ (Nat.ne_of_lt (Heap.lt_size ho)) ho, x⟩) (hm.at' fun o e => oth d o (Nat.ne_of_lt hd) e) s.heap.objs.size (Nat.ne_of_gt hr) (Nat.ne_of_lt hd) .none c0 hS3 (fun h' tk acc c as hk hS' hl hG hacc => ?_) hn
  refine ⟨rfl, hQ h' tk acc c as (fun b o e => hk b o (Nat.ne_of_lt (Heap.lt_size e)) (oth b o (Nat.ne_of_lt (Heap.lt_size e)) e)) hS' hl (hG.low ?_) hacc⟩
  show s.heap.objs.size ≤ (Heap.update _ _ _).objs.size
  rw [Heap.size_update, Heap.size_push]
  exact Nat.le_succ _
end
end Hm
/-! module HmItems2 -/
set_option maxHeartbeats 4000000
/-! list(d.items()) by values. -/
namespace Hm
open PySem PySem.Spec PyProof.Rows L2 Hc
abbrev DEnt := List L2.Key × V
/-- the pairs of a dict with tuple keys, laid as tuples -/
def EntAt (H : Hp) (ts : List Addr) (kvs : List DEnt) : Prop := ts.length = kvs.length ∧ ∀ (j : Nat) (kv : DEnt) (t : Addr), kvs[j]? = some kv → ts[j]? = some t → ∃ q, H t = some (.tup [.ref q, kv.2]) ∧ H q = some (.tup (kv.1.map kV))
def rListItems : List V → Hp → VK → Prop := fun xs H Q => ∃ (p a : Addr) (kvs : List DEnt), xs = [V.ref p] ∧ H p = some (DX.itemsO p a) ∧ H a = some (.dT kvs) ∧ kvs.length ≤ 1000 ∧
  ∀ (H' : Hp) (l : Addr) (ts : List Addr), H l = none → (∀ b o, H b = some o → H' b = some o) → H' l = some (.lst (ts.map V.ref)) → EntAt H' ts kvs → Q (.ref l) H'
section
variable {X : Cx}
theorem call_listItems (hc : X.calm = true) : CallR X (.type "list") rListItems := by
  intro pins s σ H xs us Q I r h
  obtain ⟨p, a, kvs, rfl, hp, ha, hlen, q⟩ := h
  obtain ⟨u, rfl, rx⟩ := r.one
  cases rx
  have view : s.heap.IsItemsView p a := (show ObjOk X.prog X.w H s.heap p (DX.itemsO p a) from I.hok p _ hp).1
  obtain ⟨z, hd, xs', rel, o, es, ep, ho, hx, hdat, hes, his, hn⟩ := dt_of I.hok ha
  have l1 : kvs.length = xs'.length := Paired.length rel
  have l2 : es.size = xs'.length := size_of_entries hes
  refine list_view (es := es) (ep := ep) (I.ok.hd hc) view ⟨o, ho, hx, hdat⟩ (by rw [sizeLine_eq]; omega) fun h' tk acc c as hk hS hl hG hacc => ?_
  have nd : as.Nodup := List.Pairwise.imp (fun h => Nat.ne_of_lt h) hG.rise
  have lak : as.length = kvs.length := by omega
  have pr : ∀ (j : Nat) (b : Addr), as[j]? = some b → ∃ (kv : DEnt) (kq : Addr) (u : Value), kvs[j]? = some kv ∧ H kq = some (.tup (kv.1.map kV)) ∧ RelV kv.2 u ∧ h'.get? b = some { cls := .type "tuple", data := .seq #[Value.ref kq, u] } := by
    intro j b hj
    obtain ⟨en, he, hg⟩ := hG.pairs j b hj
    rw [entry_at hes j] at he
    cases hxj : xs'[j]? with
    | none =>
      rw [hxj] at he
      exact nomatch (show (none : Option DictEntry) = some en from he)
    | some x =>
      rw [hxj] at he
      have een : entryOfKey (tupleKind (mixKind X.prog X.w)) x = en := Option.some.inj he
      obtain ⟨e0, he0, r1, r2, r3⟩ := DX.pget rel hxj
      refine ⟨e0, x.2.1, x.2.2, he0, r2, r3, ?_⟩
      rw [hg, ← een]
      all_goals rfl
  have I1 : Inv X pins σ H { s with heap := h', toks := tk } := I.kept (t' := tk) hk
  have hn0 : H s.heap.objs.size = none := I.hok.fresh (Nat.le_refl _)
  have rv : Vals (as.map V.ref) acc.toList := by
    rw [hacc]
    exact vals_refs as
  have hz : (as.map V.ref).length ≤ sizeLine := by
    rw [List.length_map, sizeLine_eq]
    omega
  have I2 : Inv X pins σ (upd H s.heap.objs.size (.lst (as.map V.ref))) { s with heap := h', toks := tk } :=
    I1.take (h' := h') (t' := tk) (fun b ob _ e => e) (I.fpOk (Nat.le_refl _) hn0) ⟨hz, acc.toList, c, rv, by rw [Array.toArray_toList]; exact hS⟩
  obtain ⟨H2, I3, g, qt⟩ := DX.takeT (P := fun b vs => ∃ (j : Nat) (kv : DEnt) (kq : Addr), as[j]? = some b ∧ kvs[j]? = some kv ∧ vs = [.ref kq, kv.2] ∧ H kq = some (.tup (kv.1.map kV))) I as _ I2 nd fun b hb => by
    obtain ⟨j, hj⟩ := List.mem_iff_getElem?.mp hb
    obtain ⟨kv, kq, u, he, hkq, hu, hg⟩ := pr j b hj
    have hbl : s.heap.objs.size < b := hG.above b hb
    refine ⟨Nat.le_of_lt hbl, ?_, [.ref kq, kv.2], ⟨j, kv, kq, hj, he, rfl, hkq⟩, fun H3 => ⟨(by rw [sizeLine_eq]; show 2 ≤ 16777216; omega), [Value.ref kq, u], .cons rfl (.cons hu .nil), ⟨_, hg, rfl, 0, rfl⟩⟩⟩
    rw [upd_ne (Nat.ne_of_gt hbl)]
    exact I.hok.fresh (Nat.le_of_lt hbl)
  have gr : ∀ b o, H b = some o → H2 b = some o := fun b o e => g b o (by rw [upd_ne (ne_of_none e hn0)]; exact e)
  refine ⟨.ref s.heap.objs.size, H2, I3, rfl, q H2 s.heap.objs.size as hn0 gr (g _ _ upd_same) ⟨lak, fun j kv t hj ht => ?_⟩⟩
  obtain ⟨vs, ⟨i, kv', kq, i1, i2, ev, hkq⟩, hH⟩ := qt t (List.mem_of_getElem? ht)
  have eij : j = i := (List.getElem?_inj (List.getElem?_eq_some_iff.mp ht).1 nd).mp (ht.trans i1.symm)
  subst eij
  have ee : kv' = kv := Option.some.inj (i2.symm.trans hj)
  subst ee
  rw [ev] at hH
  exact ⟨kq, hH, gr _ _ hkq⟩
end
end Hm
/-! module HmSort -/
set_option maxHeartbeats 4000000
/-! sorted(xs) of items that are data. -/
namespace Hm
open PySem PySem.Spec PyProof.Rows L2 Hc PySem.W
abbrev sorting (xs : List V) (ds : List PyData) : List (V × PyData) := (xs.zip ds).mergeSort (dataLe false fun z : V × PyData => z.2)
def rSortD (K : PySem.W.Frag) : List V → Hp → VK → Prop := fun vs H Q => ∃ (a : Addr) (xs : List V) (ds : List PyData), vs = [V.ref a] ∧ H a = some (.lst xs) ∧ DpAll K H xs ds ∧ AllAlike ds ∧ Sortable ds ∧ xs.length ≤ 1000 ∧ (∀ d ∈ ds, d.depth ≤ 8) ∧
  ∀ p, H p = none → Q (.ref p) (upd H p (.lst ((sorting xs ds).map (·.1))))
theorem dpAll_len {K : PySem.W.Frag} {H : Hp} : ∀ {xs : List V} {ds : List PyData}, DpAll K H xs ds → xs.length = ds.length
  | [], [], _ => rfl
  | _ :: _, _ :: _, .cons _ h => by rw [List.length_cons, List.length_cons, dpAll_len h]
section
variable {X : Cx}
theorem each_zip {pins : List (Addr × Obj)} {σ : L2.St} {H : Hp} {s : Shared} (I : Inv X pins σ H s) : ∀ {xs : List V} {ds : List PyData} {us : List Value}, DpAll X.K H xs ds → Vals xs us → EachIs (fun (v : Value) (b : V × PyData) => RelV b.1 v) us (xs.zip ds) ∧ EachIs (fun (v : Value) (b : V × PyData) => ∃ as, Reads s.heap v b.2 as) us (xs.zip ds)
  | [], [], _, _, .nil => ⟨.nil, .nil⟩
  | x :: xs, d :: ds, _, .cons h1 h2, .cons r1 r2 => by
    obtain ⟨i1, i2⟩ := each_zip I h2 r2
    exact ⟨.cons r1 i1, .cons (Dp.reads I d x _ h1 r1) i2⟩
theorem vals_each : ∀ {us : List Value} {zs : List (V × PyData)}, EachIs (fun (v : Value) (b : V × PyData) => RelV b.1 v) us zs → Vals (zs.map (·.1)) us
  | _, _, .nil => .nil
  | _, _, .cons r h => .cons r (vals_each h)
theorem cr_sortD (hu : X.A.units + 64 < cLine) : CallR X (.builtin "sorted") (rSortD X.K) := by
  intro pins s σ H vs us Q I r h
  obtain ⟨a, xs, ds, rfl, ha, hd, hal, hk, hl, hdep, q⟩ := h
  obtain rfl := Vals.ref1 r
  obtain ⟨z, its, n, rv, hlen, e⟩ := I.lstM ha
  obtain ⟨i1, i2⟩ := each_zip I hd rv
  have lz : (xs.zip ds).map (·.2) = ds := List.map_snd_zip (by rw [dpAll_len hd]; exact Nat.le_refl _)
  have le : (xs.zip ds).length = xs.length := by
    rw [List.length_zip, dpAll_len hd, Nat.min_self]
  refine sorted_data (β := V × PyData) (enc := fun z => z.2) (R := fun v b => RelV b.1 v) (vs := its) (PySem.IsL.isList e) i1 i2 (by rw [lz]; exact hal) (by rw [lz]; exact hk) (by rw [le]; exact (Nat.le_trans hl (by decide))) (fun b hb => ?_) fun out ol oe => ?_
  · have hm : b.2 ∈ ds := by
      rw [← lz]
      exact List.mem_map.mpr ⟨b, hb, rfl⟩
    have := hdep _ hm
    omega
  have rv2 := vals_each oe
  have I1 : Inv X pins σ H { s with heap := sortedAll s.heap its (List.toArray out), toks := s.toks } := I.kept (t' := s.toks) fun b o e => sortedAll_old e
  have hn0 : H (s.heap.objs.size + 1) = none := I.hok.fresh (Nat.le_succ _)
  obtain ⟨c, hc⟩ := sortedAll_at s.heap its (List.toArray out)
  have I2 : Inv X pins σ (upd H (s.heap.objs.size + 1) (.lst ((sorting xs ds).map (·.1)))) { s with heap := sortedAll s.heap its (List.toArray out), toks := s.toks } :=
    I1.take (t' := s.toks) (fun b ob _ e => e) (I.fpOk (Nat.le_succ _) hn0) ⟨by
      rw [List.length_map, List.length_mergeSort, le]
      exact (Nat.le_trans hl (by decide)), out, c, rv2, hc⟩
  exact ⟨.ref (s.heap.objs.size + 1), _, I2, rfl, q _ hn0⟩
end
end Hm
/-! module HmData -/
set_option maxHeartbeats 4000000
/-! Values that are data, each part known; is_door, is_pair over any of them. -/
namespace Hm
open PySem PySem.Spec PyProof.Rows L2 Evl Hc Hs
mutual
inductive Dq (H : Hp) : V → PyData → Prop
  | non : Dq H .non .none
  | bl (b : Bool) : Dq H (.bl b) (.bool b)
  | int (i : Int) : Dq H (.int i) (.int i)
  | str (L : List Nat) (h : L.length ≤ 100) (g : PyData.canLay0 (.str (S L)) = true) : Dq H (.str (S L)) (.str (S L))
  | lst {a : Addr} {xs : List V} {ds : List PyData} : H a = some (.lst xs) → DqAll H xs ds → Dq H (.ref a) (.list ds)
  | tup {a : Addr} {xs : List V} {ds : List PyData} : H a = some (.tup xs) → DqAll H xs ds → Dq H (.ref a) (.tuple ds)
inductive DqAll (H : Hp) : List V → List PyData → Prop
  | nil : DqAll H [] []
  | cons {v : V} {vs : List V} {d : PyData} {ds : List PyData} : Dq H v d → DqAll H vs ds → DqAll H (v :: vs) (d :: ds)
end
mutual
theorem Dq.ex {H H' : Hp} (e : Ex H H') : ∀ {d : PyData} {v : V}, Dq H v d → Dq H' v d
  | _, _, .non => .non
  | _, _, .bl b => .bl b
  | _, _, .int i => .int i
  | _, _, .str L h g => .str L h g
  | _, _, .lst h1 h2 => .lst (e _ _ h1) (DqAll.ex e h2)
  | _, _, .tup h1 h2 => .tup (e _ _ h1) (DqAll.ex e h2)
theorem DqAll.ex {H H' : Hp} (e : Ex H H') : ∀ {ds : List PyData} {vs : List V}, DqAll H vs ds → DqAll H' vs ds
  | _, _, .nil => .nil
  | _, _, .cons h1 h2 => .cons (Dq.ex e h1) (DqAll.ex e h2)
end
mutual
theorem Dq.dp {K : PySem.W.Frag} {H : Hp} : ∀ {d : PyData} {v : V}, Dq H v d → Dp K H v d
  | _, _, .non => .non
  | _, _, .bl b => .bl b
  | _, _, .int i => .int i
  | _, _, .str L h g => .str _
  | _, _, .lst h1 h2 => .lst (sq_of h1) (DqAll.dp h2)
  | _, _, .tup h1 h2 => .tup (st_of h1) (DqAll.dp h2)
theorem DqAll.dp {K : PySem.W.Frag} {H : Hp} : ∀ {ds : List PyData} {vs : List V}, DqAll H vs ds → DpAll K H vs ds
  | _, _, .nil => .nil
  | _, _, .cons h1 h2 => .cons (Dq.dp h1) (DqAll.dp h2)
end
mutual
theorem Dq.lay {H : Hp} : ∀ {d : PyData} {v : V}, Dq H v d → d.canLay0 = true
  | _, _, .non => by simp only [PyData.canLay0]
  | _, _, .bl b => by simp only [PyData.canLay0]
  | _, _, .int i => by simp only [PyData.canLay0]
  | _, _, .str L h g => by exact g
  | _, _, .lst h1 h2 => by simp only [PyData.canLay0]; exact DqAll.lay h2
  | _, _, .tup h1 h2 => by simp only [PyData.canLay0]; exact DqAll.lay h2
theorem DqAll.lay {H : Hp} : ∀ {ds : List PyData} {vs : List V}, DqAll H vs ds → PyData.canLayAll0 ds = true
  | _, _, .nil => by simp only [PyData.canLayAll0]
  | _, _, .cons h1 h2 => by simp only [PyData.canLayAll0, Dq.lay h1, DqAll.lay h2]; rfl
end
theorem DqAll.len {H : Hp} : ∀ {ds : List PyData} {vs : List V}, DqAll H vs ds → vs.length = ds.length
  | _, _, .nil => rfl
  | _, _, .cons _ h => by rw [List.length_cons, List.length_cons, DqAll.len h]
theorem depth_mem {d : PyData} : ∀ {ds : List PyData}, d ∈ ds → d.depth ≤ PyData.depthAll ds
  | x :: xs, h => by
    show d.depth ≤ max x.depth (PyData.depthAll xs)
    rcases List.mem_cons.mp h with rfl | h
    · exact Nat.le_max_left _ _
    · exact Nat.le_trans (depth_mem h) (Nat.le_max_right _ _)
theorem depth_tup {ds : List PyData} {n : Nat} (h : (PyData.tuple ds).depth ≤ n) {d : PyData} (hd : d ∈ ds) : d.depth ≤ n := by
  have h' : PyData.depthAll ds + 1 ≤ n := h
  have := depth_mem hd
  omega
theorem Dq.shaped {H : Hp} {d : PyData} {v : V} (h : Dq H v d) (hd : d.depth ≤ 8) : SeqAt.shaped d = true := by
  unfold SeqAt.shaped
  rw [h.lay, decide_eq_true (by omega)]
  rfl
def tyD : PyData → String
  | .none => "NoneType"
  | .bool _ => "bool"
  | .int _ => "int"
  | .str _ => "str"
  | .list _ => "list"
  | .tuple _ => "tuple"
  | .dict _ => "dict"
theorem Dq.ty {K : PySem.W.Frag} {H : Hp} {d : PyData} {v : V} (h : Dq H v d) : TyX K H v (.type (tyD d)) := by
  cases h with
  | non => exact .base .non
  | bl b => exact .base (.bl b)
  | int i => exact .base (.int i)
  | str L h g => exact .base (.str _)
  | lst h1 h2 => exact .base (.lst h1)
  | tup h1 h2 => exact .base (.tup h1)
theorem Dq.zty {H : Hp} {d : PyData} {v : V} (h : Dq H v d) : zTyV v H = some (tyD d) := by
  cases h with
  | non => rfl
  | bl b => rfl
  | int i => rfl
  | str L h g => rfl
  | lst h1 h2 => show (match H _ with | some (.lst _) => some "list" | some (.tup _) => some "tuple" | _ => none) = _; rw [h1]; rfl
  | tup h1 h2 => show (match H _ with | some (.lst _) => some "list" | some (.tup _) => some "tuple" | _ => none) = _; rw [h1]; rfl
def isT : PyData → Bool
  | .tuple _ => true
  | _ => false
def isS : PyData → Bool
  | .str _ => true
  | _ => false
def isI : PyData → Bool
  | .int _ => true
  | _ => false
theorem kit_T {H : Hp} {d : PyData} {v : V} (h : Dq H v d) : kitB (tyD d) "tuple" = some (isT d) := by
  cases h <;> first | rfl | decide +kernel
theorem kit_S {H : Hp} {d : PyData} {v : V} (h : Dq H v d) : kitB (tyD d) "str" = some (isS d) := by
  cases h <;> first | rfl | decide +kernel
theorem ty_I {H : Hp} {d : PyData} {v : V} (h : Dq H v d) : decide (tyD d = "int") = isI d := by
  cases h <;> first | rfl | decide +kernel
end Hm
/-! module HmDoor -/
set_option maxHeartbeats 4000000
/-! is_door, is_pair over any data. -/
namespace Hm
open PySem PySem.Spec PyProof.Rows L2 Evl Hc Hs
def ways : List (List Nat) := [[98, 97, 99, 107], [105, 110], [111, 117, 116], [114, 101, 115, 117, 108, 116]]
def resW : List Nat := [114, 101, 115, 117, 108, 116]
def txD : PyData → List Nat
  | .str s => s.cps.toList
  | _ => []
def nuD : PyData → Int
  | .int i => i
  | _ => 0
def wayIn (d : PyData) : Bool := isS d && ways.contains (txD d)
def isRes (d : PyData) : Bool := isS d && decide (txD d = resW)
def isDoorD : PyData → Bool
  | .tuple [m, w, a] => (isS m && (isWord (txD m) && (wayIn w && isI a))) && ((decide (-1 ≤ nuD a) && decide (nuD a ≤ 2)) && (decide (nuD a = -1) == isRes w))
  | _ => false
def isPairD : PyData → Bool
  | .tuple [d, n] => isDoorD d && (isI n && (decide (1 ≤ nuD n) && decide (nuD n ≤ 3)))
  | _ => false
structure DoorP (K : PySem.W.Frag) (mg : Str → Option Value) : Prop where
  isi : mg "isinstance" = none
  tup : mg "tuple" = none
  str : mg "str" = none
  int : mg "int" = none
  ty : mg "type" = none
  len : mg "len" = none
  ws : ∃ r, mg "WAYS" = some (.ref r) ∧ ∀ H, SqT K H r (ways.map fun x => V.str (S x))
  np : ∃ t, mg "NO_PARAMETER" = some (.int (-1) t)
  mp : ∃ t, mg "MOST_PARAMETER" = some (.int 2 t)
  mf : ∃ t, mg "MOST_FLOORS" = some (.int 3 t)
  re : ∃ t, mg "RESULT" = some (.str (S resW) t)
theorem q_asgG {te : TE} {tz : TS} {g : TG} {D : Ends} {σ : L2.St} {H : Hp} (h : te σ H fun v H1 => g v σ H1 fun σ2 H2 => tz D σ2 H2) : tSeq (tAsg te g) tz D σ H := h
theorem Dq.isT {H : Hp} {d : PyData} {v : V} (h : Dq H v d) (ht : isT d = true) : ∃ a xs ds, v = .ref a ∧ d = .tuple ds ∧ H a = some (.tup xs) ∧ DqAll H xs ds := by
  cases h with
  | tup h1 h2 => exact ⟨_, _, _, rfl, rfl, h1, h2⟩
  | _ => cases ht
theorem Dq.isS {H : Hp} {d : PyData} {v : V} (h : Dq H v d) (ht : Hm.isS d = true) : ∃ L, v = .str (S L) ∧ d = .str (S L) ∧ L.length ≤ 100 := by
  cases h with
  | str L h g => exact ⟨_, rfl, rfl, h⟩
  | _ => cases ht
theorem Dq.isI {H : Hp} {d : PyData} {v : V} (h : Dq H v d) (ht : Hm.isI d = true) : ∃ i, v = .int i ∧ d = .int i := by
  cases h with
  | int i => exact ⟨_, rfl, rfl⟩
  | _ => cases ht
theorem units65 {k : Nat} {A : Around} (r : Room k A) : A.units + 65 < cLine := by have := r.un; omega
theorem boot_tupT : bootBuiltins "tuple" = some (.type "tuple") := by decide +kernel
theorem boot_strT : bootBuiltins "str" = some (.type "str") := by decide +kernel
theorem boot_intT : bootBuiltins "int" = some (.type "int") := by decide +kernel
def rNotInT (K : PySem.W.Frag) : R2 := fun x y H Q => ∃ d ds, Dp K H x d ∧ Dp K H y (.tuple ds) ∧ SeqAt.shaped d = true ∧ SeqAt.shaped (.tuple ds) = true ∧ Q (.bl (!ds.any fun z => PyData.eqv z d)) H
theorem op_notInT {X : Cx} (hu : X.A.units + 65 < cLine) : OpR X (compareOp .NotIn) (rNotInT X.K) := by
  intro pins s σ H x y v u Q I rx ry h
  obtain ⟨d, ds, hd, he, sd, se, q⟩ := h
  obtain ⟨as, r1⟩ := Dp.reads I d x v hd rx
  obtain ⟨bs, r2⟩ := Dp.reads I (.tuple ds) y u he ry
  exact SeqAt.notIn_tuple_reads r2 r1 (SeqAt.canLay_of_shaped se) (SeqAt.canLay_of_shaped sd) (room_in_shaped sd hu) ⟨.bl _, H, I, rfl, q⟩
theorem dpWays {K : PySem.W.Frag} {H : Hp} : ∀ (Ls : List (List Nat)), DpAll K H (Ls.map fun x => V.str (S x)) (Ls.map fun x => PyData.str (S x))
  | [] => .nil
  | x :: xs => .cons (.str _) (dpWays xs)
theorem any_way {H : Hp} {d : PyData} {v : V} (h : Dq H v d) : ∀ (Ls : List (List Nat)), ((Ls.map fun x => PyData.str (S x)).any fun z => PyData.eqv z d) = (isS d && Ls.contains (txD d))
  | [] => by simp
  | M :: Ms => by
    rw [List.map_cons, List.any_cons, any_way h Ms, List.contains_cons]
    cases h with
    | str L h g =>
      have e : PyData.eqv (.str (S M)) (.str (S L)) = (L == M) := by
        show (S M == S L) = (L == M)
        rw [Bool.eq_iff_iff, beq_iff_eq, beq_iff_eq]
        exact ⟨fun z => (S_inj z).symm, fun z => z ▸ rfl⟩
      rw [e]
      rfl
    | non => rfl
    | bl b => rfl
    | int i => rfl
    | lst h1 h2 => rfl
    | tup h1 h2 => rfl
def spDoor : Sp := fun vs H Q _ => ∃ v d, vs = [v] ∧ Dq H v d ∧ d.depth ≤ 8 ∧ ∀ H', Ex H H' → Q (.bl (isDoorD d)) H'
def spPair : Sp := fun vs H Q _ => ∃ v d, vs = [v] ∧ Dq H v d ∧ d.depth ≤ 8 ∧ ∀ H', Ex H H' → Q (.bl (isPairD d)) H'
theorem sp_door {H : Hp} {v : V} {d : PyData} (h : Dq H v d) (hd : d.depth ≤ 8) : SpV spDoor ([v] ++ []) H (.bl (isDoorD d)) := fun H1 e Q q E => ⟨v, d, rfl, h.ex e, hd, fun H' ex => q H' ex⟩
theorem sp_pair {H : Hp} {v : V} {d : PyData} (h : Dq H v d) (hd : d.depth ≤ 8) : SpV spPair ([v] ++ []) H (.bl (isPairD d)) := fun H1 e Q q E => ⟨v, d, rfl, h.ex e, hd, fun H' ex => q H' ex⟩
abbrev nDoor : List Str := ["door", "method", "way", "at"]
theorem scDoor : FnScope nDoor ["door"] (defScope sDoor) := ⟨rfl, rfl, rfl, by decide +kernel, rfl, by decide +kernel, by decide +kernel⟩
abbrev nPair : List Str := ["pair", "door", "many"]
theorem scPair : FnScope nPair ["pair"] (defScope sPair) := ⟨rfl, rfl, rfl, by decide +kernel, rfl, by decide +kernel, by decide +kernel⟩
theorem ev_isiD {K : PySem.W.Frag} {σ : L2.St} {H : Hp} {te tc : TE} {x : V} {d : PyData} {n : String} {b : Bool} (h : Ev te σ H x) (hc : Ev tc σ H (.ty n)) (hd : Dq H x d) (hk : kitB (tyD d) n = some b) : Ev (tCB (rIsi K) (tCons te (tCons tc tNil))) σ H (.bl b) :=
  ev_cb (ea_cons h (ea_cons hc ea_nil)) fun H1 e Q q => ⟨x, .ty n, _, _, b, rfl, .ty n, (hd.ex e).ty, kit_ty hk, q H1 (Ex.refl H1)⟩
theorem ev_lenT {K : PySem.W.Frag} {σ : L2.St} {H : Hp} {te : TE} {p : Addr} {xs : List V} (h : Ev te σ H (.ref p)) (hp : SqT K H p xs) : Ev (tCB (rLenS K) (tCons te tNil)) σ H (.int (xs.length : Int)) := fun H1 e Q q =>
  h H1 e _ fun H2 e2 => ⟨p, xs, rfl, .inr (ex_t (e.trans e2) hp), q H2 e2⟩
theorem ev_tyD {σ : L2.St} {H : Hp} {te : TE} {x : V} {d : PyData} (h : Ev te σ H x) (hd : Dq H x d) : Ev (tThenZ te kTyp) σ H (.ty (tyD d)) := fun H1 e Q q =>
  h H1 e _ fun H2 e2 => ⟨_, (hd.ex (e.trans e2)).zty, q H2 e2⟩
theorem rv_isNotTy {H : Hp} {m n : String} : RV (fun x y H Q => ∃ m n, x = .ty m ∧ y = .ty n ∧ Q (.bl (!decide (m = n))) H) (.ty m) (.ty n) H (.bl (!decide (m = n))) := fun H1 _ _ q => ⟨m, n, rfl, rfl, q H1 (Ex.refl H1)⟩
theorem rv_isTy {H : Hp} {m n : String} : RV (fun x y H Q => ∃ m n, x = .ty m ∧ y = .ty n ∧ Q (.bl (decide (m = n))) H) (.ty m) (.ty n) H (.bl (decide (m = n))) := fun H1 _ _ q => ⟨m, n, rfl, rfl, q H1 (Ex.refl H1)⟩
section
variable {P : Program} {w : World} {K : PySem.W.Frag} {mg : Str → Option Value} {base : Heap}
theorem ok_door {f : Addr} {fd : FuncData} {k : Nat} (F : Fun K "is_door" "is_door" sDoor f fd) (T : DoorP K mg) (rW : Hs.Rd P w K mg base "is_word" k ["text"] spWord) : FnOk P w K mg base CX0 (k + 1) f fd ["door"] spDoor := by
  refine F.ok scDoor (fun vs H Q E h => ?_) (fun cdv A outer s H vs Q E hr h => ?_)
  · obtain ⟨v, d, rfl, _⟩ := h
    rfl
  · obtain ⟨v, d, rfl, hd, hdep, q⟩ := h
    obtain ⟨rw, gW, hW⟩ := T.ws
    obtain ⟨t1, g1⟩ := T.np
    obtain ⟨t2, g2⟩ := T.mp
    obtain ⟨t3, g3⟩ := T.re
    refine ⟨_, pss_cons (ps_if (PW.pt (pw_or (pt_not (pt_val (pe_callB call_isi (by rfl) T.isi boot_isinstance (pa_cons (pv 0) (pa_cons (pe_bltn (v := .ty "tuple") (by rfl) T.tup boot_tupT rfl) pa_nil))))) (pw_or1 (pt_cmpR op_ne (pe_callB (show CallR _ (.builtin "len") (rLenS K) from call_len_seq) (by rfl) T.len PySem.boot_len (pa_cons (pv 0) pa_nil)) pe_int (nomark _))))) (pss_one (ps_ret pe_bl)) pss_nil)
      (pss_cons (ps_asg (pv 0) (pg_tup (by rfl) (pgs_cons (pg_name (i := 1) scDoor.nd rfl (.inl rfl)) (pgs_cons (pg_name (i := 2) scDoor.nd rfl (.inl rfl)) (pgs_cons (pg_name (i := 3) scDoor.nd rfl (.inl rfl)) pgs_nil)))))
      (pss_cons (ps_if (PW.pt (pw_or (pt_not (pt_val (pe_callB call_isi (by rfl) T.isi boot_isinstance (pa_cons (pv 1) (pa_cons (pe_bltn (v := .ty "str") (by rfl) T.str boot_strT rfl) pa_nil)))))
        (pw_or (pt_not (pt_val (pe_rd rW hr (Nat.le_refl _) (by rfl) (pa_cons (pv 1) pa_nil))))
        (pw_or (pt_cmpR (op_notInT (units65 hr)) (pv 2) (pe_glob (v := .ref rw) (by rfl) gW rfl) (by rfl))
        (pw_or1 (pt_cmpR op_isNotTy (pe_typeOf (by rfl) T.ty (pv 3)) (pe_bltn (v := .ty "int") (by rfl) T.int boot_intT rfl) (nomark _))))))) (pss_one (ps_ret pe_bl)) pss_nil)
      (pss_one (ps_ret (pe_and (pe_chain op_le op_le (pe_glob (v := .int (-1)) (by rfl) g1 ⟨_, rfl⟩) (pv 3) (pe_glob (v := .int 2) (by rfl) g2 ⟨_, rfl⟩))
        (pe_one (pe_cmpR op_eq (pe_cmpR op_eq (pv 3) (pe_glob (v := .int (-1)) (by rfl) g1 ⟨_, rfl⟩) (nomark _)) (pe_cmpR op_eq (pv 2) (pe_glob (v := .str (S resW)) (by rfl) g3 ⟨_, rfl⟩) (nomark _)) (nomark _)))))))), ?_⟩
    cases hT : isT d with
    | false =>
      have e : isDoorD d = false := by
        cases d <;> first | rfl | cases hT
      refine q_when (b := true) (et_is (et_or (b := true) (et_not (et_B (ev_isiD (ev_var rfl) ev_c hd (kit_T hd)))) fun z => by rw [hT] at z; cases z) (by rw [hT]; rfl)) (fun _ H1 e1 => ?_) fun z => nomatch z
      refine s_ret ev_c fun H2 e2 => ?_
      have z := q H2 (e1.trans e2)
      rw [e] at z
      exact z
    | true =>
      obtain ⟨a, xs, ds, rfl, rfl, h1, h2⟩ := hd.isT hT
      have hl0 := h2.len
      by_cases hl : ds.length = 3
      · match ds, xs, h2, hl with
        | [m, wy, at_], [vm, vw, va], .cons dm (.cons dw (.cons da .nil)), _ =>
        have pm : m.depth ≤ 8 := depth_tup hdep (by simp)
        have pw : wy.depth ≤ 8 := depth_tup hdep (by simp)
        refine q_when (b := false) (et_is (et_or (et_not (et_B (ev_isiD (ev_var rfl) ev_c (.tup h1 (.cons dm (.cons dw (.cons da .nil)))) (kit_T (.tup h1 (.cons dm (.cons dw (.cons da .nil)))))))) fun _ => et_test (ev_op (ev_lenT (xs := [vm, vw, va]) (ev_var rfl) (st_of h1)) ev_c (rv_ne rfl))) (by rfl)) (fun z => nomatch z) fun _ H1 e1 => ?_
        refine q_asgG ?_
        refine ⟨_, rfl, a, _, rfl, st_of (e1 _ _ h1), rfl, _, _, rfl, _, _, rfl, _, _, rfl, rfl, ?_⟩
        show tSeq _ _ _ [some (.ref a), some vm, some vw, some va] H1
        have dm1 := dm.ex e1
        have dw1 := dw.ex e1
        have da1 := da.ex e1
        have et : EvT (tOr (tNot (tB (tCB (rIsi K) (tCons (tVar 1) (tCons (tC (.ty "str")) tNil))))) (tOr (tNot (tB (tCall spWord [] E0 (tCons (tVar 1) tNil)))) (tOr (tTest (tOp (rNotInT K) (tVar 2) (tC (.ref rw)))) (tTest (tOp (fun x y H Q => ∃ m n, x = .ty m ∧ y = .ty n ∧ Q (.bl (!decide (m = n))) H) (tThenZ (tVar 3) kTyp) (tC (.ty "int"))))))) [some (.ref a), some vm, some vw, some va] H1 (!(isS m && (isWord (txD m) && (wayIn wy && isI at_)))) := by
          refine et_is (et_or (b := !(isWord (txD m) && (wayIn wy && isI at_))) (et_not (et_B (ev_isiD (ev_var rfl) ev_c dm1 (kit_S dm1)))) fun zm => ?_) ?_
          · have sm : isS m = true := by cases hs : isS m <;> rw [hs] at zm <;> first | rfl | cases zm
            obtain ⟨L, rfl, rfl, hL⟩ := dm1.isS sm
            refine et_is (et_or (et_not (et_B (ev_call (ea_cons (ev_var rfl) ea_nil) (sp_word (Nat.le_trans hL (by decide)))))) fun _ => et_or (et_test (ev_op (ev_var rfl) ev_c (z := .bl (!wayIn wy)) ?_)) fun _ => et_test (ev_op (ev_tyD (ev_var rfl) da1) ev_c rv_isNotTy)) ?_
            · intro H2 e2 Q q
              refine ⟨wy, ways.map fun x => PyData.str (S x), (dw1.ex e2).dp, .tup (hW H2) (dpWays ways), dw1.shaped pw, by decide +kernel, ?_⟩
              rw [any_way dw1]
              exact q H2 (Ex.refl H2)
            · rw [ty_I da1]
              show (!isWord L || (!wayIn wy || !isI at_)) = !(isWord L && (wayIn wy && isI at_))
              cases isWord L <;> cases wayIn wy <;> cases isI at_ <;> rfl
          · cases isS m <;> cases isWord (txD m) <;> cases wayIn wy <;> cases isI at_ <;> rfl
        refine q_when et (fun hb H2 e2 => ?_) fun hb H2 e2 => ?_
        · refine s_ret ev_c fun H3 e3 => ?_
          have z := q H3 ((e1.trans e2).trans e3)
          have e : isDoorD (.tuple [m, wy, at_]) = false := by
            show ((isS m && (isWord (txD m) && (wayIn wy && isI at_))) && _) = false
            rw [Bool.not_eq_true'] at hb
            rw [hb]
            rfl
          rw [e] at z
          exact z
        · rw [Bool.not_eq_false'] at hb
          have e : isDoorD (.tuple [m, wy, at_]) = ((decide (-1 ≤ nuD at_) && decide (nuD at_ ≤ 2)) && (decide (nuD at_ = -1) == isRes wy)) := by
            show ((isS m && (isWord (txD m) && (wayIn wy && isI at_))) && _) = _
            rw [hb]
            rfl
          simp only [Bool.and_eq_true] at hb
          obtain ⟨hb1, hb2, hb3, hb4⟩ := hb
          have hws : isS wy = true := by
            unfold wayIn at hb3
            exact (Bool.and_eq_true_iff.mp hb3).1
          obtain ⟨L, rfl, rfl, hL⟩ := dw1.isS hws
          obtain ⟨i, rfl, rfl⟩ := da1.isI hb4
          refine s_ret (ev_andV (ev_chainI ev_c (ev_var rfl) ev_c) fun _ => ev_op (ev_eqI (ev_var rfl) ev_c) (ev_eqS (ev_var rfl) ev_c) (rv_eq rfl)) fun H3 e3 => ?_
          have z := q H3 ((e1.trans e2).trans e3)
          rw [e] at z
          have e4 : decide (V.bl (decide (i = -1)) = V.bl (decide (L = resW))) = (decide (nuD (.int i) = -1) == isRes (.str (S L))) := by
            show _ = (decide (i = -1) == (true && decide (L = resW)))
            rw [Bool.true_and]
            cases decide (i = -1) <;> cases decide (L = resW) <;> rfl
          rw [e4]
          exact z
      · have e : isDoorD (.tuple ds) = false := by
          match ds, hl with
          | [], _ => rfl
          | [_], _ => rfl
          | [_, _], _ => rfl
          | [_, _, _], z => exact absurd rfl z
          | _ :: _ :: _ :: _ :: _, _ => rfl
        refine q_when (b := true) (et_is (et_or (et_not (et_B (ev_isiD (ev_var rfl) ev_c (.tup h1 h2) (kit_T (.tup h1 h2))))) fun _ => et_test (ev_op (ev_lenT (xs := xs) (ev_var rfl) (st_of h1)) ev_c (rv_ne rfl))) (by
          rw [dec_I, decide_eq_false (by omega)]
          rfl)) (fun _ H1 e1 => ?_) fun z => nomatch z
        refine s_ret ev_c fun H2 e2 => ?_
        have z := q H2 (e1.trans e2)
        rw [e] at z
        exact z
end
end Hm
/-! module HmPair -/
set_option maxHeartbeats 4000000
/-! is_pair. -/
namespace Hm
open PySem PySem.Spec PyProof.Rows L2 Evl Hc Hs
section
variable {P : Program} {w : World} {K : PySem.W.Frag} {mg : Str → Option Value} {base : Heap}
theorem ok_pair {f : Addr} {fd : FuncData} {k : Nat} (F : Fun K "is_pair" "is_pair" sPair f fd) (T : DoorP K mg) (rD : Hs.Rd P w K mg base "is_door" k ["door"] spDoor) : FnOk P w K mg base CX0 (k + 1) f fd ["pair"] spPair := by
  refine F.ok scPair (fun vs H Q E h => ?_) (fun cdv A outer s H vs Q E hr h => ?_)
  · obtain ⟨v, d, rfl, _⟩ := h
    rfl
  · obtain ⟨v, d, rfl, hd, hdep, q⟩ := h
    obtain ⟨t2, g2⟩ := T.mf
    refine ⟨_, pss_cons (ps_if (PW.pt (pw_or (pt_not (pt_val (pe_callB call_isi (by rfl) T.isi boot_isinstance (pa_cons (pv 0) (pa_cons (pe_bltn (v := .ty "tuple") (by rfl) T.tup boot_tupT rfl) pa_nil))))) (pw_or1 (pt_cmpR op_ne (pe_callB (show CallR _ (.builtin "len") (rLenS K) from call_len_seq) (by rfl) T.len PySem.boot_len (pa_cons (pv 0) pa_nil)) pe_int (nomark _))))) (pss_one (ps_ret pe_bl)) pss_nil)
      (pss_cons (ps_asg (pv 0) (pg_tup (by rfl) (pgs_cons (pg_name (i := 1) scPair.nd rfl (.inl rfl)) (pgs_cons (pg_name (i := 2) scPair.nd rfl (.inl rfl)) pgs_nil))))
      (pss_one (ps_ret (pe_and (pe_rd rD hr (Nat.le_refl _) (by rfl) (pa_cons (pv 1) pa_nil)) (pe_and (pe_cmpR op_isTy (pe_typeOf (by rfl) T.ty (pv 2)) (pe_bltn (v := .ty "int") (by rfl) T.int boot_intT rfl) (nomark _))
        (pe_one (pe_chain op_le op_le pe_int (pv 2) (pe_glob (v := .int 3) (by rfl) g2 ⟨_, rfl⟩)))))))), ?_⟩
    cases hT : isT d with
    | false =>
      have e : isPairD d = false := by
        cases d <;> first | rfl | cases hT
      refine q_when (b := true) (et_is (et_or (b := true) (et_not (et_B (ev_isiD (ev_var rfl) ev_c hd (kit_T hd)))) fun z => by rw [hT] at z; cases z) (by rw [hT]; rfl)) (fun _ H1 e1 => ?_) fun z => nomatch z
      refine s_ret ev_c fun H2 e2 => ?_
      have z := q H2 (e1.trans e2)
      rw [e] at z
      exact z
    | true =>
      obtain ⟨a, xs, ds, rfl, rfl, h1, h2⟩ := hd.isT hT
      have hl0 := h2.len
      by_cases hl : ds.length = 2
      · match ds, xs, h2, hl with
        | [m, n], [vm, vn], .cons dm (.cons dn .nil), _ =>
        have pm : m.depth ≤ 8 := depth_tup hdep (by simp)
        refine q_when (b := false) (et_is (et_or (et_not (et_B (ev_isiD (ev_var rfl) ev_c (.tup h1 (.cons dm (.cons dn .nil))) (kit_T (.tup h1 (.cons dm (.cons dn .nil))))))) fun _ => et_test (ev_op (ev_lenT (xs := [vm, vn]) (ev_var rfl) (st_of h1)) ev_c (rv_ne rfl))) (by rfl)) (fun z => nomatch z) fun _ H1 e1 => ?_
        refine q_asgG ?_
        refine ⟨_, rfl, a, _, rfl, st_of (e1 _ _ h1), rfl, _, _, rfl, _, _, rfl, rfl, ?_⟩
        show tRet _ _ [some (.ref a), some vm, some vn] H1
        have dm1 := dm.ex e1
        have dn1 := dn.ex e1
        have ev : Ev (tAndV (tCall spDoor [] E0 (tCons (tVar 1) tNil)) (tAndV (tOp (fun x y H Q => ∃ m n, x = .ty m ∧ y = .ty n ∧ Q (.bl (decide (m = n))) H) (tThenZ (tVar 2) kTyp) (tC (.ty "int"))) (tChain (rI0 fun i j => V.bl (decide (i ≤ j))) (rI0 fun i j => V.bl (decide (i ≤ j))) (tC (.int 1)) (tVar 2) (tC (.int 3))))) [some (.ref a), some vm, some vn] H1 (.bl (isDoorD m && (isI n && (decide (1 ≤ nuD n) && decide (nuD n ≤ 3))))) := by
          refine ev_andV (ev_call (ea_cons (ev_var rfl) ea_nil) (sp_door dm1 pm)) fun _ => ev_andV (Evl.ev_is (ev_op (ev_tyD (ev_var rfl) dn1) ev_c rv_isTy) (by rw [ty_I dn1])) fun hi => ?_
          obtain ⟨i, rfl, rfl⟩ := dn1.isI hi
          exact ev_chainI ev_c (ev_var rfl) ev_c
        exact s_ret ev fun H3 e3 => q H3 (e1.trans e3)
      · have e : isPairD (.tuple ds) = false := by
          match ds, hl with
          | [], _ => rfl
          | [_], _ => rfl
          | [_, _], z => exact absurd rfl z
          | _ :: _ :: _ :: _, _ => rfl
        refine q_when (b := true) (et_is (et_or (et_not (et_B (ev_isiD (ev_var rfl) ev_c (.tup h1 h2) (kit_T (.tup h1 h2))))) fun _ => et_test (ev_op (ev_lenT (xs := xs) (ev_var rfl) (st_of h1)) ev_c (rv_ne rfl))) (by
          rw [dec_I, decide_eq_false (by omega)]
          rfl)) (fun _ H1 e1 => ?_) fun z => nomatch z
        refine s_ret ev_c fun H2 e2 => ?_
        have z := q H2 (e1.trans e2)
        rw [e] at z
        exact z
end
end Hm
/-! module HwText -/
set_option maxHeartbeats 4000000
/-! text.removeprefix(text), text.startswith(text). -/
namespace Hs
open PySem PySem.Spec PyProof.Rows L2 Evl Hc
def startsL (a b : List Nat) : Bool := decide (b.length ≤ a.length) && (a.take b.length == b)
def removePre (a b : List Nat) : List Nat := if startsL a b then a.drop b.length else a
theorem startswith_S (a b : List Nat) : Txt.startswith (S a) (S b) = startsL a b := by
  unfold Txt.startswith startsL
  rw [StrLaws.subAt_eq, S_len, S_len, Nat.zero_add]
  show (decide (b.length ≤ a.length) && ((a.drop 0).take b.length == b)) = _
  rw [List.drop_zero]
theorem removeprefix_S (a b : List Nat) : Txt.removeprefix (S a) (S b) = S (removePre a b) := by
  have e := startswith_S a b
  unfold Txt.startswith at e
  rw [PySem.StrLaws.removeprefix_eq, e]
  unfold removePre
  by_cases h : startsL a b = true
  · rw [if_pos h, if_pos h, S_len, S_len]
    congr 2
    show (a.drop b.length).take (a.length - b.length) = a.drop b.length
    rw [List.take_of_length_le (by rw [List.length_drop]; exact Nat.le_refl _)]
  · rw [if_neg h, if_neg h]
theorem ev_removePre {σ : L2.St} {H : Hp} {to te : TE} {L M : List Nat} (hL : L.length ≤ cap) (h1 : Ev to σ H (.str (S L))) (h2 : Ev te σ H (.str (S M))) :
    Ev (tM1 (fun x xs H Q => ∃ a b, x = .str a ∧ xs = [.str b] ∧ a.length ≤ sizeLine ∧ Q (.str (Txt.removeprefix a b)) H) to te) σ H (.str (S (removePre L M))) :=
  ev_m1 h1 h2 fun H1 Q q => ⟨S L, S M, rfl, rfl, by rw [S_len]; exact cap_line hL, by rw [removeprefix_S]; exact q⟩
theorem ev_startsS {σ : L2.St} {H : Hp} {to te : TE} {L M : List Nat} (h1 : Ev to σ H (.str (S L))) (h2 : Ev te σ H (.str (S M))) :
    Ev (tM1 (fun x xs H Q => ∃ a b, x = .str a ∧ xs = [.str b] ∧ Q (.bl (Txt.startswith a b)) H) to te) σ H (.bl (startsL L M)) := ev_m1 h1 h2 fun H1 Q q => ⟨S L, S M, rfl, rfl, by rw [startswith_S]; exact q⟩
end Hs
/-! module HyMath -/
set_option maxHeartbeats 4000000
/-! The merge of rows and the orders of classes. -/
namespace Hy
section
variable {α : Type} [DecidableEq α]
abbrev Rows (α : Type) := List (List α)
/-- whether x stands in no row behind the first place -/
def freeIn (rs : Rows α) (x : α) : Bool := rs.all fun r => !decide (x ∈ r.tail)
def heads (rs : Rows α) : List α := rs.filterMap List.head?
def nextOf (rs : Rows α) : Option α := (heads rs).find? (freeIn rs)
def cutRow (t : α) (r : List α) : List α := if r.head? = some t then r.tail else r
def full (rs : Rows α) : Rows α := rs.filter fun r => !r.isEmpty
def cut (t : α) (rs : Rows α) : Rows α := full (rs.map (cutRow t))
def total (rs : Rows α) : Nat := (rs.map List.length).sum
/-- the merge of full rows -/
def mergeN : Nat → Rows α → Option (List α)
  | 0, _ => some []
  | n + 1, rs => if rs = [] then some [] else match nextOf rs with
    | none => none
    | some t => (mergeN n (cut t rs)).map (t :: ·)
def merge (rs : Rows α) : Option (List α) := mergeN (total (full rs)) (full rs)

theorem mem_full {rs : Rows α} {r : List α} : r ∈ full rs ↔ r ∈ rs ∧ r ≠ [] := by
  unfold full
  rw [List.mem_filter]
  cases r <;> simp
theorem full_full (rs : Rows α) : full (full rs) = full rs := by
  unfold full
  rw [List.filter_filter]
  congr 1
  funext r
  simp
theorem full_cut (t : α) (rs : Rows α) : full (cut t rs) = cut t rs := full_full _
theorem total_full : ∀ rs : Rows α, total (full rs) = total rs
  | [] => rfl
  | r :: rs => by
    have ih := total_full rs
    unfold total full at *
    cases r with
    | nil =>
      rw [List.filter_cons_of_neg (by simp)]
      simpa using ih
    | cons x r =>
      rw [List.filter_cons_of_pos (by simp)]
      simp only [List.map_cons, List.sum_cons]
      rw [ih]
theorem total_pos {rs : Rows α} (h : full rs = rs) (h0 : rs ≠ []) : 0 < total rs := by
  cases rs with
  | nil => exact absurd rfl h0
  | cons r rs =>
    have : r ∈ full (r :: rs) := by rw [h]; exact List.mem_cons_self
    have hr := (mem_full.mp this).2
    unfold total
    simp only [List.map_cons, List.sum_cons]
    have := List.length_pos_iff.mpr hr
    omega
theorem cutRow_le (t : α) (r : List α) : (cutRow t r).length ≤ r.length := by
  unfold cutRow
  split
  · simp
  · exact Nat.le_refl _
theorem total_cut_le (t : α) : ∀ rs : Rows α, total (rs.map (cutRow t)) ≤ total rs
  | [] => Nat.le_refl _
  | r :: rs => by
    have := total_cut_le t rs
    have := cutRow_le t r
    unfold total at *
    simp only [List.map_cons, List.sum_cons]
    omega
theorem total_cut {t : α} : ∀ {rs : Rows α}, t ∈ heads rs → total (cut t rs) < total rs
  | [], h => by cases h
  | r :: rs, h => by
    unfold cut
    rw [total_full]
    unfold heads at h
    by_cases hr : r.head? = some t
    · have h2 := total_cut_le t rs
      cases r with
      | nil => cases hr
      | cons x r =>
        have e : cutRow t (x :: r) = r := if_pos hr
        unfold total at *
        simp only [List.map_cons, List.sum_cons, e, List.length_cons]
        omega
    · have h3 : t ∈ heads rs := by
        cases r with
        | nil => simpa [heads] using h
        | cons x r =>
          replace h : t ∈ x :: List.filterMap List.head? rs := h
          rcases List.mem_cons.mp h with rfl | h
          · exact absurd rfl hr
          · exact h
      have ih := total_cut h3
      unfold cut at ih
      rw [total_full] at ih
      have e : cutRow t r = r := if_neg hr
      unfold total at *
      simp only [List.map_cons, List.sum_cons, e]
      omega
theorem next_mem {rs : Rows α} {t : α} (h : nextOf rs = some t) : t ∈ heads rs ∧ freeIn rs t = true := ⟨List.mem_of_find?_eq_some h, List.find?_some h⟩
/-- fuel does not matter -/
theorem mergeN_more : ∀ (n : Nat) (rs : Rows α), full rs = rs → total rs ≤ n → mergeN n rs = mergeN (total rs) rs := by
  intro n
  induction n using Nat.strongRecOn with
  | ind n ih =>
    intro rs hf hn
    cases n with
    | zero =>
      have : total rs = 0 := by omega
      rw [this]
    | succ n =>
      by_cases h0 : rs = []
      · subst h0
        show (if ([] : Rows α) = [] then some [] else _) = _
        rw [if_pos rfl]
        rfl
      · obtain ⟨m, hm⟩ : ∃ m, total rs = m + 1 := ⟨total rs - 1, by have := total_pos hf h0; omega⟩
        rw [hm]
        show (if rs = [] then some [] else _) = (if rs = [] then some [] else _)
        rw [if_neg h0, if_neg h0]
        cases hx : nextOf rs with
        | none => rfl
        | some t =>
          have ht := total_cut (next_mem hx).1
          show (mergeN n (cut t rs)).map _ = (mergeN m (cut t rs)).map _
          rw [ih n (by omega) (cut t rs) (full_cut _ _) (by omega)]
          by_cases hmn : m < n + 1
          · rw [ih m hmn (cut t rs) (full_cut _ _) (by omega)]
          · have : m = n := by omega
            subst this
            rw [ih m (by omega) (cut t rs) (full_cut _ _) (by omega)]
theorem mergeN_len : ∀ (n : Nat) (rs : Rows α) (m : List α), mergeN n rs = some m → m.length ≤ n
  | 0, rs, m, h => by
    cases h
    exact Nat.le_refl _
  | n + 1, rs, m, h => by
    have h' : (if rs = [] then some [] else match nextOf rs with
      | none => none
      | some t => (mergeN n (cut t rs)).map (t :: ·)) = some m := h
    split at h'
    · cases h'
      exact Nat.zero_le _
    · cases hx : nextOf rs with
      | none => rw [hx] at h'; cases h'
      | some t =>
        rw [hx] at h'
        obtain ⟨m', h1, rfl⟩ := Option.map_eq_some_iff.mp h'
        have := mergeN_len n _ m' h1
        rw [List.length_cons]
        omega
/-- a step of the merge -/
theorem merge_nil {rs : Rows α} (h : full rs = []) : merge rs = some [] := by
  unfold merge
  rw [h]
  rfl
theorem merge_step {rs : Rows α} (hf : full rs = rs) (h0 : rs ≠ []) : merge rs = match nextOf rs with
    | none => none
    | some t => (merge (cut t rs)).map (t :: ·) := by
  unfold merge
  rw [hf]
  obtain ⟨m, hm⟩ : ∃ m, total rs = m + 1 := ⟨total rs - 1, by have := total_pos hf h0; omega⟩
  rw [hm]
  show (if rs = [] then some [] else _) = _
  rw [if_neg h0]
  cases hx : nextOf rs with
  | none => rfl
  | some t =>
    have ht := total_cut (next_mem hx).1
    show (mergeN m (cut t rs)).map _ = (mergeN (total (full (cut t rs))) (full (cut t rs))).map _
    rw [full_cut, mergeN_more m (cut t rs) (full_cut _ _) (by omega)]
theorem merge_full (rs : Rows α) : merge (full rs) = merge rs := by
  unfold merge
  rw [full_full]

/-- the other way to remove: everywhere -/
theorem cut_all {rs : Rows α} {t : α} (h : freeIn rs t = true) : rs.map (cutRow t) = rs.map fun r => r.filter fun x => decide (x ≠ t) := by
  apply List.map_congr_left
  intro r hr
  have h1 : t ∉ r.tail := by
    have := List.all_eq_true.mp h r hr
    simpa using this
  have h2 : r.tail.filter (fun x => decide (x ≠ t)) = r.tail := List.filter_eq_self.mpr fun x hx => by
    rw [decide_eq_true_eq]
    rintro rfl
    exact h1 hx
  unfold cutRow
  cases r with
  | nil => rfl
  | cons y r =>
    rw [List.tail_cons] at h2
    by_cases hy : y = t
    · subst hy
      rw [if_pos (show (y :: r).head? = some y from rfl), List.filter_cons_of_neg (by simp), h2]
      rfl
    · rw [if_neg (by simpa using hy), List.filter_cons_of_pos (by simpa using hy), h2]

/-! ### what a merge gives -/
structure Fine (rs : Rows α) (m : List α) : Prop where
  sub : ∀ r ∈ rs, r.Sublist m
  nd : m.Nodup
  mem : ∀ x ∈ m, ∃ r ∈ rs, x ∈ r
theorem fine_n : ∀ (n : Nat) (rs : Rows α) (m : List α), total rs ≤ n → full rs = rs → (∀ r ∈ rs, r.Nodup) → merge rs = some m → Fine rs m := by
  intro n
  induction n with
  | zero =>
    intro rs m hn hf hd hm
    have h0 : rs = [] := by
      cases rs with
      | nil => rfl
      | cons r rs => exact absurd (total_pos hf (by simp)) (by omega)
    subst h0
    rw [merge_nil (by rfl)] at hm
    cases hm
    exact ⟨fun r hr => (by cases hr), List.nodup_nil, fun x hx => (by cases hx)⟩
  | succ n ih =>
    intro rs m hn hf hd hm
    by_cases h0 : rs = []
    · subst h0
      rw [merge_nil (by rfl)] at hm
      cases hm
      exact ⟨fun r hr => (by cases hr), List.nodup_nil, fun x hx => (by cases hx)⟩
    · rw [merge_step hf h0] at hm
      cases hx : nextOf rs with
      | none => rw [hx] at hm; cases hm
      | some t =>
        rw [hx] at hm
        replace hm : (merge (cut t rs)).map (t :: ·) = some m := hm
        obtain ⟨hh, hfr⟩ := next_mem hx
        have ht := total_cut hh
        obtain ⟨m', hm', rfl⟩ : ∃ m', merge (cut t rs) = some m' ∧ m = t :: m' := by
          cases e : merge (cut t rs) with
          | none => rw [e] at hm; cases hm
          | some m' =>
            rw [e] at hm
            exact ⟨m', rfl, (Option.some.inj hm).symm⟩
        have nt : ∀ r ∈ rs, t ∉ r.tail := fun r hr => by
          have := List.all_eq_true.mp hfr r hr
          simpa using this
        have hcut : ∀ r ∈ rs, cutRow t r ≠ [] → cutRow t r ∈ cut t rs := fun r hr hne => mem_full.mpr ⟨List.mem_map.mpr ⟨r, hr, rfl⟩, hne⟩
        have F := ih (cut t rs) m' (by omega) (full_cut _ _) (fun r hr => by
          obtain ⟨h1, _⟩ := mem_full.mp hr
          obtain ⟨r0, hr0, rfl⟩ := List.mem_map.mp h1
          unfold cutRow
          split
          · exact (List.tail_sublist r0).nodup (hd r0 hr0)
          · exact hd r0 hr0) hm'
        have tm : t ∉ m' := fun hmem => by
          obtain ⟨r, hr, hxr⟩ := F.mem t hmem
          obtain ⟨h1, _⟩ := mem_full.mp hr
          obtain ⟨r0, hr0, rfl⟩ := List.mem_map.mp h1
          unfold cutRow at hxr
          split at hxr
          · exact nt r0 hr0 hxr
          · rename_i hne
            cases r0 with
            | nil => cases hxr
            | cons y r0 =>
              rcases List.mem_cons.mp hxr with rfl | hxr
              · exact hne rfl
              · exact nt _ hr0 hxr
        refine ⟨fun r hr => ?_, List.nodup_cons.mpr ⟨tm, F.nd⟩, fun x hx => ?_⟩
        · have hne : r ≠ [] := (mem_full.mp (by rw [hf]; exact hr)).2
          cases r with
          | nil => exact absurd rfl hne
          | cons y r =>
            by_cases hy : y = t
            · subst hy
              have e : cutRow y (y :: r) = r := if_pos rfl
              by_cases hr0 : r = []
              · subst hr0
                exact List.Sublist.cons₂ _ (List.nil_sublist _)
              · have := hcut (y :: r) hr (by rw [e]; exact hr0)
                rw [e] at this
                exact List.Sublist.cons₂ _ (F.sub r this)
            · have e : cutRow t (y :: r) = y :: r := if_neg (by simpa using hy)
              have := hcut (y :: r) hr (by rw [e]; simp)
              rw [e] at this
              exact List.Sublist.cons _ (F.sub _ this)
        · rcases List.mem_cons.mp hx with rfl | hx
          · unfold heads at hh
            obtain ⟨r, hr, he⟩ := List.mem_filterMap.mp hh
            cases r with
            | nil => cases he
            | cons y r =>
              cases he
              exact ⟨_, hr, List.mem_cons_self⟩
          · obtain ⟨r, hr, hxr⟩ := F.mem x hx
            obtain ⟨h1, _⟩ := mem_full.mp hr
            obtain ⟨r0, hr0, rfl⟩ := List.mem_map.mp h1
            refine ⟨r0, hr0, ?_⟩
            unfold cutRow at hxr
            split at hxr
            · exact List.mem_of_mem_tail hxr
            · exact hxr
theorem fine {rs : Rows α} {m : List α} (hd : ∀ r ∈ rs, r.Nodup) (hm : merge rs = some m) : Fine rs m := by
  have F := fine_n (total (full rs)) (full rs) m (Nat.le_refl _) (full_full rs) (fun r hr => hd r (mem_full.mp hr).1) (by rw [merge_full]; exact hm)
  refine ⟨fun r hr => ?_, F.nd, fun x hx => ?_⟩
  · by_cases h : r = []
    · subst h
      exact List.nil_sublist _
    · exact F.sub r (mem_full.mpr ⟨hr, h⟩)
  · obtain ⟨r, hr, hxr⟩ := F.mem x hx
    exact ⟨r, (mem_full.mp hr).1, hxr⟩
theorem total_mem {rs : Rows α} {r : List α} (h : r ∈ rs) : r.length ≤ total rs := by
  unfold total
  induction rs with
  | nil => cases h
  | cons s rs ih =>
    simp only [List.map_cons, List.sum_cons]
    rcases List.mem_cons.mp h with rfl | h
    · omega
    · have := ih h
      omega
/-! ### places in a list -/
theorem idx_ne {x y : α} (h : y ≠ x) (m : List α) : (y :: m).idxOf x = m.idxOf x + 1 := by
  rw [List.idxOf_cons]
  have : (y == x) = false := by simpa using h
  rw [this]
  rfl
theorem sub_idx {l m : List α} (h : l.Sublist m) (nd : m.Nodup) : (l.map fun x => m.idxOf x).Pairwise (· < ·) := by
  induction h with
  | slnil => exact List.Pairwise.nil
  | @cons l m y h ih =>
    have nd' := (List.nodup_cons.mp nd)
    have ih' := ih nd'.2
    have e : (l.map fun x => (y :: m).idxOf x) = (l.map fun x => m.idxOf x).map (· + 1) := by
      rw [List.map_map]
      apply List.map_congr_left
      intro x hx
      have hne : y ≠ x := fun z => nd'.1 (z ▸ h.subset hx)
      show (y :: m).idxOf x = m.idxOf x + 1
      exact idx_ne hne m
    rw [e]
    exact List.Pairwise.map _ (fun a b hab => Nat.succ_lt_succ hab) ih'
  | @cons_cons l m y h ih =>
    have nd' := (List.nodup_cons.mp nd)
    have ih' := ih nd'.2
    rw [List.map_cons]
    have e : (l.map fun x => (y :: m).idxOf x) = (l.map fun x => m.idxOf x).map (· + 1) := by
      rw [List.map_map]
      apply List.map_congr_left
      intro x hx
      have hne : y ≠ x := fun z => nd'.1 (z ▸ h.subset hx)
      show (y :: m).idxOf x = m.idxOf x + 1
      exact idx_ne hne m
    rw [e]
    refine List.Pairwise.cons ?_ (List.Pairwise.map _ (fun a b hab => Nat.succ_lt_succ hab) ih')
    intro b hb
    obtain ⟨c, _, rfl⟩ := List.mem_map.mp hb
    show (y :: m).idxOf y < c + 1
    rw [List.idxOf_cons_self]
    omega
theorem filter_sub {l m : List α} (h : l.Sublist m) (nd : m.Nodup) : m.filter (fun x => decide (x ∈ l)) = l := by
  induction h with
  | slnil => rfl
  | @cons l m y h ih =>
    have nd' := (List.nodup_cons.mp nd)
    rw [List.filter_cons_of_neg (by simpa using fun z => nd'.1 (h.subset z))]
    exact ih nd'.2
  | @cons_cons l m y h ih =>
    have nd' := (List.nodup_cons.mp nd)
    rw [List.filter_cons_of_pos (by simp)]
    congr 1
    have e : m.filter (fun x => decide (x ∈ y :: l)) = m.filter fun x => decide (x ∈ l) := by
      apply List.filter_congr
      intro x hx
      have hne : x ≠ y := fun z => nd'.1 (z ▸ hx)
      simp [hne]
    rw [e]
    exact ih nd'.2
end
end Hy
/-! module HyText -/
set_option maxHeartbeats 4000000
/-! Class lines as lists of signs; joined, split, cut. -/
namespace Hy
open PySem PySem.Spec PyProof.Rows L2 Evl Hc Hs
abbrev Nm := List Nat
abbrev sv (n : Nm) : V := .str (S n)
theorem tl_S (a : List Nat) : TL.tl (S a) = a := rfl
theorem split_S {s : Nat} {T : List Nat} (hk : (s :: T).all (· < 256) = true) {xs : List (List Nat)} (hne : xs ≠ []) (hp : ∀ x ∈ xs, s ∉ x) : Txt.split (S (TL.joinL (s :: T) xs)) (S (s :: T)) = xs.map S := by
  rw [← join_S]
  exact TL.split_join (s := s) (S := T) rfl (by simpa using hk) (by simpa using hne) fun p h => by
    obtain ⟨z, hz, rfl⟩ := List.mem_map.mp h
    exact hp z hz
theorem partition_S {s : Nat} {a b : List Nat} (h : s ∉ a) : Txt.partition (S (a ++ (s :: b))) (S [s]) = (S a, S [s], S b) := by
  have e : S (a ++ (s :: b)) = S a ++ S [s] ++ S b := by rw [S_cat, S_cat, List.append_assoc]; rfl
  rw [e]
  exact TL.partition_app (s := s) (S := []) rfl h
theorem partition_no {s : Nat} {a : List Nat} (h : s ∉ a) : Txt.partition (S a) (S [s]) = (S a, S [], S []) := TL.partition_none (s := s) (S := []) rfl h
/-! ### names and lines -/
structure GoodNm (n : Nm) : Prop where
  ok : isClassName n = true
theorem GoodNm.len {n : Nm} (g : GoodNm n) : 1 ≤ n.length ∧ n.length ≤ 8 := by
  have h := g.ok
  unfold isClassName at h
  cases n with
  | nil => cases h
  | cons c m =>
    simp only [Bool.and_eq_true, decide_eq_true_eq] at h
    exact ⟨by simp, h.1.1⟩
theorem GoodNm.mem {n : Nm} (g : GoodNm n) {c : Nat} (hc : c ∈ n) : c ∈ larges ∨ c ∈ smalls := by
  have h := g.ok
  unfold isClassName at h
  cases n with
  | nil => cases h
  | cons d m =>
    simp only [Bool.and_eq_true, decide_eq_true_eq] at h
    rcases List.mem_cons.mp hc with rfl | hc
    · exact .inl h.1.2
    · have := List.all_eq_true.mp h.2 c hc
      exact .inr (of_decide_eq_true this)
theorem GoodNm.no {n : Nm} (g : GoodNm n) {c : Nat} (h1 : c ∉ larges) (h2 : c ∉ smalls) : c ∉ n := fun hc => (g.mem hc).elim h1 h2
def cls6 : List Nat := [99, 108, 97, 115, 115, 32]
def bpart (bs : List Nm) : List Nat := if bs = [] then [] else 40 :: (TL.joinL [44, 32] bs ++ [41])
def cline (n : Nm) (bs : List Nm) : List Nat := cls6 ++ (n ++ (bpart bs ++ [58]))
theorem joinL_mem {T : List Nat} : ∀ {xs : List (List Nat)} {c : Nat}, c ∈ TL.joinL T xs → c ∈ T ∨ ∃ x ∈ xs, c ∈ x
  | [], c, h => by cases h
  | [p], c, h => .inr ⟨p, List.mem_cons_self, h⟩
  | p :: q :: r, c, h => by
    have h' : c ∈ p ++ (T ++ TL.joinL T (q :: r)) := h
    rcases List.mem_append.mp h' with h | h
    · exact .inr ⟨p, List.mem_cons_self, h⟩
    · rcases List.mem_append.mp h with h | h
      · exact .inl h
      · rcases joinL_mem h with h | ⟨x, hx, hc⟩
        · exact .inl h
        · exact .inr ⟨x, List.mem_cons_of_mem _ hx, hc⟩
theorem joinL_len {T : List Nat} {m : Nat} : ∀ {xs : List (List Nat)}, (∀ x ∈ xs, x.length ≤ m) → (TL.joinL T xs).length ≤ xs.length * (m + T.length)
  | [], _ => Nat.zero_le _
  | [p], h => by
    have := h p List.mem_cons_self
    show p.length ≤ 1 * _
    omega
  | p :: q :: r, h => by
    have h1 := h p List.mem_cons_self
    have h2 := joinL_len (T := T) (xs := q :: r) fun x hx => h x (List.mem_cons_of_mem _ hx)
    show (p ++ (T ++ TL.joinL T (q :: r))).length ≤ _
    rw [List.length_append, List.length_append, List.length_cons, Nat.add_mul, Nat.one_mul]
    omega
theorem cline_no {n : Nm} {bs : List Nm} (g : GoodNm n) (gb : ∀ b ∈ bs, GoodNm b) : 10 ∉ cline n bs := by
  unfold cline bpart cls6
  intro h
  rcases List.mem_append.mp h with h | h
  · revert h; decide
  · rcases List.mem_append.mp h with h | h
    · exact g.no (by decide) (by decide) h
    · rcases List.mem_append.mp h with h | h
      · split at h
        · cases h
        · rcases List.mem_cons.mp h with h | h
          · cases h
          · rcases List.mem_append.mp h with h | h
            · rcases joinL_mem h with h | ⟨x, hx, h⟩
              · revert h; decide
              · exact (gb x hx).no (by decide) (by decide) h
            · revert h; decide
      · revert h; decide
theorem cline_len {n : Nm} {bs : List Nm} (g : GoodNm n) (gb : ∀ b ∈ bs, GoodNm b) (hb : bs.length ≤ 3) : (cline n bs).length ≤ 60 ∧ 8 ≤ (cline n bs).length := by
  have h1 := g.len
  have h2 := joinL_len (T := [44, 32]) (m := 8) (xs := bs) fun x hx => (gb x hx).len.2
  unfold cline bpart cls6
  simp only [List.length_append, List.length_cons, List.length_nil]
  have h3 : bs.length * (8 + ([44, 32] : List Nat).length) ≤ 30 := by
    show bs.length * 10 ≤ 30
    omega
  split
  · simp; omega
  · simp only [List.length_append, List.length_cons, List.length_nil]
    omega
theorem cline_starts (n : Nm) (bs : List Nm) : startsL (cline n bs) cls6 = true := by
  unfold startsL cline
  rw [Bool.and_eq_true]
  refine ⟨decide_eq_true (by rw [List.length_append]; omega), ?_⟩
  rw [List.take_left]
  simp
theorem cline_last (n : Nm) (bs : List Nm) : (cline n bs).getLast? = some 58 := by
  unfold cline
  rw [← List.append_assoc, ← List.append_assoc, List.getLast?_append]
  rfl
theorem cline_cut (n : Nm) (bs : List Nm) : ((cline n bs).drop 6).take ((cline n bs).length - 1 - 6) = n ++ bpart bs := by
  have e : (cline n bs).drop 6 = n ++ (bpart bs ++ [58]) := List.drop_left (l₁ := cls6)
  have e2 : (cline n bs).length - 1 - 6 = (n ++ bpart bs).length := by
    unfold cline cls6
    simp only [List.length_append, List.length_cons, List.length_nil]
    omega
  rw [e, e2, ← List.append_assoc, List.take_left]
theorem rest_cut (L : List Nat) : (L ++ [41]).dropLast = L := by simp
theorem cut_last' (L : List Nat) : cutS (S L) none (some (-1 : Int)) = S L.dropLast := by
  unfold cutS
  rw [HT.sIx_none, S_len]
  have e : HT.sIx L.length L.length (some (-((1 : Nat) : Int))) = L.length - 1 := by
    unfold HT.sIx
    dsimp only
    rw [if_pos (by decide)]
    omega
  rw [show (-1 : Int) = -((1 : Nat) : Int) from rfl, e]
  congr 2
  show (L.drop 0).take (L.length - 1 - 0) = L.dropLast
  rw [List.drop_zero, Nat.sub_zero, List.dropLast_eq_take]
theorem cut_6 (L : List Nat) : cutS (S L) (some (6 : Int)) (some (-1 : Int)) = S ((L.drop 6).take (L.length - 1 - 6)) := by
  unfold cutS
  rw [show (6 : Int) = ((6 : Nat) : Int) from rfl, HT.sIx_nat, S_len]
  have e : HT.sIx L.length L.length (some (-((1 : Nat) : Int))) = L.length - 1 := by
    unfold HT.sIx
    dsimp only
    rw [if_pos (by decide)]
    omega
  rw [show (-1 : Int) = -((1 : Nat) : Int) from rfl, e]
  congr 2
  show (L.drop (min 6 L.length)).take (L.length - 1 - min 6 L.length) = _
  by_cases h : 6 ≤ L.length
  · rw [Nat.min_eq_left h]
  · rw [Nat.min_eq_right (by omega), List.drop_of_length_le (by omega), List.drop_of_length_le (l := L) (i := 6) (by omega)]
    simp
/-! ### readings of texts -/
section
variable {σ : L2.St} {H : Hp} {to te : TE}
theorem el_split {s : Nat} {T L : List Nat} {xs : List Nm} (hk : (s :: T).all (· < 256) = true) (hL : L.length ≤ cap) (e : L = TL.joinL (s :: T) xs) (hne : xs ≠ []) (hp : ∀ x ∈ xs, s ∉ x) (h1 : Ev to σ H (.str (S L))) (h2 : Ev te σ H (.str (S (s :: T)))) :
    EvL (tM1 (fun x xs H Q => ∃ a b, x = .str a ∧ xs = [.str b] ∧ (b.length == 0) = false ∧ a.length + 2 ≤ sizeLine ∧ rNewStrs (Txt.split a b) H Q) to te) σ H (xs.map sv) := fun H1 f1 Q q =>
  h1 H1 f1 _ fun H2 f2 => ⟨⟨_, rfl⟩, h2 H2 (f1.trans f2) _ fun H3 f3 => ⟨_, _, rfl, rfl, by rw [S_len]; rfl, by rw [S_len]; exact Nat.le_trans (Nat.add_le_add_right hL 2) (by decide), fun p np => by
    refine q p _ (fresh_back (f2.trans f3) np) ((f2.trans f3).trans (Ex.new np)) ?_
    rw [upd_same, e, split_S hk hne hp, List.map_map]
    rfl⟩⟩
theorem eu_part {L M : List Nat} {a b c : List Nat} (hL : L.length ≤ cap) (hM : M.length ≠ 0) (e : Txt.partition (S L) (S M) = (S a, S b, S c)) (h1 : Ev to σ H (.str (S L))) (h2 : Ev te σ H (.str (S M))) :
    EvU (tM1 (fun x xs H Q => ∃ a b, x = .str a ∧ xs = [.str b] ∧ (b.length == 0) = false ∧ a.length ≤ sizeLine ∧ ∀ p, H p = none → Q (.ref p) (upd H p (.tup [.str (Txt.partition a b).1, .str (Txt.partition a b).2.1, .str (Txt.partition a b).2.2]))) to te) σ H [sv a, sv b, sv c] := fun H1 f1 Q q =>
  h1 H1 f1 _ fun H2 f2 => ⟨⟨_, rfl⟩, h2 H2 (f1.trans f2) _ fun H3 f3 => ⟨_, _, rfl, rfl, by rw [S_len]; simpa using hM, by rw [S_len]; exact cap_line hL, fun p np => by
    refine q p _ (fresh_back (f2.trans f3) np) ((f2.trans f3).trans (Ex.new np)) ?_
    rw [upd_same, e]⟩⟩
/-- joined -/
theorem ev_join {K : PySem.W.Frag} {T : List Nat} {xs : List Nm} {p : Addr} (hz : (xs.map List.length).sum + xs.length * T.length ≤ 16777216) (h1 : Ev to σ H (.str (S T))) (h2 : Ev te σ H (.ref p)) (hp : SqL K H p (xs.map sv)) :
    Ev (tM1 (fun x xs H Q => ∃ a p, ∃ ys : List Str, x = .str a ∧ xs = [.ref p] ∧ (SqL K H p (ys.map V.str) ∨ SqT K H p (ys.map V.str)) ∧ (ys.map (·.length)).sum + ys.length * a.length ≤ 16777216 ∧ Q (.str (Txt.join a ys)) H) to te) σ H (sv (TL.joinL T xs)) := fun H1 f1 Q q =>
  h1 H1 f1 _ fun H2 f2 => ⟨⟨_, rfl⟩, h2 H2 (f1.trans f2) _ fun H3 f3 => ⟨S T, p, xs.map S, rfl, rfl, .inl (by rw [List.map_map]; exact ex_l ((f1.trans f2).trans f3) hp), by
    rw [List.map_map, List.length_map, S_len]
    have : ((fun x : Str => x.length) ∘ S) = List.length := funext fun a => S_len a
    rw [this]
    exact hz, by
    rw [join_S]
    exact q H3 (f2.trans f3)⟩⟩
theorem ev_joinN {K : PySem.W.Frag} {T : List Nat} {xs : List Nm} (hz : (xs.map List.length).sum + xs.length * T.length ≤ 16777216) (h1 : Ev to σ H (.str (S T))) (h2 : EvL te σ H (xs.map sv)) :
    Ev (tM1 (fun x xs H Q => ∃ a p, ∃ ys : List Str, x = .str a ∧ xs = [.ref p] ∧ (SqL K H p (ys.map V.str) ∨ SqT K H p (ys.map V.str)) ∧ (ys.map (·.length)).sum + ys.length * a.length ≤ 16777216 ∧ Q (.str (Txt.join a ys)) H) to te) σ H (sv (TL.joinL T xs)) := fun H1 f1 Q q =>
  h1 H1 f1 _ fun H2 f2 => ⟨⟨_, rfl⟩, h2 H2 (f1.trans f2) _ fun p H3 np f3 hp => ⟨S T, p, xs.map S, rfl, rfl, .inl (by rw [List.map_map]; exact sq_of hp), by
    rw [List.map_map, List.length_map, S_len]
    have : ((fun x : Str => x.length) ∘ S) = List.length := funext fun a => S_len a
    rw [this]
    exact hz, by
    rw [join_S]
    exact q H3 (f2.trans f3)⟩⟩
theorem ev_addS {a b : List Nat} {tb ta : TE} (hz : a.length + b.length ≤ cap) (h1 : Ev ta σ H (sv a)) (h2 : Ev tb σ H (sv b)) : Ev (tOp (fun x y H Q => ∃ u v, x = V.str u ∧ y = V.str v ∧ u.length + v.length ≤ sizeLine ∧ Q (V.str (u ++ v)) H) ta tb) σ H (sv (a ++ b)) :=
  ev_op h1 h2 fun H1 e Q q => ⟨S a, S b, rfl, rfl, by rw [S_len, S_len]; exact cap_line hz, by rw [S_cat]; exact q H1 (Ex.refl H1)⟩
end
end Hy
/-! module HmNext -/
set_option maxHeartbeats 4000000
/-! lines_of, next_merged, merged. -/
namespace Hy
open PySem PySem.Spec PyProof.Rows L2 Evl Hc Hs
structure LibP (mg : Str → Option Value) : Prop where
  all : mg "all" = none
  any : mg "any" = none
  len : mg "len" = none
  lst : mg "list" = none
  tup : mg "tuple" = none
  enu : mg "enumerate" = none
  isi : mg "isinstance" = none
  str : mg "str" = none
  mC : ∃ t, mg "MOST_CLASSES" = some (.int 8 t)
  mB : ∃ t, mg "MOST_BASES" = some (.int 3 t)
def optN : Option Nm → V
  | none => .non
  | some n => sv n
/-! ### lists of lists -/
abbrev Rw := Addr × List Nm
abbrev rf (n : Rw) : V := .ref n.1
def RowsOk (H : Hp) (ns : List Rw) : Prop := ∀ n ∈ ns, H n.1 = some (.lst (n.2.map sv))
theorem RowsOk.ex {H H' : Hp} {ns : List Rw} (h : RowsOk H ns) (e : Ex H H') : RowsOk H' ns := fun n hn => e _ _ (h n hn)
theorem inV_N0 (L : Nm) : ∀ Ls : List Nm, inV (sv L) (Ls.map sv) = Ls.contains L
  | [] => rfl
  | M :: Ms => by
    have hh : eqV (V.str (S M)) (V.str (S L)) = (L == M) := by
      show (S M == S L) = (L == M)
      rw [Bool.eq_iff_iff, beq_iff_eq, beq_iff_eq]
      exact ⟨fun z => (S_inj z).symm, fun z => z ▸ rfl⟩
    show ((eqV (V.str (S M)) (V.str (S L))) || (inV (V.str (S L)) (Ms.map sv))) = ((L == M) || Ms.contains L)
    rw [hh, inV_N0 L Ms]
theorem inV_N (L : Nm) (Ls : List Nm) : inV (sv L) (Ls.map sv) = decide (L ∈ Ls) := by
  rw [inV_N0, List.contains_eq_mem]
theorem flat_N (Ls : List Nm) : (Ls.map sv).all flatV = true := by
  rw [List.all_map, List.all_eq_true]
  intro x _
  rfl
theorem cutV_tail (xs : List V) : cutV xs (some (1 : Int)) none = xs.tail := by
  unfold cutV
  rw [show (1 : Int) = ((1 : Nat) : Int) from rfl, HT.sIx_nat, HT.sIx_none]
  cases xs with
  | nil => rfl
  | cons x r =>
    rw [List.length_cons, Nat.min_eq_left (by omega)]
    show r.take (r.length + 1 - 1) = r
    rw [Nat.add_sub_cancel, List.take_length]
theorem tail_map {α β : Type} (f : α → β) (l : List α) : (l.map f).tail = l.tail.map f := by cases l <;> rfl
theorem boot_any' : bootBuiltins "any" = some (.builtin "any") := by decide +kernel
theorem boot_list' : bootBuiltins "list" = some (.type "list") := by decide +kernel
section
variable {K : PySem.W.Frag} {σ : L2.St} {H : Hp} {te ta tb tl : TE}
theorem ev_any {bs : List Bool} (h : EvL tl σ H (bs.map V.bl)) : Ev (tCB (rAny K) (tCons tl tNil)) σ H (.bl (bs.any id)) := fun H1 e Q q =>
  h H1 e _ fun p H2 np e2 hp => ⟨p, bs, rfl, SqL.of hp, q H2 e2⟩
theorem ev_inL {x : Nm} {l : List Nm} (ha : Ev ta σ H (sv x)) (hb : EvL tb σ H (l.map sv)) : Ev (tOp (rIn K false) ta tb) σ H (.bl (decide (x ∈ l))) :=
  Evl.ev_is (ev_opL ha hb fun _ _ h _ => rv_isL (sq_of h) rfl (flat_N l)) (by rw [inV_N])
theorem ev_inLs {x : Nm} {l : List Nm} {p : Addr} (ha : Ev ta σ H (sv x)) (hb : Ev tb σ H (.ref p)) (hp : SqL K H p (l.map sv)) : Ev (tOp (rIn K false) ta tb) σ H (.bl (decide (x ∈ l))) :=
  Evl.ev_is (ev_op ha hb (rv_isL hp rfl (flat_N l))) (by rw [inV_N])
theorem ev_niL {x : Nm} {l : List Nm} (ha : Ev ta σ H (sv x)) (hb : EvL tb σ H (l.map sv)) : Ev (tOp (rIn K true) ta tb) σ H (.bl (!decide (x ∈ l))) :=
  Evl.ev_is (ev_opL ha hb fun _ _ h _ => rv_niL (sq_of h) rfl (flat_N l)) (by rw [inV_N])
theorem ev_niLs {x : Nm} {l : List Nm} {p : Addr} (ha : Ev ta σ H (sv x)) (hb : Ev tb σ H (.ref p)) (hp : SqL K H p (l.map sv)) : Ev (tOp (rIn K true) ta tb) σ H (.bl (!decide (x ∈ l))) :=
  Evl.ev_is (ev_op ha hb (rv_niL hp rfl (flat_N l))) (by rw [inV_N])
theorem el_tail {l : List Nm} {p : Addr} (h : Ev te σ H (.ref p)) (hp : SqL K H p (l.map sv)) : EvL (tSl (rSlL K) te (tPart (tC (.int 1))) tNoPart) σ H (l.tail.map sv) := by
  have z := el_sl (K := K) (lo := some 1) (hi := none) h (eo_some ev_c) eo_none hp
  rw [cutV_tail, tail_map] at z
  exact z
theorem ev_head {x : Nm} {l : List Nm} {p : Addr} (h : Ev te σ H (.ref p)) (hp : SqL K H p ((x :: l).map sv)) : Ev (tOp (rIxL K) te (tC (.int 0))) σ H (sv x) :=
  ev_op h ev_c (rv_ixL hp (atI_nat (j := 0) rfl))
/-- truth of a list -/
def tTru (K : PySem.W.Frag) (ta : TE) : TT := fun σ H Q => ta σ H fun x H' => ∃ k, TruV K x H' k ∧ Q k H'
theorem et_truth {xs : List V} {p : Addr} (h : Ev te σ H (.ref p)) (hp : SqL K H p xs) : EvT (tTru K te) σ H (!xs.isEmpty) := fun H1 e Q q =>
  h H1 e _ fun H2 e2 => ⟨_, .inl ⟨xs, ex_l (e.trans e2) hp, rfl⟩, q H2 e2⟩
end
theorem q_asgX {te : TE} {tz : TS} {D : Ends} {σ : L2.St} {H : Hp} {i : Nat} (h : te σ H fun v H1 => tz D (σ.set i (some v)) H1) : tSeq (tAsg te (gName i)) tz D σ H := h
section
variable {K : PySem.W.Frag} {σ : L2.St} {H : Hp} {ta tb te : TE}
theorem el_cat {xs ys : List V} (ha : EvL ta σ H xs) (hb : EvL tb σ H ys) (hz : xs.length + ys.length ≤ 100000) : EvL (tOp rCat ta tb) σ H (xs ++ ys) := fun H1 e Q q =>
  ha H1 e _ fun p H2 n1 e2 h1 => hb H2 (e.trans e2) _ fun r H3 n2 e3 h2 => ⟨p, r, xs, ys, rfl, rfl, e3 _ _ h1, h2, sz_of hz, fun t nt => q t _ (fresh_back (e2.trans e3) nt) ((e2.trans e3).trans (Ex.new nt)) upd_same⟩
theorem el_catR {xs ys : List V} {r : Addr} (ha : EvL ta σ H xs) (hb : Ev tb σ H (.ref r)) (hr : H r = some (.lst ys)) (hz : xs.length + ys.length ≤ 100000) : EvL (tOp rCat ta tb) σ H (xs ++ ys) := fun H1 e Q q =>
  ha H1 e _ fun p H2 n1 e2 h1 => hb H2 (e.trans e2) _ fun H3 e3 => ⟨p, r, xs, ys, rfl, rfl, e3 _ _ h1, ((e.trans e2).trans e3) _ _ hr, sz_of hz, fun t nt => q t _ (fresh_back (e2.trans e3) nt) ((e2.trans e3).trans (Ex.new nt)) upd_same⟩
end
end Hy
/-! module HmExc -/
set_option maxHeartbeats 4000000
/-! BadMend: made, raised; C(e) that may raise. -/
namespace Hy
open PySem PySem.Spec PyProof.Rows L2 Evl Hc Hs
/-! ### C(e) that may raise -/
def tMakeS (C : Addr) (sp : Sp) (E : L2.St → XK) (t : TA) : TE := fun σ H Q => t σ H fun vs H1 => ∀ x dx, H1 x = none → H1 dx = none → dx ≠ x →
  sp (.ref x :: vs) (upd (upd H1 dx (.own x)) x (.ins C dx [])) (fun v H2 => v = .non ∧ Q (.ref x) H2) (E σ)
theorem pe_makeS {X : Cx} {CX : CXT} {C f : Addr} {k : Nat} {fd : FuncData} {ps : List Str} {sp : Sp} {E : L2.St → XK} {x : Str} {e : Expr} {es : List Expr} {t : TA} {p pos : Pos} (M : Mk X.K C f) (F : FnOk X.prog X.w X.K X.mg X.base CX k f fd ps sp) (hr : Room (k + 1) X.A) (hg : Gl X x) (hm : X.mg x = some (.ref C)) (hb : Binds X.K fd ps [])
    (hx : ∀ σ, PassesAt CX X σ (E σ)) (ha : PA X (e :: es) t) (hdb : (x == ("__debug__" : Str)) = false := by decide) (he : starEach (e :: es) X.env = (false, eval e X.env) :: starEach es X.env := by rfl) (hpl : (backTo pos (starEach es X.env)).any (·.1) = false := by rfl) :
    PE X (.Call (.Name x p) (e :: es) [] pos) (tMakeS C sp E t) := by
  refine ⟨fun pins s σ H Q I h => ?_⟩
  refine wpAny_Call_Name_kw (ld_glob I hg hm ?_ hdb)
  refine PySem.W.callWith_K (h₀ := X.base) I.ok.mod.kin M.kp (thn (ha.run pos pins s σ H _ I h) fun us s1 ⟨vs, H1, I1, r, q⟩ => ⟨I1.kIn, ?_⟩) he hpl
  have hq := q (s1.heap.objs.size + 1) s1.heap.objs.size (I1.hok.fresh (Nat.le_succ _)) (I1.hok.fresh (Nat.le_refl _)) (Nat.ne_of_lt (Nat.lt_succ_self _))
  have I2 := Inv.made (C := C) I1
  have r2 : Vals (V.ref (s1.heap.objs.size + 1) :: vs) (Value.ref (s1.heap.objs.size + 1) :: us) := .cons rfl r
  have hl : (Value.ref (s1.heap.objs.size + 1) :: us).length = ps.length := by
    have z := r2.length
    rw [F.len _ _ _ _ hq] at z
    exact z.symm
  have hb2 := hb _ (Value.ref (s1.heap.objs.size + 1) :: us) I2.kIn (by rw [List.append_nil]; exact hl)
  rw [List.append_nil] at hb2
  refine wpAny_call (make_map (f := f) I1.kIn M.makes M.init (beq_iff_eq.mp M.fn) (codeAny_mono (F.run _ X.stack _ _ ⟨Value.ref (s1.heap.objs.size + 1) :: us, []⟩ (Value.ref (s1.heap.objs.size + 1) :: us) _ _ (E σ) (hr.make C us [])
    (I2.env0.make C us []) hb2 r2 hq) fun r s' hq' => ?_))
  cases r with
  | error e => exact hx σ pins _ _ e s' I2 hq'
  | ok fl =>
    cases fl with
    | ret u =>
      obtain ⟨v, H', I3, rv, ev, q3⟩ := I2.after hq'
      subst ev
      exact ⟨rv, ⟨V.ref (s1.heap.objs.size + 1), H', I3, rfl, q3⟩⟩
    | next => exact False.elim hq'
    | brk => exact False.elim hq'
    | cont => exact False.elim hq'
/-! ### an exception class with one field -/
structure XcC (K : PySem.W.Frag) (mg : Str → Option Value) (x : Str) (B : Addr) (f : Str) (fI : Addr) : Prop where
  gB : mg x = some (.ref B)
  ox : OexC K B
  iC : PySem.W.findIn K (.ref B) "__init__" = some (some (.ref fI))
  tI : PySem.W.typeIn K (.ref fI) = some (.type "function")
  xf : XfC K B
  noF : PySem.W.findIn K (.ref B) f = some none
  exm : PySem.W.exmOne K (.ref B) (.ref B) = some true
def spXI (B : Addr) (f : Str) : Sp := fun vs H Q _ => ∃ (a : Addr) (y : V), vs = [.ref a, y] ∧ H a = some (exo a B none) ∧ ∀ dx, H dx = none → dx ≠ a → Q .non (upd (upd H dx (exd dx [(f, y)])) a (exo a B (some dx)))
abbrev sBMI : Stmt := inClass cBadMend 0
theorem scBMI : FnScope ["self", "at"] ["self", "at"] (defScope sBMI) := ⟨rfl, rfl, rfl, by decide +kernel, rfl, by decide +kernel, by decide +kernel⟩
/-- what a raise of such a class leaves -/
def Raised (B : Addr) (f : Str) (y : V) (H : Hp) (E : XK) : Prop := ∀ d H', Ex H H' → H d = none → H' d = some (.xd [(f, y)]) → E (.ref B) (some d) H'
theorem Raised.mono {B : Addr} {f : Str} {y : V} {H H1 : Hp} {E : XK} (h : Raised B f y H E) (e : Ex H H1) : Raised B f y H1 E := fun d H' e2 hd => h d H' (e.trans e2) (fresh_back e hd)
section
variable {P : Program} {w : World} {K : PySem.W.Frag} {mg : Str → Option Value} {base : Heap} {B fB f : Addr} {fd : FuncData} {k : Nat}
theorem ok_bmi (F : Fun K "__init__" "BadMend.__init__" sBMI f fd) (N : XcC K mg "BadMend" B "at" fB) : FnOk P w K mg base CX0 (k + 1) f fd ["self", "at"] (spXI B "at") := by
  refine F.ok scBMI (fun vs H Q E h => ?_) (fun cdv A outer s H vs Q E hr h => ?_)
  · obtain ⟨a, y, rfl, _⟩ := h
    rfl
  · obtain ⟨a, y, rfl, ha, q⟩ := h
    refine ⟨_, pss_one (ps_ost (pv 0) (pv 1)), ?_⟩
    exact ⟨_, rfl, _, rfl, a, B, rfl, N.ox, N.noF, .inl ⟨ha, fun dx n ne => q dx n ne⟩⟩
/-- what raising makes of the heap -/
theorem raised_end {H1 : Hp} {B : Addr} {f : Str} {y : V} {E : XK} (h : Raised B f y H1 E) {a dx : Addr} (na : H1 a = none) (nd : (upd H1 a (exo a B none)) dx = none) (ne : dx ≠ a) : E (.ref B) (some dx) (upd (del (upd (upd (upd H1 a (exo a B none)) dx (exd dx [(f, y)])) a (exo a B (some dx))) a) dx (.xd [(f, y)])) := by
  have nd1 : H1 dx = none := (upd_ne ne).symm.trans nd
  refine h dx _ (fun b o hb => ?_) nd1 upd_same
  have b1 : b ≠ dx := ne_of_none hb nd1
  have b2 : b ≠ a := ne_of_none hb na
  rw [upd_ne b1, del_ne b2, upd_ne b2, upd_ne b1, upd_ne b2]
  exact hb
end
end Hy
/-! module HsEnumT -/
set_option maxHeartbeats 4000000
/-! for i, x in enumerate(a tuple). -/
namespace Hs
open PySem PySem.Spec PyProof.Rows L2
set_option maxHeartbeats 1000000 in
theorem meets_enum1 {v : Value} {o : Obj} {H : Heap → Prop} (B : Begins v o H) :
    Meets (Builtin.«enumerate.__new__» ⟨[.type "enumerate", v], []⟩) (fun _ R s => H s.heap ∧
      R (.ok (.ret (.ref (s.heap.push o).objs.size))) { s with heap := (s.heap.push o).push { cls := .type "enumerate", data := .fields #[.none, .bool false, .ref s.heap.objs.size, rawInt 0, .none, .none] } }) :=
  .of_wp fun prog w A R s h => by
    obtain ⟨hp, g, d, tk, os⟩ := s; obtain ⟨h1, h⟩ := h
    have hsub := sub_enumerate
    have q1 : ∀ {A' : Around} {E : Value → Shared → Prop} {Q : Value → Shared → Prop}, Q (.ref hp.objs.size) ⟨hp.push o, g, d, tk, os⟩ → wpAny (model prog w) A' (pyIter v) Q E ⟨hp, g, d, tk, os⟩ :=
      fun q => B.iter prog w _ _ ⟨hp, g, d, tk, os⟩ _ h1 q
    wp_walk using q1
    refine wpAny_stack_any fun st => wpAny_pure ?_
    split
    · rename_i c _ _ _ _ _
      cases (c == Value.type "enumerate")
      · wp_walk using q1
        exact ⟨_, rfl, h⟩
      · wp_walk using q1
        exact ⟨_, rfl, h⟩
    · wp_walk using q1
      exact ⟨_, rfl, h⟩
section
variable {prog : Program} {w : World} {A : Around} {E : Value → Shared → Prop} {s : Shared}
theorem call_enum1 {v : Value} {o : Obj} {H : Heap → Prop} {Q : Value → Shared → Prop} (B : Begins v o H) (h1 : H s.heap)
    (h : ∀ h', IsEnum h' (s.heap.objs.size + 1) s.heap.objs.size 0 .none → h'.get? s.heap.objs.size = some o → h'.objs.size = s.heap.objs.size + 2 →
      (∀ b o, s.heap.get? b = some o → h'.get? b = some o) → Q (.ref (s.heap.objs.size + 1)) { s with heap := h' }) :
    wpAny (model prog w) A (call (.type "enumerate") [v]) Q E s := by
  refine callType_new F.called_enumerate (by decide) (F.typeCall_enumerate_1 _) (F.newCall_enumerate_1 _) (fun obj => F.args_object_init_2 obj _) F.entry_enumerate_new
    (meets_enum1 B) ⟨h1, ?_⟩
  have hz : (s.heap.push o).objs.size = s.heap.objs.size + 1 := Heap.size_push ..
  show _ ∧ _
  rw [hz]
  have he : IsEnum ((s.heap.push o).push { cls := .type "enumerate", data := .fields #[.none, .bool false, .ref s.heap.objs.size, rawInt 0, .none, .none] }) (s.heap.objs.size + 1) s.heap.objs.size 0 .none := by
    have := Heap.get?_push_size (s.heap.push o) (o := { cls := .type "enumerate", data := .fields #[.none, .bool false, .ref s.heap.objs.size, rawInt 0, .none, .none] }) rfl
    rw [hz] at this; exact this
  refine ⟨⟨_, he, rfl⟩, h _ he (Heap.get?_push_of_some _ (Heap.get?_push_size _ B.free)) (by rw [Heap.size_push, hz]) fun b o x => Heap.get?_push_of_some _ (Heap.get?_push_of_some _ x)⟩
end
def ItenT (K : PySem.W.Frag) (a : Addr) (xs : List V) : It :=
  ⟨fun i H => i < xs.length ∧ SqT K H a xs, fun i H v H' => ∃ T x, v = .ref T ∧ H T = none ∧ H' = upd H T (.tup [.int (i : Nat), x]) ∧ xs[i]? = some x, fun i H => xs.length ≤ i ∧ SqT K H a xs⟩
theorem turn_enumT {P : Program} {w : World} {K : PySem.W.Frag} {elts : List Expr} {kk : Nat} {tpos : Pos} (a : Addr) (xs : List V) (e it : Addr) :
    Turn P w K (.Tuple elts kk tpos) (ItenT K a xs) [e, it] e (fun i h => (∃ old, IsEnum h e it ((i : Nat) : Int) old) ∧ h.IsTupleIter it a i ∧ e ≠ it ∧ e ≠ a ∧ it ≠ a ∧ i ≤ xs.length) where
  mem := by simp
  obj := fun i h st b hb => by
    obtain ⟨⟨old, he⟩, ⟨o, ho, hc, hd⟩, _⟩ := st
    have e' : b = e ∨ b = it := by simpa using hb
    rcases e' with z | z
    · rw [z]; exact ⟨_, he, fun v q => nomatch q⟩
    · rw [z]; exact ⟨o, ho, fun v q => by rw [hd] at q; cases q⟩
  keep := fun i h h' st k => by
    obtain ⟨⟨old, he⟩, ht, hne⟩ := st
    exact ⟨⟨old, k e (by simp) _ he⟩, ht.at fun o q => k it (by simp) o q, hne⟩
  item := by
    intro X hP hw hK hc i pins s σ H E I hf st hg
    subst hP hw hK
    obtain ⟨⟨old, he⟩, hit, hne, hea, hia, _⟩ := st
    obtain ⟨hlt, hq⟩ := hg
    obtain ⟨its, rv, tp, hz⟩ := I.tuple hq
    have hlen := rv.length
    have hel : e < s.heap.objs.size := Heap.lt_size he
    have hil : it < s.heap.objs.size := by obtain ⟨_, q, _⟩ := hit; exact Heap.lt_size q
    have hd : X.A.in1.handled = none := I.ok.hd hc
    have W := Draws.tuple (prog := X.prog) (w := X.w) hd it a (Ne.symm hia) its.toArray
    refine wpAny_pyNext_enum_itemD W he ⟨hit, tp⟩ (by rw [List.size_toArray]; omega) hne (by simp [hne, hea]) fun u h' tk hu ho hit' hT hsz hk => ?_
    have hu' : its[i]? = some u := by simpa using hu
    obtain ⟨x, hx, ru⟩ : ∃ x, xs[i]? = some x ∧ RelV x u := by
      obtain ⟨u', hu2, ru⟩ := rv.get (List.getElem?_eq_getElem hlt)
      rw [hu'] at hu2
      cases Option.some.inj hu2
      exact ⟨_, List.getElem?_eq_getElem hlt, ru⟩
    refine ⟨_, rfl, wpAny_letOwnedTupleGo_enum (s := { s with heap := h', toks := tk + 1 }) ho fun h'' he' sb => ?_⟩
    have hT2 : h''.get? s.heap.objs.size = some { cls := .type "tuple", data := .seq #[.int i tk, u] } := (sb.2 _ (Nat.ne_of_gt hel)).trans hT
    have new : ObjOk X.prog X.w (upd H s.heap.objs.size (.tup [.int (i : Nat), x])) h'' s.heap.objs.size (.tup [.int (i : Nat), x]) :=
      ⟨by show 2 ≤ sizeLine; decide, [.int i tk, u], .cons ⟨_, rfl⟩ (.cons ru .nil), ⟨_, hT2, rfl, _, rfl⟩⟩
    have I1 : Inv X pins σ (upd H s.heap.objs.size (.tup [.int (i : Nat), x])) { s with heap := h'', toks := tk + 1 } :=
      I.turnedNew (ch := [e, it]) (fun b ob hb q => (sb.2 b (fun z => hb (by simp [z]))).trans (hk b ob (fun z => hb (by simp [z])) (fun z => hb (by simp [z])) q)) hf (Nat.le_refl _) new
    refine ⟨.ref s.heap.objs.size, _, I1, rfl, ⟨_, x, rfl, I.hok.fresh (Nat.le_refl _), rfl, hx⟩, ⟨⟨u, ?_⟩, hit'.1.at fun o q => (sb.2 it (Ne.symm hne)).trans q, hne, hea, hia, hlt⟩, fun b hb => ?_⟩
    · have e1 : ((i + 1 : Nat) : Int) = (i : Int) + 1 := by omega
      rw [e1]; exact he'
    · have hb' : b < s.heap.objs.size := by
        have e' : b = e ∨ b = it := by simpa using hb
        rcases e' with z | z
        · rw [z]; exact hel
        · rw [z]; exact hil
      rw [upd_ne (Nat.ne_of_lt hb')]
      exact (hf b hb).1
  done := by
    intro X hP hw hK hc i pins s σ H E I hf st hg
    subst hP hw hK
    obtain ⟨⟨old, he⟩, hit, hne, hea, hia, hle⟩ := st
    obtain ⟨hge, hq⟩ := hg
    have ei : i = xs.length := Nat.le_antisymm hle hge
    subst ei
    obtain ⟨its, rv, tp, hz⟩ := I.tuple hq
    have hlen := rv.length
    obtain ⟨f0, f1, f2, f3, f4, f5⟩ := hf it (by simp)
    have hd : X.A.in1.handled = none := I.ok.hd hc
    have W := Draws.tuple (prog := X.prog) (w := X.w) hd it a (Ne.symm hia) its.toArray
    have hn : its.toArray.size = xs.length := by rw [List.size_toArray, hlen]
    rw [hn] at W
    exact wpAny_pyNext_enum_endD W he ⟨hit, tp⟩ fun h' eb => ⟨rfl, I.turned (t' := s.toks) (fun b o hb q => eb b o hb q) f0 f1 f3 f4 f5⟩
  self := fun A i s Q E st h => let ⟨⟨_, he⟩, _⟩ := st; wpAny_pyIter_enum he h
def iEnumT (K : PySem.W.Frag) (ta : TA) : TI := fun σ H R => ta σ H fun vs H1 => ∃ a xs, vs = [.ref a] ∧ SqT K H1 a xs ∧ R (ItenT K a xs) H1
theorem pi_enumT {X : Cx} {e : Expr} {ta : TA} {p pos tpos : Pos} {elts : List Expr} {kk : Nat} (hg : Gl X "enumerate") (hm : X.mg "enumerate" = none) (ha : PA X [e] ta) (hs : starEach [e] X.env = [(false, eval e X.env)] := by rfl) :
    PI X (.Tuple elts kk tpos) (.Call (.Name "enumerate" p) [e] [] pos) (iEnumT X.K ta) := by
  refine ⟨fun pins s σ H R I h => ?_⟩
  refine Call_ (ld_blt I hg hm boot_enumerate (PyProof.Rows.callWith_type1 (thn (ha.run pos pins s σ H _ I h) fun us s1 ⟨vs, H1, I1, r1, q1⟩ => ?_) hs rfl))
  obtain ⟨a, xs, ex, hq, q⟩ := q1
  subst ex
  cases r1 with
  | cons r rr =>
    cases rr
    cases r
    obtain ⟨its, rv, tp, hz⟩ := I1.tuple hq
    have hal : a < s1.heap.objs.size := by obtain ⟨_, z, _⟩ := id tp; exact Heap.lt_size z
    refine call_enum1 (begins_tuple a its.toArray) tp fun h' he hit hsz hk => wpAny_pyIter_enum he ?_
    have I2 : Inv X pins σ H1 { s1 with heap := h' } := I1.kept (t' := s1.toks) hk
    refine ⟨s1.heap.objs.size + 1, [s1.heap.objs.size + 1, s1.heap.objs.size], _, _, H1, rfl, I2, turn_enumT a xs (s1.heap.objs.size + 1) s1.heap.objs.size, ⟨⟨.none, he⟩, ⟨_, hit, rfl, rfl⟩, Nat.succ_ne_self _, Nat.ne_of_gt (Nat.lt_succ_of_lt hal), Nat.ne_of_gt hal, Nat.zero_le _⟩, fun b hb => ?_, q⟩
    have e' : b = s1.heap.objs.size + 1 ∨ b = s1.heap.objs.size := by simpa using hb
    have hle : s1.heap.objs.size ≤ b := by
      rcases e' with z | z
      · rw [z]; exact Nat.le_add_right _ _
      · rw [z]; exact Nat.le_refl _
    exact I1.fpOk hle (I1.hok.fresh hle)
/-- a for over enumerate(a tuple) -/
theorem for_enumT {K : PySem.W.Frag} {a : Addr} {xs : List V} {g : TG} {tb : TS} {D : Ends} {σ : L2.St} {H : Hp} (Pv : Nat → L2.St → Hp → Prop) (h0 : Pv 0 σ H) (hl : ∀ i σ H, Pv i σ H → SqT K H a xs)
    (hs : ∀ i x T σ H, xs[i]? = some x → Pv i σ H → H T = none → g (.ref T) σ (upd H T (.tup [.int (i : Nat), x])) fun σ2 H2 => tb { D with nx := Pv (i + 1), ct := Pv (i + 1), bk := D.nx } σ2 H2) (hd : ∀ σ H, Pv xs.length σ H → D.nx σ H) :
    ∃ W : Nat → Nat → L2.St → Hp → Prop, (∃ m, W 0 m σ H) ∧ ∀ i m σ H, W i m σ H →
      ((ItenT K a xs).stop i H ∧ D.nx σ H) ∨ ((ItenT K a xs).go i H ∧ ∃ N : L2.St → Hp → Prop, (∀ σ' H', N σ' H' → ∃ m', m' < m ∧ W (i + 1) m' σ' H') ∧ ∀ v H', (ItenT K a xs).yld i H v H' → g v σ H' fun σ2 H2 => tb { D with nx := N, ct := N, bk := D.nx } σ2 H2) := by
  refine ⟨fun i m σ H => m = xs.length - i ∧ i ≤ xs.length ∧ Pv i σ H, ⟨xs.length, by simp, Nat.zero_le _, h0⟩, ?_⟩
  rintro i m σ H ⟨rfl, hi, p⟩
  by_cases hlt : i < xs.length
  · refine .inr ⟨⟨hlt, hl i σ H p⟩, Pv (i + 1), fun σ' H' p' => ⟨xs.length - (i + 1), by omega, rfl, hlt, p'⟩, fun v H' y => ?_⟩
    obtain ⟨T, x, rfl, nT, rfl, hx⟩ := y
    exact hs i x T σ H hx p nT
  · have e : i = xs.length := by omega
    subst e
    exact .inl ⟨⟨Nat.le_refl _, hl _ σ H p⟩, hd σ H p⟩
end Hs
/-! module HmInit -/
set_option maxHeartbeats 4000000
/-! Mend.__init__: made of right pairs, or BadMend. -/
namespace Hm
open PySem PySem.Spec PyProof.Rows L2 Evl Hc Hs Hy PySem.W
abbrev KList := List L2.Key
def keyD : PyData → KList
  | .tuple [m, w, a] => [.inr (S (txD m)), .inr (S (txD w)), .inl (nuD a)]
  | _ => []
def keyOf : PyData → KList
  | .tuple [d, _] => keyD d
  | _ => []
def nuOf : PyData → Int
  | .tuple [_, n] => nuD n
  | _ => 0
theorem pair_at {H : Hp} {d : PyData} {v : V} (h : Dq H v d) (hp : isPairD d = true) : ∃ (p q : Addr) (m w : List Nat) (i n : Int), v = .ref p ∧ H p = some (.tup [.ref q, .int n]) ∧ H q = some (.tup [.str (S m), .str (S w), .int i]) ∧ d = .tuple [.tuple [.str (S m), .str (S w), .int i], .int n] ∧ 1 ≤ n ∧ n ≤ 3 := by
  cases h with
  | @tup a xs ds h1 h2 =>
    match ds, xs, h2, hp with
    | [dr, n], [vd, vn], .cons hd (.cons hn .nil), hp =>
      have hp' : (isDoorD dr && (isI n && (decide (1 ≤ nuD n) && decide (nuD n ≤ 3)))) = true := hp
      simp only [Bool.and_eq_true, decide_eq_true_eq] at hp'
      obtain ⟨k1, k2, k3, k4⟩ := hp'
      obtain ⟨j, rfl, rfl⟩ := hn.isI k2
      cases hd with
      | @tup b ys es g1 g2 =>
        match es, ys, g2, k1 with
        | [m, w, i], [vm, vw, vi], .cons hm (.cons hw (.cons hi .nil)), k1 =>
          have k1' : ((isS m && (isWord (txD m) && (wayIn w && isI i))) && ((decide (-1 ≤ nuD i) && decide (nuD i ≤ 2)) && (decide (nuD i = -1) == isRes w))) = true := k1
          simp only [Bool.and_eq_true] at k1'
          obtain ⟨⟨c1, _, c2, c3⟩, _⟩ := k1'
          obtain ⟨L, rfl, rfl, _⟩ := hm.isS c1
          unfold wayIn at c2
          obtain ⟨M, rfl, rfl, _⟩ := hw.isS (Bool.and_eq_true_iff.mp c2).1
          obtain ⟨i', rfl, rfl⟩ := hi.isI c3
          exact ⟨_, _, _, _, _, _, rfl, h1, g1, rfl, k3, k4⟩
      | _ => cases k1
  | _ => cases hp
/-- the rows ahead of the i-th are right -/
def OkRows (ds : List PyData) (i : Nat) : Prop := ∀ j d, j < i → ds[j]? = some d → isPairD d = true ∧ keyOf d ∉ (ds.take j).map keyOf
def entsD (ds : List PyData) (i : Nat) : List DEnt := (ds.take i).map fun d => (keyOf d, V.int (nuOf d))
theorem OkRows.next {ds : List PyData} {i : Nat} {d : PyData} (h : OkRows ds i) (hd : ds[i]? = some d) (h1 : isPairD d = true) (h2 : keyOf d ∉ (ds.take i).map keyOf) : OkRows ds (i + 1) := fun j e hj he => by
  rcases Nat.lt_succ_iff_lt_or_eq.mp hj with hj | rfl
  · exact h j e hj he
  · rw [hd] at he
    cases he
    exact ⟨h1, h2⟩
theorem val_ents {k : KList} : ∀ kvs : List (KList × V), (valV kvs k).isSome = kvs.any fun kv => decide (kv.1 = k)
  | [] => rfl
  | p :: r => by
    rw [List.any_cons]
    by_cases e : p.1 = k
    · rw [valV_pos e, decide_eq_true e]
      rfl
    · rw [show valV (p :: r) k = valV r k by simp [valV, List.find?_cons, e], val_ents r, decide_eq_false e]
      rfl
theorem any_keys {k : KList} (kvs : List (KList × V)) : (kvs.any fun kv => decide (kv.1 = k)) = true ↔ k ∈ kvs.map Prod.fst := by
  rw [List.any_eq_true, List.mem_map]
  exact ⟨fun ⟨kv, h, e⟩ => ⟨kv, h, of_decide_eq_true e⟩, fun ⟨kv, h, e⟩ => ⟨kv, h, decide_eq_true e⟩⟩
theorem put_ents {k : KList} {v : V} {kvs : List (KList × V)} (h : k ∉ kvs.map Prod.fst) : putK kvs k v = kvs ++ [(k, v)] := by
  unfold putK
  rw [if_neg]
  exact fun z => h ((any_keys kvs).mp z)
theorem ents_keys (ds : List PyData) (i : Nat) : (entsD ds i).map Prod.fst = (ds.take i).map keyOf := by
  unfold entsD
  rw [List.map_map]
  rfl
theorem ents_next {ds : List PyData} {i : Nat} {d : PyData} (hd : ds[i]? = some d) : entsD ds (i + 1) = entsD ds i ++ [(keyOf d, V.int (nuOf d))] := by
  unfold entsD
  rw [List.take_add_one, hd, List.map_append]
  rfl
/-- what sorting asks -/
theorem rows_alike {ds : List PyData} (h : ∀ d ∈ ds, ∃ m w i n, d = .tuple [.tuple [.str (S m), .str (S w), .int i], .int n]) : AllAlike ds := fun a ha b hb => by
  obtain ⟨_, _, _, _, rfl⟩ := h a ha
  obtain ⟨_, _, _, _, rfl⟩ := h b hb
  rfl
theorem rows_sortable {ds : List PyData} (h : ∀ d ∈ ds, ∃ m w i n, d = .tuple [.tuple [.str (S m), .str (S w), .int i], .int n]) : Sortable ds := .inl fun a ha => by
  obtain ⟨_, _, _, _, rfl⟩ := h a ha
  exact ⟨_, _, rfl⟩
theorem ents_dp {K : PySem.W.Frag} {H : Hp} : ∀ (ts : List Addr) (ds : List PyData), EntAt H ts (entsD ds ds.length) → (∀ d ∈ ds, ∃ m w i n, d = .tuple [.tuple [.str (S m), .str (S w), .int i], .int n]) → DpAll K H (ts.map V.ref) ds
  | [], [], _, _ => .nil
  | [], _ :: _, h, _ => by
    have := h.1
    simp [entsD] at this
  | _ :: _, [], h, _ => by
    have := h.1
    simp [entsD] at this
  | t :: ts, d :: ds, h, hr => by
    have e : entsD (d :: ds) (d :: ds).length = (keyOf d, V.int (nuOf d)) :: entsD ds ds.length := by
      unfold entsD
      rw [List.length_cons, List.take_succ_cons, List.map_cons]
    rw [e] at h
    obtain ⟨hl, ha⟩ := h
    obtain ⟨m, w, i, n, rfl⟩ := hr d List.mem_cons_self
    obtain ⟨q, h1, h2⟩ := ha 0 _ t rfl rfl
    refine .cons (.tup (st_of h1) (.cons (.tup (st_of h2) (.cons (.str _) (.cons (.str _) (.cons (.int _) .nil)))) (.cons (.int _) .nil))) (ents_dp ts ds ⟨by simpa using hl, fun j kv t' hj ht => ha (j + 1) kv t' (by simpa using hj) (by simpa using ht)⟩ fun d' hd' => hr d' (List.mem_cons_of_mem _ hd'))
structure MdC (K : PySem.W.Frag) (C : Addr) : Prop where
  cl : Cls K C
  nP : NoAttr K C "pairs"
  nF : NoAttr K C "_floors_at"
structure MdP (mg : Str → Option Value) : Prop where
  enu : mg "enumerate" = none
  tup : mg "tuple" = none
  srt : mg "sorted" = none
  lst : mg "list" = none
/-- a mend of these rows -/
def MendAt (C x : Addr) (ds : List PyData) (H : Hp) : Prop := ∃ dx tp F ts, H x = some (.ins C dx [("pairs", .ref tp), ("_floors_at", .ref F)]) ∧ H F = some (.dT (entsD ds ds.length)) ∧ H tp = some (.tup ((sorting (ts.map V.ref) ds).map (·.1))) ∧ EntAt H ts (entsD ds ds.length)
def spMendI (C B : Addr) : Sp := fun vs H Q E => ∃ (x dx p : Addr) (vals : List V) (ds : List PyData), vs = [.ref x, .ref p] ∧ H x = some (.ins C dx []) ∧ H p = some (.tup vals) ∧ DqAll H vals ds ∧ (∀ d ∈ ds, d.depth ≤ 8) ∧ ds.length ≤ 100 ∧
  ((OkRows ds ds.length ∧ ∀ H', Hc.Ext (fun b => b = x) H H' → MendAt C x ds H' → Q .non H') ∨
   ∃ k d, ds[k]? = some d ∧ OkRows ds k ∧ (isPairD d = true → keyOf d ∈ (ds.take k).map keyOf) ∧ Raised B "at" (.int (k : Int)) H E)
abbrev sMI : Stmt := inClass cMend 0
abbrev nMI : List Str := ["self", "pairs", "floors_at", "at", "pair"]
theorem scMI : FnScope nMI ((["self"] : List Str) ++ [("pairs" : Str)]) (defScope sMI) := ⟨rfl, rfl, rfl, by decide +kernel, rfl, by decide +kernel, by decide +kernel⟩
theorem boot_sorted' : bootBuiltins "sorted" = some (.builtin "sorted") := by decide +kernel
/-- how *pairs binds -/
theorem bind_mi (kV doc pm : Value) (an : Option Addr) (cdv ct : Value) : ∀ us rest : List Value, us.length = (["self"] : List Str).length → bindArgs (PySem.W.fnOf "__init__" "Mend.__init__" (defArgs sMI) (defBody sMI) (defScope sMI) .none kV doc pm an cdv ct) ⟨us ++ rest, []⟩ = (newTuple rest >>= fun t => pure ((["self"] : List Str).zip us ++ [(("pairs" : Str), t)]))
  | [u], [], _ => by rfl
  | [u], v :: vs, _ => by rfl
end Hm
/-! module HmMade -/
set_option maxHeartbeats 4000000
/-! Mend.__init__, its body. -/
namespace Hm
open PySem PySem.Spec PyProof.Rows L2 Evl Hc Hs Hy PySem.W
section
variable {P : Program} {w : World} {K : PySem.W.Frag} {mg : Str → Option Value} {base : Heap} {C B fB f : Addr} {fd fdB : FuncData}
theorem ext_ex {S : Addr → Prop} {H H1 : Hp} (e : Ex H H1) : Hc.Ext S H H1 := fun b o h _ => e b o h
theorem ev_dinT {σ : L2.St} {H : Hp} {ty td : TE} {b d : Addr} {kvs : List (KList × V)} {k : KList} (h1 : Ev ty σ H (.ref b)) (h2 : Ev td σ H (.ref d)) (hb : H b = some (.tup (k.map kV))) (hd : H d = some (.dT kvs)) : Ev (tDIn ty td) σ H (.bl (valV kvs k).isSome) := fun H1 e Q q =>
  h1 H1 e _ fun H2 e2 => h2 H2 (e.trans e2) _ fun H3 e3 => ⟨d, _, rfl, DGet.t (k := k) (((e.trans e2).trans e3) _ _ hd) (((e.trans e2).trans e3) _ _ hb), q H3 (e2.trans e3)⟩
theorem dq_get {H : Hp} : ∀ {vs : List V} {ds : List PyData} {i : Nat} {v : V}, DqAll H vs ds → vs[i]? = some v → ∃ d, ds[i]? = some d ∧ Dq H v d
  | _, _, 0, _, .cons h _, e => by cases e; exact ⟨_, rfl, h⟩
  | _, _, i + 1, _, .cons _ h, e => dq_get (i := i) h (by simpa using e)
theorem dq_at {H : Hp} : ∀ {vs : List V} {ds : List PyData} {i : Nat} {d : PyData}, DqAll H vs ds → ds[i]? = some d → ∃ v, vs[i]? = some v ∧ Dq H v d
  | _, _, 0, _, .cons h _, e => by cases e; exact ⟨_, rfl, h⟩
  | _, _, i + 1, _, .cons _ h, e => dq_at (i := i) h (by simpa using e)
theorem ents_len (ds : List PyData) (i : Nat) : (entsD ds i).length ≤ ds.length := by
  unfold entsD
  rw [List.length_map, List.length_take]
  omega
theorem _root_.Hm.EntAt.ex {H H' : Hp} {ts : List Addr} {kvs : List DEnt} (h : EntAt H ts kvs) (e : Ex H H') : EntAt H' ts kvs := ⟨h.1, fun j kv t hj ht => by
  obtain ⟨q, h1, h2⟩ := h.2 j kv t hj ht
  exact ⟨q, e _ _ h1, e _ _ h2⟩⟩
def spMI (C B : Addr) : Sp := fun vs H Q E => ∃ (ws rest : List V), vs = ws ++ rest ∧ ws.length = (["self"] : List Str).length ∧ rest.length ≤ sizeLine ∧ ∀ p, H p = Option.none → spMendI C B (ws ++ [V.ref p]) (upd H p (.tup rest)) Q E
theorem ok_mi {k : Nat} (F : Fun K "__init__" "Mend.__init__" sMI f fd) (T : MdP mg) (c : MdC K C) (N : XcC K mg "BadMend" B "at" fB) (FB : FnOk P w K mg base CX0 1 fB fdB ["self", "at"] (spXI B "at")) (bB : Binds K fdB ["self", "at"] []) (rP : Hs.Rd P w K mg base "is_pair" k ["pair"] spPair) (hk : 2 ≤ k) :
    FnR P w K mg base (L2.CX P w) (k + 1) f (spMI C B) := by
  obtain ⟨oc, od, kV, doc, pm, an, cdv, ct, osl, rfl, lk, hcd⟩ := F.ex
  refine StX.fn_star (sp := spMendI C B) lk hcd scMI StX.cxUp (bind_mi kV doc pm an cdv ct) fun A outer s H vs Q E hr h => ?_
  obtain ⟨x, dx, p, vals, ds, rfl, hx, hp, hds, hdep, hlen, h⟩ := h
  have hu := hu_of hr
  refine ⟨_, pss_cons (ps_set (i := 2) scMI.nd rfl (.inl rfl) pe_dnewT)
    (pss_cons (ps_for (passes_of rfl) rfl (pi_enumT (by rfl) T.enu (pa_cons (pv 1) pa_nil)) (pg_tup (by rfl) (pgs_cons (pg_name (i := 3) scMI.nd rfl (.inl rfl)) (pgs_cons (pg_name (i := 4) scMI.nd rfl (.inl rfl)) pgs_nil)))
      (pss_cons (ps_if (PW.pt (pw_or (pt_not (pt_val (pe_rd rP hr (Nat.le_refl _) (by rfl) (pa_cons (pv 4) pa_nil)))) (pw_or1 (pt_cmp (pc_din hu (pe_ix ix_tup (pv 4) pe_int (fun _ _ => rfl)) (pv 2)))))) (pss_one (ps_raise rfl (takes_of rfl rfl rfl rfl) (pmk_oex N.ox N.iC N.tI FB (hr.mono (Nat.le_trans (by decide) hk)) bB .nil pass0 (by rfl) N.gB (pa_cons (pv 3) pa_nil)))) pss_nil)
      (pss_one (ps_dput hu (pv 2) (pe_ix ix_tup (pv 4) pe_int (fun _ _ => rfl)) (pe_ix ix_tup (pv 4) pe_int (fun _ _ => rfl)) (by rfl)))))
    (pss_cons (ps_fld (pv 0) (pe_callTy call_tuple_of (by rfl) T.tup boot_tuple (pa_cons (pe_callB (cr_sortD hr.units) (by rfl) T.srt boot_sorted' (pa_cons (pe_callTy (call_listItems rfl) (by rfl) T.lst boot_list' (pa_cons (pe_bm0 PySem.F.plainAttrs_dict PySem.F.slot_dict_items PySem.F.type_dict_items DX.mt_itemsT (pv 2)) pa_nil)) pa_nil)) pa_nil)) (by rfl))
    (pss_one (ps_fld (pv 0) (pv 2) (by rfl))))), ?_⟩
  obtain ⟨m, hm, hcase⟩ : ∃ m, OkRows ds m ∧ ((m = ds.length ∧ ∀ H', Hc.Ext (fun b => b = x) H H' → MendAt C x ds H' → Q .non H') ∨ ∃ d, ds[m]? = some d ∧ (isPairD d = true → keyOf d ∈ (ds.take m).map keyOf) ∧ Raised B "at" (.int (m : Int)) H E) := by
    rcases h with ⟨h1, h2⟩ | ⟨k, d, h1, h2, h3, h4⟩
    · exact ⟨_, h1, .inl ⟨rfl, h2⟩⟩
    · exact ⟨k, h2, .inr ⟨d, h1, h3, h4⟩⟩
  refine q_asgX ?_
  intro F nF
  have eF : Ex H (upd H F (.dT [])) := Ex.new nF
  have Fx : F ≠ x := fun z => by
    rw [z, hx] at nF
    cases nF
  show tSeq _ _ _ [some (.ref x), some (.ref p), some (.ref F), none, none] (upd H F (.dT []))
  have hlv := hds.len
  refine ⟨_, rfl, p, vals, rfl, st_of (eF _ _ hp), ?_⟩
  refine for_enumT (K := K) (a := p) (xs := vals) (fun i σ' H' => i ≤ m ∧ (∃ v3 v4, σ' = [some (.ref x), some (.ref p), some (.ref F), v3, v4]) ∧ Ex H H' ∧ H' F = some (.dT (entsD ds i))) ⟨Nat.zero_le _, ⟨none, none, rfl⟩, eF, upd_same⟩ (fun i σ' H' z => st_of (z.2.2.1 _ _ hp)) (fun i v Ta σ' H' hi z nT => ?_) (fun σ' H' z => ?_)
  · obtain ⟨hle, ⟨v3, v4, rfl⟩, ez, hF⟩ := z
    have eT : Ex H' (upd H' Ta (.tup [.int (i : Nat), v])) := Ex.new nT
    refine ⟨Ta, _, rfl, st_of upd_same, rfl, _, _, rfl, _, _, rfl, rfl, ?_⟩
    show tSeq _ _ _ [some (.ref x), some (.ref p), some (.ref F), some (.int (i : Nat)), some v] _
    generalize upd H' Ta (.tup [.int (i : Nat), v]) = H2 at eT ⊢
    have e2 := ez.trans eT
    have hF2 := eT _ _ hF
    obtain ⟨d, hd, dq⟩ := dq_get hds hi
    have dq2 := dq.ex e2
    have hmem : d ∈ ds := List.mem_of_getElem? hd
    have et : EvT (tOr (tNot (tB (tCall spPair [] E0 (tCons (tVar 4) tNil)))) (tB (tDIn (tOp (rIxT K) (tVar 4) (tC (.int 0))) (tVar 2)))) [some (.ref x), some (.ref p), some (.ref F), some (.int (i : Nat)), some v] H2 (!isPairD d || (entsD ds i).any fun kv => decide (kv.1 = keyOf d)) := by
      refine et_or (et_not (et_B (ev_call (ea_cons (ev_var rfl) ea_nil) (sp_pair dq2 (hdep d hmem))))) fun hz => ?_
      have hpd : isPairD d = true := by
        cases hq : isPairD d <;> rw [hq] at hz <;> first | rfl | cases hz
      obtain ⟨pp, qq, mm, ww, ii, nn, rfl, hp1, hp2, rfl, _, _⟩ := pair_at dq2 hpd
      rw [← val_ents]
      exact et_B (ev_dinT (k := [.inr (S mm), .inr (S ww), .inl ii]) (ev_op (ev_var rfl) ev_c (rv_ixT (st_of hp1) (atI_nat (j := 0) rfl))) (ev_var rfl) hp2 hF2)
    by_cases hlt : i < m
    · obtain ⟨g1, g2⟩ := hm i d hlt hd
      have g3 : ((entsD ds i).any fun kv => decide (kv.1 = keyOf d)) = false := by
        rw [Bool.eq_false_iff]
        exact fun z => g2 (by rw [← ents_keys]; exact (any_keys _).mp z)
      refine q_when (b := false) (et_is et (by rw [g1, g3]; rfl)) (fun z => nomatch z) fun _ H3 e3 => ?_
      obtain ⟨pp, qq, mm, ww, ii, nn, rfl, hp1, hp2, rfl, _, _⟩ := pair_at dq2 g1
      have hF3 := e3 _ _ hF2
      refine (ev_op (ev_var rfl) ev_c (rv_ixT (K := K) (st_of hp1) (atI_nat (j := 1) rfl))) H3 e3 _ fun H4 e4 => ?_
      refine ⟨_, rfl, ?_⟩
      refine (ev_op (ev_var rfl) ev_c (rv_ixT (K := K) (st_of hp1) (atI_nat (j := 0) rfl))) H4 (e3.trans e4) _ fun H5 e5 => ?_
      have e25 := (e3.trans e4).trans e5
      refine ⟨F, _, rfl, DPut.t (k := [.inr (S mm), .inr (S ww), .inl ii]) ((e4.trans e5) _ _ hF3) (e25 _ _ hp2) (Nat.lt_of_le_of_lt (ents_len ds i) (Nat.lt_of_le_of_lt hlen (by decide))), hlt, ⟨_, _, rfl⟩, (e2.trans e25).mut nF, ?_⟩
      rw [upd_same, put_ents (by rw [ents_keys]; exact g2), ents_next hd]
      rfl
    · obtain rfl : i = m := by omega
      rcases hcase with ⟨rfl, _⟩ | ⟨d', hd', hbad, hr'⟩
      · have := (List.getElem?_eq_some_iff.mp hd).1
        omega
      · obtain rfl : d' = d := Option.some.inj (hd'.symm.trans hd)
        refine q_when (b := true) (et_is et (by
          cases hq : isPairD d' with
          | false => rfl
          | true =>
            rw [(any_keys _).mpr (by rw [ents_keys]; exact hbad hq)]
            rfl)) (fun _ H3 e3 => ?_) fun z => nomatch z
        refine ⟨_, rfl, (show 1 ≤ 1000 by decide), fun a na => ⟨a, _, rfl, upd_same, fun dx nd ne => ⟨rfl, dx, [("at", .int (i : Int))], upd_same, (upd_ne ne).trans upd_same, (upd_ne ne).symm.trans nd, ?_⟩⟩⟩
        exact raised_end (hr'.mono (e2.trans e3)) na nd ne
  · obtain ⟨hle, ⟨v3, v4, rfl⟩, ez, hF⟩ := z
    rw [hlv] at hle hF
    obtain ⟨rfl, q⟩ : m = ds.length ∧ ∀ H', Hc.Ext (fun b => b = x) H H' → MendAt C x ds H' → Q .non H' := by
      rcases hcase with h | ⟨d, h, _⟩
      · exact h
      · have := (List.getElem?_eq_some_iff.mp h).1
        omega
    have hrow : ∀ d ∈ ds, ∃ m w i n, d = .tuple [.tuple [.str (S m), .str (S w), .int i], .int n] := fun d hd => by
      obtain ⟨j, hj⟩ := List.mem_iff_getElem?.mp hd
      obtain ⟨v, hv, dv⟩ := dq_at hds hj
      obtain ⟨_, _, mm, ww, ii, nn, _, _, _, rfl, _, _⟩ := pair_at dv (hm j d (List.getElem?_eq_some_iff.mp hj).1 hj).1
      exact ⟨_, _, _, _, rfl⟩
    have hFx : H' x = some (.ins C dx []) := ez _ _ hx
    refine ⟨_, rfl, .inr (.inr (.inl ⟨rfl, .inr ⟨_, hF⟩⟩)), F, _, rfl, rfl, hF, fun pw npw => ?_⟩
    have e1 : Ex H' (upd H' pw (DX.itemsO pw F)) := Ex.new npw
    refine ⟨pw, F, _, rfl, upd_same, e1 _ _ hF, Nat.le_trans (ents_len ds _) (Nat.le_trans hlen (by decide)), fun H2 l ts nl kp hl ent => ?_⟩
    have e2 : Ex H' H2 := e1.trans kp
    refine ⟨l, _, ds, rfl, hl, ents_dp ts ds ent hrow, rows_alike hrow, rows_sortable hrow, ?_, hdep, fun ps nps => ?_⟩
    · rw [List.length_map, ent.1]
      exact Nat.le_trans (ents_len ds _) (Nat.le_trans hlen (by decide))
    have e3 : Ex H' (upd H2 ps (.lst ((sorting (ts.map V.ref) ds).map (·.1)))) := e2.trans (Ex.new nps)
    have e3' : Ex H2 (upd H2 ps (.lst ((sorting (ts.map V.ref) ds).map (·.1)))) := Ex.new nps
    refine ⟨ps, _, rfl, .inl ⟨sq_of upd_same, fun tp ntp => ?_⟩⟩
    have e4' : Ex (upd H2 ps (.lst ((sorting (ts.map V.ref) ds).map (·.1)))) (upd (upd H2 ps (.lst ((sorting (ts.map V.ref) ds).map (·.1)))) tp (.tup ((sorting (ts.map V.ref) ds).map (·.1)))) := Ex.new ntp
    have htp : (upd (upd H2 ps (.lst ((sorting (ts.map V.ref) ds).map (·.1)))) tp (.tup ((sorting (ts.map V.ref) ds).map (·.1)))) tp = some (.tup ((sorting (ts.map V.ref) ds).map (·.1))) := upd_same
    generalize upd (upd H2 ps (.lst ((sorting (ts.map V.ref) ds).map (·.1)))) tp (.tup ((sorting (ts.map V.ref) ds).map (·.1))) = H4 at e4' htp ⊢
    have e4 : Ex H' H4 := e3.trans e4'
    have ent4 := ent.ex (e3'.trans e4')
    refine ⟨_, rfl, x, C, dx, [], rfl, e4 _ _ hFx, c.cl, c.nP, (show 0 < 1000 by decide), ?_⟩
    refine ⟨_, rfl, _, rfl, x, C, dx, _, rfl, upd_same, c.cl, c.nF, (show 1 < 1000 by decide), ?_⟩
    have hFF : F ≠ x := Fx
    have tpx : tp ≠ x := fun z => by
      rw [z, e4 _ _ hFx] at htp
      cases htp
    refine q _ (((ext_ex (S := fun b => b = x) (ez.trans e4)).trans (Ext.put (S := fun b => b = x) rfl)).trans (Ext.put (S := fun b => b = x) rfl)) ⟨dx, tp, F, ts, upd_same, ?_, ?_, ?_⟩
    · rw [upd_ne hFF, upd_ne hFF]
      exact e4 _ _ hF
    · rw [upd_ne tpx, upd_ne tpx]
      exact htp
    · refine ⟨ent4.1, fun j kv t hj ht => ?_⟩
      obtain ⟨qq, h1, h2⟩ := ent4.2 j kv t hj ht
      have t1 : t ≠ x := fun z => by
        rw [z, e4 _ _ hFx] at h1
        cases h1
      have t2 : qq ≠ x := fun z => by
        rw [z, e4 _ _ hFx] at h2
        cases h2
      exact ⟨qq, by rw [upd_ne t1, upd_ne t1]; exact h1, by rw [upd_ne t2, upd_ne t2]; exact h2⟩
end
end Hm
/-! module HmCall -/
set_option maxHeartbeats 4000000
/-! Mend(..) that may raise: for any law. -/
namespace Hm
open PySem PySem.Spec PyProof.Rows L2 Evl Hc Hs Hy PySem.W
/-! ### C(e, ..) by a positional promise of its __init__, that may raise -/
def tMakeRS (C : Addr) (sp : Sp) (E : L2.St → XK) (t : TA) : TE := fun σ H Q => t σ H fun vs H1 => ∀ x dx, H1 x = none → H1 dx = none → dx ≠ x →
  sp (.ref x :: vs) (upd (upd H1 dx (.own x)) x (.ins C dx [])) (fun v H2 => v = .non ∧ Q (.ref x) H2) (E σ)
theorem pe_makeRS {X : Cx} {CX : CXT} {C f : Addr} {k : Nat} {sp : Sp} {E : L2.St → XK} {x : Str} {e : Expr} {es : List Expr} {t : TA} {p pos : Pos} (M : Mk X.K C f) (F : FnR X.prog X.w X.K X.mg X.base CX k f sp) (hr : Room (k + 1) X.A) (hg : Gl X x) (hm : X.mg x = some (.ref C))
    (hx : ∀ σ, PassesAt CX X σ (E σ)) (ha : PA X (e :: es) t) (hdb : (x == ("__debug__" : Str)) = false := by decide) (he : starEach (e :: es) X.env = (false, eval e X.env) :: starEach es X.env := by rfl) (hpl : (backTo pos (starEach es X.env)).any (·.1) = false := by rfl) :
    PE X (.Call (.Name x p) (e :: es) [] pos) (tMakeRS C sp E t) := by
  refine ⟨fun pins s σ H Q I h => ?_⟩
  refine wpAny_Call_Name_kw (ld_glob I hg hm ?_ hdb)
  refine PySem.W.callWith_K (h₀ := X.base) I.ok.mod.kin M.kp (thn (ha.run pos pins s σ H _ I h) fun us s1 ⟨vs, H1, I1, r, q⟩ => ⟨I1.kIn, ?_⟩) he hpl
  have hq := q (s1.heap.objs.size + 1) s1.heap.objs.size (I1.hok.fresh (Nat.le_succ _)) (I1.hok.fresh (Nat.le_refl _)) (Nat.ne_of_lt (Nat.lt_succ_self _))
  have I2 := Inv.made (C := C) I1
  have r2 : Vals (V.ref (s1.heap.objs.size + 1) :: vs) (Value.ref (s1.heap.objs.size + 1) :: us) := .cons rfl r
  refine wpAny_call (make_map (f := f) I1.kIn M.makes M.init (beq_iff_eq.mp M.fn) (codeAny_mono (F _ X.stack _ _ (Value.ref (s1.heap.objs.size + 1) :: us) _ _ (E σ) (hr.make C us []) (I2.env0.make C us []) r2 hq) fun r s' hq' => ?_))
  cases r with
  | error e => exact hx σ pins _ _ e s' I2 hq'
  | ok fl =>
    cases fl with
    | ret u =>
      obtain ⟨v, H', I3, rv, ev, q3⟩ := I2.after hq'
      subst ev
      exact ⟨rv, ⟨V.ref (s1.heap.objs.size + 1), H', I3, rfl, q3⟩⟩
    | next => exact False.elim hq'
    | brk => exact False.elim hq'
    | cont => exact False.elim hq'
theorem drop_M {C : Addr} {sp : Sp} {E : L2.St → XK} {t : TA} {D : Ends} {σ : L2.St} {H H0 : Hp} {vs : List V} (ha : EvA t σ H vs) (h : ∀ H1, Ex H H1 → ∀ x dx, H1 x = none → H1 dx = none → dx ≠ x →
    sp (.ref x :: vs) (upd (upd H1 dx (.own x)) x (.ins C dx [])) (fun v H2 => v = .non ∧ D.nx σ H2) (E σ)) : tDrop (tMakeRS C sp E t) D σ H := ha H (Ex.refl H) _ h
theorem ev_atL {K : PySem.W.Frag} {σ : L2.St} {H : Hp} {te : TE} {p : Addr} {xs : List V} {v : V} {i : Int} (h : Ev te σ H (.ref p)) (hp : H p = some (.lst xs)) (hv : atI xs i = some v) : Ev (tOp (rIxL K) te (tC (.int i))) σ H v := ev_op h ev_c (rv_ixL (sq_of hp) hv)
/-- isinstance(e, c), e the caught exception, which has a dict -/
def rIsD (K : PySem.W.Frag) (a : Addr) (cls : Value) (d : Option Addr) : List V → Hp → VK → Prop := fun xs H Q => ∃ (D dd : Addr) (fs : List (Str × V)) (c : V) (cv : Value) (b : Bool), xs = [.ref a, c] ∧ cls = .ref D ∧ d = some dd ∧ H dd = some (.xd fs) ∧ ExcC K D ∧ ClsV c cv ∧ PySem.W.kitOne K (.ref D) cv = some b ∧ Q (.bl b) H
theorem call_isD {X : Cx} {a : Addr} {oe : Obj} {cls : Value} {d : Option Addr} {pn : List (Addr × Obj)} (hz : Zc cls d oe) (hf : ∃ vs, oe.data = .fields vs) : CallR (X.suite a ((a, oe) :: pn)) (.builtin "isinstance") (rIsD X.K a cls d) := by
  intro pins s σ H xs us Q I r h
  obtain ⟨D, dd, fs, c, cv, b, rfl, ec, ed, hdd, C, hcv, e, q⟩ := h
  subst ec ed
  obtain ⟨u1, u2, rfl, r1, r2⟩ := vals2 r
  cases (show u1 = Value.ref a from r1)
  have ec := hcv.eq r2
  subst ec
  obtain ⟨hget, _⟩ := I.pin (a, oe) (List.mem_append.mpr (.inl List.mem_cons_self))
  obtain ⟨vs, hv⟩ := hf
  have hx : ObjOk X.prog X.w H s.heap dd (.xd fs) := I.hok dd _ hdd
  obtain ⟨mA, hns, hrr⟩ := hx
  obtain ⟨od, ho, hl⟩ := lookIn_ns hns
  have J : PySem.W.InstAt s.heap a oe D (some od) := ⟨hget, hz.1, by unfold PySem.W.notCls; rw [hv] <;> rfl, by rw [hz.2]; exact ho⟩
  exact PySem.W.kia_one (PySem.W.hc_kitD C) I.kIn J e (fun z => nomatch z) fun tk => ⟨.bl b, H, I.kept (t' := tk) fun _ _ z => z, rfl, q⟩
theorem ev_isD {K : PySem.W.Frag} {σ : L2.St} {H : Hp} {te tc : TE} {a D dd : Addr} {fs : List (Str × V)} {c : V} {cv : Value} {b : Bool} (h : Ev te σ H (.ref a)) (hc : Ev tc σ H c) (hd : H dd = some (.xd fs)) (C : ExcC K D) (hcv : ClsV c cv) (hk : PySem.W.kitOne K (.ref D) cv = some b) : Ev (tCB (rIsD K a (.ref D) (some dd)) (tCons te (tCons tc tNil))) σ H (.bl b) :=
  ev_cb (ea_cons h (ea_cons hc ea_nil)) fun H1 e Q q => ⟨D, dd, fs, c, cv, b, rfl, rfl, rfl, e _ _ hd, C, hcv, hk, q H1 (Ex.refl H1)⟩
theorem ev_xf {σ : L2.St} {H : Hp} {te : TE} {a D dd : Addr} {fs : List (Str × V)} {f : Str} {v : V} (h : Ev te σ H (.ref a)) (hd : H dd = some (.xd fs)) (hl : fs.lookup f = some v) : Ev (tXf a (.ref D) (some dd) D f te) σ H v := fun H1 e Q q =>
  h H1 e _ fun H2 e2 => ⟨rfl, rfl, dd, fs, v, rfl, e2 _ _ (e _ _ hd), hl, q H2 e2⟩
/-- rows that a mend may be made of, or the first wrong one -/
def Told (ds : List PyData) : Option Nat → Prop
  | none => OkRows ds ds.length
  | some k => OkRows ds k ∧ ∃ d, ds[k]? = some d ∧ (isPairD d = true → keyOf d ∈ (ds.take k).map keyOf)
theorem sp_mi {C B x dx : Addr} {H1 : Hp} {vals : List V} {ds : List PyData} {Q : VK} {E : XK} {t : Option Nat} (nx : H1 x = none) (nd : H1 dx = none) (ne : dx ≠ x) (hd : DqAll H1 vals ds) (hdep : ∀ d ∈ ds, d.depth ≤ 8) (hl : ds.length ≤ 100) (ht : Told ds t)
    (h0 : t = none → ∀ H', Ex H1 H' → MendAt C x ds H' → Q .non H') (h1 : ∀ k, t = some k → Raised B "at" (.int (k : Int)) H1 E) : spMI C B (.ref x :: vals) (upd (upd H1 dx (.own x)) x (.ins C dx [])) Q E := by
  have ex1 : Ex H1 (upd (upd H1 dx (.own x)) x (.ins C dx [])) := (Ex.new nd).trans (Ex.new ((upd_ne (Ne.symm ne)).trans nx))
  refine ⟨[.ref x], vals, rfl, rfl, ?_, fun p np => ?_⟩
  · rw [hd.len]
    exact Nat.le_trans hl (by decide)
  have e2 := Ex.new (o := HO.tup vals) np
  have e12 := ex1.trans e2
  refine ⟨x, dx, p, vals, ds, rfl, e2 _ _ upd_same, upd_same, hd.ex e12, hdep, hl, ?_⟩
  cases t with
  | none => exact .inl ⟨ht, fun H' e' hm => h0 rfl H' (fun b o hb => e' b o (e12 _ _ hb) (fun z => by rw [z, nx] at hb; cases hb)) hm⟩
  | some k =>
    obtain ⟨g1, d, g2, g3⟩ := ht
    exact .inr ⟨k, d, g2, g1, g3, (h1 k rfl).mono e12⟩
end Hm
/-! module HmOwn -/
set_option maxHeartbeats 4000000
/-! len(o), o[i], str(o), repr(o), ==, != by a class's own defs. -/
namespace PySem.W
open PySem PySem.Calls PyProof.Rows Builtin
section
variable {prog : Program} {w : World} {M : Model} {A : Around} {E : Value → Shared → Prop} {s : Shared} {K : Frag} {x C L f : Addr} {h₀ : Heap} {m : Str → Option Value} {ox : Obj} {od : Option Obj}
theorem hs_ifBoundB {name : Str} {id : String} {args : List Value} {Q : Option Value → Shared → Prop} (X : K.In s.heap) (I : InstAt s.heap x ox C od) (hs : findIn K (.ref C) name = some (some (.builtin id)))
    (hb : ∀ self, bindSpecial (.builtin id) self = pure (.builtin id, [self])) (h : wpAny M A (call (.builtin id) (.ref x :: args)) (fun v => Q (some v)) E s) : wpAny M A (callSpecialIfBound? (.ref x) name args) Q E s := by
  simp only [callSpecialIfBound?, bindSpecialIfBound?]
  refine wpAny_holding (wpAny_bind (wpAny_bind (wpAny_bind (I.type.here ((looks_findIn X hs).here ?_)))))
  refine wpAny_bind (wpAny_askSetting (wpAny_ite ?_))
  have fin : wpAny M A (call (.builtin id) ([.ref x] ++ args) >>= fun v => pure (some v)) Q E s := wpAny_bind (wpAny_mono h (fun v s' h' => wpAny_pure h') fun _ _ h' => h')
  split
  · exact wpAny_bind ((Looks.of_pure (hb _)).here (wpAny_pure (by exact fin)))
  · exact wpAny_tryCatch (wpAny_bind ((Looks.of_pure (hb _)).here (wpAny_pure (by exact fin))))
theorem hs_one {b : Value} {Q : Value → Shared → Prop} (hu : A.in1.units < cLine) (X : K.In s.heap) (I : InstAt s.heap x ox C od) (hm : mroIn K C (.type "object") = some true) (hs : findIn K (.ref C) "__eq__" = some (some (.ref f))) (hf : isFn K (.ref f) = true)
    (h : wpAny (model prog w) A.in1 (call (.ref f) [.ref x, b]) (fun v s' => ∃ k, v = .bool k ∧ Q (.bool (!k)) s') E s) : wpAny (model prog w) A (call (.builtin "object.__ne__") [.ref x, b]) Q E s := by
  refine wpAny_call (codeAny_call_builtin PySem.F.cmp_object.ne.plain PySem.F.cmpEntry_ne (check_slot (i := "object.__ne__") (owner := "object") (n := "__ne__") (by decide +kernel) (by decide +kernel) (I.type.andThen (looks_mroIn X hm)) (PySem.F.cmpArgs_ne _ _) ?_))
  unfold Builtin.«object.__ne__»
  refine wpAny_bind (m := slotArgs "__ne__" 1 _) (wpAny_pure ?_)
  refine wpAny_bind (m := cRoomFor _ _) (wpAny_cRoomFor hu ?_)
  refine wpAny_bind (m := callSpecialIfBound? (.ref x) (Str.ofString "__eq__") _) (ifBound_K X I hs hf (wpAny_mono h (fun r s' hq => ?_) fun _ _ y => y))
  obtain ⟨k, rfl, q⟩ := hq
  exact wpAny_bind (wpAny_truthy_bool (wpAny_pure q))
theorem hs_ne {b tb : Value} {Q : Value → Shared → Prop} (hu : A.units < cLine) (hu1 : A.in1.units < cLine) (X : K.In s.heap) (I : InstAt s.heap x ox C od) (hb : Looks (model prog w) s.heap (typeOf b) tb) (hn : notFirst K C tb = true) (hm : mroIn K C (.type "object") = some true)
    (hn2 : findIn K (.ref C) "__ne__" = some (some (.builtin "object.__ne__"))) (hs : findIn K (.ref C) "__eq__" = some (some (.ref f))) (hf : isFn K (.ref f) = true)
    (h : wpAny (model prog w) A.in1 (call (.ref f) [.ref x, b]) (fun v s' => ∃ k, v = .bool k ∧ Q (.bool (!k)) s') E s) : wpAny (model prog w) A (richCompare .NotEq (.ref x) b) Q E s := by
  have one : wpAny (model prog w) A (tryCompare (.ref x) (cmpInfo .NotEq).2.1 b) (fun r s' => ∃ v, r = some v ∧ Q v s') E s := by
    unfold tryCompare
    refine wpAny_bind (hs_ifBoundB X I hn2 PySem.F.cmp_object.ne.bind (hs_one hu1 X I hm hs hf (wpAny_mono h (fun v s' hv => ?_) fun _ _ e => e)))
    obtain ⟨k, rfl, q⟩ := hv
    exact ⟨k, rfl, wpAny_pure ⟨_, rfl, q⟩⟩
  unfold richCompare
  simp only [oneThing_ref]
  refine wpAny_holding (wpAny_bind (wpAny_cRoomFor hu ?_))
  refine wpAny_bind (I.type.here (wpAny_bind (hb.here ?_)))
  split
  · rename_i q
    have e : subIn K tb (.ref C) = some false := by
      rcases Bool.or_eq_true_iff.mp hn with e | e
      · rw [beq_iff_eq.mp e] at q; simp at q
      · exact beq_iff_eq.mp e
    refine wpAny_bind ((looks_subIn X e).here ?_)
    simp only [Bool.false_eq_true, if_false]
    refine wpAny_bind (wpAny_mono one (fun r s' z => ?_) fun _ _ e => e)
    obtain ⟨v, rfl, hq⟩ := z
    exact wpAny_pure hq
  · refine wpAny_bind (wpAny_pure ?_)
    simp only [Bool.false_eq_true, if_false]
    refine wpAny_bind (wpAny_mono one (fun r s' z => ?_) fun _ _ e => e)
    obtain ⟨v, rfl, hq⟩ := z
    exact wpAny_pure hq
theorem kbo_call {Q : Value → Shared → Prop} {h₁ : Heap} (F : Fr h₁ L s.heap m) (X₀ : K.In h₁) (I : InstAt s.heap x ox C od) (hs : findIn K (.ref C) "__bool__" = some (some (.ref f))) (hf : isFn K (.ref f) = true)
    (h : wpAny (model prog w) A.in1.in1 (call (.ref f) [.ref x]) (BoolBack fun b => Q (.bool b)) E s) : wpAny (model prog w) A (call (.type "bool") [.ref x]) Q E s := by
  refine callType_codes (T := "bool") (Bi := Builtin.«object.__init__») (Q₁ := fun r s₁ => ∃ b, r = .bool b ∧ Q r s₁) PySem.F.called_bool (PySem.F.typeCall_bool_1 _) PySem.F.entry_object_init ?_ ?_
  · refine codeAny_of_tree ?_
    show wpAny _ A.in1.in1 (do checkBuiltinCall "bool.__new__" ⟨[.type "bool", .ref x], []⟩; again (.builtin "bool.__new__" ⟨[.type "bool", .ref x], []⟩)) _ _ s
    refine wpAny_bind (wpAny_of_eq (PySem.F.newCall_bool_1 _) (wpAny_pure ⟨plainId_quiet (by decide +kernel) _, codeAny_builtin PySem.F.entry_bool_new ?_⟩))
    rw [Around.under_plainId (by decide +kernel) _]
    unfold Builtin.«bool.__new__»
    dsimp only
    refine wpAny_bind (wpAny_of_eq (show isType (.type "bool") = pure true from rfl) ?_)
    simp only [Bool.not_true, Bool.false_eq_true, if_false]
    refine wpAny_bind (wpAny_of_eq PySem.F.conv_sub_bool ?_)
    simp only [Bool.not_true, Bool.false_eq_true, if_false]
    refine wpAny_bind (wpAny_of_eq (show someArgs "bool" 0 1 ⟨[.ref x], []⟩ = pure [.ref x] from by kernel_rfl) ?_)
    dsimp only
    refine wpAny_bind (wpAny_mono (truthy_K (Q := fun b s' => Q (.bool b) s') F X₀ I hs hf h) (fun b s' q => ?_) fun _ _ y => y)
    exact wpAny_pure ⟨b, rfl, q⟩
  · rintro obj s₁ ⟨b, rfl, hq⟩
    exact ⟨typeIs_bool _ _, PySem.F.args_object_init_2 _ _, object_init_meets PySem.F.called_bool.init.lookup PySem.F.called_bool.made (by decide) prog w A.in1 _ s₁ ⟨typeIs_bool _ _, rfl, hq⟩⟩
end
end PySem.W

namespace Hs
open PySem PySem.Spec PyProof.Rows L2 Evl
/-- a value whose class is told -/
inductive Kn (K : PySem.W.Frag) (H : Hp) : V → Value → Prop where
  | non : Kn K H .non (.type "NoneType")
  | int (i : Int) : Kn K H (.int i) (.type "int")
  | str (x : Str) : Kn K H (.str x) (.type "str")
  | tup {a : Addr} {xs : List V} (h : SqT K H a xs) : Kn K H (.ref a) (.type "tuple")
  | lst {a : Addr} {xs : List V} (h : H a = some (.lst xs)) : Kn K H (.ref a) (.type "list")
  | ins {a C dx : Addr} {fs : List (Str × V)} (h : H a = some (.ins C dx fs)) : Kn K H (.ref a) (.ref C)
section
variable {X : Cx} {pins : List (Addr × Obj)} {σ : L2.St} {H : Hp} {s : Shared}
theorem kn_looks {x : V} {u t : Value} (I : Inv X pins σ H s) (rx : RelV x u) (k : Kn X.K H x t) : PySem.W.Looks (model X.prog X.w) s.heap (typeOf u) t := by
  cases k with
  | non =>
    cases rx
    exact PySem.W.Looks.of_pure rfl
  | int i =>
    obtain ⟨t, rfl⟩ := rx
    exact PySem.W.Looks.of_pure rfl
  | str x =>
    obtain ⟨t, rfl⟩ := rx
    exact PySem.W.Looks.of_pure rfl
  | tup h =>
    cases rx
    obtain ⟨its, r, ⟨o, ho, hc, n, hd⟩, _⟩ := I.tuple h
    exact fun A Q E s k q => wpAny_typeOf_ref (k _ _ ho) (by rw [hc]; exact q)
  | lst h =>
    cases rx
    obtain ⟨_, its, n, _, _, ho⟩ := I.lstM h
    exact fun A Q E s k q => wpAny_typeOf_ref (k _ _ ho) q
  | ins h =>
    cases rx
    obtain ⟨mA, J, _⟩ := ins_get I.hok h
    obtain ⟨od, J, _⟩ := J.look
    exact J.type
/-- a def of a class, called with values -/
theorem own_call {n : Nat} {f : Addr} {fd : FuncData} {ps : List Str} {sp : Sp} {A : Around} {us : List Value} {vs : List V} {Q : VK} {E : Value → Shared → Prop} (F : FnOk X.prog X.w X.K X.mg X.base CX0 n f fd ps sp) (hb : Binds X.K fd ps []) (hr : Room n A) (hf : A.frames = X.A.frames)
    (I : Inv X pins σ H s) (r : Vals vs us) (h : sp vs H Q E0) : wpAny (model X.prog X.w) A (call (.ref f) us) (fun v s' => ∃ z H', Inv X pins σ H' s' ∧ RelV z v ∧ Q z H') E s := by
  have e0 : Env0 X.prog X.w X.K X.mg X.base A X.stack s H := by
    have e := I.env0
    exact ⟨by rw [hf]; exact e.frames, e.mod, e.bs, e.bsz, e.funs, e.frf, e.hok, e.bare⟩
  have hl := F.len _ _ _ _ h
  refine wpAny_call (codeAny_mono (F.run A X.stack s H ⟨us, []⟩ us vs Q E0 hr e0 (by
    have := hb s us I.kIn (by rw [List.append_nil, ← r.length]; exact hl)
    simpa using this) r h) fun r s' hq => ?_)
  cases r with
  | error e => exact False.elim hq
  | ok fl =>
    cases fl with
    | ret w =>
      obtain ⟨z, H', I', rz, q⟩ := I.after hq
      exact ⟨z, H', I', rz, q⟩
    | next => exact False.elim hq
    | brk => exact False.elim hq
    | cont => exact False.elim hq
end
/-- one of a class's own defs, by a special name -/
structure Du (P : Program) (w : World) (K : PySem.W.Frag) (mg : Str → Option Value) (base : Heap) (C : Addr) (m : Str) (k : Nat) (ps : List Str) (sp : Sp) : Prop where
  ex : ∃ (f : Addr) (fd : FuncData), PySem.W.findIn K (.ref C) m = some (some (.ref f)) ∧ PySem.W.isFn K (.ref f) = true ∧ PySem.W.fnIn K f = true ∧ Binds K fd ps [] ∧ FnOk P w K mg base CX0 k f fd ps sp
def rLenO (C : Addr) (sp : Sp) : List V → Hp → VK → Prop := fun xs H Q => ∃ a dx fs, xs = [.ref a] ∧ H a = some (.ins C dx fs) ∧ sp [.ref a] H (fun v H' => ∃ i : Int, v = .int i ∧ 0 ≤ i ∧ i < 2 ^ 62 ∧ Q (.int i) H') E0
def rStrO (C : Addr) (sp : Sp) : List V → Hp → VK → Prop := fun xs H Q => ∃ a dx fs, xs = [.ref a] ∧ H a = some (.ins C dx fs) ∧ sp [.ref a] H (fun v H' => ∃ y, v = .str y ∧ Q (.str y) H') E0
def rIxO (C : Addr) (sp : Sp) : R2 := fun x y H Q => ∃ a dx fs, x = .ref a ∧ H a = some (.ins C dx fs) ∧ sp [.ref a, y] H Q E0
def rEqO (K : PySem.W.Frag) (C : Addr) (sp : Sp) : R2 := fun x y H Q => ∃ a dx fs tb, x = .ref a ∧ H a = some (.ins C dx fs) ∧ Kn K H y tb ∧ PySem.W.notFirst K C tb = true ∧ sp [.ref a, y] H (fun v H' => ∃ k, v = .bl k ∧ Q (.bl k) H') E0
def rNeO (K : PySem.W.Frag) (C : Addr) (sp : Sp) : R2 := fun x y H Q => ∃ a dx fs tb, x = .ref a ∧ H a = some (.ins C dx fs) ∧ Kn K H y tb ∧ PySem.W.notFirst K C tb = true ∧ sp [.ref a, y] H (fun v H' => ∃ k, v = .bl k ∧ Q (.bl (!k)) H') E0
section
variable {X : Cx} {C : Addr} {k j : Nat} {ps : List Str} {sp : Sp}
theorem units_of {A : Around} {n : Nat} (hr : Room n A) : A.units < cLine := by have := hr.un; omega
theorem call_lenO (d : Du X.prog X.w X.K X.mg X.base C "__len__" k ps sp) (hr : Room (k + 1) X.A) : CallR X (.builtin "len") (rLenO C sp) := by
  intro pins s σ H xs us Q I r h
  obtain ⟨a, dx, fs, rfl, ha, q⟩ := h
  obtain ⟨u, rfl, rx⟩ := vals1 r
  cases rx
  obtain ⟨f, fd, hs, hf, hf2, hb, F⟩ := d.ex
  obtain ⟨mA, J, _⟩ := ins_get I.hok ha
  obtain ⟨od, J, _⟩ := J.look
  obtain ⟨m, hF⟩ := I.fr
  refine PySem.W.len_K hF I.ok.mod.kin J hs hf (wpAny_mono (own_call (vs := [.ref a]) F hb hr.in1 rfl I (.cons rfl .nil) q) (fun v s' hq => ?_) fun _ _ z => z)
  obtain ⟨z, H', I', rz, i, rfl, i0, i1, q⟩ := hq
  obtain ⟨t, rfl⟩ := rz
  refine ⟨⟨i0, by omega⟩, .int i, H', I'.tok _, ⟨_, rfl⟩, q⟩
theorem op_eqO (d : Du X.prog X.w X.K X.mg X.base C "__eq__" k ps sp) (hr : Room k X.A) : OpR X (compareOp .Eq) (rEqO X.K C sp) := by
  intro pins s σ H x y v u Q I rx ry h
  obtain ⟨a, dx, fs, tb, rfl, ha, kn, nf, q⟩ := h
  cases rx
  obtain ⟨f, fd, hs, hf, hf2, hb, F⟩ := d.ex
  obtain ⟨mA, J, _⟩ := ins_get I.hok ha
  obtain ⟨od, J, _⟩ := J.look
  obtain ⟨m, hF⟩ := I.fr
  show wpAny (model X.prog X.w) X.A (richCompare .Eq (.ref a) u) _ _ _
  refine PySem.W.cmp_K (op := .Eq) (units_of hr) hF I.ok.mod.kin J (kn_looks I ry kn) nf hs hf (wpAny_mono (own_call (vs := [.ref a, y]) F hb hr rfl I (.cons rfl (.cons ry .nil)) q) (fun v s' hq => ?_) fun _ _ z => z)
  obtain ⟨z, H', I', rz, k, rfl, q⟩ := hq
  cases rz
  exact ⟨.bl k, H', I', rfl, q⟩
theorem op_neO (d : Du X.prog X.w X.K X.mg X.base C "__eq__" k ps sp) (hr : Room (k + 1) X.A) (hm : PySem.W.mroIn X.K C (.type "object") = some true) (hn : PySem.W.findIn X.K (.ref C) "__ne__" = some (some (.builtin "object.__ne__"))) : OpR X (compareOp .NotEq) (rNeO X.K C sp) := by
  intro pins s σ H x y v u Q I rx ry h
  obtain ⟨a, dx, fs, tb, rfl, ha, kn, nf, q⟩ := h
  cases rx
  obtain ⟨f, fd, hs, hf, hf2, hb, F⟩ := d.ex
  obtain ⟨mA, J, _⟩ := ins_get I.hok ha
  obtain ⟨od, J, _⟩ := J.look
  show wpAny (model X.prog X.w) X.A (richCompare .NotEq (.ref a) u) _ _ _
  refine PySem.W.hs_ne (units_of hr) (units_of hr.in1) I.kIn J (kn_looks I ry kn) nf hm hn hs hf (wpAny_mono (own_call (vs := [.ref a, y]) F hb hr.in1 rfl I (.cons rfl (.cons ry .nil)) q) (fun v s' hq => ?_) fun _ _ z => z)
  obtain ⟨z, H', I', rz, k, rfl, q⟩ := hq
  cases rz
  exact ⟨k, rfl, .bl (!k), H', I', rfl, q⟩
theorem pe_ixO {e i : Expr} {te ti : TE} {pos : Pos} (d : Du X.prog X.w X.K X.mg X.base C "__getitem__" k ps sp) (hr : Room (k + 1) X.A) (he : PE X e te) (hi : PE X i ti)
    (hsl : ∀ (x : Addr) (u : Value), subscripted i true (.ref x) u = runValue (.builtin "lifetime.subscript" ⟨[.ref x, u], []⟩)) : PE X (.Subscript e i pos) (tOp (rIxO C sp) te ti) := by
  refine ⟨fun pins s σ H Q I h => ?_⟩
  refine Subscript_ (binT he hi I h fun v u s2 x y H2 I2 rx ry q => ?_)
  obtain ⟨a, dx, fs, rfl, ha, q⟩ := q
  cases rx
  obtain ⟨f, fd, hs, hf, hf2, hb, F⟩ := d.ex
  obtain ⟨mA, J, _⟩ := ins_get I2.hok ha
  obtain ⟨od, J, _⟩ := J.look
  obtain ⟨m, hF⟩ := I2.fr
  exact PySem.W.sub_K hF I2.ok.mod.kin J hs hf2 hf (wpAny_mono (own_call (vs := [.ref a, y]) F hb hr.in1 rfl I2 (.cons rfl (.cons ry .nil)) q) (fun v s' hq => hq) fun _ _ z => z) (hsl _ _)
end
end Hs
/-! module HmCase -/
set_option maxHeartbeats 4000000
/-! upper and lower of names; words that are still free. -/
namespace Hy
open PySem PySem.Spec PyProof.Rows L2 Evl Hc Hs
theorem low_small : ∀ c ∈ smalls, Unicode.lowerOf c = [c] := by decide +kernel
theorem low_large : ∀ c ∈ larges, Unicode.lowerOf c = [c + 32] := by decide +kernel
theorem up_small : ∀ c ∈ smalls, Unicode.upperOf c = [c - 32] := by decide +kernel
theorem flatten_arr (ls : List (List Nat)) : (ls.map List.toArray).toArray.flatten = ls.flatten.toArray := by simp
theorem lower_S (L : List Nat) (h : ∀ c ∈ L, c ≠ 931) : Txt.lower (S L) = S (L.flatMap Unicode.lowerOf) := by
  have e : (S L).cps.mapIdx (fun i _ => (Unicode.lowerAt (S L).cps i).toArray) = ((L.map Unicode.lowerOf).map List.toArray).toArray := by
    apply Array.ext
    · simp
    · intro i h1 h2
      have hi : i < L.length := by simpa using h1
      have hc : L[i] ∈ L := List.getElem_mem hi
      have hn : (L[i] == 931) = false := by simpa using h _ hc
      simp [Unicode.lowerAt, hi, hn]
      intro hx
      exact absurd hx (h _ hc)
  show (⟨((S L).cps.mapIdx fun i _ => (Unicode.lowerAt (S L).cps i).toArray).flatten⟩ : Str) = _
  rw [e, flatten_arr, List.flatMap_def]
theorem upper_S (L : List Nat) : Txt.upper (S L) = S (L.flatMap Unicode.upperOf) := by
  have e : (S L).cps.mapIdx (fun _ c => (Unicode.upperOf c).toArray) = ((L.map Unicode.upperOf).map List.toArray).toArray := by
    apply Array.ext
    · simp
    · intro i h1 h2
      simp
  show (⟨((S L).cps.mapIdx fun _ c => (Unicode.upperOf c).toArray).flatten⟩ : Str) = _
  rw [e, flatten_arr, List.flatMap_def]
/-- a word with a large first letter -/
def capd : List Nat → List Nat
  | [] => []
  | c :: m => (c - 32) :: m
theorem sm_lt {c : Nat} (h : c ∈ smalls) : 97 ≤ c ∧ c ≤ 122 := by
  revert c
  decide
theorem la_of {c : Nat} (h : c ∈ smalls) : c - 32 ∈ larges := by
  revert c
  decide
theorem flat_low {m : List Nat} (h : ∀ c ∈ m, c ∈ smalls) : m.flatMap Unicode.lowerOf = m := by
  induction m with
  | nil => rfl
  | cons c m ih =>
    rw [List.flatMap_cons, low_small c (h c List.mem_cons_self), ih fun x hx => h x (List.mem_cons_of_mem _ hx)]
    rfl
structure Small (w : List Nat) : Prop where
  all : ∀ c ∈ w, c ∈ smalls
  le : w.length ≤ 8
  pos : 1 ≤ w.length
theorem Small.good {w : List Nat} (h : Small w) : GoodNm (capd w) := by
  cases w with
  | nil => exact absurd h.pos (by simp)
  | cons c m =>
    refine ⟨?_⟩
    show (decide (((c - 32) :: m).length ≤ 8) && decide (c - 32 ∈ larges) && areSmall m) = true
    rw [Bool.and_eq_true, Bool.and_eq_true]
    refine ⟨⟨decide_eq_true (by have := h.le; simpa using this), decide_eq_true (la_of (h.all c List.mem_cons_self))⟩, ?_⟩
    unfold areSmall
    rw [List.all_eq_true]
    exact fun x hx => decide_eq_true (h.all x (List.mem_cons_of_mem _ hx))
theorem Small.lower {w : List Nat} (h : Small w) : Txt.lower (S (capd w)) = S w := by
  cases w with
  | nil => exact absurd h.pos (by simp)
  | cons c m =>
    have hc := h.all c List.mem_cons_self
    have hm : ∀ x ∈ m, x ∈ smalls := fun x hx => h.all x (List.mem_cons_of_mem _ hx)
    rw [lower_S _ (fun x hx => by
      rcases List.mem_cons.mp hx with rfl | hx
      · have := sm_lt hc
        omega
      · have := sm_lt (hm x hx)
        omega)]
    congr 2
    show ((c - 32) :: m).flatMap Unicode.lowerOf = c :: m
    rw [List.flatMap_cons, low_large _ (la_of hc), flat_low hm]
    have := sm_lt hc
    show (c - 32 + 32) :: m = c :: m
    rw [Nat.sub_add_cancel (by omega)]
theorem Small.upper {w : List Nat} (h : Small w) : Txt.upper (S (w.take 1)) = S ((capd w).take 1) := by
  cases w with
  | nil => exact absurd h.pos (by simp)
  | cons c m =>
    rw [upper_S]
    show S (List.flatMap Unicode.upperOf [c]) = S [c - 32]
    rw [List.flatMap_cons, up_small c (h.all c List.mem_cons_self)]
    rfl
theorem capd_drop (w : List Nat) : (capd w).take 1 ++ w.drop 1 = capd w := by cases w <;> rfl
theorem capd_inj {v w : List Nat} (hv : Small v) (hw : Small w) (e : capd v = capd w) : v = w := by
  have h1 := hv.lower
  rw [e, hw.lower] at h1
  exact (S_inj h1).symm
/-! ### free words -/
theorem free_word {w : List Nat} (h : ∀ c ∈ w, c ∈ smalls) {tk : List Nm} (ht : tk.length ≤ 8) : ∃ c ∈ smalls, (w.take 7 ++ [c]) ∉ tk ++ resv := by
  by_cases hx : ∃ c ∈ smalls, (w.take 7 ++ [c]) ∉ tk ++ resv
  · exact hx
  · exfalso
    have hsub : smalls.map (fun c => w.take 7 ++ [c]) ⊆ tk ++ resv := fun x hx2 => by
      obtain ⟨c, hc, rfl⟩ := List.mem_map.mp hx2
      apply Classical.byContradiction
      intro hz
      exact hx ⟨c, hc, hz⟩
    have hnd : (smalls.map fun c => w.take 7 ++ [c]).Nodup := by
      have h0 : smalls.Nodup := by decide
      rw [List.nodup_iff_pairwise_ne] at h0 ⊢
      refine List.Pairwise.map _ (fun a b hab z => hab ?_) h0
      have := List.append_cancel_left z
      simpa using this
    have hl := List.Nodup.length_le_of_subset hnd hsub
    rw [List.length_map, List.length_append] at hl
    have h1 : smalls.length = 26 := rfl
    have h2 : resv.length = 14 := by decide
    omega
end Hy
/-! module HsDraw -/
set_option maxHeartbeats 4000000
/-! The draws of a law: where its state stands, and that each draw gives some number below its bound and leaves all else. -/
namespace Hc
open PySem PySem.Spec PyProof.Rows L2

/-- a draw's state: the list st, with the great numbers at g, the small ones at sm -/
def DrawSt (H : Hp) (st g sm : Addr) : Prop := ∃ (gs ss : List Int) (n z : Int), H st = some (.lst [.ref g, .ref sm, .int n, .int z]) ∧ H g = some (.lst (gs.map V.int)) ∧ H sm = some (.lst (ss.map V.int)) ∧
  (∀ x ∈ gs, 0 ≤ x) ∧ (∀ x ∈ ss, 0 ≤ x ∧ x < 2 ^ 40) ∧ ss.length ≤ 63 ∧ gs.length ≤ 63 ∧ 0 ≤ n ∧ 0 ≤ z ∧ z < 2 ^ 63 ∧ g ≠ sm
/-- what a draw writes -/
def Dr (st g : Addr) : Addr → Prop := fun b => b = st ∨ b = g
theorem DrawSt.ext {H H' : Hp} {st g sm : Addr} {S : Addr → Prop} (d : DrawSt H st g sm) (e : Ext S H H') (h1 : ¬ S st) (h2 : ¬ S g) (h3 : ¬ S sm) : DrawSt H' st g sm := by
  obtain ⟨gs, ss, n, z, a1, a2, a3, r⟩ := d
  exact ⟨gs, ss, n, z, e _ _ a1 h1, e _ _ a2 h2, e _ _ a3 h3, r⟩
theorem DrawSt.same {H H' : Hp} {st g sm : Addr} (d : DrawSt H st g sm) (e : Same H H') : DrawSt H' st g sm := by
  obtain ⟨gs, ss, n, z, a1, a2, a3, r⟩ := d
  exact ⟨gs, ss, n, z, e _ _ a1, e _ _ a2, e _ _ a3, r⟩

/-- a free place is none of the state's -/
theorem DrawSt.off {H : Hp} {st g sm p : Addr} (d : DrawSt H st g sm) (h : H p = none) : p ≠ st ∧ p ≠ g ∧ p ≠ sm := by
  obtain ⟨_, _, _, _, a1, a2, a3, _⟩ := d
  exact ⟨(ne_of_none a1 h).symm, (ne_of_none a2 h).symm, (ne_of_none a3 h).symm⟩
theorem DrawSt.put {H : Hp} {st g sm p : Addr} {o : HO} (d : DrawSt H st g sm) (n : p ≠ st ∧ p ≠ g ∧ p ≠ sm) : DrawSt (upd H p o) st g sm := by
  obtain ⟨gs, ss, a, z, a1, a2, a3, r⟩ := d
  exact ⟨gs, ss, a, z, (upd_ne n.1.symm).trans a1, (upd_ne n.2.1.symm).trans a2, (upd_ne n.2.2.symm).trans a3, r⟩
theorem dr_off {st g sm p : Addr} (n : p ≠ st ∧ p ≠ g ∧ p ≠ sm) : ¬ Dr st g p := fun z => z.elim n.1 n.2.1
/-- what was written behind H at a place that is free in H -/
theorem Ext.puts {S : Addr → Prop} {H H' : Hp} {p : Addr} {o : HO} (e : Ext S H H') (h : H p = none) : Ext S H (upd H' p o) := fun b u z n => by
  rw [upd_ne (ne_of_none z h)]
  exact e b u z n

structure TxtD (mg : Str → Option Value) : Prop where
  int : mg "int" = none
  abs : mg "abs" = none
  len : mg "len" = none

def spStart (K : PySem.W.Frag) : Sp := fun vs H Q _ => ∃ (a : Addr) (ns : List Int), vs = [.ref a] ∧ SqL K H a (ns.map V.int) ∧ ns.length ≤ 63 ∧
  ∀ (H' : Hp) (st g sm : Addr), Same H H' → H st = none → H g = none → H sm = none → DrawSt H' st g sm → Q (.ref st) H'
def spDraw : Sp := fun vs H Q _ => ∃ (st g sm : Addr) (m : Int), vs = [.ref st, .int m] ∧ DrawSt H st g sm ∧ 0 < m ∧ m < 2 ^ 60 ∧
  ∀ (r : Int) (H' : Hp), 0 ≤ r → r < m → Ext (Dr st g) H H' → DrawSt H' st g sm → Q (.int r) H'
def spOf (K : PySem.W.Frag) : Sp := fun vs H Q _ => ∃ (st g sm l : Addr) (xs : List V), vs = [.ref st, .ref l] ∧ DrawSt H st g sm ∧ (SqL K H l xs ∨ SqT K H l xs) ∧ ¬ Dr st g l ∧ 0 < xs.length ∧ xs.length < 2 ^ 60 ∧
  ∀ (i : Nat) (v : V) (H' : Hp), xs[i]? = some v → Ext (Dr st g) H H' → DrawSt H' st g sm → Q v H'

section
variable {P : Program} {w : World} {K : PySem.W.Frag} {mg : Str → Option Value} {base : Heap}
abbrev nStart : List Str := ["_law_script", "_law_cells", "_law_great", "_law_small", "_law_cell"]
theorem scStart : FnScope nStart ["_law_script"] (defScope sStart) := ⟨rfl, rfl, rfl, by decide +kernel, rfl, by decide +kernel, by decide +kernel⟩
theorem scDraw : FnScope ["_law_state", "_law_many", "_law_great", "_law_small", "_law_taken", "_law_own", "_law_mixed"] ["_law_state", "_law_many"] (defScope sDraw) := ⟨rfl, rfl, rfl, by decide +kernel, rfl, by decide +kernel, by decide +kernel⟩
theorem scOf : FnScope ["_law_state", "_law_some"] ["_law_state", "_law_some"] (defScope sOf) := ⟨rfl, rfl, rfl, by decide +kernel, rfl, by decide +kernel, by decide +kernel⟩

theorem boot_int : bootBuiltins "int" = some (.type "int") := by decide +kernel
theorem boot_abs : bootBuiltins "abs" = some (.builtin "abs") := by decide +kernel

theorem ok_draw {f : Addr} {fd : FuncData} {k : Nat} (F : Fun K "_law_draw" "_law_draw" sDraw f fd) (T : TxtD mg) : FnOk P w K mg base CX0 (k + 1) f fd ["_law_state", "_law_many"] spDraw := by
  refine F.ok scDraw (fun vs H Q E h => ?_) (fun cdv A outer s H vs Q E hr h => ?_)
  · obtain ⟨st, g, sm, m, rfl, _⟩ := h
    rfl
  · obtain ⟨st, g, sm, m, rfl, ⟨gs, ss, n, z, hst, hg, hsm, gpos, spos, slen, glen, n0, z0, z1, gsm⟩, m0, m1, q⟩ := h
    refine ⟨_, pss_cons (ps_par (i := 2) (j := 3) (by rfl) scDraw.nd rfl rfl (by decide) rfl rfl (pa_cons (pe_ix ix_list (pv 0) pe_int (fun _ _ => rfl)) (pa_cons (pe_ix ix_list (pv 0) pe_int (fun _ _ => rfl)) pa_nil)) (by rfl))
      (pss_cons (ps_augS (pv 0) pe_int pg_list pe_int ip_add set_list)
      (Evl.pss_cut (ps_if (PW.pt (pw_and (pt_truth (pv 2) (by intro _; rfl)) (pw_and1 (pt_cmpR op_eq (pe_ix ix_list (pv 2) pe_int (fun _ _ => rfl)) pe_int (nomark _)))))
          (pss_one (ps_expr (pe_bm PySem.F.plainAttrs_list PySem.F.slot_list_pop PySem.F.type_list_pop mt_popAt (pv 2) (pa_cons pe_int pa_nil)))) pss_nil)
      (pss_cons (ps_if (pt_truth (pv 2) (by intro _; rfl))
          (pss_cons (ps_set (i := 4) scDraw.nd rfl (.inl rfl) (pe_op op_mod (pe_callTy call_int1 (by rfl) T.int boot_int (pa_cons (pe_ix ix_list (pv 2) pe_int (fun _ _ => rfl)) pa_nil)) (pv 1)))
            (pss_cons (ps_asg (pe_op op_fdivW (pe_ix ix_list (pv 2) pe_int (fun _ _ => rfl)) (pv 1)) (pg_sub (pv 2) pe_int set_list))
            (pss_one (ps_ret (pv 4))))) pss_nil)
      (Evl.pss_cut (ps_set (i := 5) scDraw.nd rfl (.inl rfl) (pe_ifExp (pt_truth (pv 3) (by intro _; rfl)) (pe_ix ix_list (pv 3) (pe_op op_mod (pe_callTy call_int1 (by rfl) T.int boot_int (pa_cons (pe_ix ix_list (pv 0) pe_int (fun _ _ => rfl)) pa_nil)) (pe_callB call_len_seq (by rfl) T.len PySem.boot_len (pa_cons (pv 3) pa_nil))) (fun _ _ => rfl)) pe_int))
      (pss_cons (ps_asg (pe_op op_mod (pe_callTy call_int1 (by rfl) T.int boot_int (pa_cons
            (pe_op op_add (pe_op op_add (pe_op op_add (pe_op op_mul (pe_ix ix_list (pv 0) pe_int (fun _ _ => rfl)) pe_int) (pe_op op_mul (pv 5) pe_int)) (pe_op op_mul (pe_ix ix_list (pv 0) pe_int (fun _ _ => rfl)) pe_int)) pe_int) pa_nil)) pe_int) (pg_sub (pv 0) pe_int set_list))
      (pss_cons (ps_set (i := 6) scDraw.nd rfl (.inl rfl) (pe_op op_mod (pe_callTy call_int1 (by rfl) T.int boot_int (pa_cons
            (pe_op op_add (pe_op op_mul (pe_ix ix_list (pv 0) pe_int (fun _ _ => rfl)) (pe_ix ix_list (pv 0) pe_int (fun _ _ => rfl))) (pe_op op_mul pe_int (pe_ix ix_list (pv 0) pe_int (fun _ _ => rfl)))) pa_nil)) pe_int))
      (pss_one (ps_ret (pe_op op_mod (pe_callTy call_int1 (by rfl) T.int boot_int (pa_cons (pe_op op_fdiv (pv 6) pe_int) pa_nil)) (pv 1)))))))))), ?_⟩
    have nsg : st ≠ g := ne_of hst hg (by intro z; cases gs <;> cases z)
    have nss : st ≠ sm := ne_of hst hsm (by intro z; cases ss <;> cases z)
    -- great, small = (state[0], state[1])
    refine ⟨_, rfl, st, _, 0, _, rfl, rfl, SqL.of hst, atI_nat (j := 0) rfl, _, rfl, st, _, 1, _, rfl, rfl, SqL.of hst, atI_nat (j := 1) rfl, _, _, rfl, ?_⟩
    -- state[2] += 1
    refine ⟨_, rfl, st, _, 2, _, rfl, rfl, SqL.of hst, atI_nat (j := 2) rfl, n, 1, rfl, rfl, st, _, 2, 2, rfl, rfl, hst, rfl, ?_⟩
    -- if great and great[0] == 0: great.pop(0)
    refine ⟨fun σ' H' => σ' = [some (.ref st), some (.int m), some (.ref g), some (.ref sm), none, none, none] ∧ ∃ gs' : List Int, H' st = some (.lst [.ref g, .ref sm, .int (n + 1), .int z]) ∧ H' g = some (.lst (gs'.map V.int)) ∧
      Ext (Dr st g) H H' ∧ (∀ x ∈ gs', 0 ≤ x) ∧ gs'.length ≤ 63, ?_, ?_⟩
    · have e1 : (upd H st (.lst ([V.ref g, V.ref sm, V.int n, V.int z].set 2 (V.int (n + 1))))) g = some (.lst (gs.map V.int)) := by
        rw [upd_ne nsg.symm]
        exact hg
      refine ⟨_, rfl, !(gs.map V.int).isEmpty, .inl ⟨_, SqL.of e1, rfl⟩, ?_⟩
      cases gs with
      | nil => exact iteF (iteF ⟨rfl, [], upd_same, e1, Ext.put (.inl rfl), gpos, glen⟩)
      | cons x r =>
        refine iteT ⟨_, rfl, g, _, 0, _, rfl, rfl, SqL.of e1, atI_nat (j := 0) rfl, rfl, _, rfl, ?_⟩
        refine ite2 (fun _ => ?_) (fun _ => ?_)
        · refine ⟨_, rfl, .inl ⟨rfl, _, SqL.of e1⟩, g, _, 0, 0, _, rfl, rfl, e1, by decide, by decide, seqIndex_of (by decide) (by rw [List.length_map, List.length_cons]; omega), rfl, ?_⟩
          refine ⟨rfl, r, ?_, ?_, (Ext.put (.inl rfl)).trans (Ext.put (.inr rfl)), fun y hy => gpos y (List.mem_cons_of_mem _ hy), by rw [List.length_cons] at glen; omega⟩
          · rw [upd_ne nsg, upd_same]
            rfl
          · rw [upd_same]
            rfl
        · exact ⟨rfl, x :: r, upd_same, e1, Ext.put (.inl rfl), gpos, glen⟩
    · rintro σ' H1 ⟨rfl, gs', f1, f2, ex, gpos', glen'⟩
      -- if great: ..
      have f3 : H1 sm = some (.lst (ss.map V.int)) := ex _ _ hsm (by rintro (e | e); exact nss e.symm; exact gsm e.symm)
      refine ⟨_, rfl, !(gs'.map V.int).isEmpty, .inl ⟨_, SqL.of f2, rfl⟩, ?_⟩
      cases gs' with
      | cons x r =>
        have x0 : 0 ≤ x := gpos' x List.mem_cons_self
        refine iteT ⟨_, rfl, g, _, 0, _, rfl, rfl, SqL.of f2, atI_nat (j := 0) rfl, .inl ⟨x, rfl, ?_⟩⟩
        refine ⟨_, rfl, x, m, rfl, rfl, m0, ?_⟩
        refine ⟨_, rfl, g, _, 0, _, rfl, rfl, SqL.of f2, atI_nat (j := 0) rfl, _, rfl, x, m, rfl, rfl, wide_div (b := 60) m0 (by omega) (by decide) (by decide), ?_⟩
        refine ⟨_, rfl, g, _, 0, 0, rfl, rfl, f2, Evl.ixN_nat (j := 0) (by rw [List.length_map, List.length_cons]; omega), ?_⟩
        refine ⟨_, rfl, q _ _ (Int.emod_nonneg _ (by omega)) (Int.emod_lt_of_pos _ m0) (ex.trans (Ext.put (.inr rfl))) ⟨(x / m) :: r, ss, n + 1, z, ?_, ?_, ?_, ?_, spos, slen, glen', by omega, z0, z1, gsm⟩⟩
        · rw [upd_ne nsg]
          exact f1
        · rw [upd_same]
          rfl
        · rw [upd_ne (Ne.symm gsm)]
          exact f3
        · intro y hy
          rcases List.mem_cons.mp hy with e | hy
          · rw [e]
            exact Int.ediv_nonneg x0 (by omega)
          · exact gpos' y (List.mem_cons_of_mem _ hy)
      | nil =>
        refine iteF ?_
        -- own = small[..] if small else 3
        refine ⟨fun σ' H' => H' = H1 ∧ ∃ o : Int, 0 ≤ o ∧ o < 2 ^ 40 ∧ σ' = [some (.ref st), some (.int m), some (.ref g), some (.ref sm), none, some (.int o), none], ?_, ?_⟩
        · refine ⟨_, rfl, !(ss.map V.int).isEmpty, .inl ⟨_, SqL.of f3, rfl⟩, ?_⟩
          cases ss with
          | nil => exact iteF ⟨rfl, 3, by decide, by decide, rfl⟩
          | cons y r =>
            have hl : (0 : Int) < (((y :: r).map V.int).length : Nat) := by simp
            have h1 := Int.emod_nonneg (n + 1) (show ((((y :: r).map V.int).length : Nat) : Int) ≠ 0 by omega)
            have h2 := Int.emod_lt_of_pos (n + 1) hl
            obtain ⟨j, hj⟩ := Int.eq_ofNat_of_zero_le h1
            have hj2 : j < (y :: r).length := by
              rw [hj] at h2
              rw [List.length_map] at h2
              omega
            have hv : ((y :: r).map V.int)[j]? = some (.int (y :: r)[j]) := by
              rw [List.getElem?_map, List.getElem?_eq_getElem hj2]
              rfl
            have hm := spos _ (List.getElem_mem hj2)
            refine iteT ⟨_, rfl, _, rfl, st, _, 2, _, rfl, rfl, SqL.of f1, atI_nat (j := 2) rfl, .inl ⟨_, rfl, ?_⟩⟩
            refine ⟨_, rfl, sm, _, rfl, .inl (SqL.of f3), n + 1, _, rfl, rfl, hl, sm, _, _, _, rfl, rfl, SqL.of f3, at_of hj hv, rfl, _, hm.1, hm.2, rfl⟩
        · rintro σ' H' ⟨rfl, o, o0, o1, rfl⟩
          -- state[3] = ..
          refine ⟨_, rfl, st, _, 3, _, rfl, rfl, SqL.of f1, atI_nat (j := 3) rfl, z, 48271, rfl, rfl, .inr (by decide), ?_⟩
          refine ⟨_, rfl, o, 40692, rfl, rfl, .inr (by decide), _, _, rfl, rfl, ?_⟩
          refine ⟨_, rfl, st, _, 2, _, rfl, rfl, SqL.of f1, atI_nat (j := 2) rfl, n + 1, 69621, rfl, rfl, .inr (by decide), _, _, rfl, rfl, _, _, rfl, rfl, .inl ⟨_, rfl, ?_⟩⟩
          refine ⟨_, _, rfl, rfl, by show (0 : Int) < 2305843009213693951; decide, ?_⟩
          refine ⟨_, rfl, st, _, 3, 3, rfl, rfl, f1, rfl, ?_⟩
          dsimp only
          generalize hz' : (z * 48271 + o * 40692 + (n + 1) * 69621 + 11) % 2305843009213693951 = z'
          have z0' : 0 ≤ z' := by
            rw [← hz']
            exact Int.emod_nonneg _ (by decide)
          have z1' : z' < 2305843009213693951 := by
            rw [← hz']
            exact Int.emod_lt_of_pos _ (by decide)
          have e1 : (upd H' st (.lst ([V.ref g, V.ref sm, V.int (n + 1), V.int z].set 3 (V.int z')))) st = some (.lst [V.ref g, V.ref sm, V.int (n + 1), V.int z']) := upd_same
          -- mixed = ..
          refine ⟨_, rfl, st, _, 3, _, rfl, rfl, SqL.of e1, atI_nat (j := 3) rfl, _, rfl, st, _, 3, _, rfl, rfl, SqL.of e1, atI_nat (j := 3) rfl, z', z', rfl, rfl, .inl ⟨by omega, by omega⟩, ?_⟩
          refine ⟨_, rfl, st, _, 2, _, rfl, rfl, SqL.of e1, atI_nat (j := 2) rfl, 1000003, n + 1, rfl, rfl, .inl (by decide), _, _, rfl, rfl, .inl ⟨_, rfl, ?_⟩⟩
          refine ⟨_, _, rfl, rfl, by show (0 : Int) < 2305843009213693921; decide, ?_⟩
          refine ⟨_, rfl, _, _, rfl, rfl, ⟨by decide, by decide⟩, .inl ⟨_, rfl, ?_⟩⟩
          refine ⟨_, rfl, _, m, rfl, rfl, m0, ?_⟩
          refine q _ _ (Int.emod_nonneg _ (by omega)) (Int.emod_lt_of_pos _ m0) (ex.trans (Ext.put (.inl rfl))) ⟨[], ss, n + 1, z', e1, ?_, ?_, fun y hy => (nomatch hy), spos, slen, by decide, by omega, z0', by omega, gsm⟩
          · rw [upd_ne nsg.symm]
            exact f2
          · rw [upd_ne nss.symm]
            exact f3

theorem cut63 (xs : List V) (h : xs.length ≤ 63) : cutV xs none (some 63) = xs := by
  unfold cutV
  rw [HT.sIx_none, show ((63 : Int)) = ((63 : Nat) : Int) from rfl, HT.sIx_nat, List.drop_zero, Nat.sub_zero, Nat.min_eq_right h, List.take_length]
theorem wipe1 {σ : L2.St} {j : Nat} (x : V) : wipe ((wipe σ [j]).set j (some x)) [j] = wipe σ [j] := by
  show ((σ.set j none).set j (some x)).set j none = σ.set j none
  rw [List.set_set, List.set_set]
theorem absI (n : Int) : (if n < 0 then -n else n) = (n.natAbs : Int) := by
  by_cases h : n < 0
  · rw [if_pos h]
    omega
  · rw [if_neg h]
    omega
open Evl in
theorem ev_int {σ : L2.St} {H : Hp} {te : TE} {n : Int} (h : Ev te σ H (.int n)) : Ev (tCB (fun (xs : List V) (H : Hp) (Q : VK) => (∃ i, xs = [.int i] ∧ Q (.int i) H) ∨ ∃ k, xs = [.bl k] ∧ Q (.int (if k then 1 else 0)) H) (tCons te tNil)) σ H (.int n) :=
  ev_cb (ea_cons h ea_nil) fun H1 _ Q q => .inl ⟨n, rfl, q H1 (Ex.refl H1)⟩
open Evl in
theorem ev_abs {σ : L2.St} {H : Hp} {te : TE} {n : Int} (h : Ev te σ H (.int n)) : Ev (tCB (fun (xs : List V) (H : Hp) (Q : VK) => ∃ i, xs = [.int i] ∧ Q (.int (if i < 0 then -i else i)) H) (tCons te tNil)) σ H (.int (n.natAbs : Int)) :=
  ev_cb (ea_cons h ea_nil) fun H1 _ Q q => ⟨n, rfl, by rw [absI]; exact q H1 (Ex.refl H1)⟩
open Evl in
theorem ok_start {f : Addr} {fd : FuncData} {k : Nat} (F : Fun K "_law_start" "_law_start" sStart f fd) (T : TxtD mg) : FnOk P w K mg base CX0 (k + 1) f fd ["_law_script"] (spStart K) := by
  refine F.ok scStart (fun vs H Q E h => ?_) (fun cdv A outer s H vs Q E hr h => ?_)
  · obtain ⟨a, ns, rfl, _⟩ := h
    rfl
  · obtain ⟨a, ns, rfl, hS, hlen, q⟩ := h
    refine ⟨_, pss_cons (ps_setLc (i := 1) (own := [("_law_cell", 4)]) (g := gName 4) (tt := tYes) rfl scStart.nd rfl rfl (sw_true rfl rfl rfl (by decide +kernel)) (pi_list (pe_slice sl_list (pv 0) po_none (po_some pe_int)))
          (blkOk_by (N := nStart) (sc := defScope sStart) (by decide +kernel)) (fun _ _ _ _ _ => pg_name (i := 4) scStart.nd rfl (.inl rfl)) (fun _ _ _ _ _ => pts_nil) (fun _ _ _ _ _ => pe_callTy call_int1 (by rfl) T.int boot_int (pa_cons (pv 4) pa_nil)))
      (pss_cons (ps_setLc (i := 2) (own := [("_law_cell", 4)]) (g := gName 4) rfl scStart.nd rfl rfl (sw_true rfl rfl rfl (by decide +kernel)) (pi_list (pv 1))
          (blkOk_by (N := nStart) (sc := defScope sStart) (by decide +kernel)) (fun _ _ _ _ _ => pg_name (i := 4) scStart.nd rfl (.inl rfl)) (fun _ _ _ _ _ => pts_one (pt_cmpR op_ge (pe_callB call_abs (by rfl) T.abs boot_abs (pa_cons (pv 4) pa_nil)) (pe_op op_pow pe_int pe_int) (nomark _)))
          (fun _ _ _ _ _ => pe_callB call_abs (by rfl) T.abs boot_abs (pa_cons (pv 4) pa_nil)))
      (pss_cons (ps_setLc (i := 3) (own := [("_law_cell", 4)]) (g := gName 4) rfl scStart.nd rfl rfl (sw_true rfl rfl rfl (by decide +kernel)) (pi_list (pv 1))
          (blkOk_by (N := nStart) (sc := defScope sStart) (by decide +kernel)) (fun _ _ _ _ _ => pg_name (i := 4) scStart.nd rfl (.inl rfl)) (fun _ _ _ _ _ => pts_one (pt_cmpR op_lt (pe_callB call_abs (by rfl) T.abs boot_abs (pa_cons (pv 4) pa_nil)) (pe_op op_pow pe_int pe_int) (nomark _)))
          (fun _ _ _ _ _ => pe_op op_add (pe_op op_mod (pe_callTy call_int1 (by rfl) T.int boot_int (pa_cons (pv 4) pa_nil)) pe_int) pe_int))
      (pss_one (ps_ret (pe_lst (pa_cons (pv 2) (pa_cons (pv 3) (pa_cons pe_int (pa_cons (pe_op op_add pe_int (pe_callB call_len_seq (by rfl) T.len PySem.boot_len (pa_cons (pv 1) pa_nil))) pa_nil))))))))), ?_⟩
    have hpow : ∀ (H1 : Hp) (σ : L2.St), Ev (tOp (rI CPow fun i j => V.int (i ^ j.toNat)) (tC (.int 10)) (tC (.int 18))) σ H1 (.int (10 ^ 18)) := fun H1 σ => ev_op ev_c ev_c (rv_I ⟨by decide, by decide, by decide⟩)
    -- cells
    refine q_asgL (el_mapN ns V.int (fun _ => true) V.int (by
      have z := el_sl (K := K) (te := tVar 0) (tl := tNoPart) (th := tPart (tC (.int 63))) (σ := start ["_law_script", "_law_cells", "_law_great", "_law_small", "_law_cell"] [V.ref a]) (H := H) (ev_var rfl) eo_none (eo_some ev_c) hS
      rw [cut63 _ (by rw [List.length_map]; exact hlen)] at z
      exact z) (by omega) wipe1 (fun x H1 _ _ => et_yes) (fun x H1 _ _ _ => ev_int (ev_var rfl))) fun c H1 nc e1 hc => ?_
    rw [List.filter_eq_self.mpr (fun _ _ => rfl)] at hc
    -- great
    refine q_asgL (el_map ns V.int (fun x => decide (10 ^ 18 ≤ (x.natAbs : Int))) (fun x => V.int (x.natAbs : Int)) (ev_var rfl) (SqL.of hc) (by omega) wipe1 (fun x H1 _ _ => et_test (ev_op (ev_abs (ev_var rfl)) (hpow _ _) rv_I0)) (fun x H1 _ _ _ => ev_abs (ev_var rfl))) fun g H2 ng e2 hg => ?_
    -- small
    refine q_asgL (el_map ns V.int (fun x => decide ((x.natAbs : Int) < 10 ^ 18)) (fun x => V.int (x % 2147483629 + 1)) (ev_var rfl) (SqL.of (e2 _ _ hc)) (by omega) wipe1 (fun x H1 _ _ => et_test (ev_op (ev_abs (ev_var rfl)) (hpow _ _) rv_I0)) (fun x H1 _ _ _ => ev_op (ev_op (ev_int (ev_var rfl)) ev_c (rv_I (by decide))) ev_c rv_I0)) fun sm H3 nsm e3 hsm => ?_
    -- return
    refine s_retL (el_lst (ea_cons (ev_var rfl) (ea_cons (ev_var rfl) (ea_cons ev_c (ea_cons (ev_op ev_c (ev_len (ev_var rfl) (SqL.of (e3 _ _ (e2 _ _ hc)))) rv_I0) ea_nil)))) (by show 4 ≤ 100000; decide)) fun st H4 nst e4 hst => ?_
    have f1 : H g = none := fresh_back e1 ng
    have f2 : H sm = none := fresh_back (e1.trans e2) nsm
    have f3 : H st = none := fresh_back ((e1.trans e2).trans e3) nst
    refine q H4 st g sm (((e1.trans e2).trans e3).trans e4) f3 f1 f2 ⟨(ns.filter fun x => decide (10 ^ 18 ≤ (x.natAbs : Int))).map fun x => (x.natAbs : Int), (ns.filter fun x => decide ((x.natAbs : Int) < 10 ^ 18)).map fun x => x % 2147483629 + 1, 0, 7 + (ns.length : Int), ?_, ?_, ?_, ?_, ?_, ?_, ?_, by decide, by omega, by omega, ?_⟩
    · rw [List.length_map] at hst
      exact hst
    · rw [List.map_map]
      exact e4 _ _ (e3 _ _ hg)
    · rw [List.map_map]
      exact e4 _ _ hsm
    · intro x hx
      obtain ⟨y, _, rfl⟩ := List.mem_map.mp hx
      omega
    · intro x hx
      obtain ⟨y, _, rfl⟩ := List.mem_map.mp hx
      have h1 := Int.emod_nonneg y (show (2147483629 : Int) ≠ 0 by decide)
      have h2 := Int.emod_lt_of_pos y (show (0 : Int) < 2147483629 by decide)
      omega
    · rw [List.length_map]
      exact Nat.le_trans (List.length_filter_le _ _) hlen
    · rw [List.length_map]
      exact Nat.le_trans (List.length_filter_le _ _) hlen
    · exact ne_of_none hg nsm

theorem ok_of {f fD : Addr} {fd fdD : FuncData} {k : Nat} (F : Fun K "_law_of" "_law_of" sOf f fd) (T : TxtD mg) (FD : Fun K "_law_draw" "_law_draw" sDraw fD fdD) (bD : Binds K fdD ["_law_state", "_law_many"] []) (gD : mg "_law_draw" = some (.ref fD)) :
    FnOk P w K mg base CX0 (k + 2) f fd ["_law_state", "_law_some"] (spOf K) := by
  have GD : FnOk P w K mg base CX0 (k + 1) fD fdD ["_law_state", "_law_many"] spDraw := ok_draw FD T
  refine F.ok scOf (fun vs H Q E h => ?_) (fun cdv A outer s H vs Q E hr h => ?_)
  · obtain ⟨st, g, sm, l, xs, rfl, _⟩ := h
    rfl
  · obtain ⟨st, g, sm, l, xs, rfl, hd, hl, nl, l0, l1, q⟩ := h
    refine ⟨_, pss_one (ps_ret (pe_ix ix_seq (pv 1) (pe_call GD hr rfl gD FD.kp bD .nil pass0 (pa_cons (pv 0) (pa_cons (pe_callB call_len_seq (by rfl) T.len PySem.boot_len (pa_cons (pv 1) pa_nil)) pa_nil))) (fun _ _ => rfl))), ?_⟩
    refine ⟨_, rfl, _, rfl, _, rfl, l, xs, rfl, hl, st, g, sm, _, rfl, hd, by omega, by omega, fun r H1 r0 r1 e1 d1 => ?_⟩
    obtain ⟨j, hj⟩ := Int.eq_ofNat_of_zero_le r0
    have hj2 : j < xs.length := by omega
    rcases hl with hl | hl
    · exact .inl ⟨l, xs, r, xs[j], rfl, rfl, e1.seq nl hl, at_of hj (List.getElem?_eq_getElem hj2), q j _ H1 (List.getElem?_eq_getElem hj2) e1 d1⟩
    · exact .inr (.inl ⟨l, xs, r, xs[j], rfl, rfl, e1.seqT nl hl, at_of hj (List.getElem?_eq_getElem hj2), q j _ H1 (List.getElem?_eq_getElem hj2) e1 d1⟩)
end
end Hc
/-! module HmWord -/
set_option maxHeartbeats 4000000
/-! _law_word: some word that is free. -/
namespace Hy
open PySem PySem.Spec PyProof.Rows L2 Evl Hc Hs
structure LawP (mg : Str → Option Value) : Prop where
  rng : mg "range" = none
def spLWord : Sp := fun vs H Q _ => ∃ (st g sm ta : Addr) (tk : List Nm), vs = [.ref st, .ref ta] ∧ DrawSt H st g sm ∧ H ta = some (.lst (tk.map sv)) ∧ ¬ Dr st g ta ∧ tk.length ≤ 8 ∧
  ∀ (w : List Nat) H', Small w → w ∉ tk → w ∉ resv → Hc.Ext (Dr st g) H H' → DrawSt H' st g sm → Q (sv w) H'
abbrev nLWord : List Str := ["_law_state", "_law_taken", "_law_letters", "_law_drawn", "_law_kept", "_law_ways", "_law_turn", "_law_letter", "_law_way"]
theorem scLWord : FnScope nLWord ["_law_state", "_law_taken"] (defScope sLWord) := ⟨rfl, rfl, rfl, by decide +kernel, rfl, by decide +kernel, by decide +kernel⟩
theorem join_single (cs : List Nat) : TL.joinL [] (cs.map fun c => [c]) = cs := by
  induction cs with
  | nil => rfl
  | cons c r ih =>
    cases r with
    | nil => rfl
    | cons d r =>
      show [c] ++ ([] ++ TL.joinL [] ((d :: r).map fun c => [c])) = c :: d :: r
      rw [ih]
      rfl
theorem sum_ones (cs : List Nat) : ((cs.map fun c => [c]).map List.length).sum = cs.length := by
  induction cs with
  | nil => rfl
  | cons c r ih =>
    rw [List.map_cons, List.map_cons, List.sum_cons, ih]
    show 1 + r.length = r.length + 1
    omega
theorem take7 (w : List Nat) : cutS (S w) none (some (7 : Int)) = S (w.take 7) := by
  have := cut_nn w 0 7
  unfold cutS at this ⊢
  rw [HT.sIx_none]
  rw [show ((0 : Nat) : Int) = 0 from rfl] at this
  have e0 : HT.sIx (S w).length 0 (some (0 : Int)) = 0 := by
    rw [show (0 : Int) = ((0 : Nat) : Int) from rfl, HT.sIx_nat]
    exact Nat.zero_min _
  rw [e0] at this
  rw [show (7 : Int) = ((7 : Nat) : Int) from rfl, this]
  rfl
section
variable {P : Program} {w : World} {K : PySem.W.Frag} {mg : Str → Option Value} {base : Heap}
theorem ok_lword {f : Addr} {fd : FuncData} {k : Nat} (F : Fun K "_law_word" "_law_word" sLWord f fd) (T : LawP mg) (rD : Rd P w K mg base "_law_draw" k ["_law_state", "_law_many"] spDraw) : FnOk P w K mg base CX0 (k + 1) f fd ["_law_state", "_law_taken"] spLWord := by
  refine F.ok scLWord (fun vs H Q E h => ?_) (fun cdv A outer s H vs Q E hr h => ?_)
  · obtain ⟨st, g, sm, ta, tk, rfl, _⟩ := h
    rfl
  · obtain ⟨st, g, sm, ta, tk, rfl, hd, hta, nta, htk, q⟩ := h
    refine ⟨_, pss_cons (ps_set (i := 2) scLWord.nd rfl (.inr rfl) pe_str)
      (pss_cons (ps_set (i := 3) scLWord.nd rfl (.inr rfl) (pe_join pe_str (pe_lc (own := [("_law_turn", 6)]) (g := gName 6) (tt := tYes) rfl scLWord.nd (pi_range1 (by rfl) T.rng (pa_cons (pe_op op_add pe_int (pe_rd rD hr (Nat.le_refl _) (by rfl) (pa_cons (pv 0) (pa_cons pe_int pa_nil)))) pa_nil)) (blkOk_by (N := nLWord) (sc := defScope sLWord) (by decide +kernel)) (fun _ _ _ _ _ => pg_name (i := 6) scLWord.nd rfl (.inl rfl)) (fun _ _ _ _ _ => pts_nil)
          (fun _ _ _ _ _ => pe_ix ix_str (pv 2) (pe_rd rD hr (Nat.le_refl _) (by rfl) (pa_cons (pv 0) (pa_cons pe_int pa_nil))) (fun _ _ => rfl)))))
      (pss_cons (ps_set (i := 4) scLWord.nd rfl (.inr rfl) (pe_lst (pa_cons pe_str (pa_cons pe_str (pa_cons pe_str (pa_cons pe_str (pa_cons pe_str (pa_cons pe_str (pa_cons pe_str (pa_cons pe_str (pa_cons pe_str (pa_cons pe_str (pa_cons pe_str (pa_cons pe_str (pa_cons pe_str (pa_cons pe_str pa_nil))))))))))))))))
      (pss_cons (ps_set (i := 5) scLWord.nd rfl (.inl rfl) (pe_op op_cat (pe_lst (pa_cons (pv 3) pa_nil)) (pe_lc (own := [("_law_letter", 7)]) (g := gName 7) (tt := tYes) rfl scLWord.nd (pi_str (pv 2)) (blkOk_by (N := nLWord) (sc := defScope sLWord) (by decide +kernel)) (fun _ _ _ _ _ => pg_name (i := 7) scLWord.nd rfl (.inl rfl)) (fun _ _ _ _ _ => pts_nil)
          (fun _ _ _ _ _ => pe_op op_add_str (pe_slice sl_str (pv 3) po_none (po_some pe_int)) (pv 7)))))
      (pss_one (ps_ret (pe_ix ix_list (pe_lc (own := [("_law_way", 8)]) (g := gName 8) (tt := tAnd (tTest (tOp (rIn K true) (tVar 8) (tVar 1))) (tTest (tOp (rIn K true) (tVar 8) (tVar 4)))) rfl scLWord.nd (pi_list (pv 5)) (blkOk_by (N := nLWord) (sc := defScope sLWord) (by decide +kernel)) (fun _ _ _ _ _ => pg_name (i := 8) scLWord.nd rfl (.inl rfl))
          (fun _ _ _ _ _ => pts_one (PW.pt (pw_and (pt_cmpR (show OpR _ (compareOp .NotIn) (rIn K true) from op_notIn_seq) (pv 8) (pv 1) (by rfl)) (pw_and1 (pt_cmpR (show OpR _ (compareOp .NotIn) (rIn K true) from op_notIn_seq) (pv 8) (pv 4) (by rfl)))))) (fun _ _ _ _ _ => pv 8)) pe_int (fun _ _ => rfl))))))), ?_⟩
    refine q_asg (v := sv smalls) ev_c fun H1 e1 => ?_
    have hd1 := hd.same e1
    refine q_asgX ?_
    refine ⟨⟨_, rfl⟩, ?_⟩
    refine ⟨_, rfl, st, g, sm, 7, rfl, hd1, by decide, by decide, fun r H2 r0 r7 e2 d2 => ?_⟩
    refine ⟨1, r, rfl, rfl, ?_⟩
    refine ⟨1 + r, rfl, by omega, by omega, fun D nD => ?_⟩
    have x2 : Hc.Ext (Dr st g) H H2 := (Hc.Ext.same e1).trans e2
    refine lc_range (lo := 0) (n := (1 + r).toNat) (fun i H' => ∃ cs : List Nat, cs.length = i ∧ (∀ c ∈ cs, c ∈ smalls) ∧ H' D = some (.lst (cs.map fun c => sv [c])) ∧ Hc.Ext (Dr st g) H2 H' ∧ DrawSt H' st g sm) ⟨[], rfl, (fun c hc => by cases hc), upd_same, Hc.Ext.new nD, d2.put (d2.off nD)⟩ (fun i H3 hi z => ?_) (fun H3 z => ?_)
    · obtain ⟨cs, hl, hs, hD, x3, d3⟩ := z
      refine ⟨Hs.wipe1 _, ?_⟩
      show (tOp rIxS (tVar 2) (tCall spDraw [] E0 (tCons (tVar 0) (tCons (tC (.int 26)) tNil)))) _ H3 _
      refine ⟨_, rfl, _, rfl, st, g, sm, 26, rfl, d3, by decide, by decide, fun r2 H4 r20 r26 e4 d4 => ?_⟩
      obtain ⟨j, rfl⟩ := Int.eq_ofNat_of_zero_le r20
      have hj : j < smalls.length := by
        show j < 26
        omega
      refine ⟨S smalls, (j : Int), smalls[j], rfl, rfl, (by show 26 ≤ sizeLine; decide), atI_nat (List.getElem?_eq_getElem hj), ?_⟩
      have hD4 := e4 _ _ hD (dr_off (d2.off nD))
      refine ⟨_, hD4, sz_lt (by rw [List.length_map]; omega), cs ++ [smalls[j]], by rw [List.length_append, hl]; rfl, ?_, ?_, (x3.trans e4).puts nD, d4.put (d2.off nD)⟩
      · intro c hc
        rcases List.mem_append.mp hc with hc | hc
        · exact hs c hc
        · rw [List.mem_singleton] at hc
          rw [hc]
          exact List.getElem_mem hj
      · rw [upd_same, List.map_append]
        rfl
    · obtain ⟨cs, hl, hs, hD, x3, d3⟩ := z
      have hpos : 1 ≤ cs.length ∧ cs.length ≤ 7 := by omega
      refine ⟨S [], D, (cs.map fun c => [c]).map S, rfl, rfl, .inl (sq_of (by rw [hD, List.map_map, List.map_map]; rfl)), ?_, ?_⟩
      · rw [List.map_map, List.length_map]
        have : ((fun x : Str => x.length) ∘ S) = List.length := funext fun a => S_len a
        rw [this, sum_ones, List.length_map, S_len]
        show cs.length + cs.length * 0 ≤ 16777216
        omega
      rw [join_S, join_single]
      have x03 : Hc.Ext (Dr st g) H H3 := x2.trans x3
      have hta3 := x03 _ _ hta nta
      refine q_asgL (xs := resv.map sv) (el_lst (vs := resv.map sv) (ea_cons ev_c (ea_cons ev_c (ea_cons ev_c (ea_cons ev_c (ea_cons ev_c (ea_cons ev_c (ea_cons ev_c (ea_cons ev_c (ea_cons ev_c (ea_cons ev_c (ea_cons ev_c (ea_cons ev_c (ea_cons ev_c (ea_cons ev_c ea_nil)))))))))))))) (by rw [List.length_map]; show 14 ≤ 100000; decide)) fun pk H4 npk e4 hpk => ?_
      refine q_asgL (xs := (cs :: smalls.map fun c => cs.take 7 ++ [c]).map sv) ?_ fun pw H5 npw e5 hpw => ?_
      · have z := el_lcS (H := H4) (σ := [some (.ref st), some (.ref ta), some (sv smalls), some (sv cs), some (.ref pk), none, none, none, none]) (L := smalls) (tl := tVar 2) (te := tOp (fun x y H Q => ∃ i j, x = .str i ∧ y = .str j ∧ i.length + j.length ≤ sizeLine ∧ Q (.str (i ++ j)) H) (tSl rSlS (tVar 3) tNoPart (tPart (tC (.int 7)))) (tVar 7)) (j := 7) (vs := [7]) (fun c => sv (cs.take 7 ++ [c])) (ev_var rfl) (by decide) Hs.wipe1 (fun c H6 e6 hc => ev_addS (by rw [List.length_take]; show _ + 1 ≤ 30000; omega) (Evl.ev_is (ev_slS (lo := none) (hi := some 7) (ev_var rfl) eo_none (eo_some ev_c) (by rw [S_len]; exact sz_of (by omega))) (by rw [take7])) (ev_var rfl))
        have e : (cs :: smalls.map fun c => cs.take 7 ++ [c]).map sv = [sv cs] ++ smalls.map fun c => sv (cs.take 7 ++ [c]) := by
          rw [List.map_cons, List.map_map]
          rfl
        rw [e]
        exact el_cat (el_lst (ea_cons (ev_var rfl) ea_nil) (show 1 ≤ 100000 by decide)) z (by rw [List.length_map]; show 1 + 26 ≤ 100000; decide)
      · generalize hways : (cs :: smalls.map fun c => cs.take 7 ++ [c]) = ways at hpw
        have hta5 := e5 _ _ (e4 _ _ hta3)
        have hpk5 := e5 _ _ hpk
        have hsm : ∀ x ∈ ways, Small x := fun x hx => by
          rw [← hways] at hx
          rcases List.mem_cons.mp hx with rfl | hx
          · exact ⟨hs, by omega, hpos.1⟩
          · obtain ⟨c, hc, rfl⟩ := List.mem_map.mp hx
            refine ⟨fun y hy => ?_, by rw [List.length_append, List.length_take, List.length_singleton]; omega, by rw [List.length_append, List.length_singleton]; omega⟩
            rcases List.mem_append.mp hy with hy | hy
            · exact hs y (List.mem_of_mem_take hy)
            · rw [List.mem_singleton] at hy
              rw [hy]
              exact hc
        have hwl : ways.length = 27 := by
          rw [← hways, List.length_cons, List.length_map]
          rfl
        have z := el_map (K := K) (H := H5) (σ := [some (.ref st), some (.ref ta), some (sv smalls), some (sv cs), some (.ref pk), some (.ref pw), none, none, none]) (a := pw) (tl := tVar 5) (te := tVar 8) (t := tAnd (tTest (tOp (rIn K true) (tVar 8) (tVar 1))) (tTest (tOp (rIn K true) (tVar 8) (tVar 4)))) (j := 8) (vs := [8]) ways sv (fun x => !decide (x ∈ tk) && !decide (x ∈ resv)) sv (ev_var rfl) (sq_of hpw) (by omega) Hs.wipe1
          (fun x H6 e6 hx => et_and (et_test (ev_niLs (ev_var rfl) (ev_var rfl) (sq_of (e6 _ _ hta5)))) fun _ => et_test (ev_niLs (ev_var rfl) (ev_var rfl) (sq_of (e6 _ _ hpk5)))) (fun x H6 e6 hx _ => ev_var rfl)
        obtain ⟨x, rest, hfil⟩ : ∃ x rest, ways.filter (fun x => !decide (x ∈ tk) && !decide (x ∈ resv)) = x :: rest := by
          obtain ⟨c, hc, hno⟩ := free_word (w := cs) hs htk
          have hin : (cs.take 7 ++ [c]) ∈ ways.filter (fun x => !decide (x ∈ tk) && !decide (x ∈ resv)) := by
            refine List.mem_filter.mpr ⟨?_, ?_⟩
            · rw [← hways]
              exact List.mem_cons_of_mem _ (List.mem_map.mpr ⟨c, hc, rfl⟩)
            · rw [List.mem_append, not_or] at hno
              rw [decide_eq_false hno.1, decide_eq_false hno.2]
              rfl
          cases q2 : ways.filter (fun x => !decide (x ∈ tk) && !decide (x ∈ resv)) with
          | nil => rw [q2] at hin; cases hin
          | cons x rest => exact ⟨x, rest, rfl⟩
        rw [hfil] at z
        have hx : x ∈ ways.filter (fun x => !decide (x ∈ tk) && !decide (x ∈ resv)) := by rw [hfil]; exact List.mem_cons_self
        obtain ⟨hx1, hx2⟩ := List.mem_filter.mp hx
        rw [Bool.and_eq_true, Bool.not_eq_true', Bool.not_eq_true', decide_eq_false_iff_not, decide_eq_false_iff_not] at hx2
        refine s_ret (v := sv x) (ev_opL1 z (fun _ _ => ev_c) fun p H6 hp e6 => rv_ixL (sq_of hp) (atI_nat (j := 0) rfl)) fun H6 e6 => ?_
        exact q x H6 (hsm x hx1) hx2.1 hx2.2 ((x03.trans (Hc.Ext.same (e4.trans e5))).trans (Hc.Ext.same e6)) ((d3.same (e4.trans e5)).same e6)
end
end Hy
/-! module HmNew -/
set_option maxHeartbeats 4000000
/-! New values that are data; text * n. -/
namespace Hm
open PySem PySem.Spec PyProof.Rows L2 Evl Hc Hs Hy
/-- text * n: what is known of it -/
def rMulS : R2 := fun x y H Q => ∃ (L : List Nat) (n : Int), x = .str (S L) ∧ y = .int n ∧ 2 ≤ n ∧ n ≤ 10000 ∧ 1 ≤ L.length ∧ L.length ≤ 10 ∧ Q (.str (S ((List.replicate n.toNat L).flatten))) H
theorem fold_app (x : Array Nat) : ∀ (n : Nat) (acc : Array Nat), ((List.replicate n x).foldl (· ++ ·) acc).toList = acc.toList ++ (List.replicate n x.toList).flatten
  | 0, acc => by simp
  | n + 1, acc => by
    rw [List.replicate_succ, List.foldl_cons, fold_app x n, List.replicate_succ, List.flatten_cons]
    simp
theorem op_mulS {X : Cx} : OpR X (binaryOp .Mult) rMulS := by
  intro pins s σ H x y v u Q I rx ry h
  obtain ⟨L, n, rfl, rfl, n2, n4, l1, l10, q⟩ := h
  obtain ⟨t, rfl⟩ := rx
  obtain ⟨t', rfl⟩ := ry
  have hm : L.length * n.toNat ≤ 100000 := Nat.le_trans (Nat.mul_le_mul l10 (show n.toNat ≤ 10000 by omega)) (by decide)
  have hlong : Builtin.Str.tooLong ((S L).length * n.toNat) = false := by
    rw [S_len]
    have h0 : ¬ L.length * n.toNat > 2 ^ 24 := by
      generalize L.length * n.toNat = z at hm
      omega
    simpa [Builtin.Str.tooLong, sizeLine] using h0
  refine P.mul_str (by rw [decide_eq_false (by omega), decide_eq_false (by omega)]; rfl) (fun _ _ => ?_) (fun _ _ => hlong) ?_
  · rw [S_len]
    have h1 : (L.length : Int) ≤ (2 ^ 63 - 1) / n := by
      rw [Int.le_ediv_iff_mul_le (by omega)]
      have h2 : (L.length : Int) * n ≤ 10 * 10000 := Int.mul_le_mul (by omega) n4 (by omega) (by omega)
      omega
    omega
  · rw [if_neg (by omega), if_neg (by
      rw [Bool.or_eq_true]
      rintro (z | z)
      · have := eq_of_beq z
        omega
      · have := eq_of_beq z
        rw [S_len] at this
        omega)]
    obtain ⟨M, hM⟩ : ∃ M, M = ((List.replicate n.toNat (S L).cps).foldl (· ++ ·) #[]).toList := ⟨_, rfl⟩
    have e0 := fold_app (S L).cps n.toNat #[]
    have hflat : M = (List.replicate n.toNat L).flatten := by
      rw [hM, e0]
      simp
    have e1 : (⟨(List.replicate n.toNat (S L).cps).foldl (· ++ ·) #[]⟩ : Str) = S M := by rw [hM]
    rw [e1]
    have hl : M.length = L.length * n.toNat := by
      rw [hflat, List.length_flatten, List.map_replicate, List.sum_replicate_nat, Nat.mul_comm]
    refine ⟨by rw [S_len, hl]; exact sz_of hm, .str (S M), H, I.tok _, ⟨_, rfl⟩, hflat ▸ q⟩
/-! ### data none of whose objects stands in S -/
mutual
inductive DqS (S : Addr → Prop) (H : Hp) : V → PyData → Prop
  | non : DqS S H .non .none
  | bl (b : Bool) : DqS S H (.bl b) (.bool b)
  | int (i : Int) : DqS S H (.int i) (.int i)
  | str (L : List Nat) (h : L.length ≤ 100) (g : PyData.canLay0 (.str (Hs.S L)) = true) : DqS S H (.str (Hs.S L)) (.str (Hs.S L))
  | lst {a : Addr} {xs : List V} {ds : List PyData} : ¬ S a → H a = some (.lst xs) → DqSAll S H xs ds → DqS S H (.ref a) (.list ds)
  | tup {a : Addr} {xs : List V} {ds : List PyData} : ¬ S a → H a = some (.tup xs) → DqSAll S H xs ds → DqS S H (.ref a) (.tuple ds)
inductive DqSAll (S : Addr → Prop) (H : Hp) : List V → List PyData → Prop
  | nil : DqSAll S H [] []
  | cons {v : V} {vs : List V} {d : PyData} {ds : List PyData} : DqS S H v d → DqSAll S H vs ds → DqSAll S H (v :: vs) (d :: ds)
end
mutual
theorem DqS.dq {S : Addr → Prop} {H : Hp} : ∀ {d : PyData} {v : V}, DqS S H v d → Dq H v d
  | _, _, .non => .non
  | _, _, .bl b => .bl b
  | _, _, .int i => .int i
  | _, _, .str L h g => .str L h g
  | _, _, .lst _ h1 h2 => .lst h1 (DqSAll.dq h2)
  | _, _, .tup _ h1 h2 => .tup h1 (DqSAll.dq h2)
theorem DqSAll.dq {S : Addr → Prop} {H : Hp} : ∀ {ds : List PyData} {vs : List V}, DqSAll S H vs ds → DqAll H vs ds
  | _, _, .nil => .nil
  | _, _, .cons h1 h2 => .cons (DqS.dq h1) (DqSAll.dq h2)
end
mutual
theorem DqS.ext {S T : Addr → Prop} {H H' : Hp} (e : Hc.Ext T H H') (st : ∀ b, T b → S b) : ∀ {d : PyData} {v : V}, DqS S H v d → DqS S H' v d
  | _, _, .non => .non
  | _, _, .bl b => .bl b
  | _, _, .int i => .int i
  | _, _, .str L h g => .str L h g
  | _, _, .lst n h1 h2 => .lst n (e _ _ h1 fun z => n (st _ z)) (DqSAll.ext e st h2)
  | _, _, .tup n h1 h2 => .tup n (e _ _ h1 fun z => n (st _ z)) (DqSAll.ext e st h2)
theorem DqSAll.ext {S T : Addr → Prop} {H H' : Hp} (e : Hc.Ext T H H') (st : ∀ b, T b → S b) : ∀ {ds : List PyData} {vs : List V}, DqSAll S H vs ds → DqSAll S H' vs ds
  | _, _, .nil => .nil
  | _, _, .cons h1 h2 => .cons (DqS.ext e st h1) (DqSAll.ext e st h2)
end
mutual
theorem DqS.sub {S T : Addr → Prop} {H : Hp} (st : ∀ b, T b → S b) : ∀ {d : PyData} {v : V}, DqS S H v d → DqS T H v d
  | _, _, .non => .non
  | _, _, .bl b => .bl b
  | _, _, .int i => .int i
  | _, _, .str L h g => .str L h g
  | _, _, .lst n h1 h2 => .lst (fun z => n (st _ z)) h1 (DqSAll.sub st h2)
  | _, _, .tup n h1 h2 => .tup (fun z => n (st _ z)) h1 (DqSAll.sub st h2)
theorem DqSAll.sub {S T : Addr → Prop} {H : Hp} (st : ∀ b, T b → S b) : ∀ {ds : List PyData} {vs : List V}, DqSAll S H vs ds → DqSAll T H vs ds
  | _, _, .nil => .nil
  | _, _, .cons h1 h2 => .cons (DqS.sub st h1) (DqSAll.sub st h2)
end
theorem DqS.same {S : Addr → Prop} {H H' : Hp} {d : PyData} {v : V} (h : DqS S H v d) (e : Ex H H') : DqS S H' v d := h.ext (T := fun _ => False) (fun b o hb _ => e b o hb) fun _ z => z.elim
theorem DqSAll.same {S : Addr → Prop} {H H' : Hp} {ds : List PyData} {vs : List V} (h : DqSAll S H vs ds) (e : Ex H H') : DqSAll S H' vs ds := h.ext (T := fun _ => False) (fun b o hb _ => e b o hb) fun _ z => z.elim
/-- what is new is not in S -/
def Old (S : Addr → Prop) (H : Hp) : Prop := ∀ b, S b → H b ≠ none
theorem Old.ex {S : Addr → Prop} {H H' : Hp} (h : Old S H) (e : Ex H H') : Old S H' := fun b z q => by
  cases hb : H b with
  | none => exact h b z hb
  | some o =>
    rw [e _ _ hb] at q
    cases q
theorem Old.fresh {S : Addr → Prop} {H : Hp} {a : Addr} (h : Old S H) (n : H a = none) : ¬ S a := fun z => h a z n
mutual
theorem DqS.avoid {S : Addr → Prop} {H : Hp} {p : Addr} (n : H p = none) : ∀ {d : PyData} {v : V}, DqS S H v d → DqS (fun b => S b ∨ b = p) H v d
  | _, _, .non => .non
  | _, _, .bl b => .bl b
  | _, _, .int i => .int i
  | _, _, .str L h g => .str L h g
  | _, _, .lst m h1 h2 => .lst (fun z => z.elim m fun e => by rw [e, n] at h1; cases h1) h1 (DqSAll.avoid n h2)
  | _, _, .tup m h1 h2 => .tup (fun z => z.elim m fun e => by rw [e, n] at h1; cases h1) h1 (DqSAll.avoid n h2)
theorem DqSAll.avoid {S : Addr → Prop} {H : Hp} {p : Addr} (n : H p = none) : ∀ {ds : List PyData} {vs : List V}, DqSAll S H vs ds → DqSAll (fun b => S b ∨ b = p) H vs ds
  | _, _, .nil => .nil
  | _, _, .cons h1 h2 => .cons (DqS.avoid n h1) (DqSAll.avoid n h2)
end
theorem DqSAll.app {S : Addr → Prop} {H : Hp} : ∀ {ds es : List PyData} {vs us : List V}, DqSAll S H vs ds → DqSAll S H us es → DqSAll S H (vs ++ us) (ds ++ es)
  | _, _, _, _, .nil, h => h
  | _, _, _, _, .cons h1 h2, h => .cons h1 (DqSAll.app h2 h)
/-! ### what comes to such data -/
def EvD (S : Addr → Prop) (te : TE) (σ : L2.St) (H : Hp) (d : PyData) : Prop := ∀ H1, Ex H H1 → ∀ Q : VK, (∀ v H2, Ex H1 H2 → DqS S H2 v d → Q v H2) → te σ H1 Q
def EvDs (S : Addr → Prop) (ta : TA) (σ : L2.St) (H : Hp) (ds : List PyData) : Prop := ∀ H1, Ex H H1 → ∀ Q : List V → Hp → Prop, (∀ vs H2, Ex H1 H2 → DqSAll S H2 vs ds → Q vs H2) → ta σ H1 Q
section
variable {S : Addr → Prop} {σ : L2.St} {H : Hp} {te : TE} {ta : TA} {v : V} {d : PyData} {ds : List PyData}
theorem ed_ev (h : Ev te σ H v) (hd : DqS S H v d) : EvD S te σ H d := fun H1 e Q q => h H1 e _ fun H2 e2 => q v H2 e2 (hd.same (e.trans e2))
theorem ed_i {i : Int} (h : Ev te σ H (.int i)) : EvD S te σ H (.int i) := ed_ev h (.int i)
theorem ed_n (h : Ev te σ H .non) : EvD S te σ H .none := ed_ev h .non
theorem ed_b {b : Bool} (h : Ev te σ H (.bl b)) : EvD S te σ H (.bool b) := ed_ev h (.bl b)
theorem lay_S {L : List Nat} (h : ∀ c ∈ L, c < 1000) : PyData.canLay0 (.str (Hs.S L)) = true := by
  unfold PyData.canLay0
  show (Hs.S L).cps.all (· < 0x110000) = true
  rw [Array.all_eq_true]
  intro i hi
  have hi' : i < L.length := by simpa using hi
  have := h L[i] (List.getElem_mem hi')
  rw [decide_eq_true_eq]
  show L.toArray[i] < 0x110000
  rw [List.getElem_toArray]
  omega
theorem ed_s {L : List Nat} (h : Ev te σ H (.str (Hs.S L))) (hl : L.length ≤ 100) (hc : ∀ c ∈ L, c < 1000) : EvD S te σ H (.str (Hs.S L)) := ed_ev h (.str L hl (lay_S hc))
theorem eds_nil : EvDs S tNil σ H [] := fun H1 _ _ q => q [] H1 (Ex.refl H1) .nil
theorem eds_cons (h : EvD S te σ H d) (hr : EvDs S ta σ H ds) : EvDs S (tCons te ta) σ H (d :: ds) := fun H1 e Q q =>
  h H1 e _ fun v H2 e2 hv => hr H2 (e.trans e2) _ fun vs H3 e3 hvs => q _ H3 (e2.trans e3) (.cons (hv.same e3) hvs)
theorem DqSAll.len {H : Hp} : ∀ {ds : List PyData} {vs : List V}, DqSAll S H vs ds → vs.length = ds.length
  | _, _, .nil => rfl
  | _, _, .cons _ h => by rw [List.length_cons, List.length_cons, DqSAll.len h]
theorem ed_tup (o : Old S H) (h : EvDs S ta σ H ds) (hl : ds.length ≤ 1000 := by simp) : EvD S (tTup ta) σ H (.tuple ds) := fun H1 e Q q =>
  h H1 e _ fun vs H2 e2 hvs => ⟨by rw [hvs.len]; exact Nat.le_trans hl (by decide), fun p np => q _ _ (e2.trans (Ex.new np)) (.tup ((o.ex (e.trans e2)).fresh np) upd_same (hvs.same (Ex.new np)))⟩
theorem ed_lst (o : Old S H) (h : EvDs S ta σ H ds) (hl : ds.length ≤ 1000 := by simp) : EvD S (tLst ta) σ H (.list ds) := fun H1 e Q q =>
  h H1 e _ fun vs H2 e2 hvs => ⟨by rw [hvs.len]; exact Nat.le_trans hl (by decide), fun p np => q _ _ (e2.trans (Ex.new np)) (.lst ((o.ex (e.trans e2)).fresh np) upd_same (hvs.same (Ex.new np)))⟩
/-- a new list of such data -/
def EvLD (S : Addr → Prop) (te : TE) (σ : L2.St) (H : Hp) (ds : List PyData) : Prop := ∀ H1, Ex H H1 → ∀ Q : VK, (∀ p vs H2, H1 p = none → Ex H1 H2 → H2 p = some (.lst vs) → DqSAll (fun b => S b ∨ b = p) H2 vs ds → Q (.ref p) H2) → te σ H1 Q
theorem eld_lst (h : EvDs S ta σ H ds) (hl : ds.length ≤ 1000) : EvLD S (tLst ta) σ H ds := fun H1 e Q q =>
  h H1 e _ fun vs H2 e2 hvs => ⟨by rw [hvs.len]; exact Nat.le_trans hl (by decide), fun p np => q p vs _ (fresh_back e2 np) (e2.trans (Ex.new np)) upd_same ((hvs.avoid np).same (Ex.new np))⟩
theorem dqs_get : ∀ {vs : List V} {ds : List PyData} {i : Nat} {v : V}, DqSAll S H vs ds → vs[i]? = some v → ∃ d, ds[i]? = some d ∧ DqS S H v d
  | _, _, 0, _, .cons h _, e => by cases e; exact ⟨_, rfl, h⟩
  | _, _, i + 1, _, .cons _ h, e => dqs_get (i := i) h (by simpa using e)
end
end Hm
/-! module HmLPair -/
set_option maxHeartbeats 8000000
/-! _law_pair, _law_number. -/
namespace Hm
open PySem PySem.Spec PyProof.Rows L2 Evl Hc Hs Hy
theorem door_eq (m w : List Nat) (i : Int) : isDoorD (.tuple [.str (S m), .str (S w), .int i]) = ((isWord m && ways.contains w) && ((decide (-1 ≤ i) && decide (i ≤ 2)) && (decide (i = -1) == decide (w = resW)))) := by
  show ((true && (isWord m && ((true && ways.contains w) && true))) && ((decide (-1 ≤ i) && decide (i ≤ 2)) && (decide (i = -1) == (true && decide (w = resW))))) = _
  simp
theorem old_of {H H' : Hp} {st g sm : Addr} (e : Hc.Ext (Dr st g) H H') (d : DrawSt H' st g sm) : Old (fun b => H b ≠ none) H' := fun b hb q => by
  have hst : H' st ≠ none ∧ H' g ≠ none := by
    obtain ⟨_, _, _, _, a1, a2, _⟩ := d
    constructor
    · rw [a1]
      exact fun z => nomatch z
    · rw [a2]
      exact fun z => nomatch z
  by_cases hd : Dr st g b
  · rcases hd with rfl | rfl
    · exact hst.1 q
    · exact hst.2 q
  · cases hq : H b with
    | none => exact hb hq
    | some o =>
      rw [e b o hq hd] at q
      cases q
theorem dr_sub {H : Hp} {st g sm : Addr} (d : DrawSt H st g sm) : ∀ b, Dr st g b → H b ≠ none := fun b hb => by
  obtain ⟨_, _, _, _, a1, a2, _⟩ := d
  rcases hb with rfl | rfl
  · rw [a1]; exact fun z => nomatch z
  · rw [a2]; exact fun z => nomatch z
theorem nm_get {ws : List Nm} {i : Nat} {v : V} (h : (ws.map sv)[i]? = some v) : ∃ w, w ∈ ws ∧ v = sv w := by
  rw [List.getElem?_map] at h
  obtain ⟨w, hw, rfl⟩ := Option.map_eq_some_iff.mp h
  exact ⟨w, List.mem_of_getElem? hw, rfl⟩
theorem small_word {w : List Nat} (h : Small w) (n : w ∉ resv) : isWord w = true := by
  unfold isWord areSmall
  rw [decide_eq_true h.pos, decide_eq_true h.le, show (w.all fun c => decide (c ∈ smalls)) = true from List.all_eq_true.mpr fun c hc => decide_eq_true (h.all c hc), show resv.contains w = false by simpa using n]
  rfl
theorem ways_eq : ([.str (Str.ofString "back"), .str (Str.ofString "in"), .str (Str.ofString "out"), .str (Str.ofString "result")] : List V) = ways.map sv := by decide +kernel
def spLPair : Sp := fun vs H Q _ => ∃ (st g sm wa : Addr) (ws : List Nm), vs = [.ref st, .ref wa] ∧ DrawSt H st g sm ∧ H wa = some (.lst (ws.map sv)) ∧ ¬ Dr st g wa ∧ 0 < ws.length ∧ ws.length ≤ 100 ∧ (∀ x ∈ ws, Small x) ∧ (∀ x ∈ ws, x ∉ resv) ∧
  ∀ v d H', DqS (fun b => H b ≠ none) H' v d → isPairD d = true → d.depth ≤ 4 → Hc.Ext (Dr st g) H H' → DrawSt H' st g sm → Q v H'
abbrev nLPair : List Str := ["_law_state", "_law_words", "_law_way", "_law_at"]
theorem scLPair : FnScope nLPair ["_law_state", "_law_words"] (defScope sLPair) := ⟨rfl, rfl, rfl, by decide +kernel, rfl, by decide +kernel, by decide +kernel⟩
def spLNum : Sp := fun vs H Q _ => ∃ a b : Int, vs = [.int a, .int b] ∧ ∀ H', Ex H H' → Q (.bl (decide (a = b))) H'
abbrev nLNum : List Str := ["_law_thing", "_law_due"]
theorem scLNum : FnScope nLNum ["_law_thing", "_law_due"] (defScope sLNum) := ⟨rfl, rfl, rfl, by decide +kernel, rfl, by decide +kernel, by decide +kernel⟩
theorem boot_boolT : bootBuiltins "bool" = some (.type "bool") := by decide +kernel
section
variable {P : Program} {w : World} {K : PySem.W.Frag} {mg : Str → Option Value} {base : Heap}
theorem ok_lnum {f : Addr} {fd : FuncData} {k : Nat} (F : Fun K "_law_number" "_law_number" sLNum f fd) (T : DoorP K mg) (tB : mg "bool" = none) : FnOk P w K mg base CX0 (k + 1) f fd ["_law_thing", "_law_due"] spLNum := by
  refine F.ok scLNum (fun vs H Q E h => ?_) (fun cdv A outer s H vs Q E hr h => ?_)
  · obtain ⟨a, b, rfl, _⟩ := h
    rfl
  · obtain ⟨a, b, rfl, q⟩ := h
    refine ⟨_, pss_one (ps_ret (pe_and (pe_callB call_isi (by rfl) T.isi boot_isinstance (pa_cons (pv 0) (pa_cons (pe_bltn (v := .ty "int") (by rfl) T.int boot_intT rfl) pa_nil)))
      (pe_and (pe_not (pe_callB call_isi (by rfl) T.isi boot_isinstance (pa_cons (pv 0) (pa_cons (pe_bltn (v := .ty "bool") (by rfl) tB boot_boolT rfl) pa_nil)))) (pe_one (pe_cmpR op_eq (pv 0) (pv 1) (nomark _)))))), ?_⟩
    refine s_ret (Evl.ev_is (ev_andV (ev_isiD (d := .int a) (ev_var rfl) ev_c (.int a) (b := true) rfl) fun _ => ev_andV (ev_notV (ev_isiD (d := .int a) (ev_var rfl) ev_c (.int a) (b := false) (show kitB "int" "bool" = some false by decide +kernel))) fun _ => ev_eqI (ev_var rfl) (ev_var rfl)) (by rfl)) q
theorem ok_lpair {f : Addr} {fd : FuncData} {k : Nat} (F : Fun K "_law_pair" "_law_pair" sLPair f fd) (rD : Hs.Rd P w K mg base "_law_draw" k ["_law_state", "_law_many"] spDraw) (rO : Hs.Rd P w K mg base "_law_of" k ["_law_state", "_law_some"] (spOf K)) : FnOk P w K mg base CX0 (k + 1) f fd ["_law_state", "_law_words"] spLPair := by
  refine F.ok scLPair (fun vs H Q E h => ?_) (fun cdv A outer s H vs Q E hr h => ?_)
  · obtain ⟨st, g, sm, wa, ws, rfl, _⟩ := h
    rfl
  · obtain ⟨st, g, sm, wa, ws, rfl, hd, hwa, nwa, w0, wle, hws, hnr, q⟩ := h
    have hl := Nat.le_refl k
    refine ⟨_, pss_cons (ps_set (i := 2) scLPair.nd rfl (.inl rfl) (pe_rd rO hr hl (by rfl) (pa_cons (pv 0) (pa_cons (pe_lst (pa_cons pe_str (pa_cons pe_str (pa_cons pe_str (pa_cons pe_str pa_nil))))) pa_nil))))
      (pss_cons (ps_set (i := 3) scLPair.nd rfl (.inl rfl) (pe_ifExp (pt_cmpR op_eq (pv 2) pe_str (nomark _)) (pe_un un_neg pe_int) (pe_rd rD hr hl (by rfl) (pa_cons (pv 0) (pa_cons pe_int pa_nil)))))
      (pss_one (ps_ret (pe_tup (pa_cons (pe_tup (pa_cons (pe_rd rO hr hl (by rfl) (pa_cons (pv 0) (pa_cons (pv 1) pa_nil))) (pa_cons (pv 2) (pa_cons (pv 3) pa_nil)))) (pa_cons (pe_op op_add pe_int (pe_rd rD hr hl (by rfl) (pa_cons (pv 0) (pa_cons pe_int pa_nil)))) pa_nil)))))), ?_⟩
    refine q_asgX ?_
    refine ⟨_, rfl, (show 4 ≤ sizeLine by decide), fun l nl => ⟨st, g, sm, l, _, rfl, hd.same (Ex.new nl), .inl (sq_of upd_same), dr_off (hd.off nl), (show 0 < 4 by decide), (show 4 < 2 ^ 60 by decide), fun i v H1 hv e1 d1 => ?_⟩⟩
    obtain ⟨wy, hwy, rfl⟩ := nm_get (ws := ways) ((congrArg (fun z : List V => z[i]?) ways_eq.symm).trans hv)
    have x1 : Hc.Ext (Dr st g) H H1 := (ext_ex (Ex.new nl)).trans e1
    have tail : ∀ (a : Int) (H2 : Hp), ((decide (-1 ≤ a) && decide (a ≤ 2)) && (decide (a = -1) == decide (wy = resW))) = true → Hc.Ext (Dr st g) H H2 → DrawSt H2 st g sm →
        tRet (tTup (tCons (tTup (tCons (tCall (spOf K) [] E0 (tCons (tVar 0) (tCons (tVar 1) tNil))) (tCons (tVar 2) (tCons (tVar 3) tNil)))) (tCons (tOp (rI0 fun i j => V.int (i + j)) (tC (.int 1)) (tCall spDraw [] E0 (tCons (tVar 0) (tCons (tC (.int 3)) tNil)))) tNil))) { nx := fun _ H' => Q .non H', rt := Q } [some (.ref st), some (.ref wa), some (sv wy), some (.int a)] H2 := by
      intro a H2 ha x2 d2
      refine ⟨_, rfl, _, rfl, st, g, sm, wa, ws.map sv, rfl, d2, .inl (sq_of (x2 _ _ hwa nwa)), nwa, by rw [List.length_map]; exact w0, by rw [List.length_map]; exact Nat.lt_of_le_of_lt wle (by decide), fun i2 v2 H3 hv2 e3 d3 => ?_⟩
      obtain ⟨wd, hwd, rfl⟩ := nm_get hv2
      refine ⟨_, rfl, _, rfl, (show 3 ≤ sizeLine by decide), fun dp ndp => ?_⟩
      have d4 := d3.same (Ex.new (o := HO.tup [sv wd, sv wy, V.int a]) ndp)
      have x3 := x2.trans e3
      have x4 : Hc.Ext (Dr st g) H (upd H3 dp (.tup [sv wd, sv wy, V.int a])) := x3.trans (ext_ex (Ex.new ndp))
      have hdp : (upd H3 dp (.tup [sv wd, sv wy, V.int a])) dp = some (.tup [sv wd, sv wy, V.int a]) := upd_same
      have odp : ¬ (H dp ≠ none) := fun z => (old_of x3 d3) dp z ndp
      generalize upd H3 dp (.tup [sv wd, sv wy, V.int a]) = H4 at d4 x4 hdp ⊢
      refine ⟨_, rfl, st, g, sm, 3, rfl, d4, by decide, by decide, fun r H5 r0 r3 e5 d5 => ⟨1, r, rfl, rfl, (show 2 ≤ sizeLine by decide), fun tp ntp => ?_⟩⟩
      have hw := hws wd hwd
      have hl_w : wd.length ≤ 100 := Nat.le_trans hw.le (by decide)
      have hc_w : ∀ c ∈ wd, c < 1000 := fun c hc => by have := sm_lt (hw.all c hc); omega
      have hy : wy.length ≤ 100 ∧ ∀ c ∈ wy, c < 1000 := (show ∀ wy ∈ ways, wy.length ≤ 100 ∧ ∀ c ∈ wy, c < 1000 by decide +kernel) wy hwy
      have hdr : DqS (fun b => H b ≠ none) H4 (.ref dp) (.tuple [.str (S wd), .str (S wy), .int a]) := .tup odp hdp (.cons (.str wd hl_w (lay_S hc_w)) (.cons (.str wy hy.1 (lay_S hy.2)) (.cons (.int a) .nil)))
      have hdr5 := hdr.ext e5 (dr_sub hd)
      have x5 := x4.trans e5
      refine q (.ref tp) (.tuple [.tuple [.str (S wd), .str (S wy), .int a], .int (1 + r)]) _ (.tup ((old_of x5 d5).fresh ntp) upd_same (.cons (hdr5.same (Ex.new ntp)) (.cons (.int _) .nil))) ?_ (by simp [PyData.depth, PyData.depthAll]) (x5.trans (ext_ex (Ex.new ntp))) (d5.same (Ex.new ntp))
      show (isDoorD _ && (true && (decide (1 ≤ 1 + r) && decide (1 + r ≤ 3)))) = true
      rw [door_eq, small_word hw (hnr wd hwd), show ways.contains wy = true by simpa using hwy, ha, decide_eq_true (p := 1 ≤ 1 + r) (by omega), decide_eq_true (p := 1 + r ≤ 3) (by omega)]
      rfl
    refine q_asgX ?_
    refine (et_test (ev_eqS (a := wy) (b := resW) (ev_var (σ := [some (.ref st), some (.ref wa), some (sv wy), none]) (H := H1) rfl) ev_c)) H1 (Ex.refl H1) _ fun H2 e2 => ?_
    have x2 := x1.trans (ext_ex e2)
    by_cases hres : wy = resW
    · rw [decide_eq_true hres]
      refine iteT ?_
      refine ⟨1, rfl, ?_⟩
      exact tail (-1) H2 (by rw [decide_eq_true hres]; decide) x2 (d1.same e2)
    · rw [decide_eq_false hres]
      refine iteF ?_
      refine ⟨_, rfl, st, g, sm, 3, rfl, d1.same e2, by decide, by decide, fun r H3 r0 r3 e3 d3 => ?_⟩
      exact tail r H3 (by
        rw [decide_eq_false hres, decide_eq_true (p := -1 ≤ r) (by omega), decide_eq_true (p := r ≤ 2) (by omega), decide_eq_false (p := r = -1) (by omega)]
        rfl) (x2.trans e3) d3
end
end Hm
/-! module HmRows -/
set_option maxHeartbeats 8000000
/-! The rows that the law draws, one behind the other. -/
namespace Hm
open PySem PySem.Spec PyProof.Rows L2 Evl Hc Hs Hy
def doorD : PyData → PyData
  | .tuple [d, _] => d
  | _ => .none
/-- the first item of a tuple -/
def fstV (H : Hp) : V → V
  | .ref p => match H p with
    | some (.tup (x :: _)) => x
    | _ => .non
  | _ => .non
theorem fst_at {H : Hp} {p : Addr} {x : V} {r : List V} (h : H p = some (.tup (x :: r))) : fstV H (.ref p) = x := by
  simp only [fstV, h]
theorem doors_dp {K : PySem.W.Frag} {H H' : Hp} (e : Ex H H') : ∀ {vs : List V} {ds : List PyData}, DqAll H vs ds → (∀ d ∈ ds, isPairD d = true) → DpAll K H' (vs.map (fstV H)) (ds.map doorD)
  | _, _, .nil, _ => .nil
  | _, _, .cons (d := d) h hs, hp => by
    have h1 := hp d List.mem_cons_self
    obtain ⟨p, q, m, w, i, n, rfl, h2, h3, rfl, _, _⟩ := pair_at h h1
    rw [List.map_cons, List.map_cons, fst_at h2]
    exact .cons (.tup (st_of (e _ _ h3)) (.cons (.str _) (.cons (.str _) (.cons (.int _) .nil)))) (doors_dp e hs fun d' hd' => hp d' (List.mem_cons_of_mem _ hd'))
theorem eqv_S (a b : List Nat) : PyData.eqv (.str (S a)) (.str (S b)) = decide (a = b) := by
  show (S a == S b) = decide (a = b)
  rw [Bool.eq_iff_iff, beq_iff_eq, decide_eq_true_eq]
  exact ⟨fun z => S_inj z, fun z => z ▸ rfl⟩
theorem eqv_door {d e : PyData} {H : Hp} {u v : V} (hd : Dq H u d) (he : Dq H v e) (pd : isPairD d = true) (pe : isPairD e = true) : PyData.eqv (doorD e) (doorD d) = decide (keyOf e = keyOf d) := by
  obtain ⟨_, _, m, w, i, n, _, _, _, rfl, _, _⟩ := pair_at hd pd
  obtain ⟨_, _, m', w', i', n', _, _, _, rfl, _, _⟩ := pair_at he pe
  show (PyData.eqv (.str (S m')) (.str (S m)) && (PyData.eqv (.str (S w')) (.str (S w)) && ((i' == i) && true))) = decide (([.inr (S m'), .inr (S w'), .inl i'] : KList) = [.inr (S m), .inr (S w), .inl i])
  rw [eqv_S, eqv_S, Bool.eq_iff_iff]
  simp only [Bool.and_eq_true, decide_eq_true_eq, beq_iff_eq, and_true]
  constructor
  · rintro ⟨rfl, rfl, rfl⟩
    rfl
  · intro z
    injection z with z1 z2
    injection z2 with z2 z3
    injection z3 with z3 _
    exact ⟨S_inj (Sum.inr.inj z1), S_inj (Sum.inr.inj z2), Sum.inl.inj z3⟩
theorem any_doors {H : Hp} {d : PyData} {u : V} (hd : Dq H u d) (pd : isPairD d = true) : ∀ {vs : List V} {ds : List PyData}, DqAll H vs ds → (∀ e ∈ ds, isPairD e = true) → (((ds.map doorD).any fun z => PyData.eqv z (doorD d)) = true ↔ keyOf d ∈ ds.map keyOf)
  | _, _, .nil, _ => by simp
  | _, _, .cons (d := e) (ds := ds) h hs, hp => by
    rw [List.map_cons, List.any_cons, eqv_door hd h pd (hp e List.mem_cons_self), List.map_cons, Bool.or_eq_true, decide_eq_true_eq, List.mem_cons, any_doors hd pd hs fun e' he' => hp e' (List.mem_cons_of_mem _ he')]
    exact ⟨fun z => z.imp Eq.symm id, fun z => z.imp Eq.symm id⟩
theorem OkRows.app {ds es : List PyData} {i : Nat} (h : OkRows ds i) (hi : i ≤ ds.length) : OkRows (ds ++ es) i := fun j d hj hd => by
  rw [List.getElem?_append_left (by omega)] at hd
  have := h j d hj hd
  rw [List.take_append_of_le_length (by omega)]
  exact this
theorem OkRows.all {ds : List PyData} (h : OkRows ds ds.length) : ∀ d ∈ ds, isPairD d = true := fun d hd => by
  obtain ⟨j, hj⟩ := List.mem_iff_getElem?.mp hd
  exact (h j d (List.getElem?_eq_some_iff.mp hj).1 hj).1
theorem told_ok {ds : List PyData} {d : PyData} (h : Told ds none) (h1 : isPairD d = true) (h2 : keyOf d ∉ ds.map keyOf) : Told (ds ++ [d]) none := by
  have h' : OkRows ds ds.length := h
  show OkRows (ds ++ [d]) (ds ++ [d]).length
  rw [List.length_append]
  refine (h'.app (Nat.le_refl _)).next (d := d) (by simp) h1 ?_
  rw [List.take_append_of_le_length (Nat.le_refl _), List.take_length]
  exact h2
theorem told_bad {ds : List PyData} {d : PyData} (h : Told ds none) (h1 : isPairD d = true → keyOf d ∈ ds.map keyOf) : Told (ds ++ [d]) (some ds.length) := by
  have h' : OkRows ds ds.length := h
  refine ⟨h'.app (Nat.le_refl _), d, by simp, ?_⟩
  rw [List.take_append_of_le_length (Nat.le_refl _), List.take_length]
  exact h1
theorem told_lt {ds : List PyData} {k : Nat} (h : Told ds (some k)) : k < ds.length := by
  obtain ⟨_, d, hd, _⟩ := h
  exact (List.getElem?_eq_some_iff.mp hd).1
theorem told_on {ds : List PyData} {d : PyData} {k : Nat} (h : Told ds (some k)) : Told (ds ++ [d]) (some k) := by
  have hk := told_lt h
  obtain ⟨h1, e, he, hb⟩ := h
  refine ⟨h1.app (Nat.le_of_lt hk), e, by rw [List.getElem?_append_left hk]; exact he, ?_⟩
  rw [List.take_append_of_le_length (Nat.le_of_lt hk)]
  exact hb
theorem told_take {ds : List PyData} {k : Nat} (h : Told ds (some k)) : Told (ds.take k) none := by
  have hk := told_lt h
  obtain ⟨h1, _⟩ := h
  have e : (ds.take k).length = k := by
    rw [List.length_take]
    omega
  show OkRows (ds.take k) (ds.take k).length
  rw [e]
  intro j d hj hd
  rw [List.getElem?_take_of_lt hj] at hd
  have := h1 j d hj hd
  rw [List.take_take, Nat.min_eq_left (Nat.le_of_lt hj)]
  exact this
theorem dq_take {H : Hp} : ∀ {vs : List V} {ds : List PyData} (k : Nat), DqAll H vs ds → DqAll H (vs.take k) (ds.take k)
  | _, _, 0, h => by
    rw [List.take_zero, List.take_zero]
    exact .nil
  | _, _, k + 1, .nil => by
    rw [List.take_nil, List.take_nil]
    exact .nil
  | _, _, k + 1, .cons h1 h2 => .cons h1 (dq_take k h2)
theorem pair_inner {H : Hp} {p q : Addr} {m w : List Nat} {i n : Int} (h : Dq H (.ref p) (.tuple [.tuple [.str (S m), .str (S w), .int i], .int n])) (hp : H p = some (.tup [.ref q, .int n])) (hq : H q = some (.tup [.str (S m), .str (S w), .int i])) : DqAll H [.str (S m), .str (S w), .int i] [.str (S m), .str (S w), .int i] := by
  cases h with
  | tup h1 h2 =>
    rw [hp] at h1
    cases h1
    cases h2 with
    | cons g1 _ =>
      cases g1 with
      | tup h3 h4 =>
        rw [hq] at h3
        cases h3
        exact h4
theorem doors_shaped {H : Hp} {vs : List V} {ds : List PyData} (h : DqAll H vs ds) (hp : ∀ d ∈ ds, isPairD d = true) (hl : ds.length ≤ 100) : SeqAt.shaped (.list (ds.map doorD)) = true := by
  have lay : ∀ {vs : List V} {ds : List PyData}, DqAll H vs ds → (∀ d ∈ ds, isPairD d = true) → PyData.canLayAll0 (ds.map doorD) = true ∧ PyData.depthAll (ds.map doorD) ≤ 1 := by
    intro vs ds h
    induction ds generalizing vs with
    | nil => exact fun _ => ⟨rfl, Nat.zero_le _⟩
    | cons d ds ih =>
      intro hp
      cases h with
      | cons h1 h2 =>
        obtain ⟨i1, i2⟩ := ih h2 fun e he => hp e (List.mem_cons_of_mem _ he)
        obtain ⟨p, q, m, w, i, n, rfl, g1, g2, rfl, _, _⟩ := pair_at h1 (hp d List.mem_cons_self)
        have hi := (pair_inner h1 g1 g2).lay
        constructor
        · show (PyData.canLay0 (.tuple [.str (S m), .str (S w), .int i]) && PyData.canLayAll0 (ds.map doorD)) = true
          rw [i1, Bool.and_true]
          unfold PyData.canLay0
          exact hi
        · show max (PyData.depth (.tuple [.str (S m), .str (S w), .int i])) (PyData.depthAll (ds.map doorD)) ≤ 1
          exact Nat.max_le.mpr ⟨by simp [PyData.depth, PyData.depthAll], i2⟩
  obtain ⟨l1, l2⟩ := lay h hp
  unfold SeqAt.shaped
  rw [Bool.and_eq_true]
  constructor
  · unfold PyData.canLay0
    exact l1
  · rw [decide_eq_true_eq]
    show PyData.depthAll (ds.map doorD) + 1 ≤ 64
    omega
theorem door_dep {d : PyData} (h : d.depth ≤ 4) : (doorD d).depth ≤ 8 := by
  unfold doorD
  split
  · rename_i x n
    have := depth_tup (n := 4) h (d := x) (by simp)
    omega
  · show 0 ≤ 8
    omega
end Hm
/-! module HmMend -/
set_option maxHeartbeats 4000000
/-! What a mend holds; its own defs. -/
namespace Hm
open PySem PySem.Spec PyProof.Rows L2 Evl Hc Hs Hy PySem.W
/-- rows, ascending -/
def srt (ds : List PyData) : List PyData := ds.mergeSort (dataLe false fun d => d)
theorem sorting_snd {xs : List V} {ds : List PyData} (h : xs.length = ds.length) : (sorting xs ds).map (·.2) = srt ds := by
  unfold srt
  have e : (xs.zip ds).map (·.2) = ds := List.map_snd_zip (by rw [h]; exact Nat.le_refl _)
  have z := List.map_mergeSort (l := xs.zip ds) (r := dataLe false fun z : V × PyData => z.2) (s := dataLe false fun d => d) (f := fun z : V × PyData => z.2) (hl := fun a _ b _ => rfl)
  rw [e] at z
  exact z
theorem dqall_zip {H : Hp} : ∀ {vs : List V} {ds : List PyData}, DqAll H vs ds → ∀ z ∈ vs.zip ds, Dq H z.1 z.2
  | _, _, .nil, z, h => by cases h
  | _, _, .cons h1 h2, z, h => by
    rcases List.mem_cons.mp (by simpa using h) with e | h
    · rw [e]
      exact h1
    · exact dqall_zip h2 z h
theorem dqall_of {H : Hp} : ∀ {zs : List (V × PyData)}, (∀ z ∈ zs, Dq H z.1 z.2) → DqAll H (zs.map (·.1)) (zs.map (·.2))
  | [], _ => .nil
  | z :: zs, h => .cons (h z List.mem_cons_self) (dqall_of fun y hy => h y (List.mem_cons_of_mem _ hy))
theorem sorting_dq {H : Hp} {xs : List V} {ds : List PyData} (h : DqAll H xs ds) : DqAll H ((sorting xs ds).map (·.1)) (srt ds) := by
  rw [← sorting_snd h.len]
  refine dqall_of fun z hz => dqall_zip h z ?_
  exact (List.mergeSort_perm _ _).mem_iff.mp hz
theorem ents_dq {H H0 : Hp} : ∀ (ts : List Addr) (vs : List V) (ds : List PyData), EntAt H ts (entsD ds ds.length) → DqAll H0 vs ds → (∀ d ∈ ds, isPairD d = true) → DqAll H (ts.map V.ref) ds
  | [], _, [], _, _, _ => .nil
  | [], _, _ :: _, h, _, _ => by
    have := h.1
    simp [entsD] at this
  | _ :: _, _, [], h, _, _ => by
    have := h.1
    simp [entsD] at this
  | t :: ts, _, d :: ds, h, .cons (v := v) h1 h2, hr => by
    have e : entsD (d :: ds) (d :: ds).length = (keyOf d, V.int (nuOf d)) :: entsD ds ds.length := by
      unfold entsD
      rw [List.length_cons, List.take_succ_cons, List.map_cons]
    rw [e] at h
    obtain ⟨hl, ha⟩ := h
    obtain ⟨p, q0, m, w, i, n, rfl, g1, g2, rfl, _, _⟩ := pair_at h1 (hr d List.mem_cons_self)
    obtain ⟨q, k1, k2⟩ := ha 0 _ t rfl rfl
    have hin := pair_inner h1 g1 g2
    have hin2 : DqAll H [.str (S m), .str (S w), .int i] [.str (S m), .str (S w), .int i] := by
      cases hin with
      | cons a1 r =>
        cases r with
        | cons a2 r =>
          cases a1 with
          | str L l1 l2 =>
            cases a2 with
            | str L' l1' l2' => exact .cons (.str _ l1 l2) (.cons (.str _ l1' l2') (.cons (.int i) .nil))
    refine .cons (.tup k1 (.cons (.tup k2 hin2) (.cons (.int n) .nil))) (ents_dq ts _ ds ⟨by simpa using hl, fun j kv t' hj ht => ha (j + 1) kv t' (by simpa using hj) (by simpa using ht)⟩ h2 fun d' hd' => hr d' (List.mem_cons_of_mem _ hd'))
/-- a mend of these rows, all told -/
def MendOk (C x : Addr) (ds : List PyData) (H : Hp) : Prop := ∃ dx tp F vs, H x = some (.ins C dx [("pairs", .ref tp), ("_floors_at", .ref F)]) ∧ H F = some (.dT (entsD ds ds.length)) ∧ H tp = some (.tup vs) ∧ DqAll H vs (srt ds)
theorem MendOk.ex {C x : Addr} {ds : List PyData} {H H' : Hp} (h : MendOk C x ds H) (e : Ex H H') : MendOk C x ds H' := by
  obtain ⟨dx, tp, F, vs, h1, h2, h3, h4⟩ := h
  exact ⟨dx, tp, F, vs, e _ _ h1, e _ _ h2, e _ _ h3, h4.ex e⟩
theorem mend_ok {C x : Addr} {ds : List PyData} {H H0 : Hp} {vs : List V} (h : MendAt C x ds H) (hd : DqAll H0 vs ds) (ht : Told ds none) : MendOk C x ds H := by
  obtain ⟨dx, tp, F, ts, h1, h2, h3, h4⟩ := h
  have hall : ∀ d ∈ ds, isPairD d = true := OkRows.all ht
  exact ⟨dx, tp, F, _, h1, h2, h3, sorting_dq (ents_dq ts vs ds h4 hd hall)⟩
theorem srt_len (ds : List PyData) : (srt ds).length = ds.length := List.length_mergeSort _
theorem srt_mem {ds : List PyData} {d : PyData} : d ∈ srt ds ↔ d ∈ ds := (List.mergeSort_perm _ _).mem_iff
theorem srt_depth {ds : List PyData} {n : Nat} (h : ∀ d ∈ ds, d.depth ≤ n) : PyData.depth (.tuple (srt ds)) ≤ n + 1 := by
  have : ∀ es : List PyData, (∀ d ∈ es, d.depth ≤ n) → PyData.depthAll es ≤ n := by
    intro es
    induction es with
    | nil => exact fun _ => Nat.zero_le _
    | cons e es ih => exact fun h => Nat.max_le.mpr ⟨h e List.mem_cons_self, ih fun d hd => h d (List.mem_cons_of_mem _ hd)⟩
  exact Nat.succ_le_succ (this _ fun d hd => h d (srt_mem.mp hd))
abbrev sMLen : Stmt := inClass cMend 5
abbrev sMGet : Stmt := inClass cMend 6
abbrev sMBool : Stmt := inClass cMend 8
abbrev sMEq : Stmt := inClass cMend 9
theorem scMLen : FnScope ["self"] ["self"] (defScope sMLen) := ⟨rfl, rfl, rfl, by decide +kernel, rfl, by decide +kernel, by decide +kernel⟩
theorem scMGet : FnScope ["self", "door"] ["self", "door"] (defScope sMGet) := ⟨rfl, rfl, rfl, by decide +kernel, rfl, by decide +kernel, by decide +kernel⟩
theorem scMBool : FnScope ["self"] ["self"] (defScope sMBool) := ⟨rfl, rfl, rfl, by decide +kernel, rfl, by decide +kernel, by decide +kernel⟩
theorem scMEq : FnScope ["self", "other"] ["self", "other"] (defScope sMEq) := ⟨rfl, rfl, rfl, by decide +kernel, rfl, by decide +kernel, by decide +kernel⟩
end Hm
/-! module HmDefs -/
set_option maxHeartbeats 4000000
/-! Mend's own len, [], bool, ==; floors. -/
namespace Hm
open PySem PySem.Spec PyProof.Rows L2 Evl Hc Hs Hy PySem.W
structure MdQ (mg : Str → Option Value) (C : Addr) : Prop where
  len : mg "len" = none
  boo : mg "bool" = none
  isi : mg "isinstance" = none
  sum : mg "sum" = none
  gM : mg "Mend" = some (.ref C)
structure MdI (K : PySem.W.Frag) (C : Addr) : Prop extends MdC K C where
  ha : PySem.W.findIn K (.ref C) "__class__" = some (some (.builtin "object.__class__"))
  hn : PySem.W.specialIn K (.builtin "object.__class__") "__get__" = some (some (.builtin "getset_descriptor.__get__"))
  htk : PySem.W.takesIn K (.builtin "object.__class__") = some true
  hm : PySem.W.mroIn K C (.type "object") = some true
  kS : PySem.W.kitOne K (.ref C) (.ref C) = some true
  kN : ∀ n ∈ ["NoneType", "int", "str", "tuple", "list"], PySem.W.kitOne K (.type n) (.ref C) = some false
def spMLen (C : Addr) : Sp := fun vs H Q _ => ∃ x ds, vs = [.ref x] ∧ MendOk C x ds H ∧ ∀ H', Ex H H' → Q (.int (ds.length : Int)) H'
def spMGet (C : Addr) : Sp := fun vs H Q _ => ∃ x q ds k, vs = [.ref x, .ref q] ∧ MendOk C x ds H ∧ H q = some (.tup (k.map kV)) ∧ ∀ H', Ex H H' → Q ((valV (entsD ds ds.length) k).getD (.int 0)) H'
def spMBool (C : Addr) : Sp := fun vs H Q _ => ∃ x ds, vs = [.ref x] ∧ MendOk C x ds H ∧ (∀ d ∈ ds, d.depth ≤ 4) ∧ ∀ H', Ex H H' → Q (.bl (!ds.isEmpty)) H'
/-- what a mend is compared with: a mend, or data -/
def spMEq (C : Addr) : Sp := fun vs H Q _ => ∃ x ds y, vs = [.ref x, y] ∧ MendOk C x ds H ∧ (∀ d ∈ ds, d.depth ≤ 4) ∧
  ((∃ z es, y = .ref z ∧ MendOk C z es H ∧ (∀ d ∈ es, d.depth ≤ 4) ∧ ∀ H', Ex H H' → Q (.bl (PyData.eqv (.tuple (srt ds)) (.tuple (srt es)))) H') ∨
   (∃ d, Dq H y d ∧ tyD d ∈ ["NoneType", "int", "str", "tuple", "list"] ∧ ∀ H', Ex H H' → Q (.bl false) H'))
def spMFl (C : Addr) : Sp := fun vs H Q _ => ∃ x ds, vs = [.ref x] ∧ MendOk C x ds H ∧ (∀ d ∈ ds, isPairD d = true) ∧ ds.length ≤ 100 ∧ ∀ H', Ex H H' → Q (.int (ds.map nuOf).sum) H'
theorem empty_eqv (ds : List PyData) : PyData.eqv (.tuple (srt ds)) (.tuple []) = ds.isEmpty := by
  have hl := srt_len ds
  cases h : srt ds with
  | nil =>
    rw [h] at hl
    cases ds with
    | nil => rfl
    | cons a b => cases hl
  | cons x r =>
    rw [h] at hl
    cases ds with
    | nil => cases hl
    | cons a b => rfl
theorem ev_fld' {K : PySem.W.Frag} {σ : L2.St} {H : Hp} {te : TE} {C a dx : Addr} {fs : List (Str × V)} {f : Str} {v : V} (h : Ev te σ H (.ref a)) (ha : H a = some (.ins C dx fs)) (c : Cls K C) (n : NoAttr K C f) (hl : fs.lookup f = some v) : Ev (tFld K te f) σ H v := fun H1 e Q q =>
  h H1 e _ fun H2 e2 => ⟨a, C, dx, fs, v, rfl, e2 _ _ (e _ _ ha), c, n, hl, q H2 e2⟩
theorem ev_dget2T {σ : L2.St} {H : Hp} {td ty tx : TE} {d b : Addr} {z : V} {kvs : List (KList × V)} {k : KList} (h1 : Ev td σ H (.ref d)) (h2 : Ev ty σ H (.ref b)) (h3 : Ev tx σ H z) (hd : H d = some (.dT kvs)) (hb : H b = some (.tup (k.map kV))) : Ev (tDGet2 td ty tx) σ H ((valV kvs k).getD z) := fun H1 e Q q =>
  h1 H1 e _ fun H2 e2 => ⟨d, rfl, .inr ⟨_, .inl ((e.trans e2) _ _ hd)⟩, h2 H2 (e.trans e2) _ fun H3 e3 => h3 H3 ((e.trans e2).trans e3) _ fun H4 e4 =>
    ⟨_, DGet.t (k := k) ((((e.trans e2).trans e3).trans e4) _ _ hd) ((((e.trans e2).trans e3).trans e4) _ _ hb), q H4 ((e2.trans e3).trans e4)⟩⟩
section
variable {P : Program} {w : World} {K : PySem.W.Frag} {mg : Str → Option Value} {base : Heap} {C f : Addr} {fd : FuncData} {k : Nat}
theorem ok_mlen (F : Fun K "__len__" "Mend.__len__" sMLen f fd) (T : MdQ mg C) (c : MdC K C) : FnOk P w K mg base CX0 (k + 1) f fd ["self"] (spMLen C) := by
  refine F.ok scMLen (fun vs H Q E h => ?_) (fun cdv A outer s H vs Q E hr h => ?_)
  · obtain ⟨x, ds, rfl, _⟩ := h
    rfl
  · obtain ⟨x, ds, rfl, ⟨dx, tp, Fa, us, h1, h2, h3, h4⟩, q⟩ := h
    refine ⟨_, pss_one (ps_ret (pe_callB (show CallR _ (.builtin "len") (rLenS K) from call_len_seq) (by rfl) T.len PySem.boot_len (pa_cons (pe_fld (pv 0) (by rfl)) pa_nil))), ?_⟩
    refine s_ret (Evl.ev_is (ev_lenT (ev_fld' (ev_var rfl) h1 c.cl c.nP rfl) (st_of h3)) (by rw [h4.len, srt_len])) q
theorem ok_mget (F : Fun K "__getitem__" "Mend.__getitem__" sMGet f fd) (c : MdC K C) : FnOk P w K mg base CX0 (k + 1) f fd ["self", "door"] (spMGet C) := by
  refine F.ok scMGet (fun vs H Q E h => ?_) (fun cdv A outer s H vs Q E hr h => ?_)
  · obtain ⟨x, p, ds, kk, rfl, _⟩ := h
    rfl
  · obtain ⟨x, p, ds, kk, rfl, ⟨dx, tp, Fa, us, h1, h2, h3, h4⟩, hp, q⟩ := h
    refine ⟨_, pss_one (ps_ret (pe_dget2 (hu_of hr) (pe_fld (pv 0) (by rfl)) (pv 1) pe_int ⟨by rfl, by rfl, by rfl, by rfl⟩)), ?_⟩
    exact s_ret (ev_dget2T (k := kk) (ev_fld' (ev_var rfl) h1 c.cl c.nF rfl) (ev_var rfl) ev_c h2 hp) q
theorem ok_mbool (F : Fun K "__bool__" "Mend.__bool__" sMBool f fd) (T : MdQ mg C) (c : MdC K C) : FnOk P w K mg base CX0 (k + 1) f fd ["self"] (spMBool C) := by
  refine F.ok scMBool (fun vs H Q E h => ?_) (fun cdv A outer s H vs Q E hr h => ?_)
  · obtain ⟨x, ds, rfl, _⟩ := h
    rfl
  · obtain ⟨x, ds, rfl, ⟨dx, tp, Fa, us, h1, h2, h3, h4⟩, hd, q⟩ := h
    refine ⟨_, pss_one (ps_ret (pe_callTy call_bool1 (by rfl) T.boo Hm.boot_boolT (pa_cons (pe_cmpR (op_neD hr.units) (pe_fld (pv 0) (by rfl)) (pe_tup pa_nil) (by rfl)) pa_nil))), ?_⟩
    have hsh : SeqAt.shaped (.tuple (srt ds)) = true := (Dq.tup h3 h4).shaped (Nat.le_trans (srt_depth hd) (by decide))
    have z : Ev (tOp (rNeD K) (tFld K (tVar 0) "pairs") (tTup tNil)) [some (.ref x)] H (.bl (!ds.isEmpty)) := by
      rw [← empty_eqv]
      exact ev_opU (ev_fld' (ev_var rfl) h1 c.cl c.nP rfl) (eu_tup ea_nil (Nat.zero_le _)) fun p H1 hp e1 => fun H2 e2 Q q => ⟨.tuple (srt ds), .tuple [], (Dq.tup (e2 _ _ (e1 _ _ h3)) (h4.ex (e1.trans e2))).dp, .tup (st_of (e2 _ _ hp)) .nil, hsh, rfl, q H2 (Ex.refl H2)⟩
    exact s_ret (ev_cb (ea_cons z ea_nil) fun H1 e Q q => .inr ⟨_, rfl, q H1 (Ex.refl H1)⟩) q
end
end Hm
/-! module HmDefs2 -/
set_option maxHeartbeats 4000000
/-! Comprehensions over pairs; Mend's == and floors. -/
namespace Hm
open PySem PySem.Spec PyProof.Rows L2 Evl Hc Hs Hy PySem.W
abbrev g2 (K : PySem.W.Frag) (i j : Nat) : TG := gTup K 2 (gCons (gName i) (gCons (gName j) gNil))
section
variable {K : PySem.W.Frag} {σ : L2.St} {H : Hp} {tl te : TE} {t : TT} {a : Addr} {xs : List V} {i1 i2 : Nat} {vs : List Nat}
theorem el_lc2T (f : Nat → Bool) (v : Nat → V) (h : Ev tl σ H (.ref a)) (hx : SqT K H a xs) (hz : xs.length ≤ 40000) (hw : ∀ x y, wipe (((wipe σ vs).set i1 (some x)).set i2 (some y)) vs = wipe σ vs)
    (hp : ∀ (i : Nat) (x : V), xs[i]? = some x → ∃ p u w, x = .ref p ∧ H p = some (.tup [u, w]) ∧ ∀ H1, Ex H H1 → EvT t (((wipe σ vs).set i1 (some u)).set i2 (some w)) H1 (f i) ∧ (f i = true → Ev te (((wipe σ vs).set i1 (some u)).set i2 (some w)) H1 (v i))) :
    EvL (tLc (iTup K tl) (g2 K i1 i2) t te vs) σ H (Evl.given xs.length f v) := fun H0 e Q q => h H0 e _ fun H1 e1 => ⟨a, rfl, ⟨xs, ex_t (e.trans e1) hx⟩, fun Dl hD =>
  lc_tup (xs := xs) (Cw H1 f v Dl) ⟨hD, Ex.new hD, upd_same⟩ (fun i H' _ p => ex_t ((e.trans e1).trans p.2.1) hx) (fun i x H' hi p => by
      obtain ⟨q1, u, w, rfl, h2, h3⟩ := hp i x hi
      have eH : Ex H H' := (e.trans e1).trans p.2.1
      refine ⟨q1, _, rfl, st_of (eH _ _ h2), rfl, _, _, rfl, _, _, rfl, rfl, hw _ _, cw_turn p (by have := (List.getElem?_eq_some_iff.mp hi).1; omega) (h3 H1 (e.trans e1)).1 (h3 H1 (e.trans e1)).2⟩)
    (fun H' p => q Dl H' (fresh_back e1 p.1) (e1.trans p.2.1) p.2.2)⟩
theorem el_lc2L (f : Nat → Bool) (v : Nat → V) (h : Ev tl σ H (.ref a)) (hx : SqL K H a xs) (hz : xs.length ≤ 40000) (hw : ∀ x y, wipe (((wipe σ vs).set i1 (some x)).set i2 (some y)) vs = wipe σ vs)
    (hp : ∀ (i : Nat) (x : V), xs[i]? = some x → ∃ p u w, x = .ref p ∧ H p = some (.tup [u, w]) ∧ ∀ H1, Ex H H1 → EvT t (((wipe σ vs).set i1 (some u)).set i2 (some w)) H1 (f i) ∧ (f i = true → Ev te (((wipe σ vs).set i1 (some u)).set i2 (some w)) H1 (v i))) :
    EvL (tLc (iList K tl) (g2 K i1 i2) t te vs) σ H (Evl.given xs.length f v) := fun H0 e Q q => h H0 e _ fun H1 e1 => ⟨a, rfl, ⟨xs, ex_l (e.trans e1) hx⟩, fun Dl hD =>
  lc_list (xs := xs) (Cw H1 f v Dl) ⟨hD, Ex.new hD, upd_same⟩ (fun i H' _ p => ex_l ((e.trans e1).trans p.2.1) hx) (fun i x H' hi p => by
      obtain ⟨q1, u, w, rfl, h2, h3⟩ := hp i x hi
      have eH : Ex H H' := (e.trans e1).trans p.2.1
      refine ⟨q1, _, rfl, st_of (eH _ _ h2), rfl, _, _, rfl, _, _, rfl, rfl, hw _ _, cw_turn p (by have := (List.getElem?_eq_some_iff.mp hi).1; omega) (h3 H1 (e.trans e1)).1 (h3 H1 (e.trans e1)).2⟩)
    (fun H' p => q Dl H' (fresh_back e1 p.1) (e1.trans p.2.1) p.2.2)⟩
end
/-- the floors of right rows, read off the pairs -/
theorem given_nu {ds : List PyData} : Evl.given ds.length (fun _ => true) (fun i => V.int (nuOf (ds.getD i .none))) = (ds.map nuOf).map V.int := by
  unfold Evl.given
  rw [List.filter_eq_self.mpr (fun _ _ => rfl), List.map_map]
  apply List.ext_getElem?
  intro i
  rw [List.getElem?_map, List.getElem?_map]
  by_cases hi : i < ds.length
  · rw [List.getElem?_range hi, List.getElem?_eq_getElem hi]
    simp [hi]
  · rw [List.getElem?_eq_none (by simp; omega), List.getElem?_eq_none (by omega)]
    rfl
theorem perm_sum {a b : List Int} (p : a.Perm b) : a.sum = b.sum := by
  induction p with
  | nil => rfl
  | cons x _ ih => rw [List.sum_cons, List.sum_cons, ih]
  | swap x y l =>
    simp only [List.sum_cons]
    omega
  | trans _ _ h1 h2 => exact h1.trans h2
theorem ev_sumL {K : PySem.W.Frag} {σ : L2.St} {H : Hp} {tl : TE} {ns : List Int} (h : EvL tl σ H (ns.map V.int)) : Ev (tCB (rSum K) (tCons tl tNil)) σ H (.int ns.sum) := fun H1 e Q q =>
  h H1 e _ fun p H2 np e2 hp => ⟨p, ns, rfl, sq_of hp, q H2 e2⟩
theorem sum_srt (ds : List PyData) : ((srt ds).map nuOf).sum = (ds.map nuOf).sum := by
  have p : (srt ds).Perm ds := List.mergeSort_perm _ _
  exact perm_sum (p.map nuOf)
abbrev sMFl : Stmt := inClass cMend 3
abbrev nMFl : List Str := ["self", "_", "many"]
theorem scMFl : FnScope nMFl ["self"] (defScope sMFl) := ⟨rfl, rfl, rfl, by decide +kernel, rfl, by decide +kernel, by decide +kernel⟩
theorem boot_sum' : bootBuiltins "sum" = some (.builtin "sum") := by decide +kernel
section
variable {P : Program} {w : World} {K : PySem.W.Frag} {mg : Str → Option Value} {base : Heap} {C f : Addr} {fd : FuncData} {k : Nat}
theorem ok_meq (F : Fun K "__eq__" "Mend.__eq__" sMEq f fd) (T : MdQ mg C) (c : MdI K C) : FnOk P w K mg base CX0 (k + 1) f fd ["self", "other"] (spMEq C) := by
  refine F.ok scMEq (fun vs H Q E h => ?_) (fun cdv A outer s H vs Q E hr h => ?_)
  · obtain ⟨x, ds, y, rfl, _⟩ := h
    rfl
  · obtain ⟨x, ds, y, rfl, ⟨dx, tp, Fa, us, h1, h2, h3, h4⟩, hd, h⟩ := h
    refine ⟨_, pss_one (ps_ret (pe_and (pe_callB call_isi (by rfl) T.isi boot_isinstance (pa_cons (pv 1) (pa_cons (pe_glob (v := .ref C) (by rfl) T.gM rfl) pa_nil))) (pe_one (pe_cmpR (op_eqD hr.units) (pe_fld (pv 0) (by rfl)) (pe_fld (pv 1) (by rfl)) (nomark _))))), ?_⟩
    have hsh : SeqAt.shaped (.tuple (srt ds)) = true := (Dq.tup h3 h4).shaped (Nat.le_trans (srt_depth hd) (by decide))
    rcases h with ⟨z, es, rfl, ⟨dz, tz, Fz, uz, k1, k2, k3, k4⟩, he, q⟩ | ⟨d, hy, ht, q⟩
    · have hsh2 : SeqAt.shaped (.tuple (srt es)) = true := (Dq.tup k3 k4).shaped (Nat.le_trans (srt_depth he) (by decide))
      refine s_ret (Evl.ev_is (ev_andV (a := true) (ev_cb (ea_cons (ev_var rfl) (ea_cons ev_c ea_nil)) fun H1 e Q q => ⟨.ref z, .ref C, _, _, true, rfl, .own C, .base (.ins (e _ _ k1) c.cl c.ha c.hn c.htk c.hm), c.kS, q H1 (Ex.refl H1)⟩) fun _ => ev_op (z := .bl (PyData.eqv (.tuple (srt ds)) (.tuple (srt es)))) (ev_fld' (ev_var rfl) h1 c.cl c.nP rfl) (ev_fld' (ev_var rfl) k1 c.cl c.nP rfl) fun H1 e Q q => ⟨_, _, ((Dq.tup h3 h4).ex e).dp, ((Dq.tup k3 k4).ex e).dp, hsh, hsh2, q H1 (Ex.refl H1)⟩) rfl) q
    · refine s_ret (Evl.ev_is (ev_andV (a := false) (b := false) (ev_cb (ea_cons (ev_var rfl) (ea_cons ev_c ea_nil)) fun H1 e Q q => ⟨y, .ref C, _, _, false, rfl, .own C, (hy.ex e).ty, c.kN _ ht, q H1 (Ex.refl H1)⟩) fun z => nomatch z) rfl) q
theorem ok_mfl (F : Fun K "floors" "Mend.floors" sMFl f fd) (T : MdQ mg C) (c : MdC K C) : FnOk P w K mg base CX0 (k + 1) f fd ["self"] (spMFl C) := by
  refine F.ok scMFl (fun vs H Q E h => ?_) (fun cdv A outer s H vs Q E hr h => ?_)
  · obtain ⟨x, ds, rfl, _⟩ := h
    rfl
  · obtain ⟨x, ds, rfl, ⟨dx, tp, Fa, us, h1, h2, h3, h4⟩, hpair, hlen, q⟩ := h
    refine ⟨_, pss_one (ps_ret (pe_callB (cr_sum rfl) (by rfl) T.sum boot_sum' (pa_cons (pe_lc (own := [("_", 1), ("many", 2)]) (g := g2 K 1 2) (tt := tYes) rfl scMFl.nd (pi_tup (pe_fld (pv 0) (by rfl))) (blkOk_by (N := nMFl) (sc := defScope sMFl) (by decide +kernel))
      (fun _ _ _ _ _ => pg_tup (by rfl) (pgs_cons (pg_name (i := 1) scMFl.nd rfl (.inl rfl)) (pgs_cons (pg_name (i := 2) scMFl.nd rfl (.inl rfl)) pgs_nil))) (fun _ _ _ _ _ => pts_nil) (fun _ _ _ _ _ => pv 2)) pa_nil))), ?_⟩
    have hl : us.length = ds.length := by rw [h4.len, srt_len]
    have z := el_lc2T (K := K) (σ := [some (.ref x), none, none]) (H := H) (tl := tFld K (tVar 0) "pairs") (te := tVar 2) (t := tYes) (a := tp) (xs := us) (i1 := 1) (i2 := 2) (vs := [1, 2]) (fun _ => true) (fun i => V.int (nuOf ((srt ds).getD i .none))) (ev_fld' (ev_var rfl) h1 c.cl c.nP rfl) (st_of h3) (by omega) (fun _ _ => rfl) (fun i x hi => by
      obtain ⟨d, hd, dq⟩ := dq_get h4 hi
      obtain ⟨p, q', m, wy, ii, n, rfl, g1, g2, rfl, _, _⟩ := pair_at dq (hpair d (srt_mem.mp (List.mem_of_getElem? hd)))
      refine ⟨p, .ref q', .int n, rfl, g1, fun H1 e1 => ⟨et_yes, fun _ => ?_⟩⟩
      have e0 : (srt ds).getD i .none = .tuple [.tuple [.str (S m), .str (S wy), .int ii], .int n] := by
        rw [List.getD_eq_getElem?_getD, hd]
        rfl
      rw [e0]
      exact ev_var rfl)
    rw [h4.len, given_nu] at z
    exact s_ret (Evl.ev_is (ev_sumL z) (by rw [sum_srt])) q
end
end Hm
/-! module HmNone -/
set_option maxHeartbeats 4000000
/-! Mend() that never raises; C.m() of a staticmethod; Mend.none(). -/
namespace Hm
open PySem PySem.Spec PyProof.Rows L2 Evl Hc Hs Hy PySem.W
def spMendI0 (C : Addr) : Sp := fun vs H Q _ => ∃ (x dx p : Addr), vs = [.ref x, .ref p] ∧ H x = some (.ins C dx []) ∧ H p = some (.tup []) ∧ ∀ H', Hc.Ext (fun b => b = x) H H' → MendAt C x [] H' → Q .non H'
def spMI0 (C : Addr) : Sp := fun vs H Q E => ∃ (ws rest : List V), vs = ws ++ rest ∧ ws.length = (["self"] : List Str).length ∧ rest.length ≤ sizeLine ∧ ∀ p, H p = Option.none → spMendI0 C (ws ++ [V.ref p]) (upd H p (.tup rest)) Q E
/-! ### C() by a positional promise -/
def tMakeRS0 (C : Addr) (sp : Sp) (E : L2.St → XK) : TE := fun σ H Q => ∀ x dx, H x = none → H dx = none → dx ≠ x →
  sp [.ref x] (upd (upd H dx (.own x)) x (.ins C dx [])) (fun v H2 => v = .non ∧ Q (.ref x) H2) (E σ)
theorem pe_makeRS0 {X : Cx} {CX : CXT} {C f : Addr} {k : Nat} {sp : Sp} {E : L2.St → XK} {x : Str} {p pos : Pos} (M : Mk X.K C f) (F : FnR X.prog X.w X.K X.mg X.base CX k f sp) (hr : Room (k + 1) X.A) (hg : Gl X x) (hm : X.mg x = some (.ref C))
    (hx : ∀ σ, PassesAt CX X σ (E σ)) (hdb : (x == ("__debug__" : Str)) = false := by decide) : PE X (.Call (.Name x p) [] [] pos) (tMakeRS0 C sp E) := by
  refine ⟨fun pins s σ H Q I h => ?_⟩
  refine wpAny_Call_Name_kw (ld_glob I hg hm ?_ hdb)
  refine PySem.W.callWith_K0 I.kIn M.kp ?_
  have hq := h (s.heap.objs.size + 1) s.heap.objs.size (I.hok.fresh (Nat.le_succ _)) (I.hok.fresh (Nat.le_refl _)) (Nat.ne_of_lt (Nat.lt_succ_self _))
  have I2 := Inv.made (C := C) I
  have r2 : Vals [V.ref (s.heap.objs.size + 1)] [Value.ref (s.heap.objs.size + 1)] := .cons rfl .nil
  refine wpAny_call (make_map (f := f) I.kIn M.makes M.init (beq_iff_eq.mp M.fn) (codeAny_mono (F _ X.stack _ _ [Value.ref (s.heap.objs.size + 1)] _ _ (E σ) (hr.make C [] []) (I2.env0.make C [] []) r2 hq) fun r s' hq' => ?_))
  cases r with
  | error e => exact hx σ pins _ _ e s' I2 hq'
  | ok fl =>
    cases fl with
    | ret u =>
      obtain ⟨v, H', I3, rv, ev, q3⟩ := I2.after hq'
      subst ev
      exact ⟨rv, ⟨V.ref (s.heap.objs.size + 1), H', I3, rfl, q3⟩⟩
    | next => exact False.elim hq'
    | brk => exact False.elim hq'
    | cont => exact False.elim hq'
/-- C.m is a staticmethod: its record at p, its def at g -/
structure CStat (K : PySem.W.Frag) (C : Addr) (mc : Value) (m : Str) (p g : Addr) : Prop where
  at_ : PySem.W.findCls K (.ref C) mc m = some (.get (.builtin "staticmethod.__get__") (.ref p) .none (.ref C))
  rc : ∃ rest, PySem.W.recIn K p "staticmethod" = some (.ref g :: rest)
  hv : handedIn (.ref g) = true
  kp : PySem.W.keepIn K (.ref g) = true
def tSMeth0 (C : Addr) (sp : Sp) (E : XK) (ta : TE) : TE := fun σ H Q => ta σ H fun x H1 => x = .ref C ∧ sp [] H1 Q E
theorem pe_smeth0 {X : Cx} {CX : CXT} {C p g : Addr} {mc : Value} {k : Nat} {sp : Sp} {E : XK} {o : Expr} {m : Str} {ta : TE} {apos pos : Pos} {pl : Sem Bool} (he : PE X o ta) (r : ClX.CRead X.K C mc) (c : CStat X.K C mc m p g) (F : FnR X.prog X.w X.K X.mg X.base CX k g sp) (hr : Room k X.A) (hx : Passes CX X E)
    (ht : eval (.Call (.Attribute o m apos) [] [] pos) X.env = (do
      let ov ← eval o X.env
      standAt apos.atName
      let (f, first) ← holding [ov] (getMethod ov m pl)
      callWith pos f first (backTo pos (starEach [] X.env)) (backToKw pos (keywordEach [] X.env))) := by rfl) :
    PE X (.Call (.Attribute o m apos) [] [] pos) (tSMeth0 C sp E ta) := by
  refine ⟨fun pins s σ H Q I h => ?_⟩
  refine PySem.W.methodCall_KW (pl := pl) (thn (he.run pins s σ H _ I h) fun u s1 ⟨x, H1, I1, rx, ex, q⟩ => ?_) ht
  subst ex
  obtain rfl : u = Value.ref C := rx
  obtain ⟨rest, hp⟩ := c.rc
  refine PySem.W.method_cls I1.kIn r.ga (PySem.W.cls_bind I1.kIn r.rd c.at_ (wpAny_call (PySem.W.sm_get (s := { s1 with toks := s1.toks + 1 }) I1.kIn hp (PySem.W.handed_on c.hv ?_))))
  exact PySem.W.callWith_K0 (I1.tok (s1.toks + 1)).kIn c.kp (wpAny_call (run_fnR (us := []) (vs := []) F hr hx (I1.tok _) .nil q))
section
variable {P : Program} {w : World} {K : PySem.W.Frag} {mg : Str → Option Value} {base : Heap} {C f : Addr} {fd : FuncData}
theorem ok_mi0 {k : Nat} (F : Fun K "__init__" "Mend.__init__" sMI f fd) (T : MdP mg) (c : MdC K C) : FnR P w K mg base CX0 (k + 1) f (spMI0 C) := by
  obtain ⟨oc, od, kV, doc, pm, an, cdv, ct, osl, rfl, lk, hcd⟩ := F.ex
  refine StX.fn_star (sp := spMendI0 C) lk hcd scMI StX.cxUp_none (bind_mi kV doc pm an cdv ct) fun A outer s H vs Q E hr h => ?_
  obtain ⟨x, dx, p, rfl, hx, hp, q⟩ := h
  refine ⟨_, pss_cons (ps_set (i := 2) scMI.nd rfl (.inl rfl) pe_dnewT)
    (pss_cons (ps_for (passes_of rfl) rfl (pi_enumT (by rfl) T.enu (pa_cons (pv 1) pa_nil)) (pg_tup (by rfl) (pgs_cons (pg_name (i := 3) scMI.nd rfl (.inl rfl)) (pgs_cons (pg_name (i := 4) scMI.nd rfl (.inl rfl)) pgs_nil)))
      (pss_cons ps_never (pss_one ps_never)))
    (pss_cons (ps_fld (pv 0) (pe_callTy call_tuple_of (by rfl) T.tup boot_tuple (pa_cons (pe_callB (cr_sortD hr.units) (by rfl) T.srt boot_sorted' (pa_cons (pe_callTy (call_listItems rfl) (by rfl) T.lst boot_list' (pa_cons (pe_bm0 PySem.F.plainAttrs_dict PySem.F.slot_dict_items PySem.F.type_dict_items DX.mt_itemsT (pv 2)) pa_nil)) pa_nil)) pa_nil)) (by rfl))
    (pss_one (ps_fld (pv 0) (pv 2) (by rfl))))), ?_⟩
  refine q_asgX ?_
  intro F nF
  have eF : Ex H (upd H F (.dT [])) := Ex.new nF
  have Fx : F ≠ x := fun z => by
    rw [z, hx] at nF
    cases nF
  show tSeq _ _ _ [some (.ref x), some (.ref p), some (.ref F), none, none] (upd H F (.dT []))
  refine ⟨_, rfl, p, [], rfl, st_of (eF _ _ hp), ?_⟩
  refine for_enumT (K := K) (a := p) (xs := []) (fun i σ' H' => (∃ v3 v4, σ' = [some (.ref x), some (.ref p), some (.ref F), v3, v4]) ∧ Ex H H' ∧ H' F = some (.dT [])) ⟨⟨none, none, rfl⟩, eF, upd_same⟩ (fun i σ' H' z => st_of (z.2.1 _ _ hp)) (fun i v Ta σ' H' hi z nT => by cases hi) (fun σ' H' z => ?_)
  obtain ⟨⟨v3, v4, rfl⟩, ez, hF⟩ := z
  have hFx : H' x = some (.ins C dx []) := ez _ _ hx
  refine ⟨_, rfl, .inr (.inr (.inl ⟨rfl, .inr ⟨_, hF⟩⟩)), F, _, rfl, rfl, hF, fun pw npw => ?_⟩
  have e1 : Ex H' (upd H' pw (DX.itemsO pw F)) := Ex.new npw
  refine ⟨pw, F, _, rfl, upd_same, e1 _ _ hF, Nat.zero_le _, fun H2 l ts nl kp hl ent => ?_⟩
  have e2 : Ex H' H2 := e1.trans kp
  obtain rfl : ts = [] := List.length_eq_zero_iff.mp ent.1
  refine ⟨l, _, [], rfl, hl, .nil, (fun a ha => by cases ha), .inl (fun a ha => by cases ha), Nat.zero_le _, (fun a ha => by cases ha), fun ps nps => ?_⟩
  obtain ⟨L, hL⟩ : ∃ L, L = (sorting (([] : List Addr).map V.ref) []).map (·.1) := ⟨_, rfl⟩
  rw [← hL]
  have e3 : Ex H' (upd H2 ps (.lst L)) := e2.trans (Ex.new nps)
  have e3' : Ex H2 (upd H2 ps (.lst L)) := Ex.new nps
  refine ⟨ps, _, rfl, .inl ⟨sq_of upd_same, fun tp ntp => ?_⟩⟩
  have e4' : Ex (upd H2 ps (.lst L)) (upd (upd H2 ps (.lst L)) tp (.tup L)) := Ex.new ntp
  have htp : (upd (upd H2 ps (.lst L)) tp (.tup L)) tp = some (.tup L) := upd_same
  generalize upd (upd H2 ps (.lst L)) tp (.tup L) = H4 at e4' htp ⊢
  have e4 : Ex H' H4 := e3.trans e4'
  refine ⟨_, rfl, x, C, dx, [], rfl, e4 _ _ hFx, c.cl, c.nP, (show 0 < 1000 by decide), ?_⟩
  refine ⟨_, rfl, _, rfl, x, C, dx, _, rfl, upd_same, c.cl, c.nF, (show 1 < 1000 by decide), ?_⟩
  have tpx : tp ≠ x := fun z => by
    rw [z, e4 _ _ hFx] at htp
    cases htp
  refine q _ (((ext_ex (S := fun b => b = x) (ez.trans e4)).trans (Ext.put (S := fun b => b = x) rfl)).trans (Ext.put (S := fun b => b = x) rfl)) ⟨dx, tp, F, [], upd_same, ?_, ?_, rfl, fun j kv t hj ht => by cases hj⟩
  · rw [upd_ne Fx, upd_ne Fx]
    exact e4 _ _ hF
  · rw [upd_ne tpx, upd_ne tpx, ← hL]
    exact htp
end
end Hm
/-! module HmMadeL -/
set_option maxHeartbeats 4000000
/-! Mend.none; _law_made. -/
namespace Hm
open PySem PySem.Spec PyProof.Rows L2 Evl Hc Hs Hy PySem.W
abbrev sMNone : Stmt := inClass cMend 1
theorem scMNone : FnScope [] [] (defScope sMNone) := ⟨rfl, rfl, rfl, by decide +kernel, rfl, by decide +kernel, by decide +kernel⟩
def spMNone (C : Addr) : Sp := fun vs H Q _ => vs = [] ∧ ∀ x H', H x = none → Ex H H' → MendOk C x [] H' → Q (.ref x) H'
abbrev nLMade : List Str := ["_law_rows", "_law_bad", "_law_made_here", "error"]
theorem scLMade : FnScope nLMade ["_law_rows"] (defScope sLMade) := ⟨rfl, rfl, rfl, by decide +kernel, rfl, by decide +kernel, by decide +kernel⟩
def spLMade (C : Addr) : Sp := fun vs H Q _ => ∃ (r : Addr) (vals : List V) (ds : List PyData) (t : Option Nat), vs = [.ref r] ∧ H r = some (.lst vals) ∧ DqAll H vals ds ∧ (∀ d ∈ ds, d.depth ≤ 8) ∧ ds.length ≤ 3 ∧ Told ds t ∧
  (t = none → ∀ H' p x, Ex H H' → H x = none → H' p = some (.tup [.ref x, .non]) → MendOk C x ds H' → Q (.ref p) H') ∧ ∀ k, t = some k → ∀ H' p, Ex H H' → H' p = some (.tup [.non, .int (k : Int)]) → Q (.ref p) H'
theorem asg_M {C : Addr} {sp : Sp} {E : L2.St → XK} {t : TA} {D : Ends} {σ : L2.St} {H : Hp} {vs : List V} {i : Nat} (ha : EvA t σ H vs) (h : ∀ H1, Ex H H1 → ∀ x dx, H1 x = none → H1 dx = none → dx ≠ x →
    sp (.ref x :: vs) (upd (upd H1 dx (.own x)) x (.ins C dx [])) (fun v H2 => v = .non ∧ D.nx (σ.set i (some (.ref x))) H2) (E σ)) : tAsg (tMakeRS C sp E t) (gName i) D σ H := ha H (Ex.refl H) _ h
theorem asg_M0 {C : Addr} {sp : Sp} {E : L2.St → XK} {D : Ends} {σ : L2.St} {H : Hp} {i : Nat} (h : ∀ x dx, H x = none → H dx = none → dx ≠ x →
    sp [.ref x] (upd (upd H dx (.own x)) x (.ins C dx [])) (fun v H2 => v = .non ∧ D.nx (σ.set i (some (.ref x))) H2) (E σ)) : tAsg (tMakeRS0 C sp E) (gName i) D σ H := h
section
variable {P : Program} {w : World} {K : PySem.W.Frag} {mg : Str → Option Value} {base : Heap} {C B fB fM f : Addr} {fd : FuncData}
theorem ok_mnone {k : Nat} (F : Fun K "none" "Mend.none" sMNone f fd) (gM : mg "Mend" = some (.ref C)) (M : Mk K C fM) (FM : FnR P w K mg base CX0 k fM (spMI0 C)) : FnOk P w K mg base CX0 (k + 2) f fd [] (spMNone C) := by
  refine F.ok scMNone (fun vs H Q E h => ?_) (fun cdv A outer s H vs Q E hr h => ?_)
  · obtain ⟨rfl, _⟩ := h
    rfl
  · obtain ⟨rfl, q⟩ := h
    refine ⟨_, pss_one (ps_ret (pe_makeRS0 (CX := CX0) (E := fun _ => E0) M FM hr (by rfl) gM (fun σ => fun _ _ _ _ _ _ z => z.elim))), ?_⟩
    intro x dx nx nd ne
    have ex1 : Ex H (upd (upd H dx (.own x)) x (.ins C dx [])) := (Ex.new nd).trans (Ex.new ((upd_ne (Ne.symm ne)).trans nx))
    refine ⟨[.ref x], [], rfl, rfl, Nat.zero_le _, fun p np => ?_⟩
    have e2 := Ex.new (o := HO.tup []) np
    have e12 := ex1.trans e2
    refine ⟨x, dx, p, rfl, e2 _ _ upd_same, upd_same, fun H' e' hm => ⟨rfl, ?_⟩⟩
    have ez : Ex H H' := fun b o hb => e' b o (e12 _ _ hb) (fun z => by rw [z, nx] at hb; cases hb)
    exact q x H' nx ez (mend_ok (H0 := H) hm .nil (fun j d hj _ => absurd hj (Nat.not_lt_zero _)))
theorem ok_lmade {k : Nat} (F : Fun K "_law_made" "_law_made" sLMade f fd) (N : XcC K mg "BadMend" B "at" fB) (tl : mg "len" = none) (gM : mg "Mend" = some (.ref C)) (M : Mk K C fM) (FM : FnR P w K mg base (L2.CX P w) k fM (spMI C B)) : FnOk P w K mg base CX0 (k + 2) f fd ["_law_rows"] (spLMade C) := by
  refine F.ok scLMade (fun vs H Q E h => ?_) (fun cdv A outer s H vs Q E hr h => ?_)
  · obtain ⟨r, vals, ds, t, rfl, _⟩ := h
    rfl
  · obtain ⟨r, vals, ds, t, rfl, hrr, hds, hdep, h3, ht, q0, q1⟩ := h
    refine ⟨_, pss_cons (ps_set (i := 1) scLMade.nd rfl (.inl rfl) pe_non) (pss_cons (ps_set (i := 2) scLMade.nd rfl (.inl rfl) pe_non)
      (pss_cons (ps_try_as (i := 3) rfl rfl scLMade.nd rfl rfl ⟨rfl, by decide, .inl N.gB⟩ takes0
        (fun W pn xe tk _ => pss_one (ps_if (pt_cmpR op_eq (pe_callB (show CallR _ (.builtin "len") (rLenS K) from call_len_seq) (by rfl) tl PySem.boot_len (pa_cons (pv 0) pa_nil)) pe_int (nomark _))
          (pss_one (ps_set (i := 2) scLMade.nd rfl (.inl rfl) (pe_makeRS0 M FM hr (by rfl) gM (fun σ => passAt tk σ))))
          (pss_one (ps_if (pt_cmpR op_eq (pe_callB (show CallR _ (.builtin "len") (rLenS K) from call_len_seq) (by rfl) tl PySem.boot_len (pa_cons (pv 0) pa_nil)) pe_int (nomark _))
            (pss_one (ps_set (i := 2) scLMade.nd rfl (.inl rfl) (pe_makeRS M FM hr (by rfl) gM (fun σ => passAt tk σ) (pa_cons (pe_ix (show IxR _ (rIxL K) from ix_list) (pv 0) pe_int (fun _ _ => rfl)) pa_nil))))
            (pss_one (ps_if (pt_cmpR op_eq (pe_callB (show CallR _ (.builtin "len") (rLenS K) from call_len_seq) (by rfl) tl PySem.boot_len (pa_cons (pv 0) pa_nil)) pe_int (nomark _))
              (pss_one (ps_set (i := 2) scLMade.nd rfl (.inl rfl) (pe_makeRS M FM hr (by rfl) gM (fun σ => passAt tk σ) (pa_cons (pe_ix (show IxR _ (rIxL K) from ix_list) (pv 0) pe_int (fun _ _ => rfl)) (pa_cons (pe_ix (show IxR _ (rIxL K) from ix_list) (pv 0) pe_int (fun _ _ => rfl)) pa_nil)))))
              (pss_one (ps_set (i := 2) scLMade.nd rfl (.inl rfl) (pe_makeRS M FM hr (by rfl) gM (fun σ => passAt tk σ) (pa_cons (pe_ix (show IxR _ (rIxL K) from ix_list) (pv 0) pe_int (fun _ _ => rfl)) (pa_cons (pe_ix (show IxR _ (rIxL K) from ix_list) (pv 0) pe_int (fun _ _ => rfl)) (pa_cons (pe_ix (show IxR _ (rIxL K) from ix_list) (pv 0) pe_int (fun _ _ => rfl)) pa_nil))))))))))))
        (fun a oe cls d pn hz hf => pss_one (ps_set (i := 1) scLMade.nd rfl (.inl rfl) (pe_xf N.xf N.noF hz hf (pv 3)))))
      (pss_one (ps_ret (pe_tup (pa_cons (pv 2) (pa_cons (pv 1) pa_nil))))))), ?_⟩
    refine q_asg ev_c fun H0 e0 => ?_
    refine q_asg ev_c fun H1 e01 => ?_
    have e1 := e0.trans e01
    have hr1 := e1 _ _ hrr
    have hd1 := hds.ex e1
    show tIfS _ _ _ _ [some (.ref r), some .non, some .non, none] H1
    match ds, vals, hd1 with
    | [], [], hd1 =>
      have E0 : Ex H1 H1 := Ex.refl H1
      refine s_if (σ := [some (.ref r), some .non, some .non, none]) (H := H1) (b := true) (et_test (ev_op (Evl.ev_len (xs := []) (ev_var rfl) (sq_of (E0 _ _ hr1))) ev_c (rv_eq rfl))) (fun _ G0 g0 => ?_) fun z => nomatch z
      have e2 := E0.trans g0
      refine asg_M0 ?_
      refine fun x dx nx nd ne => sp_mi nx nd ne (hd1.ex e2) hdep (show 0 ≤ 100 by decide) ht (fun ht0 H' e' hm => ⟨rfl, ?_⟩) fun kk hkk dd H' e4 hdd hxd => ⟨true, N.exm, fun _ aa na => ?_, fun z => nomatch z⟩
      · have e5 := (e1.trans e2).trans e'
        refine s_retU (xs := [.ref x, .non]) (eu_tup (ea_cons (ev_var rfl) (ea_cons (ev_var rfl) ea_nil)) (show 2 ≤ 100000 by decide)) fun p H5 _ f5 hp => ?_
        exact q0 ht0 H5 p x (e5.trans f5) (fresh_back (e1.trans e2) nx) hp ((mend_ok hm hd1 (by rw [← ht0]; exact ht)).ex f5)
      · have e5 := (e1.trans e2).trans e4
        refine s_asg (v := .int (kk : Int)) (ev_xf (ev_var rfl) hxd rfl) fun H5 f5 => ?_
        refine s_retU (xs := [.non, .int (kk : Int)]) (eu_tup (ea_cons (ev_var rfl) (ea_cons (ev_var rfl) ea_nil)) (show 2 ≤ 100000 by decide)) fun p H6 _ f6 hp => ?_
        exact q1 kk hkk H6 p ((e5.trans f5).trans f6) hp
    | [d1], [v1], hd1 =>
      have E0 : Ex H1 H1 := Ex.refl H1
      refine s_if (σ := [some (.ref r), some .non, some .non, none]) (H := H1) (b := false) (et_test (ev_op (Evl.ev_len (xs := [v1]) (ev_var rfl) (sq_of (E0 _ _ hr1))) ev_c (rv_eq rfl))) (fun z => nomatch z) fun _ G0 g0 => ?_
      have f0 := E0.trans g0
      refine s_if (σ := [some (.ref r), some .non, some .non, none]) (H := G0) (b := true) (et_test (ev_op (Evl.ev_len (xs := [v1]) (ev_var rfl) (sq_of (f0 _ _ hr1))) ev_c (rv_eq rfl))) (fun _ G1 g1 => ?_) fun z => nomatch z
      have e2 := f0.trans g1
      refine asg_M (ea_cons (ev_atL (ev_var rfl) (e2 _ _ hr1) (v := v1) rfl) ea_nil) fun H3 e3 => ?_
      refine fun x dx nx nd ne => sp_mi nx nd ne (hd1.ex (e2.trans e3)) hdep (show 1 ≤ 100 by decide) ht (fun ht0 H' e' hm => ⟨rfl, ?_⟩) fun kk hkk dd H' e4 hdd hxd => ⟨true, N.exm, fun _ aa na => ?_, fun z => nomatch z⟩
      · have e5 := (e1.trans (e2.trans e3)).trans e'
        refine s_retU (xs := [.ref x, .non]) (eu_tup (ea_cons (ev_var rfl) (ea_cons (ev_var rfl) ea_nil)) (show 2 ≤ 100000 by decide)) fun p H5 _ f5 hp => ?_
        exact q0 ht0 H5 p x (e5.trans f5) (fresh_back ((e1.trans e2).trans e3) nx) hp ((mend_ok hm hd1 (by rw [← ht0]; exact ht)).ex f5)
      · have e5 := (e1.trans (e2.trans e3)).trans e4
        refine s_asg (v := .int (kk : Int)) (ev_xf (ev_var rfl) hxd rfl) fun H5 f5 => ?_
        refine s_retU (xs := [.non, .int (kk : Int)]) (eu_tup (ea_cons (ev_var rfl) (ea_cons (ev_var rfl) ea_nil)) (show 2 ≤ 100000 by decide)) fun p H6 _ f6 hp => ?_
        exact q1 kk hkk H6 p ((e5.trans f5).trans f6) hp
    | [d1, d2], [v1, v2], hd1 =>
      have E0 : Ex H1 H1 := Ex.refl H1
      refine s_if (σ := [some (.ref r), some .non, some .non, none]) (H := H1) (b := false) (et_test (ev_op (Evl.ev_len (xs := [v1, v2]) (ev_var rfl) (sq_of (E0 _ _ hr1))) ev_c (rv_eq rfl))) (fun z => nomatch z) fun _ G0 g0 => ?_
      have f0 := E0.trans g0
      refine s_if (σ := [some (.ref r), some .non, some .non, none]) (H := G0) (b := false) (et_test (ev_op (Evl.ev_len (xs := [v1, v2]) (ev_var rfl) (sq_of (f0 _ _ hr1))) ev_c (rv_eq rfl))) (fun z => nomatch z) fun _ G1 g1 => ?_
      have f1 := f0.trans g1
      refine s_if (σ := [some (.ref r), some .non, some .non, none]) (H := G1) (b := true) (et_test (ev_op (Evl.ev_len (xs := [v1, v2]) (ev_var rfl) (sq_of (f1 _ _ hr1))) ev_c (rv_eq rfl))) (fun _ G2 g2 => ?_) fun z => nomatch z
      have e2 := f1.trans g2
      refine asg_M (ea_cons (ev_atL (ev_var rfl) (e2 _ _ hr1) (v := v1) rfl) (ea_cons (ev_atL (ev_var rfl) (e2 _ _ hr1) (v := v2) rfl) ea_nil)) fun H3 e3 => ?_
      refine fun x dx nx nd ne => sp_mi nx nd ne (hd1.ex (e2.trans e3)) hdep (show 2 ≤ 100 by decide) ht (fun ht0 H' e' hm => ⟨rfl, ?_⟩) fun kk hkk dd H' e4 hdd hxd => ⟨true, N.exm, fun _ aa na => ?_, fun z => nomatch z⟩
      · have e5 := (e1.trans (e2.trans e3)).trans e'
        refine s_retU (xs := [.ref x, .non]) (eu_tup (ea_cons (ev_var rfl) (ea_cons (ev_var rfl) ea_nil)) (show 2 ≤ 100000 by decide)) fun p H5 _ f5 hp => ?_
        exact q0 ht0 H5 p x (e5.trans f5) (fresh_back ((e1.trans e2).trans e3) nx) hp ((mend_ok hm hd1 (by rw [← ht0]; exact ht)).ex f5)
      · have e5 := (e1.trans (e2.trans e3)).trans e4
        refine s_asg (v := .int (kk : Int)) (ev_xf (ev_var rfl) hxd rfl) fun H5 f5 => ?_
        refine s_retU (xs := [.non, .int (kk : Int)]) (eu_tup (ea_cons (ev_var rfl) (ea_cons (ev_var rfl) ea_nil)) (show 2 ≤ 100000 by decide)) fun p H6 _ f6 hp => ?_
        exact q1 kk hkk H6 p ((e5.trans f5).trans f6) hp
    | [d1, d2, d3], [v1, v2, v3], hd1 =>
      have E0 : Ex H1 H1 := Ex.refl H1
      refine s_if (σ := [some (.ref r), some .non, some .non, none]) (H := H1) (b := false) (et_test (ev_op (Evl.ev_len (xs := [v1, v2, v3]) (ev_var rfl) (sq_of (E0 _ _ hr1))) ev_c (rv_eq rfl))) (fun z => nomatch z) fun _ G0 g0 => ?_
      have f0 := E0.trans g0
      refine s_if (σ := [some (.ref r), some .non, some .non, none]) (H := G0) (b := false) (et_test (ev_op (Evl.ev_len (xs := [v1, v2, v3]) (ev_var rfl) (sq_of (f0 _ _ hr1))) ev_c (rv_eq rfl))) (fun z => nomatch z) fun _ G1 g1 => ?_
      have f1 := f0.trans g1
      refine s_if (σ := [some (.ref r), some .non, some .non, none]) (H := G1) (b := false) (et_test (ev_op (Evl.ev_len (xs := [v1, v2, v3]) (ev_var rfl) (sq_of (f1 _ _ hr1))) ev_c (rv_eq rfl))) (fun z => nomatch z) fun _ G2 g2 => ?_
      have f2 := f1.trans g2
      have e2 := f2
      refine asg_M (ea_cons (ev_atL (ev_var rfl) (e2 _ _ hr1) (v := v1) rfl) (ea_cons (ev_atL (ev_var rfl) (e2 _ _ hr1) (v := v2) rfl) (ea_cons (ev_atL (ev_var rfl) (e2 _ _ hr1) (v := v3) rfl) ea_nil))) fun H3 e3 => ?_
      refine fun x dx nx nd ne => sp_mi nx nd ne (hd1.ex (e2.trans e3)) hdep (show 3 ≤ 100 by decide) ht (fun ht0 H' e' hm => ⟨rfl, ?_⟩) fun kk hkk dd H' e4 hdd hxd => ⟨true, N.exm, fun _ aa na => ?_, fun z => nomatch z⟩
      · have e5 := (e1.trans (e2.trans e3)).trans e'
        refine s_retU (xs := [.ref x, .non]) (eu_tup (ea_cons (ev_var rfl) (ea_cons (ev_var rfl) ea_nil)) (show 2 ≤ 100000 by decide)) fun p H5 _ f5 hp => ?_
        exact q0 ht0 H5 p x (e5.trans f5) (fresh_back ((e1.trans e2).trans e3) nx) hp ((mend_ok hm hd1 (by rw [← ht0]; exact ht)).ex f5)
      · have e5 := (e1.trans (e2.trans e3)).trans e4
        refine s_asg (v := .int (kk : Int)) (ev_xf (ev_var rfl) hxd rfl) fun H5 f5 => ?_
        refine s_retU (xs := [.non, .int (kk : Int)]) (eu_tup (ea_cons (ev_var rfl) (ea_cons (ev_var rfl) ea_nil)) (show 2 ≤ 100000 by decide)) fun p H6 _ f6 hp => ?_
        exact q1 kk hkk H6 p ((e5.trans f5).trans f6) hp
    | _ :: _ :: _ :: _ :: _, _, _ => exact absurd h3 (by simp)
end
end Hm
/-! module HmSrt -/
set_option maxHeartbeats 4000000
/-! Rows in another order: sorted they are the same; what stands at a door. -/
namespace Hm
open PySem PySem.Spec PyProof.Rows L2 Evl Hc Hs Hy PySem.W
abbrev PairsOf (ds : List PyData) : Prop := ∀ d ∈ ds, ∃ m w i n, d = .tuple [.tuple [.str (S m), .str (S w), .int i], .int n]
theorem toks_inj {a b : PyData} (ha : ∃ m w i n, a = .tuple [.tuple [.str (S m), .str (S w), .int i], .int n]) (hb : ∃ m w i n, b = .tuple [.tuple [.str (S m), .str (S w), .int i], .int n]) (h : keyToks a = keyToks b) : a = b := by
  obtain ⟨m, w, i, n, rfl⟩ := ha
  obtain ⟨m', w', i', n', rfl⟩ := hb
  have h' : ([.inl 1, .inl 1, .inr m, .inl 1, .inr w, .inl 1, .inl i, .inl 0, .inl 1, .inl n, .inl 0] : List (Int ⊕ List Nat)) = [.inl 1, .inl 1, .inr m', .inl 1, .inr w', .inl 1, .inl i', .inl 0, .inl 1, .inl n', .inl 0] := h
  simp only [List.cons.injEq, Sum.inl.injEq, Sum.inr.injEq, and_true, true_and] at h'
  obtain ⟨rfl, rfl, rfl, rfl⟩ := h'
  rfl
theorem map_inj_on {α β : Type} {f : α → β} : ∀ {a b : List α}, (∀ x ∈ a, ∀ y ∈ b, f x = f y → x = y) → a.map f = b.map f → a = b
  | [], [], _, _ => rfl
  | [], _ :: _, _, h => by cases h
  | _ :: _, [], _, h => by cases h
  | x :: xs, y :: ys, hi, h => by
    rw [List.map_cons, List.map_cons] at h
    injection h with h1 h2
    rw [hi x List.mem_cons_self y List.mem_cons_self h1, map_inj_on (fun u hu v hv => hi u (List.mem_cons_of_mem _ hu) v (List.mem_cons_of_mem _ hv)) h2]
theorem srt_perm {ds es : List PyData} (hp : ds.Perm es) (hd : PairsOf ds) : srt ds = srt es := by
  have T : TotalLe (sortLe (listOrd itemOrd) false fun k : (listOrd itemOrd).α => k) := sortLe_total _ _ _
  have m1 : (srt ds).map keyToks = (ds.map keyToks).mergeSort (sortLe (listOrd itemOrd) false fun k : (listOrd itemOrd).α => k) := sort_maps keyToks fun a _ b _ => rfl
  have m2 : (srt es).map keyToks = (es.map keyToks).mergeSort (sortLe (listOrd itemOrd) false fun k : (listOrd itemOrd).α => k) := sort_maps keyToks fun a _ b _ => rfl
  have e : (ds.map keyToks).mergeSort (sortLe (listOrd itemOrd) false fun k : (listOrd itemOrd).α => k) = (es.map keyToks).mergeSort (sortLe (listOrd itemOrd) false fun k : (listOrd itemOrd).α => k) := by
    refine PySem.W.Srt.the_of_perm _ T.trans (fun x y => by rw [Bool.or_eq_true]; exact T.total x y) (fun x y h1 h2 => ?_) ((List.mergeSort_perm _ _).trans (hp.map _)) (sort_pairwise T _)
    have h1' : (!(listOrd itemOrd).blt y x) = true := h1
    have h2' : (!(listOrd itemOrd).blt x y) = true := h2
    rw [Bool.not_eq_true'] at h1' h2'
    exact KeyOrd.kle_antisymm (O := listOrd itemOrd) h1' h2'
  refine map_inj_on (f := keyToks) (fun x hx y hy h => toks_inj (hd x (srt_mem.mp hx)) (hd y (hp.mem_iff.mpr (srt_mem.mp hy))) h) (m1.trans (e.trans m2.symm))
/-- the floors at a door -/
def fnd (ds : List PyData) (k : KList) : List Int := (ds.filter fun d => decide (keyOf d = k)).map nuOf
theorem ents_full (ds : List PyData) : entsD ds ds.length = ds.map fun d => (keyOf d, V.int (nuOf d)) := by
  unfold entsD
  rw [List.take_length]
theorem fnd_none {k : KList} : ∀ {ds : List PyData}, k ∉ ds.map keyOf → fnd ds k = []
  | [], _ => rfl
  | d :: ds, h => by
    rw [List.map_cons, List.mem_cons, not_or] at h
    unfold fnd
    rw [List.filter_cons, decide_eq_false (fun z => h.1 z.symm), if_neg Bool.false_ne_true]
    exact fnd_none h.2
theorem val_fnd {k : KList} : ∀ {ds : List PyData}, (ds.map keyOf).Nodup → (valV (entsD ds ds.length) k).getD (.int 0) = .int (fnd ds k).sum
  | [], _ => rfl
  | d :: ds, h => by
    rw [List.map_cons, List.nodup_cons] at h
    rw [ents_full, List.map_cons]
    by_cases e : keyOf d = k
    · rw [valV_pos e]
      unfold fnd
      rw [List.filter_cons, decide_eq_true e, if_pos rfl, List.map_cons, List.sum_cons]
      have z := fnd_none (k := k) (ds := ds) (by rw [← e]; exact h.1)
      unfold fnd at z
      rw [z]
      show V.int (nuOf d) = V.int (nuOf d + 0)
      rw [Int.add_zero]
    · have z := val_fnd (k := k) h.2
      rw [ents_full] at z
      rw [show valV ((keyOf d, V.int (nuOf d)) :: ds.map fun d => (keyOf d, V.int (nuOf d))) k = valV (ds.map fun d => (keyOf d, V.int (nuOf d))) k by simp [valV, List.find?_cons, e], z]
      unfold fnd
      rw [List.filter_cons, decide_eq_false e, if_neg Bool.false_ne_true]
theorem fnd_perm {ds es : List PyData} (hp : ds.Perm es) (k : KList) : (fnd ds k).sum = (fnd es k).sum := perm_sum ((hp.filter _).map _)
theorem ok_nodup {ds : List PyData} (h : OkRows ds ds.length) : (ds.map keyOf).Nodup := by
  rw [List.Nodup, List.pairwise_iff_getElem]
  intro i j hi hj hij e
  rw [List.length_map] at hi hj
  have z := (h j ds[j] hj (List.getElem?_eq_getElem hj)).2
  apply z
  rw [List.getElem_map, List.getElem_map] at e
  rw [← e]
  refine List.mem_map.mpr ⟨ds[i], ?_, rfl⟩
  exact List.mem_take_iff_getElem.mpr ⟨i, by omega, rfl⟩
theorem pairs_of {H : Hp} {vs : List V} {ds : List PyData} (h : DqAll H vs ds) (hp : ∀ d ∈ ds, isPairD d = true) : PairsOf ds := fun d hd => by
  obtain ⟨j, hj⟩ := List.mem_iff_getElem?.mp hd
  obtain ⟨v, hv, dv⟩ := dq_at h hj
  obtain ⟨_, _, mm, ww, ii, nn, _, _, _, rfl, _, _⟩ := pair_at dv (hp d hd)
  exact ⟨_, _, _, _, rfl⟩
end Hm
/-! module HmIsAs -/
set_option maxHeartbeats 8000000
/-! _law_is_as. -/
namespace Hm
open PySem PySem.Spec PyProof.Rows L2 Evl Hc Hs Hy PySem.W
structure AsP (mg : Str → Option Value) (C : Addr) : Prop extends MdQ mg C where
  tup : mg "tuple" = none
  srt : mg "sorted" = none
  all : mg "all" = none
  rng : mg "range" = none
/-- what the law asks of a mend by its own defs -/
structure MdD (P : Program) (w : World) (K : PySem.W.Frag) (mg : Str → Option Value) (base : Heap) (C : Addr) : Prop where
  cl : MdI K C
  dLen : Du P w K mg base C "__len__" 1 ["self"] (spMLen C)
  dGet : Du P w K mg base C "__getitem__" 1 ["self", "door"] (spMGet C)
  dBool : Du P w K mg base C "__bool__" 1 ["self"] (spMBool C)
  dEq : Du P w K mg base C "__eq__" 1 ["self", "other"] (spMEq C)
  fl : ∃ (p g : Addr) (fd : FuncData), PropOf K C "floors" p g ∧ Binds K fd ["self"] [] ∧ FnOk P w K mg base CX0 1 g fd ["self"] (spMFl C)
  ne : PySem.W.findIn K (.ref C) "__ne__" = some (some (.builtin "object.__ne__"))
def rBoolO (C : Addr) (sp : Sp) : List V → Hp → VK → Prop := fun xs H Q => ∃ a dx fs, xs = [.ref a] ∧ H a = some (.ins C dx fs) ∧ sp [.ref a] H (fun v H' => ∃ b, v = .bl b ∧ Q (.bl b) H') E0
theorem call_boolO {X : Cx} {C : Addr} {k : Nat} {ps : List Str} {sp : Sp} (d : Du X.prog X.w X.K X.mg X.base C "__bool__" k ps sp) (hr : Room (k + 2) X.A) : CallR X (.type "bool") (rBoolO C sp) := by
  intro pins s σ H xs us Q I r h
  obtain ⟨a, dx, fs, rfl, ha, q⟩ := h
  obtain ⟨u, rfl, rx⟩ := vals1 r
  cases rx
  obtain ⟨f, fd, hs, hf, hf2, hb, F⟩ := d.ex
  obtain ⟨mA, J, _⟩ := ins_get I.hok ha
  obtain ⟨od, J, _⟩ := J.look
  obtain ⟨m, hF⟩ := I.fr
  refine PySem.W.kbo_call hF I.ok.mod.kin J hs hf (wpAny_mono (own_call (vs := [.ref a]) F hb hr.in1.in1 rfl I (.cons rfl .nil) q) (fun v s' hq => ?_) fun _ _ z => z)
  obtain ⟨z, H', I', rz, b, rfl, q⟩ := hq
  cases rz
  exact ⟨.bl b, H', I', rfl, q⟩
theorem all_repl : ∀ n : Nat, (List.replicate n true).all id = true
  | 0 => rfl
  | n + 1 => by
    rw [List.replicate_succ, List.all_cons, all_repl n]
    rfl
theorem eqv_key (m w m' w' : List Nat) (i i' : Int) : PyData.eqv (.tuple [.str (S m), .str (S w), .int i]) (.tuple [.str (S m'), .str (S w'), .int i']) = decide (([.inr (S m), .inr (S w), .inl i] : KList) = [.inr (S m'), .inr (S w'), .inl i']) := by
  show (PyData.eqv (.str (S m)) (.str (S m')) && (PyData.eqv (.str (S w)) (.str (S w')) && ((i == i') && true))) = _
  rw [eqv_S, eqv_S, Bool.eq_iff_iff]
  simp only [Bool.and_eq_true, decide_eq_true_eq, beq_iff_eq, and_true]
  constructor
  · rintro ⟨rfl, rfl, rfl⟩
    rfl
  · intro z
    injection z with z1 z2
    injection z2 with z2 z3
    injection z3 with z3 _
    exact ⟨S_inj (Sum.inr.inj z1), S_inj (Sum.inr.inj z2), Sum.inl.inj z3⟩
theorem sp_num {H : Hp} {a b : Int} : SpV spLNum ([.int a, .int b] ++ []) H (.bl (decide (a = b))) := fun H1 e Q q E => ⟨a, b, rfl, fun H' ex => q H' ex⟩
theorem el_lcT1 {K : PySem.W.Frag} {σ : L2.St} {H : Hp} {tl te : TE} {a : Addr} {xs : List V} {j : Nat} {vs : List Nat} (v : Nat → V) (h : Ev tl σ H (.ref a)) (hx : SqT K H a xs) (hz : xs.length ≤ 40000) (hw : ∀ x, wipe ((wipe σ vs).set j (some x)) vs = wipe σ vs)
    (he : ∀ (i : Nat) (x : V) H1, Ex H H1 → xs[i]? = some x → Ev te ((wipe σ vs).set j (some x)) H1 (v i)) :
    EvL (tLc (iTup K tl) (gName j) tYes te vs) σ H ((List.range xs.length).map v) := fun H0 e Q q => h H0 e _ fun H1 e1 => ⟨a, rfl, ⟨xs, ex_t (e.trans e1) hx⟩, fun Dl hD =>
  lc_tup (xs := xs) (Cw H1 (fun _ => true) v Dl) ⟨hD, Ex.new hD, upd_same⟩ (fun i H' _ p => ex_t ((e.trans e1).trans p.2.1) hx) (fun i x H' hi p => ⟨hw x, cw_turn p (by have := (List.getElem?_eq_some_iff.mp hi).1; omega) et_yes (fun _ => he i x H1 (e.trans e1) hi)⟩)
    (fun H' p => q Dl H' (fresh_back e1 p.1) (e1.trans p.2.1) (by
      have z := p.2.2
      unfold Evl.given at z
      rw [List.filter_eq_self.mpr (fun _ _ => rfl)] at z
      exact z))⟩
theorem depth_all {ds : List PyData} {n : Nat} (h : ∀ d ∈ ds, d.depth ≤ n) : PyData.depthAll ds ≤ n := by
  induction ds with
  | nil => exact Nat.zero_le _
  | cons e es ih => exact Nat.max_le.mpr ⟨h e List.mem_cons_self, ih fun d hd => h d (List.mem_cons_of_mem _ hd)⟩
theorem empty_list (ds : List PyData) : PyData.eqv (.list ds) (.list []) = ds.isEmpty := by cases ds <;> rfl
abbrev nLIsAs : List Str := ["_law_made_here", "_law_rows", "_law_words", "_law_due", "_law_word_here", "_law_way", "_law_at", "_law_found", "_law_pair_here", "_law_door", "_law_floors"]
theorem scLIsAs : FnScope nLIsAs ["_law_made_here", "_law_rows", "_law_words"] (defScope sLIsAs) := ⟨rfl, rfl, rfl, by decide +kernel, rfl, by decide +kernel, by decide +kernel⟩
def spLIsAs (C : Addr) : Sp := fun vs H Q _ => ∃ (x r wa : Addr) (vals ues : List V) (ds es : List PyData) (ws : List Nm) (H0 : Hp), vs = [.ref x, .ref r, .ref wa] ∧ MendOk C x es H ∧ H r = some (.lst vals) ∧ H wa = some (.lst (ws.map sv)) ∧ DqAll H vals ds ∧ DqAll H0 ues es ∧ Told ds none ∧ Told es none ∧ es.Perm ds ∧ (∀ d ∈ ds, d.depth ≤ 4) ∧ ds.length ≤ 3 ∧
  (∀ x ∈ ws, x.length ≤ 8 ∧ ∀ c ∈ x, c < 1000) ∧ ws.length ≤ 100 ∧ ∀ H', Ex H H' → Q (.bl true) H'
section
variable {P : Program} {w : World} {K : PySem.W.Frag} {mg : Str → Option Value} {base : Heap} {C f : Addr} {fd : FuncData}
theorem ok_lisas {k : Nat} (F : Fun K "_law_is_as" "_law_is_as" sLIsAs f fd) (T : AsP mg C) (M : MdD P w K mg base C) (rN : Hs.Rd P w K mg base "_law_number" k ["_law_thing", "_law_due"] spLNum) (hk : 4 ≤ k) : FnOk P w K mg base CX0 (k + 1) f fd ["_law_made_here", "_law_rows", "_law_words"] (spLIsAs C) := by
  refine F.ok scLIsAs (fun vs H Q E h => ?_) (fun cdv A outer s H vs Q E hr h => ?_)
  · obtain ⟨x, r, wa, _, _, _, _, _, _, rfl, _⟩ := h
    rfl
  · obtain ⟨x, r, wa, vals, ues, ds, es, ws, H0, rfl, hm, hrr, hwa, hds, hes, td, te, hp, hdep, hlen, hws, hwl, q⟩ := h
    have hl := Nat.le_refl k
    obtain ⟨pf, gf, fdf, hpf, hbf, Gf⟩ := M.fl
    have c := M.cl.toMdC
    refine ⟨_, pss_cons (ps_set (i := 3) scLIsAs.nd rfl (.inl rfl) (pe_callTy call_tuple_of (by rfl) T.tup boot_tuple (pa_cons (pe_callB (cr_sortD hr.units) (by rfl) T.srt boot_sorted' (pa_cons (pv 1) pa_nil)) pa_nil))) (pss_cons (ps_if (PW.pt (pw_or (pt_not (pt_val (pe_callB (show CallR _ (.builtin "isinstance") (rIsi K) from call_isi) (by rfl) T.isi boot_isinstance (pa_cons (pe_fld (pv 0) (by rfl)) (pa_cons (pe_bltn (v := .ty "tuple") (by rfl) T.tup boot_tupT rfl) pa_nil))))) (pw_or1 (pt_cmpR (op_neD hr.units) (pe_fld (pv 0) (by rfl)) (pv 3) (nomark _))))) (pss_one (ps_ret pe_bl)) pss_nil) (pss_cons (ps_if (pt_not (pt_val (pe_callB (cr_all rfl) (by rfl) T.all boot_all (pa_cons (pe_lc (own := [("_law_pair_here", 8)]) (g := gName 8) (tt := tYes) rfl scLIsAs.nd (pi_tup (pe_fld (pv 0) (by rfl))) (blkOk_by (N := nLIsAs) (sc := defScope sLIsAs) (by decide +kernel)) (fun _ _ _ _ _ => pg_name (i := 8) scLIsAs.nd rfl (.inl rfl)) (fun _ _ _ _ _ => pts_nil) (fun _ _ _ _ _ => pe_and (pe_rd rN hr hl (by rfl) (pa_cons (pe_ix (show IxR _ (rIxT K) from ix_tup) (pv 8) pe_int (fun _ _ => rfl)) (pa_cons (pe_ix (show IxR _ (rIxT K) from ix_tup) (pv 8) pe_int (fun _ _ => rfl)) pa_nil))) (pe_one (pe_callB (show CallR _ (.builtin "isinstance") (rIsi K) from call_isi) (by rfl) T.isi boot_isinstance (pa_cons (pe_ix (show IxR _ (rIxT K) from ix_tup) (pv 8) pe_int (fun _ _ => rfl)) (pa_cons (pe_bltn (v := .ty "tuple") (by rfl) T.tup boot_tupT rfl) pa_nil)))))) pa_nil)))) (pss_one (ps_ret pe_bl)) pss_nil) (pss_cons (ps_if (PW.pt (pw_or (pt_cmpR op_ne (pe_callB (call_lenO M.dLen (hr.mono (by omega))) (by rfl) T.len PySem.boot_len (pa_cons (pv 0) pa_nil)) (pe_callB (show CallR _ (.builtin "len") (rLenS K) from call_len_seq) (by rfl) T.len PySem.boot_len (pa_cons (pv 1) pa_nil)) (nomark _)) (pw_or1 (pt_not (pt_val (pe_rd rN hr hl (by rfl) (pa_cons (pe_prop (pv 0) c.cl hpf Gf (hr.mono (by omega)) hbf .nil pass0 (by rfl)) (pa_cons (pe_callB (cr_sum rfl) (by rfl) T.sum boot_sum' (pa_cons (pe_lc (own := [("_law_door", 9), ("_law_floors", 10)]) (g := g2 K 9 10) (tt := tYes) rfl scLIsAs.nd (pi_list (pv 1)) (blkOk_by (N := nLIsAs) (sc := defScope sLIsAs) (by decide +kernel)) (fun _ _ _ _ _ => pg_tup (by rfl) (pgs_cons (pg_name (i := 9) scLIsAs.nd rfl (.inl rfl)) (pgs_cons (pg_name (i := 10) scLIsAs.nd rfl (.inl rfl)) pgs_nil))) (fun _ _ _ _ _ => pts_nil) (fun _ _ _ _ _ => pv 10)) pa_nil)) pa_nil)))))))) (pss_one (ps_ret pe_bl)) pss_nil) (pss_cons (ps_for PassesOwn.never rfl (pi_list (pv 2)) (pg_name (i := 4) scLIsAs.nd rfl (.inr rfl)) (pss_one (ps_for PassesOwn.never rfl (pi_tup (pe_tup (pa_cons (pe_str) (pa_cons (pe_str) (pa_cons (pe_str) (pa_cons (pe_str) pa_nil)))))) (pg_name (i := 5) scLIsAs.nd rfl (.inr rfl)) (pss_one (ps_for PassesOwn.never rfl (pi_range2 (by rfl) T.rng (pa_cons (pe_un un_neg pe_int) (pa_cons (pe_int) pa_nil))) (pg_name (i := 6) scLIsAs.nd rfl (.inr rfl)) (pss_one (ps_if (pt_cmpR op_eq (pe_cmpR op_eq (pv 6) (pe_un un_neg pe_int) (nomark _)) (pe_cmpR op_eq (pv 5) pe_str (nomark _)) (nomark _)) (pss_cons (ps_setLc (i := 7) (own := [("_law_door", 9), ("_law_floors", 10)]) (g := g2 K 9 10) rfl scLIsAs.nd rfl rfl (sw_true rfl rfl rfl rfl) (pi_list (pv 1)) (blkOk_by (N := nLIsAs) (sc := defScope sLIsAs) (by decide +kernel)) (fun _ _ _ _ _ => pg_tup (by rfl) (pgs_cons (pg_name (i := 9) scLIsAs.nd rfl (.inl rfl)) (pgs_cons (pg_name (i := 10) scLIsAs.nd rfl (.inl rfl)) pgs_nil))) (fun _ _ _ _ _ => pts_one (pt_cmpR (show OpR _ (compareOp .Eq) (rEqD K) from op_eqD hr.units) (pv 9) (pe_tup (pa_cons (pv 4) (pa_cons (pv 5) (pa_cons (pv 6) pa_nil)))) (nomark _))) (fun _ _ _ _ _ => pv 10)) (pss_one (ps_if (pt_not (pt_val (pe_rd rN hr hl (by rfl) (pa_cons (pe_ixO M.dGet (hr.mono (by omega)) (pv 0) (pe_tup (pa_cons (pv 4) (pa_cons (pv 5) (pa_cons (pv 6) pa_nil)))) (fun _ _ => by with_unfolding_all rfl)) (pa_cons (pe_callB (cr_sum rfl) (by rfl) T.sum boot_sum' (pa_cons (pv 7) pa_nil)) pa_nil))))) (pss_one (ps_ret pe_bl)) pss_nil))) pss_nil))))))) (pss_one (ps_ret (pe_cmpR op_eq (pe_callTy (call_boolO M.dBool (hr.mono (by omega))) (by rfl) T.boo Hm.boot_boolT (pa_cons (pv 0) pa_nil)) (pe_cmpR (op_neD hr.units) (pv 1) (pe_lst pa_nil) (nomark _)) (nomark _)))))))), ?_⟩
    have hm0 := hm
    obtain ⟨dx, tp, Fa, us, h1, h2, h3, h4⟩ := hm
    have hall_d : ∀ d ∈ ds, isPairD d = true := OkRows.all td
    have hall_e : ∀ d ∈ es, isPairD d = true := OkRows.all te
    have hse : srt es = srt ds := srt_perm hp (pairs_of hes hall_e)
    have hlen_e : es.length = ds.length := hp.length_eq
    have hdep_e : ∀ d ∈ es, d.depth ≤ 4 := fun d hd => hdep d (hp.mem_iff.mp hd)
    have hdep8 : ∀ d ∈ ds, d.depth ≤ 8 := fun d hd => Nat.le_trans (hdep d hd) (by decide)
    have hvl : vals.length = ds.length := hds.len
    have shD : SeqAt.shaped (.tuple (srt ds)) = true := by
      rw [← hse]
      exact (Dq.tup h3 h4).shaped (Nat.le_trans (srt_depth hdep_e) (by decide))
    -- due
    refine q_asgX ?_
    refine ⟨_, rfl, r, vals, ds, rfl, hrr, hds.dp, rows_alike (pairs_of hds hall_d), rows_sortable (pairs_of hds hall_d), by omega, hdep8, fun ps nps => ?_⟩
    refine ⟨ps, _, rfl, .inl ⟨sq_of upd_same, fun q1 nq1 => ?_⟩⟩
    obtain ⟨L, hL⟩ : ∃ L, L = (sorting vals ds).map (·.1) := ⟨_, rfl⟩
    rw [← hL] at nq1 ⊢
    have e2 : Ex H (upd (upd H ps (.lst L)) q1 (.tup L)) := (Ex.new nps).trans (Ex.new nq1)
    have hq1 : (upd (upd H ps (.lst L)) q1 (.tup L)) q1 = some (.tup L) := upd_same
    have dqL : DqAll (upd (upd H ps (.lst L)) q1 (.tup L)) L (srt ds) := by
      have z := (sorting_dq hds).ex e2
      rw [← hL] at z
      exact z
    show tSeq _ _ _ [some (.ref x), some (.ref r), some (.ref wa), some (.ref q1), none, none, none, none, none, none, none] (upd (upd H ps (.lst L)) q1 (.tup L))
    generalize upd (upd H ps (.lst L)) q1 (.tup L) = H2 at e2 hq1 dqL ⊢
    have m2 : MendOk C x es H2 := hm0.ex e2
    have k1 := e2 _ _ h1
    have k3 := e2 _ _ h3
    have k4 := h4.ex e2
    have dq2 := hds.ex e2
    -- pairs
    refine q_when (b := false) (et_is (et_or (et_not (et_B (ev_isiD (d := .tuple (srt es)) (b := true) (ev_fld' (ev_var rfl) k1 c.cl c.nP rfl) ev_c (.tup k3 k4) (kit_T (Dq.tup k3 k4))))) fun _ => et_test (ev_op (z := .bl (!PyData.eqv (.tuple (srt es)) (.tuple (srt ds)))) (ev_fld' (ev_var rfl) k1 c.cl c.nP rfl) (ev_var rfl) fun H3 e3 Q q => ⟨_, _, ((Dq.tup k3 k4).ex e3).dp, ((Dq.tup hq1 dqL).ex e3).dp, by rw [hse]; exact shD, shD, q H3 (Ex.refl H3)⟩)) (by rw [hse, SeqAt.eqv_refl _ (SeqAt.canLay_of_shaped shD)]; rfl)) (fun z => nomatch z) fun _ H3 e3 => ?_
    have j1 := e3 _ _ k1
    have j3 := e3 _ _ k3
    have j4 := k4.ex e3
    have m3 := m2.ex e3
    have e03 := e2.trans e3
    -- all of them
    refine q_when (b := false) (et_is (et_not (et_B (ev_all (bs := List.replicate us.length true) ?_))) (by rw [all_repl]; rfl)) (fun z => nomatch z) fun _ H4 e4 => ?_
    · have z := el_lcT1 (K := K) (σ := [some (.ref x), some (.ref r), some (.ref wa), some (.ref q1), none, none, none, none, none, none, none]) (H := H3) (tl := tFld K (tVar 0) "pairs") (te := tAndV (tCall spLNum [] E0 (tCons (tOp (rIxT K) (tVar 8) (tC (.int 1))) (tCons (tOp (rIxT K) (tVar 8) (tC (.int 1))) tNil))) (tCB (rIsi K) (tCons (tOp (rIxT K) (tVar 8) (tC (.int 0))) (tCons (tC (.ty "tuple")) tNil)))) (a := tp) (xs := us) (j := 8) (vs := [8]) (fun _ => V.bl true) (ev_fld' (ev_var rfl) j1 c.cl c.nP rfl) (st_of j3) (by rw [j4.len, srt_len]; omega) Hs.wipe1 (fun i u H5 e5 hi => by
        obtain ⟨d, hd, dq⟩ := dq_get j4 hi
        obtain ⟨p, q', m, wy, ii, n, rfl, g1, g2', rfl, _, _⟩ := pair_at dq (hall_e d (srt_mem.mp (List.mem_of_getElem? hd)))
        have g1' := e5 _ _ g1
        exact Evl.ev_is (ev_andV (a := true) (b := true) (Evl.ev_is (ev_call (ea_cons (ev_op (ev_var rfl) ev_c (rv_ixT (st_of g1') (atI_nat (j := 1) rfl))) (ea_cons (ev_op (ev_var rfl) ev_c (rv_ixT (st_of g1') (atI_nat (j := 1) rfl))) ea_nil)) (sp_num (a := n) (b := n))) (by rw [decide_eq_true rfl])) fun _ => ev_isiD (d := .tuple [.str (S m), .str (S wy), .int ii]) (b := true) (ev_op (ev_var rfl) ev_c (rv_ixT (st_of g1') (atI_nat (j := 0) rfl))) ev_c ((Dq.tup g2' (pair_inner dq g1 g2')).ex e5) rfl) rfl)
      have ez : (List.range us.length).map (fun _ => V.bl true) = (List.replicate us.length true).map V.bl := by rw [List.map_replicate, List.map_const', List.length_range]
      rw [ez] at z
      exact z
    have i1 := e4 _ _ j1
    have m4 := m3.ex e4
    have e04 := e03.trans e4
    have dq4 := hds.ex e04
    have hr4 := e04 _ _ hrr
    -- len, floors
    have evP : Ev (tProp C (spMFl C) [] E0 (tVar 0)) [some (.ref x), some (.ref r), some (.ref wa), some (.ref q1), none, none, none, none, none, none, none] H4 (.int (es.map nuOf).sum) := fun H5 e5 Q q => ⟨_, rfl, x, dx, _, rfl, e5 _ _ i1, x, es, rfl, m4.ex e5, hall_e, by omega, fun H6 e6 => q H6 e6⟩
    have evL : Ev (tCB (rLenO C (spMLen C)) (tCons (tVar 0) tNil)) [some (.ref x), some (.ref r), some (.ref wa), some (.ref q1), none, none, none, none, none, none, none] H4 (.int (es.length : Int)) := ev_cb (ea_cons (ev_var rfl) ea_nil) fun H5 e5 Q q => ⟨x, dx, _, rfl, e5 _ _ i1, x, es, rfl, m4.ex e5, fun H6 e6 => ⟨_, rfl, by omega, by omega, q H6 e6⟩⟩
    have evS : Ev (tCB (rSum K) (tCons (tLc (iList K (tVar 1)) (g2 K 9 10) tYes (tVar 10) [9, 10]) tNil)) [some (.ref x), some (.ref r), some (.ref wa), some (.ref q1), none, none, none, none, none, none, none] H4 (.int (ds.map nuOf).sum) := by
      have z := el_lc2L (K := K) (σ := [some (.ref x), some (.ref r), some (.ref wa), some (.ref q1), none, none, none, none, none, none, none]) (H := H4) (tl := tVar 1) (te := tVar 10) (t := tYes) (a := r) (xs := vals) (i1 := 9) (i2 := 10) (vs := [9, 10]) (fun _ => true) (fun i => V.int (nuOf (ds.getD i .none))) (ev_var rfl) (sq_of hr4) (by omega) (fun _ _ => rfl) (fun i v hi => by
        obtain ⟨d, hd, dq⟩ := dq_get dq4 hi
        obtain ⟨p, q', m, wy, ii, n, rfl, g1, g2', rfl, _, _⟩ := pair_at dq (hall_d d (List.mem_of_getElem? hd))
        refine ⟨p, .ref q', .int n, rfl, g1, fun H1 e1 => ⟨et_yes, fun _ => ?_⟩⟩
        have e0 : ds.getD i .none = .tuple [.tuple [.str (S m), .str (S wy), .int ii], .int n] := by
          rw [List.getD_eq_getElem?_getD, hd]
          rfl
        rw [e0]
        exact ev_var rfl)
      rw [hvl, given_nu] at z
      exact ev_sumL z
    refine q_when (b := false) (et_is (et_or (et_test (ev_op evL (ev_len (xs := vals) (ev_var rfl) (sq_of hr4)) (rv_ne rfl))) fun _ => et_not (et_B (ev_call (ea_cons evP (ea_cons evS ea_nil)) sp_num))) (by
      rw [dec_I, hvl, hlen_e, decide_eq_true rfl, perm_sum (hp.map nuOf), decide_eq_true rfl]
      rfl)) (fun z => nomatch z) fun _ H5 e5 => ?_
    have m5 := m4.ex e5
    have o1 := e5 _ _ i1
    have e05 := e04.trans e5
    -- the doors
    refine ⟨_, rfl, wa, rfl, ⟨_, sq_of (e05 _ _ hwa)⟩, for_list (xs := ws.map sv) (fun _ σ' H' => (∃ v4 v5 v6 v7, σ' = [some (.ref x), some (.ref r), some (.ref wa), some (.ref q1), v4, v5, v6, v7, none, none, none]) ∧ Ex H5 H') ⟨⟨none, none, none, none, rfl⟩, Ex.refl H5⟩ (fun i σ' H' _ z => sq_of (z.2 _ _ (e05 _ _ hwa))) (fun i wv σ' H' hi z => ?_) (fun σ' H' z => ?_)⟩
    · obtain ⟨⟨v4, v5, v6, v7, rfl⟩, e6⟩ := z
      rw [List.getElem?_map] at hi
      obtain ⟨wd, hwd, rfl⟩ := Option.map_eq_some_iff.mp hi
      have hwd' := hws wd (List.mem_of_getElem? hwd)
      show tFor _ _ _ _ [some (.ref x), some (.ref r), some (.ref wa), some (.ref q1), some (sv wd), v5, v6, v7, none, none, none] H'
      refine ⟨(show 4 ≤ sizeLine by decide), fun t4 nt4 => ⟨t4, rfl, ⟨_, st_of upd_same⟩, for_tup (xs := ways.map sv) (fun _ σ' H' => (∃ v5 v6 v7, σ' = [some (.ref x), some (.ref r), some (.ref wa), some (.ref q1), some (sv wd), v5, v6, v7, none, none, none]) ∧ Ex H5 H' ∧ H' t4 = some (.tup (ways.map sv))) ⟨⟨v5, v6, v7, rfl⟩, e6.trans (Ex.new nt4), by rw [← ways_eq]; exact upd_same⟩ (fun i σ' H' _ z => st_of z.2.2) (fun i wv σ' H'' hi2 z => ?_) (fun σ' H' z => ⟨⟨_, z.1⟩, z.2.1⟩)⟩⟩
      obtain ⟨⟨v5, v6, v7, rfl⟩, e7, ht4⟩ := z
      rw [List.getElem?_map] at hi2
      obtain ⟨wy, hwy, rfl⟩ := Option.map_eq_some_iff.mp hi2
      show tFor _ _ _ _ [some (.ref x), some (.ref r), some (.ref wa), some (.ref q1), some (sv wd), some (sv wy), v6, v7, none, none, none] H''
      refine ⟨1, rfl, -1, 3, rfl, ⟨by decide, by decide, by decide, by decide⟩, for_range (lo := -1) (n := 4) (fun _ σ' H' => (∃ v6 v7, σ' = [some (.ref x), some (.ref r), some (.ref wa), some (.ref q1), some (sv wd), some (sv wy), v6, v7, none, none, none]) ∧ Ex H5 H' ∧ H' t4 = some (.tup (ways.map sv))) ⟨⟨v6, v7, rfl⟩, e7, ht4⟩ (fun ia σ' H3' hia z => ?_) (fun σ' H' z => ⟨⟨_, z.1⟩, z.2⟩)⟩
      obtain ⟨⟨v6, v7, rfl⟩, e8, ht4'⟩ := z
      show tIfS _ _ _ _ [some (.ref x), some (.ref r), some (.ref wa), some (.ref q1), some (sv wd), some (sv wy), some (.int (-1 + (ia : Int))), v7, none, none, none] H3'
      generalize (-1 + (ia : Int)) = at_
      have m8 := m5.ex e8
      have e08 := e05.trans e8
      have dq8 := hds.ex e08
      have hr8 := e08 _ _ hrr
      refine s_when (σ := [some (.ref x), some (.ref r), some (.ref wa), some (.ref q1), some (sv wd), some (sv wy), some (.int at_), v7, none, none, none]) (H := H3') (et_test (ev_op (ev_eqI (b := -1) (ev_var rfl) (ev_un ev_c ru_neg)) (ev_eqS (a := wy) (b := resW) (ev_var rfl) ev_c) (rv_eq rfl))) (fun _ H6 e9 => ?_) fun _ H6 e9 => ⟨⟨_, _, rfl⟩, e8.trans e9, e9 _ _ ht4'⟩
      have m9 := m8.ex e9
      have dq9 := dq8.ex e9
      have hr9 := e9 _ _ hr8
      have p1 := e9 _ _ (e8 _ _ o1)
      obtain ⟨key, hkey⟩ : ∃ key : KList, key = [.inr (S wd), .inr (S wy), .inl at_] := ⟨_, rfl⟩
      have hwy' : wy.length ≤ 100 ∧ ∀ c ∈ wy, c < 1000 := (show ∀ wy ∈ ways, wy.length ≤ 100 ∧ ∀ c ∈ wy, c < 1000 by decide +kernel) wy (List.mem_of_getElem? hwy)
      have dkey : ∀ {G : Hp} {p : Addr}, G p = some (.tup [sv wd, sv wy, V.int at_]) → Dq G (.ref p) (.tuple [.str (S wd), .str (S wy), .int at_]) := fun hp => .tup hp (.cons (.str wd (by omega) (lay_S hwd'.2)) (.cons (.str wy hwy'.1 (lay_S hwy'.2)) (.cons (.int at_) .nil)))
      have evF : EvL (tLc (iList K (tVar 1)) (g2 K 9 10) (tTest (tOp (rEqD K) (tVar 9) (tTup (tCons (tVar 4) (tCons (tVar 5) (tCons (tVar 6) tNil)))))) (tVar 10) [9, 10]) [some (.ref x), some (.ref r), some (.ref wa), some (.ref q1), some (sv wd), some (sv wy), some (.int at_), v7, none, none, none] H6 ((fnd ds key).map V.int) := by
        have z := el_lc2L (K := K) (σ := [some (.ref x), some (.ref r), some (.ref wa), some (.ref q1), some (sv wd), some (sv wy), some (.int at_), v7, none, none, none]) (H := H6) (tl := tVar 1) (te := tVar 10) (t := tTest (tOp (rEqD K) (tVar 9) (tTup (tCons (tVar 4) (tCons (tVar 5) (tCons (tVar 6) tNil)))))) (a := r) (xs := vals) (i1 := 9) (i2 := 10) (vs := [9, 10]) (fun i => decide (keyOf (ds.getD i .none) = key)) (fun i => V.int (nuOf (ds.getD i .none))) (ev_var rfl) (sq_of hr9) (by omega) (fun _ _ => rfl) (fun i v hi => by
          obtain ⟨d, hd, dq⟩ := dq_get dq9 hi
          obtain ⟨p, q', m, wy', ii, n, rfl, g1, g2', rfl, _, _⟩ := pair_at dq (hall_d d (List.mem_of_getElem? hd))
          have e0 : ds.getD i .none = .tuple [.tuple [.str (S m), .str (S wy'), .int ii], .int n] := by
            rw [List.getD_eq_getElem?_getD, hd]
            rfl
          have din := pair_inner dq g1 g2'
          refine ⟨p, .ref q', .int n, rfl, g1, fun H1 e1 => ⟨?_, fun _ => ?_⟩⟩
          · rw [e0]
            have eo := Dq.tup g2' din
            refine et_test (Evl.ev_is (ev_opU (z := .bl (PyData.eqv (.tuple [.str (S m), .str (S wy'), .int ii]) (.tuple [.str (S wd), .str (S wy), .int at_]))) (ev_var rfl) (eu_tup (ea_cons (ev_var rfl) (ea_cons (ev_var rfl) (ea_cons (ev_var rfl) ea_nil))) (show 3 ≤ 100000 by decide)) fun pk G1 hpk eG => fun G2 eG2 Q q => ⟨_, _, (eo.ex ((e1.trans eG).trans eG2)).dp, (dkey (eG2 _ _ hpk)).dp, eo.shaped (by simp [PyData.depth, PyData.depthAll]), (dkey hpk).shaped (by simp [PyData.depth, PyData.depthAll]), q G2 (Ex.refl G2)⟩) ?_)
            rw [eqv_key, hkey]
            rfl
          · rw [e0]
            exact ev_var rfl)
        rw [hvl] at z
        rw [given_map PyData.none (fun d => decide (keyOf d = key)) (fun d => V.int (nuOf d)) ds] at z
        unfold fnd
        rw [List.map_map]
        exact z
      refine q_asgL evF fun p7 H7 np7 e10 hp7 => ?_
      have m10 := m9.ex e10
      have p2 := e10 _ _ p1
      show tIfS _ _ _ _ [some (.ref x), some (.ref r), some (.ref wa), some (.ref q1), some (sv wd), some (sv wy), some (.int at_), some (.ref p7), none, none, none] H7
      have evG : Ev (tOp (rIxO C (spMGet C)) (tVar 0) (tTup (tCons (tVar 4) (tCons (tVar 5) (tCons (tVar 6) tNil))))) [some (.ref x), some (.ref r), some (.ref wa), some (.ref q1), some (sv wd), some (sv wy), some (.int at_), some (.ref p7), none, none, none] H7 (.int (fnd es key).sum) := by
        rw [← val_fnd (ok_nodup te)]
        exact ev_opU (ev_var rfl) (eu_tup (ea_cons (ev_var rfl) (ea_cons (ev_var rfl) (ea_cons (ev_var rfl) ea_nil))) (show 3 ≤ 100000 by decide)) fun pk G1 hpk eG => fun G2 eG2 Q q => ⟨x, dx, _, rfl, (eG.trans eG2) _ _ p2, x, pk, es, key, rfl, m10.ex (eG.trans eG2), by rw [hkey]; exact eG2 _ _ hpk, fun G3 e3 => q G3 e3⟩
      have evS7 : Ev (tCB (rSum K) (tCons (tVar 7) tNil)) [some (.ref x), some (.ref r), some (.ref wa), some (.ref q1), some (sv wd), some (sv wy), some (.int at_), some (.ref p7), none, none, none] H7 (.int (fnd ds key).sum) := ev_cb (ea_cons (ev_var rfl) ea_nil) fun G1 eG Q q => ⟨p7, fnd ds key, rfl, sq_of (eG _ _ hp7), q G1 (Ex.refl G1)⟩
      refine s_when (σ := [some (.ref x), some (.ref r), some (.ref wa), some (.ref q1), some (sv wd), some (sv wy), some (.int at_), some (.ref p7), none, none, none]) (H := H7) (b := false) (et_is (et_not (et_B (ev_call (ea_cons evG (ea_cons evS7 ea_nil)) sp_num))) (by rw [fnd_perm hp, decide_eq_true rfl]; rfl)) (fun z => nomatch z) fun _ H8 e11 => ?_
      exact ⟨⟨_, _, rfl⟩, ((e8.trans e9).trans e10).trans e11, ((e9.trans e10).trans e11) _ _ ht4'⟩
    · obtain ⟨⟨v4, v5, v6, v7, rfl⟩, e6⟩ := z
      have m6 := m5.ex e6
      have o6 := e6 _ _ o1
      have e06 := e05.trans e6
      have shL : SeqAt.shaped (.list ds) = true := by
        have z := shD
        unfold SeqAt.shaped at z ⊢
        have zl : PyData.canLay0 (.list ds) = true := (Dq.lst hrr hds).lay
        rw [zl]
        have : PyData.depth (.list ds) ≤ 8 := Nat.le_trans (Nat.succ_le_succ (depth_all hdep)) (by decide)
        rw [decide_eq_true (by omega)]
        rfl
      refine s_ret (v := .bl true) (Evl.ev_is (ev_op (x := .bl (!es.isEmpty)) (y := .bl (!ds.isEmpty)) (ev_cb (ea_cons (ev_var rfl) ea_nil) fun H7 e7 Q q => ⟨x, dx, _, rfl, e7 _ _ o6, x, es, rfl, m6.ex e7, hdep_e, fun H8 e8 => ⟨_, rfl, q H8 e8⟩⟩) (ev_opL (ev_var rfl) (el_lst ea_nil (Nat.zero_le _)) fun p H7 hp7 e7 => fun H8 e8 Q q => ⟨.list ds, .list [], ((Dq.lst hrr hds).ex ((e06.trans e7).trans e8)).dp, .lst (sq_of (e8 _ _ hp7)) .nil, shL, rfl, by rw [empty_list]; exact q H8 (Ex.refl H8)⟩) (rv_eq rfl)) (by
        have : es.isEmpty = ds.isEmpty := by
          cases es <;> cases ds <;> first | rfl | cases hlen_e
        rw [this, decide_eq_true rfl])) fun H7 e7 => q H7 (e06.trans e7)
end
end Hm
/-! module HmPure -/
set_option maxHeartbeats 8000000
/-! What k43's law needs of rows alone. -/
namespace Hm
open PySem PySem.Spec PyProof.Rows L2 Evl Hc Hs Hy PySem.W
theorem told_ex {ds : List PyData} (h : ∀ d ∈ ds, isPairD d = true) : ∃ t, Told ds t := by
  have key : ∀ n, n ≤ ds.length → ∃ t, Told (ds.take n) t := by
    intro n
    induction n with
    | zero => exact fun _ => ⟨none, fun j d hj _ => absurd hj (by rw [List.take_zero]; exact Nat.not_lt_zero _)⟩
    | succ n ih =>
      intro hn
      obtain ⟨t, ht⟩ := ih (by omega)
      have e : ds.take (n + 1) = ds.take n ++ [ds[n]] := by
        rw [List.take_add_one, List.getElem?_eq_getElem (by omega)]
        rfl
      rw [e]
      have hp := h ds[n] (List.getElem_mem (by omega))
      cases t with
      | some k => exact ⟨some k, told_on ht⟩
      | none =>
        by_cases hk : keyOf ds[n] ∈ (ds.take n).map keyOf
        · exact ⟨some (ds.take n).length, told_bad ht fun _ => hk⟩
        · exact ⟨none, told_ok ht hp hk⟩
  have z := key ds.length (Nat.le_refl _)
  rwa [List.take_length] at z
theorem ok_of {ds : List PyData} (h : ∀ d ∈ ds, isPairD d = true) (hn : (ds.map keyOf).Nodup) : Told ds none := by
  intro j d hj hd
  refine ⟨h d (List.mem_of_getElem? hd), fun hm => ?_⟩
  rw [List.Nodup, List.pairwise_iff_getElem] at hn
  obtain ⟨e, he, hke⟩ := List.mem_map.mp hm
  obtain ⟨i, hi, rfl⟩ := List.mem_take_iff_getElem.mp he
  obtain ⟨hj', rfl⟩ := List.getElem?_eq_some_iff.mp hd
  have := hn i j (by rw [List.length_map]; omega) (by rw [List.length_map]; exact hj') (by omega)
  rw [List.getElem_map, List.getElem_map] at this
  exact this hke
/-- whether the i-th row's door stands above it -/
def dupB (ds : List PyData) (i : Nat) : Bool := ((ds.take i).map doorD).any fun z => PyData.eqv z (doorD (ds.getD i .none))
theorem dup_iff {H : Hp} {vs : List V} {ds : List PyData} (h : DqAll H vs ds) (hp : ∀ d ∈ ds, isPairD d = true) {i : Nat} (hi : i < ds.length) : dupB ds i = true ↔ keyOf ds[i] ∈ (ds.take i).map keyOf := by
  have e : ds.getD i .none = ds[i] := by rw [List.getD_eq_getElem?_getD, List.getElem?_eq_getElem hi]; rfl
  obtain ⟨v, hv, dv⟩ := dq_at h (List.getElem?_eq_getElem hi)
  unfold dupB
  rw [e]
  exact any_doors dv (hp _ (List.getElem_mem hi)) (dq_take i h) fun d hd => hp d (List.mem_of_mem_take hd)
theorem twice_none {H : Hp} {vs : List V} {ds : List PyData} (h : DqAll H vs ds) (ht : Told ds none) : Evl.given ds.length (dupB ds) (fun i => V.int (i : Int)) = [] := by
  have hp : ∀ d ∈ ds, isPairD d = true := OkRows.all ht
  unfold Evl.given
  rw [List.filter_eq_nil_iff.mpr, List.map_nil]
  intro i hi hd
  have hi' : i < ds.length := List.mem_range.mp hi
  exact (ht i ds[i] hi' (List.getElem?_eq_getElem hi')).2 ((dup_iff h hp hi').mp hd)
theorem filter_first {f : Nat → Bool} {k n : Nat} (hk : k < n) (h0 : ∀ i < k, f i = false) (h1 : f k = true) : ∃ r, (List.range n).filter f = k :: r := by
  obtain ⟨m, rfl⟩ : ∃ m, n = k + (1 + m) := ⟨n - k - 1, by omega⟩
  rw [List.range_add, List.filter_append, List.filter_eq_nil_iff.mpr (fun i hi => by rw [h0 i (List.mem_range.mp hi)]; exact Bool.false_ne_true), List.nil_append, List.range_add, List.map_append]
  have e : (List.range 1).map (fun x => k + x) = [k] := by simp [List.range_succ]
  rw [e, List.cons_append, List.filter_cons, h1, if_pos rfl]
  exact ⟨_, rfl⟩
theorem twice_some {H : Hp} {vs : List V} {ds : List PyData} {k : Nat} (h : DqAll H vs ds) (hp : ∀ d ∈ ds, isPairD d = true) (ht : Told ds (some k)) : ∃ r, Evl.given ds.length (dupB ds) (fun i => V.int (i : Int)) = .int (k : Int) :: r := by
  have hk := told_lt ht
  obtain ⟨h1, d, hd, hb⟩ := ht
  have hd' : ds[k] = d := by
    rw [List.getElem?_eq_getElem hk] at hd
    exact Option.some.inj hd
  obtain ⟨r, hr⟩ := filter_first (f := dupB ds) hk (fun i hi => by
    rw [Bool.eq_false_iff]
    intro z
    have hi' : i < ds.length := by omega
    exact (h1 i ds[i] hi (List.getElem?_eq_getElem hi')).2 ((dup_iff h hp hi').mp z)) ((dup_iff h hp hk).mpr (by rw [hd']; exact hb (hp d (List.mem_of_getElem? hd))))
  refine ⟨r.map fun (i : Nat) => V.int (i : Int), ?_⟩
  unfold Evl.given
  rw [hr, List.map_cons]
theorem eqv_pairs : ∀ {a b : List PyData}, PairsOf a → PairsOf b → PyData.eqv (.tuple a) (.tuple b) = true → a = b
  | [], [], _, _, _ => rfl
  | [], _ :: _, _, _, h => by cases h
  | _ :: _, [], _, _, h => by cases h
  | x :: a, y :: b, ha, hb, h => by
    have h' : (PyData.eqv x y && PyData.eqv (.tuple a) (.tuple b)) = true := h
    rw [Bool.and_eq_true] at h'
    have e : x = y := by
      obtain ⟨m, w, i, n, rfl⟩ := ha x List.mem_cons_self
      obtain ⟨m', w', i', n', rfl⟩ := hb y List.mem_cons_self
      have z : (PyData.eqv (.tuple [.str (S m), .str (S w), .int i]) (.tuple [.str (S m'), .str (S w'), .int i']) && ((n == n') && true)) = true := h'.1
      rw [eqv_key, Bool.and_true, Bool.and_eq_true, decide_eq_true_eq, beq_iff_eq] at z
      obtain ⟨z1, rfl⟩ := z
      injection z1 with z1 z2
      injection z2 with z2 z3
      injection z3 with z3 _
      rw [S_inj (Sum.inr.inj z1), S_inj (Sum.inr.inj z2), Sum.inl.inj z3]
    rw [e, eqv_pairs (fun d hd => ha d (List.mem_cons_of_mem _ hd)) (fun d hd => hb d (List.mem_cons_of_mem _ hd)) h'.2]
theorem srt_pairs {ds : List PyData} (h : PairsOf ds) : PairsOf (srt ds) := fun d hd => h d (srt_mem.mp hd)
theorem srt_ne {ds es : List PyData} (hd : PairsOf ds) (he : PairsOf es) (hn : ¬ ds.Perm es) : PyData.eqv (.tuple (srt ds)) (.tuple (srt es)) = false := by
  rw [Bool.eq_false_iff]
  intro z
  have e := eqv_pairs (srt_pairs hd) (srt_pairs he) z
  have p1 : (srt ds).Perm ds := List.mergeSort_perm _ _
  have p2 : (srt es).Perm es := List.mergeSort_perm _ _
  rw [e] at p1
  exact hn (p1.symm.trans p2)
theorem dq_drop {H : Hp} : ∀ {vs : List V} {ds : List PyData} (k : Nat), DqAll H vs ds → DqAll H (vs.drop k) (ds.drop k)
  | _, _, 0, h => h
  | _, _, k + 1, .nil => by
    rw [List.drop_nil, List.drop_nil]
    exact .nil
  | _, _, k + 1, .cons h1 h2 => dq_drop k h2
theorem dq_app {H : Hp} : ∀ {ds es : List PyData} {vs us : List V}, DqAll H vs ds → DqAll H us es → DqAll H (vs ++ us) (ds ++ es)
  | _, _, _, _, .nil, h => h
  | _, _, _, _, .cons h1 h2, h => .cons h1 (dq_app h2 h)
/-- the row with other floors -/
def moreD : PyData → PyData
  | .tuple [d, .int n] => .tuple [d, .int (1 + n % 3)]
  | d => d
theorem more_key {d : PyData} (h : ∃ m w i n, d = .tuple [.tuple [.str (S m), .str (S w), .int i], .int n]) : keyOf (moreD d) = keyOf d := by
  obtain ⟨m, w, i, n, rfl⟩ := h
  rfl
theorem perm_rot (ds : List PyData) : (ds.drop 1 ++ ds.take 1).Perm ds := by
  have := List.perm_append_comm (l₁ := ds.drop 1) (l₂ := ds.take 1)
  rwa [List.take_append_drop] at this
theorem split_at {ds : List PyData} {i : Nat} (hi : i < ds.length) : ds = ds.take i ++ ds[i] :: ds.drop (i + 1) := by
  rw [← List.drop_eq_getElem_cons hi, List.take_append_drop]
/-- one row with other floors: not the same rows -/
theorem more_ne {ds : List PyData} {i : Nat} (hi : i < ds.length) (hp : PairsOf ds) (hn : (ds.map keyOf).Nodup) (h3 : ∀ d ∈ ds, 1 ≤ nuOf d ∧ nuOf d ≤ 3) : ¬ ds.Perm (ds.take i ++ moreD ds[i] :: ds.drop (i + 1)) := by
  intro p
  have hm : moreD ds[i] ∈ ds := p.mem_iff.mpr (by simp)
  have hd : ds[i] ∈ ds := List.getElem_mem hi
  have hk := more_key (hp _ hd)
  have hne : moreD ds[i] ≠ ds[i] := by
    have hb := h3 _ hd
    obtain ⟨m, w, ii, n, e⟩ := hp _ hd
    rw [e] at hb ⊢
    intro z
    have z' : (1 + n % 3 : Int) = n := by
      have := congrArg nuOf z
      exact this
    have hb' : 1 ≤ n ∧ n ≤ 3 := hb
    omega
  obtain ⟨j, hj, hje⟩ := List.getElem_of_mem hm
  rw [List.Nodup, List.pairwise_iff_getElem] at hn
  have hij : i ≠ j := fun z => hne (by subst z; exact hje.symm)
  rcases Nat.lt_or_gt_of_ne hij with h | h
  · have := hn i j (by rw [List.length_map]; exact hi) (by rw [List.length_map]; exact hj) h
    rw [List.getElem_map, List.getElem_map, hje, hk] at this
    exact this rfl
  · have := hn j i (by rw [List.length_map]; exact hj) (by rw [List.length_map]; exact hi) h
    rw [List.getElem_map, List.getElem_map, hje, hk] at this
    exact this rfl
theorem more_keys {ds : List PyData} {i : Nat} (hi : i < ds.length) (hp : PairsOf ds) : (ds.take i ++ moreD ds[i] :: ds.drop (i + 1)).map keyOf = ds.map keyOf := by
  rw [List.map_append, List.map_cons, more_key (hp _ (List.getElem_mem hi))]
  conv => rhs; rw [split_at hi, List.map_append, List.map_cons]
theorem less_ne {ds : List PyData} {i : Nat} (hi : i < ds.length) : ¬ (ds.take i ++ ds.drop (i + 1)).Perm ds := by
  intro p
  have := p.length_eq
  rw [List.length_append, List.length_take, List.length_drop] at this
  omega
theorem less_sub {ds : List PyData} (i : Nat) : (ds.take i ++ ds.drop (i + 1)).Sublist ds := by
  conv => rhs; rw [← List.take_append_drop i ds]
  exact List.Sublist.append_left (by
    have z := List.drop_sublist 1 (ds.drop i)
    rwa [List.drop_drop] at z) _
theorem nu_bound {H : Hp} {vs : List V} {ds : List PyData} (h : DqAll H vs ds) (hp : ∀ d ∈ ds, isPairD d = true) : ∀ d ∈ ds, 1 ≤ nuOf d ∧ nuOf d ≤ 3 := fun d hd => by
  obtain ⟨j, hj⟩ := List.mem_iff_getElem?.mp hd
  obtain ⟨v, hv, dv⟩ := dq_at h hj
  obtain ⟨_, _, mm, ww, ii, nn, _, _, _, rfl, h1, h3⟩ := pair_at dv (hp d hd)
  exact ⟨h1, h3⟩
end Hm
/-! module HmLaw -/
set_option maxHeartbeats 8000000
/-! law. -/
namespace Hm
open PySem PySem.Spec PyProof.Rows L2 Evl Hc Hs Hy PySem.W
abbrev nLaw : List Str := ["_law_script", "_law_state", "_law_words", "_law_rows", "_law_twice", "_law_made_here", "_law_bad", "_law_turned", "_law_at", "_law_other", "_law_less", "_law_thing", "_law_turn", "_law_pair_here"]
theorem scLaw : FnScope nLaw ["_law_script"] (defScope sLaw) := ⟨rfl, rfl, rfl, by decide +kernel, rfl, by decide +kernel, by decide +kernel⟩
def spLaw (K : PySem.W.Frag) : Sp := fun vs H Q _ => ∃ (a : Addr) (ns : List Int), vs = [.ref a] ∧ SqL K H a (ns.map V.int) ∧ ns.length ≤ 63 ∧ ∀ H', Q (.bl true) H'
/-- what the law keeps while it draws rows -/
structure LInv (st g sm wa R : Addr) (ws : List Nm) (vals : List V) (ds : List PyData) (H : Hp) : Prop where
  dr : DrawSt H st g sm
  hw : H wa = some (.lst (ws.map sv))
  hR : H R = some (.lst vals)
  hd : DqSAll (fun b => Dr st g b ∨ b = R) H vals ds
  dep : ∀ d ∈ ds, d.depth ≤ 4
theorem LInv.ext {st g sm wa R : Addr} {ws : List Nm} {vals : List V} {ds : List PyData} {H H' : Hp} (h : LInv st g sm wa R ws vals ds H) (e : Hc.Ext (Dr st g) H H') (d : DrawSt H' st g sm) (nw : ¬ Dr st g wa) (nR : ¬ Dr st g R) : LInv st g sm wa R ws vals ds H' :=
  ⟨d, e _ _ h.hw nw, e _ _ h.hR nR, h.hd.ext e fun _ z => .inl z, h.dep⟩
theorem LInv.same {st g sm wa R : Addr} {ws : List Nm} {vals : List V} {ds : List PyData} {H H' : Hp} (h : LInv st g sm wa R ws vals ds H) (e : Ex H H') : LInv st g sm wa R ws vals ds H' :=
  ⟨h.dr.same e, e _ _ h.hw, e _ _ h.hR, h.hd.same e, h.dep⟩
theorem LInv.add {st g sm wa R : Addr} {ws : List Nm} {vals : List V} {ds : List PyData} {H : Hp} {v : V} {d : PyData} (h : LInv st g sm wa R ws vals ds H) (hv : DqS (fun b => Dr st g b ∨ b = R) H v d) (hd : d.depth ≤ 4) (wR : wa ≠ R) (oR : R ≠ st ∧ R ≠ g ∧ R ≠ sm) : LInv st g sm wa R ws (vals ++ [v]) (ds ++ [d]) (upd H R (.lst (vals ++ [v]))) := by
  have e : Hc.Ext (fun b => b = R) H (upd H R (.lst (vals ++ [v]))) := Ext.put rfl
  refine ⟨h.dr.put oR, (upd_ne wR).trans h.hw, upd_same, (h.hd.ext e fun _ z => .inr z).app (.cons (hv.ext e fun _ z => .inr z) .nil), fun x hx => ?_⟩
  rcases List.mem_append.mp hx with hx | hx
  · exact h.dep x hx
  · rw [List.mem_singleton] at hx
    rw [hx]
    exact hd
theorem cutV_to (xs : List V) (k : Nat) : cutV xs none (some (k : Int)) = xs.take k := by
  unfold cutV
  rw [HT.sIx_nat, HT.sIx_none, List.drop_zero, Nat.sub_zero, ← List.take_eq_take_min]
theorem cutV_fr (xs : List V) (k : Nat) : cutV xs (some (k : Int)) none = xs.drop k := by
  unfold cutV
  rw [HT.sIx_nat, HT.sIx_none]
  by_cases h : k ≤ xs.length
  · rw [Nat.min_eq_left h, List.take_of_length_le (by rw [List.length_drop]; omega)]
  · rw [Nat.min_eq_right (by omega), List.drop_of_length_le (l := xs) (i := k) (by omega), Nat.sub_self, List.take_zero]
theorem el_to {K : PySem.W.Frag} {σ : L2.St} {H : Hp} {te ti : TE} {p : Addr} {xs : List V} {k : Nat} (h : Ev te σ H (.ref p)) (hi : Ev ti σ H (.int (k : Int))) (hp : SqL K H p xs) : EvL (tSl (rSlL K) te tNoPart (tPart ti)) σ H (xs.take k) := by
  have z := el_sl (K := K) (lo := none) (hi := some (k : Int)) h eo_none (eo_some hi) hp
  rw [cutV_to] at z
  exact z
theorem el_fr {K : PySem.W.Frag} {σ : L2.St} {H : Hp} {te ti : TE} {p : Addr} {xs : List V} {k : Nat} (h : Ev te σ H (.ref p)) (hi : Ev ti σ H (.int (k : Int))) (hp : SqL K H p xs) : EvL (tSl (rSlL K) te (tPart ti) tNoPart) σ H (xs.drop k) := by
  have z := el_sl (K := K) (lo := some (k : Int)) (hi := none) h (eo_some hi) eo_none hp
  rw [cutV_fr] at z
  exact z
theorem lst1 {te : TE} {σ : L2.St} {H : Hp} {Q : VK} (h : te σ H fun x H1 => 1 ≤ sizeLine ∧ ∀ p, H1 p = none → Q (.ref p) (upd H1 p (.lst [x]))) : tLst (tCons te tNil) σ H Q := h
theorem iTup5 {K : PySem.W.Frag} {t3 t4 : TE} {v : V} {σ : L2.St} {H : Hp} {R : It → Hp → Prop} (h : t3 σ H fun x H1 => t4 σ H1 fun y H2 => 5 ≤ sizeLine ∧ ∀ p, H2 p = none → ∃ a, V.ref p = .ref a ∧ (∃ xs, SqT K (upd H2 p (.tup [.non, .int 0, x, y, v])) a xs) ∧ R (Itt K a) (upd H2 p (.tup [.non, .int 0, x, y, v]))) : iTup K (tTup (tCons (tC .non) (tCons (tC (.int 0)) (tCons t3 (tCons t4 (tCons (tC v) tNil)))))) σ H R := h
theorem sp_isas {C x r wa : Addr} {H H0 : Hp} {vals ues : List V} {ds es : List PyData} {ws : List Nm} (hm : MendOk C x es H) (hr : H r = some (.lst vals)) (hw : H wa = some (.lst (ws.map sv))) (hd : DqAll H vals ds) (he : DqAll H0 ues es) (td : Told ds none) (te : Told es none) (hp : es.Perm ds) (dep : ∀ d ∈ ds, d.depth ≤ 4) (l3 : ds.length ≤ 3) (hs : ∀ x ∈ ws, Small x) (wl : ws.length ≤ 100) :
    SpV (spLIsAs C) ([.ref x, .ref r, .ref wa] ++ []) H (.bl true) := fun H1 e Q q E => ⟨x, r, wa, vals, ues, ds, es, ws, H0, rfl, hm.ex e, e _ _ hr, e _ _ hw, hd.ex e, he, td, te, hp, dep, l3, fun x hx => ⟨(hs x hx).le, fun c hc => by have := sm_lt ((hs x hx).all c hc); omega⟩, wl, fun H' e' => q H' e'⟩
theorem ev_non {σ : L2.St} {H : Hp} {te : TE} {v : V} (h : Ev te σ H v) : Ev (tOp (fun x y H Q => y = .non ∧ Q (.bl (decide (x = .non))) H) te (tC .non)) σ H (.bl (decide (v = .non))) := ev_op h ev_c fun H2 e Q q => ⟨rfl, q H2 (Ex.refl H2)⟩
theorem ev_nno {σ : L2.St} {H : Hp} {te : TE} {v : V} (h : Ev te σ H v) : Ev (tOp (fun x y H Q => y = .non ∧ Q (.bl (!decide (x = .non))) H) te (tC .non)) σ H (.bl (!decide (v = .non))) := ev_op h ev_c fun H2 e Q q => ⟨rfl, q H2 (Ex.refl H2)⟩
section
variable {P : Program} {w : World} {K : PySem.W.Frag} {mg : Str → Option Value} {base : Heap} {C : Addr} {σ : L2.St} {H : Hp} {ta tb : TE} {x y : Addr} {ds es : List PyData}
theorem not_dr {st g sm b : Addr} {o : HO} (d : DrawSt H st g sm) (h : H b = some o) (n : ∀ xs, o ≠ .lst xs) : ¬ Dr st g b := by
  obtain ⟨_, _, _, _, a1, a2, _⟩ := d
  rintro (rfl | rfl)
  · rw [a1] at h
    exact n _ (Option.some.inj h).symm
  · rw [a2] at h
    exact n _ (Option.some.inj h).symm
theorem dq_extD {H' : Hp} {st g sm : Addr} (e : Hc.Ext (Dr st g) H H') (d : DrawSt H st g sm) : ∀ {vs : List V} {ds : List PyData}, DqAll H vs ds → PairsOf ds → DqAll H' vs ds
  | _, _, .nil, _ => .nil
  | _, _, .cons h hs, hp => by
    refine .cons ?_ (dq_extD e d hs fun x hx => hp x (List.mem_cons_of_mem _ hx))
    obtain ⟨m, w, i, n, rfl⟩ := hp _ List.mem_cons_self
    cases h with
    | tup h1 h2 =>
      cases h2 with
      | cons h3 h4 =>
        cases h3 with
        | tup h5 h6 =>
          cases h4 with
          | cons h7 h8 =>
            cases h7
            cases h8
            cases h6 with
            | cons a1 r =>
              cases r with
              | cons a2 r =>
                cases r with
                | cons a3 r =>
                  cases a1 with
                  | str L l1 l2 =>
                    cases a2 with
                    | str L' l1' l2' =>
                      cases a3
                      cases r
                      exact .tup (e _ _ h1 (not_dr d h1 fun xs z => nomatch z)) (.cons (.tup (e _ _ h5 (not_dr d h5 fun xs z => nomatch z)) (.cons (.str _ l1 l2) (.cons (.str _ l1' l2') (.cons (.int i) .nil)))) (.cons (.int n) .nil))
theorem MendOk.extD {H' : Hp} {st g sm : Addr} (h : MendOk C x ds H) (e : Hc.Ext (Dr st g) H H') (d : DrawSt H st g sm) (hp : PairsOf ds) : MendOk C x ds H' := by
  obtain ⟨dx, tp, F, vs, h1, h2, h3, h4⟩ := h
  exact ⟨dx, tp, F, vs, e _ _ h1 (not_dr d h1 fun xs z => nomatch z), e _ _ h2 (not_dr d h2 fun xs z => nomatch z), e _ _ h3 (not_dr d h3 fun xs z => nomatch z), dq_extD e d h4 (srt_pairs hp)⟩
theorem srt_nil : srt [] = [] := List.length_eq_zero_iff.mp (srt_len [])
theorem more_ok {d : PyData} {n : Int} {dr : PyData} (h : d = .tuple [dr, .int n]) (hp : isPairD d = true) : isPairD (moreD d) = true := by
  subst h
  have h' : (isDoorD dr && (true && (decide (1 ≤ n) && decide (n ≤ 3)))) = true := hp
  rw [Bool.and_eq_true] at h'
  show (isDoorD dr && (true && (decide (1 ≤ 1 + n % 3) && decide (1 + n % 3 ≤ 3)))) = true
  rw [h'.1, decide_eq_true (p := 1 ≤ 1 + n % 3) (by omega), decide_eq_true (p := 1 + n % 3 ≤ 3) (by omega)]
  rfl
theorem mend_ins (h : MendOk C x ds H) : ∃ dx fs, H x = some (.ins C dx fs) := by
  obtain ⟨dx, tp, F, vs, h1, _⟩ := h
  exact ⟨dx, _, h1⟩
theorem ev_eqM (h1 : Ev ta σ H (.ref x)) (h2 : Ev tb σ H (.ref y)) (hx : MendOk C x ds H) (hy : MendOk C y es H) (nf : PySem.W.notFirst K C (.ref C) = true) (hd : ∀ d ∈ ds, d.depth ≤ 4) (he : ∀ d ∈ es, d.depth ≤ 4) : Ev (tOp (rEqO K C (spMEq C)) ta tb) σ H (.bl (PyData.eqv (.tuple (srt ds)) (.tuple (srt es)))) := ev_op h1 h2 fun H1 e Q q => by
  obtain ⟨dx, fs, k1⟩ := mend_ins (hx.ex e)
  obtain ⟨dy, fy, k2⟩ := mend_ins (hy.ex e)
  exact ⟨x, dx, fs, _, rfl, k1, .ins k2, nf, x, ds, _, rfl, hx.ex e, hd, .inl ⟨y, es, rfl, hy.ex e, he, fun H2 e2 => ⟨_, rfl, q H2 e2⟩⟩⟩
theorem ev_neM (h1 : Ev ta σ H (.ref x)) (h2 : Ev tb σ H (.ref y)) (hx : MendOk C x ds H) (hy : MendOk C y es H) (nf : PySem.W.notFirst K C (.ref C) = true) (hd : ∀ d ∈ ds, d.depth ≤ 4) (he : ∀ d ∈ es, d.depth ≤ 4) : Ev (tOp (rNeO K C (spMEq C)) ta tb) σ H (.bl (!PyData.eqv (.tuple (srt ds)) (.tuple (srt es)))) := ev_op h1 h2 fun H1 e Q q => by
  obtain ⟨dx, fs, k1⟩ := mend_ins (hx.ex e)
  obtain ⟨dy, fy, k2⟩ := mend_ins (hy.ex e)
  exact ⟨x, dx, fs, _, rfl, k1, .ins k2, nf, x, ds, _, rfl, hx.ex e, hd, .inl ⟨y, es, rfl, hy.ex e, he, fun H2 e2 => ⟨_, rfl, q H2 e2⟩⟩⟩
theorem kn_dq {v : V} {d : PyData} (h : Dq H v d) (n : ∀ b, d ≠ .bool b) : Kn K H v (.type (tyD d)) := by
  cases h with
  | non => exact .non
  | bl b => exact absurd rfl (n b)
  | int i => exact .int i
  | str L h g => exact .str _
  | lst h1 h2 => exact .lst h1
  | tup h1 h2 => exact .tup (st_of h1)
theorem ev_eqD {v : V} {d : PyData} (h1 : Ev ta σ H (.ref x)) (h2 : Ev tb σ H v) (hx : MendOk C x ds H) (hv : Dq H v d) (ht : tyD d ∈ ["NoneType", "int", "str", "tuple", "list"]) (nb : ∀ b, d ≠ .bool b) (nf : PySem.W.notFirst K C (.type (tyD d)) = true) (hd : ∀ d ∈ ds, d.depth ≤ 4) : Ev (tOp (rEqO K C (spMEq C)) ta tb) σ H (.bl false) := ev_op h1 h2 fun H1 e Q q => by
  obtain ⟨dx, fs, k1⟩ := mend_ins (hx.ex e)
  exact ⟨x, dx, fs, _, rfl, k1, kn_dq (hv.ex e) nb, nf, x, ds, _, rfl, hx.ex e, hd, .inr ⟨d, hv.ex e, ht, fun H2 e2 => ⟨_, rfl, q H2 e2⟩⟩⟩
theorem ev_neD {v : V} {d : PyData} (h1 : Ev ta σ H (.ref x)) (h2 : Ev tb σ H v) (hx : MendOk C x ds H) (hv : Dq H v d) (ht : tyD d ∈ ["NoneType", "int", "str", "tuple", "list"]) (nb : ∀ b, d ≠ .bool b) (nf : PySem.W.notFirst K C (.type (tyD d)) = true) (hd : ∀ d ∈ ds, d.depth ≤ 4) : Ev (tOp (rNeO K C (spMEq C)) ta tb) σ H (.bl true) := ev_op h1 h2 fun H1 e Q q => by
  obtain ⟨dx, fs, k1⟩ := mend_ins (hx.ex e)
  exact ⟨x, dx, fs, _, rfl, k1, kn_dq (hv.ex e) nb, nf, x, ds, _, rfl, hx.ex e, hd, .inr ⟨d, hv.ex e, ht, fun H2 e2 => ⟨_, rfl, q H2 e2⟩⟩⟩
end
structure LwP (mg : Str → Option Value) (C : Addr) : Prop extends AsP mg C where
  lst : mg "list" = none
structure NfP (K : PySem.W.Frag) (C : Addr) : Prop where
  own : PySem.W.notFirst K C (.ref C) = true
  dat : ∀ n ∈ ["NoneType", "int", "str", "tuple", "list"], PySem.W.notFirst K C (.type n) = true
section
variable {P : Program} {w : World} {K : PySem.W.Frag} {mg : Str → Option Value} {base : Heap} {C f p0 g0 : Addr} {fd : FuncData}
theorem ok_law {k : Nat} (F : Fun K "law" "law" sLaw f fd) (T : LwP mg C) (M : MdD P w K mg base C) (NF : NfP K C) (CR : ClX.CRead K C (.type "type")) (CS : CStat K C (.type "type") "none" p0 g0) (FN : FnR P w K mg base CX0 4 g0 (spMNone C)) (hk : 6 ≤ k)
    (rS : Hs.Rd P w K mg base "_law_start" k ["_law_script"] (spStart K)) (rD : Hs.Rd P w K mg base "_law_draw" k ["_law_state", "_law_many"] spDraw) (rW : Hs.Rd P w K mg base "_law_word" k ["_law_state", "_law_taken"] spLWord) (rP : Hs.Rd P w K mg base "_law_pair" k ["_law_state", "_law_words"] spLPair)
    (rM : Hs.Rd P w K mg base "_law_made" k ["_law_rows"] (spLMade C)) (rI : Hs.Rd P w K mg base "_law_is_as" k ["_law_made_here", "_law_rows", "_law_words"] (spLIsAs C)) (rN : Hs.Rd P w K mg base "_law_number" k ["_law_thing", "_law_due"] spLNum) : FnOk P w K mg base CX0 (k + 1) f fd ["_law_script"] (spLaw K) := by
  refine F.ok scLaw (fun vs H Q E h => ?_) (fun cdv A outer s H vs Q E hr h => ?_)
  · obtain ⟨a, ns, rfl, _⟩ := h
    rfl
  · obtain ⟨a, ns, rfl, ha, hlen, q⟩ := h
    have hl := Nat.le_refl k
    refine ⟨_, pss_cons (ps_set (i := 1) scLaw.nd rfl (.inr rfl) (pe_rd rS hr hl (by rfl) (pa_cons (pv 0) pa_nil))) (pss_cons (ps_set (i := 2) scLaw.nd rfl (.inr rfl) (pe_lc (own := [("_law_turn", 12)]) (g := gName 12) (tt := tYes) rfl scLaw.nd (pi_range1 (by rfl) T.rng (pa_cons (pe_int) pa_nil)) (blkOk_by (N := nLaw) (sc := defScope sLaw) (by decide +kernel)) (fun _ _ _ _ _ => pg_name (i := 12) scLaw.nd rfl (.inl rfl)) (fun _ _ _ _ _ => pts_nil) (fun _ _ _ _ _ => pe_rd rW hr hl (by rfl) (pa_cons (pv 1) (pa_cons (pe_lst pa_nil) pa_nil))))) (pss_cons (ps_set (i := 3) scLaw.nd rfl (.inr rfl) (pe_lc (own := [("_law_turn", 12)]) (g := gName 12) (tt := tYes) rfl scLaw.nd (pi_range1 (by rfl) T.rng (pa_cons (pe_rd rD hr hl (by rfl) (pa_cons (pv 1) (pa_cons (pe_int) pa_nil))) pa_nil)) (blkOk_by (N := nLaw) (sc := defScope sLaw) (by decide +kernel)) (fun _ _ _ _ _ => pg_name (i := 12) scLaw.nd rfl (.inl rfl)) (fun _ _ _ _ _ => pts_nil) (fun _ _ _ _ _ => pe_rd rP hr hl (by rfl) (pa_cons (pv 1) (pa_cons (pv 2) pa_nil))))) (pss_cons (ps_setLc (i := 4) (own := [("_law_at", 8)]) (g := gName 8) rfl scLaw.nd rfl rfl (sw_true rfl rfl rfl rfl) (pi_range1 (by rfl) T.rng (pa_cons (pe_callB (show CallR _ (.builtin "len") (rLenS K) from call_len_seq) (by rfl) T.len PySem.boot_len (pa_cons (pv 3) pa_nil)) pa_nil)) (blkOk_by (N := nLaw) (sc := defScope sLaw) (by decide +kernel)) (fun _ _ _ _ _ => pg_name (i := 8) scLaw.nd rfl (.inl rfl)) (fun _ _ _ _ _ => pts_one (pt_cmpR (show OpR _ (compareOp .In) (rInD K) from op_inD (units65 hr)) (pe_ix (show IxR _ (rIxT K) from ix_tup) (pe_ix (show IxR _ (rIxL K) from ix_list) (pv 3) (pv 8) (fun _ _ => rfl)) (pe_int) (fun _ _ => rfl)) (pe_lc (own := [("_law_pair_here", 13)]) (g := gName 13) (tt := tYes) rfl scLaw.nd (show PI _ _ _ (iList K (tSl (rSlL K) (tVar 3) tNoPart (tPart (tVar 8)))) from pi_list (pe_slice (show SlR _ (rSlL K) from sl_list) (pv 3) (po_none) (po_some (pv 8)))) (blkOk_by (N := nLaw) (sc := { kind := .function, names := [(".0", .local), ("_law_at", .local), ("_law_rows", .cell)], isGenerator := false, isCoroutine := false }) (by decide +kernel)) (fun _ _ _ _ _ => pg_name (i := 13) scLaw.nd rfl (.inl rfl)) (fun _ _ _ _ _ => pts_nil) (fun _ _ _ _ _ => pe_ix (show IxR _ (rIxT K) from ix_tup) (pv 13) (pe_int) (fun _ _ => rfl))) (by rfl))) (fun _ _ _ _ _ => pv 8)) (pss_cons (ps_asg (pe_rd rM hr hl (by rfl) (pa_cons (pe_callTy (show CallR _ (.type "list") (rListS K) from call_list_of) (by rfl) T.lst boot_list' (pa_cons (pv 3) pa_nil)) pa_nil)) (pg_tup (by rfl) (pgs_cons (pg_name (i := 5) scLaw.nd rfl (.inl rfl)) (pgs_cons (pg_name (i := 6) scLaw.nd rfl (.inl rfl)) pgs_nil)))) (pss_cons (ps_if (pt_truth (pv 4) (by intro _; rfl)) (pss_one (ps_ret (pe_and (pe_cmpR op_isN (pv 5) pe_non (nomark _)) (pe_one (pe_rd rN hr hl (by rfl) (pa_cons (pv 6) (pa_cons (pe_ix ix_list (pv 4) (pe_int) (fun _ _ => rfl)) pa_nil))))))) pss_nil) (pss_cons (ps_if (PW.pt (pw_or (pt_cmpR op_isN (pv 5) pe_non (nomark _)) (pw_or (pt_cmpR op_notN (pv 6) pe_non (nomark _)) (pw_or1 (pt_not (pt_val (pe_rd rI hr hl (by rfl) (pa_cons (pv 5) (pa_cons (pv 3) (pa_cons (pv 2) pa_nil)))))))))) (pss_one (ps_ret pe_bl)) pss_nil) (pss_cons (ps_asg (pe_rd rM hr hl (by rfl) (pa_cons (pe_op op_cat (pe_slice sl_list (pv 3) (po_some pe_int) (po_none)) (pe_slice sl_list (pv 3) (po_none) (po_some pe_int))) pa_nil)) (pg_tup (by rfl) (pgs_cons (pg_name (i := 7) scLaw.nd rfl (.inl rfl)) (pgs_cons (pg_name (i := 6) scLaw.nd rfl (.inl rfl)) pgs_nil)))) (pss_cons (ps_if (PW.pt (pw_or (pt_cmpR op_isN (pv 7) pe_non (nomark _)) (pw_or (pt_not (pt_cmpR (op_eqO M.dEq (hr.mono (by omega))) (pv 7) (pv 5) (nomark _))) (pw_or (pt_cmpR (op_neO M.dEq (hr.mono (by omega)) M.cl.hm M.ne) (pv 7) (pv 5) (nomark _)) (pw_or1 (pt_not (pt_val (pe_rd rI hr hl (by rfl) (pa_cons (pv 7) (pa_cons (pv 3) (pa_cons (pv 2) pa_nil))))))))))) (pss_one (ps_ret pe_bl)) pss_nil) (Evl.pss_cut (ps_if (pt_truth (pv 3) (by intro _; rfl)) (pss_cons (ps_set (i := 8) scLaw.nd rfl (.inl rfl) (pe_rd rD hr hl (by rfl) (pa_cons (pv 1) (pa_cons (pe_callB call_len_seq (by rfl) T.len PySem.boot_len (pa_cons (pv 3) pa_nil)) pa_nil)))) (pss_cons (ps_asg (pe_rd rM hr hl (by rfl) (pa_cons (pe_op op_cat (pe_op op_cat (pe_slice sl_list (pv 3) (po_none) (po_some (pv 8))) (pe_lst (pa_cons (pe_tup (pa_cons (pe_ix ix_tup (pe_ix ix_list (pv 3) (pv 8) (fun _ _ => rfl)) (pe_int) (fun _ _ => rfl)) (pa_cons (pe_op op_add pe_int (pe_op op_mod (pe_ix ix_tup (pe_ix ix_list (pv 3) (pv 8) (fun _ _ => rfl)) (pe_int) (fun _ _ => rfl)) pe_int)) pa_nil))) pa_nil))) (pe_slice sl_list (pv 3) (po_some (pe_op op_add (pv 8) pe_int)) (po_none))) pa_nil)) (pg_tup (by rfl) (pgs_cons (pg_name (i := 9) scLaw.nd rfl (.inl rfl)) (pgs_cons (pg_name (i := 6) scLaw.nd rfl (.inl rfl)) pgs_nil)))) (pss_cons (ps_asg (pe_rd rM hr hl (by rfl) (pa_cons (pe_op op_cat (pe_slice sl_list (pv 3) (po_none) (po_some (pv 8))) (pe_slice sl_list (pv 3) (po_some (pe_op op_add (pv 8) pe_int)) (po_none))) pa_nil)) (pg_tup (by rfl) (pgs_cons (pg_name (i := 10) scLaw.nd rfl (.inl rfl)) (pgs_cons (pg_name (i := 6) scLaw.nd rfl (.inl rfl)) pgs_nil)))) (pss_one (ps_if (PW.pt (pw_or (pt_cmpR op_isN (pv 9) pe_non (nomark _)) (pw_or (pt_cmpR op_isN (pv 10) pe_non (nomark _)) (pw_or (pt_cmpR (op_eqO M.dEq (hr.mono (by omega))) (pv 5) (pv 9) (nomark _)) (pw_or (pt_not (pt_cmpR (op_neO M.dEq (hr.mono (by omega)) M.cl.hm M.ne) (pv 5) (pv 9) (nomark _))) (pw_or1 (pt_cmpR (op_eqO M.dEq (hr.mono (by omega))) (pv 10) (pv 5) (nomark _)))))))) (pss_one (ps_ret pe_bl)) pss_nil))))) pss_nil) (pss_cons (ps_for PassesOwn.never rfl (pi_tup (pe_tup (pa_cons (pe_non) (pa_cons (pe_int) (pa_cons (pe_fld (pv 5) (by rfl)) (pa_cons (pe_callTy (show CallR _ (.type "list") (rListS K) from call_list_of) (by rfl) T.lst boot_list' (pa_cons (pe_fld (pv 5) (by rfl)) pa_nil)) (pa_cons (pe_str) pa_nil))))))) (pg_name (i := 11) scLaw.nd rfl (.inl rfl)) (pss_one (ps_if (PW.pt (pw_or (pt_cmpR (op_eqO M.dEq (hr.mono (by omega))) (pv 5) (pv 11) (nomark _)) (pw_or1 (pt_not (pt_cmpR (op_neO M.dEq (hr.mono (by omega)) M.cl.hm M.ne) (pv 5) (pv 11) (nomark _)))))) (pss_one (ps_ret pe_bl)) pss_nil))) (pss_one (ps_ret (pe_and (pe_rd rI hr hl (by rfl) (pa_cons (pv 5) (pa_cons (pv 3) (pa_cons (pv 2) pa_nil)))) (pe_and (pe_cmpR op_eq (pe_cmpR (op_eqO M.dEq (hr.mono (by omega))) (pv 5) (pe_smeth0 (pe_glob (v := .ref C) (by rfl) T.gM rfl) CR CS FN (hr.mono (by omega)) pass0) (nomark _)) (pe_cmpR (op_eqD hr.units) (pv 3) (pe_lst pa_nil) (nomark _)) (nomark _)) (pe_one (pe_cmpR op_eq (pe_callB (call_lenO M.dLen (hr.mono (by omega))) (by rfl) T.len PySem.boot_len (pa_cons (pe_smeth0 (pe_glob (v := .ref C) (by rfl) T.gM rfl) CR CS FN (hr.mono (by omega)) pass0) pa_nil)) pe_int (nomark _))))))))))))))))), ?_⟩
    refine q_asgX ?_
    refine ⟨_, rfl, a, ns, rfl, ha, hlen, fun H1 st g sm e1 nst ng nsm d1 => ?_⟩
    -- two words
    refine q_asgX ?_
    refine ⟨2, rfl, by decide, by decide, fun wa nwa => ?_⟩
    have ow := d1.off nwa
    refine lc_range (lo := 0) (n := 2) (fun i H' => ∃ ws : List Nm, ws.length = i ∧ (∀ x ∈ ws, Small x) ∧ (∀ x ∈ ws, x ∉ resv) ∧ H' wa = some (.lst (ws.map sv)) ∧ DrawSt H' st g sm) ⟨[], rfl, (fun x hx => by cases hx), (fun x hx => by cases hx), upd_same, d1.put ow⟩ (fun i H3 hi z => ?_) (fun H3 z => ?_)
    · obtain ⟨ws, wl, hs, hn, hD, d3⟩ := z
      refine ⟨Hs.wipe1 _, ?_⟩
      show (tCall spLWord [] E0 (tCons (tVar 1) (tCons (tLst tNil) tNil))) _ H3 _
      refine ⟨_, rfl, Nat.zero_le _, fun tl ntl => ⟨st, g, sm, tl, [], rfl, d3.same (Ex.new ntl), upd_same, dr_off (d3.off ntl), Nat.zero_le _, fun w' H4 hw' _ hn' e4 d4 => ?_⟩⟩
      have hD4 := e4 _ _ (Ex.new ntl _ _ hD) (dr_off ow)
      refine ⟨_, hD4, sz_lt (by rw [List.length_map]; omega), ws ++ [w'], by rw [List.length_append, wl]; rfl, ?_, ?_, by rw [upd_same, List.map_append]; rfl, d4.put ow⟩
      · intro x hx
        rcases List.mem_append.mp hx with hx | hx
        · exact hs x hx
        · rw [List.mem_singleton] at hx
          exact hx ▸ hw'
      · intro x hx
        rcases List.mem_append.mp hx with hx | hx
        · exact hn x hx
        · rw [List.mem_singleton] at hx
          exact hx ▸ hn'
    obtain ⟨ws, wl, hs, hn, hwa, d3⟩ := z
    have nw := dr_off ow
    have w0 : 0 < ws.length := by omega
    have wle : ws.length ≤ 100 := by omega
    show tSeq _ _ _ [some (.ref a), some (.ref st), some (.ref wa), none, none, none, none, none, none, none, none, none, none, none] H3
    -- rows
    refine q_asgX ?_
    refine ⟨_, rfl, st, g, sm, 4, rfl, d3, by decide, by decide, fun r H4 r0 r4 e4 d4 => ⟨r, rfl, by omega, by omega, fun R nR => ?_⟩⟩
    have oR := d4.off nR
    have nRd := dr_off oR
    have hwa4 := e4 _ _ hwa nw
    have wR : wa ≠ R := ne_of_none hwa4 nR
    refine lc_range (lo := 0) (n := r.toNat) (fun i H' => ∃ vals ds, LInv st g sm wa R ws vals ds H' ∧ ds.length = i ∧ ∀ d ∈ ds, isPairD d = true) ⟨[], [], ⟨d4.put oR, (upd_ne wR).trans hwa4, upd_same, .nil, fun x hx => by cases hx⟩, rfl, fun d hd => by cases hd⟩ (fun i H5 hi z => ?_) (fun H5 z => ?_)
    · obtain ⟨vals, ds, I, dl, hpd⟩ := z
      refine ⟨Hs.wipe1 _, ?_⟩
      show (tCall spLPair [] E0 (tCons (tVar 1) (tCons (tVar 2) tNil))) _ H5 _
      refine ⟨_, rfl, _, rfl, st, g, sm, wa, ws, rfl, I.dr, I.hw, nw, w0, wle, hs, hn, fun v d H6 hv hvp hdp e6 d6 => ?_⟩
      have I6 := I.ext e6 d6 nw nRd
      have sub : ∀ b, (Dr st g b ∨ b = R) → H5 b ≠ none := fun b hb => hb.elim (dr_sub I.dr b) fun e => by
        rw [e, I.hR]
        exact fun z => nomatch z
      refine ⟨vals, I6.hR, sz_lt (by rw [I6.hd.len]; omega), vals ++ [v], ds ++ [d], I6.add (hv.sub sub) hdp wR oR, by rw [List.length_append, dl]; rfl, fun x hx => ?_⟩
      rcases List.mem_append.mp hx with hx | hx
      · exact hpd x hx
      · rw [List.mem_singleton] at hx
        exact hx ▸ hvp
    obtain ⟨vals, ds, I, dl, hpd⟩ := z
    have l3 : ds.length ≤ 3 := by omega
    have hvl : vals.length = ds.length := I.hd.len
    have dq5 := I.hd.dq
    have dep8 : ∀ d ∈ ds, d.depth ≤ 8 := fun d hd => Nat.le_trans (I.dep d hd) (by decide)
    obtain ⟨t, ht⟩ := told_ex hpd
    show tSeq _ _ _ [some (.ref a), some (.ref st), some (.ref wa), some (.ref R), none, none, none, none, none, none, none, none, none, none] H5
    -- twice
    refine q_asgL (xs := Evl.given ds.length (dupB ds) fun i => V.int (i : Int)) ?_ fun tw H6 ntw e6 htw => ?_
    · have z := el_lcR1 (σ := [some (.ref a), some (.ref st), some (.ref wa), some (.ref R), none, none, none, none, none, none, none, none, none, none]) (H := H5) (ta := tCons (tCB (rLenS K) (tCons (tVar 3) tNil)) tNil) (t := tTest (tOp (rInD K) (tOp (rIxT K) (tOp (rIxL K) (tVar 3) (tVar 8)) (tC (.int 0))) (tLc (iList K (tSl (rSlL K) (tVar 3) tNoPart (tPart (tVar 8)))) (gName 13) tYes (tOp (rIxT K) (tVar 13) (tC (.int 0))) [13]))) (te := tVar 8) (j := 8) (vs := [8]) (n := (ds.length : Int)) (dupB ds) (fun i => V.int (i : Int)) (ea_cons (Evl.ev_is (ev_len (xs := vals) (ev_var rfl) (sq_of I.hR)) (by rw [hvl])) ea_nil) (by omega) Hs.wipe1 (fun i G1 f1 hi => by
        have hi' : i < ds.length := by omega
        have hR1 := f1 _ _ I.hR
        have dqG := dq5.ex f1
        obtain ⟨v, hv, dv⟩ := dq_at dqG (List.getElem?_eq_getElem hi')
        obtain ⟨p, pq, m, wy, ii, nn, rfl, hp1, hp2, hde, _, _⟩ := pair_at dv (hpd _ (List.getElem_mem hi'))
        have e0 : doorD (ds.getD i .none) = .tuple [.str (S m), .str (S wy), .int ii] := by
          rw [List.getD_eq_getElem?_getD, List.getElem?_eq_getElem hi']
          show doorD ds[i] = _
          rw [hde]
          rfl
        rw [hde] at dv
        have din := Dq.tup hp2 (pair_inner dv hp1 hp2)
        have dqt := dq_take i dqG
        have hpt : ∀ d ∈ ds.take i, isPairD d = true := fun d hd => hpd d (List.mem_of_mem_take hd)
        refine et_test (ev_opL (x := .ref pq) (xs := (vals.take i).map (fstV G1)) (ev_op (ev_op (ev_var rfl) (ev_var rfl) (rv_ixL (sq_of hR1) (atI_nat hv))) ev_c (rv_ixT (st_of hp1) (atI_nat (j := 0) rfl))) ?_ fun l G2 hl8 e8 => fun G3 e9 Q q => ⟨_, (ds.take i).map doorD, (din.ex (e8.trans e9)).dp, .lst (sq_of (e9 _ _ hl8)) (doors_dp (e8.trans e9) dqt hpt), din.shaped (by simp [PyData.depth, PyData.depthAll]), doors_shaped dqt hpt (by rw [List.length_take]; omega), by
          have z : dupB ds i = ((ds.take i).map doorD).any fun z => PyData.eqv z (.tuple [.str (S m), .str (S wy), .int ii]) := by
            unfold dupB
            rw [e0]
          rw [← z]
          exact q G3 (Ex.refl G3)⟩)
        have z := el_mapN (K := K) (H := G1) (σ := [some (.ref a), some (.ref st), some (.ref wa), some (.ref R), none, none, none, none, some (.int (i : Int)), none, none, none, none, none]) (tl := tSl (rSlL K) (tVar 3) tNoPart (tPart (tVar 8))) (te := tOp (rIxT K) (tVar 13) (tC (.int 0))) (t := tYes) (j := 13) (vs := [13]) (vals.take i) (fun x => x) (fun _ => true) (fstV G1) (by rw [List.map_id']; exact el_to (ev_var rfl) (ev_var rfl) (sq_of hR1)) (by rw [List.length_take]; omega) Hs.wipe1 (fun _ _ _ _ => et_yes) (fun x G2 e8 hx _ => by
          obtain ⟨j, hj⟩ := List.mem_iff_getElem?.mp hx
          obtain ⟨dj, hdj, dqj⟩ := dq_get dqt hj
          obtain ⟨p', q', m', w', i', n', rfl, h1, h2, _, _, _⟩ := pair_at dqj (hpt dj (List.mem_of_getElem? hdj))
          rw [fst_at h1]
          exact ev_op (ev_var rfl) ev_c (rv_ixT (st_of (e8 _ _ h1)) (atI_nat (j := 0) rfl)))
        rw [List.filter_eq_self.mpr (fun _ _ => rfl)] at z
        exact z) (fun i G1 f1 hi hf => ev_var rfl)
      exact z
    show tSeq _ _ _ [some (.ref a), some (.ref st), some (.ref wa), some (.ref R), some (.ref tw), none, none, none, none, none, none, none, none, none] H6
    have I6 := I.same e6
    -- made
    refine q_asgG ?_
    refine ⟨_, rfl, R, vals, rfl, .inl (sq_of I6.hR), fun l nl => ?_⟩
    have I6' := I6.same (Ex.new (o := HO.lst vals) nl)
    cases t with
    | some k =>
      refine ⟨l, vals, ds, some k, rfl, upd_same, I6'.hd.dq, dep8, l3, ht, (fun h => nomatch h), fun k' hk H7 p e7 hp => ?_⟩
      cases hk
      refine ⟨p, _, rfl, st_of hp, rfl, _, _, rfl, _, _, rfl, rfl, ?_⟩
      obtain ⟨rest, hrest⟩ := twice_some dq5 hpd ht
      have htw7 := e7 _ _ ((Ex.new (o := HO.lst vals) nl) _ _ htw)
      rw [hrest] at htw7
      show tSeq _ _ _ [some (.ref a), some (.ref st), some (.ref wa), some (.ref R), some (.ref tw), some .non, some (.int (k : Int)), none, none, none, none, none, none, none] H7
      refine q_when (b := true) (et_truth (K := K) (xs := .int (k : Int) :: rest) (ev_var rfl) (sq_of htw7)) (fun _ H8 e8 => ?_) fun z => nomatch z
      refine s_ret (v := .bl true) (Evl.ev_is (ev_andV (a := true) (b := true) (Evl.ev_is (ev_non (ev_var rfl)) rfl) fun _ => Evl.ev_is (ev_call (ea_cons (ev_var rfl) (ea_cons (ev_op (ev_var rfl) ev_c (rv_ixL (sq_of (e8 _ _ htw7)) (atI_nat (j := 0) rfl))) ea_nil)) (sp_num (a := (k : Int)) (b := (k : Int)))) (by rw [decide_eq_true rfl])) rfl) fun H9 e9 => q H9
    | none =>
      refine ⟨l, vals, ds, none, rfl, upd_same, I6'.hd.dq, dep8, l3, ht, fun _ H7 p x e7 nx hp hm => ?_, fun k hk => nomatch hk⟩
      refine ⟨p, _, rfl, st_of hp, rfl, _, _, rfl, _, _, rfl, rfl, ?_⟩
      have I7 := I6'.same e7
      have htw7 := e7 _ _ ((Ex.new (o := HO.lst vals) nl) _ _ htw)
      rw [twice_none dq5 ht] at htw7
      show tSeq _ _ _ [some (.ref a), some (.ref st), some (.ref wa), some (.ref R), some (.ref tw), some (.ref x), some .non, none, none, none, none, none, none, none] H7
      refine q_when (b := false) (et_truth (K := K) (xs := []) (ev_var rfl) (sq_of htw7)) (fun z => nomatch z) fun _ H8 e8 => ?_
      have I8 := I7.same e8
      have hm8 := hm.ex e8
      have hpairs := pairs_of dq5 hpd
      have nd : (ds.map keyOf).Nodup := ok_nodup ht
      -- made is as it should be
      refine q_when (b := false) (et_is (et_or (et_test (ev_non (v := .ref x) (ev_var rfl))) fun _ => et_or (et_test (ev_nno (v := .non) (ev_var rfl))) fun _ => et_not (et_B (ev_call (ea_cons (ev_var rfl) (ea_cons (ev_var rfl) (ea_cons (ev_var rfl) ea_nil))) (sp_isas hm8 I8.hR I8.hw I8.hd.dq dq5 ht ht (List.Perm.refl _) I.dep l3 hs wle)))) rfl) (fun z => nomatch z) fun _ H9 e9 => ?_
      have I9 := I8.same e9
      have hm9 := hm8.ex e9
      -- turned
      have tdt : Told (ds.drop 1 ++ ds.take 1) none := ok_of (fun d hd => hpd d ((perm_rot ds).mem_iff.mp hd)) (((perm_rot ds).map keyOf).nodup_iff.mpr nd)
      have dqt := dq_app (dq_drop 1 dq5) (dq_take 1 dq5)
      refine q_asgG ?_
      refine (el_cat (el_fr (σ := [some (.ref a), some (.ref st), some (.ref wa), some (.ref R), some (.ref tw), some (.ref x), some .non, none, none, none, none, none, none, none]) (te := tVar 3) (ti := tC (.int 1)) (k := 1) (ev_var rfl) ev_c (sq_of I9.hR)) (el_to (te := tVar 3) (ti := tC (.int 1)) (k := 1) (ev_var rfl) ev_c (sq_of I9.hR)) (by rw [List.length_drop, List.length_take]; omega)) H9 (Ex.refl H9) _ fun l2 H10 nl2 e10 hl2 => ?_
      have I10 := I9.same e10
      refine ⟨l2, _, ds.drop 1 ++ ds.take 1, none, rfl, hl2, dq_app (dq_drop 1 I10.hd.dq) (dq_take 1 I10.hd.dq), fun d hd => dep8 d ((perm_rot ds).mem_iff.mp hd), by rw [(perm_rot ds).length_eq]; exact l3, tdt, fun _ H11 p2 x2 e11 nx2 hp2 hmt => ?_, fun k hk => nomatch hk⟩
      refine ⟨p2, _, rfl, st_of hp2, rfl, _, _, rfl, _, _, rfl, rfl, ?_⟩
      have I11 := I10.same e11
      have hm11 := hm9.ex (e10.trans e11)
      have hse : srt (ds.drop 1 ++ ds.take 1) = srt ds := srt_perm (perm_rot ds) (fun d hd => hpairs d ((perm_rot ds).mem_iff.mp hd))
      have hself : PyData.eqv (.tuple (srt ds)) (.tuple (srt ds)) = true := by
        obtain ⟨_, _, _, us, _, _, k3, k4⟩ := hm11
        exact SeqAt.eqv_refl _ (Dq.tup k3 k4).lay
      have dept : ∀ d ∈ ds.drop 1 ++ ds.take 1, d.depth ≤ 4 := fun d hd => I.dep d ((perm_rot ds).mem_iff.mp hd)
      show tSeq _ _ _ [some (.ref a), some (.ref st), some (.ref wa), some (.ref R), some (.ref tw), some (.ref x), some .non, some (.ref x2), none, none, none, none, none, none] H11
      refine q_when (b := false) (et_is (et_or (et_test (ev_non (v := .ref x2) (ev_var rfl))) fun _ => et_or (et_not (et_test (ev_eqM (ev_var rfl) (ev_var rfl) hmt hm11 NF.own dept I.dep))) fun _ => et_or (et_test (ev_neM (ev_var rfl) (ev_var rfl) hmt hm11 NF.own dept I.dep)) fun _ => et_not (et_B (ev_call (ea_cons (ev_var rfl) (ea_cons (ev_var rfl) (ea_cons (ev_var rfl) ea_nil))) (sp_isas hmt I11.hR I11.hw I11.hd.dq dqt ht tdt (perm_rot ds) I.dep l3 hs wle)))) (by rw [hse, hself]; rfl)) (fun z => nomatch z) fun _ H12 e12 => ?_
      have I12 := I11.same e12
      have hm12 := hm11.ex e12
      -- other rows
      refine ⟨fun σ' H' => (∃ v6 v8 v9 v10, σ' = [some (.ref a), some (.ref st), some (.ref wa), some (.ref R), some (.ref tw), some (.ref x), v6, some (.ref x2), v8, v9, v10, none, none, none]) ∧ LInv st g sm wa R ws vals ds H' ∧ MendOk C x ds H', ?_, ?_⟩
      · refine s_when (σ := [some (.ref a), some (.ref st), some (.ref wa), some (.ref R), some (.ref tw), some (.ref x), some .non, some (.ref x2), none, none, none, none, none, none]) (H := H12) (et_truth (K := K) (xs := vals) (ev_var rfl) (sq_of I12.hR)) (fun hb H13 e13 => ?_) fun _ H13 e13 => ⟨⟨_, _, _, _, rfl⟩, I12.same e13, hm12.ex e13⟩
        have I13 := I12.same e13
        have hm13 := hm12.ex e13
        have hpos : 0 < ds.length := by
          rw [← hvl]
          cases vals with
          | nil => cases hb
          | cons u us => exact Nat.succ_pos _
        refine q_asgX ?_
        refine ⟨_, rfl, _, rfl, R, vals, rfl, .inl (sq_of I13.hR), st, g, sm, (vals.length : Int), rfl, I13.dr, by omega, by omega, fun r' H14 r0' r1' e14 d14 => ?_⟩
        obtain ⟨i, rfl⟩ := Int.eq_ofNat_of_zero_le r0'
        have hi : i < ds.length := by omega
        have I14 := I13.ext e14 d14 nw nRd
        have hm14 := hm13.extD e14 I13.dr hpairs
        have dq14 := I14.hd.dq
        obtain ⟨v, hv, dv⟩ := dq_at dq14 (List.getElem?_eq_getElem hi)
        obtain ⟨p0, q0, m, wy, ii, nn, rfl, hp1, hp2', hde, _, _⟩ := pair_at dv (hpd _ (List.getElem_mem hi))
        rw [hde] at dv
        have din := Dq.tup hp2' (pair_inner dv hp1 hp2')
        have hmore : moreD ds[i] = .tuple [.tuple [.str (S m), .str (S wy), .int ii], .int (1 + nn % 3)] := by
          rw [hde]
          rfl
        show tSeq _ _ _ [some (.ref a), some (.ref st), some (.ref wa), some (.ref R), some (.ref tw), some (.ref x), some .non, some (.ref x2), some (.int (i : Int)), none, none, none, none, none] H14
        refine q_asgG ?_
        refine (el_to (K := K) (σ := [some (.ref a), some (.ref st), some (.ref wa), some (.ref R), some (.ref tw), some (.ref x), some .non, some (.ref x2), some (.int (i : Int)), none, none, none, none, none]) (te := tVar 3) (ti := tVar 8) (k := i) (ev_var rfl) (ev_var rfl) (sq_of I14.hR)) H14 (Ex.refl H14) _ fun pa Ha na ea ha => ?_
        have Ia := I14.same ea
        refine lst1 ?_
        refine (eu_tup (ta := tCons (tOp (rIxT K) (tOp (rIxL K) (tVar 3) (tVar 8)) (tC (.int 0))) (tCons (tOp (rI0 fun i j => V.int (i + j)) (tC (.int 1)) (tOp (L2.rI (fun _ j => 0 < j) fun i j => V.int (i % j)) (tOp (rIxT K) (tOp (rIxL K) (tVar 3) (tVar 8)) (tC (.int 1))) (tC (.int 3)))) tNil)) (σ := [some (.ref a), some (.ref st), some (.ref wa), some (.ref R), some (.ref tw), some (.ref x), some .non, some (.ref x2), some (.int (i : Int)), none, none, none, none, none]) (vs := [.ref q0, .int (1 + nn % 3)]) (ea_cons (ev_op (ev_op (ev_var rfl) (ev_var rfl) (rv_ixL (sq_of Ia.hR) (atI_nat hv))) ev_c (rv_ixT (st_of (ea _ _ hp1)) (atI_nat (j := 0) rfl))) (ea_cons (ev_op ev_c (ev_op (ev_op (ev_op (ev_var rfl) (ev_var rfl) (rv_ixL (sq_of Ia.hR) (atI_nat hv))) ev_c (rv_ixT (st_of (ea _ _ hp1)) (atI_nat (j := 1) rfl))) ev_c (rv_I (by decide))) rv_I0) ea_nil)) (show 2 ≤ 100000 by decide)) Ha (Ex.refl Ha) _ fun pt Hb nt eb hb' => ?_
        refine ⟨(show 1 ≤ sizeLine by decide), fun pl npl => ?_⟩
        have eab := ea.trans eb
        have ec := eab.trans (Ex.new (o := HO.lst [V.ref pt]) npl)
        refine ⟨pa, pl, vals.take i, [.ref pt], rfl, rfl, (eb.trans (Ex.new npl)) _ _ ha, upd_same, sz_of (by rw [List.length_take]; show _ + 1 ≤ 100000; omega), fun pc npc => ?_⟩
        have ed := ec.trans (Ex.new (o := HO.lst (vals.take i ++ [V.ref pt])) npc)
        have hpc : (upd (upd Hb pl (.lst [V.ref pt])) pc (.lst (vals.take i ++ [V.ref pt]))) pc = some (.lst (vals.take i ++ [V.ref pt])) := upd_same
        have hpt : (upd (upd Hb pl (.lst [V.ref pt])) pc (.lst (vals.take i ++ [V.ref pt]))) pt = some (.tup [.ref q0, .int (1 + nn % 3)]) := ((Ex.new npl).trans (Ex.new npc)) _ _ hb'
        generalize upd (upd Hb pl (.lst [V.ref pt])) pc (.lst (vals.take i ++ [V.ref pt])) = Hd at ed hpc hpt ⊢
        have Id := I14.same ed
        refine (el_fr (K := K) (σ := [some (.ref a), some (.ref st), some (.ref wa), some (.ref R), some (.ref tw), some (.ref x), some .non, some (.ref x2), some (.int (i : Int)), none, none, none, none, none]) (te := tVar 3) (ti := tOp (rI0 fun i j => V.int (i + j)) (tVar 8) (tC (.int 1))) (k := i + 1) (ev_var rfl) (Evl.ev_is (ev_op (ev_var rfl) ev_c rv_I0) rfl) (sq_of Id.hR)) Hd (Ex.refl Hd) _ fun pd He nd' ee he => ?_
        refine ⟨pc, pd, vals.take i ++ [.ref pt], vals.drop (i + 1), rfl, rfl, ee _ _ hpc, he, sz_of (by rw [List.length_append, List.length_take, List.length_drop]; show _ + 1 + _ ≤ 100000; omega), fun pe npe => ?_⟩
        have ef := (ed.trans ee).trans (Ex.new (o := HO.lst (vals.take i ++ [V.ref pt] ++ vals.drop (i + 1))) npe)
        have hpe : (upd He pe (.lst (vals.take i ++ [V.ref pt] ++ vals.drop (i + 1)))) pe = some (.lst (vals.take i ++ [V.ref pt] ++ vals.drop (i + 1))) := upd_same
        have hptf : (upd He pe (.lst (vals.take i ++ [V.ref pt] ++ vals.drop (i + 1)))) pt = some (.tup [.ref q0, .int (1 + nn % 3)]) := (ee.trans (Ex.new npe)) _ _ hpt
        generalize upd He pe (.lst (vals.take i ++ [V.ref pt] ++ vals.drop (i + 1))) = Hf at ef hpe hptf ⊢
        have If := I14.same ef
        obtain ⟨eo, heo⟩ : ∃ eo, eo = ds.take i ++ [moreD ds[i]] ++ ds.drop (i + 1) := ⟨_, rfl⟩
        have heo2 : eo = ds.take i ++ moreD ds[i] :: ds.drop (i + 1) := by
          rw [heo, List.append_assoc]
          rfl
        have dqo : DqAll Hf (vals.take i ++ [V.ref pt] ++ vals.drop (i + 1)) eo := by
          rw [heo]
          refine dq_app (dq_app (dq_take i If.hd.dq) (.cons ?_ .nil)) (dq_drop (i + 1) If.hd.dq)
          rw [hmore]
          exact .tup hptf (.cons (din.ex ef) (.cons (.int _) .nil))
        have po : ∀ d ∈ eo, isPairD d = true := fun d hd => by
          rw [heo2] at hd
          rcases List.mem_append.mp hd with hd | hd
          · exact hpd d (List.mem_of_mem_take hd)
          · rcases List.mem_cons.mp hd with rfl | hd
            · exact more_ok hde (hpd _ (List.getElem_mem hi))
            · exact hpd d (List.mem_of_mem_drop hd)
        have depo : ∀ d ∈ eo, d.depth ≤ 4 := fun d hd => by
          rw [heo2] at hd
          rcases List.mem_append.mp hd with hd | hd
          · exact I.dep d (List.mem_of_mem_take hd)
          · rcases List.mem_cons.mp hd with rfl | hd
            · rw [hmore]
              simp [PyData.depth, PyData.depthAll]
            · exact I.dep d (List.mem_of_mem_drop hd)
        have lo : eo.length = ds.length := by
          rw [heo2, List.length_append, List.length_cons, List.length_take, List.length_drop]
          omega
        have to : Told eo none := ok_of po (by rw [heo2, more_keys hi hpairs]; exact nd)
        refine ⟨pe, _, eo, none, rfl, hpe, dqo, fun d hd => Nat.le_trans (depo d hd) (by decide), by omega, to, fun _ H15 p3 x3 e15 nx3 hp3 hmo => ?_, fun k hk => nomatch hk⟩
        refine ⟨p3, _, rfl, st_of hp3, rfl, _, _, rfl, _, _, rfl, rfl, ?_⟩
        have I15 := If.same e15
        show tSeq _ _ _ [some (.ref a), some (.ref st), some (.ref wa), some (.ref R), some (.ref tw), some (.ref x), some .non, some (.ref x2), some (.int (i : Int)), some (.ref x3), none, none, none, none] H15
        -- one row less
        refine q_asgG ?_
        refine (el_cat (el_to (K := K) (σ := [some (.ref a), some (.ref st), some (.ref wa), some (.ref R), some (.ref tw), some (.ref x), some .non, some (.ref x2), some (.int (i : Int)), some (.ref x3), none, none, none, none]) (te := tVar 3) (ti := tVar 8) (k := i) (ev_var rfl) (ev_var rfl) (sq_of I15.hR)) (el_fr (te := tVar 3) (ti := tOp (rI0 fun i j => V.int (i + j)) (tVar 8) (tC (.int 1))) (k := i + 1) (ev_var rfl) (Evl.ev_is (ev_op (ev_var rfl) ev_c rv_I0) rfl) (sq_of I15.hR)) (by rw [List.length_take, List.length_drop]; omega)) H15 (Ex.refl H15) _ fun l4 H16 nl4 e16 hl4 => ?_
        have I16 := I15.same e16
        have subl := less_sub (ds := ds) i
        have pl' : ∀ d ∈ ds.take i ++ ds.drop (i + 1), isPairD d = true := fun d hd => hpd d (subl.subset hd)
        have depl : ∀ d ∈ ds.take i ++ ds.drop (i + 1), d.depth ≤ 4 := fun d hd => I.dep d (subl.subset hd)
        have tol : Told (ds.take i ++ ds.drop (i + 1)) none := ok_of pl' (List.Nodup.sublist (subl.map keyOf) nd)
        have dql := dq_app (dq_take i I16.hd.dq) (dq_drop (i + 1) I16.hd.dq)
        refine ⟨l4, _, ds.take i ++ ds.drop (i + 1), none, rfl, hl4, dql, fun d hd => Nat.le_trans (depl d hd) (by decide), Nat.le_trans subl.length_le l3, tol, fun _ H17 p4 x4 e17 nx4 hp4 hml => ?_, fun k hk => nomatch hk⟩
        refine ⟨p4, _, rfl, st_of hp4, rfl, _, _, rfl, _, _, rfl, rfl, ?_⟩
        have I17 := I16.same e17
        have hmo17 := hmo.ex (e16.trans e17)
        have hm17 := hm14.ex (((ef.trans e15).trans e16).trans e17)
        show tIfS _ _ _ _ [some (.ref a), some (.ref st), some (.ref wa), some (.ref R), some (.ref tw), some (.ref x), some .non, some (.ref x2), some (.int (i : Int)), some (.ref x3), some (.ref x4), none, none, none] H17
        have no : PyData.eqv (.tuple (srt ds)) (.tuple (srt eo)) = false := srt_ne hpairs (pairs_of dqo po) (by rw [heo2]; exact more_ne hi hpairs nd (nu_bound dq14 hpd))
        have nl' : PyData.eqv (.tuple (srt (ds.take i ++ ds.drop (i + 1)))) (.tuple (srt ds)) = false := srt_ne (pairs_of dql pl') hpairs (less_ne hi)
        refine s_when (σ := [some (.ref a), some (.ref st), some (.ref wa), some (.ref R), some (.ref tw), some (.ref x), some .non, some (.ref x2), some (.int (i : Int)), some (.ref x3), some (.ref x4), none, none, none]) (H := H17) (b := false) (et_is (et_or (et_test (ev_non (v := .ref x3) (ev_var rfl))) fun _ => et_or (et_test (ev_non (v := .ref x4) (ev_var rfl))) fun _ => et_or (et_test (ev_eqM (ev_var rfl) (ev_var rfl) hm17 hmo17 NF.own I.dep depo)) fun _ => et_or (et_not (et_test (ev_neM (ev_var rfl) (ev_var rfl) hm17 hmo17 NF.own I.dep depo))) fun _ => et_test (ev_eqM (ev_var rfl) (ev_var rfl) hml hm17 NF.own depl I.dep)) (by rw [no, nl']; rfl)) (fun z => nomatch z) fun _ H18 e18 => ?_
        exact ⟨⟨_, _, _, _, rfl⟩, I17.same e18, hm17.ex e18⟩
      · rintro σ' H' ⟨⟨v6, v8, v9, v10, rfl⟩, I13, hm13⟩
        have hm13' := hm13
        obtain ⟨dx, tp, Fa, us, h1, h2, h3, h4⟩ := hm13'
        have c := M.cl.toMdC
        show tSeq (tFor _ _ _) _ _ [some (.ref a), some (.ref st), some (.ref wa), some (.ref R), some (.ref tw), some (.ref x), v6, some (.ref x2), v8, v9, v10, none, none, none] H'
        unfold tSeq tFor
        refine iTup5 ?_
        refine (ev_fld' (ev_var (σ := [some (.ref a), some (.ref st), some (.ref wa), some (.ref R), some (.ref tw), some (.ref x), v6, some (.ref x2), v8, v9, v10, none, none, none]) (H := H') (i := 5) rfl) h1 c.cl c.nP (f := "pairs") (v := .ref tp) rfl) H' (Ex.refl H') _ fun G1 g1 => ?_
        refine (ev_fld' (ev_var (σ := [some (.ref a), some (.ref st), some (.ref wa), some (.ref R), some (.ref tw), some (.ref x), v6, some (.ref x2), v8, v9, v10, none, none, none]) (H := H') (i := 5) rfl) h1 c.cl c.nP (f := "pairs") (v := .ref tp) rfl) G1 g1 _ fun G2 g2' => ?_
        refine ⟨tp, us, rfl, .inr (st_of ((g1.trans g2') _ _ h3)), fun l nl => ⟨(show 5 ≤ sizeLine by decide), fun t5 nt5 => ⟨t5, rfl, ⟨_, st_of upd_same⟩, ?_⟩⟩⟩
        have eb := (g1.trans g2').trans ((Ex.new (o := HO.lst us) nl).trans (Ex.new (o := HO.tup [.non, .int 0, .ref tp, .ref l, .str (Str.ofString "Mend")]) nt5))
        have ht5 : (upd (upd G2 l (.lst us)) t5 (.tup [.non, .int 0, .ref tp, .ref l, .str (Str.ofString "Mend")])) t5 = some (.tup [.non, .int 0, .ref tp, .ref l, .str (Str.ofString "Mend")]) := upd_same
        have hl5 : (upd (upd G2 l (.lst us)) t5 (.tup [.non, .int 0, .ref tp, .ref l, .str (Str.ofString "Mend")])) l = some (.lst us) := (Ex.new nt5) _ _ upd_same
        generalize upd (upd G2 l (.lst us)) t5 (.tup [.non, .int 0, .ref tp, .ref l, .str (Str.ofString "Mend")]) = Hb at eb ht5 hl5 ⊢
        have Ib := I13.same eb
        have hmb := hm13.ex eb
        have thing : ∀ (i : Nat) (v : V), ([.non, .int 0, .ref tp, .ref l, .str (Str.ofString "Mend")] : List V)[i]? = some v → ∃ d, Dq Hb v d ∧ tyD d ∈ ["NoneType", "int", "str", "tuple", "list"] ∧ ∀ b, d ≠ .bool b := by
          intro i v hv
          match i, hv with
          | 0, hv => cases hv; exact ⟨.none, .non, by decide, fun b z => nomatch z⟩
          | 1, hv => cases hv; exact ⟨.int 0, .int 0, (by decide), fun b z => nomatch z⟩
          | 2, hv => cases hv; exact ⟨.tuple (srt ds), .tup (eb _ _ h3) (h4.ex eb), (show "tuple" ∈ ["NoneType", "int", "str", "tuple", "list"] by decide), fun b z => nomatch z⟩
          | 3, hv => cases hv; exact ⟨.list (srt ds), .lst hl5 (h4.ex eb), (show "list" ∈ ["NoneType", "int", "str", "tuple", "list"] by decide), fun b z => nomatch z⟩
          | 4, hv => cases hv; exact ⟨.str (S [77, 101, 110, 100]), .str [77, 101, 110, 100] (by decide) (lay_S (by decide)), (by decide), fun b z => nomatch z⟩
          | n + 5, hv => cases hv
        refine for_tup (K := K) (a := t5) (xs := [.non, .int 0, .ref tp, .ref l, .str (Str.ofString "Mend")]) (fun _ σ2 H2 => (∃ v11, σ2 = [some (.ref a), some (.ref st), some (.ref wa), some (.ref R), some (.ref tw), some (.ref x), v6, some (.ref x2), v8, v9, v10, v11, none, none]) ∧ Ex Hb H2) ⟨⟨_, rfl⟩, Ex.refl Hb⟩ (fun i σ2 H2 _ z => st_of (z.2 _ _ ht5)) (fun i v σ2 H2 hv z => ?_) (fun σ2 H2 z => ?_)
        · obtain ⟨⟨v11, rfl⟩, ez⟩ := z
          obtain ⟨d, hd, ht', nb⟩ := thing i v hv
          have hdz := hd.ex ez
          have hmz := hmb.ex ez
          show tIfS _ _ _ _ [some (.ref a), some (.ref st), some (.ref wa), some (.ref R), some (.ref tw), some (.ref x), v6, some (.ref x2), v8, v9, v10, some v, none, none] H2
          refine s_when (σ := [some (.ref a), some (.ref st), some (.ref wa), some (.ref R), some (.ref tw), some (.ref x), v6, some (.ref x2), v8, v9, v10, some v, none, none]) (H := H2) (b := false) (et_is (et_or (et_test (ev_eqD (ev_var rfl) (ev_var rfl) hmz hdz ht' nb (NF.dat _ ht') I.dep)) fun _ => et_not (et_test (ev_neD (ev_var rfl) (ev_var rfl) hmz hdz ht' nb (NF.dat _ ht') I.dep))) rfl) (fun z => nomatch z) fun _ H3 e3 => ⟨⟨_, rfl⟩, ez.trans e3⟩
        · obtain ⟨⟨v11, rfl⟩, ez⟩ := z
          have Iz := Ib.same ez
          have hmz := hmb.ex ez
          have evN : Ev (tOp (rEqO K C (spMEq C)) (tVar 5) (tSMeth0 C (spMNone C) E0 (tC (.ref C)))) [some (.ref a), some (.ref st), some (.ref wa), some (.ref R), some (.ref tw), some (.ref x), v6, some (.ref x2), v8, v9, v10, v11, none, none] H2 (.bl ds.isEmpty) := fun H3 e3 Q' q' => ⟨_, rfl, rfl, rfl, fun x0 H4 nx0 e4 hm0 => by
            have hme := hmz.ex (e3.trans e4)
            obtain ⟨dx', fs', k1⟩ := mend_ins hme
            obtain ⟨dy', fy', k2⟩ := mend_ins hm0
            refine ⟨x, dx', fs', _, rfl, k1, .ins k2, NF.own, x, ds, _, rfl, hme, I.dep, .inl ⟨x0, [], rfl, hm0, (fun d hd => by cases hd), fun H5 e5 => ⟨_, rfl, ?_⟩⟩⟩
            rw [srt_nil, empty_eqv]
            exact q' H5 (e4.trans e5)⟩
          have evZ : Ev (tCB (rLenO C (spMLen C)) (tCons (tSMeth0 C (spMNone C) E0 (tC (.ref C))) tNil)) [some (.ref a), some (.ref st), some (.ref wa), some (.ref R), some (.ref tw), some (.ref x), v6, some (.ref x2), v8, v9, v10, v11, none, none] H2 (.int 0) := fun H3 e3 Q' q' => ⟨rfl, rfl, fun x0 H4 nx0 e4 hm0 => by
            obtain ⟨dy', fy', k2⟩ := mend_ins hm0
            exact ⟨x0, dy', fy', rfl, k2, x0, [], rfl, hm0, fun H5 e5 => ⟨0, rfl, by decide, by decide, q' H5 (e4.trans e5)⟩⟩⟩
          have shL : SeqAt.shaped (.list ds) = true := by
            have zl : PyData.canLay0 (.list ds) = true := (Dq.lst Iz.hR Iz.hd.dq).lay
            unfold SeqAt.shaped
            rw [zl]
            have : PyData.depth (.list ds) ≤ 8 := Nat.le_trans (Nat.succ_le_succ (depth_all I.dep)) (by decide)
            rw [decide_eq_true (by omega)]
            rfl
          refine s_ret (v := .bl true) (Evl.ev_is (ev_andV (a := true) (b := true) (ev_call (ea_cons (ev_var rfl) (ea_cons (ev_var rfl) (ea_cons (ev_var rfl) ea_nil))) (sp_isas hmz Iz.hR Iz.hw Iz.hd.dq dq5 ht ht (List.Perm.refl _) I.dep l3 hs wle)) fun _ => Evl.ev_is (ev_andV (a := true) (b := true) (Evl.ev_is (ev_op evN (y := .bl ds.isEmpty) (ev_opL (ev_var rfl) (el_lst ea_nil (Nat.zero_le _)) fun p H7 hp7 e7 => fun H8 e8 Q q => ⟨.list ds, .list [], ((Dq.lst Iz.hR Iz.hd.dq).ex (e7.trans e8)).dp, .lst (sq_of (e8 _ _ hp7)) .nil, shL, rfl, by rw [empty_list]; exact q H8 (Ex.refl H8)⟩) (rv_eq rfl)) (by rw [decide_eq_true rfl])) fun _ => Evl.ev_is (ev_op evZ ev_c (rv_eq rfl)) rfl) rfl) rfl) fun H9 e9 => q H9
end
end Hm
/-! module HmFin -/
set_option maxHeartbeats 8000000
namespace Hm
open PySem PySem.Spec PyProof.Rows L2 Hc Hs Hy
theorem exEx6_ok {K : PySem.W.Frag} {mg : Str → Option Value} {x f : Str} {d : ErrD} (h : exEx6 K x f d = true) (g : mg x = some (.ref (He.ga K x))) : XcC K mg x (He.ga K x) f (He.ma K (He.ga K x) "__init__") := by
  unfold exEx6 at h
  simp only [Bool.and_eq_true, decide_eq_true_eq] at h
  obtain ⟨y1, y2, y3, y4, y5, y6, y7⟩ := h
  have xb := xcOk_ok y2
  exact ⟨g, ⟨oexB_ok y1, xb.sa, xb.xf.exC, y6, xb.kC⟩, y3, y4, xb.xf, y5, y7⟩
theorem clsB_ok {K : PySem.W.Frag} {x : Str} (h : clsB K x = true) : PySem.W.findIn K (.ref (He.ga K x)) "__class__" = some (some (.builtin "object.__class__")) ∧ PySem.W.mroIn K (He.ga K x) (.type "object") = some true := by
  unfold clsB at h
  simp only [Bool.and_eq_true, decide_eq_true_eq] at h
  exact h
theorem getB_ok {K : PySem.W.Frag} (h : getB K = true) : PySem.W.specialIn K (.builtin "object.__class__") "__get__" = some (some (.builtin "getset_descriptor.__get__")) ∧ PySem.W.takesIn K (.builtin "object.__class__") = some true := by
  unfold getB at h
  simp only [Bool.and_eq_true, decide_eq_true_eq] at h
  exact h
theorem strsB_ok : ∀ {vs : List Value} {Ls : List (List Nat)}, strsB vs Ls = true → Vals (Ls.map fun x => V.str (S x)) vs := by
  intro vs
  induction vs with
  | nil =>
    intro Ls h
    cases Ls with
    | nil => exact .nil
    | cons a b => exact absurd h Bool.false_ne_true
  | cons v r ih =>
    intro Ls h
    cases Ls with
    | nil => cases v <;> exact absurd h Bool.false_ne_true
    | cons L ls =>
      cases v with
      | str x t =>
        have h' : (decide (x = S L) && strsB r ls) = true := h
        rw [Bool.and_eq_true, decide_eq_true_eq] at h'
        refine .cons ⟨t, ?_⟩ (ih h'.2)
        rw [h'.1]
      | _ => exact absurd h Bool.false_ne_true
theorem tupB_ok {K : PySem.W.Frag} {x : Str} {Ls : List (List Nat)} (h : tupB K x Ls = true) (H : Hp) : SqT K H (He.ga K x) (Ls.map fun x => V.str (S x)) := by
  unfold tupB at h
  split at h
  · rename_i o ho
    rw [Bool.and_eq_true, decide_eq_true_eq] at h
    obtain ⟨h1, h2⟩ := h
    split at h2
    · rename_i its n hd
      rw [Bool.and_eq_true, decide_eq_true_eq] at h2
      exact .inr ⟨o, its, n, ho, h1, hd, Nat.le_trans h2.1 (by decide), strsB_ok h2.2⟩
    · cases h2
  · cases h
theorem fnIn_of {K : PySem.W.Frag} {x q : Str} {st : Stmt} {f : Addr} {fd : FuncData} (F : Fun K x q st f fd) : PySem.W.fnIn K f = true := by
  obtain ⟨oc, od, kV, doc, pm, an, cdv, ct, osl, e, lk, hcd⟩ := F.ex
  unfold PySem.W.fnIn
  rw [lk]
theorem facts43 {P : Program} {w : World} {K : PySem.W.Frag} {h : Heap} {mg : Str → Option Value} {f : Addr} (X : K.In h) (G : h.Ns mainGlobals mg) (hfa : mg ("law" : Str) = some (.ref f)) (x : ex43 K = true) (c : He.SaysD fa43 fn43 K) (gg : gt43 K = gv43) :
    ∃ fd : FuncData, (∀ (s : Shared) (v : Value), BindsTo s fd ⟨[v], []⟩ [("_law_script", v)]) ∧ ∀ base : Heap, K.In base → base.Ns mainGlobals mg → FnOk P w K mg base CX0 8 f fd ["_law_script"] (spLaw K) := by
  obtain ⟨fd__law_start, F__law_start⟩ := def_of (x := "_law_start") (st := top 20) c 0
  have g__law_start := He.glo_ok X G (c.fact 0 (f := .glo "_law_start") rfl)
  have b__law_start : Binds K fd__law_start ["_law_script"] [] := F__law_start.binds fun _ _ _ _ _ _ us hl => match us, hl with | [_], _ => rfl
  obtain ⟨fd__law_draw, F__law_draw⟩ := def_of (x := "_law_draw") (st := top 21) c 1
  have g__law_draw := He.glo_ok X G (c.fact 1 (f := .glo "_law_draw") rfl)
  have b__law_draw : Binds K fd__law_draw ["_law_state", "_law_many"] [] := F__law_draw.binds fun _ _ _ _ _ _ us hl => match us, hl with | [_, _], _ => rfl
  obtain ⟨fd__law_of, F__law_of⟩ := def_of (x := "_law_of") (st := top 22) c 2
  have g__law_of := He.glo_ok X G (c.fact 2 (f := .glo "_law_of") rfl)
  have b__law_of : Binds K fd__law_of ["_law_state", "_law_some"] [] := F__law_of.binds fun _ _ _ _ _ _ us hl => match us, hl with | [_, _], _ => rfl
  obtain ⟨fd__law_word, F__law_word⟩ := def_of (x := "_law_word") (st := top 23) c 3
  have g__law_word := He.glo_ok X G (c.fact 3 (f := .glo "_law_word") rfl)
  have b__law_word : Binds K fd__law_word ["_law_state", "_law_taken"] [] := F__law_word.binds fun _ _ _ _ _ _ us hl => match us, hl with | [_, _], _ => rfl
  obtain ⟨fd__law_pair, F__law_pair⟩ := def_of (x := "_law_pair") (st := top 24) c 4
  have g__law_pair := He.glo_ok X G (c.fact 4 (f := .glo "_law_pair") rfl)
  have b__law_pair : Binds K fd__law_pair ["_law_state", "_law_words"] [] := F__law_pair.binds fun _ _ _ _ _ _ us hl => match us, hl with | [_, _], _ => rfl
  obtain ⟨fd__law_number, F__law_number⟩ := def_of (x := "_law_number") (st := top 25) c 5
  have g__law_number := He.glo_ok X G (c.fact 5 (f := .glo "_law_number") rfl)
  have b__law_number : Binds K fd__law_number ["_law_thing", "_law_due"] [] := F__law_number.binds fun _ _ _ _ _ _ us hl => match us, hl with | [_, _], _ => rfl
  obtain ⟨fd__law_made, F__law_made⟩ := def_of (x := "_law_made") (st := top 26) c 6
  have g__law_made := He.glo_ok X G (c.fact 6 (f := .glo "_law_made") rfl)
  have b__law_made : Binds K fd__law_made ["_law_rows"] [] := F__law_made.binds fun _ _ _ _ _ _ us hl => match us, hl with | [_], _ => rfl
  obtain ⟨fd__law_is_as, F__law_is_as⟩ := def_of (x := "_law_is_as") (st := top 27) c 7
  have g__law_is_as := He.glo_ok X G (c.fact 7 (f := .glo "_law_is_as") rfl)
  have b__law_is_as : Binds K fd__law_is_as ["_law_made_here", "_law_rows", "_law_words"] [] := F__law_is_as.binds fun _ _ _ _ _ _ us hl => match us, hl with | [_, _, _], _ => rfl
  obtain ⟨fd_law, F_law⟩ := def_of (x := "law") (st := top 28) c 8
  have g_law := He.glo_ok X G (c.fact 8 (f := .glo "law") rfl)
  have b_law : Binds K fd_law ["_law_script"] [] := F_law.binds fun _ _ _ _ _ _ us hl => match us, hl with | [_], _ => rfl
  obtain ⟨fd_are_small, F_are_small⟩ := def_of (x := "are_small") (st := top 8) c 9
  have g_are_small := He.glo_ok X G (c.fact 9 (f := .glo "are_small") rfl)
  have b_are_small : Binds K fd_are_small ["text"] [] := F_are_small.binds fun _ _ _ _ _ _ us hl => match us, hl with | [_], _ => rfl
  obtain ⟨fd_is_word, F_is_word⟩ := def_of (x := "is_word") (st := top 9) c 10
  have g_is_word := He.glo_ok X G (c.fact 10 (f := .glo "is_word") rfl)
  have b_is_word : Binds K fd_is_word ["text"] [] := F_is_word.binds fun _ _ _ _ _ _ us hl => match us, hl with | [_], _ => rfl
  obtain ⟨fd_is_door, F_is_door⟩ := def_of (x := "is_door") (st := top 16) c 11
  have g_is_door := He.glo_ok X G (c.fact 11 (f := .glo "is_door") rfl)
  have b_is_door : Binds K fd_is_door ["door"] [] := F_is_door.binds fun _ _ _ _ _ _ us hl => match us, hl with | [_], _ => rfl
  obtain ⟨fd_is_pair, F_is_pair⟩ := def_of (x := "is_pair") (st := top 17) c 12
  have g_is_pair := He.glo_ok X G (c.fact 12 (f := .glo "is_pair") rfl)
  have b_is_pair : Binds K fd_is_pair ["pair"] [] := F_is_pair.binds fun _ _ _ _ _ _ us hl => match us, hl with | [_], _ => rfl
  obtain ⟨fd_BadMend__init__, F_BadMend__init__⟩ := mth_of (C := "BadMend") (m := "__init__") (q := "BadMend.__init__") (st := inClass (top 3) 0) c 13
  have b_BadMend__init__ : Binds K fd_BadMend__init__ ["self", "at"] [] := F_BadMend__init__.binds fun _ _ _ _ _ _ us hl => match us, hl with | [_, _], _ => rfl
  obtain ⟨fd_Mend__init__, F_Mend__init__⟩ := mth_of (C := "Mend") (m := "__init__") (q := "Mend.__init__") (st := inClass (top 18) 0) c 14
  obtain ⟨fd_Mend__len__, F_Mend__len__⟩ := mth_of (C := "Mend") (m := "__len__") (q := "Mend.__len__") (st := inClass (top 18) 5) c 15
  have b_Mend__len__ : Binds K fd_Mend__len__ ["self"] [] := F_Mend__len__.binds fun _ _ _ _ _ _ us hl => match us, hl with | [_], _ => rfl
  obtain ⟨fd_Mend__getitem__, F_Mend__getitem__⟩ := mth_of (C := "Mend") (m := "__getitem__") (q := "Mend.__getitem__") (st := inClass (top 18) 6) c 16
  have b_Mend__getitem__ : Binds K fd_Mend__getitem__ ["self", "door"] [] := F_Mend__getitem__.binds fun _ _ _ _ _ _ us hl => match us, hl with | [_, _], _ => rfl
  obtain ⟨fd_Mend__bool__, F_Mend__bool__⟩ := mth_of (C := "Mend") (m := "__bool__") (q := "Mend.__bool__") (st := inClass (top 18) 8) c 17
  have b_Mend__bool__ : Binds K fd_Mend__bool__ ["self"] [] := F_Mend__bool__.binds fun _ _ _ _ _ _ us hl => match us, hl with | [_], _ => rfl
  obtain ⟨fd_Mend__eq__, F_Mend__eq__⟩ := mth_of (C := "Mend") (m := "__eq__") (q := "Mend.__eq__") (st := inClass (top 18) 9) c 18
  have b_Mend__eq__ : Binds K fd_Mend__eq__ ["self", "other"] [] := F_Mend__eq__.binds fun _ _ _ _ _ _ us hl => match us, hl with | [_, _], _ => rfl
  have g_BadMend := He.glo_ok X G (c.fact 13 (f := .glo "BadMend") rfl)
  have g_Mend := He.glo_ok X G (c.fact 14 (f := .glo "Mend") rfl)
  have g_RESERVED := He.glo_ok X G (c.fact 15 (f := .glo "RESERVED") rfl)
  have g_WAYS := He.glo_ok X G (c.fact 16 (f := .glo "WAYS") rfl)
  have k_Mend := He.cls_ok (c.fact 37 (f := .cls "Mend") rfl)
  have m_Mend := He.mkr_ok (c.fact 38 (f := .mkr "Mend") rfl)
  have t__len__ := He.meth_ok (c.fact 41 (f := .meth "Mend" "__len__") rfl)
  have t__getitem__ := He.meth_ok (c.fact 42 (f := .meth "Mend" "__getitem__") rfl)
  have t__bool__ := He.meth_ok (c.fact 43 (f := .meth "Mend" "__bool__") rfl)
  have t__eq__ := He.meth_ok (c.fact 44 (f := .meth "Mend" "__eq__") rfl)
  unfold ex43 at x
  simp only [Bool.and_eq_true] at x
  obtain ⟨x1, x2, x3, x4, x5, x6, x7, x8, x9, x10, x11, x12, x13, x14, x15, x16, x17, x18⟩ := x
  have NB : XcC K mg "BadMend" (He.ga K "BadMend") "at" (He.ma K (He.ga K "BadMend") "__init__") := exEx6_ok x1 g_BadMend
  obtain ⟨hn, htk⟩ := getB_ok x2
  have TD : TxtD mg := ⟨(He.free_ok X G (c.fact 17 (f := .free "int") rfl)), (He.free_ok X G (c.fact 18 (f := .free "abs") rfl)), (He.free_ok X G (c.fact 19 (f := .free "len") rfl))⟩
  have TW : WordC mg := ⟨(He.free_ok X G (c.fact 27 (f := .free "all") rfl)), (He.free_ok X G (c.fact 19 (f := .free "len") rfl)), He.str_ok X G (c.fact 35 (f := .str "SMALL_LETTERS" (S smalls0)) rfl), (He.int_ok X G (c.fact 31 (f := .int "MOST_LETTERS" 8) rfl))⟩
  have u_RESERVED : ∃ r, mg "RESERVED" = some (.ref r) ∧ ∀ H, SqT K H r (resv.map fun x => V.str (S x)) := ⟨_, g_RESERVED, fun H => tupB_ok (Ls := tp_RESERVED) x17 H⟩
  have u_WAYS : ∃ r, mg "WAYS" = some (.ref r) ∧ ∀ H, SqT K H r (ways.map fun x => V.str (S x)) := ⟨_, g_WAYS, fun H => tupB_ok (Ls := tp_WAYS) x18 H⟩
  have TWP : WordP K mg := ⟨TW, u_RESERVED⟩
  have DP : DoorP K mg := ⟨(He.free_ok X G (c.fact 21 (f := .free "isinstance") rfl)), (He.free_ok X G (c.fact 23 (f := .free "tuple") rfl)), (He.free_ok X G (c.fact 22 (f := .free "str") rfl)), (He.free_ok X G (c.fact 17 (f := .free "int") rfl)), (He.free_ok X G (c.fact 28 (f := .free "type") rfl)), (He.free_ok X G (c.fact 19 (f := .free "len") rfl)), u_WAYS, (He.int_ok X G (c.fact 34 (f := .int "NO_PARAMETER" (-1)) rfl)), (He.int_ok X G (c.fact 32 (f := .int "MOST_PARAMETER" 2) rfl)), (He.int_ok X G (c.fact 33 (f := .int "MOST_FLOORS" 3) rfl)), He.str_ok X G (c.fact 36 (f := .str "RESULT" (S result0)) rfl)⟩
  have MP : MdP mg := ⟨(He.free_ok X G (c.fact 20 (f := .free "enumerate") rfl)), (He.free_ok X G (c.fact 23 (f := .free "tuple") rfl)), (He.free_ok X G (c.fact 26 (f := .free "sorted") rfl)), (He.free_ok X G (c.fact 24 (f := .free "list") rfl))⟩
  have TL : LawP mg := ⟨(He.free_ok X G (c.fact 25 (f := .free "range") rfl))⟩
  have mdc : MdC K (He.ga K "Mend") := ⟨k_Mend, (He.noat_ok (c.fact 39 (f := .noat "Mend" "pairs") rfl)), (He.noat_ok (c.fact 40 (f := .noat "Mend" "_floors_at") rfl))⟩
  have mdi : MdI K (He.ga K "Mend") := ⟨mdc, (clsB_ok x3).1, hn, htk, (clsB_ok x3).2, of_decide_eq_true x4, fun n hn => of_decide_eq_true (List.all_eq_true.mp x5 n hn)⟩
  have MQ : MdQ mg (He.ga K "Mend") := ⟨(He.free_ok X G (c.fact 19 (f := .free "len") rfl)), (He.free_ok X G (c.fact 29 (f := .free "bool") rfl)), (He.free_ok X G (c.fact 21 (f := .free "isinstance") rfl)), (He.free_ok X G (c.fact 30 (f := .free "sum") rfl)), g_Mend⟩
  have AP : AsP mg (He.ga K "Mend") := ⟨MQ, (He.free_ok X G (c.fact 23 (f := .free "tuple") rfl)), (He.free_ok X G (c.fact 26 (f := .free "sorted") rfl)), (He.free_ok X G (c.fact 27 (f := .free "all") rfl)), (He.free_ok X G (c.fact 25 (f := .free "range") rfl))⟩
  have LW : LwP mg (He.ga K "Mend") := ⟨AP, (He.free_ok X G (c.fact 24 (f := .free "list") rfl))⟩
  have NF : NfP K (He.ga K "Mend") := ⟨x6, fun n hn => List.all_eq_true.mp x7 n hn⟩
  have gg1 : fnA K (gAd K (He.ga K "Mend") "floors") = fnVal "floors" "Mend.floors" (inClass (top 18) 3) := (List.cons.inj gg).1
  have gg2 : fnA K (He5.wf K (He.ga K "Mend") "staticmethod" "none") = fnVal "none" "Mend.none" (inClass (top 18) 1) := (List.cons.inj (List.cons.inj gg).2).1
  obtain ⟨ocf, odf, oslf, kVf, docf, pmf, anf, cdvf, ctf, lkf, hcdf⟩ := fnA_ok gg1 x10
  have F_fl := fun_mk lkf hcdf x11
  have b_fl : Binds K _ ["self"] [] := F_fl.binds fun _ _ _ _ _ _ us hl => match us, hl with | [_], _ => rfl
  obtain ⟨ocn, odn, osln, kVn, docn, pmn, ann, cdvn, ctn, lkn, hcdn⟩ := fnA_ok gg2 x13
  have F_no := fun_mk lkn hcdn x14
  have b_no : Binds K _ [] [] := F_no.binds fun _ _ _ _ _ _ us hl => match us, hl with | [], _ => rfl
  have CR : ClX.CRead K (He.ga K "Mend") (.type "type") := ⟨x15, of_decide_eq_true x16⟩
  have CS : CStat K (He.ga K "Mend") (.type "type") "none" (He.ma K (He.ga K "Mend") "none") (He5.wf K (He.ga K "Mend") "staticmethod" "none") := ⟨(He5.wrapB_ok x12).1, (He5.wrapB_ok x12).2, rfl, x14⟩
  have e := hfa.symm.trans g_law
  cases e
  refine ⟨fd_law, fun s v => ?_, fun base _ _ => ?_⟩
  · obtain ⟨oc, od, kV, doc, pm, an, cdv, ct, osl, e7, _, _⟩ := F_law.ex
    subst e7
    exact .of_eq rfl
  · have rSm : Hs.Rd P w K mg base "are_small" 1 ["text"] (spSmall) := ⟨_, fd_are_small, g_are_small, F_are_small.kp, b_are_small, ok_small F_are_small TW⟩
    have rWo : Hs.Rd P w K mg base "is_word" 2 ["text"] (spWord) := ⟨_, fd_is_word, g_is_word, F_is_word.kp, b_is_word, ok_word F_is_word TWP rSm⟩
    have rDo : Hs.Rd P w K mg base "is_door" 3 ["door"] (spDoor) := ⟨_, fd_is_door, g_is_door, F_is_door.kp, b_is_door, ok_door F_is_door DP rWo⟩
    have rPr : Hs.Rd P w K mg base "is_pair" 4 ["pair"] (spPair) := ⟨_, fd_is_pair, g_is_pair, F_is_pair.kp, b_is_pair, ok_pair F_is_pair DP rDo⟩
    have FM := ok_mi (P := P) (w := w) (base := base) F_Mend__init__ MP mdc NB (ok_bmi F_BadMend__init__ NB) b_BadMend__init__ rPr (by decide)
    have FM0 := ok_mi0 (P := P) (w := w) (mg := mg) (base := base) (k := 0) F_Mend__init__ MP mdc
    have FN : FnR P w K mg base CX0 4 (He5.wf K (He.ga K "Mend") "staticmethod" "none") (spMNone (He.ga K "Mend")) := (((ok_mnone F_no g_Mend m_Mend FM0).raw b_no .nil).mono (by decide)).imp fun vs H Q E h => by rw [List.append_nil]; exact h
    have MD : MdD P w K mg base (He.ga K "Mend") := { cl := mdi, ne := of_decide_eq_true x8, dLen := ⟨_, fd_Mend__len__, t__len__.at_, t__len__.fn, fnIn_of F_Mend__len__, b_Mend__len__, ok_mlen F_Mend__len__ MQ mdc⟩, dGet := ⟨_, fd_Mend__getitem__, t__getitem__.at_, t__getitem__.fn, fnIn_of F_Mend__getitem__, b_Mend__getitem__, ok_mget F_Mend__getitem__ mdc⟩, dBool := ⟨_, fd_Mend__bool__, t__bool__.at_, t__bool__.fn, fnIn_of F_Mend__bool__, b_Mend__bool__, ok_mbool F_Mend__bool__ MQ mdc⟩, dEq := ⟨_, fd_Mend__eq__, t__eq__.at_, t__eq__.fn, fnIn_of F_Mend__eq__, b_Mend__eq__, ok_meq F_Mend__eq__ MQ mdi⟩, fl := ⟨_, _, _, propB_ok x9, b_fl, ok_mfl F_fl MQ mdc⟩ }
    have rMa : Hs.Rd P w K mg base "_law_made" 7 ["_law_rows"] (spLMade (He.ga K "Mend")) := ⟨_, fd__law_made, g__law_made, F__law_made.kp, b__law_made, ok_lmade F__law_made NB (He.free_ok X G (c.fact 19 (f := .free "len") rfl)) g_Mend m_Mend FM⟩
    have rDr : Hs.Rd P w K mg base "_law_draw" 1 ["_law_state", "_law_many"] (spDraw) := ⟨_, fd__law_draw, g__law_draw, F__law_draw.kp, b__law_draw, ok_draw F__law_draw TD⟩
    have rSta : Hs.Rd P w K mg base "_law_start" 1 ["_law_script"] (spStart K) := ⟨_, fd__law_start, g__law_start, F__law_start.kp, b__law_start, ok_start F__law_start TD⟩
    have rOf : Hs.Rd P w K mg base "_law_of" 2 ["_law_state", "_law_some"] (spOf K) := ⟨_, fd__law_of, g__law_of, F__law_of.kp, b__law_of, Hc.ok_of F__law_of TD F__law_draw b__law_draw g__law_draw⟩
    have rWd : Hs.Rd P w K mg base "_law_word" 2 ["_law_state", "_law_taken"] (spLWord) := ⟨_, fd__law_word, g__law_word, F__law_word.kp, b__law_word, ok_lword F__law_word TL rDr⟩
    have rPa : Hs.Rd P w K mg base "_law_pair" 3 ["_law_state", "_law_words"] (spLPair) := ⟨_, fd__law_pair, g__law_pair, F__law_pair.kp, b__law_pair, ok_lpair F__law_pair (rDr.mono (by decide)) rOf⟩
    have rNu : Hs.Rd P w K mg base "_law_number" 1 ["_law_thing", "_law_due"] (spLNum) := ⟨_, fd__law_number, g__law_number, F__law_number.kp, b__law_number, ok_lnum F__law_number DP (He.free_ok X G (c.fact 29 (f := .free "bool") rfl))⟩
    have rIs : Hs.Rd P w K mg base "_law_is_as" 5 ["_law_made_here", "_law_rows", "_law_words"] (spLIsAs (He.ga K "Mend")) := ⟨_, fd__law_is_as, g__law_is_as, F__law_is_as.kp, b__law_is_as, ok_lisas F__law_is_as AP MD (rNu.mono (by decide)) (by decide)⟩
    exact ok_law F_law LW MD NF CR CS FN (by decide) (rSta.mono (by decide)) (rDr.mono (by decide)) (rWd.mono (by decide)) (rPa.mono (by decide)) rMa (rIs.mono (by decide)) (rNu.mono (by decide))
end Hm
open PySem PySem.W PySem.Calls PyProof.Rows
set_option maxHeartbeats 0 in
theorem PySem.Challenge.cw_handedcopies_k43_mends_made_holds : PySem.Challenge.rw_handedcopies_k43_mends_made.Holds := by
  w_on; o_law
  refine HandSHeadRun.head_any (r := OpenLaw.row PySem.Challenge.rw_handedcopies_k43_mends_made) (q := view (OpenLaw.row PySem.Challenge.rw_handedcopies_k43_mends_made).prog [28]) (H := Hs.hookM Hs.nm43 4 Hs.fa43 Hs.fn43 Hs.ex43 Hs.gt43 Hs.gv43) (ob := Hs.obM Hs.nm43 4 Hs.fa43 Hs.fn43 Hs.ex43 Hs.gt43) (M := 40000) (loose := Hs.lo43) (d := HandSHeadRun.topDef (OpenLaw.row PySem.Challenge.rw_handedcopies_k43_mends_made).prog 28) (kwd := []) (Hs.obM_eq _ _ _ _ _ _ _)
    (by kernel_rfl) (fun s => by kernel_rfl) Hs.run43 (by kernel_rfl) (by kernel_rfl) (by kernel_rfl) (by rfl) (by first | assumption | decide +kernel) (by decide +kernel) ⟨rfl, rfl, rfl, rfl, rfl, by decide +kernel⟩ ?hw ?hc
  case hw => w_witness2
  case hc =>
    refine L2.walk_ofE (l := PySem.Challenge.rw_handedcopies_k43_mends_made) (n := 63) (k := 8) (x := "_law_script") (CX := L2.CX0) rfl (by decide) (by kernel_rfl) ⟨rfl, by decide, by decide⟩ ?F (fun _ _ _ _ z => z)
    intro w mg fa h Y G hmg0
    obtain ⟨K, KX, x, c, gg⟩ := Y
    have hmg : mg ("law" : PySem.Str) = some (.ref fa) := by
      have e : (HandSHeadRun.topDef (OpenLaw.row PySem.Challenge.rw_handedcopies_k43_mends_made).prog 28).name = ("law" : PySem.Str) := by kernel_rfl
      rw [← e]
      exact hmg0
    obtain ⟨fd, hb, hF⟩ := Hm.facts43 (P := (PySem.Challenge.rw_handedcopies_k43_mends_made).prog) (w := w) KX G hmg x c gg
    exact ⟨K, fd, Hm.spLaw K, KX, hb, fun H a ns hl _ hS => ⟨a, ns, rfl, hS, hl, fun _ => rfl⟩, hF⟩
