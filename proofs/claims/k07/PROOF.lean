import PyProof.Rows.All
import Wide.All
import OpenK.AllK
import Wide.FinOn
import PyProof.ListStr
import HandS.Base
import HandS.Call
import HandS.List
import HandS.Comp
import HandS.Ends
import HandS.Dict
import HandS.Iter
import HandS.Text
import HandS.Exc
import HandS.Words
import HandS.WordsList
import HandS.Flow
import HandS.Style
import HandS.NoneIn
import HandS.IsInst
import HandS.Wide
import HandS.Evl
import HandS.Codes
import KE.KExcInit
import KE.KIsAll
import HandS.ExcOwn
import HandS.ExcInit
import HandS.ExcField
import HandS.ExcIs
import HandS.ExcValue
import PyProof.ExcBaseAll.ValueError
import PyProof.ExcBaseAll.RuntimeError
import HandS.Defaults
import HandS.HeadHook1
import HandS.HeadHook2
import KE.KStateDown
import Lean
import HandS.Head0
import HandS.Head1
import HandS.Head2
import HandS.HeadEnd
import HandS.HeadHook4
import PySem.Challenge.RW_handedcopies_k07_whole_orders
import HandS.Property
import PyProof.Draws
import PyProof.EnumMake
import HandS.StrMore
import PyProof.StrOps2
import HandS.More
import HandS.WordsDict
import HandS.WordsExc
import HandS.Conv
import HandS.Walk
import OpenK.KMeth
import OpenK.KOps
import HandS.Strs
set_option Elab.async false
set_option linter.all false
set_option maxRecDepth 100000
set_option maxHeartbeats 4000000
/-! Rules that hold for any program: xs[i] read by values, list(a text), frames of what stays. -/
namespace Hc
open PySem PySem.Spec PyProof.Rows L2

/-- all that was tracked outside S is as it was -/
def Ext (S : Addr → Prop) (H H' : Hp) : Prop := ∀ b o, H b = some o → ¬ S b → H' b = some o
theorem Ext.refl (S : Addr → Prop) (H : Hp) : Ext S H H := fun _ _ h _ => h
theorem Ext.trans {S : Addr → Prop} {H H1 H2 : Hp} (a : Ext S H H1) (b : Ext S H1 H2) : Ext S H H2 := fun c o h n => b c o (a c o h n) n
theorem Ext.mono {S T : Addr → Prop} {H H1 : Hp} (a : Ext S H H1) (h : ∀ b, S b → T b) : Ext T H H1 := fun c o e n => a c o e fun z => n (h c z)
theorem Ext.same {S : Addr → Prop} {H H1 : Hp} (a : Same H H1) : Ext S H H1 := fun c o e _ => a c o e
theorem Ext.new {S : Addr → Prop} {H : Hp} {p : Addr} {o : HO} (h : H p = none) : Ext S H (upd H p o) := fun b x e _ => by
  rw [upd_ne (ne_of_none e h)]
  exact e
theorem Ext.put {S : Addr → Prop} {H : Hp} {p : Addr} {o : HO} (h : S p) : Ext S H (upd H p o) := fun b x e n => by
  rw [upd_ne (fun z => n (by rw [z]; exact h))]
  exact e
theorem same_new {H : Hp} {p : Addr} {o : HO} (h : H p = none) : Same H (upd H p o) := fun b x e => by
  rw [upd_ne (ne_of_none e h)]
  exact e
/-- what is new in H' was free in H or lay in S -/
theorem Ext.free {S : Addr → Prop} {H H' : Hp} (e : Ext S H H') {l : Addr} (h : H' l = none) (hs : ¬ S l) : H l = none := by
  cases q : H l with
  | none => rfl
  | some o =>
    rw [e l o q hs] at h
    cases h
theorem Ext.seq {S : Addr → Prop} {K : PySem.W.Frag} {H H' : Hp} {a : Addr} {xs : List V} (e : Ext S H H') (n : ¬ S a) (h : SqL K H a xs) : SqL K H' a xs := by
  rcases h with (h | ⟨o, h⟩) | h
  · exact .inl (.inl (e _ _ h n))
  · exact .inl (.inr ⟨o, e _ _ h n⟩)
  · exact .inr h
theorem Ext.seqT {S : Addr → Prop} {K : PySem.W.Frag} {H H' : Hp} {a : Addr} {xs : List V} (e : Ext S H H') (n : ¬ S a) (h : SqT K H a xs) : SqT K H' a xs := by
  rcases h with (h | ⟨o, h⟩) | h
  · exact .inl (.inl (e _ _ h n))
  · exact .inl (.inr ⟨o, e _ _ h n⟩)
  · exact .inr h

section
variable {X : Cx}
/-- xs[i] by values, for xs[i] op= e -/
theorem pg_list : PGet X (rIxL X.K) := by
  intro pins s σ H x y v u Q I rx ry h
  obtain ⟨p, xs, i, z, rfl, rfl, hq, he, q⟩ := h
  cases rx
  obtain ⟨t, rfl⟩ := ry
  obtain ⟨its, r, pl, hz⟩ := I.list hq
  obtain ⟨j, h1, h2, h3, h4, h5⟩ := atI_get he
  obtain ⟨w, ew, rw'⟩ := r.get h2
  have hl := r.length
  have hn := line63
  have fin : EP X pins σ Q w s := ⟨z, H, I, rw', q⟩
  by_cases h0 : 0 ≤ i
  · have hj : i.toNat = j := by
      rw [seqIndex_of h0 h5] at h1
      exact Option.some.inj h1
    exact wpAny_getItem_list pl.isList h0 (by omega) (by rw [hj]; simpa using ew) fin
  · have hj : (i + (its.toArray.size : Int)).toNat = j := by
      rw [seqIndex_neg (by omega) h4] at h1
      rw [List.size_toArray, ← hl]
      exact Option.some.inj h1
    exact wpAny_getItem_list_neg pl.isList (by omega) (by rw [List.size_toArray] <;> omega) (by omega) (by rw [hj]; simpa using ew) fin
/-- the signs of a text, each a text -/
def signs (x : Str) : List V := x.cps.toList.map fun c => V.str ⟨#[c]⟩
theorem vals_signs {x : Str} {acc : Array Value} (h : ItemsOf (SignAt x) acc x.cps.size) : Vals (signs x) acc.toList := by
  obtain ⟨hs, hi⟩ := h
  have key : ∀ (cs : List Nat) (us : List Value), cs.length = us.length → (∀ (j : Nat) (v : Value), us[j]? = some v → ∃ c u, cs[j]? = some c ∧ v = .str ⟨#[c]⟩ u) → Vals (cs.map fun c => V.str ⟨#[c]⟩) us := by
    intro cs
    induction cs with
    | nil =>
      intro us hl _
      cases us with
      | nil => exact .nil
      | cons u r => simp at hl
    | cons c cs ih =>
      intro us hl hx
      cases us with
      | nil => simp at hl
      | cons u r =>
        obtain ⟨c', t, e1, e2⟩ := hx 0 u rfl
        have e1' : c = c' := by simpa using e1
        subst e1'
        exact .cons ⟨t, e2⟩ (ih r (by simpa using hl) fun j v e => by
          obtain ⟨c2, t2, q1, q2⟩ := hx (j + 1) v (by simpa using e)
          exact ⟨c2, t2, by simpa using q1, q2⟩)
  refine key x.cps.toList acc.toList (by simp [hs]) fun j v e => ?_
  obtain ⟨c, u, e1, e2⟩ := hi j v (by rw [← Array.getElem?_toList]; exact e)
  exact ⟨c, u, by rw [Array.getElem?_toList]; exact e1, e2⟩
/-- list(a text): a new list of its signs -/
theorem call_listS (hc : X.calm = true) : CallR X (.type "list") (fun xs H Q => ∃ x : Str, xs = [.str x] ∧ x.cps.size ≤ sizeLine ∧ ∀ l, H l = none → Q (.ref l) (upd H l (.lst (signs x)))) := by
  intro pins s σ H xs us Q I r h
  obtain ⟨x, rfl, hz, q⟩ := h
  obtain ⟨u, rfl, t, rfl⟩ := vals1 r
  refine call_list_str (I.ok.hd hc) x t (fun h' tk acc' c' k hS hi => ?_) hz
  have rv := vals_signs hi
  refine ⟨.ref s.heap.objs.size, upd H s.heap.objs.size (.lst (signs x)), I.laid (t' := tk) k (Nat.le_refl _) ⟨?_, acc'.toList, c', rv, ?_⟩, rfl, q _ (I.hok.fresh (Nat.le_refl _))⟩
  · unfold signs
    rw [List.length_map, Array.length_toList]
    exact hz
  · rw [hS]
end

/-! ### comprehensions over a list whose items are told by things of any kind -/
open Evl in
theorem given_map {α : Type} (d : α) (p : α → Bool) (h : α → V) : ∀ ns : List α, given ns.length (fun i => p (ns.getD i d)) (fun i => h (ns.getD i d)) = (ns.filter p).map h := by
  have key : ∀ (r l : List α), given (l ++ r).length (fun i => p ((l ++ r).getD i d)) (fun i => h ((l ++ r).getD i d)) = given l.length (fun i => p ((l ++ r).getD i d)) (fun i => h ((l ++ r).getD i d)) ++ (r.filter p).map h := by
    intro r
    induction r with
    | nil =>
      intro l
      simp
    | cons x r ih =>
      intro l
      have e : l ++ x :: r = (l ++ [x]) ++ r := by simp
      rw [e, ih (l ++ [x])]
      have hx : ((l ++ [x]) ++ r).getD l.length d = x := by simp
      rw [show (l ++ [x]).length = l.length + 1 by simp]
      cases hp : p x with
      | true =>
        rw [given_yes (by rw [hx]; exact hp), hx, List.filter_cons_of_pos hp]
        simp
      | false =>
        rw [given_no (by rw [hx]; exact hp), List.filter_cons_of_neg (by simp [hp])]
  intro ns
  have e := key ns []
  simpa [given] using e
section
open Evl
variable {K : PySem.W.Frag} {σ : L2.St} {H : Hp} {te : TE} {t : TT}
theorem get_map {α : Type} {ns : List α} {f : α → V} {i : Nat} {x : V} (h : (ns.map f)[i]? = some x) (d : α) : ∃ y, ns[i]? = some y ∧ x = f y ∧ ns.getD i d = y ∧ y ∈ ns := by
  rw [List.getElem?_map] at h
  cases e : ns[i]? with
  | none =>
    rw [e] at h
    cases h
  | some y =>
    rw [e] at h
    exact ⟨y, rfl, (Option.some.inj h).symm, by rw [List.getD_eq_getElem?_getD, e]; rfl, List.mem_of_getElem? e⟩
/-- [te for x in a if t], a a list that stands -/
theorem el_map {α : Type} {a : Addr} {tl : TE} {j : Nat} {vs : List Nat} (ns : List α) (f : α → V) (p : α → Bool) (h : α → V) (hl : Ev tl σ H (.ref a)) (hx : SqL K H a (ns.map f)) (hz : ns.length ≤ 40000) (hw : ∀ x, wipe ((wipe σ vs).set j (some x)) vs = wipe σ vs)
    (ht : ∀ x H1, Ex H H1 → x ∈ ns → EvT t ((wipe σ vs).set j (some (f x))) H1 (p x)) (he : ∀ x H1, Ex H H1 → x ∈ ns → p x = true → Ev te ((wipe σ vs).set j (some (f x))) H1 (h x)) :
    EvL (tLc (iList K tl) (gName j) t te vs) σ H ((ns.filter p).map h) := by
  cases ns with
  | nil => exact el_lcL (fun _ => false) (fun _ => .non) hl hx (Nat.zero_le _) hw (fun i x H1 _ e => nomatch e) (fun i x H1 _ e => nomatch e)
  | cons d r =>
    rw [← given_map d p h (d :: r), show (d :: r).length = ((d :: r).map f).length by simp]
    refine el_lcL _ _ hl hx (by rw [List.length_map]; exact hz) hw (fun i x H1 e hi => ?_) (fun i x H1 e hi hp => ?_)
    · obtain ⟨y, e1, rfl, e2, hm⟩ := get_map hi d
      rw [e2]
      exact ht y H1 e hm
    · obtain ⟨y, e1, rfl, e2, hm⟩ := get_map hi d
      rw [e2] at hp ⊢
      exact he y H1 e hm hp
/-- .. over a new list -/
theorem el_mapN {α : Type} {tl : TE} {j : Nat} {vs : List Nat} (ns : List α) (f : α → V) (p : α → Bool) (h : α → V) (hl : EvL tl σ H (ns.map f)) (hz : ns.length ≤ 40000) (hw : ∀ x, wipe ((wipe σ vs).set j (some x)) vs = wipe σ vs)
    (ht : ∀ x H1, Ex H H1 → x ∈ ns → EvT t ((wipe σ vs).set j (some (f x))) H1 (p x)) (he : ∀ x H1, Ex H H1 → x ∈ ns → p x = true → Ev te ((wipe σ vs).set j (some (f x))) H1 (h x)) :
    EvL (tLc (iList K tl) (gName j) t te vs) σ H ((ns.filter p).map h) := by
  cases ns with
  | nil => exact el_lcNL (fun _ => false) (fun _ => .non) hl (Nat.zero_le _) hw (fun i x H1 _ e => nomatch e) (fun i x H1 _ e => nomatch e)
  | cons d r =>
    rw [← given_map d p h (d :: r), show (d :: r).length = ((d :: r).map f).length by simp]
    refine el_lcNL _ _ hl (by rw [List.length_map]; exact hz) hw (fun i x H1 e hi => ?_) (fun i x H1 e hi hp => ?_)
    · obtain ⟨y, e1, rfl, e2, hm⟩ := get_map hi d
      rw [e2]
      exact ht y H1 e hm
    · obtain ⟨y, e1, rfl, e2, hm⟩ := get_map hi d
      rw [e2] at hp ⊢
      exact he y H1 e hm hp
theorem et_yes : EvT tYes σ H true := fun H1 _ _ q => q H1 (Ex.refl H1)
end
end Hc
set_option maxHeartbeats 4000000
/-! Shapes as texts and as trees. -/
namespace Hs
open PySem PySem.Spec PyProof.Rows L2
abbrev S (l : List Nat) : Str := ⟨l.toArray⟩
theorem S_len (a : List Nat) : (S a).length = a.length := by simp [S, Str.length]
theorem S_cat (a b : List Nat) : S a ++ S b = S (a ++ b) := TL.ext_tl (TL.tl_append (S a) (S b))
theorem S_inj {a b : List Nat} (h : S a = S b) : a = b := congrArg (fun x : Str => x.cps.toList) h
theorem S_tl (x : Str) : S x.cps.toList = x := TL.mk_tl x
theorem join_S (a : List Nat) (ys : List (List Nat)) : Txt.join (S a) (ys.map S) = S (TL.joinL a ys) := SX.join_S a ys

/-! ### texts -/
theorem cut_nn (L : List Nat) (i j : Nat) : cutS (S L) (some (i : Int)) (some (j : Int)) = S ((L.drop i).take (j - i)) := by
  unfold cutS
  rw [HT.sIx_nat, HT.sIx_nat, S_len]
  congr 2
  show (L.drop (min i L.length)).take (min j L.length - min i L.length) = (L.drop i).take (j - i)
  by_cases h : i ≤ L.length
  · rw [Nat.min_eq_left h]
    by_cases h2 : j ≤ L.length
    · rw [Nat.min_eq_left h2]
    · rw [Nat.min_eq_right (by omega), List.take_of_length_le (l := L.drop i) (i := L.length - i) (by rw [List.length_drop]; omega), List.take_of_length_le (by rw [List.length_drop]; omega)]
  · rw [Nat.min_eq_right (a := i) (by omega), List.drop_of_length_le (by omega), List.drop_of_length_le (l := L) (i := i) (by omega)]
    simp
theorem cut_n (L : List Nat) (i : Nat) : cutS (S L) (some (i : Int)) none = S (L.drop i) := by
  unfold cutS
  rw [HT.sIx_nat, HT.sIx_none, S_len]
  congr 2
  show (L.drop (min i L.length)).take (L.length - min i L.length) = L.drop i
  by_cases h : i ≤ L.length
  · rw [Nat.min_eq_left h, List.take_of_length_le (by rw [List.length_drop]; omega)]
  · rw [Nat.min_eq_right (by omega), List.drop_of_length_le (by omega), List.drop_of_length_le (l := L) (i := i) (by omega)]
    simp
/-- text[1:-1] -/
def inner (L : List Nat) : List Nat := (L.drop 1).take (L.length - 2)
theorem cut_in (L : List Nat) : cutS (S L) (some (1 : Int)) (some (-1 : Int)) = S (inner L) := by
  unfold cutS inner
  rw [show (1 : Int) = ((1 : Nat) : Int) from rfl, HT.sIx_nat, S_len]
  have e : HT.sIx L.length L.length (some (-((1 : Nat) : Int))) = L.length - 1 := by
    unfold HT.sIx
    dsimp only
    rw [if_pos (by decide)]
    omega
  rw [e]
  congr 2
  show (L.drop (min 1 L.length)).take (L.length - 1 - min 1 L.length) = (L.drop 1).take (L.length - 2)
  by_cases h : 1 ≤ L.length
  · rw [Nat.min_eq_left h, Nat.sub_sub]
  · rw [Nat.min_eq_right (by omega), List.drop_of_length_le (by omega), List.drop_of_length_le (l := L) (i := 1) (by omega)]
    simp
theorem inner_len (L : List Nat) : (inner L).length ≤ L.length := by
  unfold inner
  rw [List.length_take, List.length_drop]
  omega
theorem starts1 (L : List Nat) (c : Nat) : Txt.startswith (S L) (S [c]) = (L.head? == some c) := by
  unfold Txt.startswith
  rw [StrLaws.subAt_eq, S_len, S_len]
  show (decide (0 + 1 ≤ L.length) && ((L.drop 0).take 1 == [c])) = _
  cases L with
  | nil => rfl
  | cons x r =>
    rw [List.drop_zero, List.take_succ_cons, List.take_zero, List.length_cons, List.head?_cons, decide_eq_true (by omega)]
    show ([x] == [c]) = (some x == some c)
    by_cases h : x = c
    · subst h; simp
    · simp [h]
theorem ends1 (L : List Nat) (c : Nat) : Txt.endswith (S L) (S [c]) = (L.getLast? == some c) := by
  unfold Txt.endswith
  rw [StrLaws.subAt_eq, S_len, S_len]
  show (decide (0 + 1 ≤ L.length) && ((L.drop (L.length - 1)).take 1 == [c])) = _
  rcases List.eq_nil_or_concat L with rfl | ⟨l, x, rfl⟩
  · rfl
  · rw [List.concat_eq_append, List.getLast?_append]
    simp
theorem count1 (L : List Nat) (c : Nat) : Txt.count (S L) (S [c]) = ((L.count c : Nat) : Int) := by
  show Txt.count (S L) ⟨#[c]⟩ = _
  rw [count_cnt]
  show cnt c L = _
  induction L with
  | nil => rfl
  | cons x r ih =>
    rw [cnt_cons, ih, List.count_cons]
    by_cases h : x = c
    · subst h
      simp
      omega
    · simp [h]

/-! ### parts -/
abbrev SS := List (List Nat) × Int × Nat
def stepP (L : List Nat) (st : SS) (at_ c : Nat) : SS :=
  if c ∈ [91, 40] then (st.1, st.2.1 + 1, st.2.2)
  else if c ∈ [41, 93] then (st.1, st.2.1 - 1, st.2.2)
  else if st.2.1 = 0 ∧ (L.drop at_).take 2 = [44, 32] then (st.1 ++ [(L.drop st.2.2).take (at_ - st.2.2)], st.2.1, at_ + 2)
  else st
def scan (L : List Nat) : List Nat → Nat → SS → SS
  | [], _, st => st
  | c :: r, i, st => scan L r (i + 1) (stepP L st i c)
def partsOf (L : List Nat) : List (List Nat) := (scan L L 0 ([], 0, 0)).1 ++ [L.drop (scan L L 0 ([], 0, 0)).2.2]

theorem scan_len (L : List Nat) : ∀ (r : List Nat) (i : Nat) (st : SS), (scan L r i st).1.length ≤ st.1.length + r.length
  | [], _, _ => Nat.le_refl _
  | c :: r, i, st => by
    show (scan L r (i + 1) (stepP L st i c)).1.length ≤ _
    have h := scan_len L r (i + 1) (stepP L st i c)
    have h2 : (stepP L st i c).1.length ≤ st.1.length + 1 := by
      unfold stepP
      split
      · exact Nat.le_succ _
      · split
        · exact Nat.le_succ _
        · split
          · simp
          · exact Nat.le_succ _
    rw [List.length_cons]
    omega
theorem partsOf_len (L : List Nat) : (partsOf L).length ≤ L.length + 1 := by
  unfold partsOf
  have h := scan_len L L 0 ([], 0, 0)
  rw [List.length_append, List.length_singleton]
  simpa using h
theorem scan_items (L : List Nat) : ∀ (r : List Nat) (i : Nat) (st : SS), (∀ p ∈ st.1, p.length ≤ L.length) → ∀ p ∈ (scan L r i st).1, p.length ≤ L.length
  | [], _, _, h => h
  | c :: r, i, st, h => by
    refine scan_items L r (i + 1) (stepP L st i c) ?_
    unfold stepP
    split
    · exact h
    · split
      · exact h
      · split
        · intro p hp
          rcases List.mem_append.mp hp with hp | hp
          · exact h p hp
          · rw [List.mem_singleton.mp hp, List.length_take, List.length_drop]
            omega
        · exact h
theorem partsOf_items (L : List Nat) : ∀ p ∈ partsOf L, p.length ≤ L.length := by
  intro p hp
  unfold partsOf at hp
  rcases List.mem_append.mp hp with hp | hp
  · exact scan_items L L 0 ([], 0, 0) (fun p hp => nomatch hp) p hp
  · rw [List.mem_singleton.mp hp, List.length_drop]
    omega

/-! ### forms -/
def hasForm : Nat → List Nat → Bool
  | 0, t => decide (t = [46])
  | f + 1, t => decide (t = [46]) || ((t.head? == some 91) && (t.getLast? == some 93) && (decide ((partsOf (inner t)).length ≤ 3) && (partsOf (inner t)).all (hasForm f)))
def isShape (t : List Nat) : Bool := decide (t.count 91 ≤ 5) && hasForm 3 t
theorem form_up : ∀ (f : Nat) (t : List Nat), hasForm f t = true → hasForm (f + 1) t = true
  | 0, t, h => by
    show (decide (t = [46]) || _) = true
    have h' : decide (t = [46]) = true := h
    rw [h']
    rfl
  | f + 1, t, h => by
    have h' : (decide (t = [46]) || ((t.head? == some 91) && (t.getLast? == some 93) && (decide ((partsOf (inner t)).length ≤ 3) && (partsOf (inner t)).all (hasForm f)))) = true := h
    show (decide (t = [46]) || ((t.head? == some 91) && (t.getLast? == some 93) && (decide ((partsOf (inner t)).length ≤ 3) && (partsOf (inner t)).all (hasForm (f + 1))))) = true
    rw [Bool.or_eq_true] at h' ⊢
    rcases h' with h' | h'
    · exact .inl h'
    · rw [Bool.and_eq_true, Bool.and_eq_true, Bool.and_eq_true] at h' ⊢
      obtain ⟨⟨a, b⟩, c, d⟩ := h'
      refine .inr ⟨⟨a, b⟩, c, ?_⟩
      rw [List.all_eq_true] at d ⊢
      exact fun p hp => form_up f p (d p hp)
theorem form_le {f g : Nat} (h : f ≤ g) {t : List Nat} (x : hasForm f t = true) : hasForm g t = true := by
  induction h with
  | refl => exact x
  | step _ ih => exact form_up _ _ ih

/-! ### trees: lists of lists, n floors at most -/
def Tre : Nat → Type
  | 0 => Unit
  | n + 1 => List (Tre n)
def txt : (n : Nat) → Tre n → List Nat
  | 0, _ => [46]
  | n + 1, (l : List (Tre n)) => if l.isEmpty then [46] else 91 :: (TL.joinL [44, 32] (l.map (txt n)) ++ [93])
def lsts : (n : Nat) → Tre n → Nat
  | 0, _ => 0
  | n + 1, (l : List (Tre n)) => if l.isEmpty then 0 else 1 + (l.map (lsts n)).sum
def dep : (n : Nat) → Tre n → Nat
  | 0, _ => 0
  | n + 1, (l : List (Tre n)) => if l.isEmpty then 0 else 1 + (l.map (dep n)).foldl max 0
def slim : (n : Nat) → Tre n → Bool
  | 0, _ => true
  | n + 1, (l : List (Tre n)) => decide (l.length ≤ 3) && l.all (slim n)
theorem txt_nil (n : Nat) : txt (n + 1) ([] : List (Tre n)) = [46] := rfl
theorem txt_cons (n : Nat) (x : Tre n) (r : List (Tre n)) : txt (n + 1) (x :: r : List (Tre n)) = 91 :: (TL.joinL [44, 32] ((x :: r).map (txt n)) ++ [93]) := rfl
theorem joinL_cons (s p q : List Nat) (r : List (List Nat)) : TL.joinL s (p :: q :: r) = p ++ (s ++ TL.joinL s (q :: r)) := rfl

theorem scan_app (L : List Nat) : ∀ (a r : List Nat) (i : Nat) (st : SS), scan L (a ++ r) i st = scan L r (i + a.length) (scan L a i st)
  | [], r, i, st => rfl
  | c :: a, r, i, st => by
    show scan L (a ++ r) (i + 1) (stepP L st i c) = scan L r (i + (a.length + 1)) (scan L a (i + 1) (stepP L st i c))
    rw [scan_app L a r (i + 1), show i + 1 + a.length = i + (a.length + 1) by omega]
theorem drop_app {L a r : List Nat} {i : Nat} (h : L.drop i = a ++ r) : L.drop (i + a.length) = r := by
  rw [← List.drop_drop, h, List.drop_left]
/-- a text of a shape leaves the scan as it was -/
theorem scan_txt : ∀ (n : Nat) (t : Tre n) (L r : List Nat) (i : Nat) (p : List (List Nat)) (k : Int) (s : Nat), 0 ≤ k → L.drop i = txt n t ++ r → scan L (txt n t) i (p, k, s) = (p, k, s) := by
  have dot : ∀ (L r : List Nat) (i : Nat) (p : List (List Nat)) (k : Int) (s : Nat), L.drop i = [46] ++ r → scan L [46] i (p, k, s) = (p, k, s) := by
    intro L r i p k s h
    show stepP L (p, k, s) i 46 = (p, k, s)
    unfold stepP
    rw [if_neg (by decide), if_neg (by decide), h, if_neg (by simp)]
  intro n
  induction n with
  | zero => exact fun t L r i p k s _ h => dot L r i p k s h
  | succ n ih =>
    intro t L r i p k s hk h
    match t, h with
    | [], h => exact dot L r i p k s h
    | x :: l, h =>
      rw [txt_cons] at h ⊢
      -- the items, within one bracket more
      have items : ∀ (l : List (Tre n)) (x : Tre n) (j : Nat) (q : List Nat) (k : Int), 0 < k → L.drop j = TL.joinL [44, 32] ((x :: l).map (txt n)) ++ q → scan L (TL.joinL [44, 32] ((x :: l).map (txt n))) j (p, k, s) = (p, k, s) := by
        intro l
        induction l with
        | nil =>
          intro x j q k hk h
          exact ih x L q j p k s (by omega) h
        | cons y l ih2 =>
          intro x j q k hk h
          rw [List.map_cons, List.map_cons, joinL_cons] at h ⊢
          rw [scan_app, ih x L ([44, 32] ++ TL.joinL [44, 32] (txt n y :: l.map (txt n)) ++ q) j p k s (by omega) (by rw [h]; simp), scan_app]
          have e : scan L [44, 32] (j + (txt n x).length) (p, k, s) = (p, k, s) := by
            show stepP L (stepP L (p, k, s) _ 44) _ 32 = (p, k, s)
            have one : ∀ (m c : Nat), c ∉ [91, 40] → c ∉ [41, 93] → stepP L (p, k, s) m c = (p, k, s) := by
              intro m c h1 h2
              unfold stepP
              rw [if_neg h1, if_neg h2, if_neg (by rintro ⟨z, _⟩; exact absurd z (by show ¬ k = 0; omega))]
            rw [one _ 44 (by decide) (by decide), one _ 32 (by decide) (by decide)]
          rw [e]
          refine ih2 y _ q k hk ?_
          have d1 : L.drop (j + (txt n x).length) = [44, 32] ++ (TL.joinL [44, 32] (txt n y :: l.map (txt n)) ++ q) := drop_app (a := txt n x) (by rw [h]; simp)
          exact drop_app (a := [44, 32]) d1
      show scan L (TL.joinL [44, 32] ((x :: l).map (txt n)) ++ [93]) (i + 1) (stepP L (p, k, s) i 91) = (p, k, s)
      have e1 : stepP L (p, k, s) i 91 = (p, k + 1, s) := by
        unfold stepP
        rw [if_pos (by decide)]
      rw [e1, scan_app, items l x (i + 1) ([93] ++ r) (k + 1) (by omega) (by
        have := drop_app (a := [91]) (r := TL.joinL [44, 32] ((x :: l).map (txt n)) ++ [93] ++ r) (L := L) (i := i) (by rw [h]; simp)
        rw [show i + 1 = i + [91].length by rfl, this]
        simp)]
      show stepP L (p, k + 1, s) (i + 1 + (TL.joinL [44, 32] ((x :: l).map (txt n))).length) 93 = (p, k, s)
      unfold stepP
      rw [if_neg (by decide), if_pos (by decide)]
      show (p, k + 1 - 1, s) = (p, k, s)
      rw [Int.add_sub_cancel]
theorem scan_join (n : Nat) : ∀ (l : List (Tre n)) (x : Tre n) (L : List Nat) (i : Nat) (p : List (List Nat)), L.drop i = TL.joinL [44, 32] ((x :: l).map (txt n)) →
    (scan L (TL.joinL [44, 32] ((x :: l).map (txt n))) i (p, 0, i)).1 ++ [L.drop (scan L (TL.joinL [44, 32] ((x :: l).map (txt n))) i (p, 0, i)).2.2] = p ++ (x :: l).map (txt n) := by
  intro l
  induction l with
  | nil =>
    intro x L i p h
    have e := scan_txt n x L [] i p 0 i (Int.le_refl 0) (by rw [List.append_nil]; exact h)
    show (scan L (txt n x) i (p, 0, i)).1 ++ [L.drop (scan L (txt n x) i (p, 0, i)).2.2] = p ++ [txt n x]
    rw [e]
    show p ++ [L.drop i] = _
    rw [h]
    rfl
  | cons y l ih =>
    intro x L i p h
    rw [List.map_cons, List.map_cons, joinL_cons] at h ⊢
    rw [scan_app, scan_app, scan_txt n x L _ i p 0 i (Int.le_refl 0) h]
    have d1 : L.drop (i + (txt n x).length) = [44, 32] ++ TL.joinL [44, 32] (txt n y :: l.map (txt n)) := drop_app h
    have e : scan L [44, 32] (i + (txt n x).length) (p, 0, i) = (p ++ [txt n x], 0, i + (txt n x).length + 2) := by
      show stepP L (stepP L (p, 0, i) _ 44) _ 32 = _
      have e1 : stepP L (p, 0, i) (i + (txt n x).length) 44 = (p ++ [txt n x], 0, i + (txt n x).length + 2) := by
        unfold stepP
        rw [if_neg (by decide), if_neg (by decide), if_pos ⟨rfl, by rw [d1]; rfl⟩]
        show (p ++ [(L.drop i).take (i + (txt n x).length - i)], _, _) = _
        rw [h, Nat.add_sub_cancel_left, List.take_left]
      rw [e1]
      have d2 : L.drop (i + (txt n x).length + 1) = 32 :: TL.joinL [44, 32] (txt n y :: l.map (txt n)) := by
        rw [← List.drop_drop, d1]
        rfl
      unfold stepP
      rw [if_neg (by decide), if_neg (by decide), if_neg (by rw [d2]; rintro ⟨_, z⟩; simp at z)]
    rw [e]
    have d3 : L.drop (i + (txt n x).length + 2) = TL.joinL [44, 32] (txt n y :: l.map (txt n)) := drop_app (a := [44, 32]) d1
    have z := ih y L (i + (txt n x).length + 2) (p ++ [txt n x]) d3
    rw [List.map_cons] at z
    refine z.trans ?_
    simp
theorem parts_txt (n : Nat) (x : Tre n) (l : List (Tre n)) : partsOf (inner (txt (n + 1) (x :: l : List (Tre n)))) = (x :: l).map (txt n) := by
  have e : inner (txt (n + 1) (x :: l : List (Tre n))) = TL.joinL [44, 32] ((x :: l).map (txt n)) := by
    rw [txt_cons]
    unfold inner
    rw [List.drop_one, List.tail_cons, List.length_cons, List.length_append, List.length_singleton]
    show List.take (_ + 1 + 1 - 2) _ = _
    rw [show (TL.joinL [44, 32] ((x :: l).map (txt n))).length + 1 + 1 - 2 = (TL.joinL [44, 32] ((x :: l).map (txt n))).length by omega, List.take_left]
  rw [e]
  unfold partsOf
  have z := scan_join n l x (TL.joinL [44, 32] ((x :: l).map (txt n))) 0 [] rfl
  rw [z]
  rfl
theorem txt_head (n : Nat) (x : Tre n) (l : List (Tre n)) : (txt (n + 1) (x :: l : List (Tre n))).head? = some 91 := rfl
theorem txt_last (n : Nat) (x : Tre n) (l : List (Tre n)) : (txt (n + 1) (x :: l : List (Tre n))).getLast? = some 93 := by
  rw [txt_cons, ← List.cons_append, List.getLast?_append]
  rfl
theorem txt_form : ∀ (n : Nat) (t : Tre n), slim n t = true → hasForm n (txt n t) = true
  | 0, _, _ => rfl
  | n + 1, [], _ => rfl
  | n + 1, x :: l, h => by
    have h' : (decide ((x :: l).length ≤ 3) && (x :: l).all (slim n)) = true := h
    rw [Bool.and_eq_true, List.all_eq_true] at h'
    unfold hasForm
    rw [parts_txt, txt_head, txt_last, List.length_map, h'.1, List.all_map]
    have e : (x :: l).all (hasForm n ∘ txt n) = true := List.all_eq_true.mpr fun y hy => txt_form n y (h'.2 y hy)
    rw [e]
    simp
theorem txt_dot {n : Nat} {x : Tre n} {l : List (Tre n)} : txt (n + 1) (x :: l : List (Tre n)) ≠ [46] := by
  rw [txt_cons]
  intro z
  simp at z
theorem count_join (l : List (List Nat)) : (TL.joinL [44, 32] l).count 91 = (l.map (·.count 91)).sum := by
  induction l with
  | nil => rfl
  | cons p r ih =>
    cases r with
    | nil => simp [TL.joinL]
    | cons q r =>
      rw [joinL_cons, List.count_append, List.count_append, ih]
      simp
theorem txt_count : ∀ (n : Nat) (t : Tre n), (txt n t).count 91 = lsts n t
  | 0, _ => rfl
  | n + 1, [] => rfl
  | n + 1, x :: l => by
    rw [txt_cons, List.count_cons, List.count_append, count_join, List.map_map]
    show (((x :: l).map ((·.count 91) ∘ txt n)).sum + [93].count 91) + _ = 1 + ((x :: l).map (lsts n)).sum
    have e : (x :: l).map ((·.count 91) ∘ txt n) = (x :: l).map (lsts n) := List.map_congr_left fun y _ => txt_count n y
    rw [e]
    simp
    omega
/-- trees with one text are one tree -/
theorem txt_inj : ∀ (n : Nat) (a b : Tre n), txt n a = txt n b → a = b
  | 0, _, _, _ => rfl
  | n + 1, [], [], _ => rfl
  | n + 1, [], y :: m, h => absurd h.symm txt_dot
  | n + 1, x :: l, [], h => absurd h txt_dot
  | n + 1, x :: l, y :: m, h => by
    have e : (x :: l).map (txt n) = (y :: m).map (txt n) := by rw [← parts_txt, ← parts_txt, h]
    have key : ∀ (p q : List (Tre n)), p.map (txt n) = q.map (txt n) → p = q := by
      intro p
      induction p with
      | nil =>
        intro q hq
        cases q with
        | nil => rfl
        | cons _ _ => simp at hq
      | cons c p ih =>
        intro q hq
        cases q with
        | nil => simp at hq
        | cons d q =>
          simp only [List.map_cons, List.cons.injEq] at hq
          rw [txt_inj n c d hq.1, ih q hq.2]
    exact key _ _ e
end Hs
set_option maxHeartbeats 4000000
/-! Exceptions of the text's own classes as values, over any built-in base: made by their own maker, their fields stored and read, isinstance. -/
namespace PySem
namespace HcX
open PySem.W PySem.Calls PyProof.Rows PySem.HandSPX
open Builtin Builtin.ObjectAttr
section
variable {prog : Program} {w : World} {A : Around} {E : Value → Shared → Prop} {R : Result → Shared → Prop} {hp : Heap} {g : Array GenState} {d : Drawn} {t : Nat} {os : OsState} {K : W.Frag} {B : String} {bmB : List Value}
/-- the first field of an exception that has no dict yet -/
theorem first_field {name : Str} {tk : Tok} {v : Value} {x C : Addr} {fv : Array Value} (SF : StoreFacts B bmB "object.__setattr__" "object") (X : K.In hp) (hx : hp.get? x = some { cls := .ref C, data := .fields fv })
    (ov : excOver K C bmB = true) (hd : hasDictIn K C = true) (ha : findIn K (.ref C) name = some none)
    (hq : ∀ h' tk' dx, (∀ b o, b ≠ x → hp.get? b = some o → h'.get? b = some o) → hp.objs.size ≤ dx → dx ≠ x → h'.get? x = some { cls := .ref C, dict := some dx, data := .fields fv } →
      h'.Ns1 dx (fun y => if y = name then some v else none) → R (.ok (.ret .none)) ⟨h', g, d, tk', os⟩) :
    codeAny (model prog w) A (.call (.builtin "object.__setattr__") ⟨[.ref x, .str name tk, v], []⟩) R ⟨hp, g, d, t, os⟩ := by
  obtain ⟨cd, hcd, hh⟩ := any_some hd
  have far : x ≠ hp.objs.size := Nat.ne_of_lt (Heap.lt_size hx)
  have taker : takerIn K C name = some none := by
    unfold takerIn
    rw [ha] <;> rfl
  have look : Looks (model prog w) hp (classData C) cd := looks_clsIn X hcd
  refine osa_openX (od := none) (r := none) SF X ⟨hx, rfl, rfl, trivial⟩ ov taker fun b => ?_
  show wpAny _ _ (storeInOwnDict (.ref x) (.ref C) (.str name tk) name v b) _ _ _
  obtain ⟨n1, n2, n3, n4, n5, dct, n6, n7, n8, n9, n10⟩ := cd
  have e : dct = true := hh
  subst e
  unfold storeInOwnDict ownDictForStores
  repeat (first | with_reducible refine store_in_new ?_ ?_ | with_reducible refine wpAny_loadPart_at hx ?_ | with_reducible refine look.at ?_ | wp_step)
  · exact ⟨_, #[], _, (Heap.get?_update_ne _ _ _ _ far.symm).trans (Heap.get?_push_at rfl rfl), rfl, fun e he => absurd he (by simp), fun _ => rfl⟩
  · intro h' tk' hn' hs
    have there : (hp.push { cls := .type "dict", data := .dict #[] }).get? x = some { cls := .ref C, data := .fields fv } := Heap.get?_push_of_some _ hx
    exact hq h' tk' hp.objs.size (fun b o hb ho => (hs.2 b (Nat.ne_of_lt (Heap.lt_size ho))).trans ((Heap.get?_update_ne _ _ _ _ hb).trans (Heap.get?_push_of_some _ ho))) (Nat.le_refl _) far.symm
      ((hs.2 x far).trans (Heap.get?_update_self _ there rfl)) hn'
/-- a further field -/
theorem next_field {name : Str} {tk : Tok} {v : Value} {x C dx : Addr} {fv : Array Value} {m0 : Str → Option Value} {nl : List Str} (SF : StoreFacts B bmB "object.__setattr__" "object") (X : K.In hp)
    (hx : hp.get? x = some { cls := .ref C, dict := some dx, data := .fields fv }) (hns : hp.Ns1 dx m0) (hw : Within m0 nl) (hz : nl.length ≤ 1000) (ov : excOver K C bmB = true) (hd : hasDictIn K C = true) (ha : findIn K (.ref C) name = some none)
    (hq : ∀ h' tk', (∀ b o, b ≠ dx → hp.get? b = some o → h'.get? b = some o) → h'.Ns1 dx (fun y => if y = name then some v else m0 y) → R (.ok (.ret .none)) ⟨h', g, d, tk', os⟩) :
    codeAny (model prog w) A (.call (.builtin "object.__setattr__") ⟨[.ref x, .str name tk, v], []⟩) R ⟨hp, g, d, t, os⟩ := by
  obtain ⟨oD, _, _, hoD, _, _⟩ := hns.count hw
  obtain ⟨cd, hcd, hh⟩ := any_some hd
  have taker : takerIn K C name = some none := by
    unfold takerIn
    rw [ha] <;> rfl
  have look : Looks (model prog w) hp (classData C) cd := looks_clsIn X hcd
  refine osa_openX (od := some oD) (r := none) SF X ⟨hx, rfl, rfl, hoD⟩ ov taker fun b => ?_
  show wpAny _ _ (storeInOwnDict (.ref x) (.ref C) (.str name tk) name v b) _ _ _
  obtain ⟨n1, n2, n3, n4, n5, dct, n6, n7, n8, n9, n10⟩ := cd
  have e : dct = true := hh
  subst e
  unfold storeInOwnDict ownDictForStores
  repeat (first | with_reducible refine OEX.store_in_old hns hw hz ?_ | with_reducible refine wpAny_loadPart_at hx ?_ | with_reducible refine look.at ?_ | wp_step)
  exact fun h' tk' hn' hs => hq h' tk' (fun b o hb ho => (hs.2 b hb).trans ho) hn'
end
end HcX
end PySem

namespace Hc
open PySem PySem.Spec PyProof.Rows L2
/-- what the written part says of an own exception class over B -/
structure Xc (K : PySem.W.Frag) (C : Addr) (bmB : List Value) (newId : String) : Prop where
  ini : PySem.W.excInitIn K C bmB newId = true
  ov : PySem.W.excOver K C bmB = true
  hd : PySem.W.hasDictIn K C = true
  sa : PySem.W.findIn K (.ref C) "__setattr__" = some (some (.builtin "object.__setattr__"))
  kC : PySem.W.keepIn K (.ref C) = true
  xf : XfC K C
  ex : ExcC K C

section
variable {X : Cx} {pins : List (Addr × Obj)} {σ : L2.St} {H : Hp} {s : Shared} {a C dx : Addr} {f : Str} {y : V} {u : Value} {fs : List (Str × V)} {Q : Unit → Shared → Prop} {E : Value → Shared → Prop} {A : Around} {B newId : String} {bmB : List Value}
/-- self.f = y, the first -/
theorem xst_new (SF : StoreFacts B bmB "object.__setattr__" "object") (T : Xc X.K C bmB newId) (I : Inv X pins σ H s) (e : H a = some (exo a C none)) (hno : PySem.W.findIn X.K (.ref C) f = some none) (ry : RelV y u)
    (h : ∀ dx s', H dx = none → dx ≠ a → Inv X pins σ (upd (upd H dx (exd dx [(f, y)])) a (exo a C (some dx))) s' → Q () s') : wpAny (model X.prog X.w) A (setAttr (.ref a) f u) Q E s := by
  obtain ⟨t1, ho⟩ := exo_at I.hok e
  obtain ⟨hp, g, d, t, os⟩ := s
  refine PySem.W.set_plain I.kIn (ox := { cls := .ref C, dict := none, data := .fields #[.ref t1, .none, .none, .none, .bool false, .none] }) (od := none) ⟨ho, rfl, rfl, trivial⟩ T.sa ?_
  refine PySem.HcX.first_field SF I.kIn ho T.ov T.hd hno fun h' tk' dx k dn dne hx hn => ?_
  have hnd : H dx = none := I.hok.fresh dn
  have nd : ∀ {b : Addr} {o : Obj}, hp.get? b = some o → b ≠ dx := fun {b o} q => Nat.ne_of_lt (Nat.lt_of_lt_of_le (Heap.lt_size q) dn)
  have na : ∀ {b : Addr}, H b = none → b ≠ a := fun {b} n z => by
    rw [z, e] at n
    cases n
  have U : Un X.fs [] H (upd (upd H dx (exd dx [(f, y)])) a (exo a C (some dx))) hp h' := {
    keep := fun b o q n _ _ => k b o (na n) q
    slot := fun b o q n _ _ => ⟨o.slots, k b o (na n) q⟩
    free := fun b o q n _ => (upd_ne (na n)).trans ((upd_ne (nd q)).trans n)
    there := fun b o q _ => by
      by_cases hb : b = a
      · exact ⟨_, hb ▸ hx⟩
      · exact ⟨o, k b o hb q⟩
    tups := fun b xs q => (upd_ne (at_ne e q exo_tup)).trans ((upd_ne (ne_of_none q hnd)).trans q)
    frzs := fun b o v q => (upd_ne (at_ne e q exo_frz)).trans ((upd_ne (ne_of_none q hnd)).trans q)
    tbls := fun b ps q => ⟨#[], by rw [upd_ne (at_ne e q exo_tbl), upd_ne (ne_of_none q hnd), q]; simp⟩ }
  refine h dx _ hnd dne (I.un (t' := tk') U fun b o q => ?_)
  by_cases hb : b = a
  · subst hb
    rw [upd_same] at q
    cases q
    exact exo_ok hx
  · rw [upd_ne hb] at q
    by_cases hd : b = dx
    · subst hd
      rw [upd_same] at q
      cases q
      exact exd_ok hn (relO_put (fs := []) ry fun _ => trivial)
    · rw [upd_ne hd] at q
      refine (I.hok b o q).stay (fun c v hc z => k c v (hc.elim (fun i => i ▸ hb) fun i => at_ne e i exo_own) z) (fun c hc => ?_) fun c xs hc => ?_
      · exact (upd_ne (at_ne e hc exo_own)).trans ((upd_ne (ne_of_none hc hnd)).trans hc)
      · exact (upd_ne (at_ne e hc exo_tup)).trans ((upd_ne (ne_of_none hc hnd)).trans hc)
/-- self.f = y, a further one -/
theorem xst_old (SF : StoreFacts B bmB "object.__setattr__" "object") (T : Xc X.K C bmB newId) (I : Inv X pins σ H s) (e : H a = some (exo a C (some dx))) (ed : H dx = some (exd dx fs)) (hl : fs.length ≤ 900) (hno : PySem.W.findIn X.K (.ref C) f = some none) (ry : RelV y u)
    (h : ∀ s', Inv X pins σ (upd H dx (exd dx ((f, y) :: fs))) s' → Q () s') : wpAny (model X.prog X.w) A (setAttr (.ref a) f u) Q E s := by
  obtain ⟨t1, ho⟩ := exo_at I.hok e
  obtain ⟨mA, hns, rel⟩ := exd_at I.hok ed
  have hw := within_of rel
  obtain ⟨hp, g, d, t, os⟩ := s
  obtain ⟨oD, _, _, hoD, _, _⟩ := hns.count hw
  refine PySem.W.set_plain I.kIn (ox := { cls := .ref C, dict := some dx, data := .fields #[.ref t1, .none, .none, .none, .bool false, .none] }) (od := some oD) ⟨ho, rfl, rfl, hoD⟩ T.sa ?_
  refine PySem.HcX.next_field SF I.kIn ho hns hw (by rw [List.length_map]; omega) T.ov T.hd hno fun h' tk' k hn => ?_
  obtain ⟨o2, _, _, e2, _⟩ := id hn
  exact h _ (I.write (t' := tk') (x := dx) (e := dx) (o := exd dx ((f, y) :: fs)) (by rw [ed]; exact True.intro) (.inl rfl) k ⟨o2, e2⟩ (exd_ok hn (relO_put ry rel)))
end

/-- self.f = e in an exception's maker -/
def tXst (K : PySem.W.Frag) (bmB : List Value) (newId : String) (f : Str) (to te : TE) : TS := fun D σ H => te σ H fun y H1 => to σ H1 fun x H2 => ∃ a C : Addr, x = .ref a ∧ Xc K C bmB newId ∧ PySem.W.findIn K (.ref C) f = some none ∧
  ((H2 a = some (exo a C none) ∧ ∀ dx, H2 dx = none → dx ≠ a → D.nx σ (upd (upd H2 dx (exd dx [(f, y)])) a (exo a C (some dx)))) ∨
    ∃ (dx : Addr) (fs : List (Str × V)), H2 a = some (exo a C (some dx)) ∧ H2 dx = some (exd dx fs) ∧ fs.length ≤ 900 ∧ D.nx σ (upd H2 dx (exd dx ((f, y) :: fs))))
/-- C(e, ..) as a value, C's own maker keeping sp -/
def tXmk (C : Addr) (sp : Sp) (ta : TA) : TE := fun σ H Q => ta σ H fun vs H1 => vs.length ≤ 1000 ∧ ∀ a, H1 a = none → sp (.ref a :: vs) (upd H1 a (exo a C none)) (fun v H2 => v = .non ∧ Q (.ref a) H2) (fun _ _ _ => False)
/-- e.f of an exception that has its dict -/
def tXfd (K : PySem.W.Frag) (f : Str) (te : TE) : TE := fun σ H Q => te σ H fun x H1 => ∃ (a C dd : Addr) (fs : List (Str × V)) (v : V), x = .ref a ∧ H1 a = some (exo a C (some dd)) ∧ H1 dd = some (exd dd fs) ∧ XfC K C ∧ PySem.W.findIn K (.ref C) f = some none ∧ fs.lookup f = some v ∧ Q v H1
/-- isinstance(e, c) of an exception -/
def rXis (K : PySem.W.Frag) : List V → Hp → VK → Prop := fun xs H Q => ∃ (a C : Addr) (c : V) (u : Value) (b : Bool), xs = [.ref a, c] ∧ ClsV c u ∧ ExcC K C ∧ (H a = some (exo a C none) ∨ ∃ (dd : Addr) (fs : List (Str × V)), H a = some (exo a C (some dd)) ∧ H dd = some (exd dd fs)) ∧ PySem.W.kitOne K (.ref C) u = some b ∧ Q (.bl b) H

section
variable {X : Cx} {o e : Expr} {es : List Expr} {to te : TE} {ta : TA} {f : Str} {p p' p1 p2 pos : Pos} {B newId initId : String} {bmB : List Value}
theorem ps_xst (SF : StoreFacts B bmB "object.__setattr__" "object") (ho : PE X o to) (he : PE X e te) (hs : swapsWith e (some (.Attribute o f p')) pos.line X.env = pure false := by rfl) : PS X (.Assign [.Attribute o f p'] e pos) (tXst X.K bmB newId f to te) := by
  refine ⟨fun pins s σ H D I h => ?_⟩
  refine plainObj_wpAny_Assign_Attribute (thn (he.run pins s σ H _ I h) fun v s1 ⟨y, H1, I1, r1, q1⟩ => thn (ho.run pins s1 σ H1 _ I1 q1) fun u s2 ⟨x, H2, I2, r2, a, C, ex, T, hno, q⟩ => ?_) hs
  subst ex
  cases (show u = Value.ref a from r2)
  rcases q with ⟨ea, q⟩ | ⟨dx, fs, ea, ed, hl, q⟩
  · exact xst_new SF T I2 ea hno r1 fun dx s' n ne J => ⟨σ, _, J, q dx n ne⟩
  · exact xst_old SF T I2 ea ed hl hno r1 fun s' J => ⟨σ, _, J, q⟩
theorem pe_xmk {x : Str} {C fI : Addr} {k : Nat} {fd : FuncData} {ps : List Str} {sp : Sp} (FB : ExcBaseFacts B newId initId bmB) (T : Xc X.K C bmB newId) (iC : PySem.W.findIn X.K (.ref C) "__init__" = some (some (.ref fI))) (tI : PySem.W.isFn X.K (.ref fI) = true)
    (F1 : FnOk X.prog X.w X.K X.mg X.base CX0 k fI fd ps sp) (hr : Room (k + 1) X.A) (hb : Binds X.K fd ps []) (hg : Gl X x) (hm : X.mg x = some (.ref C)) (ha : PA X (e :: es) ta)
    (hdb : (x == ("__debug__" : Str)) = false := by decide) (he : starEach (e :: es) X.env = (false, eval e X.env) :: starEach es X.env := by rfl) (hpl : (backTo pos (starEach es X.env)).any (·.1) = false := by rfl) :
    PE X (.Call (.Name x p) (e :: es) [] pos) (tXmk C sp ta) := by
  refine ⟨fun pins s σ H Q I h => ?_⟩
  refine wpAny_Call_Name_kw (ld_glob I hg hm ?_ hdb)
  refine PySem.W.callWith_K (h₀ := X.base) I.ok.mod.kin T.kC (thn (ha.run pos pins s σ H _ I h) fun us s1 ⟨vs, H1, I1, r1, hz, q1⟩ => ⟨I1.kIn, ?_⟩) he hpl
  show wpAny _ _ (call (.ref C) us) _ _ _
  obtain ⟨hp, g, dr, tk, os⟩ := s1
  obtain ⟨nm, N, qn, bs, bm, hdct, sn, sub, ab, col, dd, k0, k1, k2, k3, k5, hC, hT⟩ := PySem.W.excInit_of I1.kIn T.ini
  have hn : H1 (hp.objs.size + 1) = none := I1.hok.fresh (Nat.le_succ _)
  have kk : ∀ b o, hp.get? b = some o → ((hp.push (PySem.W.kdv_tup us)).push (PySem.HandSPX.excO C hp.objs.size)).get? b = some o := fun b o z => Heap.get?_push_of_some _ (Heap.get?_push_of_some _ z)
  have hget : ((hp.push (PySem.W.kdv_tup us)).push (PySem.HandSPX.excO C hp.objs.size)).get? (hp.objs.size + 1) = some (PySem.HandSPX.excO C hp.objs.size) := by heap_get
  have I2 : Inv X pins σ (upd H1 (hp.objs.size + 1) (exo (hp.objs.size + 1) C none)) ⟨(hp.push (PySem.W.kdv_tup us)).push (PySem.HandSPX.excO C hp.objs.size), g, dr, tk, os⟩ :=
    I1.laid (t' := tk) (a := hp.objs.size + 1) (o := exo (hp.objs.size + 1) C none) (h' := (hp.push (PySem.W.kdv_tup us)).push (PySem.HandSPX.excO C hp.objs.size)) kk (Nat.le_succ _) (exo_ok hget)
  have hq := q1 (hp.objs.size + 1) hn
  have r2 : Vals (V.ref (hp.objs.size + 1) :: vs) (Value.ref (hp.objs.size + 1) :: us) := .cons rfl r1
  have hl : (Value.ref (hp.objs.size + 1) :: us).length = ps.length := by rw [← r2.length, F1.len _ _ _ _ hq]
  have hus : us.length ≤ sizeLine := by
    rw [← r1.length, sizeLine_eq]
    omega
  have hb' := hb ⟨(hp.push (PySem.W.kdv_tup us)).push (PySem.HandSPX.excO C hp.objs.size), g, dr, tk, os⟩ (Value.ref (hp.objs.size + 1) :: us) I2.kIn (by rw [List.append_nil]; exact hl)
  rw [List.append_nil] at hb'
  refine wpAny_call (PySem.HandSPX.call_own FB hT hC (PySem.W.looks_findIn I1.kIn iC) (fun self => PySem.W.bind_fn I1.kIn self (beq_iff_eq.mp tI)) hus
    (codeAny_mono (F1.run _ X.stack _ _ ⟨Value.ref (hp.objs.size + 1) :: us, []⟩ _ _ _ (fun _ _ _ => False) (hr.make C us []) (I2.env0.make C us []) hb' r2 hq) fun r s' z => ?_))
  cases r with
  | error er => exact False.elim z
  | ok fl =>
    cases fl with
    | ret u =>
      obtain ⟨v, H2, os2, bare2, un2, hok2, rv, ev, q2⟩ := z
      subst ev
      refine ⟨rv, ?_⟩
      refine I1.after (Q := Q) ⟨.ref (hp.objs.size + 1), H2, os2, bare2, ?_, hok2, rfl, q2⟩
      exact (Un.laid (fs := frs X.stack) (ex := []) (o := exo (hp.objs.size + 1) C none) kk (Nat.le_succ _) hn).trans un2
    | next => exact False.elim z
    | brk => exact False.elim z
    | cont => exact False.elim z
/-- what is made of a class without a maker of its own -/
theorem xplain {pins : List (Addr × Obj)} {σ : L2.St} {H : Hp} {s : Shared} {Q : VK} {C : Addr} {vs : List V} {us : List Value} (FB : ExcBaseFacts B newId initId bmB) (q : PySem.W.excIn X.K C bmB newId = true) (I : Inv X pins σ H s) (r : Vals vs us) (hz : vs.length ≤ 1000)
    (q1 : ∀ a, H a = none → Q (.ref a) (upd H a (exo a C none))) : wpAny (model X.prog X.w) X.A (call (.ref C) us) (EP X pins σ Q) X.xe s := by
  obtain ⟨bm, N, nm, qn, bs, hdct, sn, sub, ab, col, dd, k0, k1, k2, k3, k5, mN, hC, hN, hni, T⟩ := exc_obj I.kIn q
  refine wpAny_call_exc_subT FB T hC hN hni (fun h' a hm => ?_) (by rw [← r.length, sizeLine_eq]; omega)
  have hn : H a = none := I.hok.gone hm.new
  obtain ⟨t, ht, _, _⟩ := hm.there
  exact ⟨.ref a, upd H a (exo a C none), I.laidN hm.keeps hm.new hn (exo_ok ht), rfl, q1 a hn⟩
/-- C(e) of such a class: a new exception object -/
theorem pe_xplain1 {x : Str} {C : Addr} (FB : ExcBaseFacts B newId initId bmB) (q : PySem.W.excIn X.K C bmB newId = true) (gC : X.mg x = some (.ref C)) (kC : PySem.W.keepIn X.K (.ref C) = true) (hg : Gl X x) (ha : PA X (e :: es) ta)
    (hdb : (x == ("__debug__" : Str)) = false := by decide) (he : starEach (e :: es) X.env = (false, eval e X.env) :: starEach es X.env := by rfl) (hpl : (backTo pos (starEach es X.env)).any (·.1) = false := by rfl) :
    PE X (.Call (.Name x p) (e :: es) [] pos) (fun σ H Q => ta σ H fun vs H1 => vs.length ≤ 1000 ∧ ∀ a, H1 a = none → Q (.ref a) (upd H1 a (exo a C none))) := by
  refine ⟨fun pins s σ H Q I h => wpAny_Call_Name_kw (ld_glob I hg gC ?_ hdb)⟩
  exact PySem.W.callWith_K (h₀ := X.base) I.ok.mod.kin kC (thn (ha.run pos pins s σ H _ I h) fun us s1 ⟨vs, H1, I1, r1, hz, q1⟩ => ⟨I1.kIn, xplain FB q I1 r1 hz q1⟩) he hpl
/-- C() of such a class -/
theorem pe_xplain0 {x : Str} {C : Addr} (FB : ExcBaseFacts B newId initId bmB) (q : PySem.W.excIn X.K C bmB newId = true) (gC : X.mg x = some (.ref C)) (kC : PySem.W.keepIn X.K (.ref C) = true) (hg : Gl X x)
    (hdb : (x == ("__debug__" : Str)) = false := by decide) :
    PE X (.Call (.Name x p) [] [] pos) (fun σ H Q => ∀ a, H a = none → Q (.ref a) (upd H a (exo a C none))) := by
  refine ⟨fun pins s σ H Q I h => wpAny_Call_Name_kw (ld_glob I hg gC ?_ hdb)⟩
  exact PySem.W.callWith_K0 I.kIn kC (xplain (us := []) FB q I .nil (by decide) h)
theorem pe_xfd (he : PE X e te) (hb : attributeBase e f X.env (eval e X.env) = eval e X.env := by rfl) : PE X (.Attribute e f pos) (tXfd X.K f te) := by
  refine ⟨fun pins s σ H Q I h => ?_⟩
  refine attr_of hb (thn (he.run pins s σ H _ I h) fun u s1 ⟨x, H1, I1, rx, a, C, dd, fs, v, ex, ea, ed, T, hno, l, q⟩ => ?_)
  subst ex
  cases (show u = Value.ref a from rx)
  obtain ⟨t1, ho⟩ := exo_at I1.hok ea
  obtain ⟨mA, hns, hr⟩ := exd_at I1.hok ed
  obtain ⟨od, hod, hl⟩ := lookIn_ns hns
  obtain ⟨w', hu, ru⟩ := RelO.some_of (v := v) (o := mA f) (by rw [← l]; exact hr f)
  have J : PySem.W.InstAt s1.heap a _ C (some od) := ⟨ho, rfl, rfl, hod⟩
  exact HandSPX.exc_get I1.kIn J T.ga T.gg T.exC (PySem.W.findObj_own T.hdC hno rfl (by rw [hl, hu])) (handed_of ru) ⟨v, H1, I1.tok _, ru, q⟩
end
end Hc

namespace PySem.W
open PySem PySem.Spec PySem.Calls PyProof.Rows
section
variable {prog : Program} {w : World} {A : Around} {E : Value → Shared → Prop} {s : Shared} {K : Frag} {x D : Addr} {ox : Obj}
/-- e.__class__ of an exception that has a dict -/
theorem hc_classD {od : Obj} {Q : Option Value → Shared → Prop} (C : L2.ExcC K D) (X : K.In s.heap) (I : InstAt s.heap x ox D (some od)) (h : Q (some (.ref D)) { s with toks := s.toks + 1 }) : wpAny (model prog w) A (getAttr? (.ref x) "__class__") Q E s := by
  have hf : findObj K D (some od) "__class__" = some (.bind (.builtin "getset_descriptor.__get__") (.builtin "object.__class__")) := findObj_data (by obtain ⟨cd, hc, _⟩ := any_some C.hd; rw [hc]; rfl) C.ha C.hn C.ht
  obtain ⟨hp, g, d, t, os⟩ := s
  have M0 := I.type (M := model prog w)
  have M1 := looks_findIn (M := model prog w) X C.hg
  have M2 := looks_findIn (M := model prog w) X C.hk
  have M3 := looks_find (M := model prog w) X I hf
  have isB : Looks (model prog w) hp (isInstance (.ref x) (.type "BaseException")) true := M0.andThen (looks_subIn X C.hs)
  have n1 : (Value.builtin "BaseException.__getattribute__" == Value.builtin "object.__getattribute__") = false := by decide +kernel
  have n2 : (onTheHeap (Value.ref D) && Value.builtin "BaseException.__getattribute__" == Value.builtin "object.__getattribute__") = false := by rw [n1] <;> rfl
  unfold getAttr? getAttrBy? getAttrBy
  refine wpAny_bind (wpAny_mkText (wpAny_bind (wpAny_attempt (wpAny_holding (wpAny_bind (M0.at (wpAny_bind (M1.at ?_))))))))
  show wpAny _ _ (if (onTheHeap (Value.ref D) && Value.builtin "BaseException.__getattribute__" == Value.builtin "object.__getattribute__") = true then _ else _) _ _ _
  rw [n2, if_neg Bool.false_ne_true]
  unfold getAttrByItsOwn hookBefore
  refine wpAny_bind ?_
  rw [if_pos (show onTheHeap (Value.ref D) = true from rfl)]
  refine M2.at (wpAny_bind (wpAny_attempt (wpAny_holding ?_)))
  unfold callGetattribute
  rw [if_neg (show ¬ (false && onTheHeap (Value.builtin "BaseException.__getattribute__")) = true from Bool.false_ne_true)]
  unfold boundAndCalled
  rw [PySem.F.excAttr_ValueError.ga.bind (.ref x)]
  refine wpAny_bind (wpAny_pure ?_)
  show wpAny _ _ (call (.builtin "BaseException.__getattribute__") [.ref x, .str "__class__" t]) _ _ _
  refine wpAny_call (codeAny_call_builtin PySem.F.excAttr_ValueError.ga.plain PySem.F.entry_bexc_ga ?_)
  refine @check_slot (model prog w) _ _ ⟨hp, g, d, t + 1, os⟩ "BaseException.__getattribute__" "BaseException" "__getattribute__" (.ref x) [.str "__class__" t] [] _ (by decide +kernel) (by decide +kernel) isB (PySem.F.args_bexc_ga (.ref x) (.str "__class__" t)) ?_
  unfold Builtin.«object.__getattribute__»
  refine wpAny_bind (wpAny_of_eq (a := ((Value.ref x : Value), [Value.str "__class__" t])) (by first | rfl | (simp only [slotArgs]; rfl)) ?_)
  refine wpAny_bind (wpAny_pure (wpAny_bind (M0.at (wpAny_bind (M3.at ?_)))))
  show wpAny _ _ (holding [Value.builtin "object.__class__"] (call (.builtin "getset_descriptor.__get__") [.builtin "object.__class__", .ref x, .ref D]) >>= ret) _ _ _
  refine wpAny_bind (wpAny_holding (wpAny_call (class_get (s := ⟨hp, g, d, t + 1, os⟩) (ox := ox) (od := some od) X I C.hm ?_)))
  refine wpAny_pure ?_
  show wpAny _ _ (handedOut (.ref D)) _ _ _
  rw [handedOut_of (v := .ref D) rfl]
  first
    | exact wpAny_pure (wpAny_pure h)
    | exact wpAny_pure h
    | exact wpAny_pure (wpAny_bind (wpAny_pure (wpAny_pure h)))
theorem hc_kitD {od : Obj} (C : L2.ExcC K D) : KitX K (.ref x) (.ref D) (fun h => InstAt h x ox D (some od)) where
  ty := fun _ _ _ I => I.type
  it := fun M h X _ => by
    obtain ⟨cd, hc, hh⟩ := any_some C.hd
    clear hh
    unfold clsIn at hc
    split at hc
    · rename_i ho
      intro A' Q' E' s' k q
      unfold isType loadHead
      exact wpAny_bind (wpAny_loadPart (k _ _ (X _ _ ho)) (wpAny_pure q))
    · cases hc
  ne := (handS_kitx_exc (x := x) (ox := ox) C.hg C.hk C.hs C.hd C.ha C.hn C.ht C.hm).ne
  ca := fun X I k => hc_classD C X I k
end
end PySem.W

namespace Hc
open PySem PySem.Spec PyProof.Rows L2
theorem call_xis {X : Cx} : CallR X (.builtin "isinstance") (rXis X.K) := by
  intro pins s σ H xs us Q I r h
  obtain ⟨a, C, c, cv, b, rfl, hcv, T, ho, e, q⟩ := h
  obtain ⟨u1, u2, rfl, r1, r2⟩ := vals2 r
  cases (show u1 = Value.ref a from r1)
  have ec := hcv.eq r2
  subst ec
  rcases ho with ho | ⟨dd, fs, ho, hd⟩
  · obtain ⟨t1, hget⟩ := exo_at I.hok ho
    have J : PySem.W.InstAt s.heap a _ C none := ⟨hget, rfl, rfl, trivial⟩
    exact PySem.W.kia_one (PySem.W.handS_kitx_exc T.hg T.hk T.hs T.hd T.ha T.hn T.ht T.hm) I.kIn J e (fun z => nomatch z) fun tk => ⟨.bl b, H, I.tok tk, rfl, q⟩
  · obtain ⟨t1, hget⟩ := exo_at I.hok ho
    obtain ⟨mA, hns, _⟩ := exd_at I.hok hd
    obtain ⟨od, hod, _⟩ := lookIn_ns hns
    have J : PySem.W.InstAt s.heap a _ C (some od) := ⟨hget, rfl, rfl, hod⟩
    exact PySem.W.kia_one (PySem.W.hc_kitD T) I.kIn J e (fun z => nomatch z) fun tk => ⟨.bl b, H, I.tok tk, rfl, q⟩
end Hc
set_option maxHeartbeats 4000000
/-! The text's error classes as data: name, fields, base; what the written part is asked of each, and what follows. -/
namespace Hc
open PySem PySem.Spec PyProof.Rows L2

/-- an error class: its name, the fields of its own maker, whether it stands under RuntimeError -/
structure ErrD where
  name : Str
  fields : List Str
  rt : Bool
def veB : List Value := [.type "ValueError", .type "Exception", .type "BaseException", .type "object"]
def rtB : List Value := [.type "RuntimeError", .type "Exception", .type "BaseException", .type "object"]
def ErrD.bm (d : ErrD) : List Value := if d.rt then rtB else veB
def ErrD.newId (d : ErrD) : String := if d.rt then "RuntimeError.__new__" else "ValueError.__new__"
def eqV2 (a b : Option (Option Value)) : Bool := decide (a = b)
/-- what the written part is asked of the class at C -/
def xcOk (K : PySem.W.Frag) (C : Addr) (d : ErrD) : Bool :=
  PySem.W.excInitIn K C d.bm d.newId && (PySem.W.excOver K C d.bm && (PySem.W.hasDictIn K C && (eqV2 (PySem.W.findIn K (.ref C) "__setattr__") (some (some (.builtin "object.__setattr__"))) && (PySem.W.keepIn K (.ref C) &&
  (eqV2 (PySem.W.findIn K (.ref C) "__getattribute__") (some (some (.builtin "BaseException.__getattribute__"))) && (eqV2 (PySem.W.findIn K (.ref C) "__getattr__") (some none) && (decide (PySem.W.subIn K (.ref C) (.type "BaseException") = some true) &&
  (eqV2 (PySem.W.findIn K (.ref C) "__class__") (some (some (.builtin "object.__class__"))) && (eqV2 (PySem.W.specialIn K (.builtin "object.__class__") "__get__") (some (some (.builtin "getset_descriptor.__get__"))) && (decide (PySem.W.takesIn K (.builtin "object.__class__") = some true) &&
  decide (PySem.W.mroIn K C (.type "object") = some true)))))))))))
theorem xcOk_ok {K : PySem.W.Frag} {C : Addr} {d : ErrD} (h : xcOk K C d = true) : Xc K C d.bm d.newId := by
  unfold xcOk eqV2 at h
  simp only [Bool.and_eq_true, decide_eq_true_eq] at h
  obtain ⟨h1, h2, h3, h4, h5, h6, h7, h8, h9, h10, h11, h12⟩ := h
  exact ⟨h1, h2, h3, h4, h5, ⟨h6, h7, h8, h3⟩, ⟨h6, h7, h8, h3, h9, h10, h11, h12⟩⟩
/-- a class with its own maker: the maker's def, the fields that no class holds -/
def mkOk (K : PySem.W.Frag) (C : Addr) (d : ErrD) : Bool :=
  if d.fields.isEmpty then PySem.W.excIn K C d.bm d.newId else
  eqV2 (PySem.W.findIn K (.ref C) "__init__") (some (some (.ref (He.ma K C "__init__")))) && (PySem.W.isFn K (.ref (He.ma K C "__init__")) && d.fields.all fun f => eqV2 (PySem.W.findIn K (.ref C) f) (some none))
def glOk (K : PySem.W.Frag) (x : Str) : Bool := eqV2 (PySem.W.nsIn K mainGlobals x) (some (some (.ref (He.ga K x))))
/-- the class of the i-th error -/
def ec (K : PySem.W.Frag) (errs : List ErrD) (i : Nat) : Addr := match errs[i]? with
  | some d => He.ga K d.name
  | none => 0
def errOk (K : PySem.W.Frag) (d : ErrD) : Bool := glOk K d.name && (xcOk K (He.ga K d.name) d && mkOk K (He.ga K d.name) d)
def errsOk (K : PySem.W.Frag) (errs : List ErrD) : Bool := errs.all (errOk K)
/-- which is whose -/
def kitOk (K : PySem.W.Frag) (errs : List ErrD) : Bool := (List.range errs.length).all fun i => (List.range errs.length).all fun j => decide (PySem.W.kitOne K (.ref (ec K errs i)) (.ref (ec K errs j)) = some (decide (i = j)))
def kitTo (K : PySem.W.Frag) (errs : List ErrD) (u : Value) (b : ErrD → Bool) : Bool := errs.all fun d => decide (PySem.W.kitOne K (.ref (He.ga K d.name)) u = some (b d))

section
variable {K : PySem.W.Frag} {errs : List ErrD}
theorem err_at (h : errsOk K errs = true) {d : ErrD} (hd : d ∈ errs) : PySem.W.nsIn K mainGlobals d.name = some (some (.ref (He.ga K d.name))) ∧ Xc K (He.ga K d.name) d.bm d.newId ∧ mkOk K (He.ga K d.name) d = true := by
  have h1 := List.all_eq_true.mp h d hd
  unfold errOk glOk eqV2 at h1
  simp only [Bool.and_eq_true, decide_eq_true_eq] at h1
  exact ⟨h1.1, xcOk_ok h1.2.1, h1.2.2⟩
theorem mk_at {C : Addr} {d : ErrD} (h : mkOk K C d = true) (hf : d.fields.isEmpty = false) : PySem.W.findIn K (.ref C) "__init__" = some (some (.ref (He.ma K C "__init__"))) ∧ PySem.W.isFn K (.ref (He.ma K C "__init__")) = true ∧ ∀ f ∈ d.fields, PySem.W.findIn K (.ref C) f = some none := by
  unfold mkOk at h
  rw [hf, if_neg Bool.false_ne_true] at h
  unfold eqV2 at h
  simp only [Bool.and_eq_true, decide_eq_true_eq, List.all_eq_true] at h
  exact ⟨h.1, h.2.1, h.2.2⟩
theorem mk_no {C : Addr} {d : ErrD} (h : mkOk K C d = true) (hf : d.fields.isEmpty = true) : PySem.W.excIn K C d.bm d.newId = true := by
  unfold mkOk at h
  rw [hf, if_pos rfl] at h
  exact h
theorem ec_at {i : Nat} {d : ErrD} (h : errs[i]? = some d) : ec K errs i = He.ga K d.name := by
  unfold ec
  rw [h]
theorem kit_at (h : kitOk K errs = true) {i j : Nat} (hi : i < errs.length) (hj : j < errs.length) : PySem.W.kitOne K (.ref (ec K errs i)) (.ref (ec K errs j)) = some (decide (i = j)) :=
  of_decide_eq_true (List.all_eq_true.mp (List.all_eq_true.mp h i (List.mem_range.mpr hi)) j (List.mem_range.mpr hj))
theorem kit_to {u : Value} {b : ErrD → Bool} (h : kitTo K errs u b = true) {i : Nat} {d : ErrD} (hi : errs[i]? = some d) : PySem.W.kitOne K (.ref (ec K errs i)) u = some (b d) := by
  rw [ec_at hi]
  exact of_decide_eq_true (List.all_eq_true.mp h d (List.mem_of_getElem? hi))
end

/-! ### the makers -/
/-- what a maker of one field does -/
def spIni1 (K : PySem.W.Frag) (bmB : List Value) (newId : String) (f : Str) : Sp := fun vs H Q _ => ∃ (a C : Addr) (v : V), vs = [.ref a, v] ∧ H a = some (exo a C none) ∧ Xc K C bmB newId ∧ PySem.W.findIn K (.ref C) f = some none ∧
  ∀ dx, H dx = none → dx ≠ a → Q .non (upd (upd H dx (exd dx [(f, v)])) a (exo a C (some dx)))
section
variable {P : Program} {w : World} {K : PySem.W.Frag} {mg : Str → Option Value} {base : Heap} {B newId : String} {bmB : List Value}
theorem ok_ini1 {fI : Addr} {fd : FuncData} {qual : Str} {st : Stmt} {fld : Str} {p1 p2 p3 p4 : Pos} (SF : StoreFacts B bmB "object.__setattr__" "object") (F : Fun K "__init__" qual st fI fd) (S : FnScope ["self", fld] ["self", fld] (defScope st))
    (hB : defBody st = [.Assign [.Attribute (.Name "self" p1) fld p2] (.Name fld p3) p4]) (v1 : (defScope st).names.lookup ("self" : Str) = some .local) (v2 : (defScope st).names.lookup fld = some .local)
    (d1 : (fld == ("__debug__" : Str)) = false) (d2 : (fld == ("__classdict__" : Str)) = false) : FnOk P w K mg base CX0 1 fI fd ["self", fld] (spIni1 K bmB newId fld) := by
  refine F.ok S (fun vs H Q E h => ?_) (fun cdv A outer s H vs Q E hr h => ?_)
  · obtain ⟨a, C, v, rfl, _⟩ := h
    rfl
  · obtain ⟨a, C, v, rfl, ha, T, no, q⟩ := h
    rw [hB]
    exact ⟨_, pss_one (ps_xst (newId := newId) SF (pv 0 rfl (Or.inl v1)) (pv 1 rfl (Or.inl v2) d1 d2)), _, rfl, _, rfl, a, C, rfl, T, no, .inl ⟨ha, fun dx n ne => q dx n ne⟩⟩
end

/-! ### what is made and read in passing -/
section
open Evl
variable {K : PySem.W.Frag} {σ : L2.St} {H : Hp} {te : TE} {bmB : List Value} {newId : String} {C : Addr} {f : Str} {v : V}
/-- at a an error of the class at C, with some fields -/
def ErrAt (H : Hp) (a C : Addr) (fs : List (Str × V)) : Prop := ∃ dd, H a = some (exo a C (some dd)) ∧ H dd = some (exd dd fs)
/-- .. of any kind -/
def ErrIs (H : Hp) (a C : Addr) : Prop := H a = some (exo a C none) ∨ ∃ (dd : Addr) (fs : List (Str × V)), H a = some (exo a C (some dd)) ∧ H dd = some (exd dd fs)
theorem ErrAt.is {a C : Addr} {fs : List (Str × V)} (h : ErrAt H a C fs) : ErrIs H a C := by
  obtain ⟨dd, h1, h2⟩ := h
  exact .inr ⟨dd, fs, h1, h2⟩
theorem ErrIs.ex {H' : Hp} {a C : Addr} (h : ErrIs H a C) (e : Ex H H') : ErrIs H' a C := by
  rcases h with h | ⟨dd, fs, h1, h2⟩
  · exact .inl (e _ _ h)
  · exact .inr ⟨dd, fs, e _ _ h1, e _ _ h2⟩
theorem ErrAt.ex {H' : Hp} {a C : Addr} {fs : List (Str × V)} (h : ErrAt H a C fs) (e : Ex H H') : ErrAt H' a C fs := by
  obtain ⟨dd, h1, h2⟩ := h
  exact ⟨dd, e _ _ h1, e _ _ h2⟩
theorem exo_upd {H1 : Hp} {a dx : Addr} {o p : HO} (n : H1 a = none) (nd : H1 dx = none) (ne : dx ≠ a) {q : HO} : Ex H1 (upd (upd (upd H1 a o) dx p) a q) := fun b u e => by
  rw [upd_ne (ne_of_none e n), upd_ne (ne_of_none e nd), upd_ne (ne_of_none e n)]
  exact e
/-- an expression that makes an error of the class at C with such fields -/
def EvE (te : TE) (σ : L2.St) (H : Hp) (C : Addr) (fs : List (Str × V)) : Prop := ∀ H1, Ex H H1 → ∀ Q : VK, (∀ a H2, Ex H1 H2 → H1 a = none → ErrAt H2 a C fs → Q (.ref a) H2) → te σ H1 Q
theorem ee_mk1 (T : Xc K C bmB newId) (no : PySem.W.findIn K (.ref C) f = some none) (h : Ev te σ H v) : EvE (tXmk C (spIni1 K bmB newId f) (tCons te tNil)) σ H C [(f, v)] := fun H1 e Q q =>
  h H1 e _ fun H2 e2 => ⟨by show 1 ≤ 1000; decide, fun a na => ⟨a, C, v, rfl, upd_same, T, no, fun dx nd ne => by
    rw [upd_ne ne] at nd
    refine ⟨rfl, q a _ (e2.trans (exo_upd na nd ne)) (fresh_back e2 na) ⟨dx, upd_same, ?_⟩⟩
    rw [upd_ne ne, upd_same]⟩⟩
theorem ev_fld {fs : List (Str × V)} (T : XfC K C) (no : PySem.W.findIn K (.ref C) f = some none) (h : EvE te σ H C fs) (l : fs.lookup f = some v) : Ev (tXfd K f te) σ H v := fun H1 e Q q =>
  h H1 e _ fun a H2 e2 na ⟨dd, h1, h2⟩ => ⟨a, C, dd, fs, v, rfl, h1, h2, T, no, l, q H2 e2⟩
theorem ev_fldV {fs : List (Str × V)} {a : Addr} (T : XfC K C) (no : PySem.W.findIn K (.ref C) f = some none) (h : Ev te σ H (.ref a)) (x : ErrAt H a C fs) (l : fs.lookup f = some v) : Ev (tXfd K f te) σ H v := fun H1 e Q q =>
  h H1 e _ fun H2 e2 => by
    obtain ⟨dd, h1, h2⟩ := x
    exact ⟨a, C, dd, fs, v, rfl, e2 _ _ (e _ _ h1), e2 _ _ (e _ _ h2), T, no, l, q H2 e2⟩
end

/-! ### makers of two and three fields -/
def spIni2 (K : PySem.W.Frag) (bmB : List Value) (newId : String) (f g : Str) : Sp := fun vs H Q _ => ∃ (a C : Addr) (v u : V), vs = [.ref a, v, u] ∧ H a = some (exo a C none) ∧ Xc K C bmB newId ∧ PySem.W.findIn K (.ref C) f = some none ∧ PySem.W.findIn K (.ref C) g = some none ∧
  ∀ dx (H' : Hp), H dx = none → dx ≠ a → (∀ b, b ≠ a → b ≠ dx → H' b = H b) → H' a = some (exo a C (some dx)) → H' dx = some (exd dx [(g, u), (f, v)]) → Q .non H'
def spIni3 (K : PySem.W.Frag) (bmB : List Value) (newId : String) (f g j : Str) : Sp := fun vs H Q _ => ∃ (a C : Addr) (v u z : V), vs = [.ref a, v, u, z] ∧ H a = some (exo a C none) ∧ Xc K C bmB newId ∧ PySem.W.findIn K (.ref C) f = some none ∧ PySem.W.findIn K (.ref C) g = some none ∧ PySem.W.findIn K (.ref C) j = some none ∧
  ∀ dx (H' : Hp), H dx = none → dx ≠ a → (∀ b, b ≠ a → b ≠ dx → H' b = H b) → H' a = some (exo a C (some dx)) → H' dx = some (exd dx [(j, z), (g, u), (f, v)]) → Q .non H'
section
variable {P : Program} {w : World} {K : PySem.W.Frag} {mg : Str → Option Value} {base : Heap} {B newId : String} {bmB : List Value}
theorem ok_ini2 {fI : Addr} {fd : FuncData} {qual : Str} {st : Stmt} {f g : Str} {p1 p2 p3 p4 q1 q2 q3 q4 : Pos} (SF : StoreFacts B bmB "object.__setattr__" "object") (F : Fun K "__init__" qual st fI fd) (S : FnScope ["self", f, g] ["self", f, g] (defScope st))
    (hB : defBody st = [.Assign [.Attribute (.Name "self" p1) f p2] (.Name f p3) p4, .Assign [.Attribute (.Name "self" q1) g q2] (.Name g q3) q4]) (v1 : (defScope st).names.lookup ("self" : Str) = some .local) (v2 : (defScope st).names.lookup f = some .local) (v3 : (defScope st).names.lookup g = some .local)
    (d1 : (f == ("__debug__" : Str)) = false) (d2 : (f == ("__classdict__" : Str)) = false) (d3 : (g == ("__debug__" : Str)) = false) (d4 : (g == ("__classdict__" : Str)) = false) : FnOk P w K mg base CX0 1 fI fd ["self", f, g] (spIni2 K bmB newId f g) := by
  refine F.ok S (fun vs H Q E h => ?_) (fun cdv A outer s H vs Q E hr h => ?_)
  · obtain ⟨a, C, v, u, rfl, _⟩ := h
    rfl
  · obtain ⟨a, C, v, u, rfl, ha, T, no, no2, q⟩ := h
    rw [hB]
    refine ⟨_, pss_cons (ps_xst (newId := newId) SF (pv 0 rfl (Or.inl v1)) (pv 1 rfl (Or.inl v2) d1 d2)) (pss_one (ps_xst (newId := newId) SF (pv 0 rfl (Or.inl v1)) (pv 2 rfl (Or.inl v3) d3 d4))), _, rfl, _, rfl, a, C, rfl, T, no, .inl ⟨ha, fun dx n ne => ?_⟩⟩
    refine ⟨_, rfl, _, rfl, a, C, rfl, T, no2, .inr ⟨dx, [(f, v)], upd_same, ?_, by show 1 ≤ 900; decide, q dx _ n ne (fun b h1 h2 => ?_) ?_ upd_same⟩⟩
    · rw [upd_ne ne, upd_same]
    · rw [upd_ne h2, upd_ne h1, upd_ne h2]
    · rw [upd_ne ne.symm, upd_same]
theorem ok_ini3 {fI : Addr} {fd : FuncData} {qual : Str} {st : Stmt} {f g j : Str} {p1 p2 p3 p4 q1 q2 q3 q4 r1 r2 r3 r4 : Pos} (SF : StoreFacts B bmB "object.__setattr__" "object") (F : Fun K "__init__" qual st fI fd) (S : FnScope ["self", f, g, j] ["self", f, g, j] (defScope st))
    (hB : defBody st = [.Assign [.Attribute (.Name "self" p1) f p2] (.Name f p3) p4, .Assign [.Attribute (.Name "self" q1) g q2] (.Name g q3) q4, .Assign [.Attribute (.Name "self" r1) j r2] (.Name j r3) r4]) (v1 : (defScope st).names.lookup ("self" : Str) = some .local) (v2 : (defScope st).names.lookup f = some .local) (v3 : (defScope st).names.lookup g = some .local) (v4 : (defScope st).names.lookup j = some .local)
    (d1 : (f == ("__debug__" : Str)) = false) (d2 : (f == ("__classdict__" : Str)) = false) (d3 : (g == ("__debug__" : Str)) = false) (d4 : (g == ("__classdict__" : Str)) = false) (d5 : (j == ("__debug__" : Str)) = false) (d6 : (j == ("__classdict__" : Str)) = false) : FnOk P w K mg base CX0 1 fI fd ["self", f, g, j] (spIni3 K bmB newId f g j) := by
  refine F.ok S (fun vs H Q E h => ?_) (fun cdv A outer s H vs Q E hr h => ?_)
  · obtain ⟨a, C, v, u, z, rfl, _⟩ := h
    rfl
  · obtain ⟨a, C, v, u, z, rfl, ha, T, no, no2, no3, q⟩ := h
    rw [hB]
    refine ⟨_, pss_cons (ps_xst (newId := newId) SF (pv 0 rfl (Or.inl v1)) (pv 1 rfl (Or.inl v2) d1 d2)) (pss_cons (ps_xst (newId := newId) SF (pv 0 rfl (Or.inl v1)) (pv 2 rfl (Or.inl v3) d3 d4)) (pss_one (ps_xst (newId := newId) SF (pv 0 rfl (Or.inl v1)) (pv 3 rfl (Or.inl v4) d5 d6)))), _, rfl, _, rfl, a, C, rfl, T, no, .inl ⟨ha, fun dx n ne => ?_⟩⟩
    refine ⟨_, rfl, _, rfl, a, C, rfl, T, no2, .inr ⟨dx, [(f, v)], upd_same, ?_, by show 1 ≤ 900; decide, ?_⟩⟩
    · rw [upd_ne ne, upd_same]
    refine ⟨_, rfl, _, rfl, a, C, rfl, T, no3, .inr ⟨dx, [(g, u), (f, v)], ?_, upd_same, by show 2 ≤ 900; decide, q dx _ n ne (fun b h1 h2 => ?_) ?_ upd_same⟩⟩
    · rw [upd_ne ne.symm, upd_same]
    · rw [upd_ne h2, upd_ne h2, upd_ne h1, upd_ne h2]
    · rw [upd_ne ne.symm, upd_ne ne.symm, upd_same]
end
section
open Evl
variable {K : PySem.W.Frag} {σ : L2.St} {H : Hp} {te tf tg : TE} {bmB : List Value} {newId : String} {C : Addr} {f g j : Str} {v u z : V}
theorem ext_mk {H1 H' : Hp} {a dx : Addr} {o : HO} (n : H1 a = none) (nd : H1 dx = none) (h : ∀ b, b ≠ a → b ≠ dx → H' b = upd H1 a o b) : Ex H1 H' := fun b x e => by
  rw [h b (ne_of_none e n) (ne_of_none e nd), upd_ne (ne_of_none e n)]
  exact e
theorem ee_mk2 (T : Xc K C bmB newId) (no : PySem.W.findIn K (.ref C) f = some none) (no2 : PySem.W.findIn K (.ref C) g = some none) (h1 : Ev te σ H v) (h2 : Ev tf σ H u) : EvE (tXmk C (spIni2 K bmB newId f g) (tCons te (tCons tf tNil))) σ H C [(g, u), (f, v)] := fun H1 e Q q =>
  h1 H1 e _ fun H2 e2 => h2 H2 (e.trans e2) _ fun H3 e3 => ⟨by show 2 ≤ 1000; decide, fun a na => ⟨a, C, v, u, rfl, upd_same, T, no, no2, fun dx H' nd ne hk ha hd => by
    rw [upd_ne ne] at nd
    exact ⟨rfl, q a _ ((e2.trans e3).trans (ext_mk na nd hk)) (fresh_back (e2.trans e3) na) ⟨dx, ha, hd⟩⟩⟩⟩
theorem ee_mk3 (T : Xc K C bmB newId) (no : PySem.W.findIn K (.ref C) f = some none) (no2 : PySem.W.findIn K (.ref C) g = some none) (no3 : PySem.W.findIn K (.ref C) j = some none) (h1 : Ev te σ H v) (h2 : Ev tf σ H u) (h3 : Ev tg σ H z) :
    EvE (tXmk C (spIni3 K bmB newId f g j) (tCons te (tCons tf (tCons tg tNil)))) σ H C [(j, z), (g, u), (f, v)] := fun H1 e Q q =>
  h1 H1 e _ fun H2 e2 => h2 H2 (e.trans e2) _ fun H3 e3 => h3 H3 ((e.trans e2).trans e3) _ fun H4 e4 => ⟨by show 3 ≤ 1000; decide, fun a na => ⟨a, C, v, u, z, rfl, upd_same, T, no, no2, no3, fun dx H' nd ne hk ha hd => by
    rw [upd_ne ne] at nd
    exact ⟨rfl, q a _ (((e2.trans e3).trans e4).trans (ext_mk na nd hk)) (fresh_back ((e2.trans e3).trans e4) na) ⟨dx, ha, hd⟩⟩⟩⟩
/-- of a class without a maker -/
theorem e0_mk {H1 : Hp} {C : Addr} {Q : VK} (q : ∀ a H2, Ex H1 H2 → H1 a = none → ErrIs H2 a C → Q (.ref a) H2) : ∀ a, H1 a = none → Q (.ref a) (upd H1 a (exo a C none)) := fun a na => q a _ (Ex.new na) na (.inl upd_same)
end
end Hc
set_option maxHeartbeats 4000000
/-! A head with facts by names and a test of one's own. -/
namespace Hc
open PySem PySem.Spec PyProof.Rows L2
def seenK (n : Nat) (g : Addr → Option Obj) : PySem.W.Frag := He.frG g (He.asD g n)
def obsC (n : Nat) (fa : List He.Fa) (fn : List He.DefD) (ex : PySem.W.Frag → Bool) (g : Addr → Option Obj) : Bool × He.AlD := (ex (seenK n g), He.obsD fa fn (seenK n g))
def hookC (n : Nat) (fa : List He.Fa) (fn : List He.DefD) (ex : PySem.W.Frag → Bool) : PySem.W.Hook where
  α := Bool × He.AlD
  obs := fun s => obsC n fa fn ex s.heap.get?
  val := fun _ => (true, He.valD fn)
  says := fun _ h => ∃ K : PySem.W.Frag, K.In h ∧ ex K = true ∧ He.SaysD fa fn K
  of := fun _ _ e => ⟨_, He.frG_in, congrArg Prod.fst e, congrArg Prod.snd e⟩
  keeps := fun _ _ _ ⟨K, hK, c⟩ k => ⟨K, PySem.W.Frag.In.keeps hK k, c⟩
def obC (n : Nat) (fa : List He.Fa) (fn : List He.DefD) (ex : PySem.W.Frag → Bool) (s : PySem.W.SharedT) : Bool × He.AlD := obsC n fa fn ex (HandSHeadRun.getT s)
theorem obC_eq (n : Nat) (fa : List He.Fa) (fn : List He.DefD) (ex : PySem.W.Frag → Bool) (s : PySem.W.SharedT) : obC n fa fn ex s = (hookC n fa fn ex).obs s.abs := by
  have e : HandSHeadRun.getT s = s.abs.heap.get? := funext (HandSHeadRun.getT_eq s)
  show obsC n fa fn ex (HandSHeadRun.getT s) = obsC n fa fn ex s.abs.heap.get?
  rw [e]
/-- a def of the text without defaults -/
theorem fun_of {K : PySem.W.Frag} {x q : Str} {st : Stmt} {f : Addr} {fd : FuncData} (F : FunD K x q (defArgs st) (defBody st) (defScope st) [] [] f fd) : Fun K x q st f fd := by
  obtain ⟨oc, od, dV, kV, doc, pm, an, cdv, ct, osl, e, lk, hcd, hd, _⟩ := F.ex
  rcases hd with ⟨_, rfl⟩ | ⟨h, _⟩
  · exact ⟨⟨oc, od, kV, doc, pm, an, cdv, ct, osl, e, lk, hcd⟩, F.kp⟩
  · exact absurd rfl h
/-- a global def as data; a class's maker -/
def dk (x : Str) (st : Stmt) : He.DefD := ⟨(x, none), x, x, defArgs st, defBody st, defScope st, [], []⟩
def dmk (C m q : Str) (st : Stmt) : He.DefD := ⟨(C, some m), m, q, defArgs st, defBody st, defScope st, [], []⟩
theorem def_of {fa : List He.Fa} {fn : List He.DefD} {K : PySem.W.Frag} (c : He.SaysD fa fn K) (i : Nat) {x : Str} {st : Stmt} (h : fn[i]? = some (dk x st) := by rfl) : ∃ fd, Fun K x x st (He.ga K x) fd := by
  obtain ⟨fd, F⟩ := c.def_ i h
  exact ⟨fd, fun_of F⟩
theorem mth_of {fa : List He.Fa} {fn : List He.DefD} {K : PySem.W.Frag} (c : He.SaysD fa fn K) (i : Nat) {C m q : Str} {st : Stmt} (h : fn[i]? = some (dmk C m q st) := by rfl) : ∃ fd, Fun K m q st (He.ma K (He.ga K C) m) fd := by
  obtain ⟨fd, F⟩ := c.def_ i h
  exact ⟨fd, fun_of F⟩
end Hc
set_option maxHeartbeats 4000000
namespace Hc
open PySem PySem.Spec PyProof.Rows L2
def top (i : Nat) : Stmt := PySem.Challenge.pw_handedcopies_k07_whole_orders.main.body.getD i (.Pass ⟨0, 0, 0, 0⟩)
abbrev cBadLine : Stmt := top 4
abbrev cNoClass : Stmt := top 5
abbrev sSmall : Stmt := top 15
abbrev sWord : Stmt := top 16
abbrev sClassName : Stmt := top 17
abbrev sParts : Stmt := top 18
abbrev sIsShape : Stmt := top 23
abbrev sHasForm : Stmt := top 24
abbrev cShape : Stmt := top 25
abbrev cKept : Stmt := top 81
abbrev cClassText : Stmt := top 92
abbrev sLines : Stmt := top 93
abbrev sNext : Stmt := top 94
abbrev sMerged : Stmt := top 95
abbrev sReadClass : Stmt := top 96
abbrev cReader : Stmt := top 101
abbrev cLib : Stmt := top 103
abbrev sStart : Stmt := top 105
abbrev sDraw : Stmt := top 106
abbrev sOf : Stmt := top 107
abbrev sLWord : Stmt := top 108
abbrev sLMerge : Stmt := top 109
abbrev sLBases : Stmt := top 110
abbrev sLLine : Stmt := top 111
abbrev sLTold : Stmt := top 112
abbrev sLWalked : Stmt := top 113
abbrev sLRefused : Stmt := top 114
abbrev sLaw : Stmt := top 115
end Hc
set_option maxHeartbeats 4000000
/-! A head that sees the getters of properties, too. -/
namespace Hc
open PySem PySem.Spec PyProof.Rows L2
def pAd (K : PySem.W.Frag) (C : Addr) (f : Str) : Addr := match PySem.W.findIn K (.ref C) f with
  | some (some (.ref p)) => p
  | _ => 0
def gAd (K : PySem.W.Frag) (C : Addr) (f : Str) : Addr := match PySem.W.recIn K (pAd K C f) "property" with
  | some (.ref g :: _) => g
  | _ => 0
def propB (K : PySem.W.Frag) (C : Addr) (f : Str) : Bool := decide (PySem.W.findIn K (.ref C) f = some (some (.ref (pAd K C f)))) && (decide (PySem.W.specialIn K (.ref (pAd K C f)) "__get__" = some (some (.builtin "property.__get__"))) &&
  (decide (PySem.W.takesIn K (.ref (pAd K C f)) = some true) && (match PySem.W.recIn K (pAd K C f) "property" with
    | some (.ref g :: _) => decide (g = gAd K C f)
    | _ => false)))
theorem propB_ok {K : PySem.W.Frag} {C : Addr} {f : Str} (h : propB K C f = true) : PropOf K C f (pAd K C f) (gAd K C f) := by
  unfold propB at h
  simp only [Bool.and_eq_true, decide_eq_true_eq] at h
  obtain ⟨h1, h2, h3, h4⟩ := h
  refine ⟨h1, h2, h3, ?_⟩
  split at h4
  · rename_i g r e
    rw [of_decide_eq_true h4] at e
    exact ⟨r, e⟩
  · cases h4
def fnA (K : PySem.W.Frag) (a : Addr) : He.FnV := match K.lookup a with
  | some ⟨_, _, .func fd, _⟩ => some (fd.name, fd.qualname, fd.params, fd.body, fd.scope, fd.globals, fd.closure, fd.defaults, fd.builtins)
  | _ => none
def codeA (K : PySem.W.Frag) (a : Addr) (q : Str) : Bool := match K.lookup a with
  | some ⟨_, _, .func fd, _⟩ => PySem.W.codeIn K fd.code q
  | _ => false
def fnVal (x q : Str) (st : Stmt) : He.FnV := some (x, q, defArgs st, .stmts (defBody st), defScope st, mainGlobals, [], .none, builtinsNs)
theorem fnA_ok {K : PySem.W.Frag} {a : Addr} {x q : Str} {st : Stmt} (e : fnA K a = fnVal x q st) (c : codeA K a q = true) :
    ∃ oc od osl kV doc pm an cdv ct, K.lookup a = some ⟨oc, od, .func (PySem.W.fnOf x q (defArgs st) (defBody st) (defScope st) .none kV doc pm an cdv ct), osl⟩ ∧ PySem.W.codeIn K cdv q = true := by
  unfold fnA at e
  unfold codeA at c
  cases z : K.lookup a with
  | none =>
    rw [z] at c
    cases c
  | some o =>
    obtain ⟨oc, od, dt, osl⟩ := o
    rw [z] at c e
    cases dt with
    | func fd =>
      obtain ⟨n1, n2, n3, n4, n5, n6, n7, n8, n9, n10, n11, n12, n13, n14, n15⟩ := fd
      have e2 : (some (n1, n2, n3, n4, n5, n6, n7, n8, n15) : He.FnV) = some (x, q, defArgs st, .stmts (defBody st), defScope st, mainGlobals, [], .none, builtinsNs) := e
      simp only [Option.some.injEq, Prod.mk.injEq] at e2
      obtain ⟨h1, h2, h3, h4, h5, h6, h7, h8, h9⟩ := e2
      subst h1 h2 h3 h4 h5 h6 h7 h8 h9
      exact ⟨oc, od, osl, n9, n10, n11, n12, n13, n14, rfl, c⟩
    | _ => cases c
def obsG3 (n : Nat) (fa : List He.Fa) (fn : List He.DefD) (ex : PySem.W.Frag → Bool) (gt : PySem.W.Frag → List He.FnV) (g : Addr → Option Obj) : Bool × He.AlD × List He.FnV := (ex (seenK n g), He.obsD fa fn (seenK n g), gt (seenK n g))
def hookG (n : Nat) (fa : List He.Fa) (fn : List He.DefD) (ex : PySem.W.Frag → Bool) (gt : PySem.W.Frag → List He.FnV) (gv : List He.FnV) : PySem.W.Hook where
  α := Bool × He.AlD × List He.FnV
  obs := fun s => obsG3 n fa fn ex gt s.heap.get?
  val := fun _ => (true, He.valD fn, gv)
  says := fun _ h => ∃ K : PySem.W.Frag, K.In h ∧ ex K = true ∧ He.SaysD fa fn K ∧ gt K = gv
  of := fun _ _ e => ⟨_, He.frG_in, congrArg Prod.fst e, congrArg (fun z : Bool × He.AlD × List He.FnV => z.2.1) e, congrArg (fun z : Bool × He.AlD × List He.FnV => z.2.2) e⟩
  keeps := fun _ _ _ ⟨K, hK, c⟩ k => ⟨K, PySem.W.Frag.In.keeps hK k, c⟩
def obG (n : Nat) (fa : List He.Fa) (fn : List He.DefD) (ex : PySem.W.Frag → Bool) (gt : PySem.W.Frag → List He.FnV) (s : PySem.W.SharedT) : Bool × He.AlD × List He.FnV := obsG3 n fa fn ex gt (HandSHeadRun.getT s)
theorem obG_eq (n : Nat) (fa : List He.Fa) (fn : List He.DefD) (ex : PySem.W.Frag → Bool) (gt : PySem.W.Frag → List He.FnV) (gv : List He.FnV) (s : PySem.W.SharedT) : obG n fa fn ex gt s = (hookG n fa fn ex gt gv).obs s.abs := by
  have e : HandSHeadRun.getT s = s.abs.heap.get? := funext (HandSHeadRun.getT_eq s)
  show obsG3 n fa fn ex gt (HandSHeadRun.getT s) = obsG3 n fa fn ex gt s.abs.heap.get?
  rw [e]
end Hc
set_option maxHeartbeats 4000000
namespace Hc
open PySem PySem.Spec PyProof.Rows L2
/-- an own class below ValueError whose instances have a dict -/
def oexB (K : PySem.W.Frag) (C : Addr) : Bool := match K.lookup C with
  | some ⟨.type "type", _, .cls cd, sl⟩ => (match cd.mro, sl.toList with
    | .ref C' :: bm, [_, _, _, _, some (.builtin n), _] => decide (C' = C) && (decide (n = "ValueError.__new__") && (!cd.hasDel && (cd.hasDict && PySem.HandSPX.refsVE bm)))
    | _, _ => false)
  | _ => false
theorem oexB_ok {K : PySem.W.Frag} {C : Addr} (h : oexB K C = true) : ∃ nm q N bs bm sn sub ab col dd k0 k1 k2 k3 k5, K.lookup C = some (excClassObj nm q C N bs bm true sn sub ab col dd k0 k1 k2 k3 k5 "ValueError.__new__") ∧ PySem.HandSPX.refsVE bm = true := by
  unfold oexB at h
  split at h
  · rename_i dd cd sl ho
    split at h
    · rename_i C' bm k0 k1 k2 k3 n k5 hm hs
      simp only [Bool.and_eq_true, decide_eq_true_eq, Bool.not_eq_true'] at h
      obtain ⟨rfl, rfl, hdel, hdict, hve⟩ := h
      obtain ⟨nm, bs, mro, ns, qn, hd, sn, sub, ab, col, del⟩ := cd
      dsimp only at hm hdel hdict
      subst hm hdel hdict
      have hsl : sl = #[k0, k1, k2, k3, some (.builtin "ValueError.__new__"), k5] := by
        rw [← hs]
      subst hsl
      exact ⟨nm, qn, ns, bs, bm, sn, sub, ab, col, dd, k0, k1, k2, k3, k5, ho, hve⟩
    · cases h
  · cases h
end Hc
set_option maxHeartbeats 4000000
/-! A head that looks only at what some names lead to: for larger tops. -/
namespace Hc
open PySem PySem.Spec PyProof.Rows L2
/-- one more step, the globals left out -/
def growN (g : Addr → Option Obj) (as : List Addr) : List Addr := (as ++ as.flatMap fun a => match decide (a = mainGlobals) with
  | true => []
  | false => match g a with
    | some o => He.refsD o
    | none => []).eraseDups
def growsN (g : Addr → Option Obj) : Nat → List Addr → List Addr
  | 0, as => as
  | n + 1, as => growsN g n (growN g as)
def rootsN (names : List Str) (g : Addr → Option Obj) : List Addr := names.map fun x => He.ga (He.frG g [mainGlobals]) x
def seenN (names : List Str) (n : Nat) (g : Addr → Option Obj) : PySem.W.Frag := He.frG g (growsN g n (mainGlobals :: rootsN names g))
def obsN (names : List Str) (n : Nat) (fa : List He.Fa) (fn : List He.DefD) (ex : PySem.W.Frag → Bool) (g : Addr → Option Obj) : Bool × He.AlD := (ex (seenN names n g), He.obsD fa fn (seenN names n g))
def hookN (names : List Str) (n : Nat) (fa : List He.Fa) (fn : List He.DefD) (ex : PySem.W.Frag → Bool) : PySem.W.Hook where
  α := Bool × He.AlD
  obs := fun s => obsN names n fa fn ex s.heap.get?
  val := fun _ => (true, He.valD fn)
  says := fun _ h => ∃ K : PySem.W.Frag, K.In h ∧ ex K = true ∧ He.SaysD fa fn K
  of := fun _ _ e => ⟨_, He.frG_in, congrArg Prod.fst e, congrArg Prod.snd e⟩
  keeps := fun _ _ _ ⟨K, hK, c⟩ k => ⟨K, PySem.W.Frag.In.keeps hK k, c⟩
def obN (names : List Str) (n : Nat) (fa : List He.Fa) (fn : List He.DefD) (ex : PySem.W.Frag → Bool) (s : PySem.W.SharedT) : Bool × He.AlD := obsN names n fa fn ex (HandSHeadRun.getT s)
theorem obN_eq (names : List Str) (n : Nat) (fa : List He.Fa) (fn : List He.DefD) (ex : PySem.W.Frag → Bool) (s : PySem.W.SharedT) : obN names n fa fn ex s = (hookN names n fa fn ex).obs s.abs := by
  have e : HandSHeadRun.getT s = s.abs.heap.get? := funext (HandSHeadRun.getT_eq s)
  show obsN names n fa fn ex (HandSHeadRun.getT s) = obsN names n fa fn ex s.abs.heap.get?
  rw [e]
end Hc
set_option maxHeartbeats 0
namespace Hs
open PySem PySem.Spec PyProof.Rows L2 Hc
def blD : ErrD := ⟨"BadLine", ["at"], false⟩
def ncD : ErrD := ⟨"NoClass", ["name"], false⟩
def fn07 : List He.DefD := [dk "_law_start" (top 105), dk "_law_draw" (top 106), dk "_law_word" (top 108), dk "_law_merge" (top 109), dk "_law_bases" (top 110), dk "_law_line" (top 111), dk "_law_told" (top 112), dk "_law_walked" (top 113), dk "_law_refused" (top 114), dk "law" (top 115),
  dk "are_small" (top 15), dk "is_class_name" (top 17), dk "lines_of" (top 93), dk "next_merged" (top 94), dk "merged" (top 95), dk "read_class_line" (top 96),
  dmk "BadLine" "__init__" "BadLine.__init__" (inClass (top 4) 0), dmk "NoClass" "__init__" "NoClass.__init__" (inClass (top 5) 0), dmk "Kept" "__init__" "Kept.__init__" (inClass (top 81) 0), dmk "ClassText" "__init__" "ClassText.__init__" (inClass (top 92) 0),
  dmk "Reader" "__init__" "Reader.__init__" (inClass (top 101) 0), dmk "Reader" "take" "Reader.take" (inClass (top 101) 1), dmk "Reader" "_take_class" "Reader._take_class" (inClass (top 101) 2),
  dmk "Library" "__init__" "Library.__init__" (inClass (top 103) 0), dmk "Library" "order" "Library.order" (inClass (top 103) 2), dmk "Library" "kept_of" "Library.kept_of" (inClass (top 103) 3), dmk "Library" "class_named" "Library.class_named" (inClass (top 103) 4), dmk "Library" "__contains__" "Library.__contains__" (inClass (top 103) 6)]
def fa07_0 : List He.Fa := [.glo "_law_start", .glo "_law_draw", .glo "_law_word", .glo "_law_merge", .glo "_law_bases", .glo "_law_line", .glo "_law_told", .glo "_law_walked", .glo "_law_refused", .glo "law", .glo "are_small", .glo "is_class_name", .glo "lines_of", .glo "next_merged", .glo "merged", .glo "read_class_line", .glo "BadLine", .glo "NoClass", .glo "Kept", .glo "ClassText", .glo "Reader", .glo "Library", .free "int", .free "abs"]
def fa07_1 : List He.Fa := [.free "len", .free "enumerate", .free "all", .free "any", .free "isinstance", .free "str", .free "tuple", .free "list", .free "set", .free "min", .free "range", .free "sorted", .int "MOST_LETTERS" 8, .int "MOST_CLASSES" 8, .int "MOST_BASES" 3, .str "SMALL_LETTERS" (S [97, 98, 99, 100, 101, 102, 103, 104, 105, 106, 107, 108, 109, 110, 111, 112, 113, 114, 115, 116, 117, 118, 119, 120, 121, 122]), .str "LARGE_LETTERS" (S [65, 66, 67, 68, 69, 70, 71, 72, 73, 74, 75, 76, 77, 78, 79, 80, 81, 82, 83, 84, 85, 86, 87, 88, 89, 90]), .cls "Kept", .mkr "Kept", .cls "ClassText", .mkr "ClassText", .noat "ClassText" "name", .noat "ClassText" "lineage", .noat "ClassText" "fields"]
def fa07_2 : List He.Fa := [.noat "ClassText" "definitions", .cls "Reader", .mkr "Reader", .noat "Reader" "classes", .noat "Reader" "_owner", .noat "Reader" "_method", .meth "Reader" "take", .meth "Reader" "_take_class", .cls "Library", .mkr "Library", .noat "Library" "text", .noat "Library" "names", .noat "Library" "_classes", .meth "Library" "order", .meth "Library" "kept_of", .meth "Library" "class_named", .meth "Library" "__contains__"]
def fa07 : List He.Fa := fa07_0 ++ (fa07_1 ++ (fa07_2))
def exEx (K : PySem.W.Frag) (x f : Str) (d : ErrD) : Bool := oexB K (He.ga K x) &&
  (xcOk K (He.ga K x) d &&
  (decide (PySem.W.findIn K (.ref (He.ga K x)) "__init__" = some (some (.ref (He.ma K (He.ga K x) "__init__")))) &&
  (decide (PySem.W.typeIn K (.ref (He.ma K (He.ga K x) "__init__")) = some (.type "function")) &&
  (decide (PySem.W.findIn K (.ref (He.ga K x)) f = some none) &&
  (decide (PySem.W.typeIn K (.ref (He.ga K x)) = some (.type "type")) &&
  decide (PySem.W.exmOne K (.ref (He.ga K x)) (.ref (He.ga K x)) = some true))))))
def ex07 (K : PySem.W.Frag) : Bool := exEx K "BadLine" "at" blD && exEx K "NoClass" "name" ncD
abbrev R07 : PySem.W.OpenRow := PySem.W.OpenLaw.row PySem.Challenge.rw_handedcopies_k07_whole_orders
def lo07_0 : List Str := ["_wall", "HandedcopiesError", "BadShape", "BadLine", "NoClass", "BadField", "TooMany", "BadRow", "BadMethod", "SMALL_LETTERS", "LARGE_LETTERS", "MOST_LETTERS", "RESERVED", "are_small", "is_word", "is_class_name", "parts_of", "MOST_DEPTH", "MOST_ITEMS", "MOST_LISTS_shapes", "is_shape", "has_form", "Shape", "MOST_STEPS", "STEPS", "WRAP_FLOORS", "COPY_ENDS", "Path", "Copy", "New"]
def lo07_1 : List Str := ["Ask", "SuperCall", "Wrap", "Row", "lone_word", "uncopied", "has_super", "has_ask", "read_step", "read_path", "copied_part", "read_simple", "read_wrap", "read_argument", "read_super", "read_call", "read_term", "read_row", "Misfit", "Scope", "item_shape", "path_shape", "copy_shape", "ask_shape", "super_shape", "takes", "takes_value", "takes_index", "takes_function", "term_shape"]
def lo07_2 : List Str := ["bind", "row_result", "face_of", "MOST_FIELDS_kepts", "MOST_LISTS_kepts", "MOST_METHODS_kepts", "MOST_ASKS", "MOST_LABELS", "agreed_fields", "method_names", "check_sizes", "agreed_face", "asking_rows", "count_labels", "lists_below", "Kept", "MARKS", "INDEX_KINDS", "MOST_CLASSES", "MOST_BASES", "MOST_FIELDS_texts", "MOST_METHODS_texts", "MOST_PARAMETERS", "MOST_ROWS", "Definition", "ClassText", "lines_of", "next_merged", "merged", "read_class_line"]
def lo07_3 : List Str := ["read_kind", "read_parameter", "read_parameters", "can_stand", "Reader", "Library", "_law_start", "_law_draw", "_law_of", "_law_word", "_law_merge", "_law_bases", "_law_line", "_law_told", "_law_walked", "_law_refused"]
def lo07 : List Str := lo07_0 ++ (lo07_1 ++ (lo07_2 ++ (lo07_3)))
def nm07 : List Str := ["_law_start", "_law_draw", "_law_word", "_law_merge", "_law_bases", "_law_line", "_law_told", "_law_walked", "_law_refused", "law", "are_small", "is_class_name", "lines_of", "next_merged", "merged", "read_class_line", "BadLine", "NoClass", "Kept", "ClassText", "Reader", "Library"]
theorem run07 (w : World) : HandSHeadRun.RunEq R07 (PySem.W.view R07.prog [115]) (hookN nm07 6 fa07 fn07 ex07) (obN nm07 6 fa07 fn07 ex07) 40000 lo07 w := by
  intro os
  kernel_rfl
end Hs
set_option maxHeartbeats 4000000
/-! for i, c in enumerate(a text). -/
namespace Hs
open PySem PySem.Spec PyProof.Rows L2
/-- the text's signs, each in a new pair with its index -/
def Iten (x : Str) : It :=
  ⟨fun i _ => i < x.cps.size, fun i H v H' => ∃ T c, v = .ref T ∧ H T = none ∧ H' = upd H T (.tup [.int (i : Nat), .str ⟨#[c]⟩]) ∧ x.cps[i]? = some c, fun i _ => x.cps.size ≤ i⟩
theorem turn_enumS {P : Program} {w : World} {K : PySem.W.Frag} {elts : List Expr} {kk : Nat} {tpos : Pos} (x : Str) (t : Tok) (e it : Addr) :
    Turn P w K (.Tuple elts kk tpos) (Iten x) [e, it] e (fun i h => (∃ old, IsEnum h e it ((i : Nat) : Int) old) ∧ h.IsStrIter it (strIterType x) x t i ∧ e ≠ it ∧ i ≤ x.cps.size) where
  mem := by simp
  obj := fun i h st b hb => by
    obtain ⟨⟨old, he⟩, ⟨o, ho, hc, hd⟩, _, _⟩ := st
    have e' : b = e ∨ b = it := by simpa using hb
    rcases e' with z | z
    · rw [z]; exact ⟨_, he, fun v q => nomatch q⟩
    · rw [z]; exact ⟨o, ho, fun v q => by rw [hd] at q; cases q⟩
  keep := fun i h h' st k => by
    obtain ⟨⟨old, he⟩, ⟨o, ho, r⟩, hne⟩ := st
    exact ⟨⟨old, k e (by simp) _ he⟩, ⟨o, k it (by simp) o ho, r⟩, hne⟩
  item := by
    intro X hP hw hK hc i pins s σ H E I hf st hg
    subst hP hw hK
    obtain ⟨⟨old, he⟩, hit, hne, _⟩ := st
    have hel : e < s.heap.objs.size := Heap.lt_size he
    have hil : it < s.heap.objs.size := by obtain ⟨_, q, _⟩ := hit; exact Heap.lt_size q
    have hd : X.A.in1.handled = none := I.ok.hd hc
    have W : Draws X.prog X.w X.A.in1 it [it] x.cps.size (fun i v => ∃ c u, x.cps[i]? = some c ∧ v = .str ⟨#[c]⟩ u) (fun i h => h.IsStrIter it (strIterType x) x t i) := by
      unfold strIterType
      cases ha : x.cps.all (· < 128)
      · simpa [ha] using Draws.strWide hd it x t
      · simpa [ha] using Draws.strAscii hd it x t
    refine wpAny_pyNext_enum_itemD W he hit hg hne (by simpa using hne) fun u h' tk hu ho hit' hT hsz hk => ?_
    obtain ⟨c, u', hcx, rfl⟩ := hu
    refine ⟨_, rfl, wpAny_letOwnedTupleGo_enum (s := { s with heap := h', toks := tk + 1 }) ho fun h'' he' sb => ?_⟩
    have hT2 : h''.get? s.heap.objs.size = some { cls := .type "tuple", data := .seq #[.int i tk, .str ⟨#[c]⟩ u'] } := (sb.2 _ (Nat.ne_of_gt hel)).trans hT
    have new : ObjOk X.prog X.w (upd H s.heap.objs.size (.tup [.int (i : Nat), .str ⟨#[c]⟩])) h'' s.heap.objs.size (.tup [.int (i : Nat), .str ⟨#[c]⟩]) :=
      ⟨by show 2 ≤ sizeLine; decide, [.int i tk, .str ⟨#[c]⟩ u'], .cons ⟨_, rfl⟩ (.cons ⟨_, rfl⟩ .nil), ⟨_, hT2, rfl, _, rfl⟩⟩
    have I1 : Inv X pins σ (upd H s.heap.objs.size (.tup [.int (i : Nat), .str ⟨#[c]⟩])) { s with heap := h'', toks := tk + 1 } :=
      I.turnedNew (ch := [e, it]) (fun b ob hb q => (sb.2 b (fun z => hb (by simp [z]))).trans (hk b ob (fun z => hb (by simp [z])) (fun z => hb (by simp [z])) q)) hf (Nat.le_refl _) new
    have hit2 : h''.IsStrIter it (strIterType x) x t (i + 1) := by
      obtain ⟨o, ho', r⟩ := hit'
      exact ⟨o, (sb.2 it (Ne.symm hne)).trans ho', r⟩
    refine ⟨.ref s.heap.objs.size, _, I1, rfl, ⟨_, c, rfl, I.hok.fresh (Nat.le_refl _), rfl, hcx⟩, ⟨⟨.str ⟨#[c]⟩ u', ?_⟩, hit2, hne, hg⟩, fun b hb => ?_⟩
    · have e1 : ((i + 1 : Nat) : Int) = (i : Int) + 1 := by omega
      rw [e1]; exact he'
    · have hb' : b < s.heap.objs.size := by
        have e' : b = e ∨ b = it := by simpa using hb
        rcases e' with z | z
        · rw [z]; exact hel
        · rw [z]; exact hil
      rw [upd_ne (Nat.ne_of_lt hb')]
      exact (hf b hb).1
  done := by
    intro X hP hw hK hc i pins s σ H E I hf st hg
    subst hP hw hK
    obtain ⟨⟨old, he⟩, hit, hne, hle⟩ := st
    have ei : i = x.cps.size := Nat.le_antisymm hle hg
    subst ei
    obtain ⟨f0, f1, f2, f3, f4, f5⟩ := hf it (by simp)
    have hd : X.A.in1.handled = none := I.ok.hd hc
    have W : Draws X.prog X.w X.A.in1 it [it] x.cps.size (fun i v => ∃ c u, x.cps[i]? = some c ∧ v = .str ⟨#[c]⟩ u) (fun i h => h.IsStrIter it (strIterType x) x t i) := by
      unfold strIterType
      cases ha : x.cps.all (· < 128)
      · simpa [ha] using Draws.strWide hd it x t
      · simpa [ha] using Draws.strAscii hd it x t
    exact wpAny_pyNext_enum_endD W he hit fun h' eb => ⟨rfl, I.turned (t' := s.toks) (fun b o hb q => eb b o hb q) f0 f1 f3 f4 f5⟩
  self := fun A i s Q E st h => let ⟨⟨_, he⟩, _⟩ := st; wpAny_pyIter_enum he h
def iEnumS (ta : TA) : TI := fun σ H R => ta σ H fun vs H1 => ∃ x, vs = [.str x] ∧ R (Iten x) H1
theorem pi_enumS {X : Cx} {e : Expr} {ta : TA} {p pos tpos : Pos} {elts : List Expr} {kk : Nat} (hg : Gl X "enumerate") (hm : X.mg "enumerate" = none) (ha : PA X [e] ta) (hs : starEach [e] X.env = [(false, eval e X.env)] := by rfl) :
    PI X (.Tuple elts kk tpos) (.Call (.Name "enumerate" p) [e] [] pos) (iEnumS ta) := by
  refine ⟨fun pins s σ H R I h => ?_⟩
  refine Call_ (ld_blt I hg hm boot_enumerate (PyProof.Rows.callWith_type1 (thn (ha.run pos pins s σ H _ I h) fun us s1 ⟨vs, H1, I1, r1, q1⟩ => ?_) hs rfl))
  obtain ⟨x, ex, q⟩ := q1
  subst ex
  cases r1 with
  | cons r rr =>
    cases rr
    obtain ⟨t, rfl⟩ := r
    refine call_enumerate_str fun h' he hit hsz hk => wpAny_pyIter_enum he ?_
    have I2 : Inv X pins σ H1 { s1 with heap := h' } := I1.kept (t' := s1.toks) hk
    refine ⟨s1.heap.objs.size + 1, [s1.heap.objs.size + 1, s1.heap.objs.size], _, _, H1, rfl, I2, turn_enumS x t (s1.heap.objs.size + 1) s1.heap.objs.size, ⟨⟨.none, he⟩, hit, Nat.succ_ne_self _, Nat.zero_le _⟩, fun b hb => ?_, q⟩
    have e' : b = s1.heap.objs.size + 1 ∨ b = s1.heap.objs.size := by simpa using hb
    have hle : s1.heap.objs.size ≤ b := by
      rcases e' with z | z
      · rw [z]; exact Nat.le_add_right _ _
      · rw [z]; exact Nat.le_refl _
    exact I1.fpOk hle (I1.hok.fresh hle)
/-- a for over enumerate(a text) -/
theorem for_enumS {x : Str} {g : TG} {tb : TS} {D : Ends} {σ : L2.St} {H : Hp} (Pv : Nat → L2.St → Hp → Prop) (h0 : Pv 0 σ H)
    (hs : ∀ i c T σ H, x.cps[i]? = some c → Pv i σ H → H T = none → g (.ref T) σ (upd H T (.tup [.int (i : Nat), .str ⟨#[c]⟩])) fun σ2 H2 => tb { D with nx := Pv (i + 1), ct := Pv (i + 1), bk := D.nx } σ2 H2) (hd : ∀ σ H, Pv x.cps.size σ H → D.nx σ H) :
    ∃ W : Nat → Nat → L2.St → Hp → Prop, (∃ m, W 0 m σ H) ∧ ∀ i m σ H, W i m σ H →
      ((Iten x).stop i H ∧ D.nx σ H) ∨ ((Iten x).go i H ∧ ∃ N : L2.St → Hp → Prop, (∀ σ' H', N σ' H' → ∃ m', m' < m ∧ W (i + 1) m' σ' H') ∧ ∀ v H', (Iten x).yld i H v H' → g v σ H' fun σ2 H2 => tb { D with nx := N, ct := N, bk := D.nx } σ2 H2) := by
  refine ⟨fun i m σ H => m = x.cps.size - i ∧ i ≤ x.cps.size ∧ Pv i σ H, ⟨x.cps.size, by simp, Nat.zero_le _, h0⟩, ?_⟩
  rintro i m σ H ⟨rfl, hi, p⟩
  by_cases hlt : i < x.cps.size
  · refine .inr ⟨hlt, Pv (i + 1), fun σ' H' p' => ⟨x.cps.size - (i + 1), by omega, rfl, hlt, p'⟩, fun v H' y => ?_⟩
    obtain ⟨T, c, rfl, nT, rfl, hc⟩ := y
    exact hs i c T σ H hc p nT
  · have e : i = x.cps.size := by omega
    subst e
    exact .inl ⟨Nat.le_refl _, hd σ H p⟩
end Hs
set_option maxHeartbeats 4000000
/-! parts_of, has_form, is_shape. -/
namespace Hs
open PySem PySem.Spec PyProof.Rows L2 Evl Hc
/-- the longest text that is looked at -/
def cap : Nat := 30000
theorem cap_line {n : Nat} (h : n ≤ cap) : n ≤ sizeLine := Nat.le_trans h (by decide)
structure TxtP (mg : Str → Option Value) : Prop where
  enu : mg "enumerate" = none
  all : mg "all" = none
  len : mg "len" = none
  mI : ∃ t, mg "MOST_ITEMS" = some (.int 3 t)
  mD : ∃ t, mg "MOST_DEPTH" = some (.int 3 t)
  mL : ∃ t, mg "MOST_LISTS_shapes" = some (.int 5 t)
def spParts : Sp := fun vs H Q _ => ∃ L, vs = [.str (S L)] ∧ L.length ≤ cap ∧ ∀ p H', H p = none → Ex H H' → H' p = some (.lst ((partsOf L).map fun x => V.str (S x))) → Q (.ref p) H'
def spForm (f : Nat) : Sp := fun vs H Q _ => ∃ L, vs = [.str (S L), .int (f : Int)] ∧ L.length ≤ cap ∧ ∀ H', Ex H H' → Q (.bl (hasForm f L)) H'
def spShape : Sp := fun vs H Q _ => ∃ L, vs = [.str (S L)] ∧ L.length ≤ cap ∧ ∀ H', Ex H H' → Q (.bl (isShape L)) H'
abbrev nParts : List Str := ["text", "parts", "nested", "start", "at", "sign"]
theorem scParts : FnScope nParts ["text"] (defScope sParts) := ⟨rfl, rfl, rfl, by decide +kernel, rfl, by decide +kernel, by decide +kernel⟩
section
variable {σ : L2.St} {H : Hp} {te ta tb : TE} {tl th : TO}
theorem ev_slS {z : Str} {lo hi : Option Int} (h : Ev te σ H (.str z)) (h1 : EvO tl σ H lo) (h2 : EvO th σ H hi) (hz : z.length ≤ sizeLine) : Ev (tSl rSlS te tl th) σ H (.str (cutS z lo hi)) := fun H1 e Q q =>
  h H1 e _ fun H2 e2 => h1 H2 (e.trans e2) _ fun H3 e3 => h2 H3 ((e.trans e2).trans e3) _ fun H4 e4 => ⟨z, rfl, hz, q H4 ((e2.trans e3).trans e4)⟩
theorem dec_S {a b : List Nat} : decide (V.str (S a) = V.str (S b)) = decide (a = b) := by
  by_cases h : a = b
  · subst h
    simp
  · rw [decide_eq_false h, decide_eq_false]
    intro z
    exact h (S_inj (V.str.inj z))
theorem dec_I {a b : Int} : decide (V.int a = V.int b) = decide (a = b) := by
  rw [dec_int]
  rfl
theorem ev_eqS {a b : List Nat} (h1 : Ev ta σ H (.str (S a))) (h2 : Ev tb σ H (.str (S b))) : Ev (tOp rEq ta tb) σ H (.bl (decide (a = b))) := by
  rw [← dec_S]
  exact ev_op h1 h2 (rv_eq rfl)
theorem ev_neS {a b : List Nat} (h1 : Ev ta σ H (.str (S a))) (h2 : Ev tb σ H (.str (S b))) : Ev (tOp rNe ta tb) σ H (.bl (!decide (a = b))) := by
  rw [← dec_S]
  exact ev_op h1 h2 (rv_ne rfl)
theorem ev_eqI {a b : Int} (h1 : Ev ta σ H (.int a)) (h2 : Ev tb σ H (.int b)) : Ev (tOp rEq ta tb) σ H (.bl (decide (a = b))) := by
  rw [← dec_I]
  exact ev_op h1 h2 (rv_eq rfl)
end
section
variable {P : Program} {w : World} {K : PySem.W.Frag} {mg : Str → Option Value} {base : Heap}
theorem mem_two (c : Nat) (a b : Nat) : (c ∈ (S [a, b]).cps.toList) = (c ∈ [a, b]) := rfl
theorem ok_parts {f : Addr} {fd : FuncData} {k : Nat} (F : Fun K "parts_of" "parts_of" sParts f fd) (T : TxtP mg) : FnOk P w K mg base CX0 (k + 1) f fd ["text"] spParts := by
  refine F.ok scParts (fun vs H Q E h => ?_) (fun cdv A outer s H vs Q E hr h => ?_)
  · obtain ⟨L, rfl, _⟩ := h
    rfl
  · obtain ⟨L, rfl, hL, q⟩ := h
    refine ⟨_, pss_cons (ps_set (i := 1) scParts.nd rfl (.inl rfl) (pe_lst pa_nil)) (pss_cons (ps_set (i := 2) scParts.nd rfl (.inl rfl) pe_int) (pss_cons (ps_set (i := 3) scParts.nd rfl (.inl rfl) pe_int)
      (pss_cons (ps_for PassesOwn.never rfl (pi_enumS (by rfl) T.enu (pa_cons (pv 0) pa_nil)) (pg_tup (by rfl) (pgs_cons (pg_name (i := 4) scParts.nd rfl (.inl rfl)) (pgs_cons (pg_name (i := 5) scParts.nd rfl (.inl rfl)) pgs_nil)))
        (pss_one (ps_if (pt_cmpR op_in_sign (pv 5) pe_str (by rfl)) (pss_one (ps_aug (i := 2) scParts.nd rfl (.inl rfl) pe_int ip_add))
          (pss_one (ps_if (pt_cmpR op_in_sign (pv 5) pe_str (by rfl)) (pss_one (ps_aug (i := 2) scParts.nd rfl (.inl rfl) pe_int ip_sub))
            (pss_one (ps_if (PW.pt (pw_and (pt_cmpR op_eq (pv 2) pe_int (nomark _)) (pw_and1 (pt_cmpR op_eq (pe_slice sl_str (pv 0) (po_some (pv 4)) (po_some (pe_op op_add (pv 4) pe_int))) pe_str (nomark _)))))
              (pss_cons (ps_expr (pe_bm PySem.F.plainAttrs_list PySem.F.slot_list_append PySem.F.type_list_append mt_append (pv 1) (pa_cons (pe_slice sl_str (pv 0) (po_some (pv 3)) (po_some (pv 4))) pa_nil)))
                (pss_one (ps_set (i := 3) scParts.nd rfl (.inl rfl) (pe_op op_add (pv 4) pe_int)))) pss_nil)))))))
      (pss_cons (ps_expr (pe_bm PySem.F.plainAttrs_list PySem.F.slot_list_append PySem.F.type_list_append mt_append (pv 1) (pa_cons (pe_slice sl_str (pv 0) (po_some (pv 3)) po_none) pa_nil)))
      (pss_one (ps_ret (pv 1))))))), ?_⟩
    refine ⟨Nat.zero_le _, fun p np => ?_⟩
    refine ⟨_, rfl, S L, rfl, ?_⟩
    refine for_enumS (x := S L) (fun i σ H' => ∃ (st : SS) (v4 v5 : Option V), σ = [some (.str (S L)), some (.ref p), some (.int st.2.1), some (.int (st.2.2 : Nat)), v4, v5] ∧ scan L (L.drop i) i st = scan L L 0 ([], 0, 0) ∧ st.1.length ≤ i ∧ Ex H H' ∧ H' p = some (.lst (st.1.map fun x => V.str (S x)))) ?_ ?_ ?_
    · exact ⟨([], 0, 0), none, none, rfl, rfl, Nat.le_refl _, Ex.new np, upd_same⟩
    · rintro i c T0 σ H' hc ⟨⟨ps, n, a⟩, v4, v5, rfl, hs, hl, e, hp⟩ nT
      have hc' : L[i]? = some c := by
        have z : (S L).cps[i]? = L[i]? := by simp
        rw [← z]
        exact hc
      have hi : i < L.length := (List.getElem?_eq_some_iff.mp hc').1
      have hd : L.drop i = c :: L.drop (i + 1) := by
        rw [List.drop_eq_getElem_cons hi]
        congr 1
        exact (List.getElem?_eq_some_iff.mp hc').2
      rw [hd] at hs
      replace hs : scan L (L.drop (i + 1)) (i + 1) (stepP L (ps, n, a) i c) = scan L L 0 ([], 0, 0) := hs
      refine ⟨T0, _, rfl, SqT.of upd_same, rfl, .int (i : Nat), [.str ⟨#[c]⟩], rfl, .str ⟨#[c]⟩, [], rfl, rfl, ?_⟩
      have eT : Ex H (upd H' T0 (.tup [.int (i : Nat), .str ⟨#[c]⟩])) := e.trans (Ex.new nT)
      have hpT : (upd H' T0 (.tup [.int (i : Nat), .str ⟨#[c]⟩])) p = some (.lst (ps.map fun x => V.str (S x))) := (Ex.new nT) _ _ hp
      generalize upd H' T0 (.tup [.int (i : Nat), .str ⟨#[c]⟩]) = K0 at eT hpT ⊢
      have st' : ∀ (st : SS), stepP L (ps, n, a) i c = st → scan L (L.drop (i + 1)) (i + 1) st = scan L L 0 ([], 0, 0) := fun st e => e ▸ hs
      refine ⟨_, rfl, c, S [91, 40], rfl, rfl, _, rfl, ?_⟩
      refine ite2 (fun h1 => ?_) (fun h1 => ?_)
      · have h1' : c ∈ [91, 40] := of_decide_eq_true h1
        exact ⟨.int n, rfl, n, 1, rfl, rfl, (ps, n + 1, a), _, _, rfl, st' _ (if_pos h1'), Nat.le_succ_of_le hl, eT, hpT⟩
      · have h1' : c ∉ [91, 40] := fun z => h1 (decide_eq_true z)
        refine ⟨_, rfl, c, S [41, 93], rfl, rfl, _, rfl, ?_⟩
        refine ite2 (fun h2 => ?_) (fun h2 => ?_)
        · have h2' : c ∈ [41, 93] := of_decide_eq_true h2
          exact ⟨.int n, rfl, n, 1, rfl, rfl, (ps, n - 1, a), _, _, rfl, st' _ ((if_neg h1').trans (if_pos h2')), Nat.le_succ_of_le hl, eT, hpT⟩
        · have h2' : c ∉ [41, 93] := fun z => h2 (decide_eq_true z)
          have hstep : stepP L (ps, n, a) i c = (if n = 0 ∧ (L.drop i).take 2 = [44, 32] then (ps ++ [(L.drop a).take (i - a)], n, i + 2) else (ps, n, a)) := (if_neg h1').trans (if_neg h2')
          have hsl : ∀ (x y : Nat), (S L).length ≤ sizeLine := fun _ _ => by rw [S_len]; exact cap_line hL
          refine s_when (b := decide (n = 0) && decide ((L.drop i).take 2 = [44, 32])) (et_and (et_test (ev_eqI (ev_var rfl) ev_c)) fun _ => et_test (ev_eqS (b := [44, 32]) (Evl.ev_is (ev_slS (ev_var rfl) (eo_some (ev_var rfl)) (eo_some (ev_op (z := .int ((i + 2 : Nat) : Int)) (ev_var rfl) ev_c rv_I0)) (hsl 0 0)) (by rw [cut_nn, Nat.add_sub_cancel_left])) ev_c)) (fun hb H1 f1 => ?_) (fun hb H1 f1 => ?_)
          · rw [Bool.and_eq_true, decide_eq_true_eq, decide_eq_true_eq] at hb
            refine q_app (l := p) (f1 _ _ hpT) (ev_var rfl) (v := .str (S ((L.drop a).take (i - a)))) (Evl.ev_is (ev_slS (ev_var rfl) (eo_some (ev_var rfl)) (eo_some (ev_var rfl)) (hsl 0 0)) (by rw [cut_nn])) (by rw [List.length_map]; have := cap_line hL; show ps.length < 100000; have h3 : ps.length ≤ i := hl; have h4 : L.length ≤ 30000 := hL; omega) fun H2 f2 => ?_
            refine s_asg (ev_op (z := .int ((i + 2 : Nat) : Int)) (ev_var rfl) ev_c rv_I0) fun H3 f3 => ?_
            refine ⟨(ps ++ [(L.drop a).take (i - a)], n, i + 2), _, _, rfl, st' _ (hstep.trans (if_pos hb)), ?_, ?_, ?_⟩
            · show (ps ++ [_]).length ≤ i + 1
              have h3 : ps.length ≤ i := hl
              rw [List.length_append, List.length_singleton]
              omega
            · exact ((((eT.trans f1).trans f2).mut np).trans f3)
            · refine f3 _ _ ?_
              rw [upd_same, List.map_append]
              rfl
          · have hb' : ¬ (n = 0 ∧ (L.drop i).take 2 = [44, 32]) := by
              intro z
              rw [decide_eq_true z.1, decide_eq_true z.2] at hb
              cases hb
            exact ⟨(ps, n, a), _, _, rfl, st' _ (hstep.trans (if_neg hb')), Nat.le_succ_of_le hl, eT.trans f1, f1 _ _ hpT⟩
    · rintro σ H' ⟨⟨ps, n, a⟩, v4, v5, rfl, hs, hl, e, hp⟩
      have hz : (S L).cps.size = L.length := by simp
      rw [hz] at hs hl
      rw [List.drop_length] at hs
      replace hs : (ps, n, a) = scan L L 0 ([], 0, 0) := hs
      refine q_app (l := p) hp (ev_var rfl) (v := .str (S (L.drop a))) (Evl.ev_is (ev_slS (ev_var rfl) (eo_some (ev_var rfl)) eo_none (by rw [S_len]; exact cap_line hL)) (by rw [cut_n])) (by rw [List.length_map]; show ps.length < 100000; have h3 : ps.length ≤ L.length := hl; have h4 : L.length ≤ 30000 := hL; omega) fun H2 f2 => ?_
      refine s_ret (ev_var rfl) fun H3 f3 => ?_
      refine q p H3 np (((e.trans f2).mut np).trans f3) (f3 _ _ ?_)
      rw [upd_same]
      unfold partsOf
      rw [← hs, List.map_append]
      rfl

/-- a def of the text, ready to be called -/
structure Rd (P : Program) (w : World) (K : PySem.W.Frag) (mg : Str → Option Value) (base : Heap) (x : Str) (k : Nat) (ps : List Str) (sp : Sp) : Prop where
  ex : ∃ (f : Addr) (fd : FuncData), mg x = some (.ref f) ∧ PySem.W.keepIn K (.ref f) = true ∧ Binds K fd ps [] ∧ FnOk P w K mg base CX0 k f fd ps sp
theorem Rd.mono {x : Str} {j k : Nat} {ps : List Str} {sp : Sp} (r : Rd P w K mg base x j ps sp) (h : j ≤ k) : Rd P w K mg base x k ps sp := by
  obtain ⟨f, fd, g, kp, b, G⟩ := r.ex
  exact ⟨f, fd, g, kp, b, G.mono h⟩
theorem pe_rd {X : Cx} {x : Str} {k j : Nat} {ps : List Str} {sp : Sp} {e : Expr} {es : List Expr} {ta : TA} {p pos : Pos} (r : Rd X.prog X.w X.K X.mg X.base x k ps sp) (hr : Room j X.A) (hk : k ≤ j) (hg : Gl X x) (ha : PA X (e :: es) ta)
    (hdb : (x == ("__debug__" : Str)) = false := by decide) (he : starEach (e :: es) X.env = (false, eval e X.env) :: starEach es X.env := by rfl) (hpl : (backTo pos (starEach es X.env)).any (·.1) = false := by rfl) : PE X (.Call (.Name x p) (e :: es) [] pos) (tCall sp [] E0 ta) := by
  obtain ⟨f, fd, g1, kp, b, G⟩ := r.ex
  exact pe_call G (hr.mono hk) hg g1 kp b .nil pass0 ha hdb he hpl
/-- what is never asked -/
def spNo : Sp := fun _ _ _ _ => False
theorem rd_no {x : Str} {st : Stmt} {f : Addr} {fd : FuncData} {ps : List Str} (F : Fun K x x st f fd) (g : mg x = some (.ref f)) (b : Binds K fd ps []) (k : Nat) : Rd P w K mg base x k ps spNo :=
  ⟨f, fd, g, F.kp, b, ⟨fun _ _ _ _ h => h.elim, fun _ _ _ _ _ _ _ _ _ _ _ _ _ h => h.elim⟩⟩
theorem ev_m1 {σ : L2.St} {H : Hp} {to te : TE} {r : V → List V → Hp → VK → Prop} {a : Str} {y z : V} (h1 : Ev to σ H (.str a)) (h2 : Ev te σ H y) (hr : ∀ (H1 : Hp) (Q : VK), Q z H1 → r (.str a) [y] H1 Q) : Ev (tM1 r to te) σ H z := fun H1 e Q q =>
  h1 H1 e _ fun H2 e2 => ⟨⟨a, rfl⟩, h2 H2 (e.trans e2) _ fun H3 e3 => hr H3 Q (q H3 (e2.trans e3))⟩
theorem ev_all {σ : L2.St} {H : Hp} {tl : TE} {bs : List Bool} (h : EvL tl σ H (bs.map V.bl)) : Ev (tCB (rAll K) (tCons tl tNil)) σ H (.bl (bs.all id)) := fun H1 e Q q =>
  h H1 e _ fun p H2 np e2 hp => ⟨p, bs, rfl, SqL.of hp, q H2 e2⟩
theorem sp_parts {H : Hp} {L : List Nat} (h : L.length ≤ cap) : SpL spParts ([.str (S L)] ++ []) H ((partsOf L).map fun x => V.str (S x)) := fun H1 e Q q E => ⟨L, rfl, h, fun p H' np ex hp => q p H' np ex hp⟩
theorem sp_form {H : Hp} {L : List Nat} {n : Nat} (h : L.length ≤ cap) : SpV (spForm n) ([.str (S L), .int (n : Int)] ++ []) H (.bl (hasForm n L)) := fun H1 e Q q E => ⟨L, rfl, h, fun H' ex => q H' ex⟩
theorem sp_shape {H : Hp} {L : List Nat} (h : L.length ≤ cap) : SpV spShape ([.str (S L)] ++ []) H (.bl (isShape L)) := fun H1 e Q q E => ⟨L, rfl, h, fun H' ex => q H' ex⟩
theorem ev_starts {σ : L2.St} {H : Hp} {to te : TE} {L : List Nat} {c : Nat} (h1 : Ev to σ H (.str (S L))) (h2 : Ev te σ H (.str (S [c]))) :
    Ev (tM1 (fun x xs H Q => ∃ a b, x = .str a ∧ xs = [.str b] ∧ Q (.bl (Txt.startswith a b)) H) to te) σ H (.bl (L.head? == some c)) := ev_m1 h1 h2 fun H1 Q q => ⟨S L, S [c], rfl, rfl, by rw [starts1]; exact q⟩
theorem ev_ends {σ : L2.St} {H : Hp} {to te : TE} {L : List Nat} {c : Nat} (h1 : Ev to σ H (.str (S L))) (h2 : Ev te σ H (.str (S [c]))) :
    Ev (tM1 (fun x xs H Q => ∃ a b, x = .str a ∧ xs = [.str b] ∧ Q (.bl (Txt.endswith a b)) H) to te) σ H (.bl (L.getLast? == some c)) := ev_m1 h1 h2 fun H1 Q q => ⟨S L, S [c], rfl, rfl, by rw [ends1]; exact q⟩
theorem ev_count {σ : L2.St} {H : Hp} {to te : TE} {L : List Nat} {c : Nat} (h1 : Ev to σ H (.str (S L))) (h2 : Ev te σ H (.str (S [c]))) :
    Ev (tM1 (fun x xs H Q => ∃ a b, x = .str a ∧ xs = [.str b] ∧ Q (.int (Txt.count a b)) H) to te) σ H (.int ((L.count c : Nat) : Int)) := ev_m1 h1 h2 fun H1 Q q => ⟨S L, S [c], rfl, rfl, by rw [count1]; exact q⟩
theorem wipe1 {σ : L2.St} {j : Nat} (x : V) : wipe ((wipe σ [j]).set j (some x)) [j] = wipe σ [j] := by
  show ((σ.set j none).set j (some x)).set j none = σ.set j none
  rw [List.set_set, List.set_set]
abbrev nForm : List Str := ["text", "floors", "parts", "part"]
theorem scForm : FnScope nForm ["text", "floors"] (defScope sHasForm) := ⟨rfl, rfl, rfl, by decide +kernel, rfl, by decide +kernel, by decide +kernel⟩
theorem ok_form1 {f : Addr} {fd : FuncData} {k n : Nat} {spP : Sp} (F : Fun K "has_form" "has_form" sHasForm f fd) (T : TxtP mg) (rP : Rd P w K mg base "parts_of" k ["text"] spParts) (rF : Rd P w K mg base "has_form" k ["text", "floors"] spP)
    (hc : n = 0 ∨ ∃ m, n = m + 1 ∧ spP = spForm m) : FnOk P w K mg base CX0 (k + 1) f fd ["text", "floors"] (spForm n) := by
  refine F.ok scForm (fun vs H Q E h => ?_) (fun cdv A outer s H vs Q E hr h => ?_)
  · obtain ⟨L, rfl, _⟩ := h
    rfl
  · obtain ⟨L, rfl, hL, q⟩ := h
    obtain ⟨tI, hI⟩ := T.mI
    refine ⟨_, pss_cons (ps_if (pt_cmpR op_eq (pv 0) pe_str (nomark _)) (pss_one (ps_ret pe_bl)) pss_nil)
      (pss_cons (ps_if (PW.pt (pw_or (pt_cmpR op_eq (pv 1) pe_int (nomark _)) (pw_or (pt_not (pt_val (pe_m1 PySem.F.slot_str_startswith PySem.F.type_str_startswith mt_startswith (pv 0) pe_str))) (pw_or1 (pt_not (pt_val (pe_m1 PySem.F.slot_str_endswith PySem.F.type_str_endswith mt_endswith (pv 0) pe_str)))))))
          (pss_one (ps_ret pe_bl)) pss_nil)
      (pss_cons (ps_set (i := 2) scForm.nd rfl (.inl rfl) (pe_rd rP hr (Nat.le_refl _) (by rfl) (pa_cons (pe_slice sl_str (pv 0) (po_some pe_int) (po_some (pe_un un_neg pe_int))) pa_nil)))
      (pss_one (ps_ret (pe_and (pe_cmpR op_le (pe_callB call_len_seq (by rfl) T.len PySem.boot_len (pa_cons (pv 2) pa_nil)) (pe_glob (v := .int 3) (by rfl) hI ⟨_, rfl⟩) (nomark _))
        (pe_one (pe_callB (cr_all rfl) (by rfl) T.all boot_all (pa_cons (pe_lc (own := [("part", 3)]) (g := gName 3) (tt := tYes) rfl scForm.nd (pi_list (pv 2)) (blkOk_by (N := nForm) (sc := defScope sHasForm) (by decide +kernel)) (fun _ _ _ _ _ => pg_name (i := 3) scForm.nd rfl (.inl rfl)) (fun _ _ _ _ _ => pts_nil)
          (fun _ _ _ _ _ => pe_rd rF hr (Nat.le_refl _) (by rfl) (pa_cons (pv 3) (pa_cons (pe_op op_sub (pv 1) pe_int) pa_nil)))) pa_nil)))))))), ?_⟩
    refine q_when (et_test (ev_eqS (ev_var rfl) ev_c)) (fun hb H1 f1 => ?_) (fun hb H1 f1 => ?_)
    · refine s_ret ev_c fun H2 f2 => ?_
      have e : hasForm n L = true := by
        have e1 : L = [46] := of_decide_eq_true hb
        rw [e1]
        cases n <;> rfl
      rw [← e]
      exact q H2 (f1.trans f2)
    · have hne : L ≠ [46] := of_decide_eq_false hb
      refine q_when (et_or (et_test (ev_eqI (ev_var rfl) ev_c)) fun _ => et_or (et_not (et_B (ev_starts (c := 91) (ev_var rfl) ev_c))) fun _ => et_not (et_B (ev_ends (c := 93) (ev_var rfl) ev_c))) (fun hb2 H2 f2 => ?_) (fun hb2 H2 f2 => ?_)
      · refine s_ret ev_c fun H3 f3 => ?_
        have e : hasForm n L = false := by
          cases n with
          | zero => exact decide_eq_false hne
          | succ n =>
            unfold hasForm
            rw [decide_eq_false hne]
            rw [decide_eq_false (by omega)] at hb2
            revert hb2
            cases (L.head? == some 91) <;> cases (L.getLast? == some 93) <;> simp
        rw [← e]
        exact q H3 ((f1.trans f2).trans f3)
      · obtain ⟨m, rfl, rfl⟩ : ∃ m, n = m + 1 ∧ spP = spForm m := by
          rcases hc with rfl | h
          · simp at hb2
          · exact h
        have e : hasForm (m + 1) L = (decide ((partsOf (inner L)).length ≤ 3) && (partsOf (inner L)).all (hasForm m)) := by
          unfold hasForm
          rw [decide_eq_false hne]
          rw [decide_eq_false (by omega)] at hb2
          revert hb2
          cases (L.head? == some 91) <;> cases (L.getLast? == some 93) <;> simp
        have hi : (inner L).length ≤ cap := Nat.le_trans (inner_len L) hL
        refine q_asgL (el_call (ea_cons (Evl.ev_is (ev_slS (lo := some 1) (hi := some (-1)) (ev_var rfl) (eo_some ev_c) (eo_some (ev_un ev_c ru_neg)) (by rw [S_len]; exact cap_line hL)) (by rw [cut_in])) ea_nil) (sp_parts hi)) fun p H3 np f3 hp => ?_
        refine s_ret (ev_andV (ev_op (ev_len (ev_var rfl) (SqL.of hp)) ev_c rv_I0) fun _ => ev_all (bs := (partsOf (inner L)).map (hasForm m)) (by
          have z := el_map (K := K) (H := H3) (tl := tVar 2) (te := tCall (spForm m) [] E0 (tCons (tVar 3) (tCons (tOp (rI0 fun i j => .int (i - j)) (tVar 1) (tC (.int 1))) tNil))) (t := tYes) (j := 3) (vs := [3]) (σ := [some (.str (S L)), some (.int ((m + 1 : Nat) : Int)), some (.ref p), none]) (partsOf (inner L)) (fun x => V.str (S x)) (fun _ => true) (fun x => V.bl (hasForm m x)) (ev_var rfl) (SqL.of hp) ?_ wipe1 (fun x H1 _ _ => et_yes) (fun x H1 _ hx _ => ?_)
          · rw [List.filter_eq_self.mpr (fun _ _ => rfl)] at z
            rw [List.map_map]
            exact z
          · have h1 := partsOf_len (inner L)
            have h2 : (inner L).length ≤ 30000 := hi
            omega
          · refine ev_call (ea_cons (ev_var rfl) (ea_cons (ev_op (z := .int (m : Int)) (ev_var rfl) ev_c (by
              have e : ((m : Int)) = ((m + 1 : Nat) : Int) - 1 := by omega
              rw [e]
              exact rv_I0)) ea_nil)) (sp_form (Nat.le_trans (partsOf_items _ x hx) hi)))) fun H4 f4 => ?_
        have e2 : hasForm (m + 1) L = (decide ((((partsOf (inner L)).map fun x => V.str (S x)).length : Int) ≤ 3) && ((partsOf (inner L)).map (hasForm m)).all id) := by
          rw [e, List.length_map, List.all_map]
          congr 1
          · rw [decide_eq_decide]
            omega
        rw [← e2]
        exact q H4 (((f1.trans f2).trans f3).trans f4)
theorem rd_form {f : Addr} {fd : FuncData} {k : Nat} (F : Fun K "has_form" "has_form" sHasForm f fd) (g : mg "has_form" = some (.ref f)) (b : Binds K fd ["text", "floors"] []) (T : TxtP mg) (rP : Rd P w K mg base "parts_of" k ["text"] spParts) :
    ∀ n, Rd P w K mg base "has_form" (k + 1 + n) ["text", "floors"] (spForm n)
  | 0 => ⟨f, fd, g, F.kp, b, ok_form1 F T rP (rd_no F g b k) (.inl rfl)⟩
  | n + 1 => ⟨f, fd, g, F.kp, b, ok_form1 F T (rP.mono (show k ≤ k + 1 + n by omega)) (rd_form F g b T rP n) (.inr ⟨n, rfl, rfl⟩)⟩
theorem scIs : FnScope ["text"] ["text"] (defScope sIsShape) := ⟨rfl, rfl, rfl, by decide +kernel, rfl, by decide +kernel, by decide +kernel⟩
theorem ok_is {f : Addr} {fd : FuncData} {k : Nat} (F : Fun K "is_shape" "is_shape" sIsShape f fd) (T : TxtP mg) (rF : Rd P w K mg base "has_form" k ["text", "floors"] (spForm 3)) : FnOk P w K mg base CX0 (k + 1) f fd ["text"] spShape := by
  refine F.ok scIs (fun vs H Q E h => ?_) (fun cdv A outer s H vs Q E hr h => ?_)
  · obtain ⟨L, rfl, _⟩ := h
    rfl
  · obtain ⟨L, rfl, hL, q⟩ := h
    obtain ⟨tL, hI⟩ := T.mL
    obtain ⟨tD, hD⟩ := T.mD
    refine ⟨_, pss_one (ps_ret (pe_and (pe_cmpR op_le (pe_m1 PySem.F.slot_str_count PySem.F.type_str_count mt_count (pv 0) pe_str) (pe_glob (v := .int 5) (by rfl) hI ⟨_, rfl⟩) (nomark _))
      (pe_one (pe_rd rF hr (Nat.le_refl _) (by rfl) (pa_cons (pv 0) (pa_cons (pe_glob (v := .int 3) (by rfl) hD ⟨_, rfl⟩) pa_nil)))))), ?_⟩
    refine s_ret (ev_andV (ev_op (ev_count (c := 91) (ev_var rfl) ev_c) ev_c rv_I0) fun _ => ev_call (ea_cons (ev_var rfl) (ea_cons ev_c ea_nil)) (sp_form hL)) fun H1 f1 => ?_
    have e : isShape L = (decide (((L.count 91 : Nat) : Int) ≤ 5) && hasForm 3 L) := by
      unfold isShape
      congr 1
      rw [decide_eq_decide]
      omega
    rw [← e]
    exact q H1 f1
end
end Hs
set_option maxHeartbeats 4000000
/-! are_small, is_word, is_class_name. -/
namespace Hs
open PySem PySem.Spec PyProof.Rows L2 Evl Hc
def smalls : List Nat := [97, 98, 99, 100, 101, 102, 103, 104, 105, 106, 107, 108, 109, 110, 111, 112, 113, 114, 115, 116, 117, 118, 119, 120, 121, 122]
def larges : List Nat := [65, 66, 67, 68, 69, 70, 71, 72, 73, 74, 75, 76, 77, 78, 79, 80, 81, 82, 83, 84, 85, 86, 87, 88, 89, 90]
/-- the words that stand for something else -/
def resv : List (List Nat) := (["class", "def", "enter", "exit", "return", "view", "copy", "new", "super", "wrap", "self", "none", "seen", "outside"] : List String).map fun s => s.toList.map Char.toNat
def areSmall (L : List Nat) : Bool := L.all fun c => decide (c ∈ smalls)
def isWord (L : List Nat) : Bool := decide (1 ≤ L.length) && decide (L.length ≤ 8) && areSmall L && !resv.contains L
def isClassName (L : List Nat) : Bool := match L with
  | [] => false
  | c :: M => decide (L.length ≤ 8) && decide (c ∈ larges) && areSmall M
structure WordC (mg : Str → Option Value) : Prop where
  all : mg "all" = none
  len : mg "len" = none
  sm : ∃ t, mg "SMALL_LETTERS" = some (.str (S smalls) t)
  la : ∃ t, mg "LARGE_LETTERS" = some (.str (S larges) t)
  mo : ∃ t, mg "MOST_LETTERS" = some (.int 8 t)
structure WordP (K : PySem.W.Frag) (mg : Str → Option Value) : Prop extends WordC mg where
  rs : ∃ r, mg "RESERVED" = some (.ref r) ∧ ∀ H, SqT K H r (resv.map fun x => V.str (S x))
def spSmall : Sp := fun vs H Q _ => ∃ L, vs = [.str (S L)] ∧ L.length ≤ cap ∧ ∀ H', Ex H H' → Q (.bl (areSmall L)) H'
def spWord : Sp := fun vs H Q _ => ∃ L, vs = [.str (S L)] ∧ L.length ≤ cap ∧ ∀ H', Ex H H' → Q (.bl (isWord L)) H'
def spClass : Sp := fun vs H Q _ => ∃ L, vs = [.str (S L)] ∧ L.length ≤ cap ∧ ∀ H', Ex H H' → Q (.bl (isClassName L)) H'
/-- a comprehension over a text -/
theorem lc_str {x : Str} {g : TG} {tt : TT} {te : TE} {vs : List Nat} {σ : L2.St} {H1 : Hp} {D : Addr} {Qd : Hp → Prop} (Pv : Nat → Hp → Prop) (h0 : Pv 0 (upd H1 D (HO.lst [])))
    (h : ∀ (i c : Nat) (H : Hp), x.cps[i]? = some c → Pv i H → g (.str ⟨#[c]⟩) (wipe σ vs) H fun σ2 H2 => wipe σ2 vs = wipe σ vs ∧ tt σ2 H2 fun b H3 =>
      if b = true then te σ2 H3 fun y H4 => ∃ acc, H4 D = some (HO.lst acc) ∧ acc.length < sizeLine ∧ Pv (i + 1) (upd H4 D (HO.lst (acc ++ [y]))) else Pv (i + 1) H3)
    (hq : ∀ H, Pv x.cps.size H → Qd H) : ∃ W : Nat → Nat → Hp → Prop, (∃ m, W 0 m (upd H1 D (HO.lst []))) ∧ ∀ (i m : Nat) (H : Hp), W i m H → (Its x).stop i H ∧ Qd H ∨ (Its x).go i H ∧
      ∃ Nx : Hp → Prop, (∀ (H' : Hp), Nx H' → ∃ m', m' < m ∧ W (i + 1) m' H') ∧ ∀ (v : V) (H' : Hp), (Its x).yld i H v H' → g v (wipe σ vs) H' fun σ2 H2 => wipe σ2 vs = wipe σ vs ∧ tt σ2 H2 fun b H3 =>
        if b = true then te σ2 H3 fun y H4 => ∃ acc, H4 D = some (HO.lst acc) ∧ acc.length < sizeLine ∧ Nx (upd H4 D (HO.lst (acc ++ [y]))) else Nx H3 := by
  refine ⟨fun i m H => i + m = x.cps.size ∧ Pv i H, ⟨x.cps.size, by omega, h0⟩, ?_⟩
  rintro i m H ⟨e, p⟩
  by_cases hi : i < x.cps.size
  · refine .inr ⟨hi, Pv (i + 1), fun H' q => ⟨m - 1, by omega, by omega, q⟩, ?_⟩
    rintro v H' ⟨rfl, c, hc, rfl⟩
    exact h i c _ hc p
  · refine .inl ⟨by show x.cps.size ≤ i; omega, hq _ ?_⟩
    have : i = x.cps.size := by omega
    exact this ▸ p
theorem el_lcS {te : TE} {σ : L2.St} {H : Hp} {L : List Nat} {tl : TE} {j : Nat} {vs : List Nat} (v : Nat → V) (h : Ev tl σ H (.str (S L))) (hz : L.length ≤ 40000) (hw : ∀ x, wipe ((wipe σ vs).set j (some x)) vs = wipe σ vs)
    (he : ∀ (c : Nat) H1, Ex H H1 → c ∈ L → Ev te ((wipe σ vs).set j (some (.str (S [c])))) H1 (v c)) :
    EvL (tLc (iStr tl) (gName j) tYes te vs) σ H (L.map v) := fun H0 e Q q => h H0 e _ fun H1 e1 => ⟨S L, rfl, fun Dl hD =>
  lc_str (x := S L) (Cw H1 (fun _ => true) (fun i => v (L.getD i 0)) Dl) ⟨hD, Ex.new hD, upd_same⟩ (fun i c H' hi p => by
      have hi' : L[i]? = some c := by
        have z : (S L).cps[i]? = L[i]? := by simp
        rw [← z]
        exact hi
      have hl : i < L.length := (List.getElem?_eq_some_iff.mp hi').1
      have hg : L.getD i 0 = c := by
        rw [List.getD_eq_getElem?_getD, hi']
        rfl
      refine ⟨hw _, cw_turn p (by omega) et_yes fun _ => ?_⟩
      show Ev te _ _ (v (L.getD i 0))
      rw [hg]
      exact he c H1 (e.trans e1) (List.mem_of_getElem? hi'))
    (fun H' p => q Dl H' (fresh_back e1 p.1) (e1.trans p.2.1) (by
      have z := p.2.2
      unfold given at z
      rw [List.filter_eq_self.mpr (fun _ _ => rfl)] at z
      have hs : (S L).cps.size = L.length := by simp
      rw [hs] at z
      rw [z]
      congr 2
      apply List.ext_getElem?
      intro i
      rw [List.getElem?_map, List.getElem?_map]
      by_cases hi : i < L.length
      · rw [List.getElem?_range hi, List.getElem?_eq_getElem hi]
        simp [hi]
      · rw [List.getElem?_eq_none (by simp; omega), List.getElem?_eq_none (by omega)]
        rfl))⟩
theorem ev_chainI {ta tb tc : TE} {σ : L2.St} {H : Hp} {i j k : Int} (h1 : Ev ta σ H (.int i)) (h2 : Ev tb σ H (.int j)) (h3 : Ev tc σ H (.int k)) :
    Ev (tChain (rI0 fun i j => V.bl (decide (i ≤ j))) (rI0 fun i j => V.bl (decide (i ≤ j))) ta tb tc) σ H (.bl (decide (i ≤ j) && decide (j ≤ k))) := fun H1 e Q q =>
  h1 H1 e _ fun H2 e2 => h2 H2 (e.trans e2) _ fun H3 e3 => ⟨i, j, rfl, rfl, _, rfl, by
    by_cases z : i ≤ j
    · rw [if_pos (decide_eq_true z)]
      rw [decide_eq_true z] at q
      exact h3 H3 ((e.trans e2).trans e3) _ fun H4 e4 => ⟨j, k, rfl, rfl, q H4 ((e2.trans e3).trans e4)⟩
    · rw [if_neg (by rw [decide_eq_false z]; exact Bool.false_ne_true)]
      rw [decide_eq_false z] at q
      exact q H3 (e2.trans e3)⟩
theorem ev_inSign {ta tb : TE} {σ : L2.St} {H : Hp} {c : Nat} {M : List Nat} (h1 : Ev ta σ H (.str (S [c]))) (h2 : Ev tb σ H (.str (S M))) :
    Ev (tOp (fun x y H Q => ∃ c z, x = V.str { cps := #[c] } ∧ y = V.str z ∧ Q (V.bl (decide (c ∈ z.cps.toList))) H) ta tb) σ H (.bl (decide (c ∈ M))) :=
  ev_op h1 h2 fun H1 e Q q => ⟨c, S M, rfl, rfl, q H1 (Ex.refl H1)⟩

theorem atI0 (c : Nat) (M : List Nat) : atI (S (c :: M)).cps.toList 0 = some c := by
  show atI (c :: M) 0 = some c
  unfold atI
  simp [ixN]
theorem ev_lenS {σ : L2.St} {H : Hp} {te : TE} {L : List Nat} (hL : L.length ≤ cap) (h : Ev te σ H (.str (S L))) : Ev (tCB (fun (xs : List V) (H : Hp) (Q : VK) => ∃ z, xs = [.str z] ∧ z.length ≤ sizeLine ∧ Q (.int z.length) H) (tCons te tNil)) σ H (.int (L.length : Int)) := fun H1 e Q q =>
  h H1 e _ fun H2 e2 => ⟨S L, rfl, by rw [S_len]; exact cap_line hL, by rw [S_len]; exact q H2 e2⟩
theorem ev_notIn {K : PySem.W.Frag} {ta tb : TE} {σ : L2.St} {H : Hp} {L : List Nat} {Ls : List (List Nat)} {r : Addr} (h1 : Ev ta σ H (.str (S L))) (h2 : Ev tb σ H (.ref r)) (hs : ∀ H, SqT K H r (Ls.map fun x => V.str (S x))) :
    Ev (tOp (rIn K true) ta tb) σ H (.bl (!Ls.contains L)) := ev_op h1 h2 fun H1 e Q q => ⟨r, _, rfl, .inr (hs H1), rfl, by
      rw [List.all_map, List.all_eq_true]
      intro x _
      rfl, by
      have z : inV (V.str (S L)) (Ls.map fun x => V.str (S x)) = Ls.contains L := by
        unfold inV
        rw [List.any_map]
        clear hs q
        induction Ls with
        | nil => rfl
        | cons M Ms ih' =>
          have hh : eqV (V.str (S M)) (V.str (S L)) = (L == M) := by
            show (S M == S L) = (L == M)
            rw [Bool.eq_iff_iff, beq_iff_eq, beq_iff_eq]
            exact ⟨fun z => (S_inj z).symm, fun z => z ▸ rfl⟩
          show ((eqV (V.str (S M)) (V.str (S L))) || (Ms.any ((fun y => eqV y (V.str (S L))) ∘ fun x => V.str (S x)))) = ((L == M) || Ms.contains L)
          rw [hh, ih']
      rw [if_pos rfl, z]
      exact q H1 (Ex.refl H1)⟩
section
variable {P : Program} {w : World} {K : PySem.W.Frag} {mg : Str → Option Value} {base : Heap}
theorem sp_small {H : Hp} {L : List Nat} (h : L.length ≤ cap) : SpV spSmall ([.str (S L)] ++ []) H (.bl (areSmall L)) := fun H1 e Q q E => ⟨L, rfl, h, fun H' ex => q H' ex⟩
theorem sp_word {H : Hp} {L : List Nat} (h : L.length ≤ cap) : SpV spWord ([.str (S L)] ++ []) H (.bl (isWord L)) := fun H1 e Q q E => ⟨L, rfl, h, fun H' ex => q H' ex⟩
theorem sp_class {H : Hp} {L : List Nat} (h : L.length ≤ cap) : SpV spClass ([.str (S L)] ++ []) H (.bl (isClassName L)) := fun H1 e Q q E => ⟨L, rfl, h, fun H' ex => q H' ex⟩
abbrev nSmall : List Str := ["text", "sign"]
theorem scSmall : FnScope nSmall ["text"] (defScope sSmall) := ⟨rfl, rfl, rfl, by decide +kernel, rfl, by decide +kernel, by decide +kernel⟩
theorem ok_small {f : Addr} {fd : FuncData} {k : Nat} (F : Fun K "are_small" "are_small" sSmall f fd) (T : WordC mg) : FnOk P w K mg base CX0 (k + 1) f fd ["text"] spSmall := by
  refine F.ok scSmall (fun vs H Q E h => ?_) (fun cdv A outer s H vs Q E hr h => ?_)
  · obtain ⟨L, rfl, _⟩ := h
    rfl
  · obtain ⟨L, rfl, hL, q⟩ := h
    obtain ⟨t, ht⟩ := T.sm
    refine ⟨_, pss_one (ps_ret (pe_callB (cr_all rfl) (by rfl) T.all boot_all (pa_cons (pe_lc (own := [("sign", 1)]) (g := gName 1) (tt := tYes) rfl scSmall.nd (pi_str (pv 0)) (blkOk_by (N := nSmall) (sc := defScope sSmall) (by decide +kernel)) (fun _ _ _ _ _ => pg_name (i := 1) scSmall.nd rfl (.inl rfl)) (fun _ _ _ _ _ => pts_nil)
      (fun _ _ _ _ _ => pe_cmpR op_in_sign (pv 1) (pe_glob (v := .str (S smalls)) (by rfl) ht ⟨_, rfl⟩) (by rfl))) pa_nil))), ?_⟩
    refine s_ret (ev_all (bs := L.map fun c => decide (c ∈ smalls)) (by
      rw [List.map_map]
      exact el_lcS (fun c => V.bl (decide (c ∈ smalls))) (ev_var rfl) (Nat.le_trans hL (by decide)) wipe1 fun c H1 e hc => ev_inSign (ev_var rfl) ev_c)) fun H1 f1 => ?_
    have e : areSmall L = (L.map fun c => decide (c ∈ smalls)).all id := by
      rw [List.all_map]
      rfl
    rw [← e]
    exact q H1 f1
theorem scWord : FnScope ["text"] ["text"] (defScope sWord) := ⟨rfl, rfl, rfl, by decide +kernel, rfl, by decide +kernel, by decide +kernel⟩
theorem ok_word {f : Addr} {fd : FuncData} {k : Nat} (F : Fun K "is_word" "is_word" sWord f fd) (T : WordP K mg) (rS : Rd P w K mg base "are_small" k ["text"] spSmall) : FnOk P w K mg base CX0 (k + 1) f fd ["text"] spWord := by
  refine F.ok scWord (fun vs H Q E h => ?_) (fun cdv A outer s H vs Q E hr h => ?_)
  · obtain ⟨L, rfl, _⟩ := h
    rfl
  · obtain ⟨L, rfl, hL, q⟩ := h
    obtain ⟨t, ht⟩ := T.mo
    obtain ⟨r, hR, hs⟩ := T.rs
    refine ⟨_, pss_one (ps_ret (pe_and (pe_chain op_le op_le pe_int (pe_callB call_len_str (by rfl) T.len PySem.boot_len (pa_cons (pv 0) pa_nil)) (pe_glob (v := .int 8) (by rfl) ht ⟨_, rfl⟩))
      (pe_and (pe_rd rS hr (Nat.le_refl _) (by rfl) (pa_cons (pv 0) pa_nil)) (pe_one (pe_cmpR op_notIn_seq (pv 0) (pe_glob (v := .ref r) (by rfl) hR rfl) (by rfl)))))), ?_⟩
    refine s_ret (ev_andV (ev_chainI ev_c (ev_lenS hL (ev_var rfl)) ev_c) fun _ => ev_andV (ev_call (ea_cons (ev_var rfl) ea_nil) (sp_small hL)) fun _ => ev_notIn (ev_var rfl) ev_c hs) fun H1 f1 => ?_
    have e : isWord L = ((decide ((1 : Int) ≤ (L.length : Int)) && decide ((L.length : Int) ≤ 8)) && (areSmall L && !resv.contains L)) := by
      unfold isWord
      rw [Bool.and_assoc]
      congr 2
      · rw [decide_eq_decide]
        omega
      · rw [decide_eq_decide]
        omega
    rw [← e]
    exact q H1 f1
theorem scClass : FnScope ["text"] ["text"] (defScope sClassName) := ⟨rfl, rfl, rfl, by decide +kernel, rfl, by decide +kernel, by decide +kernel⟩
theorem ok_class {f : Addr} {fd : FuncData} {k : Nat} (F : Fun K "is_class_name" "is_class_name" sClassName f fd) (T : WordC mg) (rS : Rd P w K mg base "are_small" k ["text"] spSmall) : FnOk P w K mg base CX0 (k + 1) f fd ["text"] spClass := by
  refine F.ok scClass (fun vs H Q E h => ?_) (fun cdv A outer s H vs Q E hr h => ?_)
  · obtain ⟨L, rfl, _⟩ := h
    rfl
  · obtain ⟨L, rfl, hL, q⟩ := h
    obtain ⟨t, ht⟩ := T.mo
    obtain ⟨t2, ht2⟩ := T.la
    refine ⟨_, pss_one (ps_ret (pe_and (pe_chain op_le op_le pe_int (pe_callB call_len_str (by rfl) T.len PySem.boot_len (pa_cons (pv 0) pa_nil)) (pe_glob (v := .int 8) (by rfl) ht ⟨_, rfl⟩))
      (pe_and (pe_cmpR op_in_sign (pe_ix ix_str (pv 0) pe_int (fun _ _ => rfl)) (pe_glob (v := .str (S larges)) (by rfl) ht2 ⟨_, rfl⟩) (by rfl)) (pe_one (pe_rd rS hr (Nat.le_refl _) (by rfl) (pa_cons (pe_slice sl_str (pv 0) (po_some pe_int) po_none) pa_nil)))))), ?_⟩
    refine s_ret (v := .bl (isClassName L)) ?_ fun H1 f1 => q H1 f1
    cases L with
    | nil => exact ev_andV (b := false) (ev_chainI ev_c (ev_lenS hL (ev_var rfl)) ev_c) fun z => by cases z
    | cons c M =>
      have e : isClassName (c :: M) = ((decide ((1 : Int) ≤ ((c :: M).length : Int)) && decide (((c :: M).length : Int) ≤ 8)) && (decide (c ∈ larges) && areSmall M)) := by
        show (decide ((c :: M).length ≤ 8) && decide (c ∈ larges) && areSmall M) = _
        rw [Bool.and_assoc, decide_eq_true (show (1 : Int) ≤ ((c :: M).length : Int) by rw [List.length_cons]; omega), Bool.true_and]
        congr 1
        rw [decide_eq_decide]
        omega
      rw [e]
      refine ev_andV (ev_chainI ev_c (ev_lenS hL (ev_var rfl)) ev_c) fun _ => ev_andV (ev_inSign (ev_op (ev_var rfl) ev_c fun H1 e Q q => ⟨S (c :: M), 0, c, rfl, rfl, by rw [S_len]; exact cap_line hL, atI0 c M, q H1 (Ex.refl H1)⟩) ev_c) fun _ => ev_call (ea_cons (Evl.ev_is (ev_slS (ev_var rfl) (eo_some ev_c) eo_none (by rw [S_len]; exact cap_line hL)) (by show V.str (cutS (S (c :: M)) (some ((1 : Nat) : Int)) none) = V.str (S M); rw [cut_n]; rfl)) ea_nil) (sp_small (Nat.le_trans (Nat.le_succ _) hL))
end
end Hs
set_option maxHeartbeats 4000000
/-! text.removeprefix(text), text.startswith(text). -/
namespace Hs
open PySem PySem.Spec PyProof.Rows L2 Evl Hc
def startsL (a b : List Nat) : Bool := decide (b.length ≤ a.length) && (a.take b.length == b)
def removePre (a b : List Nat) : List Nat := if startsL a b then a.drop b.length else a
theorem startswith_S (a b : List Nat) : Txt.startswith (S a) (S b) = startsL a b := by
  unfold Txt.startswith startsL
  rw [StrLaws.subAt_eq, S_len, S_len, Nat.zero_add]
  show (decide (b.length ≤ a.length) && ((a.drop 0).take b.length == b)) = _
  rw [List.drop_zero]
theorem removeprefix_S (a b : List Nat) : Txt.removeprefix (S a) (S b) = S (removePre a b) := by
  have e := startswith_S a b
  unfold Txt.startswith at e
  rw [PySem.StrLaws.removeprefix_eq, e]
  unfold removePre
  by_cases h : startsL a b = true
  · rw [if_pos h, if_pos h, S_len, S_len]
    congr 2
    show (a.drop b.length).take (a.length - b.length) = a.drop b.length
    rw [List.take_of_length_le (by rw [List.length_drop]; exact Nat.le_refl _)]
  · rw [if_neg h, if_neg h]
theorem ev_removePre {σ : L2.St} {H : Hp} {to te : TE} {L M : List Nat} (hL : L.length ≤ cap) (h1 : Ev to σ H (.str (S L))) (h2 : Ev te σ H (.str (S M))) :
    Ev (tM1 (fun x xs H Q => ∃ a b, x = .str a ∧ xs = [.str b] ∧ a.length ≤ sizeLine ∧ Q (.str (Txt.removeprefix a b)) H) to te) σ H (.str (S (removePre L M))) :=
  ev_m1 h1 h2 fun H1 Q q => ⟨S L, S M, rfl, rfl, by rw [S_len]; exact cap_line hL, by rw [removeprefix_S]; exact q⟩
theorem ev_startsS {σ : L2.St} {H : Hp} {to te : TE} {L M : List Nat} (h1 : Ev to σ H (.str (S L))) (h2 : Ev te σ H (.str (S M))) :
    Ev (tM1 (fun x xs H Q => ∃ a b, x = .str a ∧ xs = [.str b] ∧ Q (.bl (Txt.startswith a b)) H) to te) σ H (.bl (startsL L M)) := ev_m1 h1 h2 fun H1 Q q => ⟨S L, S M, rfl, rfl, by rw [startswith_S]; exact q⟩
end Hs
set_option maxHeartbeats 4000000
/-! The merge of rows and the orders of classes. -/
namespace Hy
section
variable {α : Type} [DecidableEq α]
abbrev Rows (α : Type) := List (List α)
/-- whether x stands in no row behind the first place -/
def freeIn (rs : Rows α) (x : α) : Bool := rs.all fun r => !decide (x ∈ r.tail)
def heads (rs : Rows α) : List α := rs.filterMap List.head?
def nextOf (rs : Rows α) : Option α := (heads rs).find? (freeIn rs)
def cutRow (t : α) (r : List α) : List α := if r.head? = some t then r.tail else r
def full (rs : Rows α) : Rows α := rs.filter fun r => !r.isEmpty
def cut (t : α) (rs : Rows α) : Rows α := full (rs.map (cutRow t))
def total (rs : Rows α) : Nat := (rs.map List.length).sum
/-- the merge of full rows -/
def mergeN : Nat → Rows α → Option (List α)
  | 0, _ => some []
  | n + 1, rs => if rs = [] then some [] else match nextOf rs with
    | none => none
    | some t => (mergeN n (cut t rs)).map (t :: ·)
def merge (rs : Rows α) : Option (List α) := mergeN (total (full rs)) (full rs)

theorem mem_full {rs : Rows α} {r : List α} : r ∈ full rs ↔ r ∈ rs ∧ r ≠ [] := by
  unfold full
  rw [List.mem_filter]
  cases r <;> simp
theorem full_full (rs : Rows α) : full (full rs) = full rs := by
  unfold full
  rw [List.filter_filter]
  congr 1
  funext r
  simp
theorem full_cut (t : α) (rs : Rows α) : full (cut t rs) = cut t rs := full_full _
theorem total_full : ∀ rs : Rows α, total (full rs) = total rs
  | [] => rfl
  | r :: rs => by
    have ih := total_full rs
    unfold total full at *
    cases r with
    | nil =>
      rw [List.filter_cons_of_neg (by simp)]
      simpa using ih
    | cons x r =>
      rw [List.filter_cons_of_pos (by simp)]
      simp only [List.map_cons, List.sum_cons]
      rw [ih]
theorem total_pos {rs : Rows α} (h : full rs = rs) (h0 : rs ≠ []) : 0 < total rs := by
  cases rs with
  | nil => exact absurd rfl h0
  | cons r rs =>
    have : r ∈ full (r :: rs) := by rw [h]; exact List.mem_cons_self
    have hr := (mem_full.mp this).2
    unfold total
    simp only [List.map_cons, List.sum_cons]
    have := List.length_pos_iff.mpr hr
    omega
theorem cutRow_le (t : α) (r : List α) : (cutRow t r).length ≤ r.length := by
  unfold cutRow
  split
  · simp
  · exact Nat.le_refl _
theorem total_cut_le (t : α) : ∀ rs : Rows α, total (rs.map (cutRow t)) ≤ total rs
  | [] => Nat.le_refl _
  | r :: rs => by
    have := total_cut_le t rs
    have := cutRow_le t r
    unfold total at *
    simp only [List.map_cons, List.sum_cons]
    omega
theorem total_cut {t : α} : ∀ {rs : Rows α}, t ∈ heads rs → total (cut t rs) < total rs
  | [], h => by cases h
  | r :: rs, h => by
    unfold cut
    rw [total_full]
    unfold heads at h
    by_cases hr : r.head? = some t
    · have h2 := total_cut_le t rs
      cases r with
      | nil => cases hr
      | cons x r =>
        have e : cutRow t (x :: r) = r := if_pos hr
        unfold total at *
        simp only [List.map_cons, List.sum_cons, e, List.length_cons]
        omega
    · have h3 : t ∈ heads rs := by
        cases r with
        | nil => simpa [heads] using h
        | cons x r =>
          replace h : t ∈ x :: List.filterMap List.head? rs := h
          rcases List.mem_cons.mp h with rfl | h
          · exact absurd rfl hr
          · exact h
      have ih := total_cut h3
      unfold cut at ih
      rw [total_full] at ih
      have e : cutRow t r = r := if_neg hr
      unfold total at *
      simp only [List.map_cons, List.sum_cons, e]
      omega
theorem next_mem {rs : Rows α} {t : α} (h : nextOf rs = some t) : t ∈ heads rs ∧ freeIn rs t = true := ⟨List.mem_of_find?_eq_some h, List.find?_some h⟩
/-- fuel does not matter -/
theorem mergeN_more : ∀ (n : Nat) (rs : Rows α), full rs = rs → total rs ≤ n → mergeN n rs = mergeN (total rs) rs := by
  intro n
  induction n using Nat.strongRecOn with
  | ind n ih =>
    intro rs hf hn
    cases n with
    | zero =>
      have : total rs = 0 := by omega
      rw [this]
    | succ n =>
      by_cases h0 : rs = []
      · subst h0
        show (if ([] : Rows α) = [] then some [] else _) = _
        rw [if_pos rfl]
        rfl
      · obtain ⟨m, hm⟩ : ∃ m, total rs = m + 1 := ⟨total rs - 1, by have := total_pos hf h0; omega⟩
        rw [hm]
        show (if rs = [] then some [] else _) = (if rs = [] then some [] else _)
        rw [if_neg h0, if_neg h0]
        cases hx : nextOf rs with
        | none => rfl
        | some t =>
          have ht := total_cut (next_mem hx).1
          show (mergeN n (cut t rs)).map _ = (mergeN m (cut t rs)).map _
          rw [ih n (by omega) (cut t rs) (full_cut _ _) (by omega)]
          by_cases hmn : m < n + 1
          · rw [ih m hmn (cut t rs) (full_cut _ _) (by omega)]
          · have : m = n := by omega
            subst this
            rw [ih m (by omega) (cut t rs) (full_cut _ _) (by omega)]
theorem mergeN_len : ∀ (n : Nat) (rs : Rows α) (m : List α), mergeN n rs = some m → m.length ≤ n
  | 0, rs, m, h => by
    cases h
    exact Nat.le_refl _
  | n + 1, rs, m, h => by
    have h' : (if rs = [] then some [] else match nextOf rs with
      | none => none
      | some t => (mergeN n (cut t rs)).map (t :: ·)) = some m := h
    split at h'
    · cases h'
      exact Nat.zero_le _
    · cases hx : nextOf rs with
      | none => rw [hx] at h'; cases h'
      | some t =>
        rw [hx] at h'
        obtain ⟨m', h1, rfl⟩ := Option.map_eq_some_iff.mp h'
        have := mergeN_len n _ m' h1
        rw [List.length_cons]
        omega
/-- a step of the merge -/
theorem merge_nil {rs : Rows α} (h : full rs = []) : merge rs = some [] := by
  unfold merge
  rw [h]
  rfl
theorem merge_step {rs : Rows α} (hf : full rs = rs) (h0 : rs ≠ []) : merge rs = match nextOf rs with
    | none => none
    | some t => (merge (cut t rs)).map (t :: ·) := by
  unfold merge
  rw [hf]
  obtain ⟨m, hm⟩ : ∃ m, total rs = m + 1 := ⟨total rs - 1, by have := total_pos hf h0; omega⟩
  rw [hm]
  show (if rs = [] then some [] else _) = _
  rw [if_neg h0]
  cases hx : nextOf rs with
  | none => rfl
  | some t =>
    have ht := total_cut (next_mem hx).1
    show (mergeN m (cut t rs)).map _ = (mergeN (total (full (cut t rs))) (full (cut t rs))).map _
    rw [full_cut, mergeN_more m (cut t rs) (full_cut _ _) (by omega)]
theorem merge_full (rs : Rows α) : merge (full rs) = merge rs := by
  unfold merge
  rw [full_full]

/-- the other way to remove: everywhere -/
theorem cut_all {rs : Rows α} {t : α} (h : freeIn rs t = true) : rs.map (cutRow t) = rs.map fun r => r.filter fun x => decide (x ≠ t) := by
  apply List.map_congr_left
  intro r hr
  have h1 : t ∉ r.tail := by
    have := List.all_eq_true.mp h r hr
    simpa using this
  have h2 : r.tail.filter (fun x => decide (x ≠ t)) = r.tail := List.filter_eq_self.mpr fun x hx => by
    rw [decide_eq_true_eq]
    rintro rfl
    exact h1 hx
  unfold cutRow
  cases r with
  | nil => rfl
  | cons y r =>
    rw [List.tail_cons] at h2
    by_cases hy : y = t
    · subst hy
      rw [if_pos (show (y :: r).head? = some y from rfl), List.filter_cons_of_neg (by simp), h2]
      rfl
    · rw [if_neg (by simpa using hy), List.filter_cons_of_pos (by simpa using hy), h2]

/-! ### what a merge gives -/
structure Fine (rs : Rows α) (m : List α) : Prop where
  sub : ∀ r ∈ rs, r.Sublist m
  nd : m.Nodup
  mem : ∀ x ∈ m, ∃ r ∈ rs, x ∈ r
theorem fine_n : ∀ (n : Nat) (rs : Rows α) (m : List α), total rs ≤ n → full rs = rs → (∀ r ∈ rs, r.Nodup) → merge rs = some m → Fine rs m := by
  intro n
  induction n with
  | zero =>
    intro rs m hn hf hd hm
    have h0 : rs = [] := by
      cases rs with
      | nil => rfl
      | cons r rs => exact absurd (total_pos hf (by simp)) (by omega)
    subst h0
    rw [merge_nil (by rfl)] at hm
    cases hm
    exact ⟨fun r hr => (by cases hr), List.nodup_nil, fun x hx => (by cases hx)⟩
  | succ n ih =>
    intro rs m hn hf hd hm
    by_cases h0 : rs = []
    · subst h0
      rw [merge_nil (by rfl)] at hm
      cases hm
      exact ⟨fun r hr => (by cases hr), List.nodup_nil, fun x hx => (by cases hx)⟩
    · rw [merge_step hf h0] at hm
      cases hx : nextOf rs with
      | none => rw [hx] at hm; cases hm
      | some t =>
        rw [hx] at hm
        replace hm : (merge (cut t rs)).map (t :: ·) = some m := hm
        obtain ⟨hh, hfr⟩ := next_mem hx
        have ht := total_cut hh
        obtain ⟨m', hm', rfl⟩ : ∃ m', merge (cut t rs) = some m' ∧ m = t :: m' := by
          cases e : merge (cut t rs) with
          | none => rw [e] at hm; cases hm
          | some m' =>
            rw [e] at hm
            exact ⟨m', rfl, (Option.some.inj hm).symm⟩
        have nt : ∀ r ∈ rs, t ∉ r.tail := fun r hr => by
          have := List.all_eq_true.mp hfr r hr
          simpa using this
        have hcut : ∀ r ∈ rs, cutRow t r ≠ [] → cutRow t r ∈ cut t rs := fun r hr hne => mem_full.mpr ⟨List.mem_map.mpr ⟨r, hr, rfl⟩, hne⟩
        have F := ih (cut t rs) m' (by omega) (full_cut _ _) (fun r hr => by
          obtain ⟨h1, _⟩ := mem_full.mp hr
          obtain ⟨r0, hr0, rfl⟩ := List.mem_map.mp h1
          unfold cutRow
          split
          · exact (List.tail_sublist r0).nodup (hd r0 hr0)
          · exact hd r0 hr0) hm'
        have tm : t ∉ m' := fun hmem => by
          obtain ⟨r, hr, hxr⟩ := F.mem t hmem
          obtain ⟨h1, _⟩ := mem_full.mp hr
          obtain ⟨r0, hr0, rfl⟩ := List.mem_map.mp h1
          unfold cutRow at hxr
          split at hxr
          · exact nt r0 hr0 hxr
          · rename_i hne
            cases r0 with
            | nil => cases hxr
            | cons y r0 =>
              rcases List.mem_cons.mp hxr with rfl | hxr
              · exact hne rfl
              · exact nt _ hr0 hxr
        refine ⟨fun r hr => ?_, List.nodup_cons.mpr ⟨tm, F.nd⟩, fun x hx => ?_⟩
        · have hne : r ≠ [] := (mem_full.mp (by rw [hf]; exact hr)).2
          cases r with
          | nil => exact absurd rfl hne
          | cons y r =>
            by_cases hy : y = t
            · subst hy
              have e : cutRow y (y :: r) = r := if_pos rfl
              by_cases hr0 : r = []
              · subst hr0
                exact List.Sublist.cons₂ _ (List.nil_sublist _)
              · have := hcut (y :: r) hr (by rw [e]; exact hr0)
                rw [e] at this
                exact List.Sublist.cons₂ _ (F.sub r this)
            · have e : cutRow t (y :: r) = y :: r := if_neg (by simpa using hy)
              have := hcut (y :: r) hr (by rw [e]; simp)
              rw [e] at this
              exact List.Sublist.cons _ (F.sub _ this)
        · rcases List.mem_cons.mp hx with rfl | hx
          · unfold heads at hh
            obtain ⟨r, hr, he⟩ := List.mem_filterMap.mp hh
            cases r with
            | nil => cases he
            | cons y r =>
              cases he
              exact ⟨_, hr, List.mem_cons_self⟩
          · obtain ⟨r, hr, hxr⟩ := F.mem x hx
            obtain ⟨h1, _⟩ := mem_full.mp hr
            obtain ⟨r0, hr0, rfl⟩ := List.mem_map.mp h1
            refine ⟨r0, hr0, ?_⟩
            unfold cutRow at hxr
            split at hxr
            · exact List.mem_of_mem_tail hxr
            · exact hxr
theorem fine {rs : Rows α} {m : List α} (hd : ∀ r ∈ rs, r.Nodup) (hm : merge rs = some m) : Fine rs m := by
  have F := fine_n (total (full rs)) (full rs) m (Nat.le_refl _) (full_full rs) (fun r hr => hd r (mem_full.mp hr).1) (by rw [merge_full]; exact hm)
  refine ⟨fun r hr => ?_, F.nd, fun x hx => ?_⟩
  · by_cases h : r = []
    · subst h
      exact List.nil_sublist _
    · exact F.sub r (mem_full.mpr ⟨hr, h⟩)
  · obtain ⟨r, hr, hxr⟩ := F.mem x hx
    exact ⟨r, (mem_full.mp hr).1, hxr⟩
theorem total_mem {rs : Rows α} {r : List α} (h : r ∈ rs) : r.length ≤ total rs := by
  unfold total
  induction rs with
  | nil => cases h
  | cons s rs ih =>
    simp only [List.map_cons, List.sum_cons]
    rcases List.mem_cons.mp h with rfl | h
    · omega
    · have := ih h
      omega
/-! ### places in a list -/
theorem idx_ne {x y : α} (h : y ≠ x) (m : List α) : (y :: m).idxOf x = m.idxOf x + 1 := by
  rw [List.idxOf_cons]
  have : (y == x) = false := by simpa using h
  rw [this]
  rfl
theorem sub_idx {l m : List α} (h : l.Sublist m) (nd : m.Nodup) : (l.map fun x => m.idxOf x).Pairwise (· < ·) := by
  induction h with
  | slnil => exact List.Pairwise.nil
  | @cons l m y h ih =>
    have nd' := (List.nodup_cons.mp nd)
    have ih' := ih nd'.2
    have e : (l.map fun x => (y :: m).idxOf x) = (l.map fun x => m.idxOf x).map (· + 1) := by
      rw [List.map_map]
      apply List.map_congr_left
      intro x hx
      have hne : y ≠ x := fun z => nd'.1 (z ▸ h.subset hx)
      show (y :: m).idxOf x = m.idxOf x + 1
      exact idx_ne hne m
    rw [e]
    exact List.Pairwise.map _ (fun a b hab => Nat.succ_lt_succ hab) ih'
  | @cons_cons l m y h ih =>
    have nd' := (List.nodup_cons.mp nd)
    have ih' := ih nd'.2
    rw [List.map_cons]
    have e : (l.map fun x => (y :: m).idxOf x) = (l.map fun x => m.idxOf x).map (· + 1) := by
      rw [List.map_map]
      apply List.map_congr_left
      intro x hx
      have hne : y ≠ x := fun z => nd'.1 (z ▸ h.subset hx)
      show (y :: m).idxOf x = m.idxOf x + 1
      exact idx_ne hne m
    rw [e]
    refine List.Pairwise.cons ?_ (List.Pairwise.map _ (fun a b hab => Nat.succ_lt_succ hab) ih')
    intro b hb
    obtain ⟨c, _, rfl⟩ := List.mem_map.mp hb
    show (y :: m).idxOf y < c + 1
    rw [List.idxOf_cons_self]
    omega
theorem filter_sub {l m : List α} (h : l.Sublist m) (nd : m.Nodup) : m.filter (fun x => decide (x ∈ l)) = l := by
  induction h with
  | slnil => rfl
  | @cons l m y h ih =>
    have nd' := (List.nodup_cons.mp nd)
    rw [List.filter_cons_of_neg (by simpa using fun z => nd'.1 (h.subset z))]
    exact ih nd'.2
  | @cons_cons l m y h ih =>
    have nd' := (List.nodup_cons.mp nd)
    rw [List.filter_cons_of_pos (by simp)]
    congr 1
    have e : m.filter (fun x => decide (x ∈ y :: l)) = m.filter fun x => decide (x ∈ l) := by
      apply List.filter_congr
      intro x hx
      have hne : x ≠ y := fun z => nd'.1 (z ▸ hx)
      simp [hne]
    rw [e]
    exact ih nd'.2
end
end Hy
set_option maxHeartbeats 4000000
/-! Class lines as lists of signs; joined, split, cut. -/
namespace Hy
open PySem PySem.Spec PyProof.Rows L2 Evl Hc Hs
abbrev Nm := List Nat
abbrev sv (n : Nm) : V := .str (S n)
theorem tl_S (a : List Nat) : TL.tl (S a) = a := rfl
theorem split_S {s : Nat} {T : List Nat} (hk : (s :: T).all (· < 256) = true) {xs : List (List Nat)} (hne : xs ≠ []) (hp : ∀ x ∈ xs, s ∉ x) : Txt.split (S (TL.joinL (s :: T) xs)) (S (s :: T)) = xs.map S := by
  rw [← join_S]
  exact TL.split_join (s := s) (S := T) rfl (by simpa using hk) (by simpa using hne) fun p h => by
    obtain ⟨z, hz, rfl⟩ := List.mem_map.mp h
    exact hp z hz
theorem partition_S {s : Nat} {a b : List Nat} (h : s ∉ a) : Txt.partition (S (a ++ (s :: b))) (S [s]) = (S a, S [s], S b) := by
  have e : S (a ++ (s :: b)) = S a ++ S [s] ++ S b := by rw [S_cat, S_cat, List.append_assoc]; rfl
  rw [e]
  exact TL.partition_app (s := s) (S := []) rfl h
theorem partition_no {s : Nat} {a : List Nat} (h : s ∉ a) : Txt.partition (S a) (S [s]) = (S a, S [], S []) := TL.partition_none (s := s) (S := []) rfl h
/-! ### names and lines -/
structure GoodNm (n : Nm) : Prop where
  ok : isClassName n = true
theorem GoodNm.len {n : Nm} (g : GoodNm n) : 1 ≤ n.length ∧ n.length ≤ 8 := by
  have h := g.ok
  unfold isClassName at h
  cases n with
  | nil => cases h
  | cons c m =>
    simp only [Bool.and_eq_true, decide_eq_true_eq] at h
    exact ⟨by simp, h.1.1⟩
theorem GoodNm.mem {n : Nm} (g : GoodNm n) {c : Nat} (hc : c ∈ n) : c ∈ larges ∨ c ∈ smalls := by
  have h := g.ok
  unfold isClassName at h
  cases n with
  | nil => cases h
  | cons d m =>
    simp only [Bool.and_eq_true, decide_eq_true_eq] at h
    rcases List.mem_cons.mp hc with rfl | hc
    · exact .inl h.1.2
    · have := List.all_eq_true.mp h.2 c hc
      exact .inr (of_decide_eq_true this)
theorem GoodNm.no {n : Nm} (g : GoodNm n) {c : Nat} (h1 : c ∉ larges) (h2 : c ∉ smalls) : c ∉ n := fun hc => (g.mem hc).elim h1 h2
def cls6 : List Nat := [99, 108, 97, 115, 115, 32]
def bpart (bs : List Nm) : List Nat := if bs = [] then [] else 40 :: (TL.joinL [44, 32] bs ++ [41])
def cline (n : Nm) (bs : List Nm) : List Nat := cls6 ++ (n ++ (bpart bs ++ [58]))
theorem joinL_mem {T : List Nat} : ∀ {xs : List (List Nat)} {c : Nat}, c ∈ TL.joinL T xs → c ∈ T ∨ ∃ x ∈ xs, c ∈ x
  | [], c, h => by cases h
  | [p], c, h => .inr ⟨p, List.mem_cons_self, h⟩
  | p :: q :: r, c, h => by
    have h' : c ∈ p ++ (T ++ TL.joinL T (q :: r)) := h
    rcases List.mem_append.mp h' with h | h
    · exact .inr ⟨p, List.mem_cons_self, h⟩
    · rcases List.mem_append.mp h with h | h
      · exact .inl h
      · rcases joinL_mem h with h | ⟨x, hx, hc⟩
        · exact .inl h
        · exact .inr ⟨x, List.mem_cons_of_mem _ hx, hc⟩
theorem joinL_len {T : List Nat} {m : Nat} : ∀ {xs : List (List Nat)}, (∀ x ∈ xs, x.length ≤ m) → (TL.joinL T xs).length ≤ xs.length * (m + T.length)
  | [], _ => Nat.zero_le _
  | [p], h => by
    have := h p List.mem_cons_self
    show p.length ≤ 1 * _
    omega
  | p :: q :: r, h => by
    have h1 := h p List.mem_cons_self
    have h2 := joinL_len (T := T) (xs := q :: r) fun x hx => h x (List.mem_cons_of_mem _ hx)
    show (p ++ (T ++ TL.joinL T (q :: r))).length ≤ _
    rw [List.length_append, List.length_append, List.length_cons, Nat.add_mul, Nat.one_mul]
    omega
theorem cline_no {n : Nm} {bs : List Nm} (g : GoodNm n) (gb : ∀ b ∈ bs, GoodNm b) : 10 ∉ cline n bs := by
  unfold cline bpart cls6
  intro h
  rcases List.mem_append.mp h with h | h
  · revert h; decide
  · rcases List.mem_append.mp h with h | h
    · exact g.no (by decide) (by decide) h
    · rcases List.mem_append.mp h with h | h
      · split at h
        · cases h
        · rcases List.mem_cons.mp h with h | h
          · cases h
          · rcases List.mem_append.mp h with h | h
            · rcases joinL_mem h with h | ⟨x, hx, h⟩
              · revert h; decide
              · exact (gb x hx).no (by decide) (by decide) h
            · revert h; decide
      · revert h; decide
theorem cline_len {n : Nm} {bs : List Nm} (g : GoodNm n) (gb : ∀ b ∈ bs, GoodNm b) (hb : bs.length ≤ 3) : (cline n bs).length ≤ 60 ∧ 8 ≤ (cline n bs).length := by
  have h1 := g.len
  have h2 := joinL_len (T := [44, 32]) (m := 8) (xs := bs) fun x hx => (gb x hx).len.2
  unfold cline bpart cls6
  simp only [List.length_append, List.length_cons, List.length_nil]
  have h3 : bs.length * (8 + ([44, 32] : List Nat).length) ≤ 30 := by
    show bs.length * 10 ≤ 30
    omega
  split
  · simp; omega
  · simp only [List.length_append, List.length_cons, List.length_nil]
    omega
theorem cline_starts (n : Nm) (bs : List Nm) : startsL (cline n bs) cls6 = true := by
  unfold startsL cline
  rw [Bool.and_eq_true]
  refine ⟨decide_eq_true (by rw [List.length_append]; omega), ?_⟩
  rw [List.take_left]
  simp
theorem cline_last (n : Nm) (bs : List Nm) : (cline n bs).getLast? = some 58 := by
  unfold cline
  rw [← List.append_assoc, ← List.append_assoc, List.getLast?_append]
  rfl
theorem cline_cut (n : Nm) (bs : List Nm) : ((cline n bs).drop 6).take ((cline n bs).length - 1 - 6) = n ++ bpart bs := by
  have e : (cline n bs).drop 6 = n ++ (bpart bs ++ [58]) := List.drop_left (l₁ := cls6)
  have e2 : (cline n bs).length - 1 - 6 = (n ++ bpart bs).length := by
    unfold cline cls6
    simp only [List.length_append, List.length_cons, List.length_nil]
    omega
  rw [e, e2, ← List.append_assoc, List.take_left]
theorem rest_cut (L : List Nat) : (L ++ [41]).dropLast = L := by simp
theorem cut_last' (L : List Nat) : cutS (S L) none (some (-1 : Int)) = S L.dropLast := by
  unfold cutS
  rw [HT.sIx_none, S_len]
  have e : HT.sIx L.length L.length (some (-((1 : Nat) : Int))) = L.length - 1 := by
    unfold HT.sIx
    dsimp only
    rw [if_pos (by decide)]
    omega
  rw [show (-1 : Int) = -((1 : Nat) : Int) from rfl, e]
  congr 2
  show (L.drop 0).take (L.length - 1 - 0) = L.dropLast
  rw [List.drop_zero, Nat.sub_zero, List.dropLast_eq_take]
theorem cut_6 (L : List Nat) : cutS (S L) (some (6 : Int)) (some (-1 : Int)) = S ((L.drop 6).take (L.length - 1 - 6)) := by
  unfold cutS
  rw [show (6 : Int) = ((6 : Nat) : Int) from rfl, HT.sIx_nat, S_len]
  have e : HT.sIx L.length L.length (some (-((1 : Nat) : Int))) = L.length - 1 := by
    unfold HT.sIx
    dsimp only
    rw [if_pos (by decide)]
    omega
  rw [show (-1 : Int) = -((1 : Nat) : Int) from rfl, e]
  congr 2
  show (L.drop (min 6 L.length)).take (L.length - 1 - min 6 L.length) = _
  by_cases h : 6 ≤ L.length
  · rw [Nat.min_eq_left h]
  · rw [Nat.min_eq_right (by omega), List.drop_of_length_le (by omega), List.drop_of_length_le (l := L) (i := 6) (by omega)]
    simp
/-! ### readings of texts -/
section
variable {σ : L2.St} {H : Hp} {to te : TE}
theorem el_split {s : Nat} {T L : List Nat} {xs : List Nm} (hk : (s :: T).all (· < 256) = true) (hL : L.length ≤ cap) (e : L = TL.joinL (s :: T) xs) (hne : xs ≠ []) (hp : ∀ x ∈ xs, s ∉ x) (h1 : Ev to σ H (.str (S L))) (h2 : Ev te σ H (.str (S (s :: T)))) :
    EvL (tM1 (fun x xs H Q => ∃ a b, x = .str a ∧ xs = [.str b] ∧ (b.length == 0) = false ∧ a.length + 2 ≤ sizeLine ∧ rNewStrs (Txt.split a b) H Q) to te) σ H (xs.map sv) := fun H1 f1 Q q =>
  h1 H1 f1 _ fun H2 f2 => ⟨⟨_, rfl⟩, h2 H2 (f1.trans f2) _ fun H3 f3 => ⟨_, _, rfl, rfl, by rw [S_len]; rfl, by rw [S_len]; exact Nat.le_trans (Nat.add_le_add_right hL 2) (by decide), fun p np => by
    refine q p _ (fresh_back (f2.trans f3) np) ((f2.trans f3).trans (Ex.new np)) ?_
    rw [upd_same, e, split_S hk hne hp, List.map_map]
    rfl⟩⟩
theorem eu_part {L M : List Nat} {a b c : List Nat} (hL : L.length ≤ cap) (hM : M.length ≠ 0) (e : Txt.partition (S L) (S M) = (S a, S b, S c)) (h1 : Ev to σ H (.str (S L))) (h2 : Ev te σ H (.str (S M))) :
    EvU (tM1 (fun x xs H Q => ∃ a b, x = .str a ∧ xs = [.str b] ∧ (b.length == 0) = false ∧ a.length ≤ sizeLine ∧ ∀ p, H p = none → Q (.ref p) (upd H p (.tup [.str (Txt.partition a b).1, .str (Txt.partition a b).2.1, .str (Txt.partition a b).2.2]))) to te) σ H [sv a, sv b, sv c] := fun H1 f1 Q q =>
  h1 H1 f1 _ fun H2 f2 => ⟨⟨_, rfl⟩, h2 H2 (f1.trans f2) _ fun H3 f3 => ⟨_, _, rfl, rfl, by rw [S_len]; simpa using hM, by rw [S_len]; exact cap_line hL, fun p np => by
    refine q p _ (fresh_back (f2.trans f3) np) ((f2.trans f3).trans (Ex.new np)) ?_
    rw [upd_same, e]⟩⟩
/-- joined -/
theorem ev_join {K : PySem.W.Frag} {T : List Nat} {xs : List Nm} {p : Addr} (hz : (xs.map List.length).sum + xs.length * T.length ≤ 16777216) (h1 : Ev to σ H (.str (S T))) (h2 : Ev te σ H (.ref p)) (hp : SqL K H p (xs.map sv)) :
    Ev (tM1 (fun x xs H Q => ∃ a p, ∃ ys : List Str, x = .str a ∧ xs = [.ref p] ∧ (SqL K H p (ys.map V.str) ∨ SqT K H p (ys.map V.str)) ∧ (ys.map (·.length)).sum + ys.length * a.length ≤ 16777216 ∧ Q (.str (Txt.join a ys)) H) to te) σ H (sv (TL.joinL T xs)) := fun H1 f1 Q q =>
  h1 H1 f1 _ fun H2 f2 => ⟨⟨_, rfl⟩, h2 H2 (f1.trans f2) _ fun H3 f3 => ⟨S T, p, xs.map S, rfl, rfl, .inl (by rw [List.map_map]; exact ex_l ((f1.trans f2).trans f3) hp), by
    rw [List.map_map, List.length_map, S_len]
    have : ((fun x : Str => x.length) ∘ S) = List.length := funext fun a => S_len a
    rw [this]
    exact hz, by
    rw [join_S]
    exact q H3 (f2.trans f3)⟩⟩
theorem ev_joinN {K : PySem.W.Frag} {T : List Nat} {xs : List Nm} (hz : (xs.map List.length).sum + xs.length * T.length ≤ 16777216) (h1 : Ev to σ H (.str (S T))) (h2 : EvL te σ H (xs.map sv)) :
    Ev (tM1 (fun x xs H Q => ∃ a p, ∃ ys : List Str, x = .str a ∧ xs = [.ref p] ∧ (SqL K H p (ys.map V.str) ∨ SqT K H p (ys.map V.str)) ∧ (ys.map (·.length)).sum + ys.length * a.length ≤ 16777216 ∧ Q (.str (Txt.join a ys)) H) to te) σ H (sv (TL.joinL T xs)) := fun H1 f1 Q q =>
  h1 H1 f1 _ fun H2 f2 => ⟨⟨_, rfl⟩, h2 H2 (f1.trans f2) _ fun p H3 np f3 hp => ⟨S T, p, xs.map S, rfl, rfl, .inl (by rw [List.map_map]; exact sq_of hp), by
    rw [List.map_map, List.length_map, S_len]
    have : ((fun x : Str => x.length) ∘ S) = List.length := funext fun a => S_len a
    rw [this]
    exact hz, by
    rw [join_S]
    exact q H3 (f2.trans f3)⟩⟩
theorem ev_addS {a b : List Nat} {tb ta : TE} (hz : a.length + b.length ≤ cap) (h1 : Ev ta σ H (sv a)) (h2 : Ev tb σ H (sv b)) : Ev (tOp (fun x y H Q => ∃ u v, x = V.str u ∧ y = V.str v ∧ u.length + v.length ≤ sizeLine ∧ Q (V.str (u ++ v)) H) ta tb) σ H (sv (a ++ b)) :=
  ev_op h1 h2 fun H1 e Q q => ⟨S a, S b, rfl, rfl, by rw [S_len, S_len]; exact cap_line hz, by rw [S_cat]; exact q H1 (Ex.refl H1)⟩
end
end Hy
set_option maxHeartbeats 4000000
/-! lines_of, next_merged, merged. -/
namespace Hy
open PySem PySem.Spec PyProof.Rows L2 Evl Hc Hs
structure LibP (mg : Str → Option Value) : Prop where
  all : mg "all" = none
  any : mg "any" = none
  len : mg "len" = none
  lst : mg "list" = none
  tup : mg "tuple" = none
  enu : mg "enumerate" = none
  isi : mg "isinstance" = none
  str : mg "str" = none
  mC : ∃ t, mg "MOST_CLASSES" = some (.int 8 t)
  mB : ∃ t, mg "MOST_BASES" = some (.int 3 t)
def optN : Option Nm → V
  | none => .non
  | some n => sv n
/-! ### lists of lists -/
abbrev Rw := Addr × List Nm
abbrev rf (n : Rw) : V := .ref n.1
def RowsOk (H : Hp) (ns : List Rw) : Prop := ∀ n ∈ ns, H n.1 = some (.lst (n.2.map sv))
theorem RowsOk.ex {H H' : Hp} {ns : List Rw} (h : RowsOk H ns) (e : Ex H H') : RowsOk H' ns := fun n hn => e _ _ (h n hn)
theorem inV_N0 (L : Nm) : ∀ Ls : List Nm, inV (sv L) (Ls.map sv) = Ls.contains L
  | [] => rfl
  | M :: Ms => by
    have hh : eqV (V.str (S M)) (V.str (S L)) = (L == M) := by
      show (S M == S L) = (L == M)
      rw [Bool.eq_iff_iff, beq_iff_eq, beq_iff_eq]
      exact ⟨fun z => (S_inj z).symm, fun z => z ▸ rfl⟩
    show ((eqV (V.str (S M)) (V.str (S L))) || (inV (V.str (S L)) (Ms.map sv))) = ((L == M) || Ms.contains L)
    rw [hh, inV_N0 L Ms]
theorem inV_N (L : Nm) (Ls : List Nm) : inV (sv L) (Ls.map sv) = decide (L ∈ Ls) := by
  rw [inV_N0, List.contains_eq_mem]
theorem flat_N (Ls : List Nm) : (Ls.map sv).all flatV = true := by
  rw [List.all_map, List.all_eq_true]
  intro x _
  rfl
theorem cutV_tail (xs : List V) : cutV xs (some (1 : Int)) none = xs.tail := by
  unfold cutV
  rw [show (1 : Int) = ((1 : Nat) : Int) from rfl, HT.sIx_nat, HT.sIx_none]
  cases xs with
  | nil => rfl
  | cons x r =>
    rw [List.length_cons, Nat.min_eq_left (by omega)]
    show r.take (r.length + 1 - 1) = r
    rw [Nat.add_sub_cancel, List.take_length]
theorem tail_map {α β : Type} (f : α → β) (l : List α) : (l.map f).tail = l.tail.map f := by cases l <;> rfl
theorem boot_any' : bootBuiltins "any" = some (.builtin "any") := by decide +kernel
theorem boot_list' : bootBuiltins "list" = some (.type "list") := by decide +kernel
section
variable {K : PySem.W.Frag} {σ : L2.St} {H : Hp} {te ta tb tl : TE}
theorem ev_any {bs : List Bool} (h : EvL tl σ H (bs.map V.bl)) : Ev (tCB (rAny K) (tCons tl tNil)) σ H (.bl (bs.any id)) := fun H1 e Q q =>
  h H1 e _ fun p H2 np e2 hp => ⟨p, bs, rfl, SqL.of hp, q H2 e2⟩
theorem ev_inL {x : Nm} {l : List Nm} (ha : Ev ta σ H (sv x)) (hb : EvL tb σ H (l.map sv)) : Ev (tOp (rIn K false) ta tb) σ H (.bl (decide (x ∈ l))) :=
  Evl.ev_is (ev_opL ha hb fun _ _ h _ => rv_isL (sq_of h) rfl (flat_N l)) (by rw [inV_N])
theorem ev_inLs {x : Nm} {l : List Nm} {p : Addr} (ha : Ev ta σ H (sv x)) (hb : Ev tb σ H (.ref p)) (hp : SqL K H p (l.map sv)) : Ev (tOp (rIn K false) ta tb) σ H (.bl (decide (x ∈ l))) :=
  Evl.ev_is (ev_op ha hb (rv_isL hp rfl (flat_N l))) (by rw [inV_N])
theorem ev_niL {x : Nm} {l : List Nm} (ha : Ev ta σ H (sv x)) (hb : EvL tb σ H (l.map sv)) : Ev (tOp (rIn K true) ta tb) σ H (.bl (!decide (x ∈ l))) :=
  Evl.ev_is (ev_opL ha hb fun _ _ h _ => rv_niL (sq_of h) rfl (flat_N l)) (by rw [inV_N])
theorem ev_niLs {x : Nm} {l : List Nm} {p : Addr} (ha : Ev ta σ H (sv x)) (hb : Ev tb σ H (.ref p)) (hp : SqL K H p (l.map sv)) : Ev (tOp (rIn K true) ta tb) σ H (.bl (!decide (x ∈ l))) :=
  Evl.ev_is (ev_op ha hb (rv_niL hp rfl (flat_N l))) (by rw [inV_N])
theorem el_tail {l : List Nm} {p : Addr} (h : Ev te σ H (.ref p)) (hp : SqL K H p (l.map sv)) : EvL (tSl (rSlL K) te (tPart (tC (.int 1))) tNoPart) σ H (l.tail.map sv) := by
  have z := el_sl (K := K) (lo := some 1) (hi := none) h (eo_some ev_c) eo_none hp
  rw [cutV_tail, tail_map] at z
  exact z
theorem ev_head {x : Nm} {l : List Nm} {p : Addr} (h : Ev te σ H (.ref p)) (hp : SqL K H p ((x :: l).map sv)) : Ev (tOp (rIxL K) te (tC (.int 0))) σ H (sv x) :=
  ev_op h ev_c (rv_ixL hp (atI_nat (j := 0) rfl))
/-- truth of a list -/
def tTru (K : PySem.W.Frag) (ta : TE) : TT := fun σ H Q => ta σ H fun x H' => ∃ k, TruV K x H' k ∧ Q k H'
theorem et_truth {xs : List V} {p : Addr} (h : Ev te σ H (.ref p)) (hp : SqL K H p xs) : EvT (tTru K te) σ H (!xs.isEmpty) := fun H1 e Q q =>
  h H1 e _ fun H2 e2 => ⟨_, .inl ⟨xs, ex_l (e.trans e2) hp, rfl⟩, q H2 e2⟩
end
def spLines : Sp := fun vs H Q _ => ∃ ls : List (List Nat), vs = [sv (TL.joinL [10] ls)] ∧ TL.joinL [10] ls ≠ [] ∧ ls ≠ [] ∧ (∀ l ∈ ls, 10 ∉ l) ∧ (TL.joinL [10] ls).length ≤ cap ∧ ∀ p H', H p = none → Ex H H' → H' p = some (.lst (ls.map sv)) → Q (.ref p) H'
def spNext (K : PySem.W.Frag) : Sp := fun vs H Q _ => ∃ (a : Addr) (ns : List Rw), vs = [.ref a] ∧ SqL K H a (ns.map rf) ∧ RowsOk H ns ∧ (∀ n ∈ ns, n.2 ≠ []) ∧ ns.length ≤ 1000 ∧ ∀ H', Ex H H' → Q (optN (nextOf (ns.map (·.2)))) H'
theorem scLines : FnScope ["text"] ["text"] (defScope sLines) := ⟨rfl, rfl, rfl, by decide +kernel, rfl, by decide +kernel, by decide +kernel⟩
abbrev nNext : List Str := ["rows", "row", "other"]
theorem scNext : FnScope nNext ["rows"] (defScope sNext) := ⟨rfl, rfl, rfl, by decide +kernel, rfl, by decide +kernel, by decide +kernel⟩
section
variable {P : Program} {w : World} {K : PySem.W.Frag} {mg : Str → Option Value} {base : Heap}
theorem ok_lines {f : Addr} {fd : FuncData} {k : Nat} (F : Fun K "lines_of" "lines_of" sLines f fd) : FnOk P w K mg base CX0 (k + 1) f fd ["text"] spLines := by
  refine F.ok scLines (fun vs H Q E h => ?_) (fun cdv A outer s H vs Q E hr h => ?_)
  · obtain ⟨ls, rfl, _⟩ := h
    rfl
  · obtain ⟨ls, rfl, h0, hne, hno, hL, q⟩ := h
    refine ⟨_, pss_one (ps_ret (pe_ifExp (pt_cmpR op_eq (pv 0) pe_str (nomark _)) (pe_lst pa_nil) (pe_split (pv 0) pe_str))), ?_⟩
    refine s_retL (xs := ls.map sv) (fun H1 e1 Q1 q1 => ?_) q
    refine et_test (ev_eqS (b := []) (ev_var rfl) ev_c) H1 e1 _ fun H2 e2 => ?_
    rw [decide_eq_false h0]
    exact iteF (el_split (H := H) (s := 10) (T := []) (by decide) hL rfl hne hno (ev_var rfl) ev_c H2 (e1.trans e2) Q1 fun p H3 np e3 => q1 p H3 (fresh_back e2 np) (e2.trans e3))
theorem heads_cons {x : Nm} {r : List Nm} {rs : Rows Nm} : heads ((x :: r) :: rs) = x :: heads rs := rfl
theorem heads_app {as bs : Rows Nm} : heads (as ++ bs) = heads as ++ heads bs := List.filterMap_append
theorem free_any (x : Nm) (rs : Rows Nm) : (!(rs.map fun r => decide (x ∈ r.tail)).any id) = freeIn rs x := by
  rw [Bool.eq_iff_iff]
  simp [freeIn]
theorem ok_next {f : Addr} {fd : FuncData} {k : Nat} (F : Fun K "next_merged" "next_merged" sNext f fd) (T : LibP mg) : FnOk P w K mg base CX0 (k + 1) f fd ["rows"] (spNext K) := by
  refine F.ok scNext (fun vs H Q E h => ?_) (fun cdv A outer s H vs Q E hr h => ?_)
  · obtain ⟨a, ns, rfl, _⟩ := h
    rfl
  · obtain ⟨a, ns, rfl, ha, hn, hne, hl, q⟩ := h
    refine ⟨_, pss_cons (ps_for PassesOwn.never rfl (pi_list (pv 0)) (pg_name (i := 1) scNext.nd rfl (.inr rfl))
      (pss_one (ps_if (pt_not (pt_val (pe_callB (cr_any rfl) (by rfl) T.any boot_any' (pa_cons (pe_lc (own := [("other", 2)]) (g := gName 2) (tt := tYes) rfl scNext.nd (pi_list (pv 0)) (blkOk_by (N := nNext) (sc := defScope sNext) (by decide +kernel)) (fun _ _ _ _ _ => pg_name (i := 2) scNext.nd rfl (.inl rfl)) (fun _ _ _ _ _ => pts_nil)
        (fun _ _ _ _ _ => pe_cmpR (show OpR _ (compareOp .In) (rIn K false) from op_in_seq) (pe_ix (show IxR _ (rIxL K) from ix_list) (pv 1) pe_int (fun _ _ => rfl)) (pe_slice (show SlR _ (rSlL K) from sl_list) (pv 2) (po_some pe_int) po_none) (by rfl))) pa_nil)))) (pss_one (ps_ret (pe_ix ix_list (pv 1) pe_int (fun _ _ => rfl)))) pss_nil)))
      (pss_one (ps_ret pe_non)), ?_⟩
    generalize hrs : ns.map (·.2) = rs at q
    refine q_forLn (xs := ns.map rf) (ev_var rfl) ha (fun i σ H' => ∃ v1, σ = [some (.ref a), v1, none] ∧ Ex H H' ∧ (heads (rs.take i)).find? (freeIn rs) = none) (fun H1 e1 => ⟨none, rfl, e1, rfl⟩) (fun i σ' H' _ p => ?_) (fun i x σ' H' hx p => ?_) (fun σ' H' p => ?_)
    · obtain ⟨v1, rfl, e, _⟩ := p
      exact ex_l e ha
    · obtain ⟨v1, rfl, e, hfd⟩ := p
      rw [List.getElem?_map] at hx
      obtain ⟨n, hn1, rfl⟩ := Option.map_eq_some_iff.mp hx
      have hmem := List.mem_of_getElem? hn1
      obtain ⟨x0, r0, hxr⟩ : ∃ x0 r0, n.2 = x0 :: r0 := by
        cases q : n.2 with
        | nil => exact absurd q (hne n hmem)
        | cons x r => exact ⟨x, r, rfl⟩
      have hsn : SqL K H' n.1 ((x0 :: r0).map sv) := by
        rw [← hxr]
        exact sq_of (e _ _ (hn n hmem))
      have hlt : i < rs.length := by
        rw [← hrs, List.length_map]
        exact (List.getElem?_eq_some_iff.mp hn1).1
      have hgi : rs[i]? = some (x0 :: r0) := by
        rw [← hrs, List.getElem?_map, hn1]
        exact congrArg some hxr
      have htk : rs.take (i + 1) = rs.take i ++ [x0 :: r0] := by
        rw [List.take_add_one, hgi]
        rfl
      have hval : ∀ b : Bool, b = !(rs.map fun r => decide (x0 ∈ r.tail)).any id → b = freeIn rs x0 := by
        rintro b rfl
        exact free_any x0 rs
      refine s_when (b := freeIn rs x0) (et_is (et_not (et_B (ev_any (bs := rs.map fun r => decide (x0 ∈ r.tail)) ?_))) (hval _ rfl)) (fun hb H1 f1 => ?_) (fun hb H1 f1 => ?_)
      · have z := el_map (K := K) (H := H') (σ := [some (.ref a), some (.ref n.1), none]) (a := a) (tl := tVar 0) (te := tOp (rIn K false) (tOp (rIxL K) (tVar 1) (tC (.int 0))) (tSl (rSlL K) (tVar 2) (tPart (tC (.int 1))) tNoPart)) (t := tYes) (j := 2) (vs := [2]) ns rf (fun _ => true) (fun m => V.bl (decide (x0 ∈ m.2.tail))) (ev_var rfl) (ex_l e ha) (Nat.le_trans hl (by decide)) wipe1 (fun _ _ _ _ => et_yes)
          (fun m H2 e2 hm _ => ev_inL (ev_head (ev_var rfl) (ex_l e2 hsn)) (el_tail (ev_var rfl) (sq_of ((e.trans e2) _ _ (hn m hm)))))
        rw [List.filter_eq_self.mpr (fun _ _ => rfl)] at z
        rw [← hrs, List.map_map, List.map_map]
        exact z
      · refine s_ret (ev_head (ev_var rfl) (ex_l f1 hsn)) fun H2 f2 => ?_
        have z := q H2 ((e.trans f1).trans f2)
        have hnx : nextOf rs = some x0 := by
          unfold nextOf
          have hd : rs = rs.take i ++ (x0 :: r0) :: rs.drop (i + 1) := by
            conv => lhs; rw [← List.take_append_drop i rs, List.drop_eq_getElem_cons hlt]
            congr 2
            rw [List.getElem?_eq_getElem hlt] at hgi
            exact Option.some.inj hgi
          have hh : heads rs = heads (rs.take i) ++ x0 :: heads (rs.drop (i + 1)) := by
            conv => lhs; rw [hd]
            rw [heads_app, heads_cons]
          rw [hh, List.find?_append, hfd, Option.none_or, List.find?_cons_of_pos (by exact hb)]
        rw [hnx] at z
        exact z
      · refine ⟨some (.ref n.1), rfl, e.trans f1, ?_⟩
        rw [htk, heads_app, List.find?_append, hfd, Option.none_or]
        show List.find? (freeIn rs) [x0] = none
        rw [List.find?_cons_of_neg (by rw [hb]; exact Bool.false_ne_true)]
        rfl
    · obtain ⟨v1, rfl, e, hfd⟩ := p
      refine s_ret ev_c fun H2 f2 => ?_
      have z := q H2 (e.trans f2)
      have hnx : nextOf rs = none := by
        rw [List.length_map, ← List.length_map (f := fun n : Rw => n.2), hrs, List.take_length] at hfd
        exact hfd
      rw [hnx] at z
      exact z
end
end Hy
set_option maxHeartbeats 4000000
/-! Comprehensions that make lists; merged. -/
namespace Hy
open PySem PySem.Spec PyProof.Rows L2 Evl Hc Hs
abbrev mr {α : Type} (m : Addr × α) : V := .ref m.1
/-- lists at addresses, told by things -/
def Made {α : Type} (H : Hp) (g : α → List V) (ms : List (Addr × α)) : Prop := ∀ m ∈ ms, H m.1 = some (.lst (g m.2))
theorem take_filter {α : Type} {ns : List α} {i : Nat} {n : α} (p : α → Bool) (h : ns[i]? = some n) : (ns.take (i + 1)).filter p = (ns.take i).filter p ++ (if p n then [n] else []) := by
  rw [List.take_add_one, h, List.filter_append]
  congr 1
  cases hp : p n <;> simp [hp]
section
variable {K : PySem.W.Frag} {σ : L2.St} {H : Hp} {te tl : TE} {t : TT}
/-- an element that is a list: a new one, or one of those that stood in the heap from the beginning -/
def EvN (te : TE) (σ : L2.St) (O : Addr → Prop) (H : Hp) (xs : List V) : Prop := ∀ H1, Ex H H1 → ∀ Q : VK, (∀ p H2, (H1 p = none ∨ O p) → Ex H1 H2 → H2 p = some (.lst xs) → Q (.ref p) H2) → te σ H1 Q
theorem EvN.new {O : Addr → Prop} {xs : List V} (h : EvL te σ H xs) : EvN te σ O H xs := fun H1 e Q q => h H1 e Q fun p H2 np e2 hp => q p H2 (.inl np) e2 hp
theorem EvN.old {O : Addr → Prop} {xs : List V} {p : Addr} (h : Ev te σ H (.ref p)) (o : O p) (hp : H p = some (.lst xs)) : EvN te σ O H xs := fun H1 e Q q => h H1 e Q fun H2 e2 => q p H2 (.inr o) e2 (e2 _ _ (e _ _ hp))
theorem EvN.ite {O : Addr → Prop} {xs : List V} {b : Bool} {ta : TE} (h : EvT t σ H b) (h1 : b = true → EvN ta σ O H xs) (h2 : b = false → EvN te σ O H xs) : EvN (tIf t ta te) σ O H xs := fun H1 e Q q => h H1 e _ fun H2 e2 => by
  cases b with
  | true =>
    show ta σ H2 Q
    exact h1 rfl H2 (e.trans e2) Q fun p H3 o e3 hp => q p H3 (o.imp (fresh_back e2) id) (e2.trans e3) hp
  | false =>
    show te σ H2 Q
    exact h2 rfl H2 (e.trans e2) Q fun p H3 o e3 hp => q p H3 (o.imp (fresh_back e2) id) (e2.trans e3) hp
theorem el_made {α : Type} {a : Addr} {j : Nat} {vs : List Nat} (O : Addr → Prop) (ns : List α) (f : α → V) (p : α → Bool) (g : α → List V) (hO : ∀ b, O b → H b ≠ none) (hl : Ev tl σ H (.ref a)) (hx : SqL K H a (ns.map f)) (hz : ns.length ≤ 40000) (hw : ∀ x, wipe ((wipe σ vs).set j (some x)) vs = wipe σ vs)
    (ht : ∀ x H1, Ex H H1 → x ∈ ns → EvT t ((wipe σ vs).set j (some (f x))) H1 (p x)) (he : ∀ x H1, Ex H H1 → x ∈ ns → p x = true → EvN te ((wipe σ vs).set j (some (f x))) O H1 (g x)) :
    ∀ H1, Ex H H1 → ∀ Q : VK, (∀ (D : Addr) (ms : List (Addr × α)) H2, H1 D = none → Ex H1 H2 → H2 D = some (.lst (ms.map mr)) → ms.map (·.2) = ns.filter p → Made H2 g ms → (∀ m ∈ ms, H m.1 = none ∨ O m.1) → Q (.ref D) H2) → tLc (iList K tl) (gName j) t te vs σ H1 Q := fun H0 e Q q => hl H0 e _ fun H1 e1 => ⟨a, rfl, ⟨ns.map f, ex_l (e.trans e1) hx⟩, fun D hD =>
  lc_list (xs := ns.map f) (fun i H' => Ex H1 H' ∧ ∃ ms : List (Addr × α), H' D = some (.lst (ms.map mr)) ∧ ms.map (·.2) = (ns.take i).filter p ∧ ∀ m ∈ ms, m.1 ≠ D ∧ (H m.1 = none ∨ O m.1) ∧ H' m.1 = some (.lst (g m.2))) ⟨Ex.new hD, [], upd_same, rfl, fun m hm => nomatch hm⟩
    (fun i H' _ z => ex_l ((e.trans e1).trans z.1) hx) (fun i x H' hi z => ⟨hw x, by
      rw [List.getElem?_map] at hi
      obtain ⟨n, hn, rfl⟩ := Option.map_eq_some_iff.mp hi
      obtain ⟨z1, ms, z2, z3, z4⟩ := z
      have hmem := List.mem_of_getElem? hn
      have hil : i < ns.length := (List.getElem?_eq_some_iff.mp hn).1
      have hml : ms.length ≤ i := by
        rw [← List.length_map (f := fun m : Addr × α => m.2), z3]
        exact Nat.le_trans (List.length_filter_le _ _) (by rw [List.length_take]; omega)
      refine ht n H' ((e.trans e1).trans z1) hmem H' (Ex.refl H') _ fun H3 e3 => ?_
      cases hp : p n with
      | false =>
        show Ex H1 H3 ∧ _
        refine ⟨z1.trans e3, ms, e3 _ _ z2, ?_, fun m hm => ⟨(z4 m hm).1, (z4 m hm).2.1, e3 _ _ (z4 m hm).2.2⟩⟩
        rw [take_filter p hn, hp, z3]
        simp
      | true =>
        refine he n H3 (((e.trans e1).trans z1).trans e3) hmem hp H3 (Ex.refl H3) _ fun b H4 hb e4 h4 => ?_
        have bD : b ≠ D := by
          rcases hb with hb | hb
          · intro zz
            rw [zz, e3 _ _ z2] at hb
            cases hb
          · intro zz
            have hb := hO b hb
            rw [zz] at hb
            cases q0 : H D with
            | none => exact hb q0
            | some o =>
              rw [(e.trans e1) D o q0] at hD
              cases hD
        have hb' : H b = none ∨ O b := hb.imp (fresh_back (((e.trans e1).trans z1).trans e3)) id
        have z2' := e4 _ _ (e3 _ _ z2)
        refine ⟨ms.map mr, z2', sz_lt (by rw [List.length_map]; omega), ((z1.trans e3).trans e4).mut hD, ms ++ [(b, n)], ?_, ?_, fun m hm => ?_⟩
        · rw [upd_same, List.map_append]
          rfl
        · rw [take_filter p hn, hp, List.map_append, z3]
          rfl
        · rcases List.mem_append.mp hm with hm | hm
          · refine ⟨(z4 m hm).1, (z4 m hm).2.1, ?_⟩
            rw [upd_ne (z4 m hm).1]
            exact e4 _ _ (e3 _ _ (z4 m hm).2.2)
          · rw [List.mem_singleton] at hm
            subst hm
            refine ⟨bD, hb', ?_⟩
            rw [upd_ne bD]
            exact h4⟩)
    (fun H' z => by
      obtain ⟨z1, ms, z2, z3, z4⟩ := z
      rw [List.length_map, List.take_length] at z3
      exact q D ms H' (fresh_back e1 hD) (e1.trans z1) z2 z3 (fun m hm => (z4 m hm).2.2) fun m hm => (z4 m hm).2.1)⟩
end
theorem q_asgX {te : TE} {tz : TS} {D : Ends} {σ : L2.St} {H : Hp} {i : Nat} (h : te σ H fun v H1 => tz D (σ.set i (some v)) H1) : tSeq (tAsg te (gName i)) tz D σ H := h
theorem s_asgX {te : TE} {D : Ends} {σ : L2.St} {H : Hp} {i : Nat} (h : te σ H fun v H1 => D.nx (σ.set i (some v)) H1) : tAsg te (gName i) D σ H := h
theorem ne_of_none' {H H' : Hp} {p q : Addr} {o u : HO} (h1 : H' p = some o) (h2 : H' q = some u) (h3 : H q = none) (h4 : H p = some o) : q ≠ p := fun z => by
  rw [z, h4] at h3
  cases h3
theorem full_map {ns : List Rw} : (ns.filter fun n => !n.2.isEmpty).map (·.2) = full (ns.map (·.2)) := by
  unfold full
  rw [List.filter_map]
  rfl
def spMerged : (K : PySem.W.Frag) → Sp := fun K vs H Q _ => ∃ (a : Addr) (ns : List Rw), vs = [.ref a] ∧ SqL K H a (ns.map rf) ∧ RowsOk H ns ∧ ns.length ≤ 1000 ∧ total (ns.map (·.2)) ≤ 1000 ∧
  (match merge (ns.map (·.2)) with
    | none => ∀ H', Ex H H' → Q .non H'
    | some m => ∀ p H', H p = none → Ex H H' → H' p = some (.lst (m.map sv)) → Q (.ref p) H')
abbrev nMerged : List Str := ["rows", "found", "rest", "taken", "cut", "row"]
theorem scMerged : FnScope nMerged ["rows"] (defScope sMerged) := ⟨rfl, rfl, rfl, by decide +kernel, rfl, by decide +kernel, by decide +kernel⟩
theorem ev_isN {σ : L2.St} {H : Hp} {te : TE} {o : Option Nm} (h : Ev te σ H (optN o)) : Ev (tOp (fun x y H Q => y = .non ∧ Q (.bl (decide (x = .non))) H) te (tC .non)) σ H (.bl o.isNone) := Evl.ev_is (ev_op h ev_c fun H1 e Q q => ⟨rfl, q H1 (Ex.refl H1)⟩) (by cases o <;> rfl)
/-- between the turns of merged -/
def MW (H : Hp) (a pf : Addr) (rs : Rows Nm) (m : Nat) (σ' : L2.St) (H' : Hp) : Prop := ∃ (fnd : List Nm) (pr : Addr) (ms : List Rw) (v3 v4 : Option V), σ' = [some (.ref a), some (.ref pf), some (.ref pr), v3, v4, none] ∧ Ex H H' ∧ H' pf = some (.lst (fnd.map sv)) ∧ H' pr = some (.lst (ms.map rf)) ∧ pr ≠ pf ∧ (∀ n ∈ ms, n.1 ≠ pf) ∧ RowsOk H' ms ∧
      ms.length ≤ 1000 ∧ full (ms.map (·.2)) = ms.map (·.2) ∧ m = total (ms.map (·.2)) ∧ fnd.length + m ≤ 1000 ∧ (merge (ms.map (·.2))).map (fnd ++ ·) = merge rs
theorem sp_next {K : PySem.W.Frag} {H : Hp} {pr : Addr} {ms : List Rw} (h1 : H pr = some (.lst (ms.map rf))) (h2 : RowsOk H ms) (h3 : ms.length ≤ 1000) (h4 : full (ms.map (·.2)) = ms.map (·.2)) : SpV (spNext K) ([.ref pr] ++ []) H (optN (nextOf (ms.map (·.2)))) := fun H1 e Q q E =>
  ⟨pr, ms, rfl, sq_of (e _ _ h1), h2.ex e, fun n hn => (mem_full.mp (by rw [h4]; exact List.mem_map.mpr ⟨n, hn, rfl⟩)).2, h3, fun H' ex => q H' ex⟩
section
variable {P : Program} {w : World} {K : PySem.W.Frag} {mg : Str → Option Value} {base : Heap}
theorem ok_merged {f : Addr} {fd : FuncData} {k : Nat} (F : Fun K "merged" "merged" sMerged f fd) (T : LibP mg) (rN : Rd P w K mg base "next_merged" k ["rows"] (spNext K)) : FnOk P w K mg base CX0 (k + 1) f fd ["rows"] (spMerged K) := by
  refine F.ok scMerged (fun vs H Q E h => ?_) (fun cdv A outer s H vs Q E hr h => ?_)
  · obtain ⟨a, ns, rfl, _⟩ := h
    rfl
  · obtain ⟨a, ns, rfl, ha, hn, hl, hT, q⟩ := h
    refine ⟨_, pss_cons (ps_set (i := 1) scMerged.nd rfl (.inl rfl) (pe_lst pa_nil))
      (pss_cons (ps_setLc (i := 2) (own := [("row", 5)]) (g := gName 5) (tt := tTru K (tVar 5)) rfl scMerged.nd rfl rfl (sw_true rfl rfl rfl (by decide +kernel)) (pi_list (pv 0)) (blkOk_by (N := nMerged) (sc := defScope sMerged) (by decide +kernel)) (fun _ _ _ _ _ => pg_name (i := 5) scMerged.nd rfl (.inl rfl)) (fun _ _ _ _ _ => pts_one (show PT _ _ (tTru K (tVar 5)) from pt_truth (pv 5) (by intro _; rfl))) (fun _ _ _ _ _ => pv 5))
      (pss_cons (ps_while PassesOwn.never (pt_truth (pv 2) (by intro _; rfl))
        (pss_cons (ps_set (i := 3) scMerged.nd rfl (.inr rfl) (pe_rd rN hr (Nat.le_refl _) (by rfl) (pa_cons (pv 2) pa_nil)))
        (pss_cons (ps_if (pt_cmpR op_isN (pv 3) pe_non (nomark _)) (pss_one (ps_ret pe_non)) pss_nil)
        (pss_cons (ps_expr (pe_bm PySem.F.plainAttrs_list PySem.F.slot_list_append PySem.F.type_list_append mt_append (pv 1) (pa_cons (pv 3) pa_nil)))
        (pss_cons (ps_setLc (i := 4) (own := [("row", 5)]) (g := gName 5) (tt := tYes) rfl scMerged.nd rfl rfl (sw_true rfl rfl rfl (by decide +kernel)) (pi_list (pv 2)) (blkOk_by (N := nMerged) (sc := defScope sMerged) (by decide +kernel)) (fun _ _ _ _ _ => pg_name (i := 5) scMerged.nd rfl (.inl rfl)) (fun _ _ _ _ _ => pts_nil)
          (fun _ _ _ _ _ => pe_ifExp (pt_cmpR op_eq (pe_ix (show IxR _ (rIxL K) from ix_list) (pv 5) pe_int (fun _ _ => rfl)) (pv 3) (nomark _)) (pe_slice (show SlR _ (rSlL K) from sl_list) (pv 5) (po_some pe_int) po_none) (pv 5)))
        (pss_one (ps_setLc (i := 2) (own := [("row", 5)]) (g := gName 5) (tt := tTru K (tVar 5)) rfl scMerged.nd rfl rfl (sw_true rfl rfl rfl (by decide +kernel)) (pi_list (pv 4)) (blkOk_by (N := nMerged) (sc := defScope sMerged) (by decide +kernel)) (fun _ _ _ _ _ => pg_name (i := 5) scMerged.nd rfl (.inl rfl)) (fun _ _ _ _ _ => pts_one (show PT _ _ (tTru K (tVar 5)) from pt_truth (pv 5) (by intro _; rfl))) (fun _ _ _ _ _ => pv 5))))))))
      (pss_one (ps_ret (pv 1))))), ?_⟩
    refine q_asgL (xs := []) (el_lst ea_nil (Nat.zero_le _)) fun pf H1 nf f1 hf => ?_
    have filt : ∀ (H2 : Hp) (v1 v2 v3 v4 : Option V) (b : Nat) (pa : Addr) (ms : List Rw), b = 0 ∨ b = 4 → [some (V.ref a), v1, v2, v3, v4, none][b]? = some (some (.ref pa)) → H2 pa = some (.lst (ms.map rf)) ∨ SqL K H2 pa (ms.map rf) → RowsOk H2 ms → ms.length ≤ 1000 →
        EvL (tLc (iList K (tVar b)) (gName 5) (tTru K (tVar 5)) (tVar 5) [5]) [some (.ref a), v1, v2, v3, v4, none] H2 ((ms.filter fun n => !n.2.isEmpty).map rf) := fun H2 v1 v2 v3 v4 b pa ms hb hv hp hr2 hl2 => by
      refine el_map (K := K) (σ := [some (.ref a), v1, v2, v3, v4, none]) (j := 5) (vs := [5]) ms rf (fun n => !n.2.isEmpty) rf (ev_var hv) (hp.elim sq_of id) (Nat.le_trans hl2 (by decide)) wipe1 (fun n H3 e3 hm => ?_) (fun n H3 e3 hm _ => ev_var rfl)
      have z := et_truth (K := K) (σ := [some (.ref a), v1, v2, v3, v4, some (.ref n.1)]) (te := tVar 5) (H := H3) (xs := n.2.map sv) (ev_var rfl) (sq_of (e3 _ _ (hr2 n hm)))
      rw [List.isEmpty_map] at z
      exact z
    refine q_asgL (filt H1 _ _ _ _ 0 a ns (.inl rfl) rfl (.inr (ex_l f1 ha)) (hn.ex f1) hl) fun pr H2 npr f2 hr2 => ?_
    generalize hrs : ns.map (·.2) = rs at q hT
    have hpf : ∀ n ∈ ns, n.1 ≠ pf := fun n hm zz => by
      have z := hn n hm
      rw [zz, nf] at z
      cases z
    refine q_while (MW H a pf rs) (total (full rs)) ⟨[], pr, ns.filter fun n => !n.2.isEmpty, none, none, rfl, f1.trans f2, f2 _ _ hf, hr2, ne_of_none' (f2 _ _ hf) hr2 npr hf, fun n hm => hpf n (List.mem_filter.mp hm).1, fun n hm => f2 _ _ (hn.ex f1 n (List.mem_filter.mp hm).1), Nat.le_trans (List.length_filter_le _ _) hl, by rw [full_map, full_full], by rw [full_map, hrs], by rw [total_full]; simpa using hT, by rw [full_map, hrs, merge_full]; cases merge rs <;> rfl⟩ (fun m σ' H' hw => ?_)
    obtain ⟨fnd, pr, ms, v3, v4, rfl, e, hpf', hpr', hne, hms, hro, hml, hfl, rfl, hb, hmg⟩ := hw
    refine ⟨!(ms.map rf).isEmpty, et_truth (ev_var rfl) (sq_of hpr'), fun hb1 H3 f3 => ?_, fun hb1 H3 f3 => ?_⟩
    · have h0 : ms.map (·.2) ≠ [] := by
        intro z
        rw [List.map_eq_nil_iff] at z
        rw [z] at hb1
        cases hb1
      refine ⟨fun σ2 H2 => ∃ m', m' < total (ms.map (·.2)) ∧ MW H a pf rs m' σ2 H2, fun _ _ h => h, ?_⟩
      refine q_asg (v := optN (nextOf (ms.map (·.2)))) (ev_call (vs := [.ref pr]) (ea_cons (ev_var rfl) ea_nil) (sp_next (f3 _ _ hpr') (hro.ex f3) hml hfl)) fun H4 f4 => ?_
      refine q_when (et_test (ev_isN (ev_var rfl))) (fun hbN H5 f5 => ?_) (fun hbN H5 f5 => ?_)
      · have hnx : nextOf (ms.map (·.2)) = none := by
          cases q2 : nextOf (ms.map (·.2)) with
          | none => rfl
          | some t => rw [q2] at hbN; cases hbN
        have hm2 : merge rs = none := by
          rw [← hmg, merge_step hfl h0, hnx]
          rfl
        rw [hm2] at q
        exact s_ret ev_c fun H6 f6 => q H6 ((((e.trans f3).trans f4).trans f5).trans f6)
      · obtain ⟨t, hnx⟩ : ∃ t, nextOf (ms.map (·.2)) = some t := by
          cases q2 : nextOf (ms.map (·.2)) with
          | none => rw [q2] at hbN; cases hbN
          | some t => exact ⟨t, rfl⟩
        rw [hnx]
        have ec := total_cut (next_mem hnx).1
        have e5 := (f3.trans f4).trans f5
        refine q_app (l := pf) (xs := fnd.map sv) (e5 _ _ hpf') (ev_var rfl) (v := sv t) (ev_var rfl) (by rw [List.length_map]; omega) fun H6 f6 => ?_
        have e6 := e5.trans f6
        have hpf6 : (upd H6 pf (.lst (fnd.map sv ++ [sv t]))) pf = some (.lst ((fnd ++ [t]).map sv)) := by
          rw [upd_same, List.map_append]
          rfl
        have hpr6 : (upd H6 pf (.lst (fnd.map sv ++ [sv t]))) pr = some (.lst (ms.map rf)) := by
          rw [upd_ne hne]
          exact e6 _ _ hpr'
        have hro6 : RowsOk (upd H6 pf (.lst (fnd.map sv ++ [sv t]))) ms := fun n hm => by
          rw [upd_ne (hms n hm)]
          exact e6 _ _ (hro n hm)
        have eH6 : Ex H (upd H6 pf (.lst (fnd.map sv ++ [sv t]))) := (e.trans e6).mut nf
        generalize upd H6 pf (.lst (fnd.map sv ++ [sv t])) = H7 at hpf6 hpr6 hro6 eH6 ⊢
        refine q_asgX ?_
        refine el_made (K := K) (j := 5) (vs := [5]) (t := tYes) (σ := [some (.ref a), some (.ref pf), some (.ref pr), some (sv t), v4, none]) (tl := tVar 2) (te := tIf (tTest (tOp rEq (tOp (rIxL K) (tVar 5) (tC (.int 0))) (tVar 3))) (tSl (rSlL K) (tVar 5) (tPart (tC (.int 1))) tNoPart) (tVar 5)) (fun b => ∃ n ∈ ms, n.1 = b) ms rf (fun _ => true) (fun n => (cutRow t n.2).map sv) (fun b ⟨n, hm, hb⟩ => by rw [← hb, hro6 n hm]; exact fun z => nomatch z) (ev_var rfl) (sq_of hpr6) (Nat.le_trans hml (by decide)) wipe1 (fun _ _ _ _ => et_yes) (fun n H8 e8 hm _ => ?_) H7 (Ex.refl H7) _ fun Dc ms2 H8 n8 e8 h8 hm8 made8 old8 => ?_
        · have hn8 := e8 _ _ (hro6 n hm)
          obtain ⟨x0, r0, hxr⟩ : ∃ x0 r0, n.2 = x0 :: r0 := by
            cases q2 : n.2 with
            | nil => exact absurd q2 (mem_full.mp (by rw [hfl]; exact List.mem_map.mpr ⟨n, hm, rfl⟩)).2
            | cons x r => exact ⟨x, r, rfl⟩
          rw [hxr] at hn8 ⊢
          refine EvN.ite (et_test (ev_eqS (a := x0) (b := t) (ev_head (ev_var rfl) (sq_of hn8)) (ev_var rfl))) (fun hb2 => ?_) (fun hb2 => ?_)
          · have : cutRow t (x0 :: r0) = r0 := if_pos (by rw [of_decide_eq_true hb2]; rfl)
            rw [this]
            exact EvN.new (el_tail (l := x0 :: r0) (ev_var rfl) (sq_of hn8))
          · have : cutRow t (x0 :: r0) = x0 :: r0 := if_neg (by
              have := of_decide_eq_false hb2
              simpa using this)
            rw [this]
            exact EvN.old (ev_var rfl) ⟨n, hm, rfl⟩ hn8
        · rw [List.filter_eq_self.mpr (fun _ _ => rfl)] at hm8
          let ms3 : List Rw := ms2.map fun m => (m.1, cutRow t m.2.2)
          have h3 : ms2.map mr = ms3.map rf := by
            show _ = (ms2.map _).map rf
            rw [List.map_map]
            rfl
          have h3r : ms3.map (·.2) = (ms.map (·.2)).map (cutRow t) := by
            show (ms2.map _).map _ = _
            rw [← hm8, List.map_map, List.map_map, List.map_map]
            rfl
          have ro3 : RowsOk H8 ms3 := fun n hm => by
            obtain ⟨m, hm1, rfl⟩ := List.mem_map.mp hm
            exact made8 m hm1
          have len3 : ms3.length ≤ 1000 := by
            rw [← List.length_map (f := fun n : Rw => n.2), h3r, List.length_map, List.length_map]
            exact hml
          have pf3 : ∀ n ∈ ms3, n.1 ≠ pf := fun n hm zz => by
            obtain ⟨m, hm1, rfl⟩ := List.mem_map.mp hm
            rcases old8 m hm1 with h | ⟨n', hn', h⟩
            · rw [show m.1 = pf from zz, hpf6] at h
              cases h
            · exact hms n' hn' (h.trans zz)
          rw [h3] at h8
          have hcut : ((ms3.filter fun n => !n.2.isEmpty).map (·.2)) = cut t (ms.map (·.2)) := by
            rw [full_map, h3r]
            rfl
          show tAsg _ _ _ [some (.ref a), some (.ref pf), some (.ref pr), some (sv t), some (.ref Dc), none] H8
          refine s_asgL (filt H8 _ _ _ _ 4 Dc ms3 (.inr rfl) rfl (.inl h8) ro3 len3) fun pr2 H9 n9 f9 h9 => ?_
          refine ⟨total (cut t (ms.map (·.2))), ec, fnd ++ [t], pr2, ms3.filter (fun n => !n.2.isEmpty), some (sv t), some (.ref Dc), rfl, (eH6.trans e8).trans f9, f9 _ _ (e8 _ _ hpf6), h9, ne_of_none' (f9 _ _ (e8 _ _ hpf6)) h9 n9 (e8 _ _ hpf6), fun n hm => pf3 n (List.mem_filter.mp hm).1, fun n hm => f9 _ _ (ro3 n (List.mem_filter.mp hm).1), Nat.le_trans (List.length_filter_le _ _) len3, by rw [hcut, full_cut], by rw [hcut], ?_, ?_⟩
          · rw [List.length_append, List.length_singleton]
            omega
          · rw [hcut, ← hmg, merge_step hfl h0, hnx]
            show Option.map _ (merge (cut t (ms.map (·.2)))) = Option.map _ (Option.map _ (merge (cut t (ms.map (·.2)))))
            cases merge (cut t (ms.map (·.2))) with
            | none => rfl
            | some r => simp
    · have h0 : ms = [] := by
        cases ms with
        | nil => rfl
        | cons n r => cases hb1
      subst h0
      have hm2 : merge rs = some fnd := by
        rw [← hmg, merge_nil (by rfl)]
        simp
      rw [hm2] at q
      exact s_ret (ev_var rfl) fun H4 f4 => q pf H4 nf ((e.trans f3).trans f4) (f4 _ _ (f3 _ _ hpf'))
end
end Hy
set_option maxHeartbeats 4000000
/-! read_class_line for class lines. -/
namespace Hy
open PySem PySem.Spec PyProof.Rows L2 Evl Hc Hs
theorem q_asgG {te : TE} {tz : TS} {g : TG} {D : Ends} {σ : L2.St} {H : Hp} (h : te σ H fun v H1 => g v σ H1 fun σ2 H2 => tz D σ2 H2) : tSeq (tAsg te g) tz D σ H := h
def spRead : Sp := fun vs H Q _ => ∃ (n : Nm) (bs : List Nm), vs = [sv (cline n bs)] ∧ GoodNm n ∧ (∀ b ∈ bs, GoodNm b) ∧ bs.length ≤ 3 ∧ ∀ t l H', H t = none → H l = none → Ex H H' → H' t = some (.tup [sv n, .ref l]) → H' l = some (.lst (bs.map sv)) → Q (.ref t) H'
abbrev nRead : List Str := ["line", "name", "bracket", "rest", "bases"]
theorem scRead : FnScope nRead ["line"] (defScope sReadClass) := ⟨rfl, rfl, rfl, by decide +kernel, rfl, by decide +kernel, by decide +kernel⟩
section
variable {P : Program} {w : World} {K : PySem.W.Frag} {mg : Str → Option Value} {base : Heap}
theorem ok_read {f : Addr} {fd : FuncData} {k : Nat} (F : Fun K "read_class_line" "read_class_line" sReadClass f fd) (T : LibP mg) (rC : Rd P w K mg base "is_class_name" k ["text"] spClass) : FnOk P w K mg base CX0 (k + 1) f fd ["line"] spRead := by
  refine F.ok scRead (fun vs H Q E h => ?_) (fun cdv A outer s H vs Q E hr h => ?_)
  · obtain ⟨n, bs, rfl, _⟩ := h
    rfl
  · obtain ⟨n, bs, rfl, gn, gb, hb3, q⟩ := h
    obtain ⟨tB, hB⟩ := T.mB
    obtain ⟨hl60, hl8⟩ := cline_len gn gb hb3
    have hcap : (cline n bs).length ≤ cap := Nat.le_trans hl60 (by decide)
    refine ⟨_, pss_cons (ps_if (PW.pt (pw_or (pt_not (pt_val (pe_m1 PySem.F.slot_str_startswith PySem.F.type_str_startswith mt_startswith (pv 0) pe_str))) (pw_or1 (pt_not (pt_val (pe_m1 PySem.F.slot_str_endswith PySem.F.type_str_endswith mt_endswith (pv 0) pe_str)))))) (pss_one (ps_ret pe_non)) pss_nil)
      (pss_cons (ps_asg (pe_partition (pe_slice sl_str (pv 0) (po_some pe_int) (po_some (pe_un un_neg pe_int))) pe_str) (pg_tup (by rfl) (pgs_cons (pg_name (i := 1) scRead.nd rfl (.inl rfl)) (pgs_cons (pg_name (i := 2) scRead.nd rfl (.inl rfl)) (pgs_cons (pg_name (i := 3) scRead.nd rfl (.inl rfl)) pgs_nil)))))
      (pss_cons (ps_if (pt_not (pt_val (pe_rd rC hr (Nat.le_refl _) (by rfl) (pa_cons (pv 1) pa_nil)))) (pss_one (ps_ret pe_non)) pss_nil)
      (pss_cons (ps_if (pt_cmpR op_eq (pv 2) pe_str (nomark _)) (pss_one (ps_ret (pe_tup (pa_cons (pv 1) (pa_cons (pe_lst pa_nil) pa_nil))))) pss_nil)
      (pss_cons (ps_set (i := 4) scRead.nd rfl (.inl rfl) (pe_split (pe_slice sl_str (pv 3) po_none (po_some (pe_un un_neg pe_int))) pe_str))
      (pss_cons (ps_if (PW.pt (pw_or (pt_not (pt_val (pe_m1 PySem.F.slot_str_endswith PySem.F.type_str_endswith mt_endswith (pv 3) pe_str))) (pw_or1 (pt_cmpR op_gt (pe_callB call_len_seq (by rfl) T.len PySem.boot_len (pa_cons (pv 4) pa_nil)) (pe_glob (v := .int 3) (by rfl) hB ⟨_, rfl⟩) (nomark _))))) (pss_one (ps_ret pe_non)) pss_nil)
      (pss_one (ps_ret (pe_tup (pa_cons (pv 1) (pa_cons (pv 4) pa_nil)))))))))), ?_⟩
    refine q_when (b := false) (et_is (et_or (et_not (et_B (ev_startsS (M := cls6) (ev_var rfl) ev_c))) fun _ => et_not (et_B (ev_ends (c := 58) (ev_var rfl) ev_c))) (by rw [cline_starts, cline_last]; rfl)) (fun z => nomatch z) fun _ H1 f1 => ?_
    have hpart : ∃ b c, Txt.partition (S (n ++ bpart bs)) (S [40]) = (S n, S b, S c) ∧ (bs = [] → b = []) ∧ (bs ≠ [] → b = [40] ∧ c = TL.joinL [44, 32] bs ++ [41]) := by
      by_cases h : bs = []
      · subst h
        refine ⟨[], [], ?_, fun _ => rfl, fun z => absurd rfl z⟩
        show Txt.partition (S (n ++ [])) (S [40]) = _
        rw [List.append_nil, partition_no (gn.no (by decide) (by decide))]
      · refine ⟨[40], TL.joinL [44, 32] bs ++ [41], ?_, fun z => absurd z h, fun _ => ⟨rfl, rfl⟩⟩
        have e : bpart bs = 40 :: (TL.joinL [44, 32] bs ++ [41]) := if_neg h
        rw [e, partition_S (gn.no (by decide) (by decide))]
    obtain ⟨bk, rs, hp, hp0, hp1⟩ := hpart
    have hcl : (n ++ bpart bs).length ≤ cap := by
      have : (n ++ bpart bs).length ≤ (cline n bs).length := by
        unfold cline
        simp only [List.length_append]
        omega
      exact Nat.le_trans this hcap
    have sl : Ev (tSl rSlS (tVar 0) (tPart (tC (.int 6))) (tPart (tUn (rU fun i => .int (-i)) (tC (.int 1))))) [some (sv (cline n bs)), none, none, none, none] H1 (sv (n ++ bpart bs)) := Evl.ev_is (ev_slS (lo := some 6) (hi := some (-1)) (ev_var rfl) (eo_some ev_c) (eo_some (ev_un ev_c ru_neg)) (by rw [S_len]; exact cap_line hcap)) (by rw [cut_6, cline_cut])
    refine q_asgG ?_
    refine eu_part (L := n ++ bpart bs) (M := [40]) hcl (by decide) hp sl ev_c H1 (Ex.refl H1) _ fun pt H2 npt f2 hpt => ?_
    refine ⟨pt, _, rfl, st_of hpt, rfl, _, _, rfl, _, _, rfl, _, _, rfl, rfl, ?_⟩
    show tSeq _ _ _ [some (sv (cline n bs)), some (sv n), some (sv bk), some (sv rs), none] H2
    refine q_when (b := false) (et_is (et_not (et_B (ev_call (ea_cons (ev_var rfl) ea_nil) (sp_class (L := n) (Nat.le_trans gn.len.2 (by decide)))))) (by rw [gn.ok]; rfl)) (fun z => nomatch z) fun _ H3 f3 => ?_
    refine q_when (et_test (ev_eqS (a := bk) (b := []) (ev_var rfl) ev_c)) (fun hb H4 f4 => ?_) (fun hb H4 f4 => ?_)
    · have h0 : bs = [] := by
        by_cases h : bs = []
        · exact h
        · rw [(hp1 h).1] at hb
          cases hb
      subst h0
      refine ⟨_, rfl, Nat.zero_le _, fun l nl => ⟨(show 2 ≤ sizeLine by decide), fun t nt => ?_⟩⟩
      have e4 := ((f1.trans f2).trans f3).trans f4
      have nt4 : H4 t = none := fresh_back (Ex.new nl) nt
      refine q t l _ (fresh_back e4 nt4) (fresh_back e4 nl) ((e4.trans (Ex.new nl)).trans (Ex.new nt)) upd_same ?_
      have ne : l ≠ t := fun z => by
        rw [← z, upd_same] at nt
        cases nt
      rw [upd_ne ne, upd_same]
      rfl
    · have h0 : bs ≠ [] := fun z => by
        rw [hp0 z] at hb
        cases hb
      obtain ⟨rfl, rfl⟩ := hp1 h0
      have hjl : (TL.joinL [44, 32] bs ++ [41]).length ≤ cap := by
        have : (TL.joinL [44, 32] bs ++ [41]).length ≤ (n ++ bpart bs).length := by
          have e : bpart bs = 40 :: (TL.joinL [44, 32] bs ++ [41]) := if_neg h0
          rw [e]
          simp only [List.length_append, List.length_cons]
          omega
        exact Nat.le_trans this hcl
      refine q_asgL (xs := bs.map sv) (el_split (s := 44) (T := [32]) (L := TL.joinL [44, 32] bs) (by decide) (Nat.le_trans (by rw [List.length_append]; exact Nat.le_add_right _ _) hjl) rfl h0 (fun x hx => (gb x hx).no (by decide) (by decide)) (Evl.ev_is (ev_slS (lo := none) (hi := some (-1)) (ev_var rfl) eo_none (eo_some (ev_un ev_c ru_neg)) (by rw [S_len]; exact cap_line hjl)) (by rw [cut_last', rest_cut])) ev_c) fun l H5 nl f5 hl => ?_
      refine q_when (b := false) (et_is (et_or (et_not (et_B (ev_ends (c := 41) (L := TL.joinL [44, 32] bs ++ [41]) (ev_var rfl) ev_c))) fun _ => et_test (ev_op (ev_len (ev_var rfl) (sq_of hl)) ev_c rv_I0)) (by
        rw [List.getLast?_append, List.length_map]
        have : decide ((bs.length : Int) > 3) = false := decide_eq_false (by omega)
        rw [this]
        rfl)) (fun z => nomatch z) fun _ H6 f6 => ?_
      refine s_retU (eu_tup (vs := [sv n, .ref l]) (ea_cons (ev_var rfl) (ea_cons (ev_var rfl) ea_nil)) (show 2 ≤ 100000 by decide)) fun t H7 nt f7 ht => ?_
      have e4 := ((f1.trans f2).trans f3).trans f4
      exact q t l H7 (fresh_back ((e4.trans f5).trans f6) nt) (fresh_back e4 nl) (((e4.trans f5).trans f6).trans f7) ht (f7 _ _ (f6 _ _ hl))
end
end Hy
set_option maxHeartbeats 4000000
/-! Dicts with names as keys, fields, methods; list.count; ClassText and Reader made. -/
namespace Hy
open PySem PySem.Spec PyProof.Rows L2 Evl Hc Hs
section
variable {X : Cx}
/-- l.count(x), flat things -/
def rCntF (K : PySem.W.Frag) : V → List V → Hp → VK → Prop := fun x xs H Q => ∃ (a : Addr) (ys : List V) (y : V), x = .ref a ∧ xs = [y] ∧ SqL K H a ys ∧ flatV y = true ∧ ys.all flatV = true ∧ Q (.int ((ys.countP fun z => eqV z y : Nat) : Int)) H
theorem mt_countF : MtR X "list.count" (rCntF X.K) := by
  intro pins s σ H x xs v us Q I rx rxs h
  obtain ⟨a, ys, y, rfl, rfl, hs, fy, fys, q⟩ := h
  cases rx
  cases rxs with
  | cons ry rt =>
    rename_i uy ut
    cases rt
    obtain ⟨its, rv, ⟨⟨cls, dd, data, sl⟩, n, ho, hc, hdn, hd⟩, hlen⟩ := I.list hs
    simp only at hc hd
    subst hc hd
    refine call_meets PySem.F.slot_list_count ⟨_, ho, rfl⟩ PySem.F.entry_list_count (PySem.F.args_list_count_2 _ _) (SeqAt.list_countAt a its.toArray n dd sl uy (eqU y)) ⟨ho, fun u' hu' => mem_eqAt ry fy rv fys u' (by simpa using hu'), ?_⟩
    have ec : its.toArray.toList.countP (eqU y) = ys.countP fun z => eqV z y := by
      clear hs q hlen ho hdn
      show its.countP (eqU y) = _
      induction rv with
      | nil => rfl
      | cons r rv ih =>
        rename_i z u zs us
        rw [List.all_cons, Bool.and_eq_true] at fys
        rw [List.countP_cons, List.countP_cons, ih fys.2, eqU_of r fys.1]
    refine ⟨.int ((ys.countP fun z => eqV z y : Nat) : Int), H, I.tok _, ⟨s.toks, ?_⟩, q⟩
    show Value.int ((its.toArray.toList.countP (eqU y) : Nat) : Int) s.toks = Value.int ((ys.countP fun z => eqV z y : Nat) : Int) s.toks
    rw [ec]
end
/-! ### dicts with names as keys -/
abbrev kN (n : Nm) : Key := Sum.inr (S n)
section
variable {K : PySem.W.Frag} {σ : L2.St} {H : Hp} {td ty tv te : TE} {d : Addr} {kvs : List (Key × V)} {n : Nm}
theorem ev_din (h1 : Ev ty σ H (sv n)) (h2 : Ev td σ H (.ref d)) (hd : H d = some (.dK kvs)) : Ev (tDIn ty td) σ H (.bl (valV kvs (kN n)).isSome) := fun H1 e Q q =>
  h1 H1 e _ fun H2 e2 => h2 H2 (e.trans e2) _ fun H3 e3 => ⟨d, _, rfl, DGet.k (k := kN n) (((e.trans e2).trans e3) _ _ hd), q H3 (e2.trans e3)⟩
theorem ev_dget {v : V} (h1 : Ev td σ H (.ref d)) (h2 : Ev ty σ H (sv n)) (hd : H d = some (.dK kvs)) (hv : valV kvs (kN n) = some v) : Ev (tDGet td ty) σ H v := fun H1 e Q q =>
  h1 H1 e _ fun H2 e2 => h2 H2 (e.trans e2) _ fun H3 e3 => ⟨d, v, rfl, hv ▸ DGet.k (k := kN n) (((e.trans e2).trans e3) _ _ hd), q H3 (e2.trans e3)⟩
theorem ev_lenD (h : Ev td σ H (.ref d)) (hd : H d = some (.dK kvs)) : Ev (tCB (fun (xs : List V) (H : Hp) (Q : VK) => ∃ (d : Addr) (kvs : List (Key × V)), xs = [.ref d] ∧ H d = some (.dK kvs) ∧ Q (.int (kvs.length : Int)) H) (tCons td tNil)) σ H (.int (kvs.length : Int)) := fun H1 e Q q =>
  h H1 e _ fun H2 e2 => ⟨d, kvs, rfl, (e.trans e2) _ _ hd, q H2 e2⟩
theorem ev_fld {C a dx : Addr} {fs : List (Str × V)} {f : Str} {v : V} (h : Ev te σ H (.ref a)) (ha : H a = some (.ins C dx fs)) (c : Cls K C) (n : NoAttr K C f) (hl : fs.lookup f = some v) : Ev (tFld K te f) σ H v := fun H1 e Q q =>
  h H1 e _ fun H2 e2 => ⟨a, C, dx, fs, v, rfl, e2 _ _ (e _ _ ha), c, n, hl, q H2 e2⟩
/-- o.f = e, then the rest -/
theorem q_fldV {D : Ends} {tz : TS} {ta : TE} {f : Str} {C a dx : Addr} {fs : List (Str × V)} {v : V} (hv : Ev tv σ H v) (ho : Ev ta σ H (.ref a)) (ha : H a = some (.ins C dx fs)) (c : Cls K C) (n : NoAttr K C f) (hl : fs.length < 1000)
    (k : ∀ H1, Ex H H1 → tz D σ (upd H1 a (.ins C dx (putF f v fs)))) : tSeq (sFld K ta tv f) tz D σ H :=
  hv H (Ex.refl H) _ fun H1 e1 => ho H1 e1 _ fun H2 e2 => ⟨a, C, dx, fs, rfl, e2 _ _ (e1 _ _ ha), c, n, hl, k H2 (e1.trans e2)⟩
theorem s_fldV {D : Ends} {ta : TE} {f : Str} {C a dx : Addr} {fs : List (Str × V)} {v : V} (hv : Ev tv σ H v) (ho : Ev ta σ H (.ref a)) (ha : H a = some (.ins C dx fs)) (c : Cls K C) (n : NoAttr K C f) (hl : fs.length < 1000)
    (k : ∀ H1, Ex H H1 → D.nx σ (upd H1 a (.ins C dx (putF f v fs)))) : sFld K ta tv f D σ H := q_fldV (tz := tNext) hv ho ha c n hl k
/-- o.f = {} -/
theorem q_fldD {D : Ends} {tz : TS} {ta : TE} {f : Str} {C a dx : Addr} {fs : List (Str × V)} (ho : ∀ H1, Ex H H1 → Ev ta σ H1 (.ref a)) (ha : H a = some (.ins C dx fs)) (c : Cls K C) (n : NoAttr K C f) (hl : fs.length < 1000)
    (k : ∀ p H1, H p = none → Ex H H1 → H1 p = some (.dK []) → tz D σ (upd H1 a (.ins C dx (putF f (.ref p) fs)))) : tSeq (sFld K ta tDNewK f) tz D σ H := fun p np =>
  ho (upd H p (.dK [])) (Ex.new np) _ (Ex.refl _) _ fun H2 e2 => ⟨a, C, dx, fs, rfl, e2 _ _ ((Ex.new np) _ _ ha), c, n, hl, k p H2 np ((Ex.new np).trans e2) (e2 _ _ upd_same)⟩
theorem s_fldD {D : Ends} {ta : TE} {f : Str} {C a dx : Addr} {fs : List (Str × V)} (ho : ∀ H1, Ex H H1 → Ev ta σ H1 (.ref a)) (ha : H a = some (.ins C dx fs)) (c : Cls K C) (n : NoAttr K C f) (hl : fs.length < 1000)
    (k : ∀ p H1, H p = none → Ex H H1 → H1 p = some (.dK []) → D.nx σ (upd H1 a (.ins C dx (putF f (.ref p) fs)))) : sFld K ta tDNewK f D σ H := q_fldD (tz := tNext) ho ha c n hl k
end
/-! ### classes and methods, ready to be called -/
structure Rm (P : Program) (w : World) (K : PySem.W.Frag) (mg : Str → Option Value) (base : Heap) (x : Str) (C : Addr) (k : Nat) (ps : List Str) (sp : Sp) : Prop where
  ex : ∃ (f : Addr) (fd : FuncData), mg x = some (.ref C) ∧ Mk K C f ∧ Binds K fd ps [] ∧ FnOk P w K mg base CX0 k f fd ps sp
theorem Rm.mono {P : Program} {w : World} {K : PySem.W.Frag} {mg : Str → Option Value} {base : Heap} {x : Str} {C : Addr} {j k : Nat} {ps : List Str} {sp : Sp} (r : Rm P w K mg base x C j ps sp) (h : j ≤ k) : Rm P w K mg base x C k ps sp := by
  obtain ⟨f, fd, g, m, b, G⟩ := r.ex
  exact ⟨f, fd, g, m, b, G.mono h⟩
theorem pe_rm {X : Cx} {x : Str} {C : Addr} {k j : Nat} {ps : List Str} {sp : Sp} {e : Expr} {es : List Expr} {ta : TA} {p pos : Pos} (r : Rm X.prog X.w X.K X.mg X.base x C k ps sp) (hr : Room j X.A) (hk : k + 1 ≤ j) (hg : Gl X x) (ha : PA X (e :: es) ta)
    (hdb : (x == ("__debug__" : Str)) = false := by decide) (he : starEach (e :: es) X.env = (false, eval e X.env) :: starEach es X.env := by rfl) (hpl : (backTo pos (starEach es X.env)).any (·.1) = false := by rfl) : PE X (.Call (.Name x p) (e :: es) [] pos) (tMake C sp [] E0 ta) := by
  obtain ⟨f, fd, g1, m, b, G⟩ := r.ex
  exact pe_make m G (hr.mono hk) hg g1 b .nil pass0 ha hdb he hpl
theorem pe_rm0 {X : Cx} {x : Str} {C : Addr} {k j : Nat} {ps : List Str} {sp : Sp} {p pos : Pos} (r : Rm X.prog X.w X.K X.mg X.base x C k ps sp) (hr : Room j X.A) (hk : k + 1 ≤ j) (hg : Gl X x)
    (hdb : (x == ("__debug__" : Str)) = false := by decide) : PE X (.Call (.Name x p) [] [] pos) (tMake C sp [] E0 tNil) := by
  obtain ⟨f, fd, g1, m, b, G⟩ := r.ex
  exact pe_make0 m G (hr.mono hk) hg g1 b .nil pass0 hdb
structure Rt (P : Program) (w : World) (K : PySem.W.Frag) (mg : Str → Option Value) (base : Heap) (C : Addr) (m : Str) (k : Nat) (ps : List Str) (sp : Sp) : Prop where
  ex : ∃ (f : Addr) (fd : FuncData), Meth K C m f ∧ Binds K fd ps [] ∧ FnOk P w K mg base CX0 k f fd ps sp
theorem Rt.mono {P : Program} {w : World} {K : PySem.W.Frag} {mg : Str → Option Value} {base : Heap} {C : Addr} {m : Str} {j k : Nat} {ps : List Str} {sp : Sp} (r : Rt P w K mg base C m j ps sp) (h : j ≤ k) : Rt P w K mg base C m k ps sp := by
  obtain ⟨f, fd, g, b, G⟩ := r.ex
  exact ⟨f, fd, g, b, G.mono h⟩
theorem pe_rt {X : Cx} {C : Addr} {m : Str} {k j : Nat} {ps : List Str} {sp : Sp} {o e : Expr} {es : List Expr} {ta : TE} {t : TA} {apos pos : Pos} {pl : Sem Bool} (he : PE X o ta) (c : Cls X.K C) (r : Rt X.prog X.w X.K X.mg X.base C m k ps sp) (hr : Room j X.A) (hk : k ≤ j) (ha : PA X (e :: es) t)
    (hst : starEach (e :: es) X.env = (false, eval e X.env) :: starEach es X.env := by rfl) (hpl : (backTo pos (starEach es X.env)).any (·.1) = false := by rfl)
    (ht : eval (.Call (.Attribute o m apos) (e :: es) [] pos) X.env = (do
      let ov ← eval o X.env
      standAt apos.atName
      let (f, first) ← holding [ov] (getMethod ov m pl)
      callWith pos f first (backTo pos (starEach (e :: es) X.env)) (backToKw pos (keywordEach [] X.env))) := by rfl) : PE X (.Call (.Attribute o m apos) (e :: es) [] pos) (tMeth C m sp [] E0 ta t) := by
  obtain ⟨f, fd, M, b, G⟩ := r.ex
  exact pe_meth he c M G (hr.mono hk) b .nil pass0 ha hst hpl ht
/-! ### ClassText, Reader -/
structure Ent where
  nm : Nm
  cls : Addr
  lin : Addr
  ord : List Nm
def ctF (n : Nm) (l fd dd : Addr) : List (Str × V) := [("name", sv n), ("lineage", .ref l), ("fields", .ref fd), ("definitions", .ref dd)]
structure CtC (K : PySem.W.Frag) (C : Addr) : Prop where
  cl : Cls K C
  nN : NoAttr K C "name"
  nL : NoAttr K C "lineage"
  nF : NoAttr K C "fields"
  nD : NoAttr K C "definitions"
def spCt (C : Addr) : Sp := fun vs H Q _ => ∃ (x dx : Addr) (n : Nm) (l : Addr), vs = [.ref x, sv n, .ref l] ∧ H x = some (.ins C dx []) ∧ ∀ H' fd dd, Hc.Ext (fun b => b = x) H H' → H' x = some (.ins C dx (ctF n l fd dd)) → Q .non H'
def rdF (d : Addr) (ow me : V) : List (Str × V) := [("classes", .ref d), ("_owner", ow), ("_method", me)]
structure RdC (K : PySem.W.Frag) (C : Addr) : Prop where
  cl : Cls K C
  nC : NoAttr K C "classes"
  nO : NoAttr K C "_owner"
  nM : NoAttr K C "_method"
def spRd (C : Addr) : Sp := fun vs H Q _ => ∃ (x dx : Addr), vs = [.ref x] ∧ H x = some (.ins C dx []) ∧ ∀ H' d, H d = none → Hc.Ext (fun b => b = x) H H' → H' x = some (.ins C dx (rdF d .non .non)) → H' d = some (.dK []) → Q .non H'
abbrev sCtInit : Stmt := inClass cClassText 0
abbrev sRdInit : Stmt := inClass cReader 0
theorem scCt : FnScope ["self", "name", "lineage"] ["self", "name", "lineage"] (defScope sCtInit) := ⟨rfl, rfl, rfl, by decide +kernel, rfl, by decide +kernel, by decide +kernel⟩
theorem scRd : FnScope ["self"] ["self"] (defScope sRdInit) := ⟨rfl, rfl, rfl, by decide +kernel, rfl, by decide +kernel, by decide +kernel⟩
theorem ext_ex {S : Addr → Prop} {H H1 : Hp} (e : Ex H H1) : Hc.Ext S H H1 := fun b o h _ => e b o h
theorem stepE {S : Addr → Prop} {H H1 : Hp} {p : Addr} {o : HO} (e : Ex H H1) (h : S p) : Hc.Ext S H (upd H1 p o) := (ext_ex e).trans (Ext.put h)
section
variable {P : Program} {w : World} {K : PySem.W.Frag} {mg : Str → Option Value} {base : Heap} {C f : Addr} {fd : FuncData} {k : Nat}
theorem ok_ct (F : Fun K "__init__" "ClassText.__init__" sCtInit f fd) (c : CtC K C) : FnOk P w K mg base CX0 (k + 1) f fd ["self", "name", "lineage"] (spCt C) := by
  refine F.ok scCt (fun vs H Q E h => ?_) (fun cdv A outer s H vs Q E hr h => ?_)
  · obtain ⟨x, dx, n, l, rfl, _⟩ := h
    rfl
  · obtain ⟨x, dx, n, l, rfl, hx, q⟩ := h
    refine ⟨_, pss_cons (ps_fld (pv 0) (pv 1) (by rfl)) (pss_cons (ps_fld (pv 0) (pv 2) (by rfl)) (pss_cons (ps_fld (pv 0) pe_dnewK (by rfl)) (pss_one (ps_fld (pv 0) pe_dnewK (by rfl))))), ?_⟩
    refine q_fldV (ev_var rfl) (ev_var rfl) hx c.cl c.nN (show 0 < 1000 by decide) fun H1 e1 => ?_
    refine q_fldV (ev_var rfl) (ev_var rfl) upd_same c.cl c.nL (show 1 < 1000 by decide) fun H2 e2 => ?_
    refine q_fldD (fun _ _ => ev_var rfl) upd_same c.cl c.nF (show 2 < 1000 by decide) fun p H3 np e3 hp => ?_
    refine s_fldD (fun _ _ => ev_var rfl) upd_same c.cl c.nD (show 3 < 1000 by decide) fun p' H4 np' e4 hp' => ?_
    refine q _ p p' ?_ upd_same
    exact (((stepE (S := fun b => b = x) e1 rfl).trans (stepE e2 rfl)).trans (stepE e3 rfl)).trans (stepE e4 rfl)
theorem ok_rdI (F : Fun K "__init__" "Reader.__init__" sRdInit f fd) (c : RdC K C) : FnOk P w K mg base CX0 (k + 1) f fd ["self"] (spRd C) := by
  refine F.ok scRd (fun vs H Q E h => ?_) (fun cdv A outer s H vs Q E hr h => ?_)
  · obtain ⟨x, dx, rfl, _⟩ := h
    rfl
  · obtain ⟨x, dx, rfl, hx, q⟩ := h
    refine ⟨_, pss_cons (ps_fld (pv 0) pe_dnewK (by rfl)) (pss_cons (ps_fld (pv 0) pe_non (by rfl)) (pss_one (ps_fld (pv 0) pe_non (by rfl)))), ?_⟩
    refine q_fldD (fun _ _ => ev_var rfl) hx c.cl c.nC (show 0 < 1000 by decide) fun p H1 np e1 hp => ?_
    have px : p ≠ x := fun z => by
      rw [z, hx] at np
      cases np
    refine q_fldV ev_c (ev_var rfl) upd_same c.cl c.nO (show 1 < 1000 by decide) fun H2 e2 => ?_
    refine s_fldV ev_c (ev_var rfl) upd_same c.cl c.nM (show 2 < 1000 by decide) fun H3 e3 => ?_
    refine q _ p np ?_ upd_same ?_
    · exact ((stepE (S := fun b => b = x) e1 rfl).trans (stepE e2 rfl)).trans (stepE e3 rfl)
    · rw [upd_ne px]
      refine e3 _ _ ?_
      rw [upd_ne px]
      refine e2 _ _ ?_
      rw [upd_ne px]
      exact hp
end
end Hy
set_option maxHeartbeats 4000000
/-! Reader._take_class, Reader.take for class lines. -/
namespace Hy
open PySem PySem.Spec PyProof.Rows L2 Evl Hc Hs
def kvsOf (es : List Ent) : List (Key × V) := es.map fun e => (kN e.nm, V.ref e.cls)
def entOf (es : List Ent) (b : Nm) : Option Ent := es.find? fun e => decide (e.nm = b)
def ordOf (es : List Ent) (b : Nm) : List Nm := match entOf es b with
  | some e => e.ord
  | none => []
def linOf (es : List Ent) (b : Nm) : Addr := match entOf es b with
  | some e => e.lin
  | none => 0
def rowsB (es : List Ent) (bs : List Nm) : Rows Nm := bs.map (ordOf es) ++ [bs]
def EntOk (H : Hp) (C : Addr) (e : Ent) : Prop := (∃ dx fd dd, H e.cls = some (.ins C dx (ctF e.nm e.lin fd dd))) ∧ H e.lin = some (.lst (e.ord.map sv))
def DbOk (H : Hp) (C d : Addr) (es : List Ent) : Prop := H d = some (.dK (kvsOf es)) ∧ ∀ e ∈ es, EntOk H C e
theorem EntOk.ex {H H' : Hp} {C : Addr} {e : Ent} (h : EntOk H C e) (x : Ex H H') : EntOk H' C e := by
  obtain ⟨⟨dx, fd, dd, h1⟩, h2⟩ := h
  exact ⟨⟨dx, fd, dd, x _ _ h1⟩, x _ _ h2⟩
theorem DbOk.ex {H H' : Hp} {C d : Addr} {es : List Ent} (h : DbOk H C d es) (x : Ex H H') : DbOk H' C d es := ⟨x _ _ h.1, fun e he => (h.2 e he).ex x⟩
theorem kN_inj {a b : Nm} : kN a = kN b ↔ a = b := ⟨fun h => S_inj (Sum.inr.inj h), fun h => by rw [h]⟩
theorem val_kvs (b : Nm) : ∀ es : List Ent, valV (kvsOf es) (kN b) = (entOf es b).map fun e => V.ref e.cls
  | [] => rfl
  | e :: es => by
    by_cases h : e.nm = b
    · have h1 : valV (kvsOf (e :: es)) (kN b) = some (V.ref e.cls) := valV_pos (p := (kN e.nm, V.ref e.cls)) (kN_inj.mpr h)
      have h2 : entOf (e :: es) b = some e := List.find?_cons_of_pos (decide_eq_true h)
      rw [h1, h2]
      rfl
    · have h1 : valV (kvsOf (e :: es)) (kN b) = valV (kvsOf es) (kN b) := valV_neg (p := (kN e.nm, V.ref e.cls)) (fun z => h (kN_inj.mp z))
      have h2 : entOf (e :: es) b = entOf es b := List.find?_cons_of_neg (by rw [decide_eq_false h]; exact Bool.false_ne_true)
      rw [h1, h2, val_kvs b es]
theorem ent_some {es : List Ent} {b : Nm} (h : b ∈ es.map (·.nm)) : ∃ e, entOf es b = some e ∧ e ∈ es ∧ e.nm = b := by
  cases q : entOf es b with
  | none =>
    obtain ⟨e, he, rfl⟩ := List.mem_map.mp h
    have := List.find?_eq_none.mp q e he
    simp at this
  | some e => exact ⟨e, rfl, List.mem_of_find?_eq_some q, of_decide_eq_true (List.find?_some (p := fun e : Ent => decide (e.nm = b)) q)⟩
theorem ent_none {es : List Ent} {b : Nm} (h : b ∉ es.map (·.nm)) : entOf es b = none := by
  cases q : entOf es b with
  | none => rfl
  | some e => exact absurd (List.mem_map.mpr ⟨e, List.mem_of_find?_eq_some q, of_decide_eq_true (List.find?_some (p := fun e : Ent => decide (e.nm = b)) q)⟩) h
section
variable {K : PySem.W.Frag} {σ : L2.St} {H : Hp} {ta tb te : TE}
theorem el_cat {xs ys : List V} (ha : EvL ta σ H xs) (hb : EvL tb σ H ys) (hz : xs.length + ys.length ≤ 100000) : EvL (tOp rCat ta tb) σ H (xs ++ ys) := fun H1 e Q q =>
  ha H1 e _ fun p H2 n1 e2 h1 => hb H2 (e.trans e2) _ fun r H3 n2 e3 h2 => ⟨p, r, xs, ys, rfl, rfl, e3 _ _ h1, h2, sz_of hz, fun t nt => q t _ (fresh_back (e2.trans e3) nt) ((e2.trans e3).trans (Ex.new nt)) upd_same⟩
theorem el_catR {xs ys : List V} {r : Addr} (ha : EvL ta σ H xs) (hb : Ev tb σ H (.ref r)) (hr : H r = some (.lst ys)) (hz : xs.length + ys.length ≤ 100000) : EvL (tOp rCat ta tb) σ H (xs ++ ys) := fun H1 e Q q =>
  ha H1 e _ fun p H2 n1 e2 h1 => hb H2 (e.trans e2) _ fun H3 e3 => ⟨p, r, xs, ys, rfl, rfl, e3 _ _ h1, ((e.trans e2).trans e3) _ _ hr, sz_of hz, fun t nt => q t _ (fresh_back (e2.trans e3) nt) ((e2.trans e3).trans (Ex.new nt)) upd_same⟩
theorem ev_nonR {p : Addr} (h : Ev te σ H (.ref p)) : Ev (tOp (fun x y H Q => y = .non ∧ Q (.bl (decide (x = .non))) H) te (tC .non)) σ H (.bl false) := Evl.ev_is (ev_op h ev_c fun H1 e Q q => ⟨rfl, q H1 (Ex.refl H1)⟩) (by rw [decide_eq_false (fun z => nomatch z)])
end
def spTake (CR CT : Addr) : Sp := fun vs H Q _ => ∃ (r d dr : Addr) (n : Nm) (bs : List Nm) (es : List Ent) (ow me : V), vs = [.ref r, sv (cline n bs)] ∧ GoodNm n ∧ (∀ b ∈ bs, GoodNm b) ∧ bs.Nodup ∧ bs.length ≤ 3 ∧ n ∉ es.map (·.nm) ∧ (∀ b ∈ bs, b ∈ es.map (·.nm)) ∧ es.length < 8 ∧
  (∀ e ∈ es, e.ord.length ≤ 8) ∧ H r = some (.ins CR dr (rdF d ow me)) ∧ DbOk H CT d es ∧
  (match merge (rowsB es bs) with
    | none => ∀ H', Ex H H' → Q (.bl false) H'
    | some m => ∀ H' (e : Ent), e.nm = n → e.ord = n :: m → Hc.Ext (fun b => b = r ∨ b = d) H H' → H' r = some (.ins CR dr (rdF d (.ref e.cls) .non)) → DbOk H' CT d (es ++ [e]) → Q (.bl true) H')
abbrev sTakeC : Stmt := inClass cReader 2
abbrev sTake : Stmt := inClass cReader 1
abbrev nTakeC : List Str := ["self", "line", "head", "name", "bases", "behind", "base"]
theorem scTakeC : FnScope nTakeC ["self", "line"] (defScope sTakeC) := ⟨rfl, rfl, rfl, by decide +kernel, rfl, by decide +kernel, by decide +kernel⟩
theorem scTake : FnScope ["self", "line"] ["self", "line"] (defScope sTake) := ⟨rfl, rfl, rfl, by decide +kernel, rfl, by decide +kernel, by decide +kernel⟩
section
variable {P : Program} {w : World} {K : PySem.W.Frag} {mg : Str → Option Value} {base : Heap} {CR CT : Addr}
theorem ok_take {f : Addr} {fd : FuncData} {k : Nat} (F : Fun K "take" "Reader.take" sTake f fd) (c : RdC K CR) (rT : Rt P w K mg base CR "_take_class" k ["self", "line"] (spTake CR CT)) (nT : True) : FnOk P w K mg base CX0 (k + 1) f fd ["self", "line"] (spTake CR CT) := by
  refine F.ok scTake (fun vs H Q E h => ?_) (fun cdv A outer s H vs Q E hr h => ?_)
  · obtain ⟨r, d, dr, n, bs, es, ow, me, rfl, _⟩ := h
    rfl
  · have h0 := h
    obtain ⟨r, d, dr, n, bs, es, ow, me, rfl, gn, gb, nd, hb3, hn, hbs, h8, ho8, hr', hdb, q⟩ := h
    refine ⟨_, pss_cons (ps_if (pt_val (pe_m1 PySem.F.slot_str_startswith PySem.F.type_str_startswith mt_startswith (pv 1) pe_str)) (pss_one ps_never) pss_nil)
      (pss_cons (ps_if (pt_val (pe_m1 PySem.F.slot_str_startswith PySem.F.type_str_startswith mt_startswith (pv 1) pe_str)) (pss_one ps_never) pss_nil)
      (pss_one (ps_ret (pe_rt (pv 0) c.cl rT hr (Nat.le_refl _) (pa_cons (pv 1) pa_nil))))), ?_⟩
    have hs : ∀ m : List Nat, startsL (cline n bs) (32 :: m) = false := fun m => by
      unfold startsL
      rw [Bool.and_eq_false_iff]
      refine .inr ?_
      have e : (cline n bs).take (32 :: m).length = 99 :: ((cline n bs).drop 1).take m.length := rfl
      rw [e]
      exact beq_eq_false_iff_ne.mpr fun z => by cases z
    refine q_when (b := false) (et_is (et_B (ev_startsS (M := [32, 32, 32, 32, 32, 32, 32, 32]) (ev_var rfl) ev_c)) (hs _)) (fun z => nomatch z) fun _ H1 f1 => ?_
    refine q_when (b := false) (et_is (et_B (ev_startsS (M := [32, 32, 32, 32]) (ev_var rfl) ev_c)) (hs _)) (fun z => nomatch z) fun _ H2 f2 => ?_
    have e2 := f1.trans f2
    refine ⟨_, rfl, r, dr, _, rfl, e2 _ _ hr', rfl, _, rfl, ?_⟩
    refine ⟨r, d, dr, n, bs, es, ow, me, rfl, gn, gb, nd, hb3, hn, hbs, h8, ho8, e2 _ _ hr', hdb.ex e2, ?_⟩
    cases q2 : merge (rowsB es bs) with
    | none =>
      rw [q2] at q
      exact fun H' ex => q H' (e2.trans ex)
    | some m =>
      rw [q2] at q
      exact fun H' e h1 h2 ex => q H' e h1 h2 ((ext_ex e2).trans ex)
end
end Hy
set_option maxHeartbeats 4000000
/-! Reader._take_class for class lines. -/
namespace Hy
open PySem PySem.Spec PyProof.Rows L2 Evl Hc Hs
theorem countP_one {bs : List Nm} (nd : bs.Nodup) {b : Nm} (hb : b ∈ bs) : ((bs.map sv).countP fun z => eqV z (sv b)) = 1 := by
  have e : ((bs.map sv).countP fun z => eqV z (sv b)) = bs.count b := by
    rw [List.countP_map]
    unfold List.count
    apply List.countP_congr
    intro x _
    show (S x == S b) = true ↔ (x == b) = true
    rw [beq_iff_eq, beq_iff_eq]
    exact ⟨fun z => S_inj z, fun z => z ▸ rfl⟩
  rw [e]
  rw [nd.count, if_pos hb]
theorem ev_cnt {K : PySem.W.Frag} {σ : L2.St} {H : Hp} {to te : TE} {p : Addr} {ys : List V} {y : V} (h1 : Ev to σ H (.ref p)) (h2 : Ev te σ H y) (hp : SqL K H p ys) (fy : flatV y = true) (fys : ys.all flatV = true) : Ev (tBM K "list" (rCntF K) to (tCons te tNil)) σ H (.int ((ys.countP fun z => eqV z y : Nat) : Int)) := fun H1 e Q q =>
  h1 H1 e _ fun H2 e2 => ⟨.inl ⟨rfl, ys, ex_l (e.trans e2) hp⟩, h2 H2 (e.trans e2) _ fun H3 e3 => ⟨p, ys, y, rfl, rfl, ex_l ((e.trans e2).trans e3) hp, fy, fys, q H3 (e2.trans e3)⟩⟩
theorem all_true (n : Nat) : ((List.replicate n true).all id) = true := by
  rw [List.all_eq_true]
  intro x hx
  rw [(List.mem_replicate.mp hx).2]
  rfl
theorem total_app (as bs : Rows Nm) : total (as ++ bs) = total as + total bs := by
  unfold total
  rw [List.map_append, List.sum_append]
theorem total_le {m : Nat} : ∀ {as : Rows Nm}, (∀ a ∈ as, a.length ≤ m) → total as ≤ as.length * m
  | [], _ => by simp [total]
  | a :: as, h => by
    have h1 := h a List.mem_cons_self
    have h2 := total_le (as := as) fun x hx => h x (List.mem_cons_of_mem _ hx)
    unfold total at *
    rw [List.map_cons, List.sum_cons, List.length_cons, Nat.add_mul, Nat.one_mul]
    omega
theorem ord_len {es : List Ent} (h : ∀ e ∈ es, e.ord.length ≤ 8) (b : Nm) : (ordOf es b).length ≤ 8 := by
  unfold ordOf
  cases q : entOf es b with
  | none => simp
  | some e => exact h e (List.mem_of_find?_eq_some q)
theorem q_dput {σ : L2.St} {H : Hp} {D : Ends} {tz : TS} {td ty tv : TE} {d : Addr} {kvs : List (Key × V)} {n : Nm} {v : V} (h1 : Ev tv σ H v) (h2 : Ev td σ H (.ref d)) (h3 : Ev ty σ H (sv n)) (hd : H d = some (.dK kvs)) (hl : kvs.length < 100000)
    (k : ∀ H1, Ex H H1 → tz D σ (upd H1 d (.dK (putK kvs (kN n) v)))) : tSeq (sDPut td ty tv) tz D σ H :=
  h1 H (Ex.refl H) _ fun H1 e1 => h2 H1 e1 _ fun H2 e2 => h3 H2 (e1.trans e2) _ fun H3 e3 => ⟨d, _, rfl, DPut.k (k := kN n) (((e1.trans e2).trans e3) _ _ hd) (sz_lt hl), k H3 ((e1.trans e2).trans e3)⟩
theorem merge_len {rs : Rows Nm} {m : List Nm} (h : merge rs = some m) : m.length ≤ total rs := by
  have := mergeN_len _ _ _ h
  rw [total_full] at this
  exact this
section
variable {P : Program} {w : World} {K : PySem.W.Frag} {mg : Str → Option Value} {base : Heap} {CR CT : Addr}
theorem ok_takeC {f : Addr} {fd : FuncData} {k : Nat} (F : Fun K "_take_class" "Reader._take_class" sTakeC f fd) (T : LibP mg) (c : RdC K CR) (ct : CtC K CT) (rR : Rd P w K mg base "read_class_line" k ["line"] spRead) (rM : Rd P w K mg base "merged" k ["rows"] (spMerged K)) (rC : Rm P w K mg base "ClassText" CT 1 ["self", "name", "lineage"] (spCt CT)) (hk : 2 ≤ k) :
    FnOk P w K mg base CX0 (k + 1) f fd ["self", "line"] (spTake CR CT) := by
  refine F.ok scTakeC (fun vs H Q E h => ?_) (fun cdv A outer s H vs Q E hr h => ?_)
  · obtain ⟨r, d, dr, n, bs, es, ow, me, rfl, _⟩ := h
    rfl
  · obtain ⟨r, d, dr, n, bs, es, ow, me, rfl, gn, gb, nd, hb3, hn, hbs, h8, ho8, hrr, hdb, q⟩ := h
    obtain ⟨tk8, hC⟩ := T.mC
    have hu := hu_of hr
    refine ⟨_, pss_cons (ps_set (i := 2) scTakeC.nd rfl (.inl rfl) (pe_rd rR hr (Nat.le_refl _) (by rfl) (pa_cons (pv 1) pa_nil)))
      (pss_cons (ps_if (PW.pt (pw_or (pt_cmpR op_isN (pv 2) pe_non (nomark _)) (pw_or (pt_cmp (pc_din hu (pe_ix ix_tup (pv 2) pe_int (fun _ _ => rfl)) (pe_fld (pv 0) (by rfl)))) (pw_or1 (pt_cmpR op_eq (pe_callB call_lenD (by rfl) T.len PySem.boot_len (pa_cons (pe_fld (pv 0) (by rfl)) pa_nil)) (pe_glob (v := .int 8) (by rfl) hC ⟨_, rfl⟩) (nomark _)))))) (pss_one (ps_ret pe_bl)) pss_nil)
      (pss_cons (ps_asg (pv 2) (pg_tup (by rfl) (pgs_cons (pg_name (i := 3) scTakeC.nd rfl (.inl rfl)) (pgs_cons (pg_name (i := 4) scTakeC.nd rfl (.inr rfl)) pgs_nil))))
      (pss_cons (ps_if (pt_not (pt_val (pe_callB (cr_all rfl) (by rfl) T.all boot_all (pa_cons (pe_lc (own := [("base", 6)]) (g := gName 6) (tt := tYes) rfl scTakeC.nd (pi_list (pv 4)) (blkOk_by (N := nTakeC) (sc := defScope sTakeC) (by decide +kernel)) (fun _ _ _ _ _ => pg_name (i := 6) scTakeC.nd rfl (.inl rfl)) (fun _ _ _ _ _ => pts_nil)
          (fun _ _ _ _ _ => pe_and (pe_cmp (pc_din hu (pv 6) (show PE _ _ (tFld K (tVar 0) "classes") from pe_fld (pv 0) (by rfl))) rfl) (pe_one (pe_cmpR op_eq (show PE _ _ (tBM K "list" (rCntF K) (tVar 4) (tCons (tVar 6) tNil)) from pe_bm PySem.F.plainAttrs_list PySem.F.slot_list_count PySem.F.type_list_count mt_countF (pv 4) (pa_cons (pv 6) pa_nil)) pe_int (nomark _))))) pa_nil)))) (pss_one (ps_ret pe_bl)) pss_nil)
      (pss_cons (ps_set (i := 5) scTakeC.nd rfl (.inl rfl) (pe_rd rM hr (Nat.le_refl _) (by rfl) (pa_cons (pe_op op_cat (pe_lc (own := [("base", 6)]) (g := gName 6) (tt := tYes) rfl scTakeC.nd (pi_list (pv 4)) (blkOk_by (N := nTakeC) (sc := defScope sTakeC) (by decide +kernel)) (fun _ _ _ _ _ => pg_name (i := 6) scTakeC.nd rfl (.inl rfl)) (fun _ _ _ _ _ => pts_nil)
          (fun _ _ _ _ _ => show PE _ _ (tFld K (tDGet (tFld K (tVar 0) "classes") (tVar 6)) "lineage") from pe_fld (pe_dget hu (pe_fld (pv 0) (by rfl)) (pv 6) (fun _ _ => rfl)) (by rfl))) (pe_lst (pa_cons (pv 4) pa_nil))) pa_nil)))
      (pss_cons (ps_if (pt_cmpR op_isN (pv 5) pe_non (nomark _)) (pss_one (ps_ret pe_bl)) pss_nil)
      (pss_cons (ps_fld (pv 0) (pe_rm rC hr hk (by rfl) (pa_cons (pv 3) (pa_cons (pe_op op_cat (pe_lst (pa_cons (pv 3) pa_nil)) (pv 5)) pa_nil))) (by rfl))
      (pss_cons (ps_fld (pv 0) pe_non (by rfl))
      (pss_cons (ps_dput hu (pe_fld (pv 0) (by rfl)) (pv 3) (pe_fld (pv 0) (by rfl)) (by rfl))
      (pss_one (ps_ret pe_bl)))))))))), ?_⟩
    -- head
    refine q_asgX ?_
    refine ⟨_, rfl, n, bs, rfl, gn, gb, hb3, fun t l H1 nt nl e1 ht hl => ?_⟩
    have hlk : (rdF d ow me).lookup ("classes" : Str) = some (.ref d) := rfl
    -- the test
    refine q_when (b := false) (et_is (et_or (et_test (ev_nonR (ev_var rfl))) fun _ => et_or (et_B (ev_din (n := n) (kvs := kvsOf es) (ev_op (ev_var rfl) ev_c (rv_ixT (st_of ht) (atI_nat (j := 0) rfl))) (ev_fld (ev_var rfl) (e1 _ _ hrr) c.cl c.nC hlk) (e1 _ _ hdb.1))) fun _ => et_test (ev_eqI (ev_lenD (kvs := kvsOf es) (ev_fld (ev_var rfl) (e1 _ _ hrr) c.cl c.nC hlk) (e1 _ _ hdb.1)) ev_c)) (by
      rw [val_kvs, ent_none hn, decide_eq_false (by unfold kvsOf; rw [List.length_map]; omega)]
      rfl)) (fun z => nomatch z) fun _ H2 f2 => ?_
    refine q_asgG ?_
    refine ⟨_, rfl, t, _, rfl, st_of (f2 _ _ ht), rfl, _, _, rfl, _, _, rfl, rfl, ?_⟩
    show tSeq _ _ _ [some (.ref r), some (sv (cline n bs)), some (.ref t), some (sv n), some (.ref l), none, none] H2
    have e2 := e1.trans f2
    have hl2 := f2 _ _ hl
    -- the bases
    refine q_when (b := false) (et_is (et_not (et_B (ev_all (bs := List.replicate bs.length true) ?_))) (by rw [all_true]; rfl)) (fun z => nomatch z) fun _ H3 f3 => ?_
    · have z := el_map (K := K) (H := H2) (σ := [some (.ref r), some (sv (cline n bs)), some (.ref t), some (sv n), some (.ref l), none, none]) (a := l) (tl := tVar 4) (te := tAndV (tDIn (tVar 6) (tFld K (tVar 0) "classes")) (tOp rEq (tBM K "list" (rCntF K) (tVar 4) (tCons (tVar 6) tNil)) (tC (.int 1)))) (t := tYes) (j := 6) (vs := [6]) bs sv (fun _ => true) (fun _ => V.bl true) (ev_var rfl) (sq_of hl2) (Nat.le_trans hb3 (by decide)) wipe1 (fun _ _ _ _ => et_yes) (fun b H4 e4 hb _ => by
        obtain ⟨eb, he1, he2, he3⟩ := ent_some (hbs b hb)
        refine Evl.ev_is (ev_andV (a := true) (b := true) (Evl.ev_is (ev_din (n := b) (kvs := kvsOf es) (ev_var rfl) (ev_fld (ev_var rfl) ((e2.trans e4) _ _ hrr) c.cl c.nC hlk) ((e2.trans e4) _ _ hdb.1)) (by rw [val_kvs, he1]; rfl)) fun _ => Evl.ev_is (ev_eqI (b := 1) (ev_cnt (ev_var rfl) (ev_var rfl) (sq_of (e4 _ _ hl2)) rfl (flat_N bs)) ev_c) (by rw [countP_one nd hb]; rfl)) rfl)
      rw [List.filter_eq_self.mpr (fun _ _ => rfl)] at z
      rw [List.map_replicate, ← List.map_const']
      exact z
    -- merged
    refine q_asgX ?_
    have e3 := e2.trans f3
    have hl3 := f3 _ _ hl2
    have hlin : ∀ b ∈ bs, H3 (linOf es b) = some (.lst ((ordOf es b).map sv)) := fun b hb => by
      obtain ⟨eb, he1, he2, he3⟩ := ent_some (hbs b hb)
      have := e3 _ _ (hdb.2 eb he2).2
      unfold linOf ordOf
      rw [he1]
      exact this
    let ns : List Rw := bs.map (fun b => (linOf es b, ordOf es b)) ++ [(l, bs)]
    have hns2 : ns.map (·.2) = rowsB es bs := by
      show (bs.map _ ++ [_]).map _ = _
      rw [List.map_append, List.map_map]
      rfl
    have zl : EvL (tOp rCat (tLc (iList K (tVar 4)) (gName 6) tYes (tFld K (tDGet (tFld K (tVar 0) "classes") (tVar 6)) "lineage") [6]) (tLst (tCons (tVar 4) tNil))) [some (.ref r), some (sv (cline n bs)), some (.ref t), some (sv n), some (.ref l), none, none] H3 (ns.map rf) := by
      have z := el_map (K := K) (H := H3) (σ := [some (.ref r), some (sv (cline n bs)), some (.ref t), some (sv n), some (.ref l), none, none]) (a := l) (tl := tVar 4) (te := tFld K (tDGet (tFld K (tVar 0) "classes") (tVar 6)) "lineage") (t := tYes) (j := 6) (vs := [6]) bs sv (fun _ => true) (fun b => V.ref (linOf es b)) (ev_var rfl) (sq_of hl3) (Nat.le_trans hb3 (by decide)) wipe1 (fun _ _ _ _ => et_yes) (fun b H4 e4 hb _ => by
        obtain ⟨eb, he1, he2, he3⟩ := ent_some (hbs b hb)
        obtain ⟨⟨dx, fd, dd, hcl⟩, _⟩ := hdb.2 eb he2
        have hlo : linOf es b = eb.lin := by
          unfold linOf
          rw [he1]
        rw [hlo]
        exact ev_fld (ev_dget (n := b) (kvs := kvsOf es) (ev_fld (ev_var rfl) ((e3.trans e4) _ _ hrr) c.cl c.nC hlk) (ev_var rfl) ((e3.trans e4) _ _ hdb.1) (by rw [val_kvs, he1]; rfl)) ((e3.trans e4) _ _ hcl) ct.cl ct.nL rfl)
      rw [List.filter_eq_self.mpr (fun _ _ => rfl)] at z
      have ens : ns.map rf = bs.map (fun b => V.ref (linOf es b)) ++ [V.ref l] := by
        show (bs.map _ ++ [_]).map _ = _
        rw [List.map_append, List.map_map]
        rfl
      rw [ens]
      exact el_cat z (el_lst (ea_cons (ev_var rfl) ea_nil) (show 1 ≤ 100000 by decide)) (by
        rw [List.length_map]
        show bs.length + 1 ≤ 100000
        omega)
    refine zl H3 (Ex.refl H3) _ fun pa H4 npa f4 hpa => ?_
    have e4 := e3.trans f4
    have ro : RowsOk H4 ns := fun m hm => by
      rcases List.mem_append.mp hm with hm | hm
      · obtain ⟨b, hb, rfl⟩ := List.mem_map.mp hm
        exact f4 _ _ (hlin b hb)
      · rw [List.mem_singleton] at hm
        subst hm
        exact f4 _ _ hl3
    have tot : total (ns.map (·.2)) ≤ 1000 := by
      rw [hns2]
      unfold rowsB
      rw [total_app]
      have h1 := total_le (as := bs.map (ordOf es)) (m := 8) fun a ha => by
        obtain ⟨b, _, rfl⟩ := List.mem_map.mp ha
        exact ord_len ho8 b
      rw [List.length_map] at h1
      have h2 : total [bs] = bs.length := by simp [total]
      omega
    refine ⟨pa, ns, rfl, sq_of hpa, ro, ?_, tot, ?_⟩
    · show (bs.map _ ++ [_]).length ≤ 1000
      rw [List.length_append, List.length_map]
      show bs.length + 1 ≤ 1000
      omega
    rw [hns2]
    cases hm : merge (rowsB es bs) with
    | none =>
      rw [hm] at q
      intro H5 f5
      refine q_when (b := true) (et_test (ev_isN (o := none) (ev_var rfl))) (fun _ H6 f6 => ?_) (fun z => nomatch z)
      exact s_ret ev_c fun H7 f7 => q H7 (((e4.trans f5).trans f6).trans f7)
    | some m =>
      rw [hm] at q
      intro p H5 np f5 hp
      refine q_when (b := false) (et_test (ev_nonR (ev_var rfl))) (fun z => nomatch z) fun _ H6 f6 => ?_
      have e6 := (e4.trans f5).trans f6
      have hp6 := f6 _ _ hp
      show tSeq _ _ _ [some (.ref r), some (sv (cline n bs)), some (.ref t), some (sv n), some (.ref l), some (.ref p), none] H6
      have hrr6 := e6 _ _ hrr
      have hd6 := e6 _ _ hdb.1
      have hz : ([sv n] : List V).length + (m.map sv).length ≤ 100000 := by
        have F := fine (rs := rowsB es bs) (m := m)
        have hl := merge_len hm
        have h2 : total (rowsB es bs) ≤ 1000 := by rw [← hns2]; exact tot
        rw [List.length_map]
        show 1 + m.length ≤ 100000
        omega
      refine ⟨_, rfl, ?_⟩
      refine el_catR (xs := [sv n]) (ys := m.map sv) (el_lst (ea_cons (ev_var rfl) ea_nil) (show 1 ≤ 100000 by decide)) (ev_var rfl) hp6 hz H6 (Ex.refl H6) _ fun pl H7 npl f7 hpl => ?_
      intro x dx nx ndx ne
      refine ⟨x, dx, n, pl, rfl, upd_same, fun H8 fd8 dd8 ex8 hx8 => ⟨rfl, _, rfl, ?_⟩⟩
      have e7 := e6.trans f7
      have e78 : Ex H7 H8 := fun b o hb => by
        have b1 : b ≠ x := ne_of_none hb nx
        have b2 : b ≠ dx := ne_of_none hb ndx
        exact ex8 b o (by rw [upd_ne b1, upd_ne b2]; exact hb) b1
      have e8 := e7.trans e78
      have hrr8 := e8 _ _ hrr
      have hd8 := e8 _ _ hdb.1
      have hpl8 := e78 _ _ hpl
      have xr : x ≠ r := fun z => by
        rw [z, e7 _ _ hrr] at nx
        cases nx
      have xd : x ≠ d := fun z => by
        rw [z, e7 _ _ hdb.1] at nx
        cases nx
      have plr : pl ≠ r := fun z => by
        rw [z, hrr6] at npl
        cases npl
      have pld : pl ≠ d := fun z => by
        rw [z, hd6] at npl
        cases npl
      have dr' : d ≠ r := fun z => by
        have h1 := hdb.1
        rw [z, hrr] at h1
        cases h1
      refine ⟨r, CR, dr, rdF d ow me, rfl, hrr8, c.cl, c.nO, (show 3 < 1000 by decide), ?_⟩
      refine q_fldV ev_c (ev_var rfl) upd_same c.cl c.nM (show 3 < 1000 by decide) fun H9 f9 => ?_
      have hr10 : (upd H9 r (.ins CR dr (putF "_method" V.non (putF "_owner" (V.ref x) (rdF d ow me))))) r = some (.ins CR dr (rdF d (.ref x) .non)) := upd_same
      have ext10 : Hc.Ext (fun b => b = r ∨ b = d) H8 (upd H9 r (.ins CR dr (putF "_method" V.non (putF "_owner" (V.ref x) (rdF d ow me))))) := (Ext.put (.inl rfl)).trans (stepE f9 (.inl rfl))
      have hd10 : (upd H9 r (.ins CR dr (putF "_method" V.non (putF "_owner" (V.ref x) (rdF d ow me))))) d = some (.dK (kvsOf es)) := by
        rw [upd_ne dr']
        refine f9 _ _ ?_
        rw [upd_ne dr']
        exact hd8
      generalize upd H9 r (.ins CR dr (putF "_method" V.non (putF "_owner" (V.ref x) (rdF d ow me)))) = H10 at hr10 ext10 hd10 ⊢
      refine q_dput (n := n) (kvs := kvsOf es) (v := .ref x) (ev_fld (fs := rdF d (.ref x) .non) (ev_var rfl) hr10 c.cl c.nO rfl) (ev_fld (fs := rdF d (.ref x) .non) (ev_var rfl) hr10 c.cl c.nC rfl) (ev_var rfl) hd10 (by unfold kvsOf; rw [List.length_map]; omega) fun H12 f12 => ?_
      rw [putK_new (v := V.ref x) (by rw [val_kvs, ent_none hn]; rfl)]
      refine s_ret ev_c fun H13 f13 => ?_
      have ext13 : Hc.Ext (fun b => b = r ∨ b = d) H8 H13 := ((ext10.trans (ext_ex f12)).trans (Ext.put (.inr rfl))).trans (ext_ex f13)
      refine q H13 ⟨n, x, pl, n :: m⟩ rfl rfl ((ext_ex e8).trans ext13) ?_ ⟨?_, fun e he => ?_⟩
      · refine f13 _ _ ?_
        rw [upd_ne (Ne.symm dr')]
        exact f12 _ _ hr10
      · refine f13 _ _ ?_
        rw [upd_same]
        unfold kvsOf
        rw [List.map_append]
        rfl
      · rcases List.mem_append.mp he with he | he
        · obtain ⟨⟨dx', fd', dd', h1⟩, h2⟩ := hdb.2 e he
          have far : ∀ b, b = r ∨ b = d → H b ≠ some (.lst (e.ord.map sv)) ∧ H b ≠ some (.ins CT dx' (ctF e.nm e.lin fd' dd')) := fun b hb => by
            rcases hb with hb | hb
            · rw [hb, hrr]
              refine ⟨fun z => (by cases z), fun z => ?_⟩
              injection z with z
              injection z with _ _ z
              injection z with z _
              injection z with z _
              exact absurd z (by decide)
            · rw [hb, hdb.1]
              exact ⟨fun z => (by cases z), fun z => (by cases z)⟩
          exact ⟨⟨dx', fd', dd', ext13 _ _ (e8 _ _ h1) fun hb => (far _ hb).2 h1⟩, ext13 _ _ (e8 _ _ h2) fun hb => (far _ hb).1 h2⟩
        · rw [List.mem_singleton] at he
          subst he
          exact ⟨⟨dx, fd8, dd8, ext13 _ _ hx8 fun hb => hb.elim xr xd⟩, ext13 _ _ hpl8 fun hb => hb.elim plr pld⟩
end
end Hy
set_option maxHeartbeats 4000000
/-! BadLine, NoClass: made, raised; C(e) that may raise. -/
namespace Hy
open PySem PySem.Spec PyProof.Rows L2 Evl Hc Hs
/-! ### C(e) that may raise -/
def tMakeS (C : Addr) (sp : Sp) (E : L2.St → XK) (t : TA) : TE := fun σ H Q => t σ H fun vs H1 => ∀ x dx, H1 x = none → H1 dx = none → dx ≠ x →
  sp (.ref x :: vs) (upd (upd H1 dx (.own x)) x (.ins C dx [])) (fun v H2 => v = .non ∧ Q (.ref x) H2) (E σ)
theorem pe_makeS {X : Cx} {CX : CXT} {C f : Addr} {k : Nat} {fd : FuncData} {ps : List Str} {sp : Sp} {E : L2.St → XK} {x : Str} {e : Expr} {es : List Expr} {t : TA} {p pos : Pos} (M : Mk X.K C f) (F : FnOk X.prog X.w X.K X.mg X.base CX k f fd ps sp) (hr : Room (k + 1) X.A) (hg : Gl X x) (hm : X.mg x = some (.ref C)) (hb : Binds X.K fd ps [])
    (hx : ∀ σ, PassesAt CX X σ (E σ)) (ha : PA X (e :: es) t) (hdb : (x == ("__debug__" : Str)) = false := by decide) (he : starEach (e :: es) X.env = (false, eval e X.env) :: starEach es X.env := by rfl) (hpl : (backTo pos (starEach es X.env)).any (·.1) = false := by rfl) :
    PE X (.Call (.Name x p) (e :: es) [] pos) (tMakeS C sp E t) := by
  refine ⟨fun pins s σ H Q I h => ?_⟩
  refine wpAny_Call_Name_kw (ld_glob I hg hm ?_ hdb)
  refine PySem.W.callWith_K (h₀ := X.base) I.ok.mod.kin M.kp (thn (ha.run pos pins s σ H _ I h) fun us s1 ⟨vs, H1, I1, r, q⟩ => ⟨I1.kIn, ?_⟩) he hpl
  have hq := q (s1.heap.objs.size + 1) s1.heap.objs.size (I1.hok.fresh (Nat.le_succ _)) (I1.hok.fresh (Nat.le_refl _)) (Nat.ne_of_lt (Nat.lt_succ_self _))
  have I2 := Inv.made (C := C) I1
  have r2 : Vals (V.ref (s1.heap.objs.size + 1) :: vs) (Value.ref (s1.heap.objs.size + 1) :: us) := .cons rfl r
  have hl : (Value.ref (s1.heap.objs.size + 1) :: us).length = ps.length := by
    have z := r2.length
    rw [F.len _ _ _ _ hq] at z
    exact z.symm
  have hb2 := hb _ (Value.ref (s1.heap.objs.size + 1) :: us) I2.kIn (by rw [List.append_nil]; exact hl)
  rw [List.append_nil] at hb2
  refine wpAny_call (make_map (f := f) I1.kIn M.makes M.init (beq_iff_eq.mp M.fn) (codeAny_mono (F.run _ X.stack _ _ ⟨Value.ref (s1.heap.objs.size + 1) :: us, []⟩ (Value.ref (s1.heap.objs.size + 1) :: us) _ _ (E σ) (hr.make C us [])
    (I2.env0.make C us []) hb2 r2 hq) fun r s' hq' => ?_))
  cases r with
  | error e => exact hx σ pins _ _ e s' I2 hq'
  | ok fl =>
    cases fl with
    | ret u =>
      obtain ⟨v, H', I3, rv, ev, q3⟩ := I2.after hq'
      subst ev
      exact ⟨rv, ⟨V.ref (s1.heap.objs.size + 1), H', I3, rfl, q3⟩⟩
    | next => exact False.elim hq'
    | brk => exact False.elim hq'
    | cont => exact False.elim hq'
/-! ### an exception class with one field -/
structure XcC (K : PySem.W.Frag) (mg : Str → Option Value) (x : Str) (B : Addr) (f : Str) (fI : Addr) : Prop where
  gB : mg x = some (.ref B)
  ox : OexC K B
  iC : PySem.W.findIn K (.ref B) "__init__" = some (some (.ref fI))
  tI : PySem.W.typeIn K (.ref fI) = some (.type "function")
  xf : XfC K B
  noF : PySem.W.findIn K (.ref B) f = some none
  exm : PySem.W.exmOne K (.ref B) (.ref B) = some true
def spXI (B : Addr) (f : Str) : Sp := fun vs H Q _ => ∃ (a : Addr) (y : V), vs = [.ref a, y] ∧ H a = some (exo a B none) ∧ ∀ dx, H dx = none → dx ≠ a → Q .non (upd (upd H dx (exd dx [(f, y)])) a (exo a B (some dx)))
abbrev sBLI : Stmt := inClass cBadLine 0
abbrev sNCI : Stmt := inClass cNoClass 0
theorem scBLI : FnScope ["self", "at"] ["self", "at"] (defScope sBLI) := ⟨rfl, rfl, rfl, by decide +kernel, rfl, by decide +kernel, by decide +kernel⟩
theorem scNCI : FnScope ["self", "name"] ["self", "name"] (defScope sNCI) := ⟨rfl, rfl, rfl, by decide +kernel, rfl, by decide +kernel, by decide +kernel⟩
/-- what a raise of such a class leaves -/
def Raised (B : Addr) (f : Str) (y : V) (H : Hp) (E : XK) : Prop := ∀ d H', Ex H H' → H d = none → H' d = some (.xd [(f, y)]) → E (.ref B) (some d) H'
theorem Raised.mono {B : Addr} {f : Str} {y : V} {H H1 : Hp} {E : XK} (h : Raised B f y H E) (e : Ex H H1) : Raised B f y H1 E := fun d H' e2 hd => h d H' (e.trans e2) (fresh_back e hd)
section
variable {P : Program} {w : World} {K : PySem.W.Frag} {mg : Str → Option Value} {base : Heap} {B fB f : Addr} {fd : FuncData} {k : Nat}
theorem ok_bli (F : Fun K "__init__" "BadLine.__init__" sBLI f fd) (N : XcC K mg "BadLine" B "at" fB) : FnOk P w K mg base CX0 (k + 1) f fd ["self", "at"] (spXI B "at") := by
  refine F.ok scBLI (fun vs H Q E h => ?_) (fun cdv A outer s H vs Q E hr h => ?_)
  · obtain ⟨a, y, rfl, _⟩ := h
    rfl
  · obtain ⟨a, y, rfl, ha, q⟩ := h
    refine ⟨_, pss_one (ps_ost (pv 0) (pv 1)), ?_⟩
    exact ⟨_, rfl, _, rfl, a, B, rfl, N.ox, N.noF, .inl ⟨ha, fun dx n ne => q dx n ne⟩⟩
theorem ok_nci (F : Fun K "__init__" "NoClass.__init__" sNCI f fd) (N : XcC K mg "NoClass" B "name" fB) : FnOk P w K mg base CX0 (k + 1) f fd ["self", "name"] (spXI B "name") := by
  refine F.ok scNCI (fun vs H Q E h => ?_) (fun cdv A outer s H vs Q E hr h => ?_)
  · obtain ⟨a, y, rfl, _⟩ := h
    rfl
  · obtain ⟨a, y, rfl, ha, q⟩ := h
    refine ⟨_, pss_one (ps_ost (pv 0) (pv 1)), ?_⟩
    exact ⟨_, rfl, _, rfl, a, B, rfl, N.ox, N.noF, .inl ⟨ha, fun dx n ne => q dx n ne⟩⟩
/-- what raising makes of the heap -/
theorem raised_end {H1 : Hp} {B : Addr} {f : Str} {y : V} {E : XK} (h : Raised B f y H1 E) {a dx : Addr} (na : H1 a = none) (nd : (upd H1 a (exo a B none)) dx = none) (ne : dx ≠ a) : E (.ref B) (some dx) (upd (del (upd (upd (upd H1 a (exo a B none)) dx (exd dx [(f, y)])) a (exo a B (some dx))) a) dx (.xd [(f, y)])) := by
  have nd1 : H1 dx = none := (upd_ne ne).symm.trans nd
  refine h dx _ (fun b o hb => ?_) nd1 upd_same
  have b1 : b ≠ dx := ne_of_none hb nd1
  have b2 : b ≠ a := ne_of_none hb na
  rw [upd_ne b1, del_ne b2, upd_ne b2, upd_ne b1, upd_ne b2]
  exact hb
end
end Hy
set_option maxHeartbeats 4000000
/-! Library(text) for class lines: read, or refused. -/
namespace Hy
open PySem PySem.Spec PyProof.Rows L2 Evl Hc Hs
/-! ### reading, abstractly -/
abbrev Ab := List (Nm × List Nm)
abbrev Ln := Nm × List Nm
def prE (e : Ent) : Nm × List Nm := (e.nm, e.ord)
def ordA (ab : Ab) (b : Nm) : List Nm := match ab.find? fun e => decide (e.1 = b) with
  | some e => e.2
  | none => []
def rowsA (ab : Ab) (bs : List Nm) : Rows Nm := bs.map (ordA ab) ++ [bs]
structure Fit (ab : Ab) (n : Nm) (bs : List Nm) : Prop where
  gn : GoodNm n
  gb : ∀ b ∈ bs, GoodNm b
  nd : bs.Nodup
  le3 : bs.length ≤ 3
  new : n ∉ ab.map (·.1)
  old : ∀ b ∈ bs, b ∈ ab.map (·.1)
  lt8 : ab.length < 8
  ol : ∀ e ∈ ab, e.2.length ≤ 8
def abStep (ab : Ab) (p : Ln) : Ab := match merge (rowsA ab p.2) with
  | some m => ab ++ [(p.1, p.1 :: m)]
  | none => ab
def abOf (ls : List Ln) : Ab := ls.foldl abStep []
theorem abOf_snoc (ls : List Ln) (p : Ln) : abOf (ls ++ [p]) = abStep (abOf ls) p := by
  unfold abOf
  rw [List.foldl_append]
  rfl
/-- lines that are right, one behind the other -/
def Fits (ls : List Ln) : Prop := ∀ i p, ls[i]? = some p → Fit (abOf (ls.take i)) p.1 p.2 ∧ ∃ m, merge (rowsA (abOf (ls.take i)) p.2) = some m
def cl (p : Ln) : List Nat := cline p.1 p.2
theorem ord_pr (es : List Ent) (b : Nm) : ordOf es b = ordA (es.map prE) b := by
  unfold ordOf ordA entOf
  rw [List.find?_map]
  show _ = (match Option.map prE (es.find? fun e => decide (e.nm = b)) with | some e => e.2 | none => [])
  cases es.find? fun e => decide (e.nm = b) <;> rfl
theorem rows_pr (es : List Ent) (bs : List Nm) : rowsB es bs = rowsA (es.map prE) bs := by
  unfold rowsB rowsA
  congr 1
  exact List.map_congr_left fun b _ => ord_pr es b
theorem nm_pr (es : List Ent) : es.map (·.nm) = (es.map prE).map (·.1) := by
  rw [List.map_map]
  rfl
/-- a class line handed to the reader -/
theorem take_fit {CR CT r d dr : Addr} {n : Nm} {bs : List Nm} {es : List Ent} {ow me : V} {H : Hp} {Q : VK} {E : XK} (F : Fit (es.map prE) n bs) (hr : H r = some (.ins CR dr (rdF d ow me))) (hd : DbOk H CT d es)
    (q : match merge (rowsA (es.map prE) bs) with
      | none => ∀ H', Ex H H' → Q (.bl false) H'
      | some m => ∀ H' (e : Ent), prE e = (n, n :: m) → Hc.Ext (fun b => b = r ∨ b = d) H H' → H' r = some (.ins CR dr (rdF d (.ref e.cls) .non)) → DbOk H' CT d (es ++ [e]) → Q (.bl true) H') : spTake CR CT [.ref r, sv (cline n bs)] H Q E := by
  refine ⟨r, d, dr, n, bs, es, ow, me, rfl, F.gn, F.gb, F.nd, F.le3, by rw [nm_pr]; exact F.new, fun b hb => by rw [nm_pr]; exact F.old b hb, by have := F.lt8; rwa [List.length_map] at this, fun e he => F.ol (prE e) (List.mem_map.mpr ⟨e, he, rfl⟩), hr, hd, ?_⟩
  rw [rows_pr]
  cases hm : merge (rowsA (es.map prE) bs) with
  | none =>
    rw [hm] at q
    exact q
  | some m =>
    rw [hm] at q
    exact fun H' e h1 h2 => q H' e (by unfold prE; rw [h1, h2])
theorem fits_next {ls : List Ln} (F : Fits ls) {i : Nat} {p : Ln} (h : ls[i]? = some p) : ∃ m, merge (rowsA (abOf (ls.take i)) p.2) = some m ∧ abOf (ls.take (i + 1)) = abOf (ls.take i) ++ [(p.1, p.1 :: m)] := by
  obtain ⟨_, m, hm⟩ := F i p h
  refine ⟨m, hm, ?_⟩
  have e : ls.take (i + 1) = ls.take i ++ [p] := by
    rw [List.take_add_one, h]
    rfl
  rw [e, abOf_snoc]
  unfold abStep
  rw [hm]
/-! ### the object -/
def lbF (T : List Nat) (tp d : Addr) : List (Str × V) := [("text", sv T), ("names", .ref tp), ("_classes", .ref d)]
structure LbC (K : PySem.W.Frag) (C : Addr) : Prop where
  cl : Cls K C
  nT : NoAttr K C "text"
  nN : NoAttr K C "names"
  nC : NoAttr K C "_classes"
def LibAt (CL CT x : Addr) (ab : Ab) (H : Hp) : Prop := ∃ dx T tp d es, H x = some (.ins CL dx (lbF T tp d)) ∧ DbOk H CT d es ∧ es.map prE = ab
theorem LibAt.ex {CL CT x : Addr} {ab : Ab} {H H' : Hp} (h : LibAt CL CT x ab H) (e : Ex H H') : LibAt CL CT x ab H' := by
  obtain ⟨dx, T, tp, d, es, h1, h2, h3⟩ := h
  exact ⟨dx, T, tp, d, es, e _ _ h1, h2.ex e, h3⟩
def LinesOk (ls : List (List Nat)) : Prop := TL.joinL [10] ls ≠ [] ∧ ls ≠ [] ∧ (∀ l ∈ ls, 10 ∉ l) ∧ (TL.joinL [10] ls).length ≤ cap
def spLibG (CL CT : Addr) : Sp := fun vs H Q _ => ∃ (x dx : Addr) (ls : List Ln), vs = [.ref x, sv (TL.joinL [10] (ls.map cl))] ∧ H x = some (.ins CL dx []) ∧ Fits ls ∧ LinesOk (ls.map cl) ∧ ∀ H', Hc.Ext (fun b => b = x) H H' → LibAt CL CT x (abOf ls) H' → Q .non H'
def spLibB (B : Addr) : Sp := fun vs H _ E => ∃ (x : Addr) (ls : List Ln) (n : Nm) (bs : List Nm) (tl : List (List Nat)), vs = [.ref x, sv (TL.joinL [10] (ls.map cl ++ cline n bs :: tl))] ∧ Fits ls ∧ Fit (abOf ls) n bs ∧ merge (rowsA (abOf ls) bs) = none ∧ LinesOk (ls.map cl ++ cline n bs :: tl) ∧ Raised B "at" (.int (ls.length : Int)) H E
abbrev sLibInit : Stmt := inClass cLib 0
abbrev nLibI : List Str := ["self", "text", "reader", "at", "line"]
theorem scLibI : FnScope nLibI ["self", "text"] (defScope sLibInit) := ⟨rfl, rfl, rfl, by decide +kernel, rfl, by decide +kernel, by decide +kernel⟩
theorem boot_strT : bootBuiltins "str" = some (.type "str") := by decide +kernel
theorem ev_isi {K : PySem.W.Frag} {σ : L2.St} {H : Hp} {te tc : TE} {x c : V} {t u : Value} {b : Bool} (h : Ev te σ H x) (hc : Ev tc σ H c) (kc : ClsV c u) (ty : ∀ H1, Ex H H1 → TyX K H1 x t) (hk : PySem.W.kitOne K t u = some b) : Ev (tCB (rIsi K) (tCons te (tCons tc tNil))) σ H (.bl b) :=
  ev_cb (ea_cons h (ea_cons hc ea_nil)) fun H1 e Q q => ⟨x, c, t, u, b, rfl, kc, ty H1 e, hk, q H1 (Ex.refl H1)⟩
theorem DbOk.put {H : Hp} {C d x CL dx : Addr} {es : List Ent} {fs : List (Str × V)} {u : HO} (h : DbOk H C d es) (hx : H x = some (.ins CL dx fs)) (hn : fs.length < 4) : DbOk (upd H x u) C d es := by
  refine ⟨?_, fun e he => ?_⟩
  · rw [upd_ne (fun z => ?_)]
    · exact h.1
    · have h1 := h.1
      rw [z, hx] at h1
      cases h1
  · obtain ⟨⟨dx', fd, dd, h1⟩, h2⟩ := h.2 e he
    refine ⟨⟨dx', fd, dd, ?_⟩, ?_⟩
    · rw [upd_ne (fun z => ?_)]
      · exact h1
      · rw [z, hx] at h1
        injection h1 with h1
        injection h1 with _ _ h1
        rw [h1] at hn
        exact absurd hn (show ¬ 4 < 4 by decide)
    · rw [upd_ne (fun z => ?_)]
      · exact h2
      · rw [z, hx] at h2
        cases h2
def rTupOf (K : PySem.W.Frag) : List V → Hp → VK → Prop := fun xs H Q => ∃ p ys, xs = [.ref p] ∧ ((SqL K H p ys ∧ ∀ l, H l = none → Q (.ref l) (upd H l (.tup ys))) ∨ (SqT K H p ys ∧ Q (.ref p) H))
theorem eu_tupOf {K : PySem.W.Frag} {σ : L2.St} {H : Hp} {tl : TE} {xs : List V} (h : EvL tl σ H xs) : EvU (tCB (rTupOf K) (tCons tl tNil)) σ H xs := fun H1 e Q q => h H1 e _ fun p H2 np e2 hp => ⟨p, xs, rfl, .inl ⟨sq_of hp, fun l nl => q l _ (fresh_back e2 nl) (e2.trans (Ex.new nl)) upd_same⟩⟩
theorem el_listD {σ : L2.St} {H : Hp} {te : TE} {d : Addr} {kvs : List (Key × V)} (h : Ev te σ H (.ref d)) (hd : H d = some (.dK kvs)) : EvL (tCB rListD (tCons te tNil)) σ H (kvs.map fun kv => kV kv.1) := fun H1 e Q q => h H1 e _ fun H2 e2 => ⟨d, kvs, rfl, (e.trans e2) _ _ hd, fun l nl => q l _ (fresh_back e2 nl) (e2.trans (Ex.new nl)) upd_same⟩
theorem q_fldU {K : PySem.W.Frag} {σ : L2.St} {H : Hp} {tv : TE} {xs : List V} {D : Ends} {tz : TS} {ta : TE} {f : Str} {C a dx : Addr} {fs : List (Str × V)} (hv : EvU tv σ H xs) (ho : ∀ H1, Ex H H1 → Ev ta σ H1 (.ref a)) (ha : H a = some (.ins C dx fs)) (c : Cls K C) (n : NoAttr K C f) (hl : fs.length < 1000)
    (k : ∀ p H1, H p = none → Ex H H1 → H1 p = some (.tup xs) → tz D σ (upd H1 a (.ins C dx (putF f (.ref p) fs)))) : tSeq (sFld K ta tv f) tz D σ H :=
  hv H (Ex.refl H) _ fun p H1 np e1 hp => ho H1 e1 H1 (Ex.refl H1) _ fun H2 e2 => ⟨a, C, dx, fs, rfl, e2 _ _ (e1 _ _ ha), c, n, hl, k p H2 np (e1.trans e2) (e2 _ _ hp)⟩
/-- if not o.m(x): .. -/
theorem if_notM {C a dx : Addr} {fs : List (Str × V)} {m : Str} {sp : Sp} {σ : L2.St} {H : Hp} {D : Ends} {tu tw : TS} {i j : Nat} {v : V} (hi : σ[i]? = some (some (.ref a))) (ha : H a = some (.ins C dx fs)) (hl : fs.lookup m = none) (hj : σ[j]? = some (some v))
    (h : sp [.ref a, v] H (fun z H1 => ∃ b, z = .bl b ∧ (if (!b) = true then tu D σ H1 else tw D σ H1)) E0) : tIfS (tNot (tB (tMeth C m sp [] E0 (tVar i) (tCons (tVar j) tNil)))) tu tw D σ H := ⟨_, hi, a, dx, fs, rfl, ha, hl, _, hj, h⟩
/-- between the turns -/
def LW (H : Hp) (CR CT x r d dr : Addr) (T : List Nat) (ls : List Ln) (i : Nat) (σ : L2.St) (H' : Hp) : Prop := ∃ (es : List Ent) (ow : V) (v3 v4 : Option V), σ = [some (.ref x), some (sv T), some (.ref r), v3, v4] ∧ Ex H H' ∧ H r = none ∧ H d = none ∧ H' r = some (.ins CR dr (rdF d ow .non)) ∧ DbOk H' CT d es ∧ es.map prE = abOf (ls.take i)
section
variable {P : Program} {w : World} {K : PySem.W.Frag} {mg : Str → Option Value} {base : Heap} {CL CR CT B fB f : Addr} {fd fdB : FuncData}
theorem reader_new {H H1 : Hp} {r dr : Addr} (nr : H r = none) (nd : H dr = none) (ne : dr ≠ r) (e : Hc.Ext (fun b => b = r) (upd (upd H dr (.own r)) r (.ins CR dr [])) H1) : Ex H H1 := fun b o hb => by
  have b1 : b ≠ r := ne_of_none hb nr
  have b2 : b ≠ dr := ne_of_none hb nd
  exact e b o (by rw [upd_ne b1, upd_ne b2]; exact hb) b1
theorem ok_libG {k : Nat} (F : Fun K "__init__" "Library.__init__" sLibInit f fd) (T : LibP mg) (c : LbC K CL) (rc : RdC K CR) (rL : Rd P w K mg base "lines_of" 1 ["text"] spLines) (rR : Rm P w K mg base "Reader" CR 1 ["self"] (spRd CR)) (rT : Rt P w K mg base CR "take" k ["self", "line"] (spTake CR CT)) (hk : 2 ≤ k) :
    FnOk P w K mg base CX0 (k + 1) f fd ["self", "text"] (spLibG CL CT) := by
  refine F.ok scLibI (fun vs H Q E h => ?_) (fun cdv A outer s H vs Q E hr h => ?_)
  · obtain ⟨x, dx, ls, rfl, _⟩ := h
    rfl
  · obtain ⟨x, dx, ls, rfl, hx, F, ⟨l1, l2, l3, l4⟩, q⟩ := h
    refine ⟨_, pss_cons (ps_if (pt_not (pt_val (pe_callB call_isi (by rfl) T.isi boot_isinstance (pa_cons (pv 1) (pa_cons (pe_bltn (v := .ty "str") (by rfl) T.str boot_strT rfl) pa_nil))))) (pss_one ps_never) pss_nil)
      (pss_cons (ps_set (i := 2) scLibI.nd rfl (.inl rfl) (pe_rm0 rR hr hk (by rfl)))
      (pss_cons (ps_for PassesOwn.never rfl (pi_enum (by rfl) T.enu (pa_cons (pe_rd rL hr (Nat.le_trans (by decide) hk) (by rfl) (pa_cons (pv 1) pa_nil)) pa_nil)) (pg_tup (by rfl) (pgs_cons (pg_name (i := 3) scLibI.nd rfl (.inl rfl)) (pgs_cons (pg_name (i := 4) scLibI.nd rfl (.inl rfl)) pgs_nil)))
        (pss_one (ps_if (pt_not (pt_val (pe_rt (pv 2) rc.cl rT hr (Nat.le_refl _) (pa_cons (pv 4) pa_nil)))) (pss_one ps_never) pss_nil)))
      (pss_cons (ps_fld (pv 0) (pv 1) (by rfl))
      (pss_cons (ps_fld (pv 0) (pe_callTy call_tuple_of (by rfl) T.tup boot_tuple (pa_cons (pe_callTy (call_list_dK rfl) (by rfl) T.lst boot_list' (pa_cons (pe_fld (pv 2) (by rfl)) pa_nil)) pa_nil)) (by rfl))
      (pss_one (ps_fld (pv 0) (pe_fld (pv 2) (by rfl)) (by rfl))))))), ?_⟩
    refine q_when (b := false) (et_is (et_not (et_B (ev_isi (ev_var rfl) ev_c (.ty "str") (fun _ _ => .base (.str _)) (kit_ty rfl)))) rfl) (fun z => nomatch z) fun _ H1 e1 => ?_
    refine q_asgX ?_
    intro r dr nr ndr ne
    refine ⟨r, dr, rfl, upd_same, fun H2 d nd ex hr2 hd2 => ⟨rfl, ?_⟩⟩
    have e2 : Ex H1 H2 := reader_new nr ndr ne ex
    have d_r : d ≠ r := fun z => by
      rw [z, upd_same] at nd
      cases nd
    have d_dr : d ≠ dr := fun z => by
      rw [z, upd_ne ne, upd_same] at nd
      cases nd
    rw [upd_ne d_r, upd_ne d_dr] at nd
    have nrH := fresh_back e1 nr
    have ndH := fresh_back e1 nd
    have e12 := e1.trans e2
    show tSeq _ _ _ [some (.ref x), some (sv (TL.joinL [10] (ls.map cl))), some (.ref r), none, none] H2
    refine ⟨_, rfl, ls.map cl, rfl, l1, l2, l3, l4, fun pa H3 npa e3 hpa => ⟨pa, _, rfl, sq_of hpa, ?_⟩⟩
    have pr : pa ≠ r := fun z => by
      rw [z, hr2] at npa
      cases npa
    have pd : pa ≠ d := fun z => by
      rw [z, hd2] at npa
      cases npa
    refine for_it (walk_enum (xs := (ls.map cl).map sv)) (fun i σ' H' => LW H CR CT x r d dr (TL.joinL [10] (ls.map cl)) ls i σ' H' ∧ H' pa = some (.lst ((ls.map cl).map sv))) ⟨⟨[], .non, none, none, rfl, e12.trans e3, nrH, ndH, e3 _ _ hr2, ⟨e3 _ _ hd2, fun e he => (by cases he)⟩, rfl⟩, hpa⟩ (fun i σ' H' _ z => sq_of z.2) (fun i v σ' H' H'' hi z y => ?_) (fun σ' H' z => ?_)
    · obtain ⟨⟨es, ow, v3, v4, rfl, ez, _, _, hrz, hdz, hes⟩, hpz⟩ := z
      obtain ⟨Ta, y1, y2, rfl, nT, rfl, hy1, hy2⟩ := y
      have eT : Ex H' (upd H' Ta (.tup [y1, y2])) := Ex.new nT
      have hy2' : (ls.map (sv ∘ cl))[i]? = some y2 := by
        rw [← List.map_map]
        exact hy2
      rw [List.getElem?_map] at hy2'
      obtain ⟨p, hp, rfl⟩ := Option.map_eq_some_iff.mp hy2'
      cases hy1
      obtain ⟨m, hm, hab⟩ := fits_next F hp
      refine ⟨Ta, _, rfl, st_of upd_same, rfl, _, _, rfl, _, _, rfl, rfl, ?_⟩
      refine if_notM (i := 2) (j := 4) (v := sv (cline p.1 p.2)) rfl (eT _ _ hrz) rfl rfl ?_
      refine take_fit (es := es) (n := p.1) (bs := p.2) (by rw [hes]; exact (F i p hp).1) (eT _ _ hrz) (hdz.ex eT) ?_
      rw [hes, hm]
      refine fun H5 e he ext hr5 hd5 => ⟨true, rfl, iteF ?_⟩
      have e5 : Ex H H5 := fun b o hb => by
        have h1 := eT _ _ (ez _ _ hb)
        refine ext b o h1 fun hz => ?_
        rcases hz with hz | hz
        · rw [hz, nrH] at hb
          cases hb
        · rw [hz, ndH] at hb
          cases hb
      refine ⟨⟨es ++ [e], .ref e.cls, _, _, rfl, e5, nrH, ndH, hr5, hd5, ?_⟩, ext _ _ (eT _ _ hpz) fun hz => hz.elim pr pd⟩
      rw [hab, List.map_append, hes, List.map_singleton, he]
    · obtain ⟨⟨es, ow, v3, v4, rfl, ez, _, _, hrz, hdz, hes⟩, _⟩ := z
      have hes2 : es.map prE = abOf ls := by
        rw [hes, List.length_map, List.length_map, List.take_length]
      have rx : r ≠ x := fun z => by
        rw [z, hx] at nrH
        cases nrH
      have dx' : d ≠ x := fun z => by
        rw [z, hx] at ndH
        cases ndH
      refine q_fldV (ev_var rfl) (ev_var rfl) (ez _ _ hx) c.cl c.nT (show 0 < 1000 by decide) fun H4 e4 => ?_
      have hx4 := e4 _ _ (ez _ _ hx)
      have hr4 : (upd H4 x (.ins CL dx (putF "text" (sv (TL.joinL [10] (ls.map cl))) []))) r = some (.ins CR dr (rdF d ow .non)) := by
        rw [upd_ne rx]
        exact e4 _ _ hrz
      have hd4 := (hdz.ex e4).put (u := .ins CL dx (putF "text" (sv (TL.joinL [10] (ls.map cl))) [])) hx4 (show 0 < 4 by decide)
      have o4 : Hc.Ext (fun b => b = x) H (upd H4 x (.ins CL dx (putF "text" (sv (TL.joinL [10] (ls.map cl))) []))) := stepE (ez.trans e4) rfl
      have hx4' : (upd H4 x (.ins CL dx (putF "text" (sv (TL.joinL [10] (ls.map cl))) []))) x = some (.ins CL dx [("text", sv (TL.joinL [10] (ls.map cl)))]) := upd_same
      generalize upd H4 x (.ins CL dx (putF "text" (sv (TL.joinL [10] (ls.map cl))) [])) = K4 at hr4 hd4 o4 hx4' ⊢
      have hlk : (rdF d ow .non).lookup ("classes" : Str) = some (.ref d) := rfl
      refine q_fldU (eu_tupOf (el_listD (ev_fld (ev_var rfl) hr4 rc.cl rc.nC hlk) hd4.1)) (fun _ _ => ev_var rfl) hx4' c.cl c.nN (show 1 < 1000 by decide) fun tp H5 _ e5 _ => ?_
      have hr5 : (upd H5 x (.ins CL dx (putF "names" (.ref tp) [("text", sv (TL.joinL [10] (ls.map cl)))]))) r = some (.ins CR dr (rdF d ow .non)) := by
        rw [upd_ne rx]
        exact e5 _ _ hr4
      have hd5 := (hd4.ex e5).put (u := .ins CL dx (putF "names" (.ref tp) [("text", sv (TL.joinL [10] (ls.map cl)))])) (e5 _ _ hx4') (show 1 < 4 by decide)
      have o5 : Hc.Ext (fun b => b = x) H (upd H5 x (.ins CL dx (putF "names" (.ref tp) [("text", sv (TL.joinL [10] (ls.map cl)))]))) := o4.trans (stepE e5 rfl)
      have hx5' : (upd H5 x (.ins CL dx (putF "names" (.ref tp) [("text", sv (TL.joinL [10] (ls.map cl)))]))) x = some (.ins CL dx [("text", sv (TL.joinL [10] (ls.map cl))), ("names", .ref tp)]) := upd_same
      generalize upd H5 x (.ins CL dx (putF "names" (.ref tp) [("text", sv (TL.joinL [10] (ls.map cl)))])) = K5 at hr5 hd5 o5 hx5' ⊢
      refine s_fldV (ev_fld (ev_var rfl) hr5 rc.cl rc.nC hlk) (ev_var rfl) hx5' c.cl c.nC (show 2 < 1000 by decide) fun H6 e6 => ?_
      exact q _ (o5.trans (stepE e6 rfl)) ⟨dx, _, tp, d, es, upd_same, (hd5.ex e6).put (e6 _ _ hx5') (show 2 < 4 by decide), hes2⟩
/-- a text with a wrong class line -/
theorem ok_libB {k : Nat} (F : Fun K "__init__" "Library.__init__" sLibInit f fd) (T : LibP mg) (N : XcC K mg "BadLine" B "at" fB) (FB : FnOk P w K mg base CX0 1 fB fdB ["self", "at"] (spXI B "at")) (bB : Binds K fdB ["self", "at"] []) (rc : RdC K CR) (rL : Rd P w K mg base "lines_of" 1 ["text"] spLines) (rR : Rm P w K mg base "Reader" CR 1 ["self"] (spRd CR)) (rT : Rt P w K mg base CR "take" k ["self", "line"] (spTake CR CT)) (hk : 2 ≤ k) :
    FnOk P w K mg base (L2.CX P w) (k + 1) f fd ["self", "text"] (spLibB B) := by
  refine F.okX scLibI (fun vs H Q E h => ?_) (fun cdv A outer s H vs Q E hr h => ?_)
  · obtain ⟨x, ls, n, bs, tl, rfl, _⟩ := h
    rfl
  · obtain ⟨x, ls, n, bs, tl, rfl, F, Ft, hmn, ⟨l1, l2, l3, l4⟩, q⟩ := h
    refine ⟨_, pss_cons (ps_if (pt_not (pt_val (pe_callB call_isi (by rfl) T.isi boot_isinstance (pa_cons (pv 1) (pa_cons (pe_bltn (v := .ty "str") (by rfl) T.str boot_strT rfl) pa_nil))))) (pss_one ps_never) pss_nil)
      (pss_cons (ps_set (i := 2) scLibI.nd rfl (.inl rfl) (pe_rm0 rR hr hk (by rfl)))
      (pss_cons (ps_for (passes_of rfl) rfl (pi_enum (by rfl) T.enu (pa_cons (pe_rd rL hr (Nat.le_trans (by decide) hk) (by rfl) (pa_cons (pv 1) pa_nil)) pa_nil)) (pg_tup (by rfl) (pgs_cons (pg_name (i := 3) scLibI.nd rfl (.inl rfl)) (pgs_cons (pg_name (i := 4) scLibI.nd rfl (.inl rfl)) pgs_nil)))
        (pss_one (ps_if (pt_not (pt_val (pe_rt (pv 2) rc.cl rT hr (Nat.le_refl _) (pa_cons (pv 4) pa_nil)))) (pss_one (ps_raise rfl (takes_of rfl rfl rfl rfl) (pmk_oex N.ox N.iC N.tI FB (hr.mono hk) bB .nil pass0 (by rfl) N.gB (pa_cons (pv 3) pa_nil)))) pss_nil)))
      (pss_cons ps_never (pss_cons ps_never (pss_one ps_never))))), ?_⟩
    refine q_when (b := false) (et_is (et_not (et_B (ev_isi (ev_var rfl) ev_c (.ty "str") (fun _ _ => .base (.str _)) (kit_ty rfl)))) rfl) (fun z => nomatch z) fun _ H1 e1 => ?_
    refine q_asgX ?_
    intro r dr nr ndr ne
    refine ⟨r, dr, rfl, upd_same, fun H2 d nd ex hr2 hd2 => ⟨rfl, ?_⟩⟩
    have e2 : Ex H1 H2 := reader_new nr ndr ne ex
    have d_r : d ≠ r := fun z => by
      rw [z, upd_same] at nd
      cases nd
    have d_dr : d ≠ dr := fun z => by
      rw [z, upd_ne ne, upd_same] at nd
      cases nd
    rw [upd_ne d_r, upd_ne d_dr] at nd
    have nrH := fresh_back e1 nr
    have ndH := fresh_back e1 nd
    have e12 := e1.trans e2
    generalize hall : ls.map cl ++ cline n bs :: tl = all at l1 l2 l3 l4 ⊢
    show tSeq _ _ _ [some (.ref x), some (sv (TL.joinL [10] all)), some (.ref r), none, none] H2
    refine ⟨_, rfl, all, rfl, l1, l2, l3, l4, fun pa H3 npa e3 hpa => ⟨pa, _, rfl, sq_of hpa, ?_⟩⟩
    have pr : pa ≠ r := fun z => by
      rw [z, hr2] at npa
      cases npa
    have pd : pa ≠ d := fun z => by
      rw [z, hd2] at npa
      cases npa
    have hget : ∀ i, i < ls.length → all[i]? = (ls.map cl)[i]? := fun i hi => by
      rw [← hall, List.getElem?_append_left (by rw [List.length_map]; exact hi)]
    have hbad : all[ls.length]? = some (cline n bs) := by
      rw [← hall, List.getElem?_append_right (by rw [List.length_map]; exact Nat.le_refl _), List.length_map, Nat.sub_self]
      rfl
    refine for_it (walk_enum (xs := all.map sv)) (fun i σ' H' => i ≤ ls.length ∧ LW H CR CT x r d dr (TL.joinL [10] all) ls i σ' H' ∧ H' pa = some (.lst (all.map sv))) ⟨Nat.zero_le _, ⟨[], .non, none, none, rfl, e12.trans e3, nrH, ndH, e3 _ _ hr2, ⟨e3 _ _ hd2, fun e he => (by cases he)⟩, rfl⟩, hpa⟩ (fun i σ' H' _ z => sq_of z.2.2) (fun i v σ' H' H'' hi z y => ?_) (fun σ' H' z => ?_)
    · obtain ⟨hle, ⟨es, ow, v3, v4, rfl, ez, _, _, hrz, hdz, hes⟩, hpz⟩ := z
      obtain ⟨Ta, y1, y2, rfl, nT, rfl, hy1, hy2⟩ := y
      have eT : Ex H' (upd H' Ta (.tup [y1, y2])) := Ex.new nT
      have hy2' : (all.map sv)[i]? = some y2 := hy2
      rw [List.getElem?_map] at hy2'
      cases hy1
      by_cases hlt : i < ls.length
      · rw [hget i hlt, List.getElem?_map] at hy2'
        have hp : ls[i]? = some ls[i] := List.getElem?_eq_getElem hlt
        generalize ls[i] = p at hp
        rw [hp] at hy2'
        have hy3 := Option.some.inj hy2'
        subst hy3
        obtain ⟨m, hm, hab⟩ := fits_next F hp
        refine ⟨Ta, _, rfl, st_of upd_same, rfl, _, _, rfl, _, _, rfl, rfl, ?_⟩
        refine if_notM (i := 2) (j := 4) (v := sv (cline p.1 p.2)) rfl (eT _ _ hrz) rfl rfl ?_
        refine take_fit (es := es) (n := p.1) (bs := p.2) (by rw [hes]; exact (F i p hp).1) (eT _ _ hrz) (hdz.ex eT) ?_
        rw [hes, hm]
        refine fun H5 e he ext hr5 hd5 => ⟨true, rfl, iteF ?_⟩
        have e5 : Ex H H5 := fun b o hb => by
          have h1 := eT _ _ (ez _ _ hb)
          refine ext b o h1 fun hz => ?_
          rcases hz with hz | hz
          · rw [hz, nrH] at hb
            cases hb
          · rw [hz, ndH] at hb
            cases hb
        refine ⟨hlt, ⟨es ++ [e], .ref e.cls, _, _, rfl, e5, nrH, ndH, hr5, hd5, ?_⟩, ext _ _ (eT _ _ hpz) fun hz => hz.elim pr pd⟩
        rw [hab, List.map_append, hes, List.map_singleton, he]
      · have hie : i = ls.length := by omega
        subst hie
        rw [hbad] at hy2'
        have hy3 := Option.some.inj hy2'
        subst hy3
        rw [List.take_length] at hes
        refine ⟨Ta, _, rfl, st_of upd_same, rfl, _, _, rfl, _, _, rfl, rfl, ?_⟩
        refine if_notM (i := 2) (j := 4) (v := sv (cline n bs)) rfl (eT _ _ hrz) rfl rfl ?_
        refine take_fit (es := es) (n := n) (bs := bs) (by rw [hes]; exact Ft) (eT _ _ hrz) (hdz.ex eT) ?_
        rw [hes, hmn]
        refine fun H5 e5 => ⟨false, rfl, iteT ?_⟩
        refine ⟨_, rfl, (show 1 ≤ 1000 by decide), fun a na => ⟨a, _, rfl, upd_same, fun dx nd ne => ⟨rfl, dx, [("at", .int (ls.length : Int))], upd_same, (upd_ne ne).trans upd_same, (upd_ne ne).symm.trans nd, ?_⟩⟩⟩
        exact raised_end (q.mono ((ez.trans eT).trans e5)) na nd ne
    · have hz := z.1
      rw [List.length_map, ← hall, List.length_append, List.length_cons, List.length_map] at hz
      omega
end
end Hy
set_option maxHeartbeats 4000000
/-! A library asked: in, class_named, order, kept_of, Kept. -/
namespace Hy
open PySem PySem.Spec PyProof.Rows L2 Evl Hc Hs
section
variable {X : Cx} {pins : List (Addr × Obj)} {σ : L2.St} {H : Hp} {s : Shared}
/-- a def of a class, called with values -/
theorem own_call {n : Nat} {f : Addr} {fd : FuncData} {ps : List Str} {sp : Sp} {A : Around} {us : List Value} {vs : List V} {Q : VK} {E : Value → Shared → Prop} (F : FnOk X.prog X.w X.K X.mg X.base CX0 n f fd ps sp) (hb : Binds X.K fd ps []) (hr : Room n A) (hf : A.frames = X.A.frames)
    (I : Inv X pins σ H s) (r : Vals vs us) (h : sp vs H Q E0) : wpAny (model X.prog X.w) A (call (.ref f) us) (fun v s' => ∃ z H', Inv X pins σ H' s' ∧ RelV z v ∧ Q z H') E s := by
  have e0 : Env0 X.prog X.w X.K X.mg X.base A X.stack s H := by
    have e := I.env0
    exact ⟨by rw [hf]; exact e.frames, e.mod, e.bs, e.bsz, e.funs, e.frf, e.hok, e.bare⟩
  have hl := F.len _ _ _ _ h
  refine wpAny_call (codeAny_mono (F.run A X.stack s H ⟨us, []⟩ us vs Q E0 hr e0 (by
    have := hb s us I.kIn (by rw [List.append_nil, ← r.length]; exact hl)
    simpa using this) r h) fun r s' hq => ?_)
  cases r with
  | error e => exact False.elim hq
  | ok fl =>
    cases fl with
    | ret w =>
      obtain ⟨z, H', I', rz, q⟩ := I.after hq
      exact ⟨z, H', I', rz, q⟩
    | next => exact False.elim hq
    | brk => exact False.elim hq
    | cont => exact False.elim hq
/-- x not in o, by o's own __contains__ -/
def rNiO (C : Addr) (sp : Sp) : R2 := fun x y H Q => ∃ a dx fs, y = .ref a ∧ H a = some (.ins C dx fs) ∧ sp [.ref a, x] H (fun v H' => ∃ k, v = .bl k ∧ Q (.bl (!k)) H') E0
theorem op_niO {C : Addr} {k : Nat} {ps : List Str} {sp : Sp} (r : Rt X.prog X.w X.K X.mg X.base C "__contains__" k ps sp) (hr : Room k X.A) : OpR X (compareOp .NotIn) (rNiO C sp) := by
  intro pins s σ H x y v u Q I rx ry h
  obtain ⟨a, dx, fs, rfl, ha, q⟩ := h
  cases ry
  obtain ⟨f, fd, M, hb, F⟩ := r.ex
  obtain ⟨mA, J, _⟩ := ins_get I.hok ha
  obtain ⟨od, J, _⟩ := J.look
  obtain ⟨m, hF⟩ := I.fr
  refine PySem.W.notIn_K hF I.ok.mod.kin J M.at_ M.fn (wpAny_mono (own_call (vs := [.ref a, x]) F hb hr rfl I (.cons rfl (.cons rx .nil)) q) (fun z s' hq => ?_) fun _ _ z => z)
  obtain ⟨z, H', I', rz, k, rfl, q⟩ := hq
  cases rz
  exact wpAny_truthy_bool ⟨.bl (!k), H', I', rfl, q⟩
end
/-! ### what is asked -/
/-- y is none of the names -/
def NotIn (K : PySem.W.Frag) (ab : Ab) (y : V) (H : Hp) : Prop := (∃ n, y = sv n ∧ n ∉ ab.map (·.1)) ∨ ∃ t, (∀ H1, Ex H H1 → TyX K H1 y t) ∧ PySem.W.kitOne K t (.type "str") = some false
theorem NotIn.ex {K : PySem.W.Frag} {ab : Ab} {y : V} {H H' : Hp} (h : NotIn K ab y H) (e : Ex H H') : NotIn K ab y H' := h.imp id fun ⟨t, h, k⟩ => ⟨t, fun H1 e1 => h H1 (e.trans e1), k⟩
def spHas (K : PySem.W.Frag) (CL CT : Addr) : Sp := fun vs H Q _ => ∃ (x : Addr) (ab : Ab) (y : V), vs = [.ref x, y] ∧ LibAt CL CT x ab H ∧ ((∃ n, y = sv n ∧ n ∈ ab.map (·.1) ∧ ∀ H', Ex H H' → Q (.bl true) H') ∨ (NotIn K ab y H ∧ ∀ H', Ex H H' → Q (.bl false) H'))
def spNamedG (CL CT : Addr) : Sp := fun vs H Q _ => ∃ (x : Addr) (ab : Ab) (n : Nm), vs = [.ref x, sv n] ∧ LibAt CL CT x ab H ∧ n ∈ ab.map (·.1) ∧ ∀ H' c dx l fd dd, Ex H H' → H' c = some (.ins CT dx (ctF n l fd dd)) → H' l = some (.lst ((ordA ab n).map sv)) → Q (.ref c) H'
def spNamedB (K : PySem.W.Frag) (CL CT B : Addr) : Sp := fun vs H _ E => ∃ (x : Addr) (ab : Ab) (y : V), vs = [.ref x, y] ∧ LibAt CL CT x ab H ∧ NotIn K ab y H ∧ Raised B "name" y H E
def spOrderG (CL CT : Addr) : Sp := fun vs H Q _ => ∃ (x : Addr) (ab : Ab) (n : Nm), vs = [.ref x, sv n] ∧ LibAt CL CT x ab H ∧ n ∈ ab.map (·.1) ∧ ∀ p H', H p = none → Ex H H' → H' p = some (.lst ((ordA ab n).map sv)) → Q (.ref p) H'
def spKeptB (K : PySem.W.Frag) (CL CT B : Addr) : Sp := fun vs H _ E => ∃ (k x : Addr) (ab : Ab) (y : V), vs = [.ref k, .ref x, y] ∧ LibAt CL CT x ab H ∧ NotIn K ab y H ∧ Raised B "name" y H E
abbrev mHas : Stmt := inClass cLib 6
abbrev mNamed : Stmt := inClass cLib 4
abbrev mOrder : Stmt := inClass cLib 2
abbrev mKeptOf : Stmt := inClass cLib 3
abbrev sKeptI : Stmt := inClass cKept 0
theorem scHas : FnScope ["self", "name"] ["self", "name"] (defScope mHas) := ⟨rfl, rfl, rfl, by decide +kernel, rfl, by decide +kernel, by decide +kernel⟩
theorem scNamed : FnScope ["self", "name"] ["self", "name"] (defScope mNamed) := ⟨rfl, rfl, rfl, by decide +kernel, rfl, by decide +kernel, by decide +kernel⟩
theorem scOrder : FnScope ["self", "name"] ["self", "name"] (defScope mOrder) := ⟨rfl, rfl, rfl, by decide +kernel, rfl, by decide +kernel, by decide +kernel⟩
theorem scKeptOf : FnScope ["self", "name"] ["self", "name"] (defScope mKeptOf) := ⟨rfl, rfl, rfl, by decide +kernel, rfl, by decide +kernel, by decide +kernel⟩
abbrev nKeptI : List Str := ["self", "library", "name", "classes", "fields", "methods", "field", "text", "owner"]
theorem scKeptI : FnScope nKeptI ["self", "library", "name"] (defScope sKeptI) := ⟨rfl, rfl, rfl, by decide +kernel, rfl, by decide +kernel, by decide +kernel⟩
theorem val_none {es : List Ent} {n : Nm} (h : n ∉ (es.map prE).map (·.1)) : valV (kvsOf es) (kN n) = none := by
  rw [val_kvs, ent_none (by rw [nm_pr]; exact h)]
  rfl
section
variable {P : Program} {w : World} {K : PySem.W.Frag} {mg : Str → Option Value} {base : Heap} {CL CT CK B fB f : Addr} {fd fdB : FuncData} {k : Nat}
theorem ok_has (F : Fun K "__contains__" "Library.__contains__" mHas f fd) (T : LibP mg) (c : LbC K CL) : FnOk P w K mg base CX0 (k + 1) f fd ["self", "name"] (spHas K CL CT) := by
  refine F.ok scHas (fun vs H Q E h => ?_) (fun cdv A outer s H vs Q E hr h => ?_)
  · obtain ⟨x, ab, y, rfl, _⟩ := h
    rfl
  · obtain ⟨x, ab, y, rfl, ⟨dx, T0, tp, d, es, hx, hdb, rfl⟩, h⟩ := h
    have hu := hu_of hr
    refine ⟨_, pss_one (ps_ret (pe_and (pe_callB call_isi (by rfl) T.isi boot_isinstance (pa_cons (pv 1) (pa_cons (pe_bltn (v := .ty "str") (by rfl) T.str boot_strT rfl) pa_nil))) (pe_one (pe_cmp (pc_din hu (pv 1) (pe_fld (pv 0) (by rfl))) rfl)))), ?_⟩
    have hin : ∀ n, y = sv n → Ev (tAndV (tCB (rIsi K) (tCons (tVar 1) (tCons (tC (.ty "str")) tNil))) (tDIn (tVar 1) (tFld K (tVar 0) "_classes"))) [some (.ref x), some y] H (.bl (valV (kvsOf es) (kN n)).isSome) := fun n hn => by
      subst hn
      exact Evl.ev_is (ev_andV (a := true) (ev_isi (ev_var rfl) ev_c (.ty "str") (fun _ _ => .base (.str _)) (kit_ty rfl)) fun _ => ev_din (n := n) (kvs := kvsOf es) (ev_var rfl) (ev_fld (ev_var rfl) hx c.cl c.nC rfl) hdb.1) (by rw [Bool.true_and])
    rcases h with ⟨n, hy, hn, q⟩ | ⟨⟨n, hy, hn⟩ | ⟨t, ht, hk⟩, q⟩
    · obtain ⟨e, he, _⟩ := ent_some (es := es) (b := n) (by rw [nm_pr]; exact hn)
      refine s_ret (Evl.ev_is (hin n hy) (by rw [val_kvs, he]; rfl)) q
    · refine s_ret (Evl.ev_is (hin n hy) (by rw [val_none hn]; rfl)) q
    · exact s_ret (Evl.ev_is (ev_andV (a := false) (b := false) (ev_isi (ev_var rfl) ev_c (.ty "str") ht hk) fun z => nomatch z) rfl) q
theorem ok_namedG (F : Fun K "class_named" "Library.class_named" mNamed f fd) (c : LbC K CL) (rH : Rt P w K mg base CL "__contains__" 1 ["self", "name"] (spHas K CL CT)) : FnOk P w K mg base CX0 2 f fd ["self", "name"] (spNamedG CL CT) := by
  refine F.ok scNamed (fun vs H Q E h => ?_) (fun cdv A outer s H vs Q E hr h => ?_)
  · obtain ⟨x, ab, n, rfl, _⟩ := h
    rfl
  · obtain ⟨x, ab, n, rfl, hL, hn, q⟩ := h
    have hL0 := hL
    obtain ⟨dx, T0, tp, d, es, hx, hdb, rfl⟩ := hL0
    refine ⟨_, pss_cons (ps_if (pt_cmpR (op_niO rH hr) (pv 1) (pv 0) (by rfl)) (pss_one ps_never) pss_nil) (pss_one (ps_ret (pe_dget (hu_of hr) (pe_fld (pv 0) (by rfl)) (pv 1) (fun _ _ => rfl)))), ?_⟩
    obtain ⟨e, he, he2, he3⟩ := ent_some (es := es) (b := n) (by rw [nm_pr]; exact hn)
    refine q_when (b := false) (et_test (ev_op (ev_var rfl) (ev_var rfl) fun H1 e1 Q1 q1 => ⟨x, dx, _, rfl, e1 _ _ hx, x, es.map prE, sv n, rfl, hL.ex e1, .inl ⟨n, rfl, hn, fun H' e2 => ⟨true, rfl, q1 H' e2⟩⟩⟩)) (fun z => nomatch z) fun _ H1 e1 => ?_
    refine s_ret (ev_dget (n := n) (kvs := kvsOf es) (ev_fld (ev_var rfl) (e1 _ _ hx) c.cl c.nC rfl) (ev_var rfl) (e1 _ _ hdb.1) (by rw [val_kvs, he]; rfl)) fun H2 e2 => ?_
    obtain ⟨⟨dx', fd', dd', h1⟩, h2⟩ := hdb.2 e he2
    have h1' := (e1.trans e2) _ _ h1
    have h2' := (e1.trans e2) _ _ h2
    rw [he3] at h1'
    refine q H2 e.cls dx' e.lin fd' dd' (e1.trans e2) h1' ?_
    rw [h2']
    have : ordA (es.map prE) n = e.ord := by
      rw [← ord_pr]
      unfold ordOf
      rw [he]
    rw [this]
theorem ok_namedB (F : Fun K "class_named" "Library.class_named" mNamed f fd) (N : XcC K mg "NoClass" B "name" fB) (FB : FnOk P w K mg base CX0 1 fB fdB ["self", "name"] (spXI B "name")) (bB : Binds K fdB ["self", "name"] []) (rH : Rt P w K mg base CL "__contains__" 1 ["self", "name"] (spHas K CL CT)) :
    FnOk P w K mg base (L2.CX P w) 3 f fd ["self", "name"] (spNamedB K CL CT B) := by
  refine F.okX scNamed (fun vs H Q E h => ?_) (fun cdv A outer s H vs Q E hr h => ?_)
  · obtain ⟨x, ab, n, rfl, _⟩ := h
    rfl
  · obtain ⟨x, ab, y, rfl, hL, hn, q⟩ := h
    have hL0 := hL
    obtain ⟨dx, T0, tp, d, es, hx, hdb, rfl⟩ := hL0
    refine ⟨_, pss_cons (ps_if (pt_cmpR (op_niO rH (hr.mono (by decide))) (pv 1) (pv 0) (by rfl)) (pss_one (ps_raise rfl (takes_of rfl rfl rfl rfl) (pmk_oex N.ox N.iC N.tI FB hr bB .nil pass0 (by rfl) N.gB (pa_cons (pv 1) pa_nil)))) pss_nil) (pss_one ps_never), ?_⟩
    have et : EvT (tTest (tOp (rNiO CL (spHas K CL CT)) (tVar 1) (tVar 0))) [some (.ref x), some y] H true := et_test (ev_op (ev_var rfl) (ev_var rfl) fun H1 e1 Q1 q1 => ⟨x, dx, _, rfl, e1 _ _ hx, x, es.map prE, y, rfl, hL.ex e1, .inr ⟨hn.ex e1, fun H' e2 => ⟨false, rfl, q1 H' e2⟩⟩⟩)
    refine et H (Ex.refl H) _ fun H1 f1 => iteT ?_
    refine ⟨_, rfl, (show 1 ≤ 1000 by decide), fun a na => ⟨a, _, rfl, upd_same, fun dx nd ne => ⟨rfl, dx, [("name", y)], upd_same, (upd_ne ne).trans upd_same, (upd_ne ne).symm.trans nd, ?_⟩⟩⟩
    exact raised_end (q.mono f1) na nd ne
theorem ok_orderG (F : Fun K "order" "Library.order" mOrder f fd) (T : LibP mg) (c : LbC K CL) (ct : CtC K CT) (rN : Rt P w K mg base CL "class_named" 2 ["self", "name"] (spNamedG CL CT)) : FnOk P w K mg base CX0 3 f fd ["self", "name"] (spOrderG CL CT) := by
  refine F.ok scOrder (fun vs H Q E h => ?_) (fun cdv A outer s H vs Q E hr h => ?_)
  · obtain ⟨x, ab, n, rfl, _⟩ := h
    rfl
  · obtain ⟨x, ab, n, rfl, hL, hn, q⟩ := h
    have hL0 := hL
    obtain ⟨dx, T0, tp, d, es, hx, hdb, hab⟩ := hL0
    refine ⟨_, pss_one (ps_ret (pe_callTy call_list_of (by rfl) T.lst boot_list' (pa_cons (pe_fld (pe_rt (pv 0) c.cl rN hr (Nat.le_refl _) (pa_cons (pv 1) pa_nil)) (by rfl)) pa_nil))), ?_⟩
    refine ⟨_, rfl, x, dx, _, rfl, hx, rfl, _, rfl, x, ab, n, rfl, hL, hn, fun H1 cc dx' l fd' dd' e1 hc hl => ?_⟩
    refine ⟨cc, CT, dx', ctF n l fd' dd', .ref l, rfl, hc, ct.cl, ct.nL, rfl, ?_⟩
    exact ⟨l, _, rfl, .inl (sq_of hl), fun p np => q p _ (fresh_back e1 np) (e1.trans (Ex.new np)) upd_same⟩
theorem ok_orderB (F : Fun K "order" "Library.order" mOrder f fd) (T : LibP mg) (c : LbC K CL) {fN : Addr} {fdN : FuncData} (MN : Meth K CL "class_named" fN) (bN : Binds K fdN ["self", "name"] []) (FN : FnOk P w K mg base (L2.CX P w) 3 fN fdN ["self", "name"] (spNamedB K CL CT B)) :
    FnOk P w K mg base (L2.CX P w) 4 f fd ["self", "name"] (spNamedB K CL CT B) := by
  refine F.okX scOrder (fun vs H Q E h => ?_) (fun cdv A outer s H vs Q E hr h => ?_)
  · obtain ⟨x, ab, n, rfl, _⟩ := h
    rfl
  · obtain ⟨x, ab, y, rfl, hL, hn, q⟩ := h
    have hL0 := hL
    obtain ⟨dx, T0, tp, d, es, hx, hdb, hab⟩ := hL0
    refine ⟨_, pss_one (ps_ret (pe_callTy call_list_of (by rfl) T.lst boot_list' (pa_cons (pe_fld (pe_meth (E := E) (pv 0) c.cl MN FN hr bN .nil (passes_call (takes_of rfl rfl rfl rfl) fun _ _ _ _ h => h) (pa_cons (pv 1) pa_nil)) (by rfl)) pa_nil))), ?_⟩
    exact ⟨_, rfl, x, dx, _, rfl, hx, rfl, _, rfl, x, ab, y, rfl, hL, hn, q⟩
end
end Hy
set_option maxHeartbeats 4000000
/-! Kept(library, name) and kept_of(name) for names that are no classes. -/
namespace Hy
open PySem PySem.Spec PyProof.Rows L2 Evl Hc Hs
section
variable {P : Program} {w : World} {K : PySem.W.Frag} {mg : Str → Option Value} {base : Heap} {CL CT CK B f : Addr} {fd : FuncData}
theorem ok_keptB (F : Fun K "__init__" "Kept.__init__" sKeptI f fd) (c : LbC K CL) {fO : Addr} {fdO : FuncData} (MO : Meth K CL "order" fO) (bO : Binds K fdO ["self", "name"] []) (FO : FnOk P w K mg base (L2.CX P w) 4 fO fdO ["self", "name"] (spNamedB K CL CT B)) (rN : Rt P w K mg base CL "class_named" 2 ["self", "name"] (spNamedG CL CT)) :
    FnOk P w K mg base (L2.CX P w) 5 f fd ["self", "library", "name"] (spKeptB K CL CT B) := by
  refine F.okX scKeptI (fun vs H Q E h => ?_) (fun cdv A outer s H vs Q E hr h => ?_)
  · obtain ⟨k, x, ab, n, rfl, _⟩ := h
    rfl
  · obtain ⟨kk, x, ab, y, rfl, hL, hn, q⟩ := h
    have hL0 := hL
    obtain ⟨dx, T0, tp, d, es, hx, hdb, hab⟩ := hL0
    refine ⟨_, pss_cons (ps_setLc (i := 3) (own := [("owner", 8)]) (g := gName 8) (tt := tYes) rfl scKeptI.nd rfl rfl (sw_true rfl rfl rfl (by decide +kernel)) (pi_list (pe_meth (E := E) (pv 1) c.cl MO FO hr bO .nil (passes_call (takes_of rfl rfl rfl rfl) fun _ _ _ _ h => h) (pa_cons (pv 2) pa_nil)))
        (blkOk_by (N := nKeptI) (sc := defScope sKeptI) (by decide +kernel)) (fun _ _ _ _ _ => pg_name (i := 8) scKeptI.nd rfl (.inl rfl)) (fun _ _ _ _ _ => pts_nil) (fun _ _ _ _ _ => pe_rt (pv 1) c.cl rN hr (by decide) (pa_cons (pv 8) pa_nil)))
      (pss_cons ps_never (pss_cons ps_never (pss_cons ps_never (pss_cons ps_never (pss_cons ps_never (pss_cons ps_never (pss_cons ps_never (pss_cons ps_never (pss_cons ps_never (pss_cons ps_never (pss_cons ps_never (pss_one ps_never)))))))))))), ?_⟩
    exact ⟨_, rfl, x, dx, _, rfl, hx, rfl, _, rfl, x, ab, y, rfl, hL, hn, q⟩
theorem ok_keptOfB (F : Fun K "kept_of" "Library.kept_of" mKeptOf f fd) {fK : Addr} {fdK : FuncData} (gK : mg "Kept" = some (.ref CK)) (MK : Mk K CK fK) (bK : Binds K fdK ["self", "library", "name"] []) (FK : FnOk P w K mg base (L2.CX P w) 5 fK fdK ["self", "library", "name"] (spKeptB K CL CT B)) :
    FnOk P w K mg base (L2.CX P w) 7 f fd ["self", "name"] (spNamedB K CL CT B) := by
  refine F.okX scKeptOf (fun vs H Q E h => ?_) (fun cdv A outer s H vs Q E hr h => ?_)
  · obtain ⟨x, ab, n, rfl, _⟩ := h
    rfl
  · obtain ⟨x, ab, y, rfl, hL, hn, q⟩ := h
    refine ⟨_, pss_one (ps_ret (pe_make (E := E) MK FK (hr.mono (by decide)) (by rfl) gK bK .nil (passes_call (takes_of rfl rfl rfl rfl) fun _ _ _ _ h => h) (pa_cons (pv 0) (pa_cons (pv 1) pa_nil)))), ?_⟩
    refine ⟨_, rfl, _, rfl, fun k dk nk ndk ne => ?_⟩
    have ex : Ex H (upd (upd H dk (.own k)) k (.ins CK dk [])) := (Ex.new ndk).trans (Ex.new ((upd_ne (Ne.symm ne)).trans nk))
    exact ⟨k, x, ab, y, rfl, hL.ex ex, hn.ex ex, q.mono ex⟩
end
end Hy
set_option maxHeartbeats 4000000
/-! upper and lower of names; words that are still free. -/
namespace Hy
open PySem PySem.Spec PyProof.Rows L2 Evl Hc Hs
theorem low_small : ∀ c ∈ smalls, Unicode.lowerOf c = [c] := by decide +kernel
theorem low_large : ∀ c ∈ larges, Unicode.lowerOf c = [c + 32] := by decide +kernel
theorem up_small : ∀ c ∈ smalls, Unicode.upperOf c = [c - 32] := by decide +kernel
theorem flatten_arr (ls : List (List Nat)) : (ls.map List.toArray).toArray.flatten = ls.flatten.toArray := by simp
theorem lower_S (L : List Nat) (h : ∀ c ∈ L, c ≠ 931) : Txt.lower (S L) = S (L.flatMap Unicode.lowerOf) := by
  have e : (S L).cps.mapIdx (fun i _ => (Unicode.lowerAt (S L).cps i).toArray) = ((L.map Unicode.lowerOf).map List.toArray).toArray := by
    apply Array.ext
    · simp
    · intro i h1 h2
      have hi : i < L.length := by simpa using h1
      have hc : L[i] ∈ L := List.getElem_mem hi
      have hn : (L[i] == 931) = false := by simpa using h _ hc
      simp [Unicode.lowerAt, hi, hn]
      intro hx
      exact absurd hx (h _ hc)
  show (⟨((S L).cps.mapIdx fun i _ => (Unicode.lowerAt (S L).cps i).toArray).flatten⟩ : Str) = _
  rw [e, flatten_arr, List.flatMap_def]
theorem upper_S (L : List Nat) : Txt.upper (S L) = S (L.flatMap Unicode.upperOf) := by
  have e : (S L).cps.mapIdx (fun _ c => (Unicode.upperOf c).toArray) = ((L.map Unicode.upperOf).map List.toArray).toArray := by
    apply Array.ext
    · simp
    · intro i h1 h2
      simp
  show (⟨((S L).cps.mapIdx fun _ c => (Unicode.upperOf c).toArray).flatten⟩ : Str) = _
  rw [e, flatten_arr, List.flatMap_def]
/-- a word with a large first letter -/
def capd : List Nat → List Nat
  | [] => []
  | c :: m => (c - 32) :: m
theorem sm_lt {c : Nat} (h : c ∈ smalls) : 97 ≤ c ∧ c ≤ 122 := by
  revert c
  decide
theorem la_of {c : Nat} (h : c ∈ smalls) : c - 32 ∈ larges := by
  revert c
  decide
theorem flat_low {m : List Nat} (h : ∀ c ∈ m, c ∈ smalls) : m.flatMap Unicode.lowerOf = m := by
  induction m with
  | nil => rfl
  | cons c m ih =>
    rw [List.flatMap_cons, low_small c (h c List.mem_cons_self), ih fun x hx => h x (List.mem_cons_of_mem _ hx)]
    rfl
structure Small (w : List Nat) : Prop where
  all : ∀ c ∈ w, c ∈ smalls
  le : w.length ≤ 8
  pos : 1 ≤ w.length
theorem Small.good {w : List Nat} (h : Small w) : GoodNm (capd w) := by
  cases w with
  | nil => exact absurd h.pos (by simp)
  | cons c m =>
    refine ⟨?_⟩
    show (decide (((c - 32) :: m).length ≤ 8) && decide (c - 32 ∈ larges) && areSmall m) = true
    rw [Bool.and_eq_true, Bool.and_eq_true]
    refine ⟨⟨decide_eq_true (by have := h.le; simpa using this), decide_eq_true (la_of (h.all c List.mem_cons_self))⟩, ?_⟩
    unfold areSmall
    rw [List.all_eq_true]
    exact fun x hx => decide_eq_true (h.all x (List.mem_cons_of_mem _ hx))
theorem Small.lower {w : List Nat} (h : Small w) : Txt.lower (S (capd w)) = S w := by
  cases w with
  | nil => exact absurd h.pos (by simp)
  | cons c m =>
    have hc := h.all c List.mem_cons_self
    have hm : ∀ x ∈ m, x ∈ smalls := fun x hx => h.all x (List.mem_cons_of_mem _ hx)
    rw [lower_S _ (fun x hx => by
      rcases List.mem_cons.mp hx with rfl | hx
      · have := sm_lt hc
        omega
      · have := sm_lt (hm x hx)
        omega)]
    congr 2
    show ((c - 32) :: m).flatMap Unicode.lowerOf = c :: m
    rw [List.flatMap_cons, low_large _ (la_of hc), flat_low hm]
    have := sm_lt hc
    show (c - 32 + 32) :: m = c :: m
    rw [Nat.sub_add_cancel (by omega)]
theorem Small.upper {w : List Nat} (h : Small w) : Txt.upper (S (w.take 1)) = S ((capd w).take 1) := by
  cases w with
  | nil => exact absurd h.pos (by simp)
  | cons c m =>
    rw [upper_S]
    show S (List.flatMap Unicode.upperOf [c]) = S [c - 32]
    rw [List.flatMap_cons, up_small c (h.all c List.mem_cons_self)]
    rfl
theorem capd_drop (w : List Nat) : (capd w).take 1 ++ w.drop 1 = capd w := by cases w <;> rfl
theorem capd_inj {v w : List Nat} (hv : Small v) (hw : Small w) (e : capd v = capd w) : v = w := by
  have h1 := hv.lower
  rw [e, hw.lower] at h1
  exact (S_inj h1).symm
/-! ### free words -/
theorem free_word {w : List Nat} (h : ∀ c ∈ w, c ∈ smalls) {tk : List Nm} (ht : tk.length ≤ 7) : ∃ c ∈ smalls, (w.take 7 ++ [c]) ∉ tk ++ resv := by
  by_cases hx : ∃ c ∈ smalls, (w.take 7 ++ [c]) ∉ tk ++ resv
  · exact hx
  · exfalso
    have hsub : smalls.map (fun c => w.take 7 ++ [c]) ⊆ tk ++ resv := fun x hx2 => by
      obtain ⟨c, hc, rfl⟩ := List.mem_map.mp hx2
      apply Classical.byContradiction
      intro hz
      exact hx ⟨c, hc, hz⟩
    have hnd : (smalls.map fun c => w.take 7 ++ [c]).Nodup := by
      have h0 : smalls.Nodup := by decide
      rw [List.nodup_iff_pairwise_ne] at h0 ⊢
      refine List.Pairwise.map _ (fun a b hab z => hab ?_) h0
      have := List.append_cancel_left z
      simpa using this
    have hl := List.Nodup.length_le_of_subset hnd hsub
    rw [List.length_map, List.length_append] at hl
    have h1 : smalls.length = 26 := rfl
    have h2 : resv.length = 14 := by decide
    omega
end Hy
set_option maxHeartbeats 4000000
/-! The draws of a law: where its state stands, and that each draw gives some number below its bound and leaves all else. -/
namespace Hc
open PySem PySem.Spec PyProof.Rows L2

/-- a draw's state: the list st, with the great numbers at g, the small ones at sm -/
def DrawSt (H : Hp) (st g sm : Addr) : Prop := ∃ (gs ss : List Int) (n z : Int), H st = some (.lst [.ref g, .ref sm, .int n, .int z]) ∧ H g = some (.lst (gs.map V.int)) ∧ H sm = some (.lst (ss.map V.int)) ∧
  (∀ x ∈ gs, 0 ≤ x) ∧ (∀ x ∈ ss, 0 ≤ x ∧ x < 2 ^ 40) ∧ ss.length ≤ 63 ∧ gs.length ≤ 63 ∧ 0 ≤ n ∧ 0 ≤ z ∧ z < 2 ^ 63 ∧ g ≠ sm
/-- what a draw writes -/
def Dr (st g : Addr) : Addr → Prop := fun b => b = st ∨ b = g
theorem DrawSt.ext {H H' : Hp} {st g sm : Addr} {S : Addr → Prop} (d : DrawSt H st g sm) (e : Ext S H H') (h1 : ¬ S st) (h2 : ¬ S g) (h3 : ¬ S sm) : DrawSt H' st g sm := by
  obtain ⟨gs, ss, n, z, a1, a2, a3, r⟩ := d
  exact ⟨gs, ss, n, z, e _ _ a1 h1, e _ _ a2 h2, e _ _ a3 h3, r⟩
theorem DrawSt.same {H H' : Hp} {st g sm : Addr} (d : DrawSt H st g sm) (e : Same H H') : DrawSt H' st g sm := by
  obtain ⟨gs, ss, n, z, a1, a2, a3, r⟩ := d
  exact ⟨gs, ss, n, z, e _ _ a1, e _ _ a2, e _ _ a3, r⟩

/-- a free place is none of the state's -/
theorem DrawSt.off {H : Hp} {st g sm p : Addr} (d : DrawSt H st g sm) (h : H p = none) : p ≠ st ∧ p ≠ g ∧ p ≠ sm := by
  obtain ⟨_, _, _, _, a1, a2, a3, _⟩ := d
  exact ⟨(ne_of_none a1 h).symm, (ne_of_none a2 h).symm, (ne_of_none a3 h).symm⟩
theorem DrawSt.put {H : Hp} {st g sm p : Addr} {o : HO} (d : DrawSt H st g sm) (n : p ≠ st ∧ p ≠ g ∧ p ≠ sm) : DrawSt (upd H p o) st g sm := by
  obtain ⟨gs, ss, a, z, a1, a2, a3, r⟩ := d
  exact ⟨gs, ss, a, z, (upd_ne n.1.symm).trans a1, (upd_ne n.2.1.symm).trans a2, (upd_ne n.2.2.symm).trans a3, r⟩
theorem dr_off {st g sm p : Addr} (n : p ≠ st ∧ p ≠ g ∧ p ≠ sm) : ¬ Dr st g p := fun z => z.elim n.1 n.2.1
/-- what was written behind H at a place that is free in H -/
theorem Ext.puts {S : Addr → Prop} {H H' : Hp} {p : Addr} {o : HO} (e : Ext S H H') (h : H p = none) : Ext S H (upd H' p o) := fun b u z n => by
  rw [upd_ne (ne_of_none z h)]
  exact e b u z n

structure TxtD (mg : Str → Option Value) : Prop where
  int : mg "int" = none
  abs : mg "abs" = none
  len : mg "len" = none

def spStart (K : PySem.W.Frag) : Sp := fun vs H Q _ => ∃ (a : Addr) (ns : List Int), vs = [.ref a] ∧ SqL K H a (ns.map V.int) ∧ ns.length ≤ 63 ∧
  ∀ (H' : Hp) (st g sm : Addr), Same H H' → H st = none → H g = none → H sm = none → DrawSt H' st g sm → Q (.ref st) H'
def spDraw : Sp := fun vs H Q _ => ∃ (st g sm : Addr) (m : Int), vs = [.ref st, .int m] ∧ DrawSt H st g sm ∧ 0 < m ∧ m < 2 ^ 60 ∧
  ∀ (r : Int) (H' : Hp), 0 ≤ r → r < m → Ext (Dr st g) H H' → DrawSt H' st g sm → Q (.int r) H'
def spOf (K : PySem.W.Frag) : Sp := fun vs H Q _ => ∃ (st g sm l : Addr) (xs : List V), vs = [.ref st, .ref l] ∧ DrawSt H st g sm ∧ (SqL K H l xs ∨ SqT K H l xs) ∧ ¬ Dr st g l ∧ 0 < xs.length ∧ xs.length < 2 ^ 60 ∧
  ∀ (i : Nat) (v : V) (H' : Hp), xs[i]? = some v → Ext (Dr st g) H H' → DrawSt H' st g sm → Q v H'

section
variable {P : Program} {w : World} {K : PySem.W.Frag} {mg : Str → Option Value} {base : Heap}
abbrev nStart : List Str := ["_law_script", "_law_cells", "_law_great", "_law_small", "_law_cell"]
theorem scStart : FnScope nStart ["_law_script"] (defScope sStart) := ⟨rfl, rfl, rfl, by decide +kernel, rfl, by decide +kernel, by decide +kernel⟩
theorem scDraw : FnScope ["_law_state", "_law_many", "_law_great", "_law_small", "_law_taken", "_law_own", "_law_mixed"] ["_law_state", "_law_many"] (defScope sDraw) := ⟨rfl, rfl, rfl, by decide +kernel, rfl, by decide +kernel, by decide +kernel⟩
theorem scOf : FnScope ["_law_state", "_law_some"] ["_law_state", "_law_some"] (defScope sOf) := ⟨rfl, rfl, rfl, by decide +kernel, rfl, by decide +kernel, by decide +kernel⟩

theorem boot_int : bootBuiltins "int" = some (.type "int") := by decide +kernel
theorem boot_abs : bootBuiltins "abs" = some (.builtin "abs") := by decide +kernel

theorem ok_draw {f : Addr} {fd : FuncData} {k : Nat} (F : Fun K "_law_draw" "_law_draw" sDraw f fd) (T : TxtD mg) : FnOk P w K mg base CX0 (k + 1) f fd ["_law_state", "_law_many"] spDraw := by
  refine F.ok scDraw (fun vs H Q E h => ?_) (fun cdv A outer s H vs Q E hr h => ?_)
  · obtain ⟨st, g, sm, m, rfl, _⟩ := h
    rfl
  · obtain ⟨st, g, sm, m, rfl, ⟨gs, ss, n, z, hst, hg, hsm, gpos, spos, slen, glen, n0, z0, z1, gsm⟩, m0, m1, q⟩ := h
    refine ⟨_, pss_cons (ps_par (i := 2) (j := 3) (by rfl) scDraw.nd rfl rfl (by decide) rfl rfl (pa_cons (pe_ix ix_list (pv 0) pe_int (fun _ _ => rfl)) (pa_cons (pe_ix ix_list (pv 0) pe_int (fun _ _ => rfl)) pa_nil)) (by rfl))
      (pss_cons (ps_augS (pv 0) pe_int pg_list pe_int ip_add set_list)
      (Evl.pss_cut (ps_if (PW.pt (pw_and (pt_truth (pv 2) (by intro _; rfl)) (pw_and1 (pt_cmpR op_eq (pe_ix ix_list (pv 2) pe_int (fun _ _ => rfl)) pe_int (nomark _)))))
          (pss_one (ps_expr (pe_bm PySem.F.plainAttrs_list PySem.F.slot_list_pop PySem.F.type_list_pop mt_popAt (pv 2) (pa_cons pe_int pa_nil)))) pss_nil)
      (pss_cons (ps_if (pt_truth (pv 2) (by intro _; rfl))
          (pss_cons (ps_set (i := 4) scDraw.nd rfl (.inl rfl) (pe_op op_mod (pe_callTy call_int1 (by rfl) T.int boot_int (pa_cons (pe_ix ix_list (pv 2) pe_int (fun _ _ => rfl)) pa_nil)) (pv 1)))
            (pss_cons (ps_asg (pe_op op_fdivW (pe_ix ix_list (pv 2) pe_int (fun _ _ => rfl)) (pv 1)) (pg_sub (pv 2) pe_int set_list))
            (pss_one (ps_ret (pv 4))))) pss_nil)
      (Evl.pss_cut (ps_set (i := 5) scDraw.nd rfl (.inl rfl) (pe_ifExp (pt_truth (pv 3) (by intro _; rfl)) (pe_ix ix_list (pv 3) (pe_op op_mod (pe_callTy call_int1 (by rfl) T.int boot_int (pa_cons (pe_ix ix_list (pv 0) pe_int (fun _ _ => rfl)) pa_nil)) (pe_callB call_len_seq (by rfl) T.len PySem.boot_len (pa_cons (pv 3) pa_nil))) (fun _ _ => rfl)) pe_int))
      (pss_cons (ps_asg (pe_op op_mod (pe_callTy call_int1 (by rfl) T.int boot_int (pa_cons
            (pe_op op_add (pe_op op_add (pe_op op_add (pe_op op_mul (pe_ix ix_list (pv 0) pe_int (fun _ _ => rfl)) pe_int) (pe_op op_mul (pv 5) pe_int)) (pe_op op_mul (pe_ix ix_list (pv 0) pe_int (fun _ _ => rfl)) pe_int)) pe_int) pa_nil)) pe_int) (pg_sub (pv 0) pe_int set_list))
      (pss_cons (ps_set (i := 6) scDraw.nd rfl (.inl rfl) (pe_op op_mod (pe_callTy call_int1 (by rfl) T.int boot_int (pa_cons
            (pe_op op_add (pe_op op_mul (pe_ix ix_list (pv 0) pe_int (fun _ _ => rfl)) (pe_ix ix_list (pv 0) pe_int (fun _ _ => rfl))) (pe_op op_mul pe_int (pe_ix ix_list (pv 0) pe_int (fun _ _ => rfl)))) pa_nil)) pe_int))
      (pss_one (ps_ret (pe_op op_mod (pe_callTy call_int1 (by rfl) T.int boot_int (pa_cons (pe_op op_fdiv (pv 6) pe_int) pa_nil)) (pv 1)))))))))), ?_⟩
    have nsg : st ≠ g := ne_of hst hg (by intro z; cases gs <;> cases z)
    have nss : st ≠ sm := ne_of hst hsm (by intro z; cases ss <;> cases z)
    -- great, small = (state[0], state[1])
    refine ⟨_, rfl, st, _, 0, _, rfl, rfl, SqL.of hst, atI_nat (j := 0) rfl, _, rfl, st, _, 1, _, rfl, rfl, SqL.of hst, atI_nat (j := 1) rfl, _, _, rfl, ?_⟩
    -- state[2] += 1
    refine ⟨_, rfl, st, _, 2, _, rfl, rfl, SqL.of hst, atI_nat (j := 2) rfl, n, 1, rfl, rfl, st, _, 2, 2, rfl, rfl, hst, rfl, ?_⟩
    -- if great and great[0] == 0: great.pop(0)
    refine ⟨fun σ' H' => σ' = [some (.ref st), some (.int m), some (.ref g), some (.ref sm), none, none, none] ∧ ∃ gs' : List Int, H' st = some (.lst [.ref g, .ref sm, .int (n + 1), .int z]) ∧ H' g = some (.lst (gs'.map V.int)) ∧
      Ext (Dr st g) H H' ∧ (∀ x ∈ gs', 0 ≤ x) ∧ gs'.length ≤ 63, ?_, ?_⟩
    · have e1 : (upd H st (.lst ([V.ref g, V.ref sm, V.int n, V.int z].set 2 (V.int (n + 1))))) g = some (.lst (gs.map V.int)) := by
        rw [upd_ne nsg.symm]
        exact hg
      refine ⟨_, rfl, !(gs.map V.int).isEmpty, .inl ⟨_, SqL.of e1, rfl⟩, ?_⟩
      cases gs with
      | nil => exact iteF (iteF ⟨rfl, [], upd_same, e1, Ext.put (.inl rfl), gpos, glen⟩)
      | cons x r =>
        refine iteT ⟨_, rfl, g, _, 0, _, rfl, rfl, SqL.of e1, atI_nat (j := 0) rfl, rfl, _, rfl, ?_⟩
        refine ite2 (fun _ => ?_) (fun _ => ?_)
        · refine ⟨_, rfl, .inl ⟨rfl, _, SqL.of e1⟩, g, _, 0, 0, _, rfl, rfl, e1, by decide, by decide, seqIndex_of (by decide) (by rw [List.length_map, List.length_cons]; omega), rfl, ?_⟩
          refine ⟨rfl, r, ?_, ?_, (Ext.put (.inl rfl)).trans (Ext.put (.inr rfl)), fun y hy => gpos y (List.mem_cons_of_mem _ hy), by rw [List.length_cons] at glen; omega⟩
          · rw [upd_ne nsg, upd_same]
            rfl
          · rw [upd_same]
            rfl
        · exact ⟨rfl, x :: r, upd_same, e1, Ext.put (.inl rfl), gpos, glen⟩
    · rintro σ' H1 ⟨rfl, gs', f1, f2, ex, gpos', glen'⟩
      -- if great: ..
      have f3 : H1 sm = some (.lst (ss.map V.int)) := ex _ _ hsm (by rintro (e | e); exact nss e.symm; exact gsm e.symm)
      refine ⟨_, rfl, !(gs'.map V.int).isEmpty, .inl ⟨_, SqL.of f2, rfl⟩, ?_⟩
      cases gs' with
      | cons x r =>
        have x0 : 0 ≤ x := gpos' x List.mem_cons_self
        refine iteT ⟨_, rfl, g, _, 0, _, rfl, rfl, SqL.of f2, atI_nat (j := 0) rfl, .inl ⟨x, rfl, ?_⟩⟩
        refine ⟨_, rfl, x, m, rfl, rfl, m0, ?_⟩
        refine ⟨_, rfl, g, _, 0, _, rfl, rfl, SqL.of f2, atI_nat (j := 0) rfl, _, rfl, x, m, rfl, rfl, wide_div (b := 60) m0 (by omega) (by decide) (by decide), ?_⟩
        refine ⟨_, rfl, g, _, 0, 0, rfl, rfl, f2, Evl.ixN_nat (j := 0) (by rw [List.length_map, List.length_cons]; omega), ?_⟩
        refine ⟨_, rfl, q _ _ (Int.emod_nonneg _ (by omega)) (Int.emod_lt_of_pos _ m0) (ex.trans (Ext.put (.inr rfl))) ⟨(x / m) :: r, ss, n + 1, z, ?_, ?_, ?_, ?_, spos, slen, glen', by omega, z0, z1, gsm⟩⟩
        · rw [upd_ne nsg]
          exact f1
        · rw [upd_same]
          rfl
        · rw [upd_ne (Ne.symm gsm)]
          exact f3
        · intro y hy
          rcases List.mem_cons.mp hy with e | hy
          · rw [e]
            exact Int.ediv_nonneg x0 (by omega)
          · exact gpos' y (List.mem_cons_of_mem _ hy)
      | nil =>
        refine iteF ?_
        -- own = small[..] if small else 3
        refine ⟨fun σ' H' => H' = H1 ∧ ∃ o : Int, 0 ≤ o ∧ o < 2 ^ 40 ∧ σ' = [some (.ref st), some (.int m), some (.ref g), some (.ref sm), none, some (.int o), none], ?_, ?_⟩
        · refine ⟨_, rfl, !(ss.map V.int).isEmpty, .inl ⟨_, SqL.of f3, rfl⟩, ?_⟩
          cases ss with
          | nil => exact iteF ⟨rfl, 3, by decide, by decide, rfl⟩
          | cons y r =>
            have hl : (0 : Int) < (((y :: r).map V.int).length : Nat) := by simp
            have h1 := Int.emod_nonneg (n + 1) (show ((((y :: r).map V.int).length : Nat) : Int) ≠ 0 by omega)
            have h2 := Int.emod_lt_of_pos (n + 1) hl
            obtain ⟨j, hj⟩ := Int.eq_ofNat_of_zero_le h1
            have hj2 : j < (y :: r).length := by
              rw [hj] at h2
              rw [List.length_map] at h2
              omega
            have hv : ((y :: r).map V.int)[j]? = some (.int (y :: r)[j]) := by
              rw [List.getElem?_map, List.getElem?_eq_getElem hj2]
              rfl
            have hm := spos _ (List.getElem_mem hj2)
            refine iteT ⟨_, rfl, _, rfl, st, _, 2, _, rfl, rfl, SqL.of f1, atI_nat (j := 2) rfl, .inl ⟨_, rfl, ?_⟩⟩
            refine ⟨_, rfl, sm, _, rfl, .inl (SqL.of f3), n + 1, _, rfl, rfl, hl, sm, _, _, _, rfl, rfl, SqL.of f3, at_of hj hv, rfl, _, hm.1, hm.2, rfl⟩
        · rintro σ' H' ⟨rfl, o, o0, o1, rfl⟩
          -- state[3] = ..
          refine ⟨_, rfl, st, _, 3, _, rfl, rfl, SqL.of f1, atI_nat (j := 3) rfl, z, 48271, rfl, rfl, .inr (by decide), ?_⟩
          refine ⟨_, rfl, o, 40692, rfl, rfl, .inr (by decide), _, _, rfl, rfl, ?_⟩
          refine ⟨_, rfl, st, _, 2, _, rfl, rfl, SqL.of f1, atI_nat (j := 2) rfl, n + 1, 69621, rfl, rfl, .inr (by decide), _, _, rfl, rfl, _, _, rfl, rfl, .inl ⟨_, rfl, ?_⟩⟩
          refine ⟨_, _, rfl, rfl, by show (0 : Int) < 2305843009213693951; decide, ?_⟩
          refine ⟨_, rfl, st, _, 3, 3, rfl, rfl, f1, rfl, ?_⟩
          dsimp only
          generalize hz' : (z * 48271 + o * 40692 + (n + 1) * 69621 + 11) % 2305843009213693951 = z'
          have z0' : 0 ≤ z' := by
            rw [← hz']
            exact Int.emod_nonneg _ (by decide)
          have z1' : z' < 2305843009213693951 := by
            rw [← hz']
            exact Int.emod_lt_of_pos _ (by decide)
          have e1 : (upd H' st (.lst ([V.ref g, V.ref sm, V.int (n + 1), V.int z].set 3 (V.int z')))) st = some (.lst [V.ref g, V.ref sm, V.int (n + 1), V.int z']) := upd_same
          -- mixed = ..
          refine ⟨_, rfl, st, _, 3, _, rfl, rfl, SqL.of e1, atI_nat (j := 3) rfl, _, rfl, st, _, 3, _, rfl, rfl, SqL.of e1, atI_nat (j := 3) rfl, z', z', rfl, rfl, .inl ⟨by omega, by omega⟩, ?_⟩
          refine ⟨_, rfl, st, _, 2, _, rfl, rfl, SqL.of e1, atI_nat (j := 2) rfl, 1000003, n + 1, rfl, rfl, .inl (by decide), _, _, rfl, rfl, .inl ⟨_, rfl, ?_⟩⟩
          refine ⟨_, _, rfl, rfl, by show (0 : Int) < 2305843009213693921; decide, ?_⟩
          refine ⟨_, rfl, _, _, rfl, rfl, ⟨by decide, by decide⟩, .inl ⟨_, rfl, ?_⟩⟩
          refine ⟨_, rfl, _, m, rfl, rfl, m0, ?_⟩
          refine q _ _ (Int.emod_nonneg _ (by omega)) (Int.emod_lt_of_pos _ m0) (ex.trans (Ext.put (.inl rfl))) ⟨[], ss, n + 1, z', e1, ?_, ?_, fun y hy => (nomatch hy), spos, slen, by decide, by omega, z0', by omega, gsm⟩
          · rw [upd_ne nsg.symm]
            exact f2
          · rw [upd_ne nss.symm]
            exact f3

theorem cut63 (xs : List V) (h : xs.length ≤ 63) : cutV xs none (some 63) = xs := by
  unfold cutV
  rw [HT.sIx_none, show ((63 : Int)) = ((63 : Nat) : Int) from rfl, HT.sIx_nat, List.drop_zero, Nat.sub_zero, Nat.min_eq_right h, List.take_length]
theorem wipe1 {σ : L2.St} {j : Nat} (x : V) : wipe ((wipe σ [j]).set j (some x)) [j] = wipe σ [j] := by
  show ((σ.set j none).set j (some x)).set j none = σ.set j none
  rw [List.set_set, List.set_set]
theorem absI (n : Int) : (if n < 0 then -n else n) = (n.natAbs : Int) := by
  by_cases h : n < 0
  · rw [if_pos h]
    omega
  · rw [if_neg h]
    omega
open Evl in
theorem ev_int {σ : L2.St} {H : Hp} {te : TE} {n : Int} (h : Ev te σ H (.int n)) : Ev (tCB (fun (xs : List V) (H : Hp) (Q : VK) => (∃ i, xs = [.int i] ∧ Q (.int i) H) ∨ ∃ k, xs = [.bl k] ∧ Q (.int (if k then 1 else 0)) H) (tCons te tNil)) σ H (.int n) :=
  ev_cb (ea_cons h ea_nil) fun H1 _ Q q => .inl ⟨n, rfl, q H1 (Ex.refl H1)⟩
open Evl in
theorem ev_abs {σ : L2.St} {H : Hp} {te : TE} {n : Int} (h : Ev te σ H (.int n)) : Ev (tCB (fun (xs : List V) (H : Hp) (Q : VK) => ∃ i, xs = [.int i] ∧ Q (.int (if i < 0 then -i else i)) H) (tCons te tNil)) σ H (.int (n.natAbs : Int)) :=
  ev_cb (ea_cons h ea_nil) fun H1 _ Q q => ⟨n, rfl, by rw [absI]; exact q H1 (Ex.refl H1)⟩
open Evl in
theorem ok_start {f : Addr} {fd : FuncData} {k : Nat} (F : Fun K "_law_start" "_law_start" sStart f fd) (T : TxtD mg) : FnOk P w K mg base CX0 (k + 1) f fd ["_law_script"] (spStart K) := by
  refine F.ok scStart (fun vs H Q E h => ?_) (fun cdv A outer s H vs Q E hr h => ?_)
  · obtain ⟨a, ns, rfl, _⟩ := h
    rfl
  · obtain ⟨a, ns, rfl, hS, hlen, q⟩ := h
    refine ⟨_, pss_cons (ps_setLc (i := 1) (own := [("_law_cell", 4)]) (g := gName 4) (tt := tYes) rfl scStart.nd rfl rfl (sw_true rfl rfl rfl (by decide +kernel)) (pi_list (pe_slice sl_list (pv 0) po_none (po_some pe_int)))
          (blkOk_by (N := nStart) (sc := defScope sStart) (by decide +kernel)) (fun _ _ _ _ _ => pg_name (i := 4) scStart.nd rfl (.inl rfl)) (fun _ _ _ _ _ => pts_nil) (fun _ _ _ _ _ => pe_callTy call_int1 (by rfl) T.int boot_int (pa_cons (pv 4) pa_nil)))
      (pss_cons (ps_setLc (i := 2) (own := [("_law_cell", 4)]) (g := gName 4) rfl scStart.nd rfl rfl (sw_true rfl rfl rfl (by decide +kernel)) (pi_list (pv 1))
          (blkOk_by (N := nStart) (sc := defScope sStart) (by decide +kernel)) (fun _ _ _ _ _ => pg_name (i := 4) scStart.nd rfl (.inl rfl)) (fun _ _ _ _ _ => pts_one (pt_cmpR op_ge (pe_callB call_abs (by rfl) T.abs boot_abs (pa_cons (pv 4) pa_nil)) (pe_op op_pow pe_int pe_int) (nomark _)))
          (fun _ _ _ _ _ => pe_callB call_abs (by rfl) T.abs boot_abs (pa_cons (pv 4) pa_nil)))
      (pss_cons (ps_setLc (i := 3) (own := [("_law_cell", 4)]) (g := gName 4) rfl scStart.nd rfl rfl (sw_true rfl rfl rfl (by decide +kernel)) (pi_list (pv 1))
          (blkOk_by (N := nStart) (sc := defScope sStart) (by decide +kernel)) (fun _ _ _ _ _ => pg_name (i := 4) scStart.nd rfl (.inl rfl)) (fun _ _ _ _ _ => pts_one (pt_cmpR op_lt (pe_callB call_abs (by rfl) T.abs boot_abs (pa_cons (pv 4) pa_nil)) (pe_op op_pow pe_int pe_int) (nomark _)))
          (fun _ _ _ _ _ => pe_op op_add (pe_op op_mod (pe_callTy call_int1 (by rfl) T.int boot_int (pa_cons (pv 4) pa_nil)) pe_int) pe_int))
      (pss_one (ps_ret (pe_lst (pa_cons (pv 2) (pa_cons (pv 3) (pa_cons pe_int (pa_cons (pe_op op_add pe_int (pe_callB call_len_seq (by rfl) T.len PySem.boot_len (pa_cons (pv 1) pa_nil))) pa_nil))))))))), ?_⟩
    have hpow : ∀ (H1 : Hp) (σ : L2.St), Ev (tOp (rI CPow fun i j => V.int (i ^ j.toNat)) (tC (.int 10)) (tC (.int 18))) σ H1 (.int (10 ^ 18)) := fun H1 σ => ev_op ev_c ev_c (rv_I ⟨by decide, by decide, by decide⟩)
    -- cells
    refine q_asgL (el_mapN ns V.int (fun _ => true) V.int (by
      have z := el_sl (K := K) (te := tVar 0) (tl := tNoPart) (th := tPart (tC (.int 63))) (σ := start ["_law_script", "_law_cells", "_law_great", "_law_small", "_law_cell"] [V.ref a]) (H := H) (ev_var rfl) eo_none (eo_some ev_c) hS
      rw [cut63 _ (by rw [List.length_map]; exact hlen)] at z
      exact z) (by omega) wipe1 (fun x H1 _ _ => et_yes) (fun x H1 _ _ _ => ev_int (ev_var rfl))) fun c H1 nc e1 hc => ?_
    rw [List.filter_eq_self.mpr (fun _ _ => rfl)] at hc
    -- great
    refine q_asgL (el_map ns V.int (fun x => decide (10 ^ 18 ≤ (x.natAbs : Int))) (fun x => V.int (x.natAbs : Int)) (ev_var rfl) (SqL.of hc) (by omega) wipe1 (fun x H1 _ _ => et_test (ev_op (ev_abs (ev_var rfl)) (hpow _ _) rv_I0)) (fun x H1 _ _ _ => ev_abs (ev_var rfl))) fun g H2 ng e2 hg => ?_
    -- small
    refine q_asgL (el_map ns V.int (fun x => decide ((x.natAbs : Int) < 10 ^ 18)) (fun x => V.int (x % 2147483629 + 1)) (ev_var rfl) (SqL.of (e2 _ _ hc)) (by omega) wipe1 (fun x H1 _ _ => et_test (ev_op (ev_abs (ev_var rfl)) (hpow _ _) rv_I0)) (fun x H1 _ _ _ => ev_op (ev_op (ev_int (ev_var rfl)) ev_c (rv_I (by decide))) ev_c rv_I0)) fun sm H3 nsm e3 hsm => ?_
    -- return
    refine s_retL (el_lst (ea_cons (ev_var rfl) (ea_cons (ev_var rfl) (ea_cons ev_c (ea_cons (ev_op ev_c (ev_len (ev_var rfl) (SqL.of (e3 _ _ (e2 _ _ hc)))) rv_I0) ea_nil)))) (by show 4 ≤ 100000; decide)) fun st H4 nst e4 hst => ?_
    have f1 : H g = none := fresh_back e1 ng
    have f2 : H sm = none := fresh_back (e1.trans e2) nsm
    have f3 : H st = none := fresh_back ((e1.trans e2).trans e3) nst
    refine q H4 st g sm (((e1.trans e2).trans e3).trans e4) f3 f1 f2 ⟨(ns.filter fun x => decide (10 ^ 18 ≤ (x.natAbs : Int))).map fun x => (x.natAbs : Int), (ns.filter fun x => decide ((x.natAbs : Int) < 10 ^ 18)).map fun x => x % 2147483629 + 1, 0, 7 + (ns.length : Int), ?_, ?_, ?_, ?_, ?_, ?_, ?_, by decide, by omega, by omega, ?_⟩
    · rw [List.length_map] at hst
      exact hst
    · rw [List.map_map]
      exact e4 _ _ (e3 _ _ hg)
    · rw [List.map_map]
      exact e4 _ _ hsm
    · intro x hx
      obtain ⟨y, _, rfl⟩ := List.mem_map.mp hx
      omega
    · intro x hx
      obtain ⟨y, _, rfl⟩ := List.mem_map.mp hx
      have h1 := Int.emod_nonneg y (show (2147483629 : Int) ≠ 0 by decide)
      have h2 := Int.emod_lt_of_pos y (show (0 : Int) < 2147483629 by decide)
      omega
    · rw [List.length_map]
      exact Nat.le_trans (List.length_filter_le _ _) hlen
    · rw [List.length_map]
      exact Nat.le_trans (List.length_filter_le _ _) hlen
    · exact ne_of_none hg nsm

theorem ok_of {f fD : Addr} {fd fdD : FuncData} {k : Nat} (F : Fun K "_law_of" "_law_of" sOf f fd) (T : TxtD mg) (FD : Fun K "_law_draw" "_law_draw" sDraw fD fdD) (bD : Binds K fdD ["_law_state", "_law_many"] []) (gD : mg "_law_draw" = some (.ref fD)) :
    FnOk P w K mg base CX0 (k + 2) f fd ["_law_state", "_law_some"] (spOf K) := by
  have GD : FnOk P w K mg base CX0 (k + 1) fD fdD ["_law_state", "_law_many"] spDraw := ok_draw FD T
  refine F.ok scOf (fun vs H Q E h => ?_) (fun cdv A outer s H vs Q E hr h => ?_)
  · obtain ⟨st, g, sm, l, xs, rfl, _⟩ := h
    rfl
  · obtain ⟨st, g, sm, l, xs, rfl, hd, hl, nl, l0, l1, q⟩ := h
    refine ⟨_, pss_one (ps_ret (pe_ix ix_seq (pv 1) (pe_call GD hr rfl gD FD.kp bD .nil pass0 (pa_cons (pv 0) (pa_cons (pe_callB call_len_seq (by rfl) T.len PySem.boot_len (pa_cons (pv 1) pa_nil)) pa_nil))) (fun _ _ => rfl))), ?_⟩
    refine ⟨_, rfl, _, rfl, _, rfl, l, xs, rfl, hl, st, g, sm, _, rfl, hd, by omega, by omega, fun r H1 r0 r1 e1 d1 => ?_⟩
    obtain ⟨j, hj⟩ := Int.eq_ofNat_of_zero_le r0
    have hj2 : j < xs.length := by omega
    rcases hl with hl | hl
    · exact .inl ⟨l, xs, r, xs[j], rfl, rfl, e1.seq nl hl, at_of hj (List.getElem?_eq_getElem hj2), q j _ H1 (List.getElem?_eq_getElem hj2) e1 d1⟩
    · exact .inr (.inl ⟨l, xs, r, xs[j], rfl, rfl, e1.seqT nl hl, at_of hj (List.getElem?_eq_getElem hj2), q j _ H1 (List.getElem?_eq_getElem hj2) e1 d1⟩)
end
end Hc
set_option maxHeartbeats 4000000
/-! _law_word: some word that is free. -/
namespace Hy
open PySem PySem.Spec PyProof.Rows L2 Evl Hc Hs
structure LawP (mg : Str → Option Value) : Prop extends LibP mg where
  rng : mg "range" = none
  min : mg "min" = none
  set : mg "set" = none
  srt : mg "sorted" = none
def spLWord : Sp := fun vs H Q _ => ∃ (st g sm ta : Addr) (tk : List Nm), vs = [.ref st, .ref ta] ∧ DrawSt H st g sm ∧ H ta = some (.lst (tk.map sv)) ∧ ¬ Dr st g ta ∧ tk.length ≤ 7 ∧
  ∀ (w : List Nat) H', Small w → w ∉ tk → w ∉ resv → Hc.Ext (Dr st g) H H' → DrawSt H' st g sm → Q (sv w) H'
abbrev nLWord : List Str := ["_law_state", "_law_taken", "_law_letters", "_law_drawn", "_law_kept", "_law_ways", "_law_turn", "_law_letter", "_law_way"]
theorem scLWord : FnScope nLWord ["_law_state", "_law_taken"] (defScope sLWord) := ⟨rfl, rfl, rfl, by decide +kernel, rfl, by decide +kernel, by decide +kernel⟩
theorem join_single (cs : List Nat) : TL.joinL [] (cs.map fun c => [c]) = cs := by
  induction cs with
  | nil => rfl
  | cons c r ih =>
    cases r with
    | nil => rfl
    | cons d r =>
      show [c] ++ ([] ++ TL.joinL [] ((d :: r).map fun c => [c])) = c :: d :: r
      rw [ih]
      rfl
theorem sum_ones (cs : List Nat) : ((cs.map fun c => [c]).map List.length).sum = cs.length := by
  induction cs with
  | nil => rfl
  | cons c r ih =>
    rw [List.map_cons, List.map_cons, List.sum_cons, ih]
    show 1 + r.length = r.length + 1
    omega
theorem take7 (w : List Nat) : cutS (S w) none (some (7 : Int)) = S (w.take 7) := by
  have := cut_nn w 0 7
  unfold cutS at this ⊢
  rw [HT.sIx_none]
  rw [show ((0 : Nat) : Int) = 0 from rfl] at this
  have e0 : HT.sIx (S w).length 0 (some (0 : Int)) = 0 := by
    rw [show (0 : Int) = ((0 : Nat) : Int) from rfl, HT.sIx_nat]
    exact Nat.zero_min _
  rw [e0] at this
  rw [show (7 : Int) = ((7 : Nat) : Int) from rfl, this]
  rfl
section
variable {P : Program} {w : World} {K : PySem.W.Frag} {mg : Str → Option Value} {base : Heap}
theorem ok_lword {f : Addr} {fd : FuncData} {k : Nat} (F : Fun K "_law_word" "_law_word" sLWord f fd) (T : LawP mg) (rD : Rd P w K mg base "_law_draw" k ["_law_state", "_law_many"] spDraw) : FnOk P w K mg base CX0 (k + 1) f fd ["_law_state", "_law_taken"] spLWord := by
  refine F.ok scLWord (fun vs H Q E h => ?_) (fun cdv A outer s H vs Q E hr h => ?_)
  · obtain ⟨st, g, sm, ta, tk, rfl, _⟩ := h
    rfl
  · obtain ⟨st, g, sm, ta, tk, rfl, hd, hta, nta, htk, q⟩ := h
    refine ⟨_, pss_cons (ps_set (i := 2) scLWord.nd rfl (.inr rfl) pe_str)
      (pss_cons (ps_set (i := 3) scLWord.nd rfl (.inr rfl) (pe_join pe_str (pe_lc (own := [("_law_turn", 6)]) (g := gName 6) (tt := tYes) rfl scLWord.nd (pi_range1 (by rfl) T.rng (pa_cons (pe_op op_add pe_int (pe_rd rD hr (Nat.le_refl _) (by rfl) (pa_cons (pv 0) (pa_cons pe_int pa_nil)))) pa_nil)) (blkOk_by (N := nLWord) (sc := defScope sLWord) (by decide +kernel)) (fun _ _ _ _ _ => pg_name (i := 6) scLWord.nd rfl (.inl rfl)) (fun _ _ _ _ _ => pts_nil)
          (fun _ _ _ _ _ => pe_ix ix_str (pv 2) (pe_rd rD hr (Nat.le_refl _) (by rfl) (pa_cons (pv 0) (pa_cons pe_int pa_nil))) (fun _ _ => rfl)))))
      (pss_cons (ps_set (i := 4) scLWord.nd rfl (.inr rfl) (pe_lst (pa_cons pe_str (pa_cons pe_str (pa_cons pe_str (pa_cons pe_str (pa_cons pe_str (pa_cons pe_str (pa_cons pe_str (pa_cons pe_str (pa_cons pe_str (pa_cons pe_str (pa_cons pe_str (pa_cons pe_str (pa_cons pe_str (pa_cons pe_str pa_nil))))))))))))))))
      (pss_cons (ps_set (i := 5) scLWord.nd rfl (.inl rfl) (pe_op op_cat (pe_lst (pa_cons (pv 3) pa_nil)) (pe_lc (own := [("_law_letter", 7)]) (g := gName 7) (tt := tYes) rfl scLWord.nd (pi_str (pv 2)) (blkOk_by (N := nLWord) (sc := defScope sLWord) (by decide +kernel)) (fun _ _ _ _ _ => pg_name (i := 7) scLWord.nd rfl (.inl rfl)) (fun _ _ _ _ _ => pts_nil)
          (fun _ _ _ _ _ => pe_op op_add_str (pe_slice sl_str (pv 3) po_none (po_some pe_int)) (pv 7)))))
      (pss_one (ps_ret (pe_ix ix_list (pe_lc (own := [("_law_way", 8)]) (g := gName 8) (tt := tAnd (tTest (tOp (rIn K true) (tVar 8) (tVar 1))) (tTest (tOp (rIn K true) (tVar 8) (tVar 4)))) rfl scLWord.nd (pi_list (pv 5)) (blkOk_by (N := nLWord) (sc := defScope sLWord) (by decide +kernel)) (fun _ _ _ _ _ => pg_name (i := 8) scLWord.nd rfl (.inl rfl))
          (fun _ _ _ _ _ => pts_one (PW.pt (pw_and (pt_cmpR (show OpR _ (compareOp .NotIn) (rIn K true) from op_notIn_seq) (pv 8) (pv 1) (by rfl)) (pw_and1 (pt_cmpR (show OpR _ (compareOp .NotIn) (rIn K true) from op_notIn_seq) (pv 8) (pv 4) (by rfl)))))) (fun _ _ _ _ _ => pv 8)) pe_int (fun _ _ => rfl))))))), ?_⟩
    refine q_asg (v := sv smalls) ev_c fun H1 e1 => ?_
    have hd1 := hd.same e1
    refine q_asgX ?_
    refine ⟨⟨_, rfl⟩, ?_⟩
    refine ⟨_, rfl, st, g, sm, 7, rfl, hd1, by decide, by decide, fun r H2 r0 r7 e2 d2 => ?_⟩
    refine ⟨1, r, rfl, rfl, ?_⟩
    refine ⟨1 + r, rfl, by omega, by omega, fun D nD => ?_⟩
    have x2 : Hc.Ext (Dr st g) H H2 := (Hc.Ext.same e1).trans e2
    refine lc_range (lo := 0) (n := (1 + r).toNat) (fun i H' => ∃ cs : List Nat, cs.length = i ∧ (∀ c ∈ cs, c ∈ smalls) ∧ H' D = some (.lst (cs.map fun c => sv [c])) ∧ Hc.Ext (Dr st g) H2 H' ∧ DrawSt H' st g sm) ⟨[], rfl, (fun c hc => by cases hc), upd_same, Hc.Ext.new nD, d2.put (d2.off nD)⟩ (fun i H3 hi z => ?_) (fun H3 z => ?_)
    · obtain ⟨cs, hl, hs, hD, x3, d3⟩ := z
      refine ⟨Hs.wipe1 _, ?_⟩
      show (tOp rIxS (tVar 2) (tCall spDraw [] E0 (tCons (tVar 0) (tCons (tC (.int 26)) tNil)))) _ H3 _
      refine ⟨_, rfl, _, rfl, st, g, sm, 26, rfl, d3, by decide, by decide, fun r2 H4 r20 r26 e4 d4 => ?_⟩
      obtain ⟨j, rfl⟩ := Int.eq_ofNat_of_zero_le r20
      have hj : j < smalls.length := by
        show j < 26
        omega
      refine ⟨S smalls, (j : Int), smalls[j], rfl, rfl, (by show 26 ≤ sizeLine; decide), atI_nat (List.getElem?_eq_getElem hj), ?_⟩
      have hD4 := e4 _ _ hD (dr_off (d2.off nD))
      refine ⟨_, hD4, sz_lt (by rw [List.length_map]; omega), cs ++ [smalls[j]], by rw [List.length_append, hl]; rfl, ?_, ?_, (x3.trans e4).puts nD, d4.put (d2.off nD)⟩
      · intro c hc
        rcases List.mem_append.mp hc with hc | hc
        · exact hs c hc
        · rw [List.mem_singleton] at hc
          rw [hc]
          exact List.getElem_mem hj
      · rw [upd_same, List.map_append]
        rfl
    · obtain ⟨cs, hl, hs, hD, x3, d3⟩ := z
      have hpos : 1 ≤ cs.length ∧ cs.length ≤ 7 := by omega
      refine ⟨S [], D, (cs.map fun c => [c]).map S, rfl, rfl, .inl (sq_of (by rw [hD, List.map_map, List.map_map]; rfl)), ?_, ?_⟩
      · rw [List.map_map, List.length_map]
        have : ((fun x : Str => x.length) ∘ S) = List.length := funext fun a => S_len a
        rw [this, sum_ones, List.length_map, S_len]
        show cs.length + cs.length * 0 ≤ 16777216
        omega
      rw [join_S, join_single]
      have x03 : Hc.Ext (Dr st g) H H3 := x2.trans x3
      have hta3 := x03 _ _ hta nta
      refine q_asgL (xs := resv.map sv) (el_lst (vs := resv.map sv) (ea_cons ev_c (ea_cons ev_c (ea_cons ev_c (ea_cons ev_c (ea_cons ev_c (ea_cons ev_c (ea_cons ev_c (ea_cons ev_c (ea_cons ev_c (ea_cons ev_c (ea_cons ev_c (ea_cons ev_c (ea_cons ev_c (ea_cons ev_c ea_nil)))))))))))))) (by rw [List.length_map]; show 14 ≤ 100000; decide)) fun pk H4 npk e4 hpk => ?_
      refine q_asgL (xs := (cs :: smalls.map fun c => cs.take 7 ++ [c]).map sv) ?_ fun pw H5 npw e5 hpw => ?_
      · have z := el_lcS (H := H4) (σ := [some (.ref st), some (.ref ta), some (sv smalls), some (sv cs), some (.ref pk), none, none, none, none]) (L := smalls) (tl := tVar 2) (te := tOp (fun x y H Q => ∃ i j, x = .str i ∧ y = .str j ∧ i.length + j.length ≤ sizeLine ∧ Q (.str (i ++ j)) H) (tSl rSlS (tVar 3) tNoPart (tPart (tC (.int 7)))) (tVar 7)) (j := 7) (vs := [7]) (fun c => sv (cs.take 7 ++ [c])) (ev_var rfl) (by decide) Hs.wipe1 (fun c H6 e6 hc => ev_addS (by rw [List.length_take]; show _ + 1 ≤ 30000; omega) (Evl.ev_is (ev_slS (lo := none) (hi := some 7) (ev_var rfl) eo_none (eo_some ev_c) (by rw [S_len]; exact sz_of (by omega))) (by rw [take7])) (ev_var rfl))
        have e : (cs :: smalls.map fun c => cs.take 7 ++ [c]).map sv = [sv cs] ++ smalls.map fun c => sv (cs.take 7 ++ [c]) := by
          rw [List.map_cons, List.map_map]
          rfl
        rw [e]
        exact el_cat (el_lst (ea_cons (ev_var rfl) ea_nil) (show 1 ≤ 100000 by decide)) z (by rw [List.length_map]; show 1 + 26 ≤ 100000; decide)
      · generalize hways : (cs :: smalls.map fun c => cs.take 7 ++ [c]) = ways at hpw
        have hta5 := e5 _ _ (e4 _ _ hta3)
        have hpk5 := e5 _ _ hpk
        have hsm : ∀ x ∈ ways, Small x := fun x hx => by
          rw [← hways] at hx
          rcases List.mem_cons.mp hx with rfl | hx
          · exact ⟨hs, by omega, hpos.1⟩
          · obtain ⟨c, hc, rfl⟩ := List.mem_map.mp hx
            refine ⟨fun y hy => ?_, by rw [List.length_append, List.length_take, List.length_singleton]; omega, by rw [List.length_append, List.length_singleton]; omega⟩
            rcases List.mem_append.mp hy with hy | hy
            · exact hs y (List.mem_of_mem_take hy)
            · rw [List.mem_singleton] at hy
              rw [hy]
              exact hc
        have hwl : ways.length = 27 := by
          rw [← hways, List.length_cons, List.length_map]
          rfl
        have z := el_map (K := K) (H := H5) (σ := [some (.ref st), some (.ref ta), some (sv smalls), some (sv cs), some (.ref pk), some (.ref pw), none, none, none]) (a := pw) (tl := tVar 5) (te := tVar 8) (t := tAnd (tTest (tOp (rIn K true) (tVar 8) (tVar 1))) (tTest (tOp (rIn K true) (tVar 8) (tVar 4)))) (j := 8) (vs := [8]) ways sv (fun x => !decide (x ∈ tk) && !decide (x ∈ resv)) sv (ev_var rfl) (sq_of hpw) (by omega) Hs.wipe1
          (fun x H6 e6 hx => et_and (et_test (ev_niLs (ev_var rfl) (ev_var rfl) (sq_of (e6 _ _ hta5)))) fun _ => et_test (ev_niLs (ev_var rfl) (ev_var rfl) (sq_of (e6 _ _ hpk5)))) (fun x H6 e6 hx _ => ev_var rfl)
        obtain ⟨x, rest, hfil⟩ : ∃ x rest, ways.filter (fun x => !decide (x ∈ tk) && !decide (x ∈ resv)) = x :: rest := by
          obtain ⟨c, hc, hno⟩ := free_word (w := cs) hs htk
          have hin : (cs.take 7 ++ [c]) ∈ ways.filter (fun x => !decide (x ∈ tk) && !decide (x ∈ resv)) := by
            refine List.mem_filter.mpr ⟨?_, ?_⟩
            · rw [← hways]
              exact List.mem_cons_of_mem _ (List.mem_map.mpr ⟨c, hc, rfl⟩)
            · rw [List.mem_append, not_or] at hno
              rw [decide_eq_false hno.1, decide_eq_false hno.2]
              rfl
          cases q2 : ways.filter (fun x => !decide (x ∈ tk) && !decide (x ∈ resv)) with
          | nil => rw [q2] at hin; cases hin
          | cons x rest => exact ⟨x, rest, rfl⟩
        rw [hfil] at z
        have hx : x ∈ ways.filter (fun x => !decide (x ∈ tk) && !decide (x ∈ resv)) := by rw [hfil]; exact List.mem_cons_self
        obtain ⟨hx1, hx2⟩ := List.mem_filter.mp hx
        rw [Bool.and_eq_true, Bool.not_eq_true', Bool.not_eq_true', decide_eq_false_iff_not, decide_eq_false_iff_not] at hx2
        refine s_ret (v := sv x) (ev_opL1 z (fun _ _ => ev_c) fun p H6 hp e6 => rv_ixL (sq_of hp) (atI_nat (j := 0) rfl)) fun H6 e6 => ?_
        exact q x H6 (hsm x hx1) hx2.1 hx2.2 ((x03.trans (Hc.Ext.same (e4.trans e5))).trans (Hc.Ext.same e6)) ((d3.same (e4.trans e5)).same e6)
end
end Hy
set_option maxHeartbeats 4000000
/-! _law_merge. -/
namespace Hy
open PySem PySem.Spec PyProof.Rows L2 Evl Hc Hs
abbrev nLMerge : List Str := ["_law_rows", "_law_result", "_law_left", "_law_heads", "_law_free", "_law_row", "_law_head", "_law_name"]
theorem scLMerge : FnScope nLMerge ["_law_rows"] (defScope sLMerge) := ⟨rfl, rfl, rfl, by decide +kernel, rfl, by decide +kernel, by decide +kernel⟩
/-- the scopes of the two comprehensions that hold another -/
def scHd : Scope := { kind := ScopeKind.function, names := [(".0", .local), ("_law_head", .cell), ("all", .globalImplicit), ("_law_left", .cell)], isGenerator := false, isCoroutine := false }
def scRw : Scope := { kind := ScopeKind.function, names := [(".0", .local), ("_law_row", .local), ("_law_free", .cell)], isGenerator := false, isCoroutine := false }
/-- between the turns of _law_merge -/
def MW2 (H : Hp) (a pf : Addr) (rs : Rows Nm) (m : Nat) (σ' : L2.St) (H' : Hp) : Prop := ∃ (fnd : List Nm) (pr : Addr) (ms : List Rw) (v3 v4 : Option V), σ' = [some (.ref a), some (.ref pf), some (.ref pr), v3, v4, none, none, none] ∧ Ex H H' ∧ H' pf = some (.lst (fnd.map sv)) ∧ H' pr = some (.lst (ms.map rf)) ∧ pr ≠ pf ∧ (∀ n ∈ ms, n.1 ≠ pf) ∧ RowsOk H' ms ∧
      ms.length ≤ 1000 ∧ full (ms.map (·.2)) = ms.map (·.2) ∧ (∀ n ∈ ms, n.2.length ≤ 1000) ∧ m = total (ms.map (·.2)) ∧ fnd.length + m ≤ 1000 ∧ (merge (ms.map (·.2))).map (fnd ++ ·) = merge rs
theorem et_neS {σ : L2.St} {H : Hp} {ta tb : TE} {a b : Nm} (h1 : Ev ta σ H (sv a)) (h2 : Ev tb σ H (sv b)) : EvT (tTest (tOp rNe ta tb)) σ H (decide (a ≠ b)) := et_is (et_test (ev_neS h1 h2)) (by rw [decide_not])
theorem heads_ms {ms : List Rw} (h : ∀ n ∈ ms, n.2 ≠ []) : heads (ms.map (·.2)) = ms.map fun n => n.2.headD [] := by
  induction ms with
  | nil => rfl
  | cons n r ih =>
    cases q : n.2 with
    | nil => exact absurd q (h n List.mem_cons_self)
    | cons x t =>
      show heads (n.2 :: r.map (·.2)) = n.2.headD [] :: r.map fun n => n.2.headD []
      rw [q, heads_cons, ih fun m hm => h m (List.mem_cons_of_mem _ hm)]
      rfl
theorem all_free (x : Nm) (ms : List Rw) : (ms.map fun n => !decide (x ∈ n.2.tail)).all id = freeIn (ms.map (·.2)) x := by
  unfold freeIn
  rw [List.all_map, List.all_map, Bool.eq_iff_iff]
  simp
section
variable {P : Program} {w : World} {K : PySem.W.Frag} {mg : Str → Option Value} {base : Heap}
theorem ok_lmerge {f : Addr} {fd : FuncData} {k : Nat} (F : Fun K "_law_merge" "_law_merge" sLMerge f fd) (T : LibP mg) : FnOk P w K mg base CX0 (k + 1) f fd ["_law_rows"] (spMerged K) := by
  refine F.ok scLMerge (fun vs H Q E h => ?_) (fun cdv A outer s H vs Q E hr h => ?_)
  · obtain ⟨a, ns, rfl, _⟩ := h
    rfl
  · obtain ⟨a, ns, rfl, ha, hn, hl, hT, q⟩ := h
    refine ⟨_, pss_cons (ps_set (i := 1) scLMerge.nd rfl (.inl rfl) (pe_lst pa_nil))
      (pss_cons (ps_set (i := 2) scLMerge.nd rfl (.inr rfl) (pe_lc (own := [("_law_row", 5)]) (g := gName 5) (tt := tTru K (tVar 5)) rfl scLMerge.nd (pi_list (pv 0)) (blkOk_by (N := nLMerge) (sc := defScope sLMerge) (by decide +kernel)) (fun _ _ _ _ _ => pg_name (i := 5) scLMerge.nd rfl (.inl rfl)) (fun _ _ _ _ _ => pts_one (show PT _ _ (tTru K (tVar 5)) from pt_truth (pv 5) (by intro _; rfl)))
          (fun _ _ _ _ _ => show PE _ _ (tCB (rListS K) (tCons (tVar 5) tNil)) from pe_callTy call_list_of (by rfl) T.lst boot_list' (pa_cons (pv 5) pa_nil))))
      (pss_cons (ps_while PassesOwn.never (pt_truth (pv 2) (by intro _; rfl))
        (pss_cons (ps_setLc (i := 3) (own := [("_law_row", 5)]) (g := gName 5) (tt := tYes) rfl scLMerge.nd rfl rfl (sw_true rfl rfl rfl (by decide +kernel)) (pi_list (pv 2)) (blkOk_by (N := nLMerge) (sc := defScope sLMerge) (by decide +kernel)) (fun _ _ _ _ _ => pg_name (i := 5) scLMerge.nd rfl (.inl rfl)) (fun _ _ _ _ _ => pts_nil)
            (fun _ _ _ _ _ => pe_ix (show IxR _ (rIxL K) from ix_list) (pv 5) pe_int (fun _ _ => rfl)))
        (pss_cons (ps_set (i := 4) scLMerge.nd rfl (.inr rfl) (pe_lc (own := [("_law_head", 6)]) (g := gName 6) (tt := tB (tCB (rAll K) (tCons (tLc (iList K (tVar 2)) (gName 5) tYes (tOp (rIn K true) (tVar 6) (tSl (rSlL K) (tVar 5) (tPart (tC (.int 1))) tNoPart)) [5]) tNil))) rfl scLMerge.nd (pi_list (pv 3)) (blkOk_by (N := nLMerge) (sc := defScope sLMerge) (by decide +kernel)) (fun _ _ _ _ _ => pg_name (i := 6) scLMerge.nd rfl (.inr rfl))
            (fun _ _ _ _ _ => pts_one (pt_val (pe_callB (show CallR _ (.builtin "all") (rAll K) from cr_all rfl) (by rfl) T.all boot_all (pa_cons (pe_lc (own := [("_law_row", 5)]) (g := gName 5) (tt := tYes) rfl scLMerge.nd (show PI _ _ _ (iList K (tVar 2)) from pi_list (pv 2)) (blkOk_by (N := nLMerge) (sc := scHd) (by decide +kernel)) (fun _ _ _ _ _ => pg_name (i := 5) scLMerge.nd rfl (.inl rfl)) (fun _ _ _ _ _ => pts_nil)
                (fun _ _ _ _ _ => pe_cmpR (show OpR _ (compareOp .NotIn) (rIn K true) from op_notIn_seq) (pv 6) (pe_slice (show SlR _ (rSlL K) from sl_list) (pv 5) (po_some pe_int) po_none) (by rfl))) pa_nil)))) (fun _ _ _ _ _ => pv 6)))
        (pss_cons (ps_if (pt_not (pt_truth (pv 4) (by intro _; rfl))) (pss_one (ps_ret pe_non)) pss_nil)
        (pss_cons (ps_expr (pe_bm PySem.F.plainAttrs_list PySem.F.slot_list_append PySem.F.type_list_append mt_append (pv 1) (pa_cons (pe_ix ix_list (pv 4) pe_int (fun _ _ => rfl)) pa_nil)))
        (pss_cons (ps_set (i := 2) scLMerge.nd rfl (.inr rfl) (pe_lc (own := [("_law_row", 5)]) (g := gName 5) (tt := tYes) rfl scLMerge.nd (pi_list (pv 2)) (blkOk_by (N := nLMerge) (sc := defScope sLMerge) (by decide +kernel)) (fun _ _ _ _ _ => pg_name (i := 5) scLMerge.nd rfl (.inl rfl)) (fun _ _ _ _ _ => pts_nil)
            (fun _ _ _ _ _ => pe_lc (own := [("_law_name", 7)]) (g := gName 7) (tt := tTest (tOp rNe (tVar 7) (tOp (rIxL K) (tVar 4) (tC (.int 0))))) rfl scLMerge.nd (show PI _ _ _ (iList K (tVar 5)) from pi_list (pv 5)) (blkOk_by (N := nLMerge) (sc := scRw) (by decide +kernel)) (fun _ _ _ _ _ => pg_name (i := 7) scLMerge.nd rfl (.inl rfl))
              (fun _ _ _ _ _ => pts_one (pt_cmpR op_ne (pv 7) (pe_ix (show IxR _ (rIxL K) from ix_list) (pv 4) pe_int (fun _ _ => rfl)) (nomark _))) (fun _ _ _ _ _ => pv 7))))
        (pss_one (ps_set (i := 2) scLMerge.nd rfl (.inr rfl) (pe_lc (own := [("_law_row", 5)]) (g := gName 5) (tt := tTru K (tVar 5)) rfl scLMerge.nd (pi_list (pv 2)) (blkOk_by (N := nLMerge) (sc := defScope sLMerge) (by decide +kernel)) (fun _ _ _ _ _ => pg_name (i := 5) scLMerge.nd rfl (.inl rfl)) (fun _ _ _ _ _ => pts_one (show PT _ _ (tTru K (tVar 5)) from pt_truth (pv 5) (by intro _; rfl))) (fun _ _ _ _ _ => pv 5))))))))))
      (pss_one (ps_ret (pv 1))))), ?_⟩
    refine q_asgL (xs := []) (el_lst ea_nil (Nat.zero_le _)) fun pf H1 nf f1 hf => ?_
    generalize hrs : ns.map (·.2) = rs at q hT
    refine q_asgX ?_
    refine el_made (K := K) (σ := [some (.ref a), some (.ref pf), none, none, none, none, none, none]) (tl := tVar 0) (te := tCB (rListS K) (tCons (tVar 5) tNil)) (t := tTru K (tVar 5)) (j := 5) (vs := [5]) (fun _ => False) ns rf (fun n => !n.2.isEmpty) (fun n => n.2.map sv) (fun b hb => hb.elim) (ev_var rfl) (ex_l f1 ha) (Nat.le_trans hl (by decide)) Hs.wipe1 (fun n H3 e3 hm => ?_) (fun n H3 e3 hm _ => ?_) H1 (Ex.refl H1) _ fun pr ms0 H2 npr f2 hpr hm0 made0 old0 => ?_
    · have z := et_truth (K := K) (σ := [some (.ref a), some (.ref pf), none, none, none, some (.ref n.1), none, none]) (te := tVar 5) (H := H3) (xs := n.2.map sv) (ev_var rfl) (sq_of (e3 _ _ (f1 _ _ (hn n hm))))
      rw [List.isEmpty_map] at z
      exact z
    · exact EvN.new (el_list (ev_var rfl) (sq_of (e3 _ _ (f1 _ _ (hn n hm)))))
    let ms : List Rw := ms0.map fun m => (m.1, m.2.2)
    have hmsr : ms0.map mr = ms.map rf := by
      show _ = (ms0.map _).map rf
      rw [List.map_map]
      rfl
    have hms2 : ms.map (·.2) = full rs := by
      show (ms0.map _).map _ = _
      rw [List.map_map, ← hrs, ← full_map, ← hm0, List.map_map]
      rfl
    rw [hmsr] at hpr
    have hpfm : ∀ n ∈ ms, n.1 ≠ pf := fun n hm zz => by
      obtain ⟨m, hm1, rfl⟩ := List.mem_map.mp hm
      rcases old0 m hm1 with h | h
      · rw [show m.1 = pf from zz, hf] at h
        cases h
      · exact h
    have rom : RowsOk H2 ms := fun n hm => by
      obtain ⟨m, hm1, rfl⟩ := List.mem_map.mp hm
      exact made0 m hm1
    have lenm : ms.length ≤ 1000 := by
      rw [← List.length_map (f := fun n : Rw => n.2), hms2]
      unfold full
      refine Nat.le_trans (List.length_filter_le _ _) ?_
      rw [← hrs, List.length_map]
      exact hl
    have hmem_le : ∀ r ∈ rs, r.length ≤ 1000 := fun r hr => Nat.le_trans (total_mem hr) hT
    refine q_while (MW2 H a pf rs) (total (full rs)) ⟨[], pr, ms, none, none, rfl, f1.trans f2, f2 _ _ hf, hpr, ne_of_none' (f2 _ _ hf) hpr npr hf, hpfm, rom, lenm, by rw [hms2, full_full], fun n hm => hmem_le _ (mem_full.mp (by rw [← hms2]; exact List.mem_map.mpr ⟨n, hm, rfl⟩)).1, by rw [hms2], by rw [total_full]; simpa using hT, by rw [hms2, merge_full]; cases merge rs <;> rfl⟩ (fun m σ' H' hw => ?_)
    clear hms2 rom lenm hpfm hpr hmsr hm0 made0 old0 npr
    obtain ⟨fnd, pr, ms, v3, v4, rfl, e, hpf', hpr', hne, hms, hro, hml, hfl, hll, rfl, hb, hmg⟩ := hw
    have hnn : ∀ n ∈ ms, n.2 ≠ [] := fun n hm => (mem_full.mp (by rw [hfl]; exact List.mem_map.mpr ⟨n, hm, rfl⟩)).2
    refine ⟨!(ms.map rf).isEmpty, et_truth (ev_var rfl) (sq_of hpr'), fun hb1 H3 f3 => ?_, fun hb1 H3 f3 => ?_⟩
    · have h0 : ms.map (·.2) ≠ [] := by
        intro z
        rw [List.map_eq_nil_iff] at z
        rw [z] at hb1
        cases hb1
      refine ⟨fun σ2 H2 => ∃ m', m' < total (ms.map (·.2)) ∧ MW2 H a pf rs m' σ2 H2, fun _ _ h => h, ?_⟩
      generalize hrs2 : ms.map (·.2) = rs2 at h0 hfl hb hmg ⊢
      -- heads
      have hhd : (heads rs2).map sv = ms.map fun n => sv (n.2.headD []) := by
        rw [← hrs2, heads_ms hnn, List.map_map]
        rfl
      refine q_asgL (xs := (heads rs2).map sv) ?_ fun ph H4 nph f4 hph => ?_
      · have z := el_map (K := K) (H := H3) (σ := [some (.ref a), some (.ref pf), some (.ref pr), v3, v4, none, none, none]) (a := pr) (tl := tVar 2) (te := tOp (rIxL K) (tVar 5) (tC (.int 0))) (t := tYes) (j := 5) (vs := [5]) ms rf (fun _ => true) (fun n => sv (n.2.headD [])) (ev_var rfl) (sq_of (f3 _ _ hpr')) (Nat.le_trans hml (by decide)) Hs.wipe1 (fun _ _ _ _ => et_yes) (fun n H5 e5 hm _ => by
          have hn5 := e5 _ _ (f3 _ _ (hro n hm))
          cases q2 : n.2 with
          | nil => exact absurd q2 (hnn n hm)
          | cons x t =>
            rw [q2] at hn5
            exact ev_head (ev_var rfl) (sq_of hn5))
        rw [List.filter_eq_self.mpr (fun _ _ => rfl)] at z
        rw [hhd]
        exact z
      have hlh : (heads rs2).length ≤ 1000 := by
        rw [← List.length_map (f := sv), hhd, List.length_map]
        exact hml
      have e4 := f3.trans f4
      -- free
      refine q_asgL (xs := ((heads rs2).filter (freeIn rs2)).map sv) ?_ fun pe H5 npe f5 hpe => ?_
      · refine el_map (K := K) (H := H4) (σ := [some (.ref a), some (.ref pf), some (.ref pr), some (.ref ph), v4, none, none, none]) (a := ph) (tl := tVar 3) (te := tVar 6) (j := 6) (vs := [6]) (heads rs2) sv (freeIn rs2) sv (ev_var rfl) (sq_of hph) (Nat.le_trans hlh (by decide)) Hs.wipe1 (fun x H6 e6 hx => ?_) (fun x H6 e6 hx _ => ev_var rfl)
        refine et_is (et_B (ev_all (bs := ms.map fun n => !decide (x ∈ n.2.tail)) ?_)) (by rw [all_free, hrs2])
        have z := el_map (K := K) (H := H6) (σ := [some (.ref a), some (.ref pf), some (.ref pr), some (.ref ph), v4, none, some (sv x), none]) (a := pr) (tl := tVar 2) (te := tOp (rIn K true) (tVar 6) (tSl (rSlL K) (tVar 5) (tPart (tC (.int 1))) tNoPart)) (t := tYes) (j := 5) (vs := [5]) ms rf (fun _ => true) (fun n => V.bl (!decide (x ∈ n.2.tail))) (ev_var rfl) (sq_of ((e4.trans e6) _ _ hpr')) (Nat.le_trans hml (by decide)) Hs.wipe1 (fun _ _ _ _ => et_yes) (fun n H7 e7 hm _ =>
          ev_niL (ev_var rfl) (el_tail (ev_var rfl) (sq_of (((e4.trans e6).trans e7) _ _ (hro n hm)))))
        rw [List.filter_eq_self.mpr (fun _ _ => rfl)] at z
        rw [List.map_map]
        exact z
      have e5 := e4.trans f5
      have hnx : nextOf rs2 = ((heads rs2).filter (freeIn rs2)).head? := by
        rw [List.head?_filter]
        rfl
      generalize (heads rs2).filter (freeIn rs2) = fr at hpe hnx
      refine q_when (et_not (et_truth (ev_var rfl) (sq_of hpe))) (fun hbN H6 f6 => ?_) (fun hbN H6 f6 => ?_)
      · have hfr : fr = [] := by
          cases fr with
          | nil => rfl
          | cons x r => cases hbN
        rw [hfr] at hnx
        have hm2 : merge rs = none := by
          rw [← hmg, merge_step hfl h0, hnx]
          rfl
        rw [hm2] at q
        exact s_ret ev_c fun H7 f7 => q H7 (((e.trans e5).trans f6).trans f7)
      · obtain ⟨t, fr', hfr⟩ : ∃ t fr', fr = t :: fr' := by
          cases fr with
          | nil => cases hbN
          | cons x r => exact ⟨x, r, rfl⟩
        rw [hfr] at hnx hpe
        replace hnx : nextOf rs2 = some t := hnx
        have ec := total_cut (next_mem hnx).1
        have e6 := e5.trans f6
        have hpe6 := f6 _ _ hpe
        refine q_app (l := pf) (xs := fnd.map sv) (e6 _ _ hpf') (ev_var rfl) (v := sv t) (ev_head (ev_var rfl) (sq_of hpe6)) (by rw [List.length_map]; omega) fun H7 f7 => ?_
        have e7 := e6.trans f7
        have pe_pf : pe ≠ pf := fun z => by
          rw [z, e4 _ _ hpf'] at npe
          cases npe
        have hpf7 : (upd H7 pf (.lst (fnd.map sv ++ [sv t]))) pf = some (.lst ((fnd ++ [t]).map sv)) := by
          rw [upd_same, List.map_append]
          rfl
        have hpr7 : (upd H7 pf (.lst (fnd.map sv ++ [sv t]))) pr = some (.lst (ms.map rf)) := by
          rw [upd_ne hne]
          exact e7 _ _ hpr'
        have hpe7 : (upd H7 pf (.lst (fnd.map sv ++ [sv t]))) pe = some (.lst ((t :: fr').map sv)) := by
          rw [upd_ne pe_pf]
          exact f7 _ _ hpe6
        have hro7 : RowsOk (upd H7 pf (.lst (fnd.map sv ++ [sv t]))) ms := fun n hm => by
          rw [upd_ne (hms n hm)]
          exact e7 _ _ (hro n hm)
        have eH7 : Ex H (upd H7 pf (.lst (fnd.map sv ++ [sv t]))) := (e.trans e7).mut nf
        generalize upd H7 pf (.lst (fnd.map sv ++ [sv t])) = H8 at hpf7 hpr7 hpe7 hro7 eH7 ⊢
        refine q_asgX ?_
        refine el_made (K := K) (j := 5) (vs := [5]) (t := tYes) (σ := [some (.ref a), some (.ref pf), some (.ref pr), some (.ref ph), some (.ref pe), none, none, none]) (tl := tVar 2) (te := tLc (iList K (tVar 5)) (gName 7) (tTest (tOp rNe (tVar 7) (tOp (rIxL K) (tVar 4) (tC (.int 0))))) (tVar 7) [7]) (fun _ => False) ms rf (fun _ => true) (fun n => (n.2.filter fun x => decide (x ≠ t)).map sv) (fun b hb => hb.elim) (ev_var rfl) (sq_of hpr7) (Nat.le_trans hml (by decide)) Hs.wipe1 (fun _ _ _ _ => et_yes) (fun n H9 e9 hm _ => ?_) H8 (Ex.refl H8) _ fun Dc ms2 H9 n9 e9 h9 hm9 made9 old9 => ?_
        · refine EvN.new ?_
          exact el_map (K := K) (H := H9) (σ := [some (.ref a), some (.ref pf), some (.ref pr), some (.ref ph), some (.ref pe), some (.ref n.1), none, none]) (a := n.1) (j := 7) (vs := [7]) n.2 sv (fun x => decide (x ≠ t)) sv (ev_var rfl) (sq_of (e9 _ _ (hro7 n hm))) (Nat.le_trans (hll n hm) (by decide)) Hs.wipe1 (fun x H10 e10 hx => et_neS (ev_var rfl) (ev_head (ev_var rfl) (sq_of ((e9.trans e10) _ _ hpe7)))) (fun x H10 e10 hx _ => ev_var rfl)
        · rw [List.filter_eq_self.mpr (fun _ _ => rfl)] at hm9
          let ms3 : List Rw := ms2.map fun m => (m.1, m.2.2.filter fun x => decide (x ≠ t))
          have h3 : ms2.map mr = ms3.map rf := by
            show _ = (ms2.map _).map rf
            rw [List.map_map]
            rfl
          have h3r : ms3.map (·.2) = rs2.map (cutRow t) := by
            rw [cut_all (next_mem hnx).2, ← hrs2, ← hm9]
            show (ms2.map _).map _ = _
            rw [List.map_map, List.map_map, List.map_map]
            rfl
          have ro3 : RowsOk H9 ms3 := fun n hm => by
            obtain ⟨m, hm1, rfl⟩ := List.mem_map.mp hm
            exact made9 m hm1
          have len3 : ms3.length ≤ 1000 := by
            rw [← List.length_map (f := fun n : Rw => n.2), h3r, List.length_map, ← hrs2, List.length_map]
            exact hml
          have pf3 : ∀ n ∈ ms3, n.1 ≠ pf := fun n hm zz => by
            obtain ⟨m, hm1, rfl⟩ := List.mem_map.mp hm
            rcases old9 m hm1 with h | h
            · rw [show m.1 = pf from zz, hpf7] at h
              cases h
            · exact h
          have ll3 : ∀ n ∈ ms3, n.2.length ≤ 1000 := fun n hm => by
            obtain ⟨m, hm1, rfl⟩ := List.mem_map.mp hm
            refine Nat.le_trans (List.length_filter_le _ _) (hll m.2 ?_)
            rw [← hm9]
            exact List.mem_map.mpr ⟨m, hm1, rfl⟩
          rw [h3] at h9
          have hcut : ((ms3.filter fun n => !n.2.isEmpty).map (·.2)) = cut t rs2 := by
            rw [full_map, h3r]
            rfl
          show tAsg _ _ _ [some (.ref a), some (.ref pf), some (.ref Dc), some (.ref ph), some (.ref pe), none, none, none] H9
          refine s_asgL (xs := (ms3.filter fun n : Rw => !n.2.isEmpty).map rf) (el_map (K := K) (tl := tVar 2) (te := tVar 5) (t := tTru K (tVar 5)) (σ := [some (.ref a), some (.ref pf), some (.ref Dc), some (.ref ph), some (.ref pe), none, none, none]) (j := 5) (vs := [5]) ms3 rf (fun n => !n.2.isEmpty) rf (ev_var rfl) (sq_of h9) (Nat.le_trans len3 (by decide)) Hs.wipe1 (fun n H10 e10 hm => ?_) (fun n H10 e10 hm _ => ev_var rfl)) fun pr2 H10 n10 f10 h10 => ?_
          · have z := et_truth (K := K) (σ := [some (.ref a), some (.ref pf), some (.ref Dc), some (.ref ph), some (.ref pe), some (.ref n.1), none, none]) (te := tVar 5) (H := H10) (xs := n.2.map sv) (ev_var rfl) (sq_of (e10 _ _ (ro3 n hm)))
            rw [List.isEmpty_map] at z
            exact z
          refine ⟨total (cut t rs2), ec, fnd ++ [t], pr2, ms3.filter (fun n => !n.2.isEmpty), some (.ref ph), some (.ref pe), rfl, (eH7.trans e9).trans f10, f10 _ _ (e9 _ _ hpf7), h10, ne_of_none' (f10 _ _ (e9 _ _ hpf7)) h10 n10 (e9 _ _ hpf7), fun n hm => pf3 n (List.mem_filter.mp hm).1, fun n hm => f10 _ _ (ro3 n (List.mem_filter.mp hm).1), Nat.le_trans (List.length_filter_le _ _) len3, by rw [hcut, full_cut], fun n hm => ll3 n (List.mem_filter.mp hm).1, by rw [hcut], ?_, ?_⟩
          · rw [List.length_append, List.length_singleton]
            omega
          · rw [hcut, ← hmg, merge_step hfl h0, hnx]
            show Option.map _ (merge (cut t rs2)) = Option.map _ (Option.map _ (merge (cut t rs2)))
            cases merge (cut t rs2) with
            | none => rfl
            | some r => simp
    · have h0 : ms = [] := by
        cases ms with
        | nil => rfl
        | cons n r => cases hb1
      subst h0
      have hm2 : merge rs = some fnd := by
        rw [← hmg, merge_nil (by rfl)]
        simp
      rw [hm2] at q
      exact s_ret (ev_var rfl) fun H4 f4 => q pf H4 nf ((e.trans f3).trans f4) (f4 _ _ (f3 _ _ hpf'))
end
end Hy
set_option maxHeartbeats 4000000
/-! _law_bases, _law_line, _law_told. -/
namespace Hy
open PySem PySem.Spec PyProof.Rows L2 Evl Hc Hs
theorem boot_min' : bootBuiltins "min" = some (.builtin "min") := by decide +kernel
abbrev nLBases : List Str := ["_law_state", "_law_names", "_law_chosen", "_law_left", "_law_turn"]
theorem scLBases : FnScope nLBases ["_law_state", "_law_names"] (defScope sLBases) := ⟨rfl, rfl, rfl, by decide +kernel, rfl, by decide +kernel, by decide +kernel⟩
def spLBases : Sp := fun vs H Q _ => ∃ (st g sm na : Addr) (nm : List Nm), vs = [.ref st, .ref na] ∧ DrawSt H st g sm ∧ H na = some (.lst (nm.map sv)) ∧ ¬ Dr st g na ∧ nm.Nodup ∧ nm.length ≤ 100 ∧
  ∀ (bs : List Nm) p H', bs.Nodup → bs.length ≤ 3 → (∀ b ∈ bs, b ∈ nm) → H p = none → Hc.Ext (Dr st g) H H' → DrawSt H' st g sm → H' p = some (.lst (bs.map sv)) → Q (.ref p) H'
abbrev nLLine : List Str := ["_law_name", "_law_bases_here"]
theorem scLLine : FnScope nLLine ["_law_name", "_law_bases_here"] (defScope sLLine) := ⟨rfl, rfl, rfl, by decide +kernel, rfl, by decide +kernel, by decide +kernel⟩
def spLLine : Sp := fun vs H Q _ => ∃ (n : Nm) (p : Addr) (bs : List Nm), vs = [sv n, .ref p] ∧ H p = some (.lst (bs.map sv)) ∧ GoodNm n ∧ (∀ b ∈ bs, GoodNm b) ∧ bs.length ≤ 3 ∧ ∀ H', Ex H H' → Q (sv (cline n bs)) H'
abbrev nLTold : List Str := ["_law_lines", "_law_told_here", "e"]
theorem scLTold : FnScope nLTold ["_law_lines"] (defScope sLTold) := ⟨rfl, rfl, rfl, by decide +kernel, rfl, by decide +kernel, by decide +kernel⟩
def spLTold : Sp := fun vs H Q _ => ∃ (a : Addr) (ls : List Ln) (n : Nm) (bs : List Nm) (tl : List (List Nat)), vs = [.ref a] ∧ H a = some (.lst ((ls.map cl ++ cline n bs :: tl).map sv)) ∧ Fits ls ∧ Fit (abOf ls) n bs ∧ merge (rowsA (abOf ls) bs) = none ∧ LinesOk (ls.map cl ++ cline n bs :: tl) ∧ ((ls.map cl ++ cline n bs :: tl).map List.length).sum + (ls.map cl ++ cline n bs :: tl).length ≤ 16777216 ∧ ∀ H', Ex H H' → Q (.int (ls.length : Int)) H'
def rJoinK (K : PySem.W.Frag) : V → List V → Hp → VK → Prop := fun x xs H Q => ∃ a p, ∃ ys : List Str, x = .str a ∧ xs = [.ref p] ∧ (SqL K H p (ys.map V.str) ∨ SqT K H p (ys.map V.str)) ∧ (ys.map (·.length)).sum + ys.length * a.length ≤ 16777216 ∧ Q (.str (Txt.join a ys)) H
theorem ev_xf {σ : L2.St} {H : Hp} {te : TE} {a D dd : Addr} {fs : List (Str × V)} {f : Str} {v : V} (h : Ev te σ H (.ref a)) (hd : H dd = some (.xd fs)) (hl : fs.lookup f = some v) : Ev (tXf a (.ref D) (some dd) D f te) σ H v := fun H1 e Q q =>
  h H1 e _ fun H2 e2 => ⟨rfl, rfl, dd, fs, v, rfl, e2 _ _ (e _ _ hd), hl, q H2 e2⟩
theorem erase_perm {α : Type} (l : List α) (k : Nat) (h : k < l.length) : (l[k] :: l.eraseIdx k).Perm l := by
  rw [List.eraseIdx_eq_take_drop_succ]
  refine List.perm_middle.symm.trans ?_
  rw [← List.drop_eq_getElem_cons h, List.take_append_drop]
theorem map_erase {α β : Type} (f : α → β) (l : List α) (k : Nat) : (l.map f).eraseIdx k = (l.eraseIdx k).map f := by
  rw [List.eraseIdx_eq_take_drop_succ, List.eraseIdx_eq_take_drop_succ, List.map_append, List.map_take, List.map_drop]
theorem sum_le8 : ∀ {bs : List Nm}, (∀ b ∈ bs, b.length ≤ 8) → (bs.map List.length).sum ≤ bs.length * 8
  | [], _ => Nat.zero_le _
  | b :: r, h => by
    have h1 := h b List.mem_cons_self
    have h2 := sum_le8 (bs := r) fun x hx => h x (List.mem_cons_of_mem _ hx)
    rw [List.map_cons, List.sum_cons, List.length_cons]
    omega
theorem seq_nat {n j : Nat} (h : j < n) : seqIndex? (j : Int) n = some j := by
  unfold seqIndex?
  simp
  omega
section
variable {P : Program} {w : World} {K : PySem.W.Frag} {mg : Str → Option Value} {base : Heap}
theorem ok_lbases {f : Addr} {fd : FuncData} {k : Nat} (F : Fun K "_law_bases" "_law_bases" sLBases f fd) (T : LawP mg) (rD : Rd P w K mg base "_law_draw" k ["_law_state", "_law_many"] spDraw) : FnOk P w K mg base CX0 (k + 1) f fd ["_law_state", "_law_names"] spLBases := by
  refine F.ok scLBases (fun vs H Q E h => ?_) (fun cdv A outer s H vs Q E hr h => ?_)
  · obtain ⟨st, g, sm, na, nm, rfl, _⟩ := h
    rfl
  · obtain ⟨st, g, sm, na, nm, rfl, hd, hna, nna, hnd, hl, q⟩ := h
    refine ⟨_, pss_cons (ps_par (i := 2) (j := 3) (by rfl) scLBases.nd rfl rfl (by decide) rfl rfl (pa_cons (pe_lst pa_nil) (pa_cons (pe_callTy call_list_of (by rfl) T.lst boot_list' (pa_cons (pv 1) pa_nil)) pa_nil)) (by rfl))
      (pss_cons (ps_for PassesOwn.never rfl (pi_range1 (by rfl) T.rng (pa_cons (pe_callB (call_min2 rfl) (by rfl) T.min boot_min' (pa_cons (pe_callB call_len_seq (by rfl) T.len PySem.boot_len (pa_cons (pv 3) pa_nil)) (pa_cons (pe_rd rD hr (Nat.le_refl _) (by rfl) (pa_cons (pv 0) (pa_cons pe_int pa_nil))) pa_nil))) pa_nil)) (pg_name (i := 4) scLBases.nd rfl (.inl rfl))
        (pss_one (ps_expr (pe_bm PySem.F.plainAttrs_list PySem.F.slot_list_append PySem.F.type_list_append mt_append (pv 2) (pa_cons (pe_bm PySem.F.plainAttrs_list PySem.F.slot_list_pop PySem.F.type_list_pop mt_popAt (pv 3) (pa_cons (pe_rd rD hr (Nat.le_refl _) (by rfl) (pa_cons (pv 0) (pa_cons (pe_callB call_len_seq (by rfl) T.len PySem.boot_len (pa_cons (pv 3) pa_nil)) pa_nil))) pa_nil)) pa_nil)))))
      (pss_one (ps_ret (pv 2)))), ?_⟩
    refine ⟨Nat.zero_le _, fun pc npc => ?_⟩
    have hna1 := (Ex.new (o := .lst []) npc) _ _ hna
    refine ⟨_, rfl, na, _, rfl, .inl (sq_of hna1), fun pl npl => ⟨_, _, rfl, ?_⟩⟩
    have pcl : pc ≠ pl := fun z => by
      rw [← z, upd_same] at npl
      cases npl
    have npl0 : H pl = none := by
      rw [← npl, upd_ne (Ne.symm pcl)]
    have hd1 := (hd.put (o := .lst []) (hd.off npc))
    have hd2 := hd1.put (o := .lst (nm.map sv)) (hd1.off npl)
    have offc := hd.off npc
    have offl := hd.off npl0
    have x2 : Hc.Ext (Dr st g) H (upd (upd H pc (.lst [])) pl (.lst (nm.map sv))) := (Hc.Ext.new npc).puts npl0
    have hpc : (upd (upd H pc (.lst [])) pl (.lst (nm.map sv))) pc = some (.lst ([] : List V)) := by
      rw [upd_ne pcl, upd_same]
    have hpl : (upd (upd H pc (.lst [])) pl (.lst (nm.map sv))) pl = some (.lst (nm.map sv)) := upd_same
    generalize upd (upd H pc (.lst [])) pl (.lst (nm.map sv)) = H2 at hd2 x2 hpc hpl ⊢
    show tSeq _ _ _ [some (.ref st), some (.ref na), some (.ref pc), some (.ref pl), none] H2
    refine ⟨_, rfl, pl, _, rfl, .inl (sq_of hpl), ?_⟩
    refine ⟨_, rfl, st, g, sm, 4, rfl, hd2, by decide, by decide, fun r H3 r0 r4 e3 d3 => ?_⟩
    refine ⟨_, _, rfl, ?_⟩
    rw [List.length_map]
    generalize hN : (if r < (nm.length : Int) then r else (nm.length : Int)) = N
    have hN1 : 0 ≤ N ∧ N ≤ 3 ∧ N ≤ (nm.length : Int) := by
      rw [← hN]
      split <;> omega
    refine ⟨N, rfl, by omega, by omega, for_range (lo := 0) (n := N.toNat) (fun i σ' H' => ∃ (cs lf : List Nm) (v4 : Option V), σ' = [some (.ref st), some (.ref na), some (.ref pc), some (.ref pl), v4] ∧ H' pc = some (.lst (cs.map sv)) ∧ H' pl = some (.lst (lf.map sv)) ∧ cs.length = i ∧ (cs ++ lf).Perm nm ∧ Hc.Ext (Dr st g) H H' ∧ DrawSt H' st g sm) ⟨[], nm, none, rfl, e3 _ _ hpc (dr_off offc), e3 _ _ hpl (dr_off offl), rfl, List.Perm.refl _, x2.trans e3, d3⟩ (fun i σ' H4 hi z => ?_) (fun σ' H4 z => ?_)⟩
    · obtain ⟨cs, lf, v4, rfl, h1, h2, h3, h4, h5, h6⟩ := z
      have hlen := h4.length_eq
      rw [List.length_append, h3] at hlen
      refine ⟨_, rfl, .inl ⟨rfl, _, sq_of h1⟩, _, rfl, .inl ⟨rfl, _, sq_of h2⟩, _, rfl, _, rfl, pl, _, rfl, .inl (sq_of h2), ?_⟩
      refine ⟨st, g, sm, ((lf.map sv).length : Int), rfl, h6, by rw [List.length_map]; omega, by rw [List.length_map]; omega, fun r2 H5 r20 r2l e5 d5 => ?_⟩
      obtain ⟨j, rfl⟩ := Int.eq_ofNat_of_zero_le r20
      rw [List.length_map] at r2l
      have hj : j < lf.length := by omega
      have h1' := e5 _ _ h1 (dr_off offc)
      have h2' := e5 _ _ h2 (dr_off offl)
      refine ⟨pl, lf.map sv, (j : Int), j, sv lf[j], rfl, rfl, h2', by omega, by omega, seq_nat (by rw [List.length_map]; exact hj), by rw [List.getElem?_map, List.getElem?_eq_getElem hj]; rfl, ?_⟩
      refine ⟨pc, cs.map sv, sv lf[j], rfl, rfl, by rw [upd_ne pcl]; exact h1', sz_lt (by rw [List.length_map]; omega), ?_⟩
      refine ⟨cs ++ [lf[j]], lf.eraseIdx j, _, rfl, ?_, ?_, by rw [List.length_append, h3]; rfl, ?_, ((h5.trans e5).puts npl0).puts npc, (d5.put offl).put offc⟩
      · rw [upd_same, List.map_append]
        rfl
      · rw [upd_ne (Ne.symm pcl), upd_same, map_erase]
      · rw [List.append_assoc]
        exact ((erase_perm lf j hj).append_left cs).trans h4
    · obtain ⟨cs, lf, v4, rfl, h1, h2, h3, h4, h5, h6⟩ := z
      refine s_ret (ev_var rfl) fun H5 e5 => ?_
      have hsub : ∀ b ∈ cs, b ∈ nm := fun b hb => h4.mem_iff.mp (List.mem_append.mpr (.inl hb))
      have hnd2 : cs.Nodup := (List.nodup_append.mp (h4.nodup_iff.mpr hnd)).1
      exact q cs pc H5 hnd2 (by omega) hsub npc (h5.trans (Hc.Ext.same e5)) (h6.same e5) (e5 _ _ h1)
theorem ok_lline {f : Addr} {fd : FuncData} {k : Nat} (F : Fun K "_law_line" "_law_line" sLLine f fd) : FnOk P w K mg base CX0 (k + 1) f fd ["_law_name", "_law_bases_here"] spLLine := by
  refine F.ok scLLine (fun vs H Q E h => ?_) (fun cdv A outer s H vs Q E hr h => ?_)
  · obtain ⟨n, p, bs, rfl, _⟩ := h
    rfl
  · obtain ⟨n, p, bs, rfl, hp, gn, gb, hb, q⟩ := h
    refine ⟨_, pss_one (ps_ret (pe_op op_add_str (pe_op op_add_str (pe_op op_add_str pe_str (pv 0)) (pe_ifExp (pt_truth (pv 1) (by intro _; rfl)) (pe_op op_add_str (pe_op op_add_str pe_str (pe_join pe_str (pv 1))) pe_str) pe_str)) pe_str)), ?_⟩
    have hnl := gn.len.2
    have hj : (TL.joinL [44, 32] bs).length ≤ 30 := by
      have := joinL_len (T := [44, 32]) (m := 8) (xs := bs) fun x hx => (gb x hx).len.2
      have h2 : bs.length * (8 + ([44, 32] : List Nat).length) = bs.length * 10 := rfl
      omega
    have hsum : (bs.map List.length).sum ≤ 24 := by
      have h1 := sum_le8 (bs := bs) fun x hx => (gb x hx).len.2
      omega
    have e : cline n bs = ((cls6 ++ n) ++ bpart bs) ++ [58] := by
      unfold cline
      simp [List.append_assoc]
    rw [e] at q
    have hbl : (bpart bs).length ≤ 32 := by
      unfold bpart
      split
      · simp
      · simp only [List.length_cons, List.length_append, List.length_nil]
        omega
    refine s_ret (ev_addS (a := (cls6 ++ n) ++ bpart bs) (b := [58]) (by simp only [List.length_append]; show 6 + n.length + (bpart bs).length + 1 ≤ 30000; omega) (ev_addS (a := cls6 ++ n) (b := bpart bs) (by simp only [List.length_append]; show 6 + n.length + (bpart bs).length ≤ 30000; omega) (ev_addS (a := cls6) (b := n) (by show 6 + n.length ≤ 30000; omega) ev_c (ev_var rfl)) ?_) ev_c) q
    refine ev_if (et_truth (ev_var rfl) (sq_of hp)) (fun hb1 => ?_) (fun hb1 => ?_)
    · have h0 : bs ≠ [] := fun z => by
        rw [z] at hb1
        cases hb1
      have eb : bpart bs = ([40] ++ TL.joinL [44, 32] bs) ++ [41] := if_neg h0
      rw [eb]
      exact ev_addS (by simp only [List.length_append]; show 1 + (TL.joinL [44, 32] bs).length + 1 ≤ 30000; omega) (ev_addS (by show 1 + (TL.joinL [44, 32] bs).length ≤ 30000; omega) ev_c (ev_join (by show _ + bs.length * 2 ≤ 16777216; omega) ev_c (ev_var rfl) (sq_of hp))) ev_c
    · have h0 : bs = [] := by
        cases bs with
        | nil => rfl
        | cons b r => cases hb1
      subst h0
      exact ev_c
theorem ok_ltold {f CL B fB fS : Addr} {fd fdS : FuncData} {k : Nat} (F : Fun K "_law_told" "_law_told" sLTold f fd) (N : XcC K mg "BadLine" B "at" fB) (gS : mg "Library" = some (.ref CL)) (M : Mk K CL fS) (FS : FnOk P w K mg base (L2.CX P w) k fS fdS ["self", "text"] (spLibB B)) (bS : Binds K fdS ["self", "text"] []) :
    FnOk P w K mg base CX0 (k + 2) f fd ["_law_lines"] spLTold := by
  refine F.ok scLTold (fun vs H Q E h => ?_) (fun cdv A outer s H vs Q E hr h => ?_)
  · obtain ⟨a, ls, n, bs, tl, rfl, _⟩ := h
    rfl
  · obtain ⟨a, ls, n, bs, tl, rfl, ha, hf, hft, hm, hlo, hsz, q⟩ := h
    refine ⟨_, pss_cons (ps_set (i := 1) scLTold.nd rfl (.inl rfl) pe_non)
      (pss_cons (ps_try_as (i := 2) rfl rfl scLTold.nd rfl rfl ⟨rfl, by decide, .inl N.gB⟩ takes0
        (fun W pn xe tk _ => pss_one (ps_expr (pe_makeS (es := []) M FS hr (by rfl) gS bS (fun σ => passAt tk σ) (pa_cons (pe_m1 PySem.F.slot_str_join PySem.F.type_str_join (show MtR _ "str.join" (rJoinK K) from mt_join) pe_str (pv 0)) pa_nil))))
        (fun a oe cls d pn hz hf => pss_one (ps_set (i := 1) scLTold.nd rfl (.inl rfl) (pe_xf N.xf N.noF hz hf (pv 2)))))
      (pss_one (ps_ret (pv 1)))), ?_⟩
    refine q_asg ev_c fun H1 e1 => ?_
    generalize hall : ls.map cl ++ cline n bs :: tl = all at ha hlo hsz
    show tM1 (rJoinK K) (tC (.str (S [10]))) (tVar 0) [some (.ref a), some .non, none] H1 _
    refine ev_join (T := [10]) (xs := all) (by show _ + all.length * 1 ≤ 16777216; omega) ev_c (ev_var rfl) (sq_of (e1 _ _ ha)) H1 (Ex.refl H1) _ fun H2 e2 => ?_
    intro x dx nx nd ne
    have ex1 : Ex H2 (upd (upd H2 dx (.own x)) x (.ins CL dx [])) := (Ex.new nd).trans (Ex.new ((upd_ne (Ne.symm ne)).trans nx))
    refine ⟨x, ls, n, bs, tl, by rw [hall], hf, hft, hm, by rw [hall]; exact hlo, fun dd H' e3 hdd hxd => ⟨true, N.exm, fun _ aa na => ?_, fun z => nomatch z⟩⟩
    have e4 : Ex H H' := ((e1.trans e2).trans ex1).trans e3
    refine s_asg (v := .int (ls.length : Int)) (ev_xf (ev_var rfl) hxd rfl) fun H5 e5 => ?_
    exact ⟨_, rfl, q H5 (e4.trans e5)⟩
end
end Hy
set_option maxHeartbeats 4000000
/-! _law_refused: names that are no classes. -/
namespace Hy
open PySem PySem.Spec PyProof.Rows L2 Evl Hc Hs
def rMulS : R2 := fun x y H Q => ∃ (L : List Nat) (n : Int), x = .str (S L) ∧ y = .int n ∧ 2 ≤ n ∧ n ≤ 10000 ∧ 1 ≤ L.length ∧ L.length ≤ 10 ∧ ∀ M : List Nat, M.length = L.length * n.toNat → (∀ c ∈ M, c ∈ L) → Q (.str (S M)) H
theorem fold_app (x : Array Nat) : ∀ (n : Nat) (acc : Array Nat), ((List.replicate n x).foldl (· ++ ·) acc).toList = acc.toList ++ (List.replicate n x.toList).flatten
  | 0, acc => by simp
  | n + 1, acc => by
    rw [List.replicate_succ, List.foldl_cons, fold_app x n, List.replicate_succ, List.flatten_cons]
    simp
theorem op_mulS {X : Cx} : OpR X (binaryOp .Mult) rMulS := by
  intro pins s σ H x y v u Q I rx ry h
  obtain ⟨L, n, rfl, rfl, n2, n4, l1, l10, q⟩ := h
  obtain ⟨t, rfl⟩ := rx
  obtain ⟨t', rfl⟩ := ry
  have hm : L.length * n.toNat ≤ 100000 := Nat.le_trans (Nat.mul_le_mul l10 (show n.toNat ≤ 10000 by omega)) (by decide)
  have hlong : Builtin.Str.tooLong ((S L).length * n.toNat) = false := by
    rw [S_len]
    have h0 : ¬ L.length * n.toNat > 2 ^ 24 := by
      generalize L.length * n.toNat = z at hm
      omega
    simpa [Builtin.Str.tooLong, sizeLine] using h0
  refine P.mul_str (by rw [decide_eq_false (by omega), decide_eq_false (by omega)]; rfl) (fun _ _ => ?_) (fun _ _ => hlong) ?_
  · rw [S_len]
    have h1 : (L.length : Int) ≤ (2 ^ 63 - 1) / n := by
      rw [Int.le_ediv_iff_mul_le (by omega)]
      have h2 : (L.length : Int) * n ≤ 10 * 10000 := Int.mul_le_mul (by omega) n4 (by omega) (by omega)
      omega
    omega
  · rw [if_neg (by omega), if_neg (by
      rw [Bool.or_eq_true]
      rintro (z | z)
      · have := eq_of_beq z
        omega
      · have := eq_of_beq z
        rw [S_len] at this
        omega)]
    obtain ⟨M, hM⟩ : ∃ M, M = ((List.replicate n.toNat (S L).cps).foldl (· ++ ·) #[]).toList := ⟨_, rfl⟩
    have e0 := fold_app (S L).cps n.toNat #[]
    have hflat : M = (List.replicate n.toNat L).flatten := by
      rw [hM, e0]
      simp
    have e1 : (⟨(List.replicate n.toNat (S L).cps).foldl (· ++ ·) #[]⟩ : Str) = S M := by rw [hM]
    rw [e1]
    have hl : M.length = L.length * n.toNat := by
      rw [hflat, List.length_flatten, List.map_replicate, List.sum_replicate_nat, Nat.mul_comm]
    refine ⟨by rw [S_len, hl]; exact sz_of hm, .str (S M), H, I.tok _, ⟨_, rfl⟩, q M hl fun c hc => ?_⟩
    rw [hflat] at hc
    obtain ⟨l, hl1, hl2⟩ := List.mem_flatten.mp hc
    rw [(List.mem_replicate.mp hl1).2] at hl2
    exact hl2


/-! ### what is no name -/
structure Odd (K : PySem.W.Frag) (ab : Ab) (y : V) (H : Hp) : Prop where
  ni : NotIn K ab y H
  dt : ∃ d, (∀ H', Ex H H' → Dp K H' y d) ∧ SeqAt.shaped d = true
theorem Odd.ex {K : PySem.W.Frag} {ab : Ab} {y : V} {H H' : Hp} (h : Odd K ab y H) (e : Ex H H') : Odd K ab y H' := by
  obtain ⟨d, h1, h2⟩ := h.dt
  exact ⟨h.ni.ex e, d, fun H2 e2 => h1 H2 (e.trans e2), h2⟩
def Plain (n : Nm) : Prop := ∀ c ∈ n, c < 1114112
theorem lay_str {n : Nm} (h : Plain n) : PyData.canLay0 (.str (S n)) = true := by
  unfold PyData.canLay0
  show (S n).cps.all (· < 0x110000) = true
  rw [Array.all_eq_true_iff_forall_mem]
  intro c hc
  exact decide_eq_true (h c (by simpa using hc))
theorem lay_strs : ∀ ns : List Nm, (∀ n ∈ ns, Plain n) → PyData.canLayAll0 (ns.map fun n => .str (S n)) = true
  | [], _ => rfl
  | n :: r, h => by
    rw [List.map_cons]
    unfold PyData.canLayAll0
    rw [lay_strs r fun m hm => h m (List.mem_cons_of_mem _ hm), lay_str (h n List.mem_cons_self)]
    rfl
theorem dep_strs : ∀ ns : List Nm, PyData.depthAll (ns.map fun n => .str (S n)) ≤ 1
  | [] => by
    rw [List.map_nil]
    unfold PyData.depthAll
    omega
  | n :: r => by
    rw [List.map_cons]
    unfold PyData.depthAll
    have := dep_strs r
    have h2 : PyData.depth (.str (S n)) ≤ 1 := by
      unfold PyData.depth
      omega
    omega
theorem shaped_list (ns : List Nm) (h : ∀ n ∈ ns, Plain n) : SeqAt.shaped (.list (ns.map fun n => .str (S n))) = true := by
  unfold SeqAt.shaped
  rw [Bool.and_eq_true]
  refine ⟨?_, decide_eq_true ?_⟩
  · unfold PyData.canLay0
    exact lay_strs ns h
  · unfold PyData.depth
    have := dep_strs ns
    omega
theorem shaped_tup (ns : List Nm) (h : ∀ n ∈ ns, Plain n) : SeqAt.shaped (.tuple (ns.map fun n => .str (S n))) = true := by
  unfold SeqAt.shaped
  rw [Bool.and_eq_true]
  refine ⟨?_, decide_eq_true ?_⟩
  · unfold PyData.canLay0
    exact lay_strs ns h
  · unfold PyData.depth
    have := dep_strs ns
    omega
theorem dp_strs {K : PySem.W.Frag} {H : Hp} : ∀ ns : List Nm, DpAll K H (ns.map sv) (ns.map fun n => .str (S n))
  | [] => .nil
  | n :: r => .cons (.str _) (dp_strs r)
theorem shaped_flat {d : PyData} (h : d = .none ∨ (∃ b, d = .bool b) ∨ (∃ i, d = .int i)) : SeqAt.shaped d = true := by
  rcases h with rfl | ⟨b, rfl⟩ | ⟨i, rfl⟩ <;> (unfold SeqAt.shaped PyData.canLay0 PyData.depth; decide)
theorem shaped_str {n : Nm} (h : Plain n) : SeqAt.shaped (.str (S n)) = true := by
  unfold SeqAt.shaped
  rw [lay_str h, Bool.true_and]
  exact decide_eq_true (by unfold PyData.depth; omega)
theorem la_le {c : Nat} (h : c ∈ larges) : c ≤ 90 := by
  revert c
  decide
theorem GoodNm.plain {n : Nm} (g : GoodNm n) : Plain n := fun c hc => by
  rcases g.mem hc with h | h
  · have := la_le h
    omega
  · have := sm_lt h
    omega
section
variable {K : PySem.W.Frag} {ab : Ab} {H : Hp}
theorem odd_non : Odd K ab .non H := ⟨.inr ⟨_, fun _ _ => .base .non, kit_ty rfl⟩, _, fun _ _ => .non, shaped_flat (.inl rfl)⟩
theorem odd_int (i : Int) : Odd K ab (.int i) H := ⟨.inr ⟨_, fun _ _ => .base (.int i), kit_ty rfl⟩, _, fun _ _ => .int i, shaped_flat (.inr (.inr ⟨_, rfl⟩))⟩
theorem odd_bl (b : Bool) : Odd K ab (.bl b) H := ⟨.inr ⟨_, fun _ _ => .base (.bl b), kit_ty rfl⟩, _, fun _ _ => .bl b, shaped_flat (.inr (.inl ⟨_, rfl⟩))⟩
theorem odd_str {n : Nm} (h : n ∉ ab.map (·.1)) (hp : Plain n) : Odd K ab (sv n) H := ⟨.inl ⟨n, rfl, h⟩, _, fun _ _ => .str _, shaped_str hp⟩
theorem odd_lst {p : Addr} {ns : List Nm} (h : H p = some (.lst (ns.map sv))) (hp : ∀ n ∈ ns, Plain n) : Odd K ab (.ref p) H := ⟨.inr ⟨_, fun _ e => .base (.lst (e _ _ h)), kit_ty rfl⟩, _, fun _ e => .lst (sq_of (e _ _ h)) (dp_strs ns), shaped_list ns hp⟩
theorem odd_tup {p : Addr} {ns : List Nm} (h : H p = some (.tup (ns.map sv))) (hp : ∀ n ∈ ns, Plain n) : Odd K ab (.ref p) H := ⟨.inr ⟨_, fun _ e => .base (.tup (e _ _ h)), kit_ty rfl⟩, _, fun _ e => .tup (st_of (e _ _ h)) (dp_strs ns), shaped_tup ns hp⟩
end
theorem small_not {w : List Nat} (h : Small w) : ¬ GoodNm w := fun g => by
  cases w with
  | nil => exact absurd h.pos (by simp)
  | cons c m =>
    have h1 := g.ok
    unfold isClassName at h1
    simp only [Bool.and_eq_true, decide_eq_true_eq] at h1
    have h2 := sm_lt (h.all c List.mem_cons_self)
    have h3 := la_le h1.1.2
    omega
/-! ### methods that raise, within a try -/
def tMethE (C : Addr) (m : Str) (sp : Sp) (E : L2.St → XK) (ta : TE) (t : TA) : TE := fun σ H Q => ta σ H fun x H1 => ∃ a dx fs, x = .ref a ∧ H1 a = some (.ins C dx fs) ∧ fs.lookup m = none ∧ t σ H1 fun vs H2 => sp (x :: vs) H2 Q (E σ)
theorem pe_methE {X : Cx} {CX : CXT} {k : Nat} {C f : Addr} {fd : FuncData} {ps : List Str} {m : Str} {sp : Sp} {E : L2.St → XK} {o e : Expr} {es : List Expr} {ta : TE} {t : TA} {apos pos : Pos} {pl : Sem Bool} (he : PE X o ta) (c : Cls X.K C) (hm : Meth X.K C m f) (F : FnOk X.prog X.w X.K X.mg X.base CX k f fd ps sp) (hr : Room k X.A) (hb : Binds X.K fd ps []) (hx : ∀ σ, PassesAt CX X σ (E σ)) (ha : PA X (e :: es) t)
    (hst : starEach (e :: es) X.env = (false, eval e X.env) :: starEach es X.env := by rfl) (hpl : (backTo pos (starEach es X.env)).any (·.1) = false := by rfl)
    (ht : eval (.Call (.Attribute o m apos) (e :: es) [] pos) X.env = (do
      let ov ← eval o X.env
      standAt apos.atName
      let (f, first) ← holding [ov] (getMethod ov m pl)
      callWith pos f first (backTo pos (starEach (e :: es) X.env)) (backToKw pos (keywordEach [] X.env))) := by rfl) :
    PE X (.Call (.Attribute o m apos) (e :: es) [] pos) (tMethE C m sp E ta t) := by
  refine ⟨fun pins s σ H Q I h => ?_⟩
  refine PySem.W.methodCall_KW (pl := pl) (thn (he.run pins s σ H _ I h) fun u s1 ⟨x, H1, I1, rx, a, dx, fs, ex, ea, l, q⟩ => ?_) ht
  subst ex
  obtain rfl : u = Value.ref a := rx
  refine getmeth_ok I1 ea c hm l ?_
  refine PySem.W.callWith_K (first := [.ref a]) (h₀ := X.base) I.ok.mod.kin hm.kp (thn (ha.run pos pins s1 σ H1 _ I1 q) fun us s2 ⟨vs, H2, I2, r, q2⟩ => ⟨I2.kIn, ?_⟩) hst hpl
  exact run_fnS (us := .ref a :: us) (vs := .ref a :: vs) F hr hb (hx σ) I2 (.cons rfl r) q2
abbrev nLRef : List Str := ["_law_made", "_law_names", "_law_thing", "_law_refused_here", "_law_way", "_law_found", "e"]
theorem scLRef : FnScope nLRef ["_law_made", "_law_names"] (defScope sLRefused) := ⟨rfl, rfl, rfl, by decide +kernel, rfl, by decide +kernel, by decide +kernel⟩
def spLRef (CL CT : Addr) : Sp := fun vs H Q _ => ∃ (x na : Addr) (ab : Ab) (w0 : List Nat) (nm : List Nm), vs = [.ref x, .ref na] ∧ LibAt CL CT x ab H ∧ H na = some (.lst ((capd w0 :: nm).map sv)) ∧ Small w0 ∧ (∀ e ∈ ab, GoodNm e.1) ∧ (∀ n ∈ nm, GoodNm n) ∧ nm.length ≤ 100 ∧ ∀ H', Ex H H' → Q (.bl true) H'
theorem ev_eqD {K : PySem.W.Frag} {σ : L2.St} {H : Hp} {x y : V} {d e : PyData} {ta tb : TE} (ha : Ev ta σ H x) (hb : Ev tb σ H y) (hx : ∀ H1, Ex H H1 → Dp K H1 x d) (hy : ∀ H1, Ex H H1 → Dp K H1 y e) (sd : SeqAt.shaped d = true) (se : SeqAt.shaped e = true) : Ev (tOp (rEqD K) ta tb) σ H (.bl (PyData.eqv d e)) :=
  ev_op ha hb (fun H1 e1 Q q => ⟨d, e, hx H1 e1, hy H1 e1, sd, se, q H1 (Ex.refl H1)⟩)
def d3 : PyData := .list [.bool true, .bool true, .bool true]
theorem d3_shaped : SeqAt.shaped d3 = true := by
  unfold d3 SeqAt.shaped PyData.canLay0 PyData.depth
  unfold PyData.canLayAll0 PyData.depthAll
  unfold PyData.canLayAll0 PyData.depthAll
  unfold PyData.canLayAll0 PyData.depthAll
  unfold PyData.canLayAll0 PyData.depthAll PyData.canLay0 PyData.depth
  decide
theorem d3_dp {K : PySem.W.Frag} {H : Hp} {p : Addr} (h : H p = some (.lst [.bl true, .bl true, .bl true])) : Dp K H (.ref p) d3 := .lst (sq_of h) (.cons (.bl _) (.cons (.bl _) (.cons (.bl _) .nil)))
/-- between the ways -/
def RW (H9 : Hp) (x na pr : Addr) (v : V) (j : Nat) (σ : L2.St) (H' : Hp) : Prop := ∃ v4 v5, σ = [some (.ref x), some (.ref na), some v, some (.ref pr), v4, v5, none] ∧ Ex H9 H' ∧ H' pr = some (.lst (List.replicate j (.bl true)))
section
variable {P : Program} {w : World} {K : PySem.W.Frag} {mg : Str → Option Value} {base : Heap}
theorem ok_lref {f CL CT CK B fB fO fKO fK : Addr} {fd fdO fdKO fdK : FuncData} (F : Fun K "_law_refused" "_law_refused" sLRefused f fd) (T : LawP mg) (c : LbC K CL) (N : XcC K mg "NoClass" B "name" fB) (MO : Meth K CL "order" fO) (bO : Binds K fdO ["self", "name"] []) (FO : FnOk P w K mg base (L2.CX P w) 4 fO fdO ["self", "name"] (spNamedB K CL CT B))
    (MKO : Meth K CL "kept_of" fKO) (bKO : Binds K fdKO ["self", "name"] []) (FKO : FnOk P w K mg base (L2.CX P w) 7 fKO fdKO ["self", "name"] (spNamedB K CL CT B)) (gK : mg "Kept" = some (.ref CK)) (MK : Mk K CK fK) (bK : Binds K fdK ["self", "library", "name"] []) (FK : FnOk P w K mg base (L2.CX P w) 5 fK fdK ["self", "library", "name"] (spKeptB K CL CT B)) :
    FnOk P w K mg base CX0 8 f fd ["_law_made", "_law_names"] (spLRef CL CT) := by
  refine F.ok scLRef (fun vs H Q E h => ?_) (fun cdv A outer s H vs Q E hr h => ?_)
  · obtain ⟨x, na, ab, w0, nm, rfl, _⟩ := h
    rfl
  · obtain ⟨x, na, ab, w0, nm, rfl, hL, hna, hw0, hgood, hgn, hlen, q⟩ := h
    refine ⟨_, pss_cons (ps_for PassesOwn.never rfl (pi_tup (pe_tup (pa_cons pe_non (pa_cons pe_int (pa_cons pe_bl (pa_cons pe_str (pa_cons (pe_lower (pe_ix ix_list (pv 1) pe_int (fun _ _ => rfl))) (pa_cons (pe_op op_add_str (pe_ix ix_list (pv 1) pe_int (fun _ _ => rfl)) (pe_op op_mulS pe_str pe_int)) (pa_cons (pe_tup (pa_cons (pe_ix ix_list (pv 1) pe_int (fun _ _ => rfl)) pa_nil)) (pa_cons (pe_lst (pa_cons (pe_ix ix_list (pv 1) pe_int (fun _ _ => rfl)) pa_nil)) (pa_cons (pv 1) pa_nil))))))))))) (pg_name (i := 2) scLRef.nd rfl (.inl rfl))
        (pss_cons (ps_set (i := 3) scLRef.nd rfl (.inl rfl) (pe_lst pa_nil))
        (pss_cons (ps_for PassesOwn.never rfl (pi_range1 (by rfl) T.rng (pa_cons pe_int pa_nil)) (pg_name (i := 4) scLRef.nd rfl (.inl rfl))
          (pss_one (ps_try_as (i := 6) rfl rfl scLRef.nd rfl rfl ⟨rfl, by decide, .inl N.gB⟩ takes0
            (fun W pn xe tk _ => pss_cons (ps_if (pt_cmpR op_eq (pv 4) pe_int (nomark _)) (pss_one (ps_set (i := 5) scLRef.nd rfl (.inl rfl) (pe_methE (E := fun σ => WE W σ) (pv 0) c.cl MO FO (hr.mono (by decide)) bO (fun σ => passAt tk σ) (pa_cons (pv 2) pa_nil))))
                (pss_one (ps_if (pt_cmpR op_eq (pv 4) pe_int (nomark _)) (pss_one (ps_set (i := 5) scLRef.nd rfl (.inl rfl) (pe_methE (E := fun σ => WE W σ) (pv 0) c.cl MKO FKO hr bKO (fun σ => passAt tk σ) (pa_cons (pv 2) pa_nil))))
                  (pss_one (ps_set (i := 5) scLRef.nd rfl (.inl rfl) (pe_makeS (E := fun σ => WE W σ) MK FK (hr.mono (by decide)) (by rfl) gK bK (fun σ => passAt tk σ) (pa_cons (pv 0) (pa_cons (pv 2) pa_nil))))))))
              (pss_one (ps_expr (show PE _ _ (tBM K "list" rAppend (tVar 3) (tCons (tOp (fun x y H Q => y = .non ∧ Q (.bl (decide (x = .non))) H) (tVar 5) (tC .non)) tNil)) from pe_bm PySem.F.plainAttrs_list PySem.F.slot_list_append PySem.F.type_list_append mt_append (pv 3) (pa_cons (pe_cmpR op_isN (pv 5) pe_non (nomark _)) pa_nil)))))
            (fun a oe cls d pn hz hf => pss_one (ps_expr (show PE _ _ (tBM K "list" rAppend (tVar 3) (tCons (tOp (rEqD K) (tXf a cls d B "name" (tVar 6)) (tVar 2)) tNil)) from pe_bm PySem.F.plainAttrs_list PySem.F.slot_list_append PySem.F.type_list_append mt_append (pv 3) (pa_cons (pe_cmpR (show OpR _ (compareOp .Eq) (rEqD K) from op_eqD hr.units) (pe_xf N.xf N.noF hz hf (pv 6)) (pv 2) (nomark _)) pa_nil)))))))
        (pss_one (ps_if (pt_cmpR (op_neD hr.units) (pv 3) (pe_lst (pa_cons pe_bl (pa_cons pe_bl (pa_cons pe_bl pa_nil)))) (nomark _)) (pss_one (ps_ret pe_bl)) pss_nil)))))
      (pss_one (ps_ret pe_bl)), ?_⟩
    have hln : (S (capd w0)).length ≤ 8 := by
      rw [S_len]
      exact (hw0.good).len.2
    -- the things
    refine ⟨_, rfl, na, _, 0, _, rfl, rfl, sq_of hna, atI_nat (j := 0) rfl, ⟨_, rfl⟩, S (capd w0), rfl, rfl, Nat.le_trans hln (by decide), ?_⟩
    rw [hw0.lower]
    refine ⟨_, rfl, na, _, 0, _, rfl, rfl, sq_of hna, atI_nat (j := 0) rfl, [120], 8, rfl, rfl, by decide, by decide, by decide, by decide, fun M hM1 hM2 => ⟨S (capd w0), S M, rfl, rfl, ?_, ?_⟩⟩
    · rw [S_len M, hM1]
      exact sz_of (by show (S (capd w0)).length + 1 * 8 ≤ 100000; omega)
    rw [S_cat]
    refine ⟨_, rfl, na, _, 0, _, rfl, rfl, sq_of hna, atI_nat (j := 0) rfl, (show 1 ≤ sizeLine by decide), fun t1 nt1 => ?_⟩
    have ex1 : Ex H (upd H t1 (.tup [sv (capd w0)])) := Ex.new nt1
    have ht1 : (upd H t1 (.tup [sv (capd w0)])) t1 = some (.tup (([capd w0] : List Nm).map sv)) := upd_same
    generalize upd H t1 (.tup [sv (capd w0)]) = H1 at ex1 ht1 ⊢
    refine ⟨_, rfl, na, _, 0, _, rfl, rfl, sq_of (ex1 _ _ hna), atI_nat (j := 0) rfl, (show 1 ≤ sizeLine by decide), fun l1 nl1 => ?_⟩
    have ex2 : Ex H1 (upd H1 l1 (.lst [sv (capd w0)])) := Ex.new nl1
    have hl1 : (upd H1 l1 (.lst [sv (capd w0)])) l1 = some (.lst (([capd w0] : List Nm).map sv)) := upd_same
    generalize upd H1 l1 (.lst [sv (capd w0)]) = H2 at ex2 hl1 ⊢
    refine ⟨_, rfl, (show 9 ≤ sizeLine by decide), fun tt ntt => ?_⟩
    have ex3 : Ex H2 (upd H2 tt (.tup [.non, .int 0, .bl true, .str (Str.ofString ""), sv w0, sv (capd w0 ++ M), .ref t1, .ref l1, .ref na])) := Ex.new ntt
    have htt : (upd H2 tt (.tup [.non, .int 0, .bl true, .str (Str.ofString ""), sv w0, sv (capd w0 ++ M), .ref t1, .ref l1, .ref na])) tt = some (.tup [.non, .int 0, .bl true, .str (Str.ofString ""), sv w0, sv (capd w0 ++ M), .ref t1, .ref l1, .ref na]) := upd_same
    generalize upd H2 tt (.tup [.non, .int 0, .bl true, .str (Str.ofString ""), sv w0, sv (capd w0 ++ M), .ref t1, .ref l1, .ref na]) = H9 at ex3 htt ⊢
    have e9 : Ex H H9 := (ex1.trans ex2).trans ex3
    have ht9 := ex3 _ _ (ex2 _ _ ht1)
    have hl9 := ex3 _ _ hl1
    have hna9 := e9 _ _ hna
    have hL9 := hL.ex e9
    have nog : ∀ n, ¬ GoodNm n → n ∉ ab.map (·.1) := fun n hn hm => by
      obtain ⟨e, he, rfl⟩ := List.mem_map.mp hm
      exact hn (hgood e he)
    have p1 : ∀ n ∈ ([capd w0] : List Nm), Plain n := fun n hn => by
      rw [List.mem_singleton] at hn
      rw [hn]
      exact hw0.good.plain
    have hodd : ∀ v ∈ ([.non, .int 0, .bl true, .str (Str.ofString ""), sv w0, sv (capd w0 ++ M), .ref t1, .ref l1, .ref na] : List V), Odd K ab v H9 := by
      intro v hv
      simp only [List.mem_cons, List.not_mem_nil, or_false] at hv
      rcases hv with rfl | rfl | rfl | rfl | rfl | rfl | rfl | rfl | rfl
      · exact odd_non
      · exact odd_int 0
      · exact odd_bl true
      · exact odd_str (n := []) (nog [] fun g => absurd g.len.1 (by decide)) fun c hc => (by cases hc)
      · exact odd_str (nog w0 (small_not hw0)) fun c hc => by
          have := sm_lt (hw0.all c hc)
          omega
      · refine odd_str (nog _ fun g => ?_) fun c hc => ?_
        · have h1 := g.len.2
          have h2 := hw0.good.len.1
          rw [List.length_append, hM1] at h1
          have h3 : ([120] : List Nat).length * (8 : Int).toNat = 8 := rfl
          omega
        · rcases List.mem_append.mp hc with hc | hc
          · exact hw0.good.plain c hc
          · have := hM2 c hc
            rw [List.mem_singleton] at this
            omega
      · exact odd_tup ht9 p1
      · exact odd_lst hl9 p1
      · exact odd_lst hna9 fun n hn => by
          rcases List.mem_cons.mp hn with rfl | hn
          · exact hw0.good.plain
          · exact (hgn n hn).plain
    generalize ([.non, .int 0, .bl true, .str (Str.ofString ""), sv w0, sv (capd w0 ++ M), .ref t1, .ref l1, .ref na] : List V) = xs at htt hodd ⊢
    refine ⟨tt, rfl, ⟨xs, st_of htt⟩, for_tup (xs := xs) (fun i σ' H' => ∃ v2 v3 v4 v5, σ' = [some (.ref x), some (.ref na), v2, v3, v4, v5, none] ∧ Ex H9 H') ⟨none, none, none, none, rfl, Ex.refl _⟩ (fun i σ' H' _ z => ?_) (fun i v σ' H' hv z => ?_) (fun σ' H' z => ?_)⟩
    · obtain ⟨_, _, _, _, _, ez⟩ := z
      exact st_of (ez _ _ htt)
    · obtain ⟨v2, v3, v4, v5, rfl, ez⟩ := z
      have ho := hodd v (List.mem_of_getElem? hv)
      show tSeq _ _ _ [some (.ref x), some (.ref na), some v, v3, v4, v5, none] H'
      refine q_asgL (xs := []) (el_lst ea_nil (Nat.zero_le _)) fun pr H3 npr e3 hpr => ?_
      refine q_forR1 (j := 4) (ea_cons ev_c ea_nil) (by decide) (RW H9 x na pr v) (fun H4 e4 => ⟨v4, v5, rfl, (ez.trans e3).trans e4, e4 _ _ hpr⟩) (fun j σ2 H4 hj z => ?_) (fun σ2 H4 z => ?_)
      · obtain ⟨v4', v5', rfl, ez4, hpr4⟩ := z
        obtain ⟨dxL, TL0, tpL, dL, esL, hxL, _, _⟩ := id hL9
        obtain ⟨dv, hdv, hsv⟩ := ho.dt
        have fin : ∀ {D : Ends} {v5 : Option V} {H6 : Hp} {aa dd : Addr}, Ex H4 H6 → H6 dd = some (.xd [("name", v)]) → (∀ H7, RW H9 x na pr v (j + 1) [some (.ref x), some (.ref na), some v, some (.ref pr), some (.int (j : Int)), v5, none] H7 → D.nx [some (.ref x), some (.ref na), some v, some (.ref pr), some (.int (j : Int)), v5, some (.ref aa)] H7) →
            tDrop (tBM K "list" rAppend (tVar 3) (tCons (tOp (rEqD K) (tXf aa (.ref B) (some dd) B "name" (tVar 6)) (tVar 2)) tNil)) D [some (.ref x), some (.ref na), some v, some (.ref pr), some (.int (j : Int)), v5, some (.ref aa)] H6 := fun {D v5 H6 aa dd} e6 hxd hD => by
          have eL := ez4.trans e6
          refine s_app (l := pr) (xs := List.replicate j (.bl true)) (e6 _ _ hpr4) (ev_var rfl) (v := .bl true) (Evl.ev_is (ev_eqD (ev_xf (ev_var rfl) hxd rfl) (ev_var rfl) (fun H8 e8 => hdv H8 (eL.trans e8)) (fun H8 e8 => hdv H8 (eL.trans e8)) hsv hsv) (by rw [SeqAt.eqv_refl dv (SeqAt.canLay_of_shaped hsv)])) (by rw [List.length_replicate]; omega) fun H7 e7 => ?_
          have npr9 : H' pr = none := npr
          refine hD _ ⟨_, _, rfl, fun b o hb => ?_, by rw [upd_same, List.replicate_succ']⟩
          have hb7 := e7 _ _ (eL _ _ hb)
          rw [upd_ne (fun z => by rw [z] at hb; rw [ez _ _ hb] at npr9; cases npr9)]
          exact hb7
        show tSeq _ _ _ [some (.ref x), some (.ref na), some v, some (.ref pr), some (.int (j : Int)), v5', none] H4
        refine q_if (et_test (ev_eqI (a := (j : Int)) (b := 0) (ev_var rfl) ev_c)) (fun hb H5 e5 => ?_) (fun hb H5 e5 => ?_)
        · refine s_asgX ?_
          refine ⟨_, rfl, x, dxL, _, rfl, e5 _ _ (ez4 _ _ hxL), rfl, _, rfl, x, ab, v, rfl, (hL9.ex ez4).ex e5, (ho.ni.ex ez4).ex e5, fun dd H6 e6 hdd hxd => ⟨true, N.exm, fun _ aa na => ?_, fun z => nomatch z⟩⟩
          exact fin (e5.trans e6) hxd fun H7 z => z
        · refine s_if (et_test (ev_eqI (a := (j : Int)) (b := 1) (ev_var rfl) ev_c)) (fun hb2 H6 e6 => ?_) (fun hb2 H6 e6 => ?_)
          · refine s_asgX ?_
            refine ⟨_, rfl, x, dxL, _, rfl, e6 _ _ (e5 _ _ (ez4 _ _ hxL)), rfl, _, rfl, x, ab, v, rfl, ((hL9.ex ez4).ex e5).ex e6, ((ho.ni.ex ez4).ex e5).ex e6, fun dd H7 e7 hdd hxd => ⟨true, N.exm, fun _ aa na => ?_, fun z => nomatch z⟩⟩
            exact fin ((e5.trans e6).trans e7) hxd fun H8 z => z
          · refine s_asgX ?_
            refine ⟨_, rfl, _, rfl, fun kx kdx nkx nkdx kne => ?_⟩
            have exk : Ex H6 (upd (upd H6 kdx (.own kx)) kx (.ins CK kdx [])) := (Ex.new nkdx).trans (Ex.new ((upd_ne (Ne.symm kne)).trans nkx))
            refine ⟨kx, x, ab, v, rfl, (((hL9.ex ez4).ex e5).ex e6).ex exk, (((ho.ni.ex ez4).ex e5).ex e6).ex exk, fun dd H7 e7 hdd hxd => ⟨true, N.exm, fun _ aa na => ?_, fun z => nomatch z⟩⟩
            exact fin (((e5.trans e6).trans exk).trans e7) hxd fun H8 z => z
      · obtain ⟨v4', v5', rfl, ez4, hpr4⟩ := z
        have hpr4' : H4 pr = some (.lst [.bl true, .bl true, .bl true]) := hpr4
        refine s_when (b := false) (et_is (et_test (ev_opL (xs := [.bl true, .bl true, .bl true]) (ev_var rfl) (el_lst (ea_cons ev_c (ea_cons ev_c (ea_cons ev_c ea_nil))) (show 3 ≤ 100000 by decide)) fun p H5 hp e5 => fun H6 e6 Q6 q6 => ⟨d3, d3, d3_dp (e6 _ _ (e5 _ _ hpr4')), d3_dp (e6 _ _ hp), d3_shaped, d3_shaped, q6 H6 (Ex.refl H6)⟩)) (by rw [SeqAt.eqv_refl d3 (SeqAt.canLay_of_shaped d3_shaped)]; rfl)) (fun z => nomatch z) fun _ H5 e5 => ?_
        exact ⟨_, _, _, _, rfl, ez4.trans e5⟩
    · obtain ⟨v2, v3, v4, v5, rfl, ez⟩ := z
      exact q H' (e9.trans ez)
end
end Hy
set_option maxHeartbeats 4000000
/-! len(set(texts)), all of them unlike. -/
namespace Hy
open PySem PySem.Spec PyProof.Rows L2
section
variable {prog : Program} {w : World} {A : Around} {R : Result → Shared → Prop} {I : Addr} {fp wr : List Addr} {G : Array GenState → Array GenState → Prop} {n : Nat} {P : Nat → Value → Prop} {St : Nat → Shared → Prop}
theorem notin_take {xs : List Str} (nd : xs.Nodup) {i : Nat} (h : i < xs.length) : xs.getD i Str.empty ∉ xs.take i ∧ xs.take (i + 1) = xs.take i ++ [xs.getD i Str.empty] := by
  have e : xs.getD i Str.empty = xs[i] := by rw [List.getD_eq_getElem?_getD, List.getElem?_eq_getElem h]; rfl
  have e2 : xs.take (i + 1) = xs.take i ++ [xs[i]] := by rw [List.take_add_one, List.getElem?_eq_getElem h]; rfl
  rw [e]
  refine ⟨fun z => ?_, e2⟩
  have h2 : (xs.take (i + 1)).Nodup := (List.take_sublist _ _).nodup nd
  rw [e2] at h2
  exact (List.nodup_append.mp h2).2.2 _ z _ (List.mem_singleton.mpr rfl) rfl
theorem texts_in (W : WalksS prog w A.in1 I fp wr G n P St) (T : Addr) (out : T ∉ fp) (xs : List Str) (len : xs.length = n) (few : n + 1 < scanBound) (nd : xs.Nodup) (val : ∀ i v, P i v → ∃ t, v = .str (xs.getD i Str.empty) t) :
    ∀ (k i : Nat), i + k = n → ∀ s : Shared, St i s → s.heap.SetOf (PySem.strKind prog w) T (fun y => decide (y ∈ xs.take i)) i →
      (∀ s', Moved (T :: wr) G s s' → s'.heap.SetOf (PySem.strKind prog w) T (fun y => decide (y ∈ xs)) n → R (.ok (.ret .none)) s') → codeAny (model prog w) A (.builtin "set.update.loop" ⟨[.ref T, .ref I], []⟩) R s := by
  have off : T ∉ wr := fun h => out (W.sub _ h)
  intro k
  induction k with
  | zero =>
    intro i hi s st c q
    obtain rfl : i = n := hi
    refine codeAny_builtin F.entry_set_update_loop ?_
    rw [Around.under_plainId F.plain_set_update_loop _]
    refine wpAny_bind (m := pyNext (.ref I)) (W.done s _ _ st fun s1 mv => wpAny_pure (q s1 (mv.mono fun b hb => List.mem_cons_of_mem _ hb) ?_))
    obtain ⟨o, es, ep, t, ho, r⟩ := c
    have c1 : s1.heap.SetOf (PySem.strKind prog w) T (fun y => decide (y ∈ xs.take i)) i := ⟨o, es, ep, t, mv.heap T _ off ho, r⟩
    rwa [List.take_of_length_le (Nat.le_of_eq len)] at c1
  | succ k ih =>
    intro i hi s st c q
    have lt : i < n := by omega
    obtain ⟨new, tk⟩ := notin_take nd (i := i) (by omega)
    refine codeAny_builtin F.entry_set_update_loop ?_
    rw [Around.under_plainId F.plain_set_update_loop _]
    refine wpAny_bind (m := pyNext (.ref I)) (W.item i s _ _ lt st fun v s1 hv st1 mv => ?_)
    obtain ⟨t, rfl⟩ := val i v hv
    have c1 : s1.heap.SetOf (PySem.strKind prog w) T (fun y => decide (y ∈ xs.take i)) i := by
      obtain ⟨o, es, ep, tb, ho, r⟩ := c
      exact ⟨o, es, ep, tb, mv.heap T _ off ho, r⟩
    refine wpAny_bind (m := holding [Value.str (xs.getD i Str.empty) t] (setAdd T (.str (xs.getD i Str.empty) t))) (wpAny_holding ?_)
    unfold setAdd
    refine wpAny_holding (wpAny_bind ((PySem.strKind prog w).pyHash (k := xs.getD i Str.empty) (strKind_is _ _ _ _) ?_))
    refine wpAny_setAddHashed_of (knd := PySem.strKind prog w) (s := { s1 with toks := s1.toks + 1 }) (strKind_is _ _ _ _) rfl c1 (by omega) fun h' sb c2 => ?_
    have c3 : h'.SetOf (PySem.strKind prog w) T (fun y => decide (y ∈ xs.take (i + 1))) (i + 1) := by
      refine SetOf_congr c2 (fun y => ?_) ?_
      · show (decide (y ∈ xs.take i) || decide (y = xs.getD i Str.empty)) = decide (y ∈ xs.take (i + 1))
        rw [tk, Bool.eq_iff_iff]
        simp
      · show (if decide (xs.getD i Str.empty ∈ xs.take i) = true then i else i + 1) = i + 1
        rw [decide_eq_false new]
        rfl
    refine wpAny_pure ⟨plainId_quiet F.plain_set_update_loop _, ih (i + 1) (by omega) _ (W.frame _ s1 _ _ st1 (Nat.le_succ _) fun b hb o e => (sb.2 b (fun z => out (z ▸ hb))).trans e) c3 fun s2 mv2 c4 => ?_⟩
    exact q s2 (Moved.trans W.gtrans ((mv.mono fun b hb => List.mem_cons_of_mem _ hb).then_heap (Nat.le_succ _) fun b o hb e => (sb.2 b (fun z => hb (z ▸ List.mem_cons_self))).trans e) mv2) c4
end
section
variable {prog : Program} {w : World} {A : Around} {E : Value → Shared → Prop} {s : Shared}
abbrev noSet (led : Bool) : Obj := { cls := .type "set", dict := none, data := .set #[] 0 (.fresh 0 0 led) }
set_option maxHeartbeats 6400000 in
theorem set_texts {l : Addr} {its : Array Value} {xs : List Str} {Q : Value → Shared → Prop} (nh : A.handled = none) (hl : s.heap.IsList l its) (hx : StrsAre its.toList xs) (nd : xs.Nodup) (few : xs.length + 1 < scanBound)
    (q : ∀ (h' : Heap) (tk : Nat), h'.SetOf (PySem.strKind prog w) s.heap.objs.size (fun y => decide (y ∈ xs)) xs.length → (∀ b o, s.heap.get? b = some o → h'.get? b = some o) → Q (.ref s.heap.objs.size) { s with heap := h', toks := tk }) :
    wpAny (model prog w) A (call (.type "set") [.ref l]) Q E s := by
  have sz : xs.length = its.size := by rw [← StrsAre.len_eq hx, Array.length_toList]
  obtain ⟨c, tl, hmro⟩ := PySem.F.called_set.mro
  have hmade := PySem.F.called_set.made
  have hsub := PySem.F.called_set.sub
  have h1 := PySem.F.called_set.notType
  have h2 := PySem.F.called_set.canCreate
  have hct := PySem.F.typeCall_set_1 (.ref l)
  refine wpAny_call (codeAny_of_tree ?_)
  show wpAny _ _ (callAny (.type "set") _) _ _ _
  refine wpAny_pure (And.intro (Code.quiet_builtin _ (by decide +kernel)) (codeAny_builtin PySem.F.entry_type_call ?_))
  rw [Around.under_plain (weight_type_call_type "set" [.ref l] []) rfl]
  repeat (any_goals (first | assumption | wp_step))
  refine codeAny_mono (code_set_new_1 (.ref l) (E := E) (Q₁ := fun z s1 => ∃ led : Bool, z = .ref s.heap.objs.size ∧ s1 = { s with heap := s.heap.push (noSet led) }) fun led => ⟨led, rfl, rfl⟩) fun r s1 hr => ?_
  match r, hr with
  | .error e, hr => exact hr
  | .ok .next, hr => exact hr.elim
  | .ok .brk, hr => exact hr.elim
  | .ok .cont, hr => exact hr.elim
  | .ok (.ret z), ⟨led, ez, es⟩ =>
    subst ez es
    have gS : (s.heap.push (noSet led)).get? s.heap.objs.size = some (noSet led) := Heap.get?_push_size _ rfl
    have tS : Shared.TypeIs { s with heap := s.heap.push (noSet led) } (.ref s.heap.objs.size) "set" := ⟨_, gS, rfl⟩
    have hli := PySem.F.called_set.init.lookup
    have hbi := PySem.F.called_set.init.bind (.ref s.heap.objs.size)
    repeat (any_goals (first | assumption | wp_step))
    refine codeAny_mono (codeAny_call_builtin (R := wants (fun r s2 => r = .none ∧ ∃ h' tk, s2 = { s with heap := h', toks := tk } ∧ h'.SetOf (PySem.strKind prog w) s.heap.objs.size (fun y => decide (y ∈ xs)) xs.length ∧ (∀ b o, s.heap.get? b = some o → h'.get? b = some o)) E) PySem.F.called_set.init.plain PySem.F.entry_set_init (check_set_init_1 tS ?_)) fun r2 s2 hr2 => ?_
    · obtain ⟨⟨ocls, odict, odata, oslots⟩, ho, e1, nl, e2⟩ := hl
      simp only at e1 e2
      subst e1 e2
      have lt : l < s.heap.objs.size := Heap.lt_size ho
      have hol' : (s.heap.push (noSet led)).get? l = some { cls := .type "list", dict := odict, data := .seq its nl, slots := oslots } := Heap.get?_push_of_some _ ho
      have il : (s.heap.push (noSet led)).IsList l its := ⟨_, hol', rfl, nl, rfl⟩
      have hsls := PySem.F.sub_list_set
      have hslf := PySem.F.sub_list_frozenset
      have hne : (Value.type "list" == Value.type "dict") = false := by decide
      have szp : (s.heap.push (noSet led)).objs.size = s.heap.objs.size + 1 := Heap.size_push _ _
      unfold Builtin.«set.__init__» noKeywords Builtin.Frozenset.updateFrom
      generalize hPI : pyIter = PI
      wp_walk
      subst hPI
      refine wpAny_pyIter_list il (wpAny_bind (wpAny_runValue ?_))
      have ne1 : l ≠ (s.heap.push (noSet led)).objs.size := by
        rw [szp]
        exact Nat.ne_of_lt (Nat.lt_succ_of_lt lt)
      refine texts_in ((Walks.list (by simp [nh]) _ l ne1 its).toS) s.heap.objs.size (by
          rw [szp]
          intro z
          rcases List.mem_cons.mp z with z | z
          · exact absurd z (Nat.ne_of_lt (Nat.lt_succ_self _))
          · exact absurd (List.mem_singleton.mp z) (Nat.ne_of_gt lt)) xs sz (by omega) nd (fun i v hv => SS.strs_at hx i v (by rw [Array.getElem?_toList]; exact hv)) its.size 0 (Nat.zero_add _) _ ⟨⟨_, Heap.get?_push_size _ rfl, rfl, rfl⟩, il.push _⟩ ?_ fun s3 mv c3 => ?_
      · refine SetOf_congr ((setObjOf_fresh (knd := PySem.strKind prog w) led).setOf (Heap.get?_push_of_some _ gS) (by unfold scanBound; omega)) (fun _ => rfl) rfl
      · obtain ⟨h', g', d', tk', os'⟩ := s3
        obtain rfl : g' = s.gens := mv.gens
        obtain rfl : d' = s.drawn := mv.drawn
        obtain rfl : os' = s.os := mv.os
        refine wpAny_pure ?_
        show wpAny _ _ (ret Value.none) _ _ _
        refine wpAny_pure (And.intro rfl ⟨h', tk', rfl, by rw [sz]; exact c3, fun b o e => ?_⟩)
        have lb : b < s.heap.objs.size := Heap.lt_size e
        exact mv.heap b o (by
          rw [szp]
          intro z
          rcases List.mem_cons.mp z with z | z
          · exact absurd z (Nat.ne_of_lt lb)
          · exact absurd (List.mem_singleton.mp z) (Nat.ne_of_lt (Nat.lt_succ_of_lt lb))) (Heap.get?_push_of_some _ (Heap.get?_push_of_some _ e))
    · match r2, hr2 with
      | .error e, hr2 => exact hr2
      | .ok .next, hr2 => exact hr2.elim
      | .ok .brk, hr2 => exact hr2.elim
      | .ok .cont, hr2 => exact hr2.elim
      | .ok (.ret z), ⟨ez, h', tk, es, c2, kp⟩ =>
        subst ez es
        repeat (any_goals (first | assumption | wp_step))
        exact q _ _ c2 kp
end
section
variable {X : Cx}
def tLenT (K : PySem.W.Frag) (ta : TE) : TE := fun σ H Q => ta σ H fun x H1 => ∃ (l : Addr) (xs : List Str), x = .ref l ∧ SqL K H1 l (xs.map V.str) ∧ xs.Nodup ∧ xs.length ≤ 1000 ∧ Q (.int (xs.length : Nat)) H1
theorem pe_lenT {a : Expr} {ta : TE} {p p2 q pos : Pos} (hg : Gl X "len") (hm : X.mg "len" = none) (hg2 : Gl X "set") (hm2 : X.mg "set" = none) (ha : PE X a ta) (hc : X.calm = true := by rfl)
    (na : starEach [a] X.env = (false, eval a X.env) :: starEach [] X.env := by rfl) : PE X (.Call (.Name "len" p) [.Call (.Name "set" p2) [a] [] q] [] pos) (tLenT X.K ta) := by
  refine ⟨fun pins s σ H Q I h => Call_ (ld_blt I hg hm boot_len (callWith_builtin1 (args_cons (Call_ (ld_blt I hg2 hm2 boot_set (callWith_type1 (args_cons (thn (ha.run pins s σ H _ I h) fun v s1 ⟨x, H1, I1, r1, l, xs, ex, hq, nd, few, q1⟩ => args_nil ?_) na) na rfl))) rfl) rfl rfl))⟩
  subst ex
  cases r1
  obtain ⟨its, r, pl, hz⟩ := I1.list hq
  refine set_texts (I1.ok.hd hc) pl.isList (by simpa using strsAre_of r) nd (by unfold scanBound; omega) fun h' tk hS kp => args_nil ?_
  obtain ⟨o, es, ep, t, ho, hex, hd, _, _, _, hf, hn⟩ := hS
  have I2 : Inv X pins σ H1 { s1 with heap := h', toks := tk } := I1.kept kp
  exact call_len_set ho hex hd hf (by rw [hn] <;> omega) ⟨.int (xs.length : Nat), H1, I2.tok _, ⟨_, by rw [hn]⟩, q1⟩
end
end Hy
set_option maxHeartbeats 4000000
/-! _law_walked. -/
namespace Hy
open PySem PySem.Spec PyProof.Rows L2 Evl Hc Hs
theorem boot_sorted' : bootBuiltins "sorted" = some (.builtin "sorted") := by decide +kernel
/-! ### numbers as data -/
theorem lay_ints : ∀ ns : List Int, PyData.canLayAll0 (ns.map PyData.int) = true
  | [] => rfl
  | n :: r => by
    rw [List.map_cons]
    unfold PyData.canLayAll0
    rw [lay_ints r]
    rfl
theorem dep_ints : ∀ ns : List Int, PyData.depthAll (ns.map PyData.int) ≤ 1
  | [] => by
    rw [List.map_nil]
    unfold PyData.depthAll
    omega
  | n :: r => by
    rw [List.map_cons]
    unfold PyData.depthAll
    have := dep_ints r
    have h2 : PyData.depth (.int n) ≤ 1 := by
      unfold PyData.depth
      omega
    omega
theorem shaped_ints (ns : List Int) : SeqAt.shaped (.list (ns.map PyData.int)) = true := by
  unfold SeqAt.shaped
  rw [Bool.and_eq_true]
  refine ⟨?_, decide_eq_true ?_⟩
  · unfold PyData.canLay0
    exact lay_ints ns
  · unfold PyData.depth
    have := dep_ints ns
    omega
theorem dp_ints {K : PySem.W.Frag} {H : Hp} : ∀ ns : List Int, DpAll K H (ns.map V.int) (ns.map PyData.int)
  | [] => .nil
  | n :: r => .cons (.int _) (dp_ints r)
/-! ### l.index(x), sorted(l) -/
theorem eq_S (a b : Nm) : eqV (sv a) (sv b) = decide (a = b) := by
  show (S a == S b) = decide (a = b)
  rw [Bool.eq_iff_iff, beq_iff_eq, decide_eq_true_eq]
  exact ⟨fun z => S_inj z, fun z => z ▸ rfl⟩
def ixo (os : List Nm) (b : Nm) : Nat := @List.idxOf Nm instBEqOfDecidableEq b os
theorem filter_subN {l m : List Nm} (h : l.Sublist m) (nd : m.Nodup) : m.filter (fun x => decide (x ∈ l)) = l := (List.filter_congr fun x _ => by simp only [decide_eq_decide]).trans (filter_sub h nd)
section
variable {K : PySem.W.Frag} {σ : L2.St} {H : Hp} {te to ta tb tl : TE}
theorem ev_idx {p : Addr} {os : List Nm} {x : Nm} (h1 : Ev to σ H (.ref p)) (h2 : Ev te σ H (sv x)) (hp : SqL K H p (os.map sv)) (hx : x ∈ os) : Ev (tBM K "list" (rIndex K) to (tCons te tNil)) σ H (.int ((ixo os x : Nat) : Int)) := fun H1 e Q q =>
  h1 H1 e _ fun H2 e2 => ⟨.inl ⟨rfl, os.map sv, ex_l (e.trans e2) hp⟩, h2 H2 (e.trans e2) _ fun H3 e3 => by
    have lt : ixo os x < os.length := @List.idxOf_lt_length_of_mem Nm x instBEqOfDecidableEq _ os hx
    refine ⟨p, os.map sv, sv x, ixo os x, sv x, rfl, rfl, ex_l ((e.trans e2).trans e3) hp, rfl, flat_N os, ?_, ?_, fun m z hm hz => ?_, q H3 (e2.trans e3)⟩
    · rw [List.getElem?_map, List.getElem?_eq_getElem lt, show os[ixo os x] = x from @List.getElem_idxOf Nm instBEqOfDecidableEq _ x os lt]
      rfl
    · rw [eq_S]
      exact decide_eq_true rfl
    · rw [List.getElem?_map] at hz
      obtain ⟨y, hy, rfl⟩ := Option.map_eq_some_iff.mp hz
      obtain ⟨hl, e⟩ := List.getElem?_eq_some_iff.mp hy
      have hno := List.not_of_lt_findIdx (p := fun w => @BEq.beq Nm instBEqOfDecidableEq w x) (xs := os) (i := m) hm
      rw [eq_S, ← e]
      refine decide_eq_false fun z => ?_
      rw [z] at hno
      simp at hno⟩
theorem ev_lenT {p : Addr} {ns : List Nm} (h : Ev te σ H (.ref p)) (hp : SqL K H p (ns.map sv)) (nd : ns.Nodup) (hl : ns.length ≤ 1000) : Ev (tLenT K te) σ H (.int (ns.length : Nat)) := fun H1 e Q q =>
  h H1 e _ fun H2 e2 => ⟨p, ns.map S, rfl, by rw [List.map_map]; exact ex_l (e.trans e2) hp, nd.map S fun a b hab z => hab (S_inj z), by rw [List.length_map]; exact hl, by rw [List.length_map]; exact q H2 e2⟩
theorem el_sorted {p : Addr} {ns : List Int} (h : Ev te σ H (.ref p)) (hp : SqL K H p (ns.map V.int)) (few : ns.length < 64) (so : ns.Pairwise (· ≤ ·)) : EvL (tCB (rSorted K) (tCons te tNil)) σ H (ns.map V.int) := fun H1 e Q q =>
  h H1 e _ fun H2 e2 => ⟨p, ns, rfl, ex_l (e.trans e2) hp, few, fun ns' l pm so' nl => by
    have e3 : ns' = ns := List.Perm.eq_of_pairwise (fun a b _ _ h1 h2 => Int.le_antisymm h1 h2) so' so pm
    rw [e3]
    exact q l _ (fresh_back e2 nl) (e2.trans (Ex.new nl)) upd_same⟩
theorem ev_neLs {p : Addr} {ns : List Nm} (ha : EvL ta σ H (ns.map sv)) (hb : Ev tb σ H (.ref p)) (hp : SqL K H p (ns.map sv)) (pl : ∀ n ∈ ns, Plain n) : Ev (tOp (rNeD K) ta tb) σ H (.bl false) := fun H1 e Q q =>
  ha H1 e _ fun l H2 nl e2 hl => hb H2 (e.trans e2) _ fun H3 e3 => ⟨_, _, .lst (sq_of (e3 _ _ hl)) (dp_strs ns), .lst (ex_l ((e.trans e2).trans e3) hp) (dp_strs ns), shaped_list ns pl, shaped_list ns pl, by
    rw [SeqAt.eqv_refl _ (SeqAt.canLay_of_shaped (shaped_list ns pl))]
    exact q H3 (e2.trans e3)⟩
theorem ev_neVs {p l : Addr} {ns : List Nm} (ha : Ev ta σ H (.ref l)) (hl : SqL K H l (ns.map sv)) (hb : Ev tb σ H (.ref p)) (hp : SqL K H p (ns.map sv)) (pl : ∀ n ∈ ns, Plain n) : Ev (tOp (rNeD K) ta tb) σ H (.bl false) := fun H1 e Q q =>
  ha H1 e _ fun H2 e2 => hb H2 (e.trans e2) _ fun H3 e3 => ⟨_, _, .lst (ex_l ((e.trans e2).trans e3) hl) (dp_strs ns), .lst (ex_l ((e.trans e2).trans e3) hp) (dp_strs ns), shaped_list ns pl, shaped_list ns pl, by
    rw [SeqAt.eqv_refl _ (SeqAt.canLay_of_shaped (shaped_list ns pl))]
    exact q H3 (e2.trans e3)⟩
theorem ev_neSort {p : Addr} {ns : List Int} (h1 : Ev ta σ H (.ref p)) (h2 : Ev te σ H (.ref p)) (hp : SqL K H p (ns.map V.int)) (few : ns.length < 64) (so : ns.Pairwise (· ≤ ·)) : Ev (tOp (rNeD K) ta (tCB (rSorted K) (tCons te tNil))) σ H (.bl false) := fun H1 e Q q =>
  h1 H1 e _ fun H2 e2 => el_sorted h2 hp few so H2 (e.trans e2) _ fun l H3 nl e3 hl => ⟨_, _, .lst (ex_l ((e.trans e2).trans e3) hp) (dp_ints ns), .lst (sq_of hl) (dp_ints ns), shaped_ints ns, shaped_ints ns, by
    rw [SeqAt.eqv_refl _ (SeqAt.canLay_of_shaped (shaped_ints ns))]
    exact q H3 (e2.trans e3)⟩
theorem ev_neI {a b : Int} (h1 : Ev ta σ H (.int a)) (h2 : Ev tb σ H (.int b)) : Ev (tOp rNe ta tb) σ H (.bl (!decide (a = b))) := Evl.ev_is (ev_op h1 h2 (z := .bl (!decide (V.int a = V.int b))) (fun H1 _ Q q => ⟨rfl, q H1 (Ex.refl H1)⟩)) (by
    by_cases h : a = b
    · rw [h, decide_eq_true rfl, decide_eq_true rfl]
    · rw [decide_eq_false h, decide_eq_false (fun z => h (V.int.inj z))])
end
/-! ### the def -/
abbrev nLWalked : List Str := ["_law_order", "_law_name", "_law_parents", "_law_orders", "_law_one", "_law_base", "_law_places", "_law_place"]
theorem scLWalked : FnScope nLWalked ["_law_order", "_law_name", "_law_parents", "_law_orders"] (defScope sLWalked) := ⟨rfl, rfl, rfl, by decide +kernel, rfl, by decide +kernel, by decide +kernel⟩
def spLWalked : Sp := fun vs H Q _ => ∃ (o pa od : Addr) (n : Nm) (rest : List Nm) (kp ko : List (Key × V)), vs = [.ref o, sv n, .ref pa, .ref od] ∧ H o = some (.lst ((n :: rest).map sv)) ∧ (n :: rest).Nodup ∧ rest.length ≤ 50 ∧ (∀ x ∈ n :: rest, GoodNm x) ∧ H pa = some (.dK kp) ∧ H od = some (.dK ko) ∧
  (∀ one ∈ n :: rest, ∃ (p : Addr) (bs : List Nm), valV kp (kN one) = some (.ref p) ∧ H p = some (.lst (bs.map sv)) ∧ (one :: bs).Sublist (n :: rest)) ∧
  (∀ (p : Addr) (bs : List Nm), valV kp (kN n) = some (.ref p) → H p = some (.lst (bs.map sv)) → ∀ b ∈ bs, ∃ (q : Addr) (ob : List Nm), valV ko (kN b) = some (.ref q) ∧ H q = some (.lst (ob.map sv)) ∧ ob.Sublist (n :: rest)) ∧ ∀ H', Ex H H' → Q (.bl true) H'
section
variable {P : Program} {w : World} {K : PySem.W.Frag} {mg : Str → Option Value} {base : Heap}
theorem ok_lwalked {f : Addr} {fd : FuncData} {k : Nat} (F : Fun K "_law_walked" "_law_walked" sLWalked f fd) (T : LawP mg) : FnOk P w K mg base CX0 (k + 1) f fd ["_law_order", "_law_name", "_law_parents", "_law_orders"] spLWalked := by
  refine F.ok scLWalked (fun vs H Q E h => ?_) (fun cdv A outer s H vs Q E hr h => ?_)
  · obtain ⟨o, pa, od, n, rest, kp, ko, rfl, _⟩ := h
    rfl
  · obtain ⟨o, pa, od, n, rest, kp, ko, rfl, ho, nd, few, good, hpa, hod, hpar, hord, q⟩ := h
    have hu := hu_of hr
    refine ⟨_, pss_cons (ps_if (PW.pt (pw_or (pt_cmpR op_ne (pe_ix ix_list (pv 0) pe_int (fun _ _ => rfl)) (pv 1) (nomark _)) (pw_or1 (pt_cmpR op_ne (pe_lenT (by rfl) T.len (by rfl) T.set (pv 0)) (pe_callB call_len_seq (by rfl) T.len PySem.boot_len (pa_cons (pv 0) pa_nil)) (nomark _))))) (pss_one (ps_ret pe_bl)) pss_nil)
      (pss_cons (ps_for PassesOwn.never rfl (pi_list (pv 0)) (pg_name (i := 4) scLWalked.nd rfl (.inr rfl))
        (pss_cons (ps_setLc (i := 6) (own := [("_law_base", 5)]) (g := gName 5) (tt := tYes) rfl scLWalked.nd rfl rfl (sw_true rfl rfl rfl (by decide +kernel)) (pi_list (pe_dget hu (pv 2) (pv 4) (fun _ _ => rfl))) (blkOk_by (N := nLWalked) (sc := defScope sLWalked) (by decide +kernel)) (fun _ _ _ _ _ => pg_name (i := 5) scLWalked.nd rfl (.inl rfl)) (fun _ _ _ _ _ => pts_nil)
            (fun _ _ _ _ _ => show PE _ _ (tBM K "list" (rIndex K) (tVar 0) (tCons (tVar 5) tNil)) from pe_bm PySem.F.plainAttrs_list PySem.F.slot_list_index PySem.F.type_list_index mt_index (pv 0) (pa_cons (pv 5) pa_nil)))
        (pss_one (ps_if (PW.pt (pw_or (pt_cmpR (op_neD hr.units) (pv 6) (pe_callB cr_sorted (by rfl) T.srt boot_sorted' (pa_cons (pv 6) pa_nil)) (nomark _)) (pw_or1 (pt_val (pe_callB (cr_any rfl) (by rfl) T.any boot_any' (pa_cons (pe_lc (own := [("_law_place", 7)]) (g := gName 7) (tt := tYes) rfl scLWalked.nd (pi_list (pv 6)) (blkOk_by (N := nLWalked) (sc := defScope sLWalked) (by decide +kernel)) (fun _ _ _ _ _ => pg_name (i := 7) scLWalked.nd rfl (.inl rfl)) (fun _ _ _ _ _ => pts_nil)
            (fun _ _ _ _ _ => pe_cmpR op_le (pv 7) (show PE _ _ (tBM K "list" (rIndex K) (tVar 0) (tCons (tVar 4) tNil)) from pe_bm PySem.F.plainAttrs_list PySem.F.slot_list_index PySem.F.type_list_index mt_index (pv 0) (pa_cons (pv 4) pa_nil)) (by rfl))) pa_nil)))))) (pss_one (ps_ret pe_bl)) pss_nil))))
      (pss_cons (ps_for PassesOwn.never rfl (pi_list (pe_dget hu (pv 2) (pv 1) (fun _ _ => rfl))) (pg_name (i := 5) scLWalked.nd rfl (.inr rfl))
        (pss_one (ps_if (pt_cmpR (op_neD hr.units) (pe_lc (own := [("_law_one", 4)]) (g := gName 4) (tt := tTest (tOp (rIn K false) (tVar 4) (tDGet (tVar 3) (tVar 5)))) rfl scLWalked.nd (pi_list (pv 0)) (blkOk_by (N := nLWalked) (sc := defScope sLWalked) (by decide +kernel)) (fun _ _ _ _ _ => pg_name (i := 4) scLWalked.nd rfl (.inl rfl))
            (fun _ _ _ _ _ => pts_one (pt_cmpR (show OpR _ (compareOp .In) (rIn K false) from op_in_seq) (pv 4) (pe_dget hu (pv 3) (pv 5) (fun _ _ => rfl)) (by rfl))) (fun _ _ _ _ _ => pv 4)) (pe_dget hu (pv 3) (pv 5) (fun _ _ => rfl)) (nomark _)) (pss_one (ps_ret pe_bl)) pss_nil)))
      (pss_one (ps_ret pe_bl)))), ?_⟩
    have ho0 := ho
    have hn0 : n ∈ n :: rest := List.mem_cons_self
    generalize hos : n :: rest = os at ho nd good hpar hord hn0
    have hlen : os.length ≤ 51 := by
      rw [← hos, List.length_cons]
      omega
    have hso : ∀ {H1 : Hp}, Ex H H1 → SqL K H1 o (os.map sv) := fun e => sq_of (e _ _ ho)
    refine q_when (b := false) (et_is (et_or (et_neS (a := n) (b := n) (ev_head (ev_var rfl) (sq_of ho0)) (ev_var rfl)) fun _ => et_test (ev_neI (a := ((os.length : Nat) : Int)) (b := ((os.length : Nat) : Int)) (ev_lenT (ev_var rfl) (sq_of ho) nd (by omega)) (by
        have z := ev_len (K := K) (σ := [some (.ref o), some (sv n), some (.ref pa), some (.ref od), none, none, none, none]) (ta := tVar 0) (ev_var rfl) (sq_of ho)
        rw [List.length_map] at z
        exact z))) (by simp)) (fun z => nomatch z) fun _ H1 e1 => ?_
    refine q_forLn (ev_var rfl) (hso e1) (fun _ σ' H' => ∃ v4 v6, σ' = [some (.ref o), some (sv n), some (.ref pa), some (.ref od), v4, none, v6, none] ∧ Ex H H') (fun H2 e2 => ⟨none, none, rfl, e1.trans e2⟩) (fun i σ' H' _ z => by
      obtain ⟨_, _, _, ez⟩ := z
      exact hso ez) (fun i x σ' H' hx z => ?_) (fun σ' H' z => ?_)
    · obtain ⟨v4, v6, rfl, ez⟩ := z
      rw [List.getElem?_map] at hx
      obtain ⟨one, h1, rfl⟩ := Option.map_eq_some_iff.mp hx
      have hone := List.mem_of_getElem? h1
      obtain ⟨p, bs, hv, hp, sub⟩ := hpar one hone
      have hsub : ∀ b ∈ bs, b ∈ os := fun b hb => sub.subset (List.mem_cons_of_mem _ hb)
      have hpw := sub_idx sub nd
      rw [List.map_cons, List.pairwise_cons] at hpw
      have hbl : bs.length ≤ 51 := by
        have := sub.length_le
        rw [List.length_cons] at this
        omega
      show tSeq _ _ _ [some (.ref o), some (sv n), some (.ref pa), some (.ref od), some (sv one), none, v6, none] H'
      refine q_asgL (xs := (bs.map fun b => ((ixo os b : Nat) : Int)).map V.int) ?_ fun pl H3 npl e3 hpl => ?_
      · have z := el_map (K := K) (H := H') (σ := [some (.ref o), some (sv n), some (.ref pa), some (.ref od), some (sv one), none, v6, none]) (a := p) (tl := tDGet (tVar 2) (tVar 4)) (te := tBM K "list" (rIndex K) (tVar 0) (tCons (tVar 5) tNil)) (t := tYes) (j := 5) (vs := [5]) bs sv (fun _ => true) (fun b => V.int ((ixo os b : Nat) : Int)) (ev_dget (ev_var rfl) (ev_var rfl) (ez _ _ hpa) hv) (sq_of (ez _ _ hp)) (Nat.le_trans hbl (by decide)) Hs.wipe1 (fun _ _ _ _ => et_yes) (fun b H4 e4 hb _ => ev_idx (ev_var rfl) (ev_var rfl) (hso (ez.trans e4)) (hsub b hb))
        rw [List.filter_eq_self.mpr (fun _ _ => rfl)] at z
        rw [List.map_map]
        exact z
      have hbl2 : (bs.map fun b => ((ixo os b : Nat) : Int)).length ≤ 51 := by
        rw [List.length_map]
        exact hbl
      have hall : ∀ y ∈ (bs.map fun b => ((ixo os b : Nat) : Int)), decide (y ≤ ((ixo os one : Nat) : Int)) = false := fun y hy => by
        obtain ⟨b, hb, rfl⟩ := List.mem_map.mp hy
        have : ixo os one < ixo os b := hpw.1 _ (List.mem_map.mpr ⟨b, hb, rfl⟩)
        exact decide_eq_false (by omega)
      have hpw2 : (bs.map fun b => ((ixo os b : Nat) : Int)).Pairwise (· ≤ ·) := by
        have h2 := hpw.2
        rw [List.pairwise_map] at h2 ⊢
        exact h2.imp fun {a b} h => by
          have h3 : ixo os a < ixo os b := h
          omega
      generalize (bs.map fun b => ((ixo os b : Nat) : Int)) = pls at hpl hbl2 hall hpw2
      show tIfS _ _ _ _ [some (.ref o), some (sv n), some (.ref pa), some (.ref od), some (sv one), none, some (.ref pl), none] H3
      refine s_when (b := false) (et_is (et_or (et_test (ev_neSort (p := pl) (ev_var rfl) (ev_var rfl) (sq_of hpl) (by omega) hpw2)) fun _ => et_B (ev_any (bs := pls.map fun y => decide (y ≤ ((ixo os one : Nat) : Int))) ?_)) ?_) (fun z => nomatch z) fun _ H4 e4 => ⟨_, _, rfl, (ez.trans e3).trans e4⟩
      · have z := el_map (K := K) (H := H3) (σ := [some (.ref o), some (sv n), some (.ref pa), some (.ref od), some (sv one), none, some (.ref pl), none]) (a := pl) (tl := tVar 6) (te := tOp (rI0 fun i j => .bl (decide (i ≤ j))) (tVar 7) (tBM K "list" (rIndex K) (tVar 0) (tCons (tVar 4) tNil))) (t := tYes) (j := 7) (vs := [7]) pls V.int (fun _ => true) (fun y => V.bl (decide (y ≤ ((ixo os one : Nat) : Int)))) (ev_var rfl) (sq_of hpl) (Nat.le_trans hbl2 (by decide)) Hs.wipe1 (fun _ _ _ _ => et_yes) (fun y H4 e4 hy _ => ev_op (ev_var rfl) (ev_idx (ev_var rfl) (ev_var rfl) (hso ((ez.trans e3).trans e4)) hone) rv_I0)
        rw [List.filter_eq_self.mpr (fun _ _ => rfl)] at z
        rw [List.map_map]
        exact z
      · rw [Bool.false_or, List.any_map, List.any_eq_false]
        intro y hy
        show ¬ (decide (y ≤ ((ixo os one : Nat) : Int)) = true)
        rw [hall y hy]
        exact Bool.false_ne_true
    · obtain ⟨v4, v6, rfl, ez⟩ := z
      obtain ⟨p, bs, hv, hp, sub⟩ := hpar n hn0
      have hord2 := hord p bs hv hp
      refine q_forLn (xs := bs.map sv) (ev_dget (ev_var rfl) (ev_var rfl) (ez _ _ hpa) hv) (sq_of (ez _ _ hp)) (fun _ σ' H' => ∃ v4 v5 v6, σ' = [some (.ref o), some (sv n), some (.ref pa), some (.ref od), v4, v5, v6, none] ∧ Ex H H') (fun H2 e2 => ⟨_, _, _, rfl, ez.trans e2⟩) (fun i σ' H' _ z => by
        obtain ⟨_, _, _, _, ez⟩ := z
        exact sq_of (ez _ _ hp)) (fun i x σ' H' hx z => ?_) (fun σ' H' z => ?_)
      · obtain ⟨v4, v5, v6, rfl, ez⟩ := z
        rw [List.getElem?_map] at hx
        obtain ⟨b, h1, rfl⟩ := Option.map_eq_some_iff.mp hx
        obtain ⟨l, ob, hvo, hl, sob⟩ := hord2 b (List.mem_of_getElem? h1)
        show tIfS _ _ _ _ [some (.ref o), some (sv n), some (.ref pa), some (.ref od), v4, some (sv b), v6, none] H'
        refine s_when (b := false) (et_test (ev_neLs (p := l) (ns := ob) ?_ (ev_dget (ev_var rfl) (ev_var rfl) (ez _ _ hod) hvo) (sq_of (ez _ _ hl)) fun m hm => (good m (sob.subset hm)).plain)) (fun z => nomatch z) fun _ H4 e4 => ⟨_, _, _, rfl, ez.trans e4⟩
        have z := el_map (K := K) (H := H') (σ := [some (.ref o), some (sv n), some (.ref pa), some (.ref od), v4, some (sv b), v6, none]) (a := o) (tl := tVar 0) (te := tVar 4) (t := tTest (tOp (rIn K false) (tVar 4) (tDGet (tVar 3) (tVar 5)))) (j := 4) (vs := [4]) os sv (fun x => decide (x ∈ ob)) sv (ev_var rfl) (hso ez) (by omega) Hs.wipe1 (fun x H4 e4 _ => et_test (ev_inLs (ev_var rfl) (ev_dget (ev_var rfl) (ev_var rfl) ((ez.trans e4) _ _ hod) hvo) (sq_of ((ez.trans e4) _ _ hl)))) (fun x H4 e4 _ _ => ev_var rfl)
        rw [filter_subN sob nd] at z
        exact z
      · obtain ⟨v4, v5, v6, rfl, ez⟩ := z
        exact s_ret ev_c fun H2 e2 => q H2 (ez.trans e2)
end
end Hy
set_option maxHeartbeats 4000000
/-! The classes that the law has built, and what holds of their orders. -/
namespace Hy
open PySem PySem.Spec PyProof.Rows L2 Evl Hc Hs
structure Blt where
  wd : List Nat
  par : List Nm
  pa : Addr
  ord : List Nm
  oa : Addr
def Blt.nm (e : Blt) : Nm := capd e.wd
def Blt.ln (e : Blt) : Ln := (e.nm, e.par)
def Blt.pr (e : Blt) : Nm × List Nm := (e.nm, e.ord)
structure Gd (bl : List Blt) : Prop where
  nd : (bl.map Blt.nm).Nodup
  sm : ∀ e ∈ bl, Small e.wd
  ab : abOf (bl.map Blt.ln) = bl.map Blt.pr
  ft : Fits (bl.map Blt.ln)
  on : ∀ e ∈ bl, e.ord.Nodup
  oh : ∀ e ∈ bl, ∃ m, e.ord = e.nm :: m
  os : ∀ e ∈ bl, ∀ x ∈ e.ord, x ∈ bl.map Blt.nm
  o2 : ∀ e ∈ bl, ∀ e' ∈ bl, e'.nm ∈ e.ord → (e'.nm :: e'.par).Sublist e.ord
  o3 : ∀ e ∈ bl, ∀ e' ∈ bl, e'.nm ∈ e.par → e'.ord.Sublist e.ord
  ps : ∀ e ∈ bl, ∀ b ∈ e.par, b ∈ bl.map Blt.nm
  p3 : ∀ e ∈ bl, e.par.length ≤ 3
theorem Gd.nil : Gd [] where
  nd := List.nodup_nil
  sm := by simp
  ab := rfl
  ft := fun i p h => by simp at h
  on := by simp
  oh := by simp
  os := by simp
  o2 := by simp
  o3 := by simp
  ps := by simp
  p3 := by simp
theorem one_of : ∀ {bl : List Blt}, (bl.map Blt.nm).Nodup → ∀ {e e' : Blt}, e ∈ bl → e' ∈ bl → e.nm = e'.nm → e = e'
  | [], _, e, e', h, _, _ => nomatch h
  | x :: r, nd, e, e', h, h', q => by
    rw [List.map_cons, List.nodup_cons] at nd
    rcases List.mem_cons.mp h with y | y <;> rcases List.mem_cons.mp h' with z | z
    · rw [y, z]
    · exact absurd (List.mem_map.mpr ⟨e', z, by rw [← q, y]⟩) nd.1
    · exact absurd (List.mem_map.mpr ⟨e, y, by rw [q, z]⟩) nd.1
    · exact one_of nd.2 y z q
/-- names, each of a class that was built -/
theorem lift_names {bl : List Blt} : ∀ {bs : List Nm}, (∀ b ∈ bs, b ∈ bl.map Blt.nm) → ∃ es : List Blt, es.map Blt.nm = bs ∧ ∀ e ∈ es, e ∈ bl
  | [], _ => ⟨[], rfl, fun e h => nomatch h⟩
  | b :: r, h => by
    obtain ⟨es, h1, h2⟩ := lift_names (bs := r) fun x hx => h x (List.mem_cons_of_mem _ hx)
    obtain ⟨e, he, hb⟩ := List.mem_map.mp (h b List.mem_cons_self)
    refine ⟨e :: es, by rw [List.map_cons, h1, hb], fun x hx => ?_⟩
    rcases List.mem_cons.mp hx with rfl | hx
    · exact he
    · exact h2 x hx
theorem find_one {bl : List Blt} (nd : (bl.map Blt.nm).Nodup) {e : Blt} (h : e ∈ bl) {α : Type} (g : Blt → α) (key : α → Nm) (hk : ∀ x, key (g x) = x.nm) : (bl.map g).find? (fun x => decide (key x = e.nm)) = some (g e) := by
  rw [List.find?_map]
  have : bl.find? ((fun x => decide (key x = e.nm)) ∘ g) = some e := by
    cases q : bl.find? ((fun x => decide (key x = e.nm)) ∘ g) with
    | none =>
      have := List.find?_eq_none.mp q e h
      simp [hk] at this
    | some e' =>
      have h1 := List.mem_of_find?_eq_some q
      have h2 := List.find?_some q
      have h3 : key (g e') = e.nm := of_decide_eq_true h2
      rw [hk] at h3
      rw [one_of nd h1 h h3]
  rw [this]
  rfl
theorem ord_of {bl : List Blt} (nd : (bl.map Blt.nm).Nodup) {e : Blt} (h : e ∈ bl) : ordA (bl.map Blt.pr) e.nm = e.ord := by
  unfold ordA
  rw [find_one nd h Blt.pr Prod.fst (fun _ => rfl)]
  rfl
theorem val_of {bl : List Blt} (nd : (bl.map Blt.nm).Nodup) {e : Blt} (h : e ∈ bl) (v : Blt → V) : valV (bl.map fun e => (kN e.nm, v e)) (kN e.nm) = some (v e) := by
  unfold valV
  rw [List.find?_map]
  have : bl.find? ((fun kv : Key × V => decide (kv.1 = kN e.nm)) ∘ fun e => (kN e.nm, v e)) = some e := by
    cases q : bl.find? ((fun kv : Key × V => decide (kv.1 = kN e.nm)) ∘ fun e => (kN e.nm, v e)) with
    | none =>
      have := List.find?_eq_none.mp q e h
      simp at this
    | some e' =>
      have h2 := List.find?_some q
      have h3 : kN e'.nm = kN e.nm := of_decide_eq_true h2
      rw [one_of nd (List.mem_of_find?_eq_some q) h (kN_inj.mp h3)]
  rw [this]
  rfl
theorem val_no {bl : List Blt} {n : Nm} (h : n ∉ bl.map Blt.nm) (v : Blt → V) : valV (bl.map fun e => (kN e.nm, v e)) (kN n) = none := by
  unfold valV
  rw [List.find?_map]
  have : bl.find? ((fun kv : Key × V => decide (kv.1 = kN n)) ∘ fun e => (kN e.nm, v e)) = none := by
    rw [List.find?_eq_none]
    intro x hx z
    have h3 : kN x.nm = kN n := of_decide_eq_true z
    exact h (List.mem_map.mpr ⟨x, hx, kN_inj.mp h3⟩)
  rw [this]
  rfl
theorem rows_of {bl es : List Blt} (nd : (bl.map Blt.nm).Nodup) (h : ∀ e ∈ es, e ∈ bl) : rowsA (bl.map Blt.pr) (es.map Blt.nm) = es.map Blt.ord ++ [es.map Blt.nm] := by
  unfold rowsA
  rw [List.map_map]
  congr 1
  exact List.map_congr_left fun e he => ord_of nd (h e he)
theorem Gd.good {bl : List Blt} (G : Gd bl) {n : Nm} (h : n ∈ bl.map Blt.nm) : GoodNm n := by
  obtain ⟨e, he, rfl⟩ := List.mem_map.mp h
  exact (G.sm e he).good
theorem Gd.olen {bl : List Blt} (G : Gd bl) {e : Blt} (h : e ∈ bl) : e.ord.length ≤ bl.length := by
  have := List.Nodup.length_le_of_subset (G.on e h) (fun x hx => G.os e h x hx)
  rwa [List.length_map] at this
theorem pr_names (bl : List Blt) : (bl.map Blt.pr).map (·.1) = bl.map Blt.nm := by
  rw [List.map_map]
  rfl
theorem Gd.fit {bl : List Blt} (G : Gd bl) (few : bl.length < 8) {w : List Nat} {bs : List Nm} (hw : Small w) (new : capd w ∉ bl.map Blt.nm) (nd : bs.Nodup) (l3 : bs.length ≤ 3) (old : ∀ b ∈ bs, b ∈ bl.map Blt.nm) : Fit (abOf (bl.map Blt.ln)) (capd w) bs := by
  rw [G.ab]
  refine ⟨hw.good, fun b hb => G.good (old b hb), nd, l3, by rw [pr_names]; exact new, fun b hb => by rw [pr_names]; exact old b hb, by rw [List.length_map]; exact few, fun p hp => ?_⟩
  obtain ⟨e, he, rfl⟩ := List.mem_map.mp hp
  have := G.olen he
  show e.ord.length ≤ 8
  omega
theorem fits_snoc {ls : List Ln} {p : Ln} (F : Fits ls) (h : Fit (abOf ls) p.1 p.2) (hm : ∃ m, merge (rowsA (abOf ls) p.2) = some m) : Fits (ls ++ [p]) := fun i q hq => by
  by_cases hi : i < ls.length
  · rw [List.getElem?_append_left hi] at hq
    rw [List.take_append_of_le_length (Nat.le_of_lt hi)]
    exact F i q hq
  · have hl : i < (ls ++ [p]).length := (List.getElem?_eq_some_iff.mp hq).1
    rw [List.length_append, List.length_singleton] at hl
    obtain rfl : i = ls.length := by omega
    rw [List.getElem?_concat_length] at hq
    cases hq
    rw [List.take_left]
    exact ⟨h, hm⟩
theorem Gd.add {bl : List Blt} (G : Gd bl) (few : bl.length < 8) {w : List Nat} {bs m : List Nm} {p q : Addr} (hw : Small w) (new : capd w ∉ bl.map Blt.nm) (nd : bs.Nodup) (l3 : bs.length ≤ 3) (old : ∀ b ∈ bs, b ∈ bl.map Blt.nm) (hm : merge (rowsA (bl.map Blt.pr) bs) = some m) : Gd (bl ++ [⟨w, bs, p, capd w :: m, q⟩]) := by
  obtain ⟨es, rfl, hes⟩ := lift_names old
  have hr := rows_of G.nd hes
  have hrn : ∀ r ∈ rowsA (bl.map Blt.pr) (es.map Blt.nm), r.Nodup := fun r hr2 => by
    rw [hr] at hr2
    rcases List.mem_append.mp hr2 with h | h
    · obtain ⟨e, he, rfl⟩ := List.mem_map.mp h
      exact G.on e (hes e he)
    · rw [List.mem_singleton] at h
      rw [h]
      exact nd
  have F := fine hrn hm
  rw [hr] at F
  have msub : ∀ x ∈ m, ∃ e ∈ es, x ∈ e.ord := fun x hx => by
    obtain ⟨r, hr2, hxr⟩ := F.mem x hx
    rcases List.mem_append.mp hr2 with h | h
    · obtain ⟨e, he, rfl⟩ := List.mem_map.mp h
      exact ⟨e, he, hxr⟩
    · rw [List.mem_singleton] at h
      rw [h] at hxr
      obtain ⟨e, he, rfl⟩ := List.mem_map.mp hxr
      obtain ⟨m', hm'⟩ := G.oh e (hes e he)
      exact ⟨e, he, by rw [hm']; exact List.mem_cons_self⟩
  have mn : ∀ x ∈ m, x ∈ bl.map Blt.nm := fun x hx => by
    obtain ⟨e, he, hxe⟩ := msub x hx
    exact G.os e (hes e he) x hxe
  have nm : capd w ∉ m := fun h => new (mn _ h)
  have osub : ∀ e ∈ es, e.ord.Sublist m := fun e he => F.sub _ (List.mem_append.mpr (.inl (List.mem_map.mpr ⟨e, he, rfl⟩)))
  have bsub : (es.map Blt.nm).Sublist m := F.sub _ (List.mem_append.mpr (.inr (List.mem_singleton.mpr rfl)))
  have names : (bl ++ [(⟨w, es.map Blt.nm, p, capd w :: m, q⟩ : Blt)]).map Blt.nm = bl.map Blt.nm ++ [capd w] := by
    rw [List.map_append]
    rfl
  have lines : (bl ++ [(⟨w, es.map Blt.nm, p, capd w :: m, q⟩ : Blt)]).map Blt.ln = bl.map Blt.ln ++ [(capd w, es.map Blt.nm)] := by
    rw [List.map_append]
    rfl
  have fit := G.fit few hw new nd l3 old
  have hm2 : merge (rowsA (abOf (bl.map Blt.ln)) (es.map Blt.nm)) = some m := by
    rw [G.ab]
    exact hm
  have left : ∀ {x}, x ∈ bl.map Blt.nm → x ∈ bl.map Blt.nm ++ [capd w] := fun h => List.mem_append.mpr (.inl h)
  refine ⟨?_, fun e he => ?_, ?_, ?_, fun e he => ?_, fun e he => ?_, fun e he x hx => ?_, fun e he e' he' hx => ?_, fun e he e' he' hx => ?_, fun e he b hb => ?_, fun e he => ?_⟩
  · rw [names, List.nodup_append]
    refine ⟨G.nd, List.nodup_cons.mpr ⟨by simp, List.nodup_nil⟩, fun a ha b hb => ?_⟩
    rw [List.mem_singleton] at hb
    rintro rfl
    exact new (hb ▸ ha)
  · rcases List.mem_append.mp he with h | h
    · exact G.sm e h
    · rw [List.mem_singleton] at h
      rw [h]
      exact hw
  · rw [lines, abOf_snoc]
    unfold abStep
    rw [hm2, G.ab, List.map_append]
    rfl
  · rw [lines]
    exact fits_snoc G.ft fit ⟨m, hm2⟩
  · rcases List.mem_append.mp he with h | h
    · exact G.on e h
    · rw [List.mem_singleton] at h
      rw [h]
      exact List.nodup_cons.mpr ⟨nm, F.nd⟩
  · rcases List.mem_append.mp he with h | h
    · exact G.oh e h
    · rw [List.mem_singleton] at h
      rw [h]
      exact ⟨m, rfl⟩
  · rw [names]
    rcases List.mem_append.mp he with h | h
    · exact left (G.os e h x hx)
    · rw [List.mem_singleton] at h
      rw [h] at hx
      rcases List.mem_cons.mp hx with rfl | hx
      · exact List.mem_append.mpr (.inr (List.mem_singleton.mpr rfl))
      · exact left (mn x hx)
  · rcases List.mem_append.mp he with h | h <;> rcases List.mem_append.mp he' with h' | h'
    · exact G.o2 e h e' h' hx
    · rw [List.mem_singleton] at h'
      rw [h'] at hx
      exact absurd (G.os e h _ hx) new
    · rw [List.mem_singleton] at h
      rw [h] at hx ⊢
      rcases List.mem_cons.mp hx with hx | hx
      · exact absurd (List.mem_map.mpr ⟨e', h', hx⟩) new
      · obtain ⟨eb, h1, h2⟩ := msub _ hx
        exact ((G.o2 eb (hes eb h1) e' h' h2).trans (osub eb h1)).cons _
    · rw [List.mem_singleton] at h h'
      rw [h, h']
      exact bsub.cons₂ _
  · rcases List.mem_append.mp he with h | h <;> rcases List.mem_append.mp he' with h' | h'
    · exact G.o3 e h e' h' hx
    · rw [List.mem_singleton] at h'
      rw [h'] at hx
      exact absurd (G.ps e h _ hx) new
    · rw [List.mem_singleton] at h
      rw [h] at hx ⊢
      obtain ⟨eb, h1, h2⟩ := List.mem_map.mp (show e'.nm ∈ es.map Blt.nm from hx)
      have : eb = e' := one_of G.nd (hes eb h1) h' h2
      rw [← this]
      exact (osub eb h1).cons _
    · rw [List.mem_singleton] at h h'
      rw [h, h'] at hx
      exact absurd (old _ hx) new
  · rw [names]
    rcases List.mem_append.mp he with h | h
    · exact left (G.ps e h b hb)
    · rw [List.mem_singleton] at h
      rw [h] at hb
      exact left (old b hb)
  · rcases List.mem_append.mp he with h | h
    · exact G.p3 e h
    · rw [List.mem_singleton] at h
      rw [h]
      exact l3
/-- a text of lines -/
theorem join_ne {ls : List (List Nat)} (h : ls ≠ []) (hp : ∀ l ∈ ls.head?, l ≠ []) : TL.joinL [10] ls ≠ [] := by
  cases ls with
  | nil => exact absurd rfl h
  | cons a r =>
    have ha : a ≠ [] := hp a rfl
    cases r with
    | nil => exact ha
    | cons b r =>
      show a ++ _ ≠ []
      intro z
      exact ha (List.append_eq_nil_iff.mp z).1
theorem lines_ok {ls : List (List Nat)} (h : ls ≠ []) (hp : ∀ l ∈ ls.head?, l ≠ []) (hn : ∀ l ∈ ls, 10 ∉ l) (hl : ∀ l ∈ ls, l.length ≤ 60) (few : ls.length ≤ 12) : LinesOk ls := by
  refine ⟨join_ne h hp, h, hn, ?_⟩
  have h1 := joinL_len (T := [10]) (m := 60) (xs := ls) hl
  have h2 : ls.length * (60 + ([10] : List Nat).length) ≤ 12 * 61 := Nat.mul_le_mul few (Nat.le_refl _)
  unfold cap
  omega
theorem sum_few {c : Nat} : ∀ {ls : List (List Nat)}, (∀ l ∈ ls, l.length ≤ c) → (ls.map List.length).sum ≤ ls.length * c
  | [], _ => Nat.zero_le _
  | l :: r, h => by
    have h1 := h l List.mem_cons_self
    have h2 := sum_few (ls := r) fun x hx => h x (List.mem_cons_of_mem _ hx)
    rw [List.map_cons, List.sum_cons, List.length_cons, Nat.add_mul]
    omega
theorem Gd.line {bl : List Blt} (G : Gd bl) {e : Blt} (h : e ∈ bl) : 10 ∉ cl e.ln ∧ (cl e.ln).length ≤ 60 ∧ cl e.ln ≠ [] := by
  have g := (G.sm e h).good
  have gb : ∀ b ∈ e.par, GoodNm b := fun b hb => G.good (G.ps e h b hb)
  have hl := cline_len g gb (G.p3 e h)
  exact ⟨cline_no g gb, hl.1, fun z => by
    have h2 : (cl e.ln).length = 0 := by rw [z]; rfl
    have h3 : 8 ≤ (cl e.ln).length := hl.2
    omega⟩
end Hy
set_option maxHeartbeats 4000000
/-! law. -/
namespace Hy
open PySem PySem.Spec PyProof.Rows L2 Evl Hc Hs
/-! ### what the law keeps -/
structure Ads where
  st : Addr
  g : Addr
  sm : Addr
  od : Addr
  pa : Addr
  ln : Addr
  na : Addr
structure Ads.Far (A : Ads) (p : Addr) : Prop where
  st : p ≠ A.st
  g : p ≠ A.g
  sm : p ≠ A.sm
  od : p ≠ A.od
  pa : p ≠ A.pa
  ln : p ≠ A.ln
  na : p ≠ A.na
structure Ads.Dis (A : Ads) : Prop where
  dO : A.od ≠ A.st ∧ A.od ≠ A.g ∧ A.od ≠ A.sm
  dP : A.pa ≠ A.st ∧ A.pa ≠ A.g ∧ A.pa ≠ A.sm
  dL : A.ln ≠ A.st ∧ A.ln ≠ A.g ∧ A.ln ≠ A.sm
  dN : A.na ≠ A.st ∧ A.na ≠ A.g ∧ A.na ≠ A.sm
  op : A.od ≠ A.pa
  ol : A.od ≠ A.ln
  on : A.od ≠ A.na
  pl : A.pa ≠ A.ln
  pn : A.pa ≠ A.na
  ll : A.ln ≠ A.na
structure Bk (A : Ads) (ko kp : List (Key × V)) (ll nn : List V) (bl : List Blt) (H : Hp) : Prop where
  dr : DrawSt H A.st A.g A.sm
  ho : H A.od = some (.dK ko)
  hp : H A.pa = some (.dK kp)
  hl : H A.ln = some (.lst ll)
  hn : H A.na = some (.lst nn)
  hb : ∀ e ∈ bl, H e.pa = some (.lst (e.par.map sv)) ∧ H e.oa = some (.lst (e.ord.map sv))
  di : A.Dis
  eb : ∀ e ∈ bl, A.Far e.pa ∧ A.Far e.oa
section
variable {A : Ads} {ko kp : List (Key × V)} {ll nn : List V} {bl : List Blt} {H H' : Hp}
theorem Bk.ext (B : Bk A ko kp ll nn bl H) (e : Hc.Ext (Dr A.st A.g) H H') (d : DrawSt H' A.st A.g A.sm) : Bk A ko kp ll nn bl H' :=
  ⟨d, e _ _ B.ho (dr_off B.di.dO), e _ _ B.hp (dr_off B.di.dP), e _ _ B.hl (dr_off B.di.dL), e _ _ B.hn (dr_off B.di.dN), fun x hx => ⟨e _ _ (B.hb x hx).1 (dr_off ⟨(B.eb x hx).1.st, (B.eb x hx).1.g, (B.eb x hx).1.sm⟩), e _ _ (B.hb x hx).2 (dr_off ⟨(B.eb x hx).2.st, (B.eb x hx).2.g, (B.eb x hx).2.sm⟩)⟩, B.di, B.eb⟩
theorem Bk.ex (B : Bk A ko kp ll nn bl H) (e : Ex H H') : Bk A ko kp ll nn bl H' := B.ext (Hc.Ext.same e) (B.dr.same e)
theorem Bk.far (B : Bk A ko kp ll nn bl H) {p : Addr} (h : H p = none) : A.Far p := by
  obtain ⟨h1, h2, h3⟩ := B.dr.off h
  exact ⟨h1, h2, h3, (ne_of_none B.ho h).symm, (ne_of_none B.hp h).symm, (ne_of_none B.hl h).symm, (ne_of_none B.hn h).symm⟩
theorem Bk.putO (B : Bk A ko kp ll nn bl H) (k : List (Key × V)) : Bk A k kp ll nn bl (upd H A.od (.dK k)) :=
  ⟨B.dr.put B.di.dO, upd_same, (upd_ne B.di.op.symm).trans B.hp, (upd_ne B.di.ol.symm).trans B.hl, (upd_ne B.di.on.symm).trans B.hn, fun x hx => ⟨(upd_ne (B.eb x hx).1.od).trans (B.hb x hx).1, (upd_ne (B.eb x hx).2.od).trans (B.hb x hx).2⟩, B.di, B.eb⟩
theorem Bk.putP (B : Bk A ko kp ll nn bl H) (k : List (Key × V)) : Bk A ko k ll nn bl (upd H A.pa (.dK k)) :=
  ⟨B.dr.put B.di.dP, (upd_ne B.di.op).trans B.ho, upd_same, (upd_ne B.di.pl.symm).trans B.hl, (upd_ne B.di.pn.symm).trans B.hn, fun x hx => ⟨(upd_ne (B.eb x hx).1.pa).trans (B.hb x hx).1, (upd_ne (B.eb x hx).2.pa).trans (B.hb x hx).2⟩, B.di, B.eb⟩
theorem Bk.putL (B : Bk A ko kp ll nn bl H) (k : List V) : Bk A ko kp k nn bl (upd H A.ln (.lst k)) :=
  ⟨B.dr.put B.di.dL, (upd_ne B.di.ol).trans B.ho, (upd_ne B.di.pl).trans B.hp, upd_same, (upd_ne B.di.ll.symm).trans B.hn, fun x hx => ⟨(upd_ne (B.eb x hx).1.ln).trans (B.hb x hx).1, (upd_ne (B.eb x hx).2.ln).trans (B.hb x hx).2⟩, B.di, B.eb⟩
theorem Bk.putN (B : Bk A ko kp ll nn bl H) (k : List V) : Bk A ko kp ll k bl (upd H A.na (.lst k)) :=
  ⟨B.dr.put B.di.dN, (upd_ne B.di.on).trans B.ho, (upd_ne B.di.pn).trans B.hp, (upd_ne B.di.ll).trans B.hl, upd_same, fun x hx => ⟨(upd_ne (B.eb x hx).1.na).trans (B.hb x hx).1, (upd_ne (B.eb x hx).2.na).trans (B.hb x hx).2⟩, B.di, B.eb⟩
theorem Bk.addB (B : Bk A ko kp ll nn bl H) (x : Blt) (h1 : H x.pa = some (.lst (x.par.map sv))) (h2 : H x.oa = some (.lst (x.ord.map sv))) (f1 : A.Far x.pa) (f2 : A.Far x.oa) : Bk A ko kp ll nn (bl ++ [x]) H :=
  ⟨B.dr, B.ho, B.hp, B.hl, B.hn, fun e he => (List.mem_append.mp he).elim (B.hb e) fun h => by rw [List.mem_singleton.mp h]; exact ⟨h1, h2⟩, B.di, fun e he => (List.mem_append.mp he).elim (B.eb e) fun h => by rw [List.mem_singleton.mp h]; exact ⟨f1, f2⟩⟩
end
abbrev koOf (bl : List Blt) : List (Key × V) := bl.map fun e => (kN e.nm, V.ref e.oa)
abbrev kpOf (bl : List Blt) : List (Key × V) := bl.map fun e => (kN e.nm, V.ref e.pa)
abbrev llOf (bl : List Blt) : List V := ((bl.map Blt.ln).map cl).map sv
abbrev nnOf (bl : List Blt) : List V := (bl.map Blt.nm).map sv
/-! ### the def -/
abbrev nLaw : List Str := ["_law_script", "_law_state", "_law_orders", "_law_parents", "_law_lines", "_law_names", "_law_turn", "_law_name", "_law_word_here", "_law_bases_here", "_law_rest", "_law_made", "_law_told_here", "_law_base"]
theorem scLaw7 : FnScope nLaw ["_law_script"] (defScope sLaw) := ⟨rfl, rfl, rfl, by decide +kernel, rfl, by decide +kernel, by decide +kernel⟩
def spLaw7 (K : PySem.W.Frag) : Sp := fun vs H Q _ => ∃ (a : Addr) (ns : List Int), vs = [.ref a] ∧ SqL K H a (ns.map V.int) ∧ ns.length ≤ 63 ∧ ∀ H', Q (.bl true) H'
theorem take1 (w : List Nat) : cutS (S w) none (some (1 : Int)) = S (w.take 1) := by
  have := cut_nn w 0 1
  unfold cutS at this ⊢
  rw [HT.sIx_none]
  rw [show ((0 : Nat) : Int) = 0 from rfl] at this
  have e0 : HT.sIx (S w).length 0 (some (0 : Int)) = 0 := by
    rw [show (0 : Int) = ((0 : Nat) : Int) from rfl, HT.sIx_nat]
    exact Nat.zero_min _
  rw [e0] at this
  rw [show (1 : Int) = ((1 : Nat) : Int) from rfl, this]
  rfl
theorem ev_low {σ : L2.St} {H : Hp} {te : TE} {a : Str} (h : Ev te σ H (.str a)) (hl : a.length ≤ 5592405) : Ev (tM0 (fun x xs H Q => ∃ a, x = .str a ∧ xs = [] ∧ a.length ≤ 5592405 ∧ Q (.str (Txt.lower a)) H) te) σ H (.str (Txt.lower a)) := fun H1 e Q q => h H1 e _ fun H2 e2 => ⟨⟨_, rfl⟩, a, rfl, rfl, hl, q H2 e2⟩
theorem ev_upp {σ : L2.St} {H : Hp} {te : TE} {a : Str} (h : Ev te σ H (.str a)) (hl : a.length ≤ 5592405) : Ev (tM0 (fun x xs H Q => ∃ a, x = .str a ∧ xs = [] ∧ a.length ≤ 5592405 ∧ Q (.str (Txt.upper a)) H) te) σ H (.str (Txt.upper a)) := fun H1 e Q q => h H1 e _ fun H2 e2 => ⟨⟨_, rfl⟩, a, rfl, rfl, hl, q H2 e2⟩
theorem el_catV {σ : L2.St} {H : Hp} {ta tb : TE} {xs ys : List V} {l : Addr} (ha : Ev ta σ H (.ref l)) (hl : H l = some (.lst xs)) (hb : EvL tb σ H ys) (hz : xs.length + ys.length ≤ 100000) : EvL (tOp rCat ta tb) σ H (xs ++ ys) := fun H1 e Q q =>
  ha H1 e _ fun H2 e2 => hb H2 (e.trans e2) _ fun r H3 n2 e3 h2 => ⟨l, r, xs, ys, rfl, rfl, ((e.trans e2).trans e3) _ _ hl, h2, sz_of hz, fun t nt => q t _ (fresh_back (e2.trans e3) nt) ((e2.trans e3).trans (Ex.new nt)) upd_same⟩
theorem q_dputL {σ : L2.St} {H : Hp} {D : Ends} {tz : TS} {td ty tv : TE} {d : Addr} {kvs : List (Key × V)} {n : Nm} {xs : List V} (h1 : EvL tv σ H xs) (h2 : Ev td σ H (.ref d)) (h3 : Ev ty σ H (sv n)) (hd : H d = some (.dK kvs)) (hl : kvs.length < 100000)
    (k : ∀ p H1, H p = none → Ex H H1 → H1 p = some (.lst xs) → tz D σ (upd H1 d (.dK (putK kvs (kN n) (.ref p))))) : tSeq (sDPut td ty tv) tz D σ H :=
  h1 H (Ex.refl H) _ fun p H1 np e1 hp => h2 H1 e1 _ fun H2 e2 => h3 H2 (e1.trans e2) _ fun H3 e3 => ⟨d, _, rfl, DPut.k (k := kN n) (((e1.trans e2).trans e3) _ _ hd) (sz_lt hl), k p H3 np ((e1.trans e2).trans e3) ((e2.trans e3) _ _ hp)⟩
theorem class5 : (.str (Str.ofString "class") : V) = sv [99, 108, 97, 115, 115] := by decide +kernel
theorem map_sv_inj : ∀ {as bs : List Nm}, as.map sv = bs.map sv → as = bs
  | [], [], _ => rfl
  | [], _ :: _, h => by simp at h
  | _ :: _, [], h => by simp at h
  | a :: r, b :: t, h => by
    rw [List.map_cons, List.map_cons] at h
    injection h with h1 h2
    rw [S_inj (V.str.inj h1), map_sv_inj h2]
/-- the law's loop that builds -/
def LW1 (a : Addr) (A : Ads) (i : Nat) (σ : L2.St) (H : Hp) : Prop := ∃ (bl : List Blt) (v6 v7 v8 v9 v10 : Option V), σ = [some (.ref a), some (.ref A.st), some (.ref A.od), some (.ref A.pa), some (.ref A.ln), some (.ref A.na), v6, v7, v8, v9, v10, none, none, none] ∧
  Bk A (koOf bl) (kpOf bl) (llOf bl) (nnOf bl) bl H ∧ Gd bl ∧ bl.length ≤ i ∧ (0 < i → bl ≠ [])
section
variable {P : Program} {w : World} {K : PySem.W.Frag} {mg : Str → Option Value} {base : Heap} {CL CT f : Addr} {fd : FuncData}
theorem ok_law7 (F : Fun K "law" "law" sLaw f fd) (T : LawP mg) (c : LbC K CL) (rS : Rd P w K mg base "_law_start" 1 ["_law_script"] (spStart K)) (rD : Rd P w K mg base "_law_draw" 1 ["_law_state", "_law_many"] spDraw) (rW : Rd P w K mg base "_law_word" 2 ["_law_state", "_law_taken"] spLWord)
    (rM : Rd P w K mg base "_law_merge" 1 ["_law_rows"] (spMerged K)) (rB : Rd P w K mg base "_law_bases" 2 ["_law_state", "_law_names"] spLBases) (rLn : Rd P w K mg base "_law_line" 1 ["_law_name", "_law_bases_here"] spLLine) (rT : Rd P w K mg base "_law_told" 16 ["_law_lines"] spLTold)
    (rWk : Rd P w K mg base "_law_walked" 1 ["_law_order", "_law_name", "_law_parents", "_law_orders"] spLWalked) (rF : Rd P w K mg base "_law_refused" 8 ["_law_made", "_law_names"] (spLRef CL CT)) (rL : Rm P w K mg base "Library" CL 15 ["self", "text"] (spLibG CL CT)) (rO : Rt P w K mg base CL "order" 3 ["self", "name"] (spOrderG CL CT)) :
    FnOk P w K mg base CX0 17 f fd ["_law_script"] (spLaw7 K) := by
  refine F.ok scLaw7 (fun vs H Q E h => ?_) (fun cdv A outer s H vs Q E hr h => ?_)
  · obtain ⟨a, ns, rfl, _⟩ := h
    rfl
  · obtain ⟨a, ns, rfl, ha, hlen, q⟩ := h
    have hu := hu_of hr
    refine ⟨_, pss_cons (ps_set (i := 1) scLaw7.nd rfl (.inl rfl) (pe_rd rS hr (by decide) (by rfl) (pa_cons (pv 0) pa_nil)))
      (pss_cons (ps_asg (pe_tup (pa_cons pe_dnewK (pa_cons pe_dnewK (pa_cons (pe_lst pa_nil) (pa_cons (pe_lst pa_nil) pa_nil))))) (pg_tup (by rfl) (pgs_cons (pg_name (i := 2) scLaw7.nd rfl (.inr rfl)) (pgs_cons (pg_name (i := 3) scLaw7.nd rfl (.inl rfl)) (pgs_cons (pg_name (i := 4) scLaw7.nd rfl (.inl rfl)) (pgs_cons (pg_name (i := 5) scLaw7.nd rfl (.inl rfl)) pgs_nil))))))
      (pss_cons (ps_for PassesOwn.never rfl (pi_range1 (by rfl) T.rng (pa_cons (pe_op op_add pe_int (pe_rd rD hr (by decide) (by rfl) (pa_cons (pv 1) (pa_cons pe_int pa_nil)))) pa_nil)) (pg_name (i := 6) scLaw7.nd rfl (.inl rfl))
        (pss_cons (ps_set (i := 8) scLaw7.nd rfl (.inl rfl) (pe_rd rW hr (by decide) (by rfl) (pa_cons (pv 1) (pa_cons (pe_lc (own := [("_law_name", 7)]) (g := gName 7) (tt := tYes) rfl scLaw7.nd (pi_list (pv 5)) (blkOk_by (N := nLaw) (sc := defScope sLaw) (by decide +kernel)) (fun _ _ _ _ _ => pg_name (i := 7) scLaw7.nd rfl (.inl rfl)) (fun _ _ _ _ _ => pts_nil) (fun _ _ _ _ _ => pe_lower (pv 7))) pa_nil))))
        (pss_cons (ps_set (i := 7) scLaw7.nd rfl (.inl rfl) (pe_op op_add_str (pe_upper (pe_slice sl_str (pv 8) po_none (po_some pe_int))) (pe_slice sl_str (pv 8) (po_some pe_int) po_none)))
        (pss_cons (ps_set (i := 9) scLaw7.nd rfl (.inl rfl) (pe_rd rB hr (by decide) (by rfl) (pa_cons (pv 1) (pa_cons (pv 5) pa_nil))))
        (pss_cons (ps_set (i := 10) scLaw7.nd rfl (.inl rfl) (pe_rd rM hr (by decide) (by rfl) (pa_cons (pe_op op_cat (pe_lc (own := [("_law_base", 13)]) (g := gName 13) (tt := tYes) rfl scLaw7.nd (pi_list (pv 9)) (blkOk_by (N := nLaw) (sc := defScope sLaw) (by decide +kernel)) (fun _ _ _ _ _ => pg_name (i := 13) scLaw7.nd rfl (.inl rfl)) (fun _ _ _ _ _ => pts_nil)
            (fun _ _ _ _ _ => pe_dget hu (pv 2) (pv 13) (fun _ _ => rfl))) (pe_lst (pa_cons (pv 9) pa_nil))) pa_nil)))
        (pss_one (ps_if (pt_cmpR op_isN (pv 10) pe_non (nomark _))
          (pss_one (ps_if (pt_cmpR op_ne (pe_rd rT hr (Nat.le_refl _) (by rfl) (pa_cons (pe_op op_cat (pv 4) (pe_lst (pa_cons (pe_rd rLn hr (by decide) (by rfl) (pa_cons (pv 7) (pa_cons (pv 9) pa_nil))) (pa_cons pe_str (pa_cons pe_str pa_nil))))) pa_nil)) (pe_callB call_len_seq (by rfl) T.len PySem.boot_len (pa_cons (pv 4) pa_nil)) (nomark _)) (pss_one (ps_ret pe_bl)) pss_nil))
          (pss_cons (ps_expr (pe_bm PySem.F.plainAttrs_list PySem.F.slot_list_append PySem.F.type_list_append mt_append (pv 5) (pa_cons (pv 7) pa_nil)))
          (pss_cons (ps_dput hu (pv 3) (pv 7) (pv 9) (by rfl))
          (pss_cons (ps_dput hu (pv 2) (pv 7) (pe_op op_cat (pe_lst (pa_cons (pv 7) pa_nil)) (pv 10)) (by rfl))
          (pss_one (ps_expr (pe_bm PySem.F.plainAttrs_list PySem.F.slot_list_append PySem.F.type_list_append mt_append (pv 4) (pa_cons (pe_rd rLn hr (by decide) (by rfl) (pa_cons (pv 7) (pa_cons (pv 9) pa_nil))) pa_nil))))))))))))))
      (pss_cons (ps_set (i := 11) scLaw7.nd rfl (.inl rfl) (pe_rm rL hr (Nat.le_refl _) (by rfl) (pa_cons (pe_m1 PySem.F.slot_str_join PySem.F.type_str_join (show MtR _ "str.join" (rJoinK K) from mt_join) pe_str (pv 4)) pa_nil)))
      (pss_cons (ps_for PassesOwn.never rfl (pi_list (pv 5)) (pg_name (i := 7) scLaw7.nd rfl (.inl rfl))
        (pss_cons (ps_set (i := 12) scLaw7.nd rfl (.inl rfl) (pe_rt (pv 11) c.cl rO hr (by decide) (pa_cons (pv 7) pa_nil)))
        (pss_cons (ps_if (PW.pt (pw_or (pt_cmpR (op_neD hr.units) (pv 12) (pe_dget hu (pv 2) (pv 7) (fun _ _ => rfl)) (nomark _)) (pw_or (pt_not (pt_val (pe_callB call_isi (by rfl) T.isi boot_isinstance (pa_cons (pv 12) (pa_cons (pe_bltn (v := .ty "list") (by rfl) T.lst boot_list' rfl) pa_nil)))))
            (pw_or1 (pt_not (pt_val (pe_rd rWk hr (by decide) (by rfl) (pa_cons (pv 12) (pa_cons (pv 7) (pa_cons (pv 3) (pa_cons (pv 2) pa_nil))))))))))) (pss_one (ps_ret pe_bl)) pss_nil)
        (pss_cons (ps_expr (pe_bm PySem.F.plainAttrs_list PySem.F.slot_list_append PySem.F.type_list_append mt_append (pv 12) (pa_cons (pv 7) pa_nil)))
        (pss_one (ps_if (pt_cmpR (op_neD hr.units) (pe_rt (pv 11) c.cl rO hr (by decide) (pa_cons (pv 7) pa_nil)) (pe_dget hu (pv 2) (pv 7) (fun _ _ => rfl)) (nomark _)) (pss_one (ps_ret pe_bl)) pss_nil))))))
      (pss_one (ps_ret (pe_rd rF hr (by decide) (by rfl) (pa_cons (pv 11) (pa_cons (pv 5) pa_nil))))))))), ?_⟩
    -- the state, four new things
    refine q_asgX ?_
    refine ⟨_, rfl, a, ns, rfl, ha, hlen, fun H1 st g sm e1 nst ng nsm d1 => ?_⟩
    refine q_asgG ?_
    intro od nod pa npa
    refine ⟨Nat.zero_le _, fun ln nln => ⟨Nat.zero_le _, fun na nna => ⟨(show 4 ≤ sizeLine by decide), fun tp ntp => ?_⟩⟩⟩
    refine ⟨tp, _, rfl, st_of upd_same, rfl, _, _, rfl, _, _, rfl, _, _, rfl, _, _, rfl, rfl, ?_⟩
    have fO := d1.off nod
    have d2 := d1.put (o := .dK []) fO
    have h2 : (upd H1 od (.dK [])) od = some (.dK []) := upd_same
    generalize upd H1 od (.dK []) = K1 at d2 h2 npa nln nna ntp ⊢
    have fP := d2.off npa
    have d3 := d2.put (o := .dK []) fP
    have opne : od ≠ pa := ne_of_none h2 npa
    have h3 : (upd K1 pa (.dK [])) od = some (.dK []) := (upd_ne opne).trans h2
    have p3 : (upd K1 pa (.dK [])) pa = some (.dK []) := upd_same
    generalize upd K1 pa (.dK []) = K2 at d3 h3 p3 nln nna ntp ⊢
    have fL := d3.off nln
    have d4 := d3.put (o := .lst []) fL
    have olne : od ≠ ln := ne_of_none h3 nln
    have plne : pa ≠ ln := ne_of_none p3 nln
    have h4 : (upd K2 ln (.lst [])) od = some (.dK []) := (upd_ne olne).trans h3
    have p4 : (upd K2 ln (.lst [])) pa = some (.dK []) := (upd_ne plne).trans p3
    have l4 : (upd K2 ln (.lst [])) ln = some (.lst ([] : List V)) := upd_same
    generalize upd K2 ln (.lst []) = K3 at d4 h4 p4 l4 nna ntp ⊢
    have fN := d4.off nna
    have d5 := d4.put (o := .lst []) fN
    have onne : od ≠ na := ne_of_none h4 nna
    have pnne : pa ≠ na := ne_of_none p4 nna
    have lnne : ln ≠ na := ne_of_none l4 nna
    have h5 : (upd K3 na (.lst [])) od = some (.dK []) := (upd_ne onne).trans h4
    have p5 : (upd K3 na (.lst [])) pa = some (.dK []) := (upd_ne pnne).trans p4
    have l5 : (upd K3 na (.lst [])) ln = some (.lst ([] : List V)) := (upd_ne lnne).trans l4
    have n5 : (upd K3 na (.lst [])) na = some (.lst ([] : List V)) := upd_same
    generalize upd K3 na (.lst []) = K4 at d5 h5 p5 l5 n5 ntp ⊢
    have B4 : Bk ⟨st, g, sm, od, pa, ln, na⟩ (koOf []) (kpOf []) (llOf []) (nnOf []) [] K4 := ⟨d5, h5, p5, l5, n5, (by simp), ⟨fO, fP, fL, fN, opne, olne, onne, plne, pnne, lnne⟩, (by simp)⟩
    have B5 := B4.ex (Ex.new (o := .tup [.ref od, .ref pa, .ref ln, .ref na]) ntp)
    generalize upd K4 tp (.tup [.ref od, .ref pa, .ref ln, .ref na]) = K5 at B5 ⊢
    clear d1 d2 d3 d4 d5 h2 h3 h4 h5 p3 p4 p5 l4 l5 n5 nod npa nln nna ntp nst ng nsm e1 fO fP fL fN opne olne plne onne pnne lnne B4
    generalize hA : (⟨st, g, sm, od, pa, ln, na⟩ : Ads) = A at B5
    show tSeq _ _ _ [some (.ref a), some (.ref st), some (.ref od), some (.ref pa), some (.ref ln), some (.ref na), none, none, none, none, none, none, none, none] K5
    obtain ⟨rfl, rfl, rfl, rfl, rfl, rfl, rfl⟩ : A.st = st ∧ A.g = g ∧ A.sm = sm ∧ A.od = od ∧ A.pa = pa ∧ A.ln = ln ∧ A.na = na := by
      rw [← hA]
      exact ⟨rfl, rfl, rfl, rfl, rfl, rfl, rfl⟩
    clear hA
    -- the classes
    refine ⟨_, rfl, A.st, A.g, A.sm, 7, rfl, B5.dr, by decide, by decide, fun r H6 r0 r7 e6 d6 => ⟨2, r, rfl, rfl, 2 + r, rfl, by omega, by omega, for_range (lo := 0) (n := (2 + r).toNat) (LW1 a A) ?_ ?_ ?_⟩⟩
    · exact ⟨[], _, _, _, _, _, rfl, B5.ext e6 d6, Gd.nil, Nat.le_refl _, fun z => absurd z (Nat.lt_irrefl _)⟩
    · rintro i σ' H7 hi ⟨bl, v6, v7, v8, v9, v10, rfl, B, G, hli, hne⟩
      have few : bl.length < 8 := by omega
      generalize (0 + (i : Int)) = vi
      show tSeq _ _ _ [some (.ref a), some (.ref A.st), some (.ref A.od), some (.ref A.pa), some (.ref A.ln), some (.ref A.na), some (.int vi), v7, v8, v9, v10, none, none, none] H7
      -- the word
      refine q_asgX ?_
      refine ⟨_, rfl, ?_⟩
      have zw : EvL (tLc (iList K (tVar 5)) (gName 7) tYes (tM0 (fun x xs H Q => ∃ a, x = .str a ∧ xs = [] ∧ a.length ≤ 5592405 ∧ Q (.str (Txt.lower a)) H) (tVar 7)) [7]) [some (.ref a), some (.ref A.st), some (.ref A.od), some (.ref A.pa), some (.ref A.ln), some (.ref A.na), some (.int vi), v7, v8, v9, v10, none, none, none] H7 ((bl.map Blt.wd).map sv) := by
        have z := el_map (K := K) (H := H7) (σ := [some (.ref a), some (.ref A.st), some (.ref A.od), some (.ref A.pa), some (.ref A.ln), some (.ref A.na), some (.int vi), v7, v8, v9, v10, none, none, none]) (a := A.na) (tl := tVar 5) (te := tM0 (fun x xs H Q => ∃ a, x = .str a ∧ xs = [] ∧ a.length ≤ 5592405 ∧ Q (.str (Txt.lower a)) H) (tVar 7)) (t := tYes) (j := 7) (vs := [7]) bl (fun e => sv e.nm) (fun _ => true) (fun e => sv e.wd) (ev_var rfl) (by
            have h : SqL K H7 A.na ((bl.map Blt.nm).map sv) := sq_of B.hn
            rw [List.map_map] at h
            exact h) (by omega) Hs.wipe1 (fun _ _ _ _ => et_yes) (fun e H8 e8 he _ => Evl.ev_is (ev_low (a := S e.nm) (ev_var rfl) (by
              have := ((G.sm e he).good).len.2
              rw [S_len]
              exact Nat.le_trans this (by decide))) (by
              show V.str (Txt.lower (S (capd e.wd))) = _
              rw [(G.sm e he).lower]))
        rw [List.filter_eq_self.mpr (fun _ _ => rfl)] at z
        rw [List.map_map]
        exact z
      refine zw H7 (Ex.refl H7) _ fun pt H8 npt e8 hpt => ?_
      have B8 := B.ex e8
      have fpt : A.Far pt := B.far npt
      refine ⟨A.st, A.g, A.sm, pt, bl.map Blt.wd, rfl, B8.dr, hpt, dr_off ⟨fpt.st, fpt.g, fpt.sm⟩, by rw [List.length_map]; omega, fun w H9 hw hnew hres e9 d9 => ?_⟩
      have B9 := B8.ext e9 d9
      have new : capd w ∉ bl.map Blt.nm := fun h => by
        obtain ⟨e, he, h2⟩ := List.mem_map.mp h
        exact hnew (List.mem_map.mpr ⟨e, he, capd_inj (G.sm e he) hw h2⟩)
      show tSeq _ _ _ [some (.ref a), some (.ref A.st), some (.ref A.od), some (.ref A.pa), some (.ref A.ln), some (.ref A.na), some (.int vi), v7, some (sv w), v9, v10, none, none, none] H9
      -- the name
      have hwl : (S w).length ≤ 8 := by rw [S_len]; exact hw.le
      refine q_asg (v := sv (capd w)) (Evl.ev_is (ev_addS (a := (capd w).take 1) (b := w.drop 1) (by
          rw [List.length_take, List.length_drop]
          have := hw.le
          show _ ≤ 30000
          omega) (Evl.ev_is (ev_upp (a := S (w.take 1)) (Evl.ev_is (ev_slS (z := S w) (lo := none) (hi := some 1) (ev_var rfl) eo_none (eo_some ev_c) (sz_of (by omega))) (by rw [take1])) (by
            rw [S_len, List.length_take]
            exact Nat.le_trans (Nat.min_le_left _ _) (by decide))) (by rw [hw.upper]))
          (Evl.ev_is (ev_slS (z := S w) (lo := some 1) (hi := none) (ev_var rfl) (eo_some ev_c) eo_none (sz_of (by omega))) (by rw [show (1 : Int) = ((1 : Nat) : Int) from rfl, cut_n]))) (by rw [capd_drop])) fun H10 e10 => ?_
      have B10 := B9.ex e10
      show tSeq _ _ _ [some (.ref a), some (.ref A.st), some (.ref A.od), some (.ref A.pa), some (.ref A.ln), some (.ref A.na), some (.int vi), some (sv (capd w)), some (sv w), v9, v10, none, none, none] H10
      -- the bases
      refine q_asgX ?_
      refine ⟨_, rfl, _, rfl, A.st, A.g, A.sm, A.na, bl.map Blt.nm, rfl, B10.dr, B10.hn, dr_off B10.di.dN, G.nd, by rw [List.length_map]; omega, fun bs p H11 ndb l3 old np e11 d11 hp => ?_⟩
      have B11 := B10.ext e11 d11
      have fp : A.Far p := B10.far np
      obtain ⟨es, rfl, hes⟩ := lift_names old
      have fit := G.fit few hw new ndb l3 old
      show tSeq _ _ _ [some (.ref a), some (.ref A.st), some (.ref A.od), some (.ref A.pa), some (.ref A.ln), some (.ref A.na), some (.int vi), some (sv (capd w)), some (sv w), some (.ref p), v10, none, none, none] H11
      -- the merge
      rw [List.length_map] at l3
      refine q_asgX ?_
      let ns : List Rw := es.map (fun e => (e.oa, e.ord)) ++ [(p, es.map Blt.nm)]
      have hns2 : ns.map (·.2) = rowsA (bl.map Blt.pr) (es.map Blt.nm) := by
        show (es.map _ ++ [_]).map _ = _
        rw [rows_of G.nd hes, List.map_append, List.map_map]
        rfl
      have zl : EvL (tOp rCat (tLc (iList K (tVar 9)) (gName 13) tYes (tDGet (tVar 2) (tVar 13)) [13]) (tLst (tCons (tVar 9) tNil))) [some (.ref a), some (.ref A.st), some (.ref A.od), some (.ref A.pa), some (.ref A.ln), some (.ref A.na), some (.int vi), some (sv (capd w)), some (sv w), some (.ref p), v10, none, none, none] H11 (ns.map rf) := by
        have z := el_map (K := K) (H := H11) (σ := [some (.ref a), some (.ref A.st), some (.ref A.od), some (.ref A.pa), some (.ref A.ln), some (.ref A.na), some (.int vi), some (sv (capd w)), some (sv w), some (.ref p), v10, none, none, none]) (a := p) (tl := tVar 9) (te := tDGet (tVar 2) (tVar 13)) (t := tYes) (j := 13) (vs := [13]) es (fun e => sv e.nm) (fun _ => true) (fun e => V.ref e.oa) (ev_var rfl) (by
            have h : SqL K H11 p ((es.map Blt.nm).map sv) := sq_of hp
            rw [List.map_map] at h
            exact h) (by omega) Hs.wipe1 (fun _ _ _ _ => et_yes) (fun e H12 e12 he _ => ev_dget (n := e.nm) (kvs := koOf bl) (ev_var rfl) (ev_var rfl) (e12 _ _ B11.ho) (val_of G.nd (hes e he) _))
        rw [List.filter_eq_self.mpr (fun _ _ => rfl)] at z
        have ens : ns.map rf = es.map (fun e => V.ref e.oa) ++ [V.ref p] := by
          show (es.map _ ++ [_]).map _ = _
          rw [List.map_append, List.map_map]
          rfl
        rw [ens]
        exact el_cat z (el_lst (ea_cons (ev_var rfl) ea_nil) (show 1 ≤ 100000 by decide)) (by
          rw [List.length_map]
          show es.length + 1 ≤ 100000
          omega)
      refine zl H11 (Ex.refl H11) _ fun pr H12 npr e12 hpr => ?_
      have B12 := B11.ex e12
      have hp12 := e12 _ _ hp
      have ro : RowsOk H12 ns := fun m hm => by
        rcases List.mem_append.mp hm with hm | hm
        · obtain ⟨e, he, rfl⟩ := List.mem_map.mp hm
          exact (B12.hb e (hes e he)).2
        · rw [List.mem_singleton] at hm
          subst hm
          exact hp12
      have tot : total (ns.map (·.2)) ≤ 1000 := by
        rw [hns2, rows_of G.nd hes, total_app]
        have h1 := total_le (as := es.map Blt.ord) (m := 8) fun a ha => by
          obtain ⟨e, he, rfl⟩ := List.mem_map.mp ha
          have := G.olen (hes e he)
          omega
        rw [List.length_map] at h1
        have h2 : total [es.map Blt.nm] = es.length := by simp [total]
        omega
      refine ⟨pr, ns, rfl, sq_of hpr, ro, ?_, tot, ?_⟩
      · show (es.map _ ++ [_]).length ≤ 1000
        rw [List.length_append, List.length_map]
        show es.length + 1 ≤ 1000
        omega
      rw [hns2]
      have gb : ∀ b ∈ es.map Blt.nm, GoodNm b := fun b hb => G.good (old b hb)
      have l3' : (es.map Blt.nm).length ≤ 3 := by rw [List.length_map]; exact l3
      have zline : ∀ {H : Hp} {v10 : Option V}, H p = some (.lst ((es.map Blt.nm).map sv)) → Ev (tCall spLLine [] E0 (tCons (tVar 7) (tCons (tVar 9) tNil))) [some (.ref a), some (.ref A.st), some (.ref A.od), some (.ref A.pa), some (.ref A.ln), some (.ref A.na), some (.int vi), some (sv (capd w)), some (sv w), some (.ref p), v10, none, none, none] H (sv (cline (capd w) (es.map Blt.nm))) := fun hp => ev_call (ea_cons (ev_var rfl) (ea_cons (ev_var rfl) ea_nil)) fun H1 e Q q E => ⟨capd w, p, es.map Blt.nm, rfl, e _ _ hp, hw.good, gb, l3', q⟩
      cases hm : merge (rowsA (bl.map Blt.pr) (es.map Blt.nm)) with
      | none =>
        intro H13 e13
        have B13 := B12.ex e13
        show tIfS _ _ _ _ [some (.ref a), some (.ref A.st), some (.ref A.od), some (.ref A.pa), some (.ref A.ln), some (.ref A.na), some (.int vi), some (sv (capd w)), some (sv w), some (.ref p), some .non, none, none, none] H13
        have hb0 : bl ≠ [] := fun z => by
          subst z
          have : es = [] := by
            cases es with
            | nil => rfl
            | cons e r => exact absurd (hes e List.mem_cons_self) (by simp)
          subst this
          cases hm
        refine s_if (b := true) (et_test (ev_isN (o := none) (ev_var rfl))) (fun _ H14 e14 => ?_) (fun z => nomatch z)
        have B14 := B13.ex e14
        have hp14 := e14 _ _ (e13 _ _ hp12)
        refine s_when (b := false) (et_is (et_test (ev_neI (a := ((bl.length : Nat) : Int)) (b := ((bl.length : Nat) : Int)) ?_ ?_)) (by simp)) (fun z => nomatch z) fun _ H15 e15 => ?_
        · have hlx : LinesOk ((bl.map Blt.ln).map cl ++ cline (capd w) (es.map Blt.nm) :: [[], [99, 108, 97, 115, 115]]) := by
            have hcl := cline_len hw.good gb l3'
            have hx : ∀ l ∈ (bl.map Blt.ln).map cl ++ cline (capd w) (es.map Blt.nm) :: [[], [99, 108, 97, 115, 115]], 10 ∉ l ∧ l.length ≤ 60 := fun l hl => by
              rcases List.mem_append.mp hl with hl | hl
              · rw [List.map_map] at hl
                obtain ⟨e, he, rfl⟩ := List.mem_map.mp hl
                exact ⟨(G.line he).1, (G.line he).2.1⟩
              · rcases List.mem_cons.mp hl with rfl | hl
                · exact ⟨cline_no hw.good gb, hcl.1⟩
                · rcases List.mem_cons.mp hl with rfl | hl
                  · exact ⟨by decide, by decide⟩
                  · rw [List.mem_singleton.mp hl]
                    exact ⟨by decide, by decide⟩
            refine lines_ok (by simp) ?_ (fun l hl => (hx l hl).1) (fun l hl => (hx l hl).2) ?_
            · cases bl with
              | nil => exact absurd rfl hb0
              | cons e r =>
                intro l hl
                have : cl e.ln = l := by simpa using hl
                rw [← this]
                exact (G.line List.mem_cons_self).2.2
            · rw [List.length_append, List.length_map, List.length_map]
              show bl.length + 3 ≤ 12
              omega
          have hsz : (((bl.map Blt.ln).map cl ++ cline (capd w) (es.map Blt.nm) :: [[], [99, 108, 97, 115, 115]]).map List.length).sum + ((bl.map Blt.ln).map cl ++ cline (capd w) (es.map Blt.nm) :: [[], [99, 108, 97, 115, 115]]).length ≤ 16777216 := by
            have hcl := cline_len hw.good gb l3'
            have h1 := sum_few (c := 60) (ls := (bl.map Blt.ln).map cl ++ cline (capd w) (es.map Blt.nm) :: [[], [99, 108, 97, 115, 115]]) fun l hl => by
              rcases List.mem_append.mp hl with hl | hl
              · rw [List.map_map] at hl
                obtain ⟨e, he, rfl⟩ := List.mem_map.mp hl
                exact (G.line he).2.1
              · rcases List.mem_cons.mp hl with rfl | hl
                · exact hcl.1
                · rcases List.mem_cons.mp hl with rfl | hl
                  · decide
                  · rw [List.mem_singleton.mp hl]
                    decide
            have h2 : ((bl.map Blt.ln).map cl ++ cline (capd w) (es.map Blt.nm) :: [[], [99, 108, 97, 115, 115]]).length = bl.length + 3 := by
              rw [List.length_append, List.length_map, List.length_map]
              rfl
            rw [h2] at h1 ⊢
            omega
          have zc : EvL (tOp rCat (tVar 4) (tLst (tCons (tCall spLLine [] E0 (tCons (tVar 7) (tCons (tVar 9) tNil))) (tCons (tC (.str (Str.ofString ""))) (tCons (tC (.str (Str.ofString "class"))) tNil))))) [some (.ref a), some (.ref A.st), some (.ref A.od), some (.ref A.pa), some (.ref A.ln), some (.ref A.na), some (.int vi), some (sv (capd w)), some (sv w), some (.ref p), some .non, none, none, none] H14 (llOf bl ++ [sv (cline (capd w) (es.map Blt.nm)), .str (Str.ofString ""), .str (Str.ofString "class")]) := el_catV (l := A.ln) (ev_var rfl) B14.hl (el_lst (ea_cons (zline hp14) (ea_cons ev_c (ea_cons ev_c ea_nil))) (show 3 ≤ 100000 by decide)) (by
            rw [List.length_map, List.length_map, List.length_map]
            show bl.length + 3 ≤ 100000
            omega)
          exact fun H1 e Q q => zc H1 e _ fun pl H2 npl e2 hpl => ⟨pl, bl.map Blt.ln, capd w, es.map Blt.nm, [[], [99, 108, 97, 115, 115]], rfl, by
            rw [hpl, List.map_append, class5]
            rfl, G.ft, fit, by rw [G.ab]; exact hm, hlx, hsz, fun H' e3 => by
            rw [List.length_map]
            exact q H' (e2.trans e3)⟩
        · have z := ev_len (K := K) (σ := [some (.ref a), some (.ref A.st), some (.ref A.od), some (.ref A.pa), some (.ref A.ln), some (.ref A.na), some (.int vi), some (sv (capd w)), some (sv w), some (.ref p), some .non, none, none, none]) (ta := tVar 4) (ev_var rfl) (sq_of B14.hl)
          rw [List.length_map, List.length_map, List.length_map] at z
          exact z
        · exact ⟨bl, _, _, _, _, _, rfl, B14.ex e15, G, by omega, fun _ => hb0⟩
      | some m =>
        intro p2 H13 np2 e13 hp2
        have B13 := B12.ex e13
        show tIfS _ _ _ _ [some (.ref a), some (.ref A.st), some (.ref A.od), some (.ref A.pa), some (.ref A.ln), some (.ref A.na), some (.int vi), some (sv (capd w)), some (sv w), some (.ref p), some (.ref p2), none, none, none] H13
        refine s_if (b := false) (et_test (ev_nonR (ev_var rfl))) (fun z => nomatch z) fun _ H14 e14 => ?_
        have B14 := B13.ex e14
        have hp14 := e14 _ _ (e13 _ _ hp12)
        have hp2' := e14 _ _ hp2
        have fp2 : A.Far p2 := B12.far np2
        have hml : m.length ≤ 1000 := by
          rw [hns2] at tot
          exact Nat.le_trans (merge_len hm) tot
        refine q_app (l := A.na) (xs := nnOf bl) B14.hn (ev_var rfl) (v := sv (capd w)) (ev_var rfl) (by rw [List.length_map, List.length_map]; omega) fun H15 e15 => ?_
        have C1 := (B14.ex e15).putN (nnOf bl ++ [sv (capd w)])
        have q1 : (upd H15 A.na (.lst (nnOf bl ++ [sv (capd w)]))) p = some (.lst ((es.map Blt.nm).map sv)) := (upd_ne fp.na).trans (e15 _ _ hp14)
        have r1 : (upd H15 A.na (.lst (nnOf bl ++ [sv (capd w)]))) p2 = some (.lst (m.map sv)) := (upd_ne fp2.na).trans (e15 _ _ hp2')
        generalize upd H15 A.na (.lst (nnOf bl ++ [sv (capd w)])) = H16 at C1 q1 r1 ⊢
        refine q_dput (n := capd w) (kvs := kpOf bl) (v := .ref p) (ev_var rfl) (ev_var rfl) (ev_var rfl) C1.hp (by rw [List.length_map]; omega) fun H17 e17 => ?_
        rw [putK_new (v := V.ref p) (val_no new _)]
        have C2 := (C1.ex e17).putP (kpOf bl ++ [(kN (capd w), .ref p)])
        have q2 : (upd H17 A.pa (.dK (kpOf bl ++ [(kN (capd w), .ref p)]))) p = some (.lst ((es.map Blt.nm).map sv)) := (upd_ne fp.pa).trans (e17 _ _ q1)
        have r2 : (upd H17 A.pa (.dK (kpOf bl ++ [(kN (capd w), .ref p)]))) p2 = some (.lst (m.map sv)) := (upd_ne fp2.pa).trans (e17 _ _ r1)
        generalize upd H17 A.pa (.dK (kpOf bl ++ [(kN (capd w), .ref p)])) = H18 at C2 q2 r2 ⊢
        refine q_dputL (n := capd w) (kvs := koOf bl) (xs := [sv (capd w)] ++ m.map sv) (el_catR (xs := [sv (capd w)]) (ys := m.map sv) (el_lst (ea_cons (ev_var rfl) ea_nil) (show 1 ≤ 100000 by decide)) (ev_var rfl) r2 (by
          rw [List.length_map]
          show 1 + m.length ≤ 100000
          omega)) (ev_var rfl) (ev_var rfl) C2.ho (by rw [List.length_map]; omega) fun po H19 npo e19 hpo => ?_
        rw [putK_new (v := V.ref po) (val_no new _)]
        have fpo : A.Far po := C2.far npo
        have C3 := (C2.ex e19).putO (koOf bl ++ [(kN (capd w), .ref po)])
        have q3 : (upd H19 A.od (.dK (koOf bl ++ [(kN (capd w), .ref po)]))) p = some (.lst ((es.map Blt.nm).map sv)) := (upd_ne fp.od).trans (e19 _ _ q2)
        have o3 : (upd H19 A.od (.dK (koOf bl ++ [(kN (capd w), .ref po)]))) po = some (.lst ((capd w :: m).map sv)) := (upd_ne fpo.od).trans hpo
        generalize upd H19 A.od (.dK (koOf bl ++ [(kN (capd w), .ref po)])) = H20 at C3 q3 o3 ⊢
        refine s_app (l := A.ln) (xs := llOf bl) C3.hl (ev_var rfl) (v := sv (cline (capd w) (es.map Blt.nm))) (zline q3) (by rw [List.length_map, List.length_map, List.length_map]; omega) fun H21 e21 => ?_
        have C4 := (C3.ex e21).putL (llOf bl ++ [sv (cline (capd w) (es.map Blt.nm))])
        have q4 := (upd_ne (o := .lst (llOf bl ++ [sv (cline (capd w) (es.map Blt.nm))])) fp.ln).trans (e21 _ _ q3)
        have o4 := (upd_ne (o := .lst (llOf bl ++ [sv (cline (capd w) (es.map Blt.nm))])) fpo.ln).trans (e21 _ _ o3)
        have C5 := C4.addB ⟨w, es.map Blt.nm, p, capd w :: m, po⟩ q4 o4 fp fpo
        refine ⟨bl ++ [⟨w, es.map Blt.nm, p, capd w :: m, po⟩], _, _, _, _, _, rfl, ?_, G.add few hw new ndb l3' old hm, by rw [List.length_append]; show bl.length + 1 ≤ i + 1; omega, fun _ => by simp⟩
        have f1 : koOf (bl ++ [⟨w, es.map Blt.nm, p, capd w :: m, po⟩]) = koOf bl ++ [(kN (capd w), .ref po)] := List.map_append
        have f2 : kpOf (bl ++ [⟨w, es.map Blt.nm, p, capd w :: m, po⟩]) = kpOf bl ++ [(kN (capd w), .ref p)] := List.map_append
        have f3 : llOf (bl ++ [⟨w, es.map Blt.nm, p, capd w :: m, po⟩]) = llOf bl ++ [sv (cline (capd w) (es.map Blt.nm))] := by
          show ((List.map _ (bl ++ _)).map cl).map sv = _
          rw [List.map_append, List.map_append, List.map_append]
          rfl
        have f4 : nnOf (bl ++ [⟨w, es.map Blt.nm, p, capd w :: m, po⟩]) = nnOf bl ++ [sv (capd w)] := by
          show (List.map _ (bl ++ _)).map sv = _
          rw [List.map_append, List.map_append]
          rfl
        rw [f1, f2, f3, f4]
        exact C5
    · rintro σ' H7 ⟨bl, v6, v7, v8, v9, v10, rfl, B, G, hli, hne⟩
      have hb0 : bl ≠ [] := hne (by omega)
      have few : bl.length ≤ 8 := by omega
      have hx : ∀ l ∈ (bl.map Blt.ln).map cl, 10 ∉ l ∧ l.length ≤ 60 := fun l hl => by
        rw [List.map_map] at hl
        obtain ⟨e, he, rfl⟩ := List.mem_map.mp hl
        exact ⟨(G.line he).1, (G.line he).2.1⟩
      have hlen8 : ((bl.map Blt.ln).map cl).length = bl.length := by rw [List.length_map, List.length_map]
      have hlx : LinesOk ((bl.map Blt.ln).map cl) := by
        refine lines_ok (by simpa using hb0) ?_ (fun l hl => (hx l hl).1) (fun l hl => (hx l hl).2) (by omega)
        cases bl with
        | nil => exact absurd rfl hb0
        | cons e r =>
          intro l hl
          have : cl e.ln = l := by simpa using hl
          rw [← this]
          exact (G.line List.mem_cons_self).2.2
      have hsz : (((bl.map Blt.ln).map cl).map List.length).sum + ((bl.map Blt.ln).map cl).length * ([10] : List Nat).length ≤ 16777216 := by
        have h1 := sum_few (c := 60) fun l hl => (hx l hl).2
        rw [hlen8] at h1 ⊢
        show _ + bl.length * 1 ≤ 16777216
        omega
      -- the library
      dsimp only
      refine q_asgX ?_
      show tM1 (rJoinK K) (tC (.str (S [10]))) (tVar 4) [some (.ref a), some (.ref A.st), some (.ref A.od), some (.ref A.pa), some (.ref A.ln), some (.ref A.na), v6, v7, v8, v9, v10, none, none, none] H7 _
      refine ev_join (T := [10]) (xs := (bl.map Blt.ln).map cl) hsz ev_c (ev_var rfl) (sq_of B.hl) H7 (Ex.refl H7) _ fun H8 e8 => ?_
      intro x dx nx nd ne
      refine ⟨x, dx, bl.map Blt.ln, rfl, upd_same, G.ft, hlx, fun H9 ext hL => ⟨rfl, ?_⟩⟩
      have e9 : Ex H8 H9 := reader_new nx nd ne ext
      have B9 := B.ex (e8.trans e9)
      rw [G.ab] at hL
      have hL0 := hL
      obtain ⟨dxL, TL0, tpL, dL, esL, hxL, _, _⟩ := hL0
      show tSeq _ _ _ [some (.ref a), some (.ref A.st), some (.ref A.od), some (.ref A.pa), some (.ref A.ln), some (.ref A.na), v6, v7, v8, v9, v10, some (.ref x), none, none] H9
      refine q_forLn (xs := nnOf bl) (ev_var rfl) (sq_of B9.hn) (fun _ σ' H' => ∃ v7 v12, σ' = [some (.ref a), some (.ref A.st), some (.ref A.od), some (.ref A.pa), some (.ref A.ln), some (.ref A.na), v6, v7, v8, v9, v10, some (.ref x), v12, none] ∧ Ex H9 H') (fun H10 e10 => ⟨_, _, rfl, e10⟩) (fun i σ' H' _ z => by
        obtain ⟨_, _, _, ez⟩ := z
        exact sq_of (ez _ _ B9.hn)) (fun i y σ' H' hy z => ?_) (fun σ' H' z => ?_)
      · obtain ⟨v7', v12, rfl, ez⟩ := z
        rw [List.getElem?_map, List.getElem?_map] at hy
        obtain ⟨n, hn, rfl⟩ := Option.map_eq_some_iff.mp hy
        obtain ⟨e, he1, rfl⟩ := Option.map_eq_some_iff.mp hn
        have he := List.mem_of_getElem? he1
        obtain ⟨m, hm⟩ := G.oh e he
        have hpl : ∀ n ∈ e.ord, GoodNm n := fun n hn => G.good (G.os e he n hn)
        have hol := G.olen he
        have zord : ∀ {H1 : Hp} {v12 : Option V}, Ex H9 H1 → EvL (tMeth CL "order" (spOrderG CL CT) [] E0 (tVar 11) (tCons (tVar 7) tNil)) [some (.ref a), some (.ref A.st), some (.ref A.od), some (.ref A.pa), some (.ref A.ln), some (.ref A.na), v6, some (sv e.nm), v8, v9, v10, some (.ref x), v12, none] H1 (e.ord.map sv) := fun e1 H2 e2 Q q =>
          ⟨_, rfl, x, dxL, _, rfl, (e1.trans e2) _ _ hxL, rfl, _, rfl, x, bl.map Blt.pr, e.nm, rfl, hL.ex (e1.trans e2), by rw [pr_names]; exact List.mem_map.mpr ⟨e, he, rfl⟩, fun p H3 np e3 hp => q p H3 np e3 (by rw [hp, ord_of G.nd he])⟩
        show tSeq _ _ _ [some (.ref a), some (.ref A.st), some (.ref A.od), some (.ref A.pa), some (.ref A.ln), some (.ref A.na), v6, some (sv e.nm), v8, v9, v10, some (.ref x), v12, none] H'
        refine q_asgL (xs := e.ord.map sv) (zord ez) fun pt H11 npt e11 hpt => ?_
        have e911 := ez.trans e11
        have B11 := B9.ex e911
        show tSeq _ _ _ [some (.ref a), some (.ref A.st), some (.ref A.od), some (.ref A.pa), some (.ref A.ln), some (.ref A.na), v6, some (sv e.nm), v8, v9, v10, some (.ref x), some (.ref pt), none] H11
        have zget : ∀ {H1 : Hp}, Ex H9 H1 → Ev (tDGet (tVar 2) (tVar 7)) [some (.ref a), some (.ref A.st), some (.ref A.od), some (.ref A.pa), some (.ref A.ln), some (.ref A.na), v6, some (sv e.nm), v8, v9, v10, some (.ref x), some (.ref pt), none] H1 (.ref e.oa) := fun e1 => ev_dget (n := e.nm) (kvs := koOf bl) (ev_var rfl) (ev_var rfl) (e1 _ _ B9.ho) (val_of G.nd he _)
        refine q_when (b := false) (et_is (et_or (et_test (ev_neVs (l := pt) (p := e.oa) (ns := e.ord) (ev_var rfl) (sq_of hpt) (zget e911) (sq_of (B11.hb e he).2) fun n hn => (hpl n hn).plain)) fun _ => et_or (et_not (et_B (ev_isi (b := true) (ev_var rfl) ev_c (.ty "list") (fun H1 e => .base (.lst (e _ _ hpt))) (kit_ty rfl)))) fun _ => et_not (et_B (b := true) (ev_call (ea_cons (ev_var rfl) (ea_cons (ev_var rfl) (ea_cons (ev_var rfl) (ea_cons (ev_var rfl) ea_nil)))) fun H12 e12 Q12 q12 E12 => ?_))) rfl) (fun z => nomatch z) fun _ H12 e12 => ?_
        · have B12 := B11.ex e12
          have hpt12 := e12 _ _ hpt
          rw [hm] at hpt12
          refine ⟨pt, A.pa, A.od, e.nm, m, kpOf bl, koOf bl, rfl, hpt12, by rw [← hm]; exact G.on e he, ?_, by rw [← hm]; exact hpl, B12.hp, B12.ho, fun one hone => ?_, fun p bs hv hp b hb => ?_, q12⟩
          · rw [hm, List.length_cons] at hol
            omega
          · rw [← hm] at hone ⊢
            obtain ⟨e', he', rfl⟩ := List.mem_map.mp (G.os e he one hone)
            exact ⟨e'.pa, e'.par, val_of G.nd he' _, (B12.hb e' he').1, G.o2 e he e' he' hone⟩
          · rw [val_of G.nd he] at hv
            cases hv
            rw [(B12.hb e he).1] at hp
            injection hp with hp
            injection hp with hp
            rw [← map_sv_inj hp] at hb
            obtain ⟨e', he', rfl⟩ := List.mem_map.mp (G.ps e he b hb)
            exact ⟨e'.oa, e'.ord, val_of G.nd he' _, (B12.hb e' he').2, by rw [← hm]; exact G.o3 e he e' he' hb⟩
        · refine q_app (l := pt) (xs := e.ord.map sv) (e12 _ _ hpt) (ev_var rfl) (v := sv e.nm) (ev_var rfl) (by rw [List.length_map]; omega) fun H13 e13 => ?_
          have e14 : Ex H9 (upd H13 pt (.lst (e.ord.map sv ++ [sv e.nm]))) := (e911.trans (e12.trans e13)).mut (fresh_back ez npt)
          generalize upd H13 pt (.lst (e.ord.map sv ++ [sv e.nm])) = H14 at e14 ⊢
          refine s_when (b := false) (et_test (ev_neLs (p := e.oa) (ns := e.ord) (zord e14) (zget e14) (sq_of ((B9.ex e14).hb e he).2) fun n hn => (hpl n hn).plain)) (fun z => nomatch z) fun _ H15 e15 => ?_
          exact ⟨_, _, rfl, e14.trans e15⟩
      · obtain ⟨v7', v12, rfl, ez⟩ := z
        obtain ⟨e0, rr, rfl⟩ : ∃ e0 rr, bl = e0 :: rr := by
          cases bl with
          | nil => exact absurd rfl hb0
          | cons e r => exact ⟨e, r, rfl⟩
        refine s_ret (v := .bl true) (ev_call (ea_cons (ev_var rfl) (ea_cons (ev_var rfl) ea_nil)) fun H10 e10 Q10 q10 E10 => ⟨x, A.na, (e0 :: rr).map Blt.pr, e0.wd, rr.map Blt.nm, rfl, (hL.ex ez).ex e10, (ez.trans e10) _ _ B9.hn, G.sm e0 List.mem_cons_self, fun p hp => ?_, fun n hn => G.good (List.mem_cons_of_mem _ hn), ?_, q10⟩) fun H11 e11 => q _
        · obtain ⟨e, he, rfl⟩ := List.mem_map.mp hp
          exact (G.sm e he).good
        · rw [List.length_map]
          rw [List.length_cons] at few
          omega
end
end Hy
set_option maxHeartbeats 4000000
namespace Hy
open PySem PySem.Spec PyProof.Rows L2 Hc Hs
theorem exEx_ok {K : PySem.W.Frag} {mg : Str → Option Value} {x f : Str} {d : ErrD} (h : exEx K x f d = true) (g : mg x = some (.ref (He.ga K x))) : XcC K mg x (He.ga K x) f (He.ma K (He.ga K x) "__init__") := by
  unfold exEx at h
  simp only [Bool.and_eq_true, decide_eq_true_eq] at h
  obtain ⟨y1, y2, y3, y4, y5, y6, y7⟩ := h
  have xb := xcOk_ok y2
  exact ⟨g, ⟨oexB_ok y1, xb.sa, xb.xf.exC, y6, xb.kC⟩, y3, y4, xb.xf, y5, y7⟩
theorem facts07 {P : Program} {w : World} {K : PySem.W.Frag} {h : Heap} {mg : Str → Option Value} {f : Addr} (X : K.In h) (G : h.Ns mainGlobals mg) (hfa : mg ("law" : Str) = some (.ref f)) (x : ex07 K = true) (c : He.SaysD fa07 fn07 K) :
    ∃ fd : FuncData, (∀ (s : Shared) (v : Value), BindsTo s fd ⟨[v], []⟩ [("_law_script", v)]) ∧ ∀ base : Heap, K.In base → base.Ns mainGlobals mg → FnOk P w K mg base CX0 17 f fd ["_law_script"] (spLaw7 K) := by
  unfold ex07 at x
  rw [Bool.and_eq_true] at x
  obtain ⟨fd_start, F_start⟩ := def_of (x := "_law_start") (st := top 105) c 0
  have g_start := He.glo_ok X G (c.fact 0 (f := .glo "_law_start") rfl)
  have b_start : Binds K fd_start ["_law_script"] [] := F_start.binds fun _ _ _ _ _ _ us hl => match us, hl with | [_], _ => rfl
  obtain ⟨fd_draw, F_draw⟩ := def_of (x := "_law_draw") (st := top 106) c 1
  have g_draw := He.glo_ok X G (c.fact 1 (f := .glo "_law_draw") rfl)
  have b_draw : Binds K fd_draw ["_law_state", "_law_many"] [] := F_draw.binds fun _ _ _ _ _ _ us hl => match us, hl with | [_, _], _ => rfl
  obtain ⟨fd_word, F_word⟩ := def_of (x := "_law_word") (st := top 108) c 2
  have g_word := He.glo_ok X G (c.fact 2 (f := .glo "_law_word") rfl)
  have b_word : Binds K fd_word ["_law_state", "_law_taken"] [] := F_word.binds fun _ _ _ _ _ _ us hl => match us, hl with | [_, _], _ => rfl
  obtain ⟨fd_lmerge, F_lmerge⟩ := def_of (x := "_law_merge") (st := top 109) c 3
  have g_lmerge := He.glo_ok X G (c.fact 3 (f := .glo "_law_merge") rfl)
  have b_lmerge : Binds K fd_lmerge ["_law_rows"] [] := F_lmerge.binds fun _ _ _ _ _ _ us hl => match us, hl with | [_], _ => rfl
  obtain ⟨fd_bases, F_bases⟩ := def_of (x := "_law_bases") (st := top 110) c 4
  have g_bases := He.glo_ok X G (c.fact 4 (f := .glo "_law_bases") rfl)
  have b_bases : Binds K fd_bases ["_law_state", "_law_names"] [] := F_bases.binds fun _ _ _ _ _ _ us hl => match us, hl with | [_, _], _ => rfl
  obtain ⟨fd_line, F_line⟩ := def_of (x := "_law_line") (st := top 111) c 5
  have g_line := He.glo_ok X G (c.fact 5 (f := .glo "_law_line") rfl)
  have b_line : Binds K fd_line ["_law_name", "_law_bases_here"] [] := F_line.binds fun _ _ _ _ _ _ us hl => match us, hl with | [_, _], _ => rfl
  obtain ⟨fd_told, F_told⟩ := def_of (x := "_law_told") (st := top 112) c 6
  have g_told := He.glo_ok X G (c.fact 6 (f := .glo "_law_told") rfl)
  have b_told : Binds K fd_told ["_law_lines"] [] := F_told.binds fun _ _ _ _ _ _ us hl => match us, hl with | [_], _ => rfl
  obtain ⟨fd_walked, F_walked⟩ := def_of (x := "_law_walked") (st := top 113) c 7
  have g_walked := He.glo_ok X G (c.fact 7 (f := .glo "_law_walked") rfl)
  have b_walked : Binds K fd_walked ["_law_order", "_law_name", "_law_parents", "_law_orders"] [] := F_walked.binds fun _ _ _ _ _ _ us hl => match us, hl with | [_, _, _, _], _ => rfl
  obtain ⟨fd_refused, F_refused⟩ := def_of (x := "_law_refused") (st := top 114) c 8
  have g_refused := He.glo_ok X G (c.fact 8 (f := .glo "_law_refused") rfl)
  have b_refused : Binds K fd_refused ["_law_made", "_law_names"] [] := F_refused.binds fun _ _ _ _ _ _ us hl => match us, hl with | [_, _], _ => rfl
  obtain ⟨fd_law, F_law⟩ := def_of (x := "law") (st := top 115) c 9
  have g_law := He.glo_ok X G (c.fact 9 (f := .glo "law") rfl)
  have b_law : Binds K fd_law ["_law_script"] [] := F_law.binds fun _ _ _ _ _ _ us hl => match us, hl with | [_], _ => rfl
  obtain ⟨fd_small, F_small⟩ := def_of (x := "are_small") (st := top 15) c 10
  have g_small := He.glo_ok X G (c.fact 10 (f := .glo "are_small") rfl)
  have b_small : Binds K fd_small ["text"] [] := F_small.binds fun _ _ _ _ _ _ us hl => match us, hl with | [_], _ => rfl
  obtain ⟨fd_cname, F_cname⟩ := def_of (x := "is_class_name") (st := top 17) c 11
  have g_cname := He.glo_ok X G (c.fact 11 (f := .glo "is_class_name") rfl)
  have b_cname : Binds K fd_cname ["text"] [] := F_cname.binds fun _ _ _ _ _ _ us hl => match us, hl with | [_], _ => rfl
  obtain ⟨fd_lines, F_lines⟩ := def_of (x := "lines_of") (st := top 93) c 12
  have g_lines := He.glo_ok X G (c.fact 12 (f := .glo "lines_of") rfl)
  have b_lines : Binds K fd_lines ["text"] [] := F_lines.binds fun _ _ _ _ _ _ us hl => match us, hl with | [_], _ => rfl
  obtain ⟨fd_next, F_next⟩ := def_of (x := "next_merged") (st := top 94) c 13
  have g_next := He.glo_ok X G (c.fact 13 (f := .glo "next_merged") rfl)
  have b_next : Binds K fd_next ["rows"] [] := F_next.binds fun _ _ _ _ _ _ us hl => match us, hl with | [_], _ => rfl
  obtain ⟨fd_merged, F_merged⟩ := def_of (x := "merged") (st := top 95) c 14
  have g_merged := He.glo_ok X G (c.fact 14 (f := .glo "merged") rfl)
  have b_merged : Binds K fd_merged ["rows"] [] := F_merged.binds fun _ _ _ _ _ _ us hl => match us, hl with | [_], _ => rfl
  obtain ⟨fd_read, F_read⟩ := def_of (x := "read_class_line") (st := top 96) c 15
  have g_read := He.glo_ok X G (c.fact 15 (f := .glo "read_class_line") rfl)
  have b_read : Binds K fd_read ["line"] [] := F_read.binds fun _ _ _ _ _ _ us hl => match us, hl with | [_], _ => rfl
  obtain ⟨fd_bli, F_bli⟩ := mth_of (C := "BadLine") (m := "__init__") (q := "BadLine.__init__") (st := inClass (top 4) 0) c 16
  have b_bli : Binds K fd_bli ["self", "at"] [] := F_bli.binds fun _ _ _ _ _ _ us hl => match us, hl with | [_, _], _ => rfl
  obtain ⟨fd_nci, F_nci⟩ := mth_of (C := "NoClass") (m := "__init__") (q := "NoClass.__init__") (st := inClass (top 5) 0) c 17
  have b_nci : Binds K fd_nci ["self", "name"] [] := F_nci.binds fun _ _ _ _ _ _ us hl => match us, hl with | [_, _], _ => rfl
  obtain ⟨fd_kepti, F_kepti⟩ := mth_of (C := "Kept") (m := "__init__") (q := "Kept.__init__") (st := inClass (top 81) 0) c 18
  have b_kepti : Binds K fd_kepti ["self", "library", "name"] [] := F_kepti.binds fun _ _ _ _ _ _ us hl => match us, hl with | [_, _, _], _ => rfl
  obtain ⟨fd_cti, F_cti⟩ := mth_of (C := "ClassText") (m := "__init__") (q := "ClassText.__init__") (st := inClass (top 92) 0) c 19
  have b_cti : Binds K fd_cti ["self", "name", "lineage"] [] := F_cti.binds fun _ _ _ _ _ _ us hl => match us, hl with | [_, _, _], _ => rfl
  obtain ⟨fd_rdi, F_rdi⟩ := mth_of (C := "Reader") (m := "__init__") (q := "Reader.__init__") (st := inClass (top 101) 0) c 20
  have b_rdi : Binds K fd_rdi ["self"] [] := F_rdi.binds fun _ _ _ _ _ _ us hl => match us, hl with | [_], _ => rfl
  obtain ⟨fd_take, F_take⟩ := mth_of (C := "Reader") (m := "take") (q := "Reader.take") (st := inClass (top 101) 1) c 21
  have b_take : Binds K fd_take ["self", "line"] [] := F_take.binds fun _ _ _ _ _ _ us hl => match us, hl with | [_, _], _ => rfl
  obtain ⟨fd_takec, F_takec⟩ := mth_of (C := "Reader") (m := "_take_class") (q := "Reader._take_class") (st := inClass (top 101) 2) c 22
  have b_takec : Binds K fd_takec ["self", "line"] [] := F_takec.binds fun _ _ _ _ _ _ us hl => match us, hl with | [_, _], _ => rfl
  obtain ⟨fd_libi, F_libi⟩ := mth_of (C := "Library") (m := "__init__") (q := "Library.__init__") (st := inClass (top 103) 0) c 23
  have b_libi : Binds K fd_libi ["self", "text"] [] := F_libi.binds fun _ _ _ _ _ _ us hl => match us, hl with | [_, _], _ => rfl
  obtain ⟨fd_order, F_order⟩ := mth_of (C := "Library") (m := "order") (q := "Library.order") (st := inClass (top 103) 2) c 24
  have b_order : Binds K fd_order ["self", "name"] [] := F_order.binds fun _ _ _ _ _ _ us hl => match us, hl with | [_, _], _ => rfl
  obtain ⟨fd_keptof, F_keptof⟩ := mth_of (C := "Library") (m := "kept_of") (q := "Library.kept_of") (st := inClass (top 103) 3) c 25
  have b_keptof : Binds K fd_keptof ["self", "name"] [] := F_keptof.binds fun _ _ _ _ _ _ us hl => match us, hl with | [_, _], _ => rfl
  obtain ⟨fd_named, F_named⟩ := mth_of (C := "Library") (m := "class_named") (q := "Library.class_named") (st := inClass (top 103) 4) c 26
  have b_named : Binds K fd_named ["self", "name"] [] := F_named.binds fun _ _ _ _ _ _ us hl => match us, hl with | [_, _], _ => rfl
  obtain ⟨fd_has, F_has⟩ := mth_of (C := "Library") (m := "__contains__") (q := "Library.__contains__") (st := inClass (top 103) 6) c 27
  have b_has : Binds K fd_has ["self", "name"] [] := F_has.binds fun _ _ _ _ _ _ us hl => match us, hl with | [_, _], _ => rfl
  have gBadLine := He.glo_ok X G (c.fact 16 (f := .glo "BadLine") rfl)
  have gNoClass := He.glo_ok X G (c.fact 17 (f := .glo "NoClass") rfl)
  have gKept := He.glo_ok X G (c.fact 18 (f := .glo "Kept") rfl)
  have gClassText := He.glo_ok X G (c.fact 19 (f := .glo "ClassText") rfl)
  have gReader := He.glo_ok X G (c.fact 20 (f := .glo "Reader") rfl)
  have gLibrary := He.glo_ok X G (c.fact 21 (f := .glo "Library") rfl)
  have NB : XcC K mg "BadLine" (He.ga K "BadLine") "at" (He.ma K (He.ga K "BadLine") "__init__") := exEx_ok x.1 gBadLine
  have NN : XcC K mg "NoClass" (He.ga K "NoClass") "name" (He.ma K (He.ga K "NoClass") "__init__") := exEx_ok x.2 gNoClass
  have TD : TxtD mg := ⟨He.free_ok X G (c.fact 22 (f := .free "int") rfl), He.free_ok X G (c.fact 23 (f := .free "abs") rfl), He.free_ok X G (c.fact 24 (f := .free "len") rfl)⟩
  have TL : LibP mg := ⟨He.free_ok X G (c.fact 26 (f := .free "all") rfl), He.free_ok X G (c.fact 27 (f := .free "any") rfl), He.free_ok X G (c.fact 24 (f := .free "len") rfl), He.free_ok X G (c.fact 31 (f := .free "list") rfl), He.free_ok X G (c.fact 30 (f := .free "tuple") rfl), He.free_ok X G (c.fact 25 (f := .free "enumerate") rfl), He.free_ok X G (c.fact 28 (f := .free "isinstance") rfl), He.free_ok X G (c.fact 29 (f := .free "str") rfl), He.int_ok X G (c.fact 37 (f := .int "MOST_CLASSES" 8) rfl), He.int_ok X G (c.fact 38 (f := .int "MOST_BASES" 3) rfl)⟩
  have T : LawP mg := ⟨TL, He.free_ok X G (c.fact 34 (f := .free "range") rfl), He.free_ok X G (c.fact 33 (f := .free "min") rfl), He.free_ok X G (c.fact 32 (f := .free "set") rfl), He.free_ok X G (c.fact 35 (f := .free "sorted") rfl)⟩
  have TW : WordC mg := ⟨He.free_ok X G (c.fact 26 (f := .free "all") rfl), He.free_ok X G (c.fact 24 (f := .free "len") rfl), He.str_ok X G (c.fact 39 (f := .str "SMALL_LETTERS" (S [97, 98, 99, 100, 101, 102, 103, 104, 105, 106, 107, 108, 109, 110, 111, 112, 113, 114, 115, 116, 117, 118, 119, 120, 121, 122])) rfl), He.str_ok X G (c.fact 40 (f := .str "LARGE_LETTERS" (S [65, 66, 67, 68, 69, 70, 71, 72, 73, 74, 75, 76, 77, 78, 79, 80, 81, 82, 83, 84, 85, 86, 87, 88, 89, 90])) rfl), He.int_ok X G (c.fact 36 (f := .int "MOST_LETTERS" 8) rfl)⟩
  have mkK := He.mkr_ok (c.fact 42 (f := .mkr "Kept") rfl)
  have mkT := He.mkr_ok (c.fact 44 (f := .mkr "ClassText") rfl)
  have mkR := He.mkr_ok (c.fact 50 (f := .mkr "Reader") rfl)
  have mkL := He.mkr_ok (c.fact 57 (f := .mkr "Library") rfl)
  have cT : CtC K (He.ga K "ClassText") := ⟨He.cls_ok (c.fact 43 (f := .cls "ClassText") rfl), He.noat_ok (c.fact 45 (f := .noat "ClassText" "name") rfl), He.noat_ok (c.fact 46 (f := .noat "ClassText" "lineage") rfl), He.noat_ok (c.fact 47 (f := .noat "ClassText" "fields") rfl), He.noat_ok (c.fact 48 (f := .noat "ClassText" "definitions") rfl)⟩
  have cR : RdC K (He.ga K "Reader") := ⟨He.cls_ok (c.fact 49 (f := .cls "Reader") rfl), He.noat_ok (c.fact 51 (f := .noat "Reader" "classes") rfl), He.noat_ok (c.fact 52 (f := .noat "Reader" "_owner") rfl), He.noat_ok (c.fact 53 (f := .noat "Reader" "_method") rfl)⟩
  have cL : LbC K (He.ga K "Library") := ⟨He.cls_ok (c.fact 56 (f := .cls "Library") rfl), He.noat_ok (c.fact 58 (f := .noat "Library" "text") rfl), He.noat_ok (c.fact 59 (f := .noat "Library" "names") rfl), He.noat_ok (c.fact 60 (f := .noat "Library" "_classes") rfl)⟩
  have mTake := He.meth_ok (c.fact 54 (f := .meth "Reader" "take") rfl)
  have mTakeC := He.meth_ok (c.fact 55 (f := .meth "Reader" "_take_class") rfl)
  have mOrd := He.meth_ok (c.fact 61 (f := .meth "Library" "order") rfl)
  have mKO := He.meth_ok (c.fact 62 (f := .meth "Library" "kept_of") rfl)
  have mNm := He.meth_ok (c.fact 63 (f := .meth "Library" "class_named") rfl)
  have mHs := He.meth_ok (c.fact 64 (f := .meth "Library" "__contains__") rfl)
  have e := hfa.symm.trans g_law
  cases e
  refine ⟨fd_law, fun s v => ?_, fun base _ _ => ?_⟩
  · obtain ⟨oc, od, kV, doc, pm, an, cdv, ct, osl, e7, _, _⟩ := F_law.ex
    subst e7
    exact .of_eq rfl
  · have rSt : Rd P w K mg base "_law_start" 1 ["_law_script"] (spStart K) := ⟨_, fd_start, g_start, F_start.kp, b_start, ok_start F_start TD⟩
    have rDr : Rd P w K mg base "_law_draw" 1 ["_law_state", "_law_many"] spDraw := ⟨_, fd_draw, g_draw, F_draw.kp, b_draw, ok_draw F_draw TD⟩
    have rWd : Rd P w K mg base "_law_word" 2 ["_law_state", "_law_taken"] spLWord := ⟨_, fd_word, g_word, F_word.kp, b_word, ok_lword F_word T rDr⟩
    have rLM : Rd P w K mg base "_law_merge" 1 ["_law_rows"] (spMerged K) := ⟨_, fd_lmerge, g_lmerge, F_lmerge.kp, b_lmerge, ok_lmerge F_lmerge TL⟩
    have rBs : Rd P w K mg base "_law_bases" 2 ["_law_state", "_law_names"] spLBases := ⟨_, fd_bases, g_bases, F_bases.kp, b_bases, ok_lbases F_bases T rDr⟩
    have rLn : Rd P w K mg base "_law_line" 1 ["_law_name", "_law_bases_here"] spLLine := ⟨_, fd_line, g_line, F_line.kp, b_line, ok_lline F_line⟩
    have rWk : Rd P w K mg base "_law_walked" 1 ["_law_order", "_law_name", "_law_parents", "_law_orders"] spLWalked := ⟨_, fd_walked, g_walked, F_walked.kp, b_walked, ok_lwalked F_walked T⟩
    have rSm : Rd P w K mg base "are_small" 1 ["text"] spSmall := ⟨_, fd_small, g_small, F_small.kp, b_small, ok_small F_small TW⟩
    have rCn : Rd P w K mg base "is_class_name" 2 ["text"] spClass := ⟨_, fd_cname, g_cname, F_cname.kp, b_cname, ok_class F_cname TW rSm⟩
    have rRe : Rd P w K mg base "read_class_line" 3 ["line"] spRead := ⟨_, fd_read, g_read, F_read.kp, b_read, ok_read F_read TL rCn⟩
    have rLi : Rd P w K mg base "lines_of" 1 ["text"] spLines := ⟨_, fd_lines, g_lines, F_lines.kp, b_lines, ok_lines F_lines⟩
    have rNx : Rd P w K mg base "next_merged" 1 ["rows"] (spNext K) := ⟨_, fd_next, g_next, F_next.kp, b_next, ok_next F_next TL⟩
    have rMg : Rd P w K mg base "merged" 2 ["rows"] (spMerged K) := ⟨_, fd_merged, g_merged, F_merged.kp, b_merged, ok_merged F_merged TL rNx⟩
    have rCt : Rm P w K mg base "ClassText" (He.ga K "ClassText") 1 ["self", "name", "lineage"] (spCt (He.ga K "ClassText")) := ⟨_, fd_cti, gClassText, mkT, b_cti, ok_ct F_cti cT⟩
    have rRd : Rm P w K mg base "Reader" (He.ga K "Reader") 1 ["self"] (spRd (He.ga K "Reader")) := ⟨_, fd_rdi, gReader, mkR, b_rdi, ok_rdI F_rdi cR⟩
    have rTC : Rt P w K mg base (He.ga K "Reader") "_take_class" 4 ["self", "line"] (spTake (He.ga K "Reader") (He.ga K "ClassText")) := ⟨_, fd_takec, mTakeC, b_takec, ok_takeC F_takec TL cR cT rRe (rMg.mono (by decide)) rCt (by decide)⟩
    have rTk : Rt P w K mg base (He.ga K "Reader") "take" 5 ["self", "line"] (spTake (He.ga K "Reader") (He.ga K "ClassText")) := ⟨_, fd_take, mTake, b_take, ok_take F_take cR rTC trivial⟩
    have rLb : Rm P w K mg base "Library" (He.ga K "Library") 6 ["self", "text"] (spLibG (He.ga K "Library") (He.ga K "ClassText")) := ⟨_, fd_libi, gLibrary, mkL, b_libi, ok_libG F_libi TL cL cR rLi rRd rTk (by decide)⟩
    have FB : FnOk P w K mg base (L2.CX P w) 6 _ fd_libi ["self", "text"] (spLibB (He.ga K "BadLine")) := ok_libB F_libi TL NB (ok_bli F_bli NB) b_bli cR rLi rRd rTk (by decide)
    have rTo : Rd P w K mg base "_law_told" 8 ["_law_lines"] spLTold := ⟨_, fd_told, g_told, F_told.kp, b_told, ok_ltold F_told NB gLibrary mkL FB b_libi⟩
    have rHs : Rt P w K mg base (He.ga K "Library") "__contains__" 1 ["self", "name"] (spHas K (He.ga K "Library") (He.ga K "ClassText")) := ⟨_, fd_has, mHs, b_has, ok_has F_has TL cL⟩
    have rNm : Rt P w K mg base (He.ga K "Library") "class_named" 2 ["self", "name"] (spNamedG (He.ga K "Library") (He.ga K "ClassText")) := ⟨_, fd_named, mNm, b_named, ok_namedG F_named cL rHs⟩
    have rOr : Rt P w K mg base (He.ga K "Library") "order" 3 ["self", "name"] (spOrderG (He.ga K "Library") (He.ga K "ClassText")) := ⟨_, fd_order, mOrd, b_order, ok_orderG F_order TL cL cT rNm⟩
    have FN : FnOk P w K mg base (L2.CX P w) 3 _ fd_named ["self", "name"] (spNamedB K (He.ga K "Library") (He.ga K "ClassText") (He.ga K "NoClass")) := ok_namedB F_named NN (ok_nci F_nci NN) b_nci rHs
    have FO : FnOk P w K mg base (L2.CX P w) 4 _ fd_order ["self", "name"] (spNamedB K (He.ga K "Library") (He.ga K "ClassText") (He.ga K "NoClass")) := ok_orderB F_order TL cL mNm b_named FN
    have FK : FnOk P w K mg base (L2.CX P w) 5 _ fd_kepti ["self", "library", "name"] (spKeptB K (He.ga K "Library") (He.ga K "ClassText") (He.ga K "NoClass")) := ok_keptB F_kepti cL mOrd b_order FO rNm
    have FKO : FnOk P w K mg base (L2.CX P w) 7 _ fd_keptof ["self", "name"] (spNamedB K (He.ga K "Library") (He.ga K "ClassText") (He.ga K "NoClass")) := ok_keptOfB F_keptof gKept mkK b_kepti FK
    have rRf : Rd P w K mg base "_law_refused" 8 ["_law_made", "_law_names"] (spLRef (He.ga K "Library") (He.ga K "ClassText")) := ⟨_, fd_refused, g_refused, F_refused.kp, b_refused, ok_lref F_refused T cL NN mOrd b_order FO mKO b_keptof FKO gKept mkK b_kepti FK⟩
    exact ok_law7 F_law T cL rSt rDr rWd rLM rBs rLn (rTo.mono (by decide)) rWk rRf (rLb.mono (by decide)) rOr
end Hy
open PySem PySem.W PySem.Calls PyProof.Rows
set_option maxHeartbeats 0 in
theorem PySem.Challenge.cw_handedcopies_k07_whole_orders_holds : PySem.Challenge.rw_handedcopies_k07_whole_orders.Holds := by
  w_on; o_law
  refine HandSHeadRun.head_any (r := OpenLaw.row PySem.Challenge.rw_handedcopies_k07_whole_orders) (q := view (OpenLaw.row PySem.Challenge.rw_handedcopies_k07_whole_orders).prog [115]) (H := Hc.hookN Hs.nm07 6 Hs.fa07 Hs.fn07 Hs.ex07) (ob := Hc.obN Hs.nm07 6 Hs.fa07 Hs.fn07 Hs.ex07) (M := 40000) (loose := Hs.lo07) (d := HandSHeadRun.topDef (OpenLaw.row PySem.Challenge.rw_handedcopies_k07_whole_orders).prog 115) (kwd := []) (Hc.obN_eq _ _ _ _ _)
    (by kernel_rfl) (fun s => by kernel_rfl) Hs.run07 (by kernel_rfl) (by kernel_rfl) (by kernel_rfl) (by rfl) (by first | assumption | decide +kernel) (by decide +kernel) ⟨rfl, rfl, rfl, rfl, rfl, by decide +kernel⟩ ?hw ?hc
  case hw => w_witness2
  case hc =>
    refine L2.walk_ofE (l := PySem.Challenge.rw_handedcopies_k07_whole_orders) (n := 63) (k := 17) (x := "_law_script") (CX := L2.CX0) rfl (by decide) (by kernel_rfl) ⟨rfl, by decide, by decide⟩ ?F (fun _ _ _ _ z => z)
    intro w mg fa h Y G hmg0
    obtain ⟨K, KX, x, c⟩ := Y
    have hmg : mg ("law" : PySem.Str) = some (.ref fa) := by
      have e : (HandSHeadRun.topDef (OpenLaw.row PySem.Challenge.rw_handedcopies_k07_whole_orders).prog 115).name = ("law" : PySem.Str) := by kernel_rfl
      rw [← e]
      exact hmg0
    obtain ⟨fd, hb, hF⟩ := Hy.facts07 (P := (PySem.Challenge.rw_handedcopies_k07_whole_orders).prog) (w := w) KX G hmg x c
    exact ⟨K, fd, Hy.spLaw7 K, KX, hb, fun H a ns hl _ hS => ⟨a, ns, rfl, hS, hl, fun _ => rfl⟩, hF⟩
