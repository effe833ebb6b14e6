import PyProof.Rows.All
import Wide.All
import OpenK.AllK
import Wide.FinOn
import PyProof.ListStr
import HandS.Base
import HandS.Call
import HandS.List
import HandS.Comp
import HandS.Ends
import HandS.Dict
import HandS.Iter
import HandS.Text
import HandS.Exc
import HandS.Words
import HandS.WordsList
import HandS.Flow
import HandS.Style
import HandS.NoneIn
import HandS.IsInst
import HandS.Wide
import HandS.Evl
import KE.KExcInit
import KE.KIsAll
import HandS.ExcOwn
import HandS.ExcInit
import HandS.ExcField
import HandS.ExcIs
import HandS.ExcValue
import PyProof.ExcBaseAll.ValueError
import PyProof.ExcBaseAll.RuntimeError
import HandS.Defaults
import HandS.HeadHook1
import HandS.HeadHook2
import PySem.Challenge.RW_handedcopies_k12_errors_made
import KE.KStateDown
import HandS.Head0
import HandS.Head1
import HandS.Head2
import HandS.HeadEnd
import HandS.HeadHook4
set_option Elab.async false
set_option linter.all false
set_option maxRecDepth 100000
set_option maxHeartbeats 4000000
/-! Rules that hold for any program: xs[i] read by values, list(a text), frames of what stays. -/
namespace Hc
open PySem PySem.Spec PyProof.Rows L2

/-- all that was tracked outside S is as it was -/
def Ext (S : Addr → Prop) (H H' : Hp) : Prop := ∀ b o, H b = some o → ¬ S b → H' b = some o
theorem Ext.refl (S : Addr → Prop) (H : Hp) : Ext S H H := fun _ _ h _ => h
theorem Ext.trans {S : Addr → Prop} {H H1 H2 : Hp} (a : Ext S H H1) (b : Ext S H1 H2) : Ext S H H2 := fun c o h n => b c o (a c o h n) n
theorem Ext.mono {S T : Addr → Prop} {H H1 : Hp} (a : Ext S H H1) (h : ∀ b, S b → T b) : Ext T H H1 := fun c o e n => a c o e fun z => n (h c z)
theorem Ext.same {S : Addr → Prop} {H H1 : Hp} (a : Same H H1) : Ext S H H1 := fun c o e _ => a c o e
theorem Ext.new {S : Addr → Prop} {H : Hp} {p : Addr} {o : HO} (h : H p = none) : Ext S H (upd H p o) := fun b x e _ => by
  rw [upd_ne (ne_of_none e h)]
  exact e
theorem Ext.put {S : Addr → Prop} {H : Hp} {p : Addr} {o : HO} (h : S p) : Ext S H (upd H p o) := fun b x e n => by
  rw [upd_ne (fun z => n (by rw [z]; exact h))]
  exact e
theorem same_new {H : Hp} {p : Addr} {o : HO} (h : H p = none) : Same H (upd H p o) := fun b x e => by
  rw [upd_ne (ne_of_none e h)]
  exact e
/-- what is new in H' was free in H or lay in S -/
theorem Ext.free {S : Addr → Prop} {H H' : Hp} (e : Ext S H H') {l : Addr} (h : H' l = none) (hs : ¬ S l) : H l = none := by
  cases q : H l with
  | none => rfl
  | some o =>
    rw [e l o q hs] at h
    cases h
theorem Ext.seq {S : Addr → Prop} {K : PySem.W.Frag} {H H' : Hp} {a : Addr} {xs : List V} (e : Ext S H H') (n : ¬ S a) (h : SqL K H a xs) : SqL K H' a xs := by
  rcases h with (h | ⟨o, h⟩) | h
  · exact .inl (.inl (e _ _ h n))
  · exact .inl (.inr ⟨o, e _ _ h n⟩)
  · exact .inr h
theorem Ext.seqT {S : Addr → Prop} {K : PySem.W.Frag} {H H' : Hp} {a : Addr} {xs : List V} (e : Ext S H H') (n : ¬ S a) (h : SqT K H a xs) : SqT K H' a xs := by
  rcases h with (h | ⟨o, h⟩) | h
  · exact .inl (.inl (e _ _ h n))
  · exact .inl (.inr ⟨o, e _ _ h n⟩)
  · exact .inr h

section
variable {X : Cx}
/-- xs[i] by values, for xs[i] op= e -/
theorem pg_list : PGet X (rIxL X.K) := by
  intro pins s σ H x y v u Q I rx ry h
  obtain ⟨p, xs, i, z, rfl, rfl, hq, he, q⟩ := h
  cases rx
  obtain ⟨t, rfl⟩ := ry
  obtain ⟨its, r, pl, hz⟩ := I.list hq
  obtain ⟨j, h1, h2, h3, h4, h5⟩ := atI_get he
  obtain ⟨w, ew, rw'⟩ := r.get h2
  have hl := r.length
  have hn := line63
  have fin : EP X pins σ Q w s := ⟨z, H, I, rw', q⟩
  by_cases h0 : 0 ≤ i
  · have hj : i.toNat = j := by
      rw [seqIndex_of h0 h5] at h1
      exact Option.some.inj h1
    exact wpAny_getItem_list pl.isList h0 (by omega) (by rw [hj]; simpa using ew) fin
  · have hj : (i + (its.toArray.size : Int)).toNat = j := by
      rw [seqIndex_neg (by omega) h4] at h1
      rw [List.size_toArray, ← hl]
      exact Option.some.inj h1
    exact wpAny_getItem_list_neg pl.isList (by omega) (by rw [List.size_toArray] <;> omega) (by omega) (by rw [hj]; simpa using ew) fin
/-- the signs of a text, each a text -/
def signs (x : Str) : List V := x.cps.toList.map fun c => V.str ⟨#[c]⟩
theorem vals_signs {x : Str} {acc : Array Value} (h : ItemsOf (SignAt x) acc x.cps.size) : Vals (signs x) acc.toList := by
  obtain ⟨hs, hi⟩ := h
  have key : ∀ (cs : List Nat) (us : List Value), cs.length = us.length → (∀ (j : Nat) (v : Value), us[j]? = some v → ∃ c u, cs[j]? = some c ∧ v = .str ⟨#[c]⟩ u) → Vals (cs.map fun c => V.str ⟨#[c]⟩) us := by
    intro cs
    induction cs with
    | nil =>
      intro us hl _
      cases us with
      | nil => exact .nil
      | cons u r => simp at hl
    | cons c cs ih =>
      intro us hl hx
      cases us with
      | nil => simp at hl
      | cons u r =>
        obtain ⟨c', t, e1, e2⟩ := hx 0 u rfl
        have e1' : c = c' := by simpa using e1
        subst e1'
        exact .cons ⟨t, e2⟩ (ih r (by simpa using hl) fun j v e => by
          obtain ⟨c2, t2, q1, q2⟩ := hx (j + 1) v (by simpa using e)
          exact ⟨c2, t2, by simpa using q1, q2⟩)
  refine key x.cps.toList acc.toList (by simp [hs]) fun j v e => ?_
  obtain ⟨c, u, e1, e2⟩ := hi j v (by rw [← Array.getElem?_toList]; exact e)
  exact ⟨c, u, by rw [Array.getElem?_toList]; exact e1, e2⟩
/-- list(a text): a new list of its signs -/
theorem call_listS (hc : X.calm = true) : CallR X (.type "list") (fun xs H Q => ∃ x : Str, xs = [.str x] ∧ x.cps.size ≤ sizeLine ∧ ∀ l, H l = none → Q (.ref l) (upd H l (.lst (signs x)))) := by
  intro pins s σ H xs us Q I r h
  obtain ⟨x, rfl, hz, q⟩ := h
  obtain ⟨u, rfl, t, rfl⟩ := vals1 r
  refine call_list_str (I.ok.hd hc) x t (fun h' tk acc' c' k hS hi => ?_) hz
  have rv := vals_signs hi
  refine ⟨.ref s.heap.objs.size, upd H s.heap.objs.size (.lst (signs x)), I.laid (t' := tk) k (Nat.le_refl _) ⟨?_, acc'.toList, c', rv, ?_⟩, rfl, q _ (I.hok.fresh (Nat.le_refl _))⟩
  · unfold signs
    rw [List.length_map, Array.length_toList]
    exact hz
  · rw [hS]
end

/-! ### comprehensions over a list whose items are told by things of any kind -/
open Evl in
theorem given_map {α : Type} (d : α) (p : α → Bool) (h : α → V) : ∀ ns : List α, given ns.length (fun i => p (ns.getD i d)) (fun i => h (ns.getD i d)) = (ns.filter p).map h := by
  have key : ∀ (r l : List α), given (l ++ r).length (fun i => p ((l ++ r).getD i d)) (fun i => h ((l ++ r).getD i d)) = given l.length (fun i => p ((l ++ r).getD i d)) (fun i => h ((l ++ r).getD i d)) ++ (r.filter p).map h := by
    intro r
    induction r with
    | nil =>
      intro l
      simp
    | cons x r ih =>
      intro l
      have e : l ++ x :: r = (l ++ [x]) ++ r := by simp
      rw [e, ih (l ++ [x])]
      have hx : ((l ++ [x]) ++ r).getD l.length d = x := by simp
      rw [show (l ++ [x]).length = l.length + 1 by simp]
      cases hp : p x with
      | true =>
        rw [given_yes (by rw [hx]; exact hp), hx, List.filter_cons_of_pos hp]
        simp
      | false =>
        rw [given_no (by rw [hx]; exact hp), List.filter_cons_of_neg (by simp [hp])]
  intro ns
  have e := key ns []
  simpa [given] using e
section
open Evl
variable {K : PySem.W.Frag} {σ : L2.St} {H : Hp} {te : TE} {t : TT}
theorem get_map {α : Type} {ns : List α} {f : α → V} {i : Nat} {x : V} (h : (ns.map f)[i]? = some x) (d : α) : ∃ y, ns[i]? = some y ∧ x = f y ∧ ns.getD i d = y ∧ y ∈ ns := by
  rw [List.getElem?_map] at h
  cases e : ns[i]? with
  | none =>
    rw [e] at h
    cases h
  | some y =>
    rw [e] at h
    exact ⟨y, rfl, (Option.some.inj h).symm, by rw [List.getD_eq_getElem?_getD, e]; rfl, List.mem_of_getElem? e⟩
/-- [te for x in a if t], a a list that stands -/
theorem el_map {α : Type} {a : Addr} {tl : TE} {j : Nat} {vs : List Nat} (ns : List α) (f : α → V) (p : α → Bool) (h : α → V) (hl : Ev tl σ H (.ref a)) (hx : SqL K H a (ns.map f)) (hz : ns.length ≤ 40000) (hw : ∀ x, wipe ((wipe σ vs).set j (some x)) vs = wipe σ vs)
    (ht : ∀ x H1, Ex H H1 → x ∈ ns → EvT t ((wipe σ vs).set j (some (f x))) H1 (p x)) (he : ∀ x H1, Ex H H1 → x ∈ ns → p x = true → Ev te ((wipe σ vs).set j (some (f x))) H1 (h x)) :
    EvL (tLc (iList K tl) (gName j) t te vs) σ H ((ns.filter p).map h) := by
  cases ns with
  | nil => exact el_lcL (fun _ => false) (fun _ => .non) hl hx (Nat.zero_le _) hw (fun i x H1 _ e => nomatch e) (fun i x H1 _ e => nomatch e)
  | cons d r =>
    rw [← given_map d p h (d :: r), show (d :: r).length = ((d :: r).map f).length by simp]
    refine el_lcL _ _ hl hx (by rw [List.length_map]; exact hz) hw (fun i x H1 e hi => ?_) (fun i x H1 e hi hp => ?_)
    · obtain ⟨y, e1, rfl, e2, hm⟩ := get_map hi d
      rw [e2]
      exact ht y H1 e hm
    · obtain ⟨y, e1, rfl, e2, hm⟩ := get_map hi d
      rw [e2] at hp ⊢
      exact he y H1 e hm hp
/-- .. over a new list -/
theorem el_mapN {α : Type} {tl : TE} {j : Nat} {vs : List Nat} (ns : List α) (f : α → V) (p : α → Bool) (h : α → V) (hl : EvL tl σ H (ns.map f)) (hz : ns.length ≤ 40000) (hw : ∀ x, wipe ((wipe σ vs).set j (some x)) vs = wipe σ vs)
    (ht : ∀ x H1, Ex H H1 → x ∈ ns → EvT t ((wipe σ vs).set j (some (f x))) H1 (p x)) (he : ∀ x H1, Ex H H1 → x ∈ ns → p x = true → Ev te ((wipe σ vs).set j (some (f x))) H1 (h x)) :
    EvL (tLc (iList K tl) (gName j) t te vs) σ H ((ns.filter p).map h) := by
  cases ns with
  | nil => exact el_lcNL (fun _ => false) (fun _ => .non) hl (Nat.zero_le _) hw (fun i x H1 _ e => nomatch e) (fun i x H1 _ e => nomatch e)
  | cons d r =>
    rw [← given_map d p h (d :: r), show (d :: r).length = ((d :: r).map f).length by simp]
    refine el_lcNL _ _ hl (by rw [List.length_map]; exact hz) hw (fun i x H1 e hi => ?_) (fun i x H1 e hi hp => ?_)
    · obtain ⟨y, e1, rfl, e2, hm⟩ := get_map hi d
      rw [e2]
      exact ht y H1 e hm
    · obtain ⟨y, e1, rfl, e2, hm⟩ := get_map hi d
      rw [e2] at hp ⊢
      exact he y H1 e hm hp
theorem et_yes : EvT tYes σ H true := fun H1 _ _ q => q H1 (Ex.refl H1)
end
end Hc

set_option maxHeartbeats 4000000
/-! Exceptions of the text's own classes as values, over any built-in base: made by their own maker, their fields stored and read, isinstance. -/
namespace PySem
namespace HcX
open PySem.W PySem.Calls PyProof.Rows PySem.HandSPX
open Builtin Builtin.ObjectAttr
section
variable {prog : Program} {w : World} {A : Around} {E : Value → Shared → Prop} {R : Result → Shared → Prop} {hp : Heap} {g : Array GenState} {d : Drawn} {t : Nat} {os : OsState} {K : W.Frag} {B : String} {bmB : List Value}
/-- the first field of an exception that has no dict yet -/
theorem first_field {name : Str} {tk : Tok} {v : Value} {x C : Addr} {fv : Array Value} (SF : StoreFacts B bmB "object.__setattr__" "object") (X : K.In hp) (hx : hp.get? x = some { cls := .ref C, data := .fields fv })
    (ov : excOver K C bmB = true) (hd : hasDictIn K C = true) (ha : findIn K (.ref C) name = some none)
    (hq : ∀ h' tk' dx, (∀ b o, b ≠ x → hp.get? b = some o → h'.get? b = some o) → hp.objs.size ≤ dx → dx ≠ x → h'.get? x = some { cls := .ref C, dict := some dx, data := .fields fv } →
      h'.Ns1 dx (fun y => if y = name then some v else none) → R (.ok (.ret .none)) ⟨h', g, d, tk', os⟩) :
    codeAny (model prog w) A (.call (.builtin "object.__setattr__") ⟨[.ref x, .str name tk, v], []⟩) R ⟨hp, g, d, t, os⟩ := by
  obtain ⟨cd, hcd, hh⟩ := any_some hd
  have far : x ≠ hp.objs.size := Nat.ne_of_lt (Heap.lt_size hx)
  have taker : takerIn K C name = some none := by
    unfold takerIn
    rw [ha] <;> rfl
  have look : Looks (model prog w) hp (classData C) cd := looks_clsIn X hcd
  refine osa_openX (od := none) (r := none) SF X ⟨hx, rfl, rfl, trivial⟩ ov taker fun b => ?_
  show wpAny _ _ (storeInOwnDict (.ref x) (.ref C) (.str name tk) name v b) _ _ _
  obtain ⟨n1, n2, n3, n4, n5, dct, n6, n7, n8, n9, n10⟩ := cd
  have e : dct = true := hh
  subst e
  unfold storeInOwnDict ownDictForStores
  repeat (first | with_reducible refine store_in_new ?_ ?_ | with_reducible refine wpAny_loadPart_at hx ?_ | with_reducible refine look.at ?_ | wp_step)
  · exact ⟨_, #[], _, (Heap.get?_update_ne _ _ _ _ far.symm).trans (Heap.get?_push_at rfl rfl), rfl, fun e he => absurd he (by simp), fun _ => rfl⟩
  · intro h' tk' hn' hs
    have there : (hp.push { cls := .type "dict", data := .dict #[] }).get? x = some { cls := .ref C, data := .fields fv } := Heap.get?_push_of_some _ hx
    exact hq h' tk' hp.objs.size (fun b o hb ho => (hs.2 b (Nat.ne_of_lt (Heap.lt_size ho))).trans ((Heap.get?_update_ne _ _ _ _ hb).trans (Heap.get?_push_of_some _ ho))) (Nat.le_refl _) far.symm
      ((hs.2 x far).trans (Heap.get?_update_self _ there rfl)) hn'
/-- a further field -/
theorem next_field {name : Str} {tk : Tok} {v : Value} {x C dx : Addr} {fv : Array Value} {m0 : Str → Option Value} {nl : List Str} (SF : StoreFacts B bmB "object.__setattr__" "object") (X : K.In hp)
    (hx : hp.get? x = some { cls := .ref C, dict := some dx, data := .fields fv }) (hns : hp.Ns1 dx m0) (hw : Within m0 nl) (hz : nl.length ≤ 1000) (ov : excOver K C bmB = true) (hd : hasDictIn K C = true) (ha : findIn K (.ref C) name = some none)
    (hq : ∀ h' tk', (∀ b o, b ≠ dx → hp.get? b = some o → h'.get? b = some o) → h'.Ns1 dx (fun y => if y = name then some v else m0 y) → R (.ok (.ret .none)) ⟨h', g, d, tk', os⟩) :
    codeAny (model prog w) A (.call (.builtin "object.__setattr__") ⟨[.ref x, .str name tk, v], []⟩) R ⟨hp, g, d, t, os⟩ := by
  obtain ⟨oD, _, _, hoD, _, _⟩ := hns.count hw
  obtain ⟨cd, hcd, hh⟩ := any_some hd
  have taker : takerIn K C name = some none := by
    unfold takerIn
    rw [ha] <;> rfl
  have look : Looks (model prog w) hp (classData C) cd := looks_clsIn X hcd
  refine osa_openX (od := some oD) (r := none) SF X ⟨hx, rfl, rfl, hoD⟩ ov taker fun b => ?_
  show wpAny _ _ (storeInOwnDict (.ref x) (.ref C) (.str name tk) name v b) _ _ _
  obtain ⟨n1, n2, n3, n4, n5, dct, n6, n7, n8, n9, n10⟩ := cd
  have e : dct = true := hh
  subst e
  unfold storeInOwnDict ownDictForStores
  repeat (first | with_reducible refine OEX.store_in_old hns hw hz ?_ | with_reducible refine wpAny_loadPart_at hx ?_ | with_reducible refine look.at ?_ | wp_step)
  exact fun h' tk' hn' hs => hq h' tk' (fun b o hb ho => (hs.2 b hb).trans ho) hn'
end
end HcX
end PySem

namespace Hc
open PySem PySem.Spec PyProof.Rows L2
/-- what the written part says of an own exception class over B -/
structure Xc (K : PySem.W.Frag) (C : Addr) (bmB : List Value) (newId : String) : Prop where
  ini : PySem.W.excInitIn K C bmB newId = true
  ov : PySem.W.excOver K C bmB = true
  hd : PySem.W.hasDictIn K C = true
  sa : PySem.W.findIn K (.ref C) "__setattr__" = some (some (.builtin "object.__setattr__"))
  kC : PySem.W.keepIn K (.ref C) = true
  xf : XfC K C
  ex : ExcC K C

section
variable {X : Cx} {pins : List (Addr × Obj)} {σ : L2.St} {H : Hp} {s : Shared} {a C dx : Addr} {f : Str} {y : V} {u : Value} {fs : List (Str × V)} {Q : Unit → Shared → Prop} {E : Value → Shared → Prop} {A : Around} {B newId : String} {bmB : List Value}
/-- self.f = y, the first -/
theorem xst_new (SF : StoreFacts B bmB "object.__setattr__" "object") (T : Xc X.K C bmB newId) (I : Inv X pins σ H s) (e : H a = some (exo a C none)) (hno : PySem.W.findIn X.K (.ref C) f = some none) (ry : RelV y u)
    (h : ∀ dx s', H dx = none → dx ≠ a → Inv X pins σ (upd (upd H dx (exd dx [(f, y)])) a (exo a C (some dx))) s' → Q () s') : wpAny (model X.prog X.w) A (setAttr (.ref a) f u) Q E s := by
  obtain ⟨t1, ho⟩ := exo_at I.hok e
  obtain ⟨hp, g, d, t, os⟩ := s
  refine PySem.W.set_plain I.kIn (ox := { cls := .ref C, dict := none, data := .fields #[.ref t1, .none, .none, .none, .bool false, .none] }) (od := none) ⟨ho, rfl, rfl, trivial⟩ T.sa ?_
  refine PySem.HcX.first_field SF I.kIn ho T.ov T.hd hno fun h' tk' dx k dn dne hx hn => ?_
  have hnd : H dx = none := I.hok.fresh dn
  have nd : ∀ {b : Addr} {o : Obj}, hp.get? b = some o → b ≠ dx := fun {b o} q => Nat.ne_of_lt (Nat.lt_of_lt_of_le (Heap.lt_size q) dn)
  have na : ∀ {b : Addr}, H b = none → b ≠ a := fun {b} n z => by
    rw [z, e] at n
    cases n
  have U : Un X.fs [] H (upd (upd H dx (exd dx [(f, y)])) a (exo a C (some dx))) hp h' := {
    keep := fun b o q n _ _ => k b o (na n) q
    slot := fun b o q n _ _ => ⟨o.slots, k b o (na n) q⟩
    free := fun b o q n _ => (upd_ne (na n)).trans ((upd_ne (nd q)).trans n)
    there := fun b o q _ => by
      by_cases hb : b = a
      · exact ⟨_, hb ▸ hx⟩
      · exact ⟨o, k b o hb q⟩
    tups := fun b xs q => (upd_ne (at_ne e q exo_tup)).trans ((upd_ne (ne_of_none q hnd)).trans q)
    frzs := fun b o v q => (upd_ne (at_ne e q exo_frz)).trans ((upd_ne (ne_of_none q hnd)).trans q)
    tbls := fun b ps q => ⟨#[], by rw [upd_ne (at_ne e q exo_tbl), upd_ne (ne_of_none q hnd), q]; simp⟩ }
  refine h dx _ hnd dne (I.un (t' := tk') U fun b o q => ?_)
  by_cases hb : b = a
  · subst hb
    rw [upd_same] at q
    cases q
    exact exo_ok hx
  · rw [upd_ne hb] at q
    by_cases hd : b = dx
    · subst hd
      rw [upd_same] at q
      cases q
      exact exd_ok hn (relO_put (fs := []) ry fun _ => trivial)
    · rw [upd_ne hd] at q
      refine (I.hok b o q).stay (fun c v hc z => k c v (hc.elim (fun i => i ▸ hb) fun i => at_ne e i exo_own) z) (fun c hc => ?_) fun c xs hc => ?_
      · exact (upd_ne (at_ne e hc exo_own)).trans ((upd_ne (ne_of_none hc hnd)).trans hc)
      · exact (upd_ne (at_ne e hc exo_tup)).trans ((upd_ne (ne_of_none hc hnd)).trans hc)
/-- self.f = y, a further one -/
theorem xst_old (SF : StoreFacts B bmB "object.__setattr__" "object") (T : Xc X.K C bmB newId) (I : Inv X pins σ H s) (e : H a = some (exo a C (some dx))) (ed : H dx = some (exd dx fs)) (hl : fs.length ≤ 900) (hno : PySem.W.findIn X.K (.ref C) f = some none) (ry : RelV y u)
    (h : ∀ s', Inv X pins σ (upd H dx (exd dx ((f, y) :: fs))) s' → Q () s') : wpAny (model X.prog X.w) A (setAttr (.ref a) f u) Q E s := by
  obtain ⟨t1, ho⟩ := exo_at I.hok e
  obtain ⟨mA, hns, rel⟩ := exd_at I.hok ed
  have hw := within_of rel
  obtain ⟨hp, g, d, t, os⟩ := s
  obtain ⟨oD, _, _, hoD, _, _⟩ := hns.count hw
  refine PySem.W.set_plain I.kIn (ox := { cls := .ref C, dict := some dx, data := .fields #[.ref t1, .none, .none, .none, .bool false, .none] }) (od := some oD) ⟨ho, rfl, rfl, hoD⟩ T.sa ?_
  refine PySem.HcX.next_field SF I.kIn ho hns hw (by rw [List.length_map]; omega) T.ov T.hd hno fun h' tk' k hn => ?_
  obtain ⟨o2, _, _, e2, _⟩ := id hn
  exact h _ (I.write (t' := tk') (x := dx) (e := dx) (o := exd dx ((f, y) :: fs)) (by rw [ed]; exact True.intro) (.inl rfl) k ⟨o2, e2⟩ (exd_ok hn (relO_put ry rel)))
end

/-- self.f = e in an exception's maker -/
def tXst (K : PySem.W.Frag) (bmB : List Value) (newId : String) (f : Str) (to te : TE) : TS := fun D σ H => te σ H fun y H1 => to σ H1 fun x H2 => ∃ a C : Addr, x = .ref a ∧ Xc K C bmB newId ∧ PySem.W.findIn K (.ref C) f = some none ∧
  ((H2 a = some (exo a C none) ∧ ∀ dx, H2 dx = none → dx ≠ a → D.nx σ (upd (upd H2 dx (exd dx [(f, y)])) a (exo a C (some dx)))) ∨
    ∃ (dx : Addr) (fs : List (Str × V)), H2 a = some (exo a C (some dx)) ∧ H2 dx = some (exd dx fs) ∧ fs.length ≤ 900 ∧ D.nx σ (upd H2 dx (exd dx ((f, y) :: fs))))
/-- C(e, ..) as a value, C's own maker keeping sp -/
def tXmk (C : Addr) (sp : Sp) (ta : TA) : TE := fun σ H Q => ta σ H fun vs H1 => vs.length ≤ 1000 ∧ ∀ a, H1 a = none → sp (.ref a :: vs) (upd H1 a (exo a C none)) (fun v H2 => v = .non ∧ Q (.ref a) H2) (fun _ _ _ => False)
/-- e.f of an exception that has its dict -/
def tXfd (K : PySem.W.Frag) (f : Str) (te : TE) : TE := fun σ H Q => te σ H fun x H1 => ∃ (a C dd : Addr) (fs : List (Str × V)) (v : V), x = .ref a ∧ H1 a = some (exo a C (some dd)) ∧ H1 dd = some (exd dd fs) ∧ XfC K C ∧ PySem.W.findIn K (.ref C) f = some none ∧ fs.lookup f = some v ∧ Q v H1
/-- isinstance(e, c) of an exception -/
def rXis (K : PySem.W.Frag) : List V → Hp → VK → Prop := fun xs H Q => ∃ (a C : Addr) (c : V) (u : Value) (b : Bool), xs = [.ref a, c] ∧ ClsV c u ∧ ExcC K C ∧ (H a = some (exo a C none) ∨ ∃ (dd : Addr) (fs : List (Str × V)), H a = some (exo a C (some dd)) ∧ H dd = some (exd dd fs)) ∧ PySem.W.kitOne K (.ref C) u = some b ∧ Q (.bl b) H

section
variable {X : Cx} {o e : Expr} {es : List Expr} {to te : TE} {ta : TA} {f : Str} {p p' p1 p2 pos : Pos} {B newId initId : String} {bmB : List Value}
theorem ps_xst (SF : StoreFacts B bmB "object.__setattr__" "object") (ho : PE X o to) (he : PE X e te) (hs : swapsWith e (some (.Attribute o f p')) pos.line X.env = pure false := by rfl) : PS X (.Assign [.Attribute o f p'] e pos) (tXst X.K bmB newId f to te) := by
  refine ⟨fun pins s σ H D I h => ?_⟩
  refine plainObj_wpAny_Assign_Attribute (thn (he.run pins s σ H _ I h) fun v s1 ⟨y, H1, I1, r1, q1⟩ => thn (ho.run pins s1 σ H1 _ I1 q1) fun u s2 ⟨x, H2, I2, r2, a, C, ex, T, hno, q⟩ => ?_) hs
  subst ex
  cases (show u = Value.ref a from r2)
  rcases q with ⟨ea, q⟩ | ⟨dx, fs, ea, ed, hl, q⟩
  · exact xst_new SF T I2 ea hno r1 fun dx s' n ne J => ⟨σ, _, J, q dx n ne⟩
  · exact xst_old SF T I2 ea ed hl hno r1 fun s' J => ⟨σ, _, J, q⟩
theorem pe_xmk {x : Str} {C fI : Addr} {k : Nat} {fd : FuncData} {ps : List Str} {sp : Sp} (FB : ExcBaseFacts B newId initId bmB) (T : Xc X.K C bmB newId) (iC : PySem.W.findIn X.K (.ref C) "__init__" = some (some (.ref fI))) (tI : PySem.W.isFn X.K (.ref fI) = true)
    (F1 : FnOk X.prog X.w X.K X.mg X.base CX0 k fI fd ps sp) (hr : Room (k + 1) X.A) (hb : Binds X.K fd ps []) (hg : Gl X x) (hm : X.mg x = some (.ref C)) (ha : PA X (e :: es) ta)
    (hdb : (x == ("__debug__" : Str)) = false := by decide) (he : starEach (e :: es) X.env = (false, eval e X.env) :: starEach es X.env := by rfl) (hpl : (backTo pos (starEach es X.env)).any (·.1) = false := by rfl) :
    PE X (.Call (.Name x p) (e :: es) [] pos) (tXmk C sp ta) := by
  refine ⟨fun pins s σ H Q I h => ?_⟩
  refine wpAny_Call_Name_kw (ld_glob I hg hm ?_ hdb)
  refine PySem.W.callWith_K (h₀ := X.base) I.ok.mod.kin T.kC (thn (ha.run pos pins s σ H _ I h) fun us s1 ⟨vs, H1, I1, r1, hz, q1⟩ => ⟨I1.kIn, ?_⟩) he hpl
  show wpAny _ _ (call (.ref C) us) _ _ _
  obtain ⟨hp, g, dr, tk, os⟩ := s1
  obtain ⟨nm, N, qn, bs, bm, hdct, sn, sub, ab, col, dd, k0, k1, k2, k3, k5, hC, hT⟩ := PySem.W.excInit_of I1.kIn T.ini
  have hn : H1 (hp.objs.size + 1) = none := I1.hok.fresh (Nat.le_succ _)
  have kk : ∀ b o, hp.get? b = some o → ((hp.push (PySem.W.kdv_tup us)).push (PySem.HandSPX.excO C hp.objs.size)).get? b = some o := fun b o z => Heap.get?_push_of_some _ (Heap.get?_push_of_some _ z)
  have hget : ((hp.push (PySem.W.kdv_tup us)).push (PySem.HandSPX.excO C hp.objs.size)).get? (hp.objs.size + 1) = some (PySem.HandSPX.excO C hp.objs.size) := by heap_get
  have I2 : Inv X pins σ (upd H1 (hp.objs.size + 1) (exo (hp.objs.size + 1) C none)) ⟨(hp.push (PySem.W.kdv_tup us)).push (PySem.HandSPX.excO C hp.objs.size), g, dr, tk, os⟩ :=
    I1.laid (t' := tk) (a := hp.objs.size + 1) (o := exo (hp.objs.size + 1) C none) (h' := (hp.push (PySem.W.kdv_tup us)).push (PySem.HandSPX.excO C hp.objs.size)) kk (Nat.le_succ _) (exo_ok hget)
  have hq := q1 (hp.objs.size + 1) hn
  have r2 : Vals (V.ref (hp.objs.size + 1) :: vs) (Value.ref (hp.objs.size + 1) :: us) := .cons rfl r1
  have hl : (Value.ref (hp.objs.size + 1) :: us).length = ps.length := by rw [← r2.length, F1.len _ _ _ _ hq]
  have hus : us.length ≤ sizeLine := by
    rw [← r1.length, sizeLine_eq]
    omega
  have hb' := hb ⟨(hp.push (PySem.W.kdv_tup us)).push (PySem.HandSPX.excO C hp.objs.size), g, dr, tk, os⟩ (Value.ref (hp.objs.size + 1) :: us) I2.kIn (by rw [List.append_nil]; exact hl)
  rw [List.append_nil] at hb'
  refine wpAny_call (PySem.HandSPX.call_own FB hT hC (PySem.W.looks_findIn I1.kIn iC) (fun self => PySem.W.bind_fn I1.kIn self (beq_iff_eq.mp tI)) hus
    (codeAny_mono (F1.run _ X.stack _ _ ⟨Value.ref (hp.objs.size + 1) :: us, []⟩ _ _ _ (fun _ _ _ => False) (hr.make C us []) (I2.env0.make C us []) hb' r2 hq) fun r s' z => ?_))
  cases r with
  | error er => exact False.elim z
  | ok fl =>
    cases fl with
    | ret u =>
      obtain ⟨v, H2, os2, bare2, un2, hok2, rv, ev, q2⟩ := z
      subst ev
      refine ⟨rv, ?_⟩
      refine I1.after (Q := Q) ⟨.ref (hp.objs.size + 1), H2, os2, bare2, ?_, hok2, rfl, q2⟩
      exact (Un.laid (fs := frs X.stack) (ex := []) (o := exo (hp.objs.size + 1) C none) kk (Nat.le_succ _) hn).trans un2
    | next => exact False.elim z
    | brk => exact False.elim z
    | cont => exact False.elim z
/-- what is made of a class without a maker of its own -/
theorem xplain {pins : List (Addr × Obj)} {σ : L2.St} {H : Hp} {s : Shared} {Q : VK} {C : Addr} {vs : List V} {us : List Value} (FB : ExcBaseFacts B newId initId bmB) (q : PySem.W.excIn X.K C bmB newId = true) (I : Inv X pins σ H s) (r : Vals vs us) (hz : vs.length ≤ 1000)
    (q1 : ∀ a, H a = none → Q (.ref a) (upd H a (exo a C none))) : wpAny (model X.prog X.w) X.A (call (.ref C) us) (EP X pins σ Q) X.xe s := by
  obtain ⟨bm, N, nm, qn, bs, hdct, sn, sub, ab, col, dd, k0, k1, k2, k3, k5, mN, hC, hN, hni, T⟩ := exc_obj I.kIn q
  refine wpAny_call_exc_subT FB T hC hN hni (fun h' a hm => ?_) (by rw [← r.length, sizeLine_eq]; omega)
  have hn : H a = none := I.hok.gone hm.new
  obtain ⟨t, ht, _, _⟩ := hm.there
  exact ⟨.ref a, upd H a (exo a C none), I.laidN hm.keeps hm.new hn (exo_ok ht), rfl, q1 a hn⟩
/-- C(e) of such a class: a new exception object -/
theorem pe_xplain1 {x : Str} {C : Addr} (FB : ExcBaseFacts B newId initId bmB) (q : PySem.W.excIn X.K C bmB newId = true) (gC : X.mg x = some (.ref C)) (kC : PySem.W.keepIn X.K (.ref C) = true) (hg : Gl X x) (ha : PA X (e :: es) ta)
    (hdb : (x == ("__debug__" : Str)) = false := by decide) (he : starEach (e :: es) X.env = (false, eval e X.env) :: starEach es X.env := by rfl) (hpl : (backTo pos (starEach es X.env)).any (·.1) = false := by rfl) :
    PE X (.Call (.Name x p) (e :: es) [] pos) (fun σ H Q => ta σ H fun vs H1 => vs.length ≤ 1000 ∧ ∀ a, H1 a = none → Q (.ref a) (upd H1 a (exo a C none))) := by
  refine ⟨fun pins s σ H Q I h => wpAny_Call_Name_kw (ld_glob I hg gC ?_ hdb)⟩
  exact PySem.W.callWith_K (h₀ := X.base) I.ok.mod.kin kC (thn (ha.run pos pins s σ H _ I h) fun us s1 ⟨vs, H1, I1, r1, hz, q1⟩ => ⟨I1.kIn, xplain FB q I1 r1 hz q1⟩) he hpl
/-- C() of such a class -/
theorem pe_xplain0 {x : Str} {C : Addr} (FB : ExcBaseFacts B newId initId bmB) (q : PySem.W.excIn X.K C bmB newId = true) (gC : X.mg x = some (.ref C)) (kC : PySem.W.keepIn X.K (.ref C) = true) (hg : Gl X x)
    (hdb : (x == ("__debug__" : Str)) = false := by decide) :
    PE X (.Call (.Name x p) [] [] pos) (fun σ H Q => ∀ a, H a = none → Q (.ref a) (upd H a (exo a C none))) := by
  refine ⟨fun pins s σ H Q I h => wpAny_Call_Name_kw (ld_glob I hg gC ?_ hdb)⟩
  exact PySem.W.callWith_K0 I.kIn kC (xplain (us := []) FB q I .nil (by decide) h)
theorem pe_xfd (he : PE X e te) (hb : attributeBase e f X.env (eval e X.env) = eval e X.env := by rfl) : PE X (.Attribute e f pos) (tXfd X.K f te) := by
  refine ⟨fun pins s σ H Q I h => ?_⟩
  refine attr_of hb (thn (he.run pins s σ H _ I h) fun u s1 ⟨x, H1, I1, rx, a, C, dd, fs, v, ex, ea, ed, T, hno, l, q⟩ => ?_)
  subst ex
  cases (show u = Value.ref a from rx)
  obtain ⟨t1, ho⟩ := exo_at I1.hok ea
  obtain ⟨mA, hns, hr⟩ := exd_at I1.hok ed
  obtain ⟨od, hod, hl⟩ := lookIn_ns hns
  obtain ⟨w', hu, ru⟩ := RelO.some_of (v := v) (o := mA f) (by rw [← l]; exact hr f)
  have J : PySem.W.InstAt s1.heap a _ C (some od) := ⟨ho, rfl, rfl, hod⟩
  exact HandSPX.exc_get I1.kIn J T.ga T.gg T.exC (PySem.W.findObj_own T.hdC hno rfl (by rw [hl, hu])) (handed_of ru) ⟨v, H1, I1.tok _, ru, q⟩
end
end Hc

namespace PySem.W
open PySem PySem.Spec PySem.Calls PyProof.Rows
section
variable {prog : Program} {w : World} {A : Around} {E : Value → Shared → Prop} {s : Shared} {K : Frag} {x D : Addr} {ox : Obj}
/-- e.__class__ of an exception that has a dict -/
theorem hc_classD {od : Obj} {Q : Option Value → Shared → Prop} (C : L2.ExcC K D) (X : K.In s.heap) (I : InstAt s.heap x ox D (some od)) (h : Q (some (.ref D)) { s with toks := s.toks + 1 }) : wpAny (model prog w) A (getAttr? (.ref x) "__class__") Q E s := by
  have hf : findObj K D (some od) "__class__" = some (.bind (.builtin "getset_descriptor.__get__") (.builtin "object.__class__")) := findObj_data (by obtain ⟨cd, hc, _⟩ := any_some C.hd; rw [hc]; rfl) C.ha C.hn C.ht
  obtain ⟨hp, g, d, t, os⟩ := s
  have M0 := I.type (M := model prog w)
  have M1 := looks_findIn (M := model prog w) X C.hg
  have M2 := looks_findIn (M := model prog w) X C.hk
  have M3 := looks_find (M := model prog w) X I hf
  have isB : Looks (model prog w) hp (isInstance (.ref x) (.type "BaseException")) true := M0.andThen (looks_subIn X C.hs)
  have n1 : (Value.builtin "BaseException.__getattribute__" == Value.builtin "object.__getattribute__") = false := by decide +kernel
  have n2 : (onTheHeap (Value.ref D) && Value.builtin "BaseException.__getattribute__" == Value.builtin "object.__getattribute__") = false := by rw [n1] <;> rfl
  unfold getAttr? getAttrBy? getAttrBy
  refine wpAny_bind (wpAny_mkText (wpAny_bind (wpAny_attempt (wpAny_holding (wpAny_bind (M0.at (wpAny_bind (M1.at ?_))))))))
  show wpAny _ _ (if (onTheHeap (Value.ref D) && Value.builtin "BaseException.__getattribute__" == Value.builtin "object.__getattribute__") = true then _ else _) _ _ _
  rw [n2, if_neg Bool.false_ne_true]
  unfold getAttrByItsOwn hookBefore
  refine wpAny_bind ?_
  rw [if_pos (show onTheHeap (Value.ref D) = true from rfl)]
  refine M2.at (wpAny_bind (wpAny_attempt (wpAny_holding ?_)))
  unfold callGetattribute
  rw [if_neg (show ¬ (false && onTheHeap (Value.builtin "BaseException.__getattribute__")) = true from Bool.false_ne_true)]
  unfold boundAndCalled
  rw [PySem.F.excAttr_ValueError.ga.bind (.ref x)]
  refine wpAny_bind (wpAny_pure ?_)
  show wpAny _ _ (call (.builtin "BaseException.__getattribute__") [.ref x, .str "__class__" t]) _ _ _
  refine wpAny_call (codeAny_call_builtin PySem.F.excAttr_ValueError.ga.plain PySem.F.entry_bexc_ga ?_)
  refine @check_slot (model prog w) _ _ ⟨hp, g, d, t + 1, os⟩ "BaseException.__getattribute__" "BaseException" "__getattribute__" (.ref x) [.str "__class__" t] [] _ (by decide +kernel) (by decide +kernel) isB (PySem.F.args_bexc_ga (.ref x) (.str "__class__" t)) ?_
  unfold Builtin.«object.__getattribute__»
  refine wpAny_bind (wpAny_of_eq (a := ((Value.ref x : Value), [Value.str "__class__" t])) (by first | rfl | (simp only [slotArgs]; rfl)) ?_)
  refine wpAny_bind (wpAny_pure (wpAny_bind (M0.at (wpAny_bind (M3.at ?_)))))
  show wpAny _ _ (holding [Value.builtin "object.__class__"] (call (.builtin "getset_descriptor.__get__") [.builtin "object.__class__", .ref x, .ref D]) >>= ret) _ _ _
  refine wpAny_bind (wpAny_holding (wpAny_call (class_get (s := ⟨hp, g, d, t + 1, os⟩) (ox := ox) (od := some od) X I C.hm ?_)))
  refine wpAny_pure ?_
  show wpAny _ _ (handedOut (.ref D)) _ _ _
  rw [handedOut_of (v := .ref D) rfl]
  first
    | exact wpAny_pure (wpAny_pure h)
    | exact wpAny_pure h
    | exact wpAny_pure (wpAny_bind (wpAny_pure (wpAny_pure h)))
theorem hc_kitD {od : Obj} (C : L2.ExcC K D) : KitX K (.ref x) (.ref D) (fun h => InstAt h x ox D (some od)) where
  ty := fun _ _ _ I => I.type
  it := fun M h X _ => by
    obtain ⟨cd, hc, hh⟩ := any_some C.hd
    clear hh
    unfold clsIn at hc
    split at hc
    · rename_i ho
      intro A' Q' E' s' k q
      unfold isType loadHead
      exact wpAny_bind (wpAny_loadPart (k _ _ (X _ _ ho)) (wpAny_pure q))
    · cases hc
  ne := (handS_kitx_exc (x := x) (ox := ox) C.hg C.hk C.hs C.hd C.ha C.hn C.ht C.hm).ne
  ca := fun X I k => hc_classD C X I k
end
end PySem.W

namespace Hc
open PySem PySem.Spec PyProof.Rows L2
theorem call_xis {X : Cx} : CallR X (.builtin "isinstance") (rXis X.K) := by
  intro pins s σ H xs us Q I r h
  obtain ⟨a, C, c, cv, b, rfl, hcv, T, ho, e, q⟩ := h
  obtain ⟨u1, u2, rfl, r1, r2⟩ := vals2 r
  cases (show u1 = Value.ref a from r1)
  have ec := hcv.eq r2
  subst ec
  rcases ho with ho | ⟨dd, fs, ho, hd⟩
  · obtain ⟨t1, hget⟩ := exo_at I.hok ho
    have J : PySem.W.InstAt s.heap a _ C none := ⟨hget, rfl, rfl, trivial⟩
    exact PySem.W.kia_one (PySem.W.handS_kitx_exc T.hg T.hk T.hs T.hd T.ha T.hn T.ht T.hm) I.kIn J e (fun z => nomatch z) fun tk => ⟨.bl b, H, I.tok tk, rfl, q⟩
  · obtain ⟨t1, hget⟩ := exo_at I.hok ho
    obtain ⟨mA, hns, _⟩ := exd_at I.hok hd
    obtain ⟨od, hod, _⟩ := lookIn_ns hns
    have J : PySem.W.InstAt s.heap a _ C (some od) := ⟨hget, rfl, rfl, hod⟩
    exact PySem.W.kia_one (PySem.W.hc_kitD T) I.kIn J e (fun z => nomatch z) fun tk => ⟨.bl b, H, I.tok tk, rfl, q⟩
end Hc

set_option maxHeartbeats 4000000
/-! The text's error classes as data: name, fields, base; what the written part is asked of each, and what follows. -/
namespace Hc
open PySem PySem.Spec PyProof.Rows L2

/-- an error class: its name, the fields of its own maker, whether it stands under RuntimeError -/
structure ErrD where
  name : Str
  fields : List Str
  rt : Bool
def veB : List Value := [.type "ValueError", .type "Exception", .type "BaseException", .type "object"]
def rtB : List Value := [.type "RuntimeError", .type "Exception", .type "BaseException", .type "object"]
def ErrD.bm (d : ErrD) : List Value := if d.rt then rtB else veB
def ErrD.newId (d : ErrD) : String := if d.rt then "RuntimeError.__new__" else "ValueError.__new__"
def eqV2 (a b : Option (Option Value)) : Bool := decide (a = b)
/-- what the written part is asked of the class at C -/
def xcOk (K : PySem.W.Frag) (C : Addr) (d : ErrD) : Bool :=
  PySem.W.excInitIn K C d.bm d.newId && (PySem.W.excOver K C d.bm && (PySem.W.hasDictIn K C && (eqV2 (PySem.W.findIn K (.ref C) "__setattr__") (some (some (.builtin "object.__setattr__"))) && (PySem.W.keepIn K (.ref C) &&
  (eqV2 (PySem.W.findIn K (.ref C) "__getattribute__") (some (some (.builtin "BaseException.__getattribute__"))) && (eqV2 (PySem.W.findIn K (.ref C) "__getattr__") (some none) && (decide (PySem.W.subIn K (.ref C) (.type "BaseException") = some true) &&
  (eqV2 (PySem.W.findIn K (.ref C) "__class__") (some (some (.builtin "object.__class__"))) && (eqV2 (PySem.W.specialIn K (.builtin "object.__class__") "__get__") (some (some (.builtin "getset_descriptor.__get__"))) && (decide (PySem.W.takesIn K (.builtin "object.__class__") = some true) &&
  decide (PySem.W.mroIn K C (.type "object") = some true)))))))))))
theorem xcOk_ok {K : PySem.W.Frag} {C : Addr} {d : ErrD} (h : xcOk K C d = true) : Xc K C d.bm d.newId := by
  unfold xcOk eqV2 at h
  simp only [Bool.and_eq_true, decide_eq_true_eq] at h
  obtain ⟨h1, h2, h3, h4, h5, h6, h7, h8, h9, h10, h11, h12⟩ := h
  exact ⟨h1, h2, h3, h4, h5, ⟨h6, h7, h8, h3⟩, ⟨h6, h7, h8, h3, h9, h10, h11, h12⟩⟩
/-- a class with its own maker: the maker's def, the fields that no class holds -/
def mkOk (K : PySem.W.Frag) (C : Addr) (d : ErrD) : Bool :=
  if d.fields.isEmpty then PySem.W.excIn K C d.bm d.newId else
  eqV2 (PySem.W.findIn K (.ref C) "__init__") (some (some (.ref (He.ma K C "__init__")))) && (PySem.W.isFn K (.ref (He.ma K C "__init__")) && d.fields.all fun f => eqV2 (PySem.W.findIn K (.ref C) f) (some none))
def glOk (K : PySem.W.Frag) (x : Str) : Bool := eqV2 (PySem.W.nsIn K mainGlobals x) (some (some (.ref (He.ga K x))))
/-- the class of the i-th error -/
def ec (K : PySem.W.Frag) (errs : List ErrD) (i : Nat) : Addr := match errs[i]? with
  | some d => He.ga K d.name
  | none => 0
def errOk (K : PySem.W.Frag) (d : ErrD) : Bool := glOk K d.name && (xcOk K (He.ga K d.name) d && mkOk K (He.ga K d.name) d)
def errsOk (K : PySem.W.Frag) (errs : List ErrD) : Bool := errs.all (errOk K)
/-- which is whose -/
def kitOk (K : PySem.W.Frag) (errs : List ErrD) : Bool := (List.range errs.length).all fun i => (List.range errs.length).all fun j => decide (PySem.W.kitOne K (.ref (ec K errs i)) (.ref (ec K errs j)) = some (decide (i = j)))
def kitTo (K : PySem.W.Frag) (errs : List ErrD) (u : Value) (b : ErrD → Bool) : Bool := errs.all fun d => decide (PySem.W.kitOne K (.ref (He.ga K d.name)) u = some (b d))

section
variable {K : PySem.W.Frag} {errs : List ErrD}
theorem err_at (h : errsOk K errs = true) {d : ErrD} (hd : d ∈ errs) : PySem.W.nsIn K mainGlobals d.name = some (some (.ref (He.ga K d.name))) ∧ Xc K (He.ga K d.name) d.bm d.newId ∧ mkOk K (He.ga K d.name) d = true := by
  have h1 := List.all_eq_true.mp h d hd
  unfold errOk glOk eqV2 at h1
  simp only [Bool.and_eq_true, decide_eq_true_eq] at h1
  exact ⟨h1.1, xcOk_ok h1.2.1, h1.2.2⟩
theorem mk_at {C : Addr} {d : ErrD} (h : mkOk K C d = true) (hf : d.fields.isEmpty = false) : PySem.W.findIn K (.ref C) "__init__" = some (some (.ref (He.ma K C "__init__"))) ∧ PySem.W.isFn K (.ref (He.ma K C "__init__")) = true ∧ ∀ f ∈ d.fields, PySem.W.findIn K (.ref C) f = some none := by
  unfold mkOk at h
  rw [hf, if_neg Bool.false_ne_true] at h
  unfold eqV2 at h
  simp only [Bool.and_eq_true, decide_eq_true_eq, List.all_eq_true] at h
  exact ⟨h.1, h.2.1, h.2.2⟩
theorem mk_no {C : Addr} {d : ErrD} (h : mkOk K C d = true) (hf : d.fields.isEmpty = true) : PySem.W.excIn K C d.bm d.newId = true := by
  unfold mkOk at h
  rw [hf, if_pos rfl] at h
  exact h
theorem ec_at {i : Nat} {d : ErrD} (h : errs[i]? = some d) : ec K errs i = He.ga K d.name := by
  unfold ec
  rw [h]
theorem kit_at (h : kitOk K errs = true) {i j : Nat} (hi : i < errs.length) (hj : j < errs.length) : PySem.W.kitOne K (.ref (ec K errs i)) (.ref (ec K errs j)) = some (decide (i = j)) :=
  of_decide_eq_true (List.all_eq_true.mp (List.all_eq_true.mp h i (List.mem_range.mpr hi)) j (List.mem_range.mpr hj))
theorem kit_to {u : Value} {b : ErrD → Bool} (h : kitTo K errs u b = true) {i : Nat} {d : ErrD} (hi : errs[i]? = some d) : PySem.W.kitOne K (.ref (ec K errs i)) u = some (b d) := by
  rw [ec_at hi]
  exact of_decide_eq_true (List.all_eq_true.mp h d (List.mem_of_getElem? hi))
end

/-! ### the makers -/
/-- what a maker of one field does -/
def spIni1 (K : PySem.W.Frag) (bmB : List Value) (newId : String) (f : Str) : Sp := fun vs H Q _ => ∃ (a C : Addr) (v : V), vs = [.ref a, v] ∧ H a = some (exo a C none) ∧ Xc K C bmB newId ∧ PySem.W.findIn K (.ref C) f = some none ∧
  ∀ dx, H dx = none → dx ≠ a → Q .non (upd (upd H dx (exd dx [(f, v)])) a (exo a C (some dx)))
section
variable {P : Program} {w : World} {K : PySem.W.Frag} {mg : Str → Option Value} {base : Heap} {B newId : String} {bmB : List Value}
theorem ok_ini1 {fI : Addr} {fd : FuncData} {qual : Str} {st : Stmt} {fld : Str} {p1 p2 p3 p4 : Pos} (SF : StoreFacts B bmB "object.__setattr__" "object") (F : Fun K "__init__" qual st fI fd) (S : FnScope ["self", fld] ["self", fld] (defScope st))
    (hB : defBody st = [.Assign [.Attribute (.Name "self" p1) fld p2] (.Name fld p3) p4]) (v1 : (defScope st).names.lookup ("self" : Str) = some .local) (v2 : (defScope st).names.lookup fld = some .local)
    (d1 : (fld == ("__debug__" : Str)) = false) (d2 : (fld == ("__classdict__" : Str)) = false) : FnOk P w K mg base CX0 1 fI fd ["self", fld] (spIni1 K bmB newId fld) := by
  refine F.ok S (fun vs H Q E h => ?_) (fun cdv A outer s H vs Q E hr h => ?_)
  · obtain ⟨a, C, v, rfl, _⟩ := h
    rfl
  · obtain ⟨a, C, v, rfl, ha, T, no, q⟩ := h
    rw [hB]
    exact ⟨_, pss_one (ps_xst (newId := newId) SF (pv 0 rfl (Or.inl v1)) (pv 1 rfl (Or.inl v2) d1 d2)), _, rfl, _, rfl, a, C, rfl, T, no, .inl ⟨ha, fun dx n ne => q dx n ne⟩⟩
end

/-! ### what is made and read in passing -/
section
open Evl
variable {K : PySem.W.Frag} {σ : L2.St} {H : Hp} {te : TE} {bmB : List Value} {newId : String} {C : Addr} {f : Str} {v : V}
/-- at a an error of the class at C, with some fields -/
def ErrAt (H : Hp) (a C : Addr) (fs : List (Str × V)) : Prop := ∃ dd, H a = some (exo a C (some dd)) ∧ H dd = some (exd dd fs)
/-- .. of any kind -/
def ErrIs (H : Hp) (a C : Addr) : Prop := H a = some (exo a C none) ∨ ∃ (dd : Addr) (fs : List (Str × V)), H a = some (exo a C (some dd)) ∧ H dd = some (exd dd fs)
theorem ErrAt.is {a C : Addr} {fs : List (Str × V)} (h : ErrAt H a C fs) : ErrIs H a C := by
  obtain ⟨dd, h1, h2⟩ := h
  exact .inr ⟨dd, fs, h1, h2⟩
theorem ErrIs.ex {H' : Hp} {a C : Addr} (h : ErrIs H a C) (e : Ex H H') : ErrIs H' a C := by
  rcases h with h | ⟨dd, fs, h1, h2⟩
  · exact .inl (e _ _ h)
  · exact .inr ⟨dd, fs, e _ _ h1, e _ _ h2⟩
theorem ErrAt.ex {H' : Hp} {a C : Addr} {fs : List (Str × V)} (h : ErrAt H a C fs) (e : Ex H H') : ErrAt H' a C fs := by
  obtain ⟨dd, h1, h2⟩ := h
  exact ⟨dd, e _ _ h1, e _ _ h2⟩
theorem exo_upd {H1 : Hp} {a dx : Addr} {o p : HO} (n : H1 a = none) (nd : H1 dx = none) (ne : dx ≠ a) {q : HO} : Ex H1 (upd (upd (upd H1 a o) dx p) a q) := fun b u e => by
  rw [upd_ne (ne_of_none e n), upd_ne (ne_of_none e nd), upd_ne (ne_of_none e n)]
  exact e
/-- an expression that makes an error of the class at C with such fields -/
def EvE (te : TE) (σ : L2.St) (H : Hp) (C : Addr) (fs : List (Str × V)) : Prop := ∀ H1, Ex H H1 → ∀ Q : VK, (∀ a H2, Ex H1 H2 → H1 a = none → ErrAt H2 a C fs → Q (.ref a) H2) → te σ H1 Q
theorem ee_mk1 (T : Xc K C bmB newId) (no : PySem.W.findIn K (.ref C) f = some none) (h : Ev te σ H v) : EvE (tXmk C (spIni1 K bmB newId f) (tCons te tNil)) σ H C [(f, v)] := fun H1 e Q q =>
  h H1 e _ fun H2 e2 => ⟨by show 1 ≤ 1000; decide, fun a na => ⟨a, C, v, rfl, upd_same, T, no, fun dx nd ne => by
    rw [upd_ne ne] at nd
    refine ⟨rfl, q a _ (e2.trans (exo_upd na nd ne)) (fresh_back e2 na) ⟨dx, upd_same, ?_⟩⟩
    rw [upd_ne ne, upd_same]⟩⟩
theorem ev_fld {fs : List (Str × V)} (T : XfC K C) (no : PySem.W.findIn K (.ref C) f = some none) (h : EvE te σ H C fs) (l : fs.lookup f = some v) : Ev (tXfd K f te) σ H v := fun H1 e Q q =>
  h H1 e _ fun a H2 e2 na ⟨dd, h1, h2⟩ => ⟨a, C, dd, fs, v, rfl, h1, h2, T, no, l, q H2 e2⟩
theorem ev_fldV {fs : List (Str × V)} {a : Addr} (T : XfC K C) (no : PySem.W.findIn K (.ref C) f = some none) (h : Ev te σ H (.ref a)) (x : ErrAt H a C fs) (l : fs.lookup f = some v) : Ev (tXfd K f te) σ H v := fun H1 e Q q =>
  h H1 e _ fun H2 e2 => by
    obtain ⟨dd, h1, h2⟩ := x
    exact ⟨a, C, dd, fs, v, rfl, e2 _ _ (e _ _ h1), e2 _ _ (e _ _ h2), T, no, l, q H2 e2⟩
end

/-! ### makers of two and three fields -/
def spIni2 (K : PySem.W.Frag) (bmB : List Value) (newId : String) (f g : Str) : Sp := fun vs H Q _ => ∃ (a C : Addr) (v u : V), vs = [.ref a, v, u] ∧ H a = some (exo a C none) ∧ Xc K C bmB newId ∧ PySem.W.findIn K (.ref C) f = some none ∧ PySem.W.findIn K (.ref C) g = some none ∧
  ∀ dx (H' : Hp), H dx = none → dx ≠ a → (∀ b, b ≠ a → b ≠ dx → H' b = H b) → H' a = some (exo a C (some dx)) → H' dx = some (exd dx [(g, u), (f, v)]) → Q .non H'
def spIni3 (K : PySem.W.Frag) (bmB : List Value) (newId : String) (f g j : Str) : Sp := fun vs H Q _ => ∃ (a C : Addr) (v u z : V), vs = [.ref a, v, u, z] ∧ H a = some (exo a C none) ∧ Xc K C bmB newId ∧ PySem.W.findIn K (.ref C) f = some none ∧ PySem.W.findIn K (.ref C) g = some none ∧ PySem.W.findIn K (.ref C) j = some none ∧
  ∀ dx (H' : Hp), H dx = none → dx ≠ a → (∀ b, b ≠ a → b ≠ dx → H' b = H b) → H' a = some (exo a C (some dx)) → H' dx = some (exd dx [(j, z), (g, u), (f, v)]) → Q .non H'
section
variable {P : Program} {w : World} {K : PySem.W.Frag} {mg : Str → Option Value} {base : Heap} {B newId : String} {bmB : List Value}
theorem ok_ini2 {fI : Addr} {fd : FuncData} {qual : Str} {st : Stmt} {f g : Str} {p1 p2 p3 p4 q1 q2 q3 q4 : Pos} (SF : StoreFacts B bmB "object.__setattr__" "object") (F : Fun K "__init__" qual st fI fd) (S : FnScope ["self", f, g] ["self", f, g] (defScope st))
    (hB : defBody st = [.Assign [.Attribute (.Name "self" p1) f p2] (.Name f p3) p4, .Assign [.Attribute (.Name "self" q1) g q2] (.Name g q3) q4]) (v1 : (defScope st).names.lookup ("self" : Str) = some .local) (v2 : (defScope st).names.lookup f = some .local) (v3 : (defScope st).names.lookup g = some .local)
    (d1 : (f == ("__debug__" : Str)) = false) (d2 : (f == ("__classdict__" : Str)) = false) (d3 : (g == ("__debug__" : Str)) = false) (d4 : (g == ("__classdict__" : Str)) = false) : FnOk P w K mg base CX0 1 fI fd ["self", f, g] (spIni2 K bmB newId f g) := by
  refine F.ok S (fun vs H Q E h => ?_) (fun cdv A outer s H vs Q E hr h => ?_)
  · obtain ⟨a, C, v, u, rfl, _⟩ := h
    rfl
  · obtain ⟨a, C, v, u, rfl, ha, T, no, no2, q⟩ := h
    rw [hB]
    refine ⟨_, pss_cons (ps_xst (newId := newId) SF (pv 0 rfl (Or.inl v1)) (pv 1 rfl (Or.inl v2) d1 d2)) (pss_one (ps_xst (newId := newId) SF (pv 0 rfl (Or.inl v1)) (pv 2 rfl (Or.inl v3) d3 d4))), _, rfl, _, rfl, a, C, rfl, T, no, .inl ⟨ha, fun dx n ne => ?_⟩⟩
    refine ⟨_, rfl, _, rfl, a, C, rfl, T, no2, .inr ⟨dx, [(f, v)], upd_same, ?_, by show 1 ≤ 900; decide, q dx _ n ne (fun b h1 h2 => ?_) ?_ upd_same⟩⟩
    · rw [upd_ne ne, upd_same]
    · rw [upd_ne h2, upd_ne h1, upd_ne h2]
    · rw [upd_ne ne.symm, upd_same]
theorem ok_ini3 {fI : Addr} {fd : FuncData} {qual : Str} {st : Stmt} {f g j : Str} {p1 p2 p3 p4 q1 q2 q3 q4 r1 r2 r3 r4 : Pos} (SF : StoreFacts B bmB "object.__setattr__" "object") (F : Fun K "__init__" qual st fI fd) (S : FnScope ["self", f, g, j] ["self", f, g, j] (defScope st))
    (hB : defBody st = [.Assign [.Attribute (.Name "self" p1) f p2] (.Name f p3) p4, .Assign [.Attribute (.Name "self" q1) g q2] (.Name g q3) q4, .Assign [.Attribute (.Name "self" r1) j r2] (.Name j r3) r4]) (v1 : (defScope st).names.lookup ("self" : Str) = some .local) (v2 : (defScope st).names.lookup f = some .local) (v3 : (defScope st).names.lookup g = some .local) (v4 : (defScope st).names.lookup j = some .local)
    (d1 : (f == ("__debug__" : Str)) = false) (d2 : (f == ("__classdict__" : Str)) = false) (d3 : (g == ("__debug__" : Str)) = false) (d4 : (g == ("__classdict__" : Str)) = false) (d5 : (j == ("__debug__" : Str)) = false) (d6 : (j == ("__classdict__" : Str)) = false) : FnOk P w K mg base CX0 1 fI fd ["self", f, g, j] (spIni3 K bmB newId f g j) := by
  refine F.ok S (fun vs H Q E h => ?_) (fun cdv A outer s H vs Q E hr h => ?_)
  · obtain ⟨a, C, v, u, z, rfl, _⟩ := h
    rfl
  · obtain ⟨a, C, v, u, z, rfl, ha, T, no, no2, no3, q⟩ := h
    rw [hB]
    refine ⟨_, pss_cons (ps_xst (newId := newId) SF (pv 0 rfl (Or.inl v1)) (pv 1 rfl (Or.inl v2) d1 d2)) (pss_cons (ps_xst (newId := newId) SF (pv 0 rfl (Or.inl v1)) (pv 2 rfl (Or.inl v3) d3 d4)) (pss_one (ps_xst (newId := newId) SF (pv 0 rfl (Or.inl v1)) (pv 3 rfl (Or.inl v4) d5 d6)))), _, rfl, _, rfl, a, C, rfl, T, no, .inl ⟨ha, fun dx n ne => ?_⟩⟩
    refine ⟨_, rfl, _, rfl, a, C, rfl, T, no2, .inr ⟨dx, [(f, v)], upd_same, ?_, by show 1 ≤ 900; decide, ?_⟩⟩
    · rw [upd_ne ne, upd_same]
    refine ⟨_, rfl, _, rfl, a, C, rfl, T, no3, .inr ⟨dx, [(g, u), (f, v)], ?_, upd_same, by show 2 ≤ 900; decide, q dx _ n ne (fun b h1 h2 => ?_) ?_ upd_same⟩⟩
    · rw [upd_ne ne.symm, upd_same]
    · rw [upd_ne h2, upd_ne h2, upd_ne h1, upd_ne h2]
    · rw [upd_ne ne.symm, upd_ne ne.symm, upd_same]
end
section
open Evl
variable {K : PySem.W.Frag} {σ : L2.St} {H : Hp} {te tf tg : TE} {bmB : List Value} {newId : String} {C : Addr} {f g j : Str} {v u z : V}
theorem ext_mk {H1 H' : Hp} {a dx : Addr} {o : HO} (n : H1 a = none) (nd : H1 dx = none) (h : ∀ b, b ≠ a → b ≠ dx → H' b = upd H1 a o b) : Ex H1 H' := fun b x e => by
  rw [h b (ne_of_none e n) (ne_of_none e nd), upd_ne (ne_of_none e n)]
  exact e
theorem ee_mk2 (T : Xc K C bmB newId) (no : PySem.W.findIn K (.ref C) f = some none) (no2 : PySem.W.findIn K (.ref C) g = some none) (h1 : Ev te σ H v) (h2 : Ev tf σ H u) : EvE (tXmk C (spIni2 K bmB newId f g) (tCons te (tCons tf tNil))) σ H C [(g, u), (f, v)] := fun H1 e Q q =>
  h1 H1 e _ fun H2 e2 => h2 H2 (e.trans e2) _ fun H3 e3 => ⟨by show 2 ≤ 1000; decide, fun a na => ⟨a, C, v, u, rfl, upd_same, T, no, no2, fun dx H' nd ne hk ha hd => by
    rw [upd_ne ne] at nd
    exact ⟨rfl, q a _ ((e2.trans e3).trans (ext_mk na nd hk)) (fresh_back (e2.trans e3) na) ⟨dx, ha, hd⟩⟩⟩⟩
theorem ee_mk3 (T : Xc K C bmB newId) (no : PySem.W.findIn K (.ref C) f = some none) (no2 : PySem.W.findIn K (.ref C) g = some none) (no3 : PySem.W.findIn K (.ref C) j = some none) (h1 : Ev te σ H v) (h2 : Ev tf σ H u) (h3 : Ev tg σ H z) :
    EvE (tXmk C (spIni3 K bmB newId f g j) (tCons te (tCons tf (tCons tg tNil)))) σ H C [(j, z), (g, u), (f, v)] := fun H1 e Q q =>
  h1 H1 e _ fun H2 e2 => h2 H2 (e.trans e2) _ fun H3 e3 => h3 H3 ((e.trans e2).trans e3) _ fun H4 e4 => ⟨by show 3 ≤ 1000; decide, fun a na => ⟨a, C, v, u, z, rfl, upd_same, T, no, no2, no3, fun dx H' nd ne hk ha hd => by
    rw [upd_ne ne] at nd
    exact ⟨rfl, q a _ (((e2.trans e3).trans e4).trans (ext_mk na nd hk)) (fresh_back ((e2.trans e3).trans e4) na) ⟨dx, ha, hd⟩⟩⟩⟩
/-- of a class without a maker -/
theorem e0_mk {H1 : Hp} {C : Addr} {Q : VK} (q : ∀ a H2, Ex H1 H2 → H1 a = none → ErrIs H2 a C → Q (.ref a) H2) : ∀ a, H1 a = none → Q (.ref a) (upd H1 a (exo a C none)) := fun a na => q a _ (Ex.new na) na (.inl upd_same)
end
end Hc

set_option maxHeartbeats 4000000
namespace Hc
open PySem PySem.Spec PyProof.Rows L2
def top (i : Nat) : Stmt := PySem.Challenge.pw_handedcopies_k12_errors_made.main.body.getD i (.Pass ⟨0, 0, 0, 0⟩)
abbrev sStart : Stmt := top 23
abbrev sDraw : Stmt := top 24
abbrev sOf : Stmt := top 25
end Hc

set_option maxHeartbeats 4000000
/-! The draws of a law: where its state stands, and that each draw gives some number below its bound and leaves all else. -/
namespace Hc
open PySem PySem.Spec PyProof.Rows L2

/-- a draw's state: the list st, with the great numbers at g, the small ones at sm -/
def DrawSt (H : Hp) (st g sm : Addr) : Prop := ∃ (gs ss : List Int) (n z : Int), H st = some (.lst [.ref g, .ref sm, .int n, .int z]) ∧ H g = some (.lst (gs.map V.int)) ∧ H sm = some (.lst (ss.map V.int)) ∧
  (∀ x ∈ gs, 0 ≤ x) ∧ (∀ x ∈ ss, 0 ≤ x ∧ x < 2 ^ 40) ∧ ss.length ≤ 63 ∧ gs.length ≤ 63 ∧ 0 ≤ n ∧ 0 ≤ z ∧ z < 2 ^ 63 ∧ g ≠ sm
/-- what a draw writes -/
def Dr (st g : Addr) : Addr → Prop := fun b => b = st ∨ b = g
theorem DrawSt.ext {H H' : Hp} {st g sm : Addr} {S : Addr → Prop} (d : DrawSt H st g sm) (e : Ext S H H') (h1 : ¬ S st) (h2 : ¬ S g) (h3 : ¬ S sm) : DrawSt H' st g sm := by
  obtain ⟨gs, ss, n, z, a1, a2, a3, r⟩ := d
  exact ⟨gs, ss, n, z, e _ _ a1 h1, e _ _ a2 h2, e _ _ a3 h3, r⟩
theorem DrawSt.same {H H' : Hp} {st g sm : Addr} (d : DrawSt H st g sm) (e : Same H H') : DrawSt H' st g sm := by
  obtain ⟨gs, ss, n, z, a1, a2, a3, r⟩ := d
  exact ⟨gs, ss, n, z, e _ _ a1, e _ _ a2, e _ _ a3, r⟩

/-- a free place is none of the state's -/
theorem DrawSt.off {H : Hp} {st g sm p : Addr} (d : DrawSt H st g sm) (h : H p = none) : p ≠ st ∧ p ≠ g ∧ p ≠ sm := by
  obtain ⟨_, _, _, _, a1, a2, a3, _⟩ := d
  exact ⟨(ne_of_none a1 h).symm, (ne_of_none a2 h).symm, (ne_of_none a3 h).symm⟩
theorem DrawSt.put {H : Hp} {st g sm p : Addr} {o : HO} (d : DrawSt H st g sm) (n : p ≠ st ∧ p ≠ g ∧ p ≠ sm) : DrawSt (upd H p o) st g sm := by
  obtain ⟨gs, ss, a, z, a1, a2, a3, r⟩ := d
  exact ⟨gs, ss, a, z, (upd_ne n.1.symm).trans a1, (upd_ne n.2.1.symm).trans a2, (upd_ne n.2.2.symm).trans a3, r⟩
theorem dr_off {st g sm p : Addr} (n : p ≠ st ∧ p ≠ g ∧ p ≠ sm) : ¬ Dr st g p := fun z => z.elim n.1 n.2.1
/-- what was written behind H at a place that is free in H -/
theorem Ext.puts {S : Addr → Prop} {H H' : Hp} {p : Addr} {o : HO} (e : Ext S H H') (h : H p = none) : Ext S H (upd H' p o) := fun b u z n => by
  rw [upd_ne (ne_of_none z h)]
  exact e b u z n

structure TxtD (mg : Str → Option Value) : Prop where
  int : mg "int" = none
  abs : mg "abs" = none
  len : mg "len" = none

def spStart (K : PySem.W.Frag) : Sp := fun vs H Q _ => ∃ (a : Addr) (ns : List Int), vs = [.ref a] ∧ SqL K H a (ns.map V.int) ∧ ns.length ≤ 63 ∧
  ∀ (H' : Hp) (st g sm : Addr), Same H H' → H st = none → H g = none → H sm = none → DrawSt H' st g sm → Q (.ref st) H'
def spDraw : Sp := fun vs H Q _ => ∃ (st g sm : Addr) (m : Int), vs = [.ref st, .int m] ∧ DrawSt H st g sm ∧ 0 < m ∧ m < 2 ^ 60 ∧
  ∀ (r : Int) (H' : Hp), 0 ≤ r → r < m → Ext (Dr st g) H H' → DrawSt H' st g sm → Q (.int r) H'
def spOf (K : PySem.W.Frag) : Sp := fun vs H Q _ => ∃ (st g sm l : Addr) (xs : List V), vs = [.ref st, .ref l] ∧ DrawSt H st g sm ∧ (SqL K H l xs ∨ SqT K H l xs) ∧ ¬ Dr st g l ∧ 0 < xs.length ∧ xs.length < 2 ^ 60 ∧
  ∀ (i : Nat) (v : V) (H' : Hp), xs[i]? = some v → Ext (Dr st g) H H' → DrawSt H' st g sm → Q v H'

section
variable {P : Program} {w : World} {K : PySem.W.Frag} {mg : Str → Option Value} {base : Heap}
abbrev nStart : List Str := ["_law_script", "_law_cells", "_law_great", "_law_small", "_law_cell"]
theorem scStart : FnScope nStart ["_law_script"] (defScope sStart) := ⟨rfl, rfl, rfl, by decide +kernel, rfl, by decide +kernel, by decide +kernel⟩
theorem scDraw : FnScope ["_law_state", "_law_many", "_law_great", "_law_small", "_law_taken", "_law_own", "_law_mixed"] ["_law_state", "_law_many"] (defScope sDraw) := ⟨rfl, rfl, rfl, by decide +kernel, rfl, by decide +kernel, by decide +kernel⟩
theorem scOf : FnScope ["_law_state", "_law_some"] ["_law_state", "_law_some"] (defScope sOf) := ⟨rfl, rfl, rfl, by decide +kernel, rfl, by decide +kernel, by decide +kernel⟩

theorem boot_int : bootBuiltins "int" = some (.type "int") := by decide +kernel
theorem boot_abs : bootBuiltins "abs" = some (.builtin "abs") := by decide +kernel

theorem ok_draw {f : Addr} {fd : FuncData} {k : Nat} (F : Fun K "_law_draw" "_law_draw" sDraw f fd) (T : TxtD mg) : FnOk P w K mg base CX0 (k + 1) f fd ["_law_state", "_law_many"] spDraw := by
  refine F.ok scDraw (fun vs H Q E h => ?_) (fun cdv A outer s H vs Q E hr h => ?_)
  · obtain ⟨st, g, sm, m, rfl, _⟩ := h
    rfl
  · obtain ⟨st, g, sm, m, rfl, ⟨gs, ss, n, z, hst, hg, hsm, gpos, spos, slen, glen, n0, z0, z1, gsm⟩, m0, m1, q⟩ := h
    refine ⟨_, pss_cons (ps_par (i := 2) (j := 3) (by rfl) scDraw.nd rfl rfl (by decide) rfl rfl (pa_cons (pe_ix ix_list (pv 0) pe_int (fun _ _ => rfl)) (pa_cons (pe_ix ix_list (pv 0) pe_int (fun _ _ => rfl)) pa_nil)) (by rfl))
      (pss_cons (ps_augS (pv 0) pe_int pg_list pe_int ip_add set_list)
      (Evl.pss_cut (ps_if (PW.pt (pw_and (pt_truth (pv 2) (by intro _; rfl)) (pw_and1 (pt_cmpR op_eq (pe_ix ix_list (pv 2) pe_int (fun _ _ => rfl)) pe_int (nomark _)))))
          (pss_one (ps_expr (pe_bm PySem.F.plainAttrs_list PySem.F.slot_list_pop PySem.F.type_list_pop mt_popAt (pv 2) (pa_cons pe_int pa_nil)))) pss_nil)
      (pss_cons (ps_if (pt_truth (pv 2) (by intro _; rfl))
          (pss_cons (ps_set (i := 4) scDraw.nd rfl (.inl rfl) (pe_op op_mod (pe_callTy call_int1 (by rfl) T.int boot_int (pa_cons (pe_ix ix_list (pv 2) pe_int (fun _ _ => rfl)) pa_nil)) (pv 1)))
            (pss_cons (ps_asg (pe_op op_fdivW (pe_ix ix_list (pv 2) pe_int (fun _ _ => rfl)) (pv 1)) (pg_sub (pv 2) pe_int set_list))
            (pss_one (ps_ret (pv 4))))) pss_nil)
      (Evl.pss_cut (ps_set (i := 5) scDraw.nd rfl (.inl rfl) (pe_ifExp (pt_truth (pv 3) (by intro _; rfl)) (pe_ix ix_list (pv 3) (pe_op op_mod (pe_callTy call_int1 (by rfl) T.int boot_int (pa_cons (pe_ix ix_list (pv 0) pe_int (fun _ _ => rfl)) pa_nil)) (pe_callB call_len_seq (by rfl) T.len PySem.boot_len (pa_cons (pv 3) pa_nil))) (fun _ _ => rfl)) pe_int))
      (pss_cons (ps_asg (pe_op op_mod (pe_callTy call_int1 (by rfl) T.int boot_int (pa_cons
            (pe_op op_add (pe_op op_add (pe_op op_add (pe_op op_mul (pe_ix ix_list (pv 0) pe_int (fun _ _ => rfl)) pe_int) (pe_op op_mul (pv 5) pe_int)) (pe_op op_mul (pe_ix ix_list (pv 0) pe_int (fun _ _ => rfl)) pe_int)) pe_int) pa_nil)) pe_int) (pg_sub (pv 0) pe_int set_list))
      (pss_cons (ps_set (i := 6) scDraw.nd rfl (.inl rfl) (pe_op op_mod (pe_callTy call_int1 (by rfl) T.int boot_int (pa_cons
            (pe_op op_add (pe_op op_mul (pe_ix ix_list (pv 0) pe_int (fun _ _ => rfl)) (pe_ix ix_list (pv 0) pe_int (fun _ _ => rfl))) (pe_op op_mul pe_int (pe_ix ix_list (pv 0) pe_int (fun _ _ => rfl)))) pa_nil)) pe_int))
      (pss_one (ps_ret (pe_op op_mod (pe_callTy call_int1 (by rfl) T.int boot_int (pa_cons (pe_op op_fdiv (pv 6) pe_int) pa_nil)) (pv 1)))))))))), ?_⟩
    have nsg : st ≠ g := ne_of hst hg (by intro z; cases gs <;> cases z)
    have nss : st ≠ sm := ne_of hst hsm (by intro z; cases ss <;> cases z)
    -- great, small = (state[0], state[1])
    refine ⟨_, rfl, st, _, 0, _, rfl, rfl, SqL.of hst, atI_nat (j := 0) rfl, _, rfl, st, _, 1, _, rfl, rfl, SqL.of hst, atI_nat (j := 1) rfl, _, _, rfl, ?_⟩
    -- state[2] += 1
    refine ⟨_, rfl, st, _, 2, _, rfl, rfl, SqL.of hst, atI_nat (j := 2) rfl, n, 1, rfl, rfl, st, _, 2, 2, rfl, rfl, hst, rfl, ?_⟩
    -- if great and great[0] == 0: great.pop(0)
    refine ⟨fun σ' H' => σ' = [some (.ref st), some (.int m), some (.ref g), some (.ref sm), none, none, none] ∧ ∃ gs' : List Int, H' st = some (.lst [.ref g, .ref sm, .int (n + 1), .int z]) ∧ H' g = some (.lst (gs'.map V.int)) ∧
      Ext (Dr st g) H H' ∧ (∀ x ∈ gs', 0 ≤ x) ∧ gs'.length ≤ 63, ?_, ?_⟩
    · have e1 : (upd H st (.lst ([V.ref g, V.ref sm, V.int n, V.int z].set 2 (V.int (n + 1))))) g = some (.lst (gs.map V.int)) := by
        rw [upd_ne nsg.symm]
        exact hg
      refine ⟨_, rfl, !(gs.map V.int).isEmpty, .inl ⟨_, SqL.of e1, rfl⟩, ?_⟩
      cases gs with
      | nil => exact iteF (iteF ⟨rfl, [], upd_same, e1, Ext.put (.inl rfl), gpos, glen⟩)
      | cons x r =>
        refine iteT ⟨_, rfl, g, _, 0, _, rfl, rfl, SqL.of e1, atI_nat (j := 0) rfl, rfl, _, rfl, ?_⟩
        refine ite2 (fun _ => ?_) (fun _ => ?_)
        · refine ⟨_, rfl, .inl ⟨rfl, _, SqL.of e1⟩, g, _, 0, 0, _, rfl, rfl, e1, by decide, by decide, seqIndex_of (by decide) (by rw [List.length_map, List.length_cons]; omega), rfl, ?_⟩
          refine ⟨rfl, r, ?_, ?_, (Ext.put (.inl rfl)).trans (Ext.put (.inr rfl)), fun y hy => gpos y (List.mem_cons_of_mem _ hy), by rw [List.length_cons] at glen; omega⟩
          · rw [upd_ne nsg, upd_same]
            rfl
          · rw [upd_same]
            rfl
        · exact ⟨rfl, x :: r, upd_same, e1, Ext.put (.inl rfl), gpos, glen⟩
    · rintro σ' H1 ⟨rfl, gs', f1, f2, ex, gpos', glen'⟩
      -- if great: ..
      have f3 : H1 sm = some (.lst (ss.map V.int)) := ex _ _ hsm (by rintro (e | e); exact nss e.symm; exact gsm e.symm)
      refine ⟨_, rfl, !(gs'.map V.int).isEmpty, .inl ⟨_, SqL.of f2, rfl⟩, ?_⟩
      cases gs' with
      | cons x r =>
        have x0 : 0 ≤ x := gpos' x List.mem_cons_self
        refine iteT ⟨_, rfl, g, _, 0, _, rfl, rfl, SqL.of f2, atI_nat (j := 0) rfl, .inl ⟨x, rfl, ?_⟩⟩
        refine ⟨_, rfl, x, m, rfl, rfl, m0, ?_⟩
        refine ⟨_, rfl, g, _, 0, _, rfl, rfl, SqL.of f2, atI_nat (j := 0) rfl, _, rfl, x, m, rfl, rfl, wide_div (b := 60) m0 (by omega) (by decide) (by decide), ?_⟩
        refine ⟨_, rfl, g, _, 0, 0, rfl, rfl, f2, Evl.ixN_nat (j := 0) (by rw [List.length_map, List.length_cons]; omega), ?_⟩
        refine ⟨_, rfl, q _ _ (Int.emod_nonneg _ (by omega)) (Int.emod_lt_of_pos _ m0) (ex.trans (Ext.put (.inr rfl))) ⟨(x / m) :: r, ss, n + 1, z, ?_, ?_, ?_, ?_, spos, slen, glen', by omega, z0, z1, gsm⟩⟩
        · rw [upd_ne nsg]
          exact f1
        · rw [upd_same]
          rfl
        · rw [upd_ne (Ne.symm gsm)]
          exact f3
        · intro y hy
          rcases List.mem_cons.mp hy with e | hy
          · rw [e]
            exact Int.ediv_nonneg x0 (by omega)
          · exact gpos' y (List.mem_cons_of_mem _ hy)
      | nil =>
        refine iteF ?_
        -- own = small[..] if small else 3
        refine ⟨fun σ' H' => H' = H1 ∧ ∃ o : Int, 0 ≤ o ∧ o < 2 ^ 40 ∧ σ' = [some (.ref st), some (.int m), some (.ref g), some (.ref sm), none, some (.int o), none], ?_, ?_⟩
        · refine ⟨_, rfl, !(ss.map V.int).isEmpty, .inl ⟨_, SqL.of f3, rfl⟩, ?_⟩
          cases ss with
          | nil => exact iteF ⟨rfl, 3, by decide, by decide, rfl⟩
          | cons y r =>
            have hl : (0 : Int) < (((y :: r).map V.int).length : Nat) := by simp
            have h1 := Int.emod_nonneg (n + 1) (show ((((y :: r).map V.int).length : Nat) : Int) ≠ 0 by omega)
            have h2 := Int.emod_lt_of_pos (n + 1) hl
            obtain ⟨j, hj⟩ := Int.eq_ofNat_of_zero_le h1
            have hj2 : j < (y :: r).length := by
              rw [hj] at h2
              rw [List.length_map] at h2
              omega
            have hv : ((y :: r).map V.int)[j]? = some (.int (y :: r)[j]) := by
              rw [List.getElem?_map, List.getElem?_eq_getElem hj2]
              rfl
            have hm := spos _ (List.getElem_mem hj2)
            refine iteT ⟨_, rfl, _, rfl, st, _, 2, _, rfl, rfl, SqL.of f1, atI_nat (j := 2) rfl, .inl ⟨_, rfl, ?_⟩⟩
            refine ⟨_, rfl, sm, _, rfl, .inl (SqL.of f3), n + 1, _, rfl, rfl, hl, sm, _, _, _, rfl, rfl, SqL.of f3, at_of hj hv, rfl, _, hm.1, hm.2, rfl⟩
        · rintro σ' H' ⟨rfl, o, o0, o1, rfl⟩
          -- state[3] = ..
          refine ⟨_, rfl, st, _, 3, _, rfl, rfl, SqL.of f1, atI_nat (j := 3) rfl, z, 48271, rfl, rfl, .inr (by decide), ?_⟩
          refine ⟨_, rfl, o, 40692, rfl, rfl, .inr (by decide), _, _, rfl, rfl, ?_⟩
          refine ⟨_, rfl, st, _, 2, _, rfl, rfl, SqL.of f1, atI_nat (j := 2) rfl, n + 1, 69621, rfl, rfl, .inr (by decide), _, _, rfl, rfl, _, _, rfl, rfl, .inl ⟨_, rfl, ?_⟩⟩
          refine ⟨_, _, rfl, rfl, by show (0 : Int) < 2305843009213693951; decide, ?_⟩
          refine ⟨_, rfl, st, _, 3, 3, rfl, rfl, f1, rfl, ?_⟩
          dsimp only
          generalize hz' : (z * 48271 + o * 40692 + (n + 1) * 69621 + 11) % 2305843009213693951 = z'
          have z0' : 0 ≤ z' := by
            rw [← hz']
            exact Int.emod_nonneg _ (by decide)
          have z1' : z' < 2305843009213693951 := by
            rw [← hz']
            exact Int.emod_lt_of_pos _ (by decide)
          have e1 : (upd H' st (.lst ([V.ref g, V.ref sm, V.int (n + 1), V.int z].set 3 (V.int z')))) st = some (.lst [V.ref g, V.ref sm, V.int (n + 1), V.int z']) := upd_same
          -- mixed = ..
          refine ⟨_, rfl, st, _, 3, _, rfl, rfl, SqL.of e1, atI_nat (j := 3) rfl, _, rfl, st, _, 3, _, rfl, rfl, SqL.of e1, atI_nat (j := 3) rfl, z', z', rfl, rfl, .inl ⟨by omega, by omega⟩, ?_⟩
          refine ⟨_, rfl, st, _, 2, _, rfl, rfl, SqL.of e1, atI_nat (j := 2) rfl, 1000003, n + 1, rfl, rfl, .inl (by decide), _, _, rfl, rfl, .inl ⟨_, rfl, ?_⟩⟩
          refine ⟨_, _, rfl, rfl, by show (0 : Int) < 2305843009213693921; decide, ?_⟩
          refine ⟨_, rfl, _, _, rfl, rfl, ⟨by decide, by decide⟩, .inl ⟨_, rfl, ?_⟩⟩
          refine ⟨_, rfl, _, m, rfl, rfl, m0, ?_⟩
          refine q _ _ (Int.emod_nonneg _ (by omega)) (Int.emod_lt_of_pos _ m0) (ex.trans (Ext.put (.inl rfl))) ⟨[], ss, n + 1, z', e1, ?_, ?_, fun y hy => (nomatch hy), spos, slen, by decide, by omega, z0', by omega, gsm⟩
          · rw [upd_ne nsg.symm]
            exact f2
          · rw [upd_ne nss.symm]
            exact f3

theorem cut63 (xs : List V) (h : xs.length ≤ 63) : cutV xs none (some 63) = xs := by
  unfold cutV
  rw [HT.sIx_none, show ((63 : Int)) = ((63 : Nat) : Int) from rfl, HT.sIx_nat, List.drop_zero, Nat.sub_zero, Nat.min_eq_right h, List.take_length]
theorem wipe1 {σ : L2.St} {j : Nat} (x : V) : wipe ((wipe σ [j]).set j (some x)) [j] = wipe σ [j] := by
  show ((σ.set j none).set j (some x)).set j none = σ.set j none
  rw [List.set_set, List.set_set]
theorem absI (n : Int) : (if n < 0 then -n else n) = (n.natAbs : Int) := by
  by_cases h : n < 0
  · rw [if_pos h]
    omega
  · rw [if_neg h]
    omega
open Evl in
theorem ev_int {σ : L2.St} {H : Hp} {te : TE} {n : Int} (h : Ev te σ H (.int n)) : Ev (tCB (fun (xs : List V) (H : Hp) (Q : VK) => (∃ i, xs = [.int i] ∧ Q (.int i) H) ∨ ∃ k, xs = [.bl k] ∧ Q (.int (if k then 1 else 0)) H) (tCons te tNil)) σ H (.int n) :=
  ev_cb (ea_cons h ea_nil) fun H1 _ Q q => .inl ⟨n, rfl, q H1 (Ex.refl H1)⟩
open Evl in
theorem ev_abs {σ : L2.St} {H : Hp} {te : TE} {n : Int} (h : Ev te σ H (.int n)) : Ev (tCB (fun (xs : List V) (H : Hp) (Q : VK) => ∃ i, xs = [.int i] ∧ Q (.int (if i < 0 then -i else i)) H) (tCons te tNil)) σ H (.int (n.natAbs : Int)) :=
  ev_cb (ea_cons h ea_nil) fun H1 _ Q q => ⟨n, rfl, by rw [absI]; exact q H1 (Ex.refl H1)⟩
open Evl in
theorem ok_start {f : Addr} {fd : FuncData} {k : Nat} (F : Fun K "_law_start" "_law_start" sStart f fd) (T : TxtD mg) : FnOk P w K mg base CX0 (k + 1) f fd ["_law_script"] (spStart K) := by
  refine F.ok scStart (fun vs H Q E h => ?_) (fun cdv A outer s H vs Q E hr h => ?_)
  · obtain ⟨a, ns, rfl, _⟩ := h
    rfl
  · obtain ⟨a, ns, rfl, hS, hlen, q⟩ := h
    refine ⟨_, pss_cons (ps_setLc (i := 1) (own := [("_law_cell", 4)]) (g := gName 4) (tt := tYes) rfl scStart.nd rfl rfl (sw_true rfl rfl rfl (by decide +kernel)) (pi_list (pe_slice sl_list (pv 0) po_none (po_some pe_int)))
          (blkOk_by (N := nStart) (sc := defScope sStart) (by decide +kernel)) (fun _ _ _ _ _ => pg_name (i := 4) scStart.nd rfl (.inl rfl)) (fun _ _ _ _ _ => pts_nil) (fun _ _ _ _ _ => pe_callTy call_int1 (by rfl) T.int boot_int (pa_cons (pv 4) pa_nil)))
      (pss_cons (ps_setLc (i := 2) (own := [("_law_cell", 4)]) (g := gName 4) rfl scStart.nd rfl rfl (sw_true rfl rfl rfl (by decide +kernel)) (pi_list (pv 1))
          (blkOk_by (N := nStart) (sc := defScope sStart) (by decide +kernel)) (fun _ _ _ _ _ => pg_name (i := 4) scStart.nd rfl (.inl rfl)) (fun _ _ _ _ _ => pts_one (pt_cmpR op_ge (pe_callB call_abs (by rfl) T.abs boot_abs (pa_cons (pv 4) pa_nil)) (pe_op op_pow pe_int pe_int) (nomark _)))
          (fun _ _ _ _ _ => pe_callB call_abs (by rfl) T.abs boot_abs (pa_cons (pv 4) pa_nil)))
      (pss_cons (ps_setLc (i := 3) (own := [("_law_cell", 4)]) (g := gName 4) rfl scStart.nd rfl rfl (sw_true rfl rfl rfl (by decide +kernel)) (pi_list (pv 1))
          (blkOk_by (N := nStart) (sc := defScope sStart) (by decide +kernel)) (fun _ _ _ _ _ => pg_name (i := 4) scStart.nd rfl (.inl rfl)) (fun _ _ _ _ _ => pts_one (pt_cmpR op_lt (pe_callB call_abs (by rfl) T.abs boot_abs (pa_cons (pv 4) pa_nil)) (pe_op op_pow pe_int pe_int) (nomark _)))
          (fun _ _ _ _ _ => pe_op op_add (pe_op op_mod (pe_callTy call_int1 (by rfl) T.int boot_int (pa_cons (pv 4) pa_nil)) pe_int) pe_int))
      (pss_one (ps_ret (pe_lst (pa_cons (pv 2) (pa_cons (pv 3) (pa_cons pe_int (pa_cons (pe_op op_add pe_int (pe_callB call_len_seq (by rfl) T.len PySem.boot_len (pa_cons (pv 1) pa_nil))) pa_nil))))))))), ?_⟩
    have hpow : ∀ (H1 : Hp) (σ : L2.St), Ev (tOp (rI CPow fun i j => V.int (i ^ j.toNat)) (tC (.int 10)) (tC (.int 18))) σ H1 (.int (10 ^ 18)) := fun H1 σ => ev_op ev_c ev_c (rv_I ⟨by decide, by decide, by decide⟩)
    -- cells
    refine q_asgL (el_mapN ns V.int (fun _ => true) V.int (by
      have z := el_sl (K := K) (te := tVar 0) (tl := tNoPart) (th := tPart (tC (.int 63))) (σ := start ["_law_script", "_law_cells", "_law_great", "_law_small", "_law_cell"] [V.ref a]) (H := H) (ev_var rfl) eo_none (eo_some ev_c) hS
      rw [cut63 _ (by rw [List.length_map]; exact hlen)] at z
      exact z) (by omega) wipe1 (fun x H1 _ _ => et_yes) (fun x H1 _ _ _ => ev_int (ev_var rfl))) fun c H1 nc e1 hc => ?_
    rw [List.filter_eq_self.mpr (fun _ _ => rfl)] at hc
    -- great
    refine q_asgL (el_map ns V.int (fun x => decide (10 ^ 18 ≤ (x.natAbs : Int))) (fun x => V.int (x.natAbs : Int)) (ev_var rfl) (SqL.of hc) (by omega) wipe1 (fun x H1 _ _ => et_test (ev_op (ev_abs (ev_var rfl)) (hpow _ _) rv_I0)) (fun x H1 _ _ _ => ev_abs (ev_var rfl))) fun g H2 ng e2 hg => ?_
    -- small
    refine q_asgL (el_map ns V.int (fun x => decide ((x.natAbs : Int) < 10 ^ 18)) (fun x => V.int (x % 2147483629 + 1)) (ev_var rfl) (SqL.of (e2 _ _ hc)) (by omega) wipe1 (fun x H1 _ _ => et_test (ev_op (ev_abs (ev_var rfl)) (hpow _ _) rv_I0)) (fun x H1 _ _ _ => ev_op (ev_op (ev_int (ev_var rfl)) ev_c (rv_I (by decide))) ev_c rv_I0)) fun sm H3 nsm e3 hsm => ?_
    -- return
    refine s_retL (el_lst (ea_cons (ev_var rfl) (ea_cons (ev_var rfl) (ea_cons ev_c (ea_cons (ev_op ev_c (ev_len (ev_var rfl) (SqL.of (e3 _ _ (e2 _ _ hc)))) rv_I0) ea_nil)))) (by show 4 ≤ 100000; decide)) fun st H4 nst e4 hst => ?_
    have f1 : H g = none := fresh_back e1 ng
    have f2 : H sm = none := fresh_back (e1.trans e2) nsm
    have f3 : H st = none := fresh_back ((e1.trans e2).trans e3) nst
    refine q H4 st g sm (((e1.trans e2).trans e3).trans e4) f3 f1 f2 ⟨(ns.filter fun x => decide (10 ^ 18 ≤ (x.natAbs : Int))).map fun x => (x.natAbs : Int), (ns.filter fun x => decide ((x.natAbs : Int) < 10 ^ 18)).map fun x => x % 2147483629 + 1, 0, 7 + (ns.length : Int), ?_, ?_, ?_, ?_, ?_, ?_, ?_, by decide, by omega, by omega, ?_⟩
    · rw [List.length_map] at hst
      exact hst
    · rw [List.map_map]
      exact e4 _ _ (e3 _ _ hg)
    · rw [List.map_map]
      exact e4 _ _ hsm
    · intro x hx
      obtain ⟨y, _, rfl⟩ := List.mem_map.mp hx
      omega
    · intro x hx
      obtain ⟨y, _, rfl⟩ := List.mem_map.mp hx
      have h1 := Int.emod_nonneg y (show (2147483629 : Int) ≠ 0 by decide)
      have h2 := Int.emod_lt_of_pos y (show (0 : Int) < 2147483629 by decide)
      omega
    · rw [List.length_map]
      exact Nat.le_trans (List.length_filter_le _ _) hlen
    · rw [List.length_map]
      exact Nat.le_trans (List.length_filter_le _ _) hlen
    · exact ne_of_none hg nsm

theorem ok_of {f fD : Addr} {fd fdD : FuncData} {k : Nat} (F : Fun K "_law_of" "_law_of" sOf f fd) (T : TxtD mg) (FD : Fun K "_law_draw" "_law_draw" sDraw fD fdD) (bD : Binds K fdD ["_law_state", "_law_many"] []) (gD : mg "_law_draw" = some (.ref fD)) :
    FnOk P w K mg base CX0 (k + 2) f fd ["_law_state", "_law_some"] (spOf K) := by
  have GD : FnOk P w K mg base CX0 (k + 1) fD fdD ["_law_state", "_law_many"] spDraw := ok_draw FD T
  refine F.ok scOf (fun vs H Q E h => ?_) (fun cdv A outer s H vs Q E hr h => ?_)
  · obtain ⟨st, g, sm, l, xs, rfl, _⟩ := h
    rfl
  · obtain ⟨st, g, sm, l, xs, rfl, hd, hl, nl, l0, l1, q⟩ := h
    refine ⟨_, pss_one (ps_ret (pe_ix ix_seq (pv 1) (pe_call GD hr rfl gD FD.kp bD .nil pass0 (pa_cons (pv 0) (pa_cons (pe_callB call_len_seq (by rfl) T.len PySem.boot_len (pa_cons (pv 1) pa_nil)) pa_nil))) (fun _ _ => rfl))), ?_⟩
    refine ⟨_, rfl, _, rfl, _, rfl, l, xs, rfl, hl, st, g, sm, _, rfl, hd, by omega, by omega, fun r H1 r0 r1 e1 d1 => ?_⟩
    obtain ⟨j, hj⟩ := Int.eq_ofNat_of_zero_le r0
    have hj2 : j < xs.length := by omega
    rcases hl with hl | hl
    · exact .inl ⟨l, xs, r, xs[j], rfl, rfl, e1.seq nl hl, at_of hj (List.getElem?_eq_getElem hj2), q j _ H1 (List.getElem?_eq_getElem hj2) e1 d1⟩
    · exact .inr (.inl ⟨l, xs, r, xs[j], rfl, rfl, e1.seqT nl hl, at_of hj (List.getElem?_eq_getElem hj2), q j _ H1 (List.getElem?_eq_getElem hj2) e1 d1⟩)
end
end Hc

set_option maxHeartbeats 4000000
namespace Hc
open PySem PySem.Spec PyProof.Rows L2 TL
abbrev sValue : Stmt := top 26
abbrev sStand : Stmt := top 27
abbrev sFirst : Stmt := top 28
abbrev sSecond : Stmt := top 29
abbrev sLaw : Stmt := top 30

/-- a text of plain signs, not long -/
def Plain (x : Str) : Prop := x.cps.size ≤ 40 ∧ ∀ c ∈ x.cps.toList, c < 128
/-- one of the values that are drawn, and what it is worth; none of its objects lies in S -/
inductive LV (S : Addr → Prop) (H : Hp) : V → PyData → Prop
  | int (i : Int) : LV S H (.int i) (.int i)
  | str (x : Str) (h : Plain x) : LV S H (.str x) (.str x)
  | non : LV S H .non .none
  | bl (b : Bool) : LV S H (.bl b) (.bool b)
  | nil (p : Addr) (h : H p = some (.tup [])) (n : ¬ S p) : LV S H (.ref p) (.tuple [])
  | pair (p : Addr) (i : Int) (x : Str) (hx : Plain x) (h : H p = some (.tup [.int i, .str x])) (n : ¬ S p) : LV S H (.ref p) (.tuple [.int i, .str x])
  | lst (p : Addr) (x : Str) (hx : Plain x) (h : H p = some (.lst [.str x, .non])) (n : ¬ S p) : LV S H (.ref p) (.list [.str x, .none])
theorem LV.ext {S T : Addr → Prop} {H H' : Hp} {v : V} {d : PyData} (h : LV S H v d) (e : Ext T H H') (m : ∀ b, T b → S b) : LV S H' v d := by
  cases h with
  | int i => exact .int i
  | str x h => exact .str x h
  | non => exact .non
  | bl b => exact .bl b
  | nil p h n => exact .nil p (e _ _ h fun z => n (m _ z)) n
  | pair p i x hx h n => exact .pair p i x hx (e _ _ h fun z => n (m _ z)) n
  | lst p x hx h n => exact .lst p x hx (e _ _ h fun z => n (m _ z)) n
theorem LV.dp {S : Addr → Prop} {K : PySem.W.Frag} {H : Hp} {v : V} {d : PyData} (h : LV S H v d) : Dp K H v d := by
  cases h with
  | int i => exact .int i
  | str x h => exact .str x
  | non => exact .non
  | bl b => exact .bl b
  | nil p h n => exact .tup (SqT.of h) .nil
  | pair p i x hx h n => exact .tup (SqT.of h) (.cons (.int i) (.cons (.str x) .nil))
  | lst p x hx h n => exact .lst (SqL.of h) (.cons (.str x) (.cons .non .nil))
theorem Plain.ok {x : Str} (h : Plain x) : PyData.strOk x = true := by
  unfold PyData.strOk
  rw [← Array.all_toList, List.all_eq_true]
  intro c hc
  have := h.2 c hc
  exact decide_eq_true (by omega)
theorem LV.fit {S : Addr → Prop} {H : Hp} {v : V} {d : PyData} (h : LV S H v d) : d.canLay0 = true ∧ d.depth ≤ 2 := by
  cases h with
  | int i => exact ⟨rfl, by simp [PyData.depth]⟩
  | str x h => exact ⟨by simp [PyData.canLay0, h.ok], by simp [PyData.depth]⟩
  | non => exact ⟨rfl, by simp [PyData.depth]⟩
  | bl b => exact ⟨rfl, by simp [PyData.depth]⟩
  | nil p h n => exact ⟨rfl, by simp [PyData.depth, PyData.depthAll]⟩
  | pair p i x hx h n => exact ⟨by simp [PyData.canLay0, PyData.canLayAll0, hx.ok], by simp [PyData.depth, PyData.depthAll]⟩
  | lst p x hx h n => exact ⟨by simp [PyData.canLay0, PyData.canLayAll0, hx.ok], by simp [PyData.depth, PyData.depthAll]⟩
theorem plain_lit {x : Str} (h : (decide (x.cps.size ≤ 40) && x.cps.all (fun c => decide (c < 128))) = true) : Plain x := by
  rw [Bool.and_eq_true, ← Array.all_toList, List.all_eq_true] at h
  exact ⟨of_decide_eq_true h.1, fun c hc => of_decide_eq_true (h.2 c hc)⟩
theorem plain_app {x y : Str} (hx : Plain x) (hy : Plain y) (h : x.cps.size + y.cps.size ≤ 40) : Plain (x ++ y) := by
  have e : (x ++ y).cps.toList = x.cps.toList ++ y.cps.toList := tl_append x y
  refine ⟨?_, fun c hc => ?_⟩
  · rw [← Array.length_toList, e, List.length_append, Array.length_toList, Array.length_toList]
    exact h
  · rw [e] at hc
    rcases List.mem_append.mp hc with z | z
    · exact hx.2 c z
    · exact hy.2 c z
/-- signs joined by nothing -/
theorem join_signs : ∀ ys : List Str, (∀ y ∈ ys, y.cps.size = 1 ∧ ∀ c ∈ y.cps.toList, c < 128) → ∀ e : Str, e.cps.toList = [] → (Txt.join e ys).cps.toList.length = ys.length ∧ ∀ c ∈ (Txt.join e ys).cps.toList, c < 128 := by
  intro ys h e he
  have e1 : (Txt.join e ys).cps.toList = joinL [] (ys.map tl) := by
    rw [join_eq]
    have q := tl_join e ys
    rw [show tl e = [] from he] at q
    exact q
  rw [e1]
  clear e1
  induction ys with
  | nil => exact ⟨rfl, fun c hc => nomatch hc⟩
  | cons y r ih =>
    obtain ⟨i1, i2⟩ := ih fun z hz => h z (List.mem_cons_of_mem _ hz)
    obtain ⟨h1, h2⟩ := h y List.mem_cons_self
    have l1 : (tl y).length = 1 := by
      show y.cps.toList.length = 1
      rw [Array.length_toList]
      exact h1
    cases r with
    | nil => exact ⟨l1, h2⟩
    | cons z r =>
      show (tl y ++ ([] ++ joinL [] ((z :: r).map tl))).length = _ ∧ ∀ c ∈ tl y ++ ([] ++ joinL [] ((z :: r).map tl)), c < 128
      rw [List.nil_append]
      refine ⟨?_, fun c hc => ?_⟩
      · rw [List.length_append, i1, l1]
        simp only [List.length_cons]
        omega
      · rcases List.mem_append.mp hc with q | q
        · exact h2 c q
        · exact i2 c q

/-- what stood before: the state, whatever was tracked -/
def Old (H : Hp) (st g : Addr) : Addr → Prop := fun b => Dr st g b ∨ H b ≠ none
theorem LV.mono {S T : Addr → Prop} {H : Hp} {v : V} {d : PyData} (h : LV S H v d) (m : ∀ b, T b → S b) : LV T H v d := by
  cases h with
  | int i => exact .int i
  | str x h => exact .str x h
  | non => exact .non
  | bl b => exact .bl b
  | nil p h n => exact .nil p h fun z => n (m _ z)
  | pair p i x hx h n => exact .pair p i x hx h fun z => n (m _ z)
  | lst p x hx h n => exact .lst p x hx h fun z => n (m _ z)
def spValue : Sp := fun vs H Q _ => ∃ (st g sm : Addr), vs = [.ref st] ∧ DrawSt H st g sm ∧ ∀ (v : V) (d : PyData) (H' : Hp), Ext (Dr st g) H H' → DrawSt H' st g sm → LV (Old H st g) H' v d → Q v H'
structure TxtV (mg : Str → Option Value) : Prop extends TxtD mg where
  list : mg "list" = none
  range : mg "range" = none
theorem boot_list : bootBuiltins "list" = some (.type "list") := by decide +kernel

section
variable {P : Program} {w : World} {K : PySem.W.Frag} {mg : Str → Option Value} {base : Heap}
abbrev nValue : List Str := ["_law_state", "_law_number", "_law_text", "_law_some", "_law_turn"]
theorem scValue : FnScope nValue ["_law_state"] (defScope sValue) := ⟨rfl, rfl, rfl, by decide +kernel, rfl, by decide +kernel, by decide +kernel⟩
theorem signs_abz : ∀ (i : Nat) (v : V), (signs (Str.ofString "abz09 [].,"))[i]? = some v → ∃ y : Str, v = .str y ∧ y.cps.size = 1 ∧ ∀ c ∈ y.cps.toList, c < 128 := by
  intro i v h
  unfold signs at h
  rw [List.getElem?_map] at h
  cases e : (Str.ofString "abz09 [].,").cps.toList[i]? with
  | none =>
    rw [e] at h
    cases h
  | some c =>
    rw [e] at h
    have hc : c < 128 := by
      have hm := List.mem_of_getElem? e
      have all : (Str.ofString "abz09 [].,").cps.toList.all (fun c => decide (c < 128)) = true := by decide +kernel
      exact of_decide_eq_true (List.all_eq_true.mp all c hm)
    refine ⟨⟨#[c]⟩, (Option.some.inj h).symm, rfl, fun c' hc' => ?_⟩
    have e2 : c' = c := by simpa using hc'
    rw [e2]
    exact hc
theorem ok_value {f fD fO : Addr} {fd fdD fdO : FuncData} (F : Fun K "_law_value" "_law_value" sValue f fd) (T : TxtV mg) (FD : Fun K "_law_draw" "_law_draw" sDraw fD fdD) (bD : Binds K fdD ["_law_state", "_law_many"] []) (gD : mg "_law_draw" = some (.ref fD))
    (FO : Fun K "_law_of" "_law_of" sOf fO fdO) (bO : Binds K fdO ["_law_state", "_law_some"] []) (gO : mg "_law_of" = some (.ref fO)) : FnOk P w K mg base CX0 3 f fd ["_law_state"] spValue := by
  have GD : FnOk P w K mg base CX0 1 fD fdD ["_law_state", "_law_many"] spDraw := ok_draw FD T.toTxtD
  have GO : FnOk P w K mg base CX0 2 fO fdO ["_law_state", "_law_some"] (spOf K) := ok_of FO T.toTxtD FD bD gD
  refine F.ok scValue (fun vs H Q E h => ?_) (fun cdv A outer s H vs Q E hr h => ?_)
  · obtain ⟨st, g, sm, rfl, _⟩ := h
    rfl
  · obtain ⟨st, g, sm, rfl, d0, q⟩ := h
    have hr1 : Room 1 _ := hr.mono (by decide)
    refine ⟨_, pss_cons (ps_set (i := 1) scValue.nd rfl (.inl rfl) (pe_op op_sub (pe_call GD hr1 rfl gD FD.kp bD .nil pass0 (pa_cons (pv 0) (pa_cons (pe_op op_pow pe_int pe_int) pa_nil))) (pe_call GD hr1 rfl gD FD.kp bD .nil pass0 (pa_cons (pv 0) (pa_cons pe_int pa_nil)))))
      (pss_cons (ps_set (i := 2) scValue.nd rfl (.inl rfl) (pe_join pe_str (pe_lc (own := [("_law_turn", 4)]) (g := gName 4) (tt := tYes) rfl scValue.nd (pi_range1 rfl T.range (pa_cons (pe_call GD hr1 rfl gD FD.kp bD .nil pass0 (pa_cons (pv 0) (pa_cons pe_int pa_nil))) pa_nil))
          (blkOk_by (N := nValue) (sc := defScope sValue) (by decide +kernel)) (fun _ _ _ _ _ => pg_name (i := 4) scValue.nd rfl (.inl rfl)) (fun _ _ _ _ _ => pts_nil)
          (fun _ _ _ _ _ => pe_call GO hr rfl gO FO.kp bO .nil pass0 (pa_cons (pv 0) (pa_cons (pe_callTy (call_listS rfl) (by rfl) T.list boot_list (pa_cons pe_str pa_nil)) pa_nil))))))
      (pss_cons (ps_set (i := 3) scValue.nd rfl (.inl rfl) (pe_lst (pa_cons (pv 1) (pa_cons (pv 2) (pa_cons (pe_tup (pa_cons (pv 1) (pa_cons (pv 2) pa_nil))) (pa_cons (pe_lst (pa_cons (pv 2) (pa_cons pe_non pa_nil))) (pa_cons pe_non (pa_cons pe_bl (pa_cons pe_bl
          (pa_cons (pe_tup pa_nil) (pa_cons (pe_un un_neg pe_int) (pa_cons (pe_op op_add_str pe_str (pv 2)) pa_nil))))))))))))
      (pss_one (ps_ret (pe_call GO hr rfl gO FO.kp bO .nil pass0 (pa_cons (pv 0) (pa_cons (pv 3) pa_nil))))))), ?_⟩
    -- number
    refine ⟨_, rfl, _, _, rfl, rfl, ⟨by decide, by decide, by decide⟩, st, g, sm, _, rfl, d0, by decide, by decide, fun r1 H1 _ _ e1 d1 => ?_⟩
    refine ⟨_, rfl, st, g, sm, 1000, rfl, d1, by decide, by decide, fun r2 H2 _ _ e2 d2 => ?_⟩
    refine ⟨r1, r2, rfl, rfl, ?_⟩
    -- text
    refine ⟨⟨_, rfl⟩, _, rfl, st, g, sm, 9, rfl, d2, by decide, by decide, fun r3 H3 p3 l3 e3 d3 => ?_⟩
    refine ⟨r3, rfl, by omega, by omega, fun D nD => ?_⟩
    refine lc_range (lo := 0) (n := r3.toNat) (fun i H' => Ext (Dr st g) H3 H' ∧ DrawSt H' st g sm ∧ ∃ ys : List Str, H' D = some (.lst (ys.map V.str)) ∧ ys.length = i ∧ ∀ y ∈ ys, y.cps.size = 1 ∧ ∀ c ∈ y.cps.toList, c < 128) ?_ ?_ ?_
    · exact ⟨Ext.new nD, d3.same (same_new nD), [], upd_same, rfl, fun y hy => nomatch hy⟩
    · rintro i H4 hi ⟨e4, d4, ys, hD, hl, hy⟩
      have oD := d3.off nD
      refine ⟨rfl, _, rfl, _, rfl, by decide +kernel, fun l nl => ?_⟩
      have ol := d4.off nl
      refine ⟨st, g, sm, l, _, rfl, d4.same (same_new nl), .inl (SqL.of upd_same), dr_off ol, by decide +kernel, by decide +kernel, fun j v H5 hv e5 d5 => ?_⟩
      obtain ⟨y, rfl, y1, y2⟩ := signs_abz j v hv
      refine ⟨ys.map V.str, ?_, ?_, ((e4.trans (Ext.new nl)).trans e5).puts nD, d5.put oD, ys ++ [y], ?_, ?_, ?_⟩
      · refine e5 _ _ ?_ (dr_off oD)
        rw [upd_ne (ne_of_none hD nl)]
        exact hD
      · rw [List.length_map]
        exact small1000 (by omega)
      · rw [upd_same, List.map_append]
        rfl
      · rw [List.length_append, hl]
        rfl
      · intro z hz
        rcases List.mem_append.mp hz with h1 | h1
        · exact hy z h1
        · rw [List.mem_singleton.mp h1]
          exact ⟨y1, y2⟩
    · rintro H4 ⟨e4, d4, ys, hD, hl, hy⟩
      have hl9 : ys.length ≤ 8 := by omega
      have sum1 : ∀ zs : List Str, (∀ y ∈ zs, y.cps.size = 1 ∧ ∀ c ∈ y.cps.toList, c < 128) → (zs.map (·.length)).sum = zs.length := by
        intro zs
        induction zs with
        | nil => intro _; rfl
        | cons y r ih =>
          intro h
          have h1 : y.length = 1 := (h y List.mem_cons_self).1
          rw [List.map_cons, List.sum_cons, ih fun z hz => h z (List.mem_cons_of_mem _ hz), h1, List.length_cons]
          omega
      refine ⟨Str.ofString "", D, ys, rfl, rfl, .inl (SqL.of hD), by rw [sum1 ys hy, show (Str.ofString "").length = 0 from rfl]; omega, ?_⟩
      obtain ⟨j1, j2⟩ := join_signs ys hy (Str.ofString "") rfl
      generalize Txt.join (Str.ofString "") ys = txt at j1 j2 ⊢
      rw [Array.length_toList] at j1
      have pt : Plain txt := ⟨by omega, j2⟩
      -- some
      refine ⟨_, rfl, _, rfl, _, rfl, _, rfl, by show 2 ≤ sizeLine; decide, fun p1 n1 => ?_⟩
      refine ⟨_, rfl, by show 2 ≤ sizeLine; decide, fun p2 n2 => ?_⟩
      refine ⟨Nat.zero_le _, fun p3 n3 => ?_⟩
      refine ⟨1, rfl, _, rfl, _, _, rfl, rfl, ?_, by show 10 ≤ sizeLine; decide, fun p4 n4 => ?_⟩
      · rw [show (Str.ofString "seen ").length = 5 from by decide +kernel, show txt.length = txt.cps.size from rfl, sizeLine_eq]
        omega
      have o1 := d4.off n1
      have d5 := d4.same (same_new (o := HO.tup [V.int (r1 - r2), V.str txt]) n1)
      have o2 := d5.off n2
      have d6 := d5.same (same_new (o := HO.lst [V.str txt, V.non]) n2)
      have o3 := d6.off n3
      have d7 := d6.same (same_new (o := HO.tup []) n3)
      have o4 := d7.off n4
      have seen : Plain (Str.ofString "seen " ++ txt) := plain_app (plain_lit (by decide +kernel)) pt (by rw [show (Str.ofString "seen ").cps.size = 5 from by decide +kernel]; omega)
      have m12 : p1 ≠ p2 := fun z => by rw [← z, upd_same] at n2; cases n2
      have m13 : p1 ≠ p3 := fun z => by rw [← z, upd_ne m12, upd_same] at n3; cases n3
      have m23 : p2 ≠ p3 := fun z => by rw [← z, upd_same] at n3; cases n3
      have m14 : p1 ≠ p4 := fun z => by rw [← z, upd_ne m13, upd_ne m12, upd_same] at n4; cases n4
      have m24 : p2 ≠ p4 := fun z => by rw [← z, upd_ne m23, upd_same] at n4; cases n4
      have m34 : p3 ≠ p4 := fun z => by rw [← z, upd_same] at n4; cases n4
      refine ⟨_, rfl, _, rfl, st, g, sm, p4, _, rfl, d7.same (same_new n4), .inl (SqL.of upd_same), dr_off o4, by show 0 < 10; decide, by show 10 < 2 ^ 60; decide, fun j v H5 hv e5 d8 => ?_⟩
      have eA : Ext (Dr st g) H H5 := ((((((e1.trans e2).trans e3).trans e4).trans (Ext.new n1)).trans (Ext.new n2)).trans (Ext.new n3)).trans ((Ext.new n4).trans e5)
      have h1 : H5 p1 = some (.tup [V.int (r1 - r2), V.str txt]) := e5 _ _ (by rw [upd_ne m14, upd_ne m13, upd_ne m12, upd_same]) (dr_off o1)
      have h2 : H5 p2 = some (.lst [V.str txt, V.non]) := e5 _ _ (by rw [upd_ne m24, upd_ne m23, upd_same]) (dr_off o2)
      have h3 : H5 p3 = some (.tup []) := e5 _ _ (by rw [upd_ne m34, upd_same]) (dr_off o3)
      have e04 : Ext (Dr st g) H H4 := ((e1.trans e2).trans e3).trans e4
      have w1 : ¬ Old H st g p1 := fun z => z.elim (dr_off o1) fun y => y (e04.free n1 (dr_off o1))
      have w2 : ¬ Old H st g p2 := fun z => z.elim (dr_off o2) fun y => y ((e04.trans (Ext.new n1)).free n2 (dr_off o2))
      have w3 : ¬ Old H st g p3 := fun z => z.elim (dr_off o3) fun y => y (((e04.trans (Ext.new n1)).trans (Ext.new n2)).free n3 (dr_off o3))
      obtain ⟨dd, hdd⟩ : ∃ dd, LV (Old H st g) H5 v dd := by
        have hm := List.mem_of_getElem? hv
        simp only [List.mem_cons, List.not_mem_nil, or_false] at hm
        rcases hm with rfl | rfl | rfl | rfl | rfl | rfl | rfl | rfl | rfl | rfl
        · exact ⟨_, .int _⟩
        · exact ⟨_, .str _ pt⟩
        · exact ⟨_, .pair p1 _ _ pt h1 w1⟩
        · exact ⟨_, .lst p2 _ pt h2 w2⟩
        · exact ⟨_, .non⟩
        · exact ⟨_, .bl _⟩
        · exact ⟨_, .bl _⟩
        · exact ⟨_, .nil p3 h3 w3⟩
        · exact ⟨_, .int _⟩
        · exact ⟨_, .str _ seen⟩
      exact q v dd H5 eA d8 hdd
end
end Hc

set_option maxHeartbeats 8000000
namespace Hc
open PySem PySem.Spec PyProof.Rows L2 Evl

def errs12 : List ErrD := [⟨"BadShape", ["text"], false⟩, ⟨"BadLine", ["at"], false⟩, ⟨"NoClass", ["name"], false⟩, ⟨"BadField", ["name"], false⟩, ⟨"TooMany", ["what"], false⟩, ⟨"BadRow", ["owner", "method", "at"], false⟩, ⟨"BadMethod", ["owner", "method"], false⟩,
  ⟨"BadDeed", ["deed"], false⟩, ⟨"BadPlace", ["place"], false⟩, ⟨"BadWorld", ["form"], false⟩, ⟨"BadLabel", ["label"], false⟩, ⟨"BadGoal", ["goal"], false⟩, ⟨"BadWhen", ["when"], false⟩, ⟨"BadMend", ["at"], false⟩, ⟨"NoDoor", ["door"], false⟩, ⟨"BadName", ["name"], false⟩,
  ⟨"UnlikeFaces", ["method"], false⟩, ⟨"Busy", [], true⟩, ⟨"NotAsked", [], true⟩, ⟨"Shut", ["method"], true⟩]
abbrev cl (K : PySem.W.Frag) (i : Nat) : Addr := ec K errs12 i
structure Txt12 (K : PySem.W.Frag) (mg : Str → Option Value) : Prop where
  ok : errsOk K errs12 = true
  kit : kitOk K errs12 = true
  gl : ∀ (i : Nat) (d : ErrD), errs12[i]? = some d → mg d.name = some (.ref (cl K i))
  isi : mg "isinstance" = none
/-- a class by its name -/
theorem pe_cls {X : Cx} {x : Str} {C : Addr} {pos : Pos} (hg : Gl X x) (hm : X.mg x = some (.ref C)) (hd : (x == ("__debug__" : Str)) = false := by decide) : PE X (.Name x pos) (tC (.ref C)) := pe_glob (v := .ref C) hg hm rfl hd
theorem boot_isi : bootBuiltins "isinstance" = some (.builtin "isinstance") := by decide +kernel
section
variable {K : PySem.W.Frag} {mg : Str → Option Value}
theorem Txt12.xc (T : Txt12 K mg) {i : Nat} {d : ErrD} (h : errs12[i]? = some d) : Xc K (cl K i) d.bm d.newId := by
  show Xc K (ec K errs12 i) d.bm d.newId
  rw [ec_at h]
  exact (err_at T.ok (List.mem_of_getElem? h)).2.1
theorem Txt12.exc (T : Txt12 K mg) {i : Nat} (h : i < 20) : ExcC K (cl K i) := (T.xc (i := i) (d := errs12[i]'h) (List.getElem?_eq_getElem h)).ex
theorem Txt12.maker (T : Txt12 K mg) {i : Nat} {d : ErrD} (h : errs12[i]? = some d) (hf : d.fields.isEmpty = false) : PySem.W.findIn K (.ref (cl K i)) "__init__" = some (some (.ref (He.ma K (cl K i) "__init__"))) ∧ PySem.W.isFn K (.ref (He.ma K (cl K i) "__init__")) = true ∧ ∀ f ∈ d.fields, PySem.W.findIn K (.ref (cl K i)) f = some none := by
  have e : cl K i = He.ga K d.name := ec_at h
  rw [e]
  exact mk_at (err_at T.ok (List.mem_of_getElem? h)).2.2 hf
theorem Txt12.no (T : Txt12 K mg) {i : Nat} {d : ErrD} (h : errs12[i]? = some d) (hf : d.fields.isEmpty = true) : PySem.W.excIn K (cl K i) d.bm d.newId = true := by
  have e : cl K i = He.ga K d.name := ec_at h
  rw [e]
  exact mk_no (err_at T.ok (List.mem_of_getElem? h)).2.2 hf
end

/-! ### the twenty tests -/
section
variable {P : Program} {w : World} {K : PySem.W.Frag} {mg : Str → Option Value} {base : Heap}
def who (i lo : Nat) : List V := (List.range 10).map fun j => V.bl (decide (i = lo + j))
def spWho (K : PySem.W.Frag) (lo : Nat) : Sp := fun vs H Q _ => ∃ (a : Addr) (i : Nat), vs = [.ref a] ∧ i < 20 ∧ ErrIs H a (cl K i) ∧ ∀ (p : Addr) (H' : Hp), H p = none → Ex H H' → H' p = some (.lst (who i lo)) → Q (.ref p) H'
theorem ev_is (T : Txt12 K mg) {σ : L2.St} {H : Hp} {te : TE} {a : Addr} {i j : Nat} (hi : i < 20) (hj : j < 20) (x : ErrIs H a (cl K i)) (h : Ev te σ H (.ref a)) : Ev (tCB (rXis K) (tCons te (tCons (tC (.ref (cl K j))) tNil))) σ H (.bl (decide (i = j))) :=
  ev_cb (ea_cons h (ea_cons ev_c ea_nil)) fun H1 e Q q => ⟨a, cl K i, _, _, _, rfl, .own _, T.exc hi, x.ex e, kit_at T.kit hi hj, q H1 (Ex.refl H1)⟩
theorem scFirst : FnScope ["_law_e"] ["_law_e"] (defScope sFirst) := ⟨rfl, rfl, rfl, by decide +kernel, rfl, by decide +kernel, by decide +kernel⟩
theorem scSecond : FnScope ["_law_e"] ["_law_e"] (defScope sSecond) := ⟨rfl, rfl, rfl, by decide +kernel, rfl, by decide +kernel, by decide +kernel⟩
theorem ok_first {f : Addr} {fd : FuncData} (F : Fun K "_law_first" "_law_first" sFirst f fd) (T : Txt12 K mg) : FnOk P w K mg base CX0 1 f fd ["_law_e"] (spWho K 0) := by
  refine F.ok scFirst (fun vs H Q E h => ?_) (fun cdv A outer s H vs Q E hr h => ?_)
  · obtain ⟨a, i, rfl, _⟩ := h
    rfl
  · obtain ⟨a, i, rfl, hi, x, q⟩ := h
    refine ⟨_, pss_one (ps_ret (pe_lst (pa_cons (pe_callB call_xis (by rfl) T.isi boot_isi (pa_cons (pv 0) (pa_cons (pe_cls (by rfl) (T.gl 0 _ rfl)) pa_nil)))
      (pa_cons (pe_callB call_xis (by rfl) T.isi boot_isi (pa_cons (pv 0) (pa_cons (pe_cls (by rfl) (T.gl 1 _ rfl)) pa_nil)))
      (pa_cons (pe_callB call_xis (by rfl) T.isi boot_isi (pa_cons (pv 0) (pa_cons (pe_cls (by rfl) (T.gl 2 _ rfl)) pa_nil)))
      (pa_cons (pe_callB call_xis (by rfl) T.isi boot_isi (pa_cons (pv 0) (pa_cons (pe_cls (by rfl) (T.gl 3 _ rfl)) pa_nil)))
      (pa_cons (pe_callB call_xis (by rfl) T.isi boot_isi (pa_cons (pv 0) (pa_cons (pe_cls (by rfl) (T.gl 4 _ rfl)) pa_nil)))
      (pa_cons (pe_callB call_xis (by rfl) T.isi boot_isi (pa_cons (pv 0) (pa_cons (pe_cls (by rfl) (T.gl 5 _ rfl)) pa_nil)))
      (pa_cons (pe_callB call_xis (by rfl) T.isi boot_isi (pa_cons (pv 0) (pa_cons (pe_cls (by rfl) (T.gl 6 _ rfl)) pa_nil)))
      (pa_cons (pe_callB call_xis (by rfl) T.isi boot_isi (pa_cons (pv 0) (pa_cons (pe_cls (by rfl) (T.gl 7 _ rfl)) pa_nil)))
      (pa_cons (pe_callB call_xis (by rfl) T.isi boot_isi (pa_cons (pv 0) (pa_cons (pe_cls (by rfl) (T.gl 8 _ rfl)) pa_nil)))
      (pa_cons (pe_callB call_xis (by rfl) T.isi boot_isi (pa_cons (pv 0) (pa_cons (pe_cls (by rfl) (T.gl 9 _ rfl)) pa_nil))) pa_nil)))))))))))), ?_⟩
    have t := fun (j : Nat) (hj : j < 20) => ev_is T (σ := [some (.ref a)]) (te := tVar 0) hi hj x (ev_var rfl)
    exact s_retL (el_lst (ea_cons (t 0 (by decide)) (ea_cons (t 1 (by decide)) (ea_cons (t 2 (by decide)) (ea_cons (t 3 (by decide)) (ea_cons (t 4 (by decide)) (ea_cons (t 5 (by decide)) (ea_cons (t 6 (by decide)) (ea_cons (t 7 (by decide)) (ea_cons (t 8 (by decide)) (ea_cons (t 9 (by decide)) ea_nil))))))))))
      (by show 10 ≤ 100000; decide)) fun p H1 np e hp => q p H1 np e hp
theorem ok_second {f : Addr} {fd : FuncData} (F : Fun K "_law_second" "_law_second" sSecond f fd) (T : Txt12 K mg) : FnOk P w K mg base CX0 1 f fd ["_law_e"] (spWho K 10) := by
  refine F.ok scSecond (fun vs H Q E h => ?_) (fun cdv A outer s H vs Q E hr h => ?_)
  · obtain ⟨a, i, rfl, _⟩ := h
    rfl
  · obtain ⟨a, i, rfl, hi, x, q⟩ := h
    refine ⟨_, pss_one (ps_ret (pe_lst (pa_cons (pe_callB call_xis (by rfl) T.isi boot_isi (pa_cons (pv 0) (pa_cons (pe_cls (by rfl) (T.gl 10 _ rfl)) pa_nil)))
      (pa_cons (pe_callB call_xis (by rfl) T.isi boot_isi (pa_cons (pv 0) (pa_cons (pe_cls (by rfl) (T.gl 11 _ rfl)) pa_nil)))
      (pa_cons (pe_callB call_xis (by rfl) T.isi boot_isi (pa_cons (pv 0) (pa_cons (pe_cls (by rfl) (T.gl 12 _ rfl)) pa_nil)))
      (pa_cons (pe_callB call_xis (by rfl) T.isi boot_isi (pa_cons (pv 0) (pa_cons (pe_cls (by rfl) (T.gl 13 _ rfl)) pa_nil)))
      (pa_cons (pe_callB call_xis (by rfl) T.isi boot_isi (pa_cons (pv 0) (pa_cons (pe_cls (by rfl) (T.gl 14 _ rfl)) pa_nil)))
      (pa_cons (pe_callB call_xis (by rfl) T.isi boot_isi (pa_cons (pv 0) (pa_cons (pe_cls (by rfl) (T.gl 15 _ rfl)) pa_nil)))
      (pa_cons (pe_callB call_xis (by rfl) T.isi boot_isi (pa_cons (pv 0) (pa_cons (pe_cls (by rfl) (T.gl 16 _ rfl)) pa_nil)))
      (pa_cons (pe_callB call_xis (by rfl) T.isi boot_isi (pa_cons (pv 0) (pa_cons (pe_cls (by rfl) (T.gl 17 _ rfl)) pa_nil)))
      (pa_cons (pe_callB call_xis (by rfl) T.isi boot_isi (pa_cons (pv 0) (pa_cons (pe_cls (by rfl) (T.gl 18 _ rfl)) pa_nil)))
      (pa_cons (pe_callB call_xis (by rfl) T.isi boot_isi (pa_cons (pv 0) (pa_cons (pe_cls (by rfl) (T.gl 19 _ rfl)) pa_nil))) pa_nil)))))))))))), ?_⟩
    have t := fun (j : Nat) (hj : j < 20) => ev_is T (σ := [some (.ref a)]) (te := tVar 0) hi hj x (ev_var rfl)
    exact s_retL (el_lst (ea_cons (t 10 (by decide)) (ea_cons (t 11 (by decide)) (ea_cons (t 12 (by decide)) (ea_cons (t 13 (by decide)) (ea_cons (t 14 (by decide)) (ea_cons (t 15 (by decide)) (ea_cons (t 16 (by decide)) (ea_cons (t 17 (by decide)) (ea_cons (t 18 (by decide)) (ea_cons (t 19 (by decide)) ea_nil))))))))))
      (by show 10 ≤ 100000; decide)) fun p H1 np e hp => q p H1 np e hp

/-! ### the fields -/
/-- a class of one field, ready to be made -/
def One (P : Program) (w : World) (K : PySem.W.Frag) (mg : Str → Option Value) (base : Heap) (x f : Str) (C : Addr) (bm : List Value) (nid : String) : Prop := ∃ (fI : Addr) (fd : FuncData), mg x = some (.ref C) ∧ Xc K C bm nid ∧ PySem.W.findIn K (.ref C) "__init__" = some (some (.ref fI)) ∧ PySem.W.isFn K (.ref fI) = true ∧
  FnOk P w K mg base CX0 1 fI fd ["self", f] (spIni1 K bm nid f) ∧ Binds K fd ["self", f] []
def Two (P : Program) (w : World) (K : PySem.W.Frag) (mg : Str → Option Value) (base : Heap) (x f g : Str) (C : Addr) (bm : List Value) (nid : String) : Prop := ∃ (fI : Addr) (fd : FuncData), mg x = some (.ref C) ∧ Xc K C bm nid ∧ PySem.W.findIn K (.ref C) "__init__" = some (some (.ref fI)) ∧ PySem.W.isFn K (.ref fI) = true ∧
  FnOk P w K mg base CX0 1 fI fd ["self", f, g] (spIni2 K bm nid f g) ∧ Binds K fd ["self", f, g] []
def Three (P : Program) (w : World) (K : PySem.W.Frag) (mg : Str → Option Value) (base : Heap) (x f g j : Str) (C : Addr) (bm : List Value) (nid : String) : Prop := ∃ (fI : Addr) (fd : FuncData), mg x = some (.ref C) ∧ Xc K C bm nid ∧ PySem.W.findIn K (.ref C) "__init__" = some (some (.ref fI)) ∧ PySem.W.isFn K (.ref fI) = true ∧
  FnOk P w K mg base CX0 1 fI fd ["self", f, g, j] (spIni3 K bm nid f g j) ∧ Binds K fd ["self", f, g, j] []
section
variable {X : Cx} {e : Expr} {es : List Expr} {ta : TA} {p pos : Pos} {x f g j : Str} {C : Addr} {bm : List Value} {B nid initId : String}
theorem pe_one1 (o : One X.prog X.w X.K X.mg X.base x f C bm nid) (FB : ExcBaseFacts B nid initId bm) (hr : Room 2 X.A) (hg : Gl X x) (ha : PA X (e :: es) ta)
    (hdb : (x == ("__debug__" : Str)) = false := by decide) (he : starEach (e :: es) X.env = (false, eval e X.env) :: starEach es X.env := by rfl) (hpl : (backTo pos (starEach es X.env)).any (·.1) = false := by rfl) : PE X (.Call (.Name x p) (e :: es) [] pos) (tXmk C (spIni1 X.K bm nid f) ta) := by
  obtain ⟨fI, fd, g1, T, iC, tI, G, b⟩ := o
  exact pe_xmk FB T iC tI G hr b hg g1 ha hdb he hpl
theorem pe_two (o : Two X.prog X.w X.K X.mg X.base x f g C bm nid) (FB : ExcBaseFacts B nid initId bm) (hr : Room 2 X.A) (hg : Gl X x) (ha : PA X (e :: es) ta)
    (hdb : (x == ("__debug__" : Str)) = false := by decide) (he : starEach (e :: es) X.env = (false, eval e X.env) :: starEach es X.env := by rfl) (hpl : (backTo pos (starEach es X.env)).any (·.1) = false := by rfl) : PE X (.Call (.Name x p) (e :: es) [] pos) (tXmk C (spIni2 X.K bm nid f g) ta) := by
  obtain ⟨fI, fd, g1, T, iC, tI, G, b⟩ := o
  exact pe_xmk FB T iC tI G hr b hg g1 ha hdb he hpl
theorem pe_three (o : Three X.prog X.w X.K X.mg X.base x f g j C bm nid) (FB : ExcBaseFacts B nid initId bm) (hr : Room 2 X.A) (hg : Gl X x) (ha : PA X (e :: es) ta)
    (hdb : (x == ("__debug__" : Str)) = false := by decide) (he : starEach (e :: es) X.env = (false, eval e X.env) :: starEach es X.env := by rfl) (hpl : (backTo pos (starEach es X.env)).any (·.1) = false := by rfl) : PE X (.Call (.Name x p) (e :: es) [] pos) (tXmk C (spIni3 X.K bm nid f g j) ta) := by
  obtain ⟨fI, fd, g1, T, iC, tI, G, b⟩ := o
  exact pe_xmk FB T iC tI G hr b hg g1 ha hdb he hpl
end

/-- lists of drawn values, one like the other -/
theorem depths : ∀ {S : Addr → Prop} {H : Hp} {vs : List V} {ds : List PyData}, Paired (LV S H) vs ds → PyData.canLayAll0 ds = true ∧ PyData.depthAll ds ≤ 2
  | _, _, _, _, .nil => ⟨rfl, by simp [PyData.depthAll]⟩
  | _, _, _, _, .cons h r => by
    obtain ⟨h1, h2⟩ := h.fit
    obtain ⟨h3, h4⟩ := depths r
    exact ⟨by simp [PyData.canLayAll0, h1, h3], by simp [PyData.depthAll]; omega⟩
theorem dps : ∀ {S : Addr → Prop} {K : PySem.W.Frag} {H : Hp} {vs : List V} {ds : List PyData}, Paired (LV S H) vs ds → DpAll K H vs ds
  | _, _, _, _, _, .nil => .nil
  | _, _, _, _, _, .cons h r => .cons h.dp (dps r)
theorem lvs_ext : ∀ {S : Addr → Prop} {H H' : Hp} {vs : List V} {ds : List PyData}, Paired (LV S H) vs ds → Ex H H' → Paired (LV S H') vs ds
  | _, _, _, _, _, .nil, _ => .nil
  | _, _, _, _, _, .cons h r, e => .cons (h.ext (T := fun _ => False) (fun b o z _ => e b o z) fun _ z => z.elim) (lvs_ext r e)
theorem eqv_self {d : PyData} (h : d.canLay0 = true) : PyData.eqv d d = true := SeqAt.eqv_refl d h
theorem ev_same {S : Addr → Prop} {σ : L2.St} {H : Hp} {ta tb : TE} {xs : List V} {ds : List PyData} (hp : Paired (LV S H) xs ds) (ha : EvL ta σ H xs) (hb : EvL tb σ H xs) : Ev (tOp (rNeD K) ta tb) σ H (.bl false) :=
  ev_opLL ha hb fun p q H1 h1 h2 e => fun H2 e2 Q k => by
    obtain ⟨c1, c2⟩ := depths hp
    have d2 := dps (K := K) (lvs_ext hp (e.trans e2))
    have cl : (PyData.list ds).canLay0 = true := by simpa [PyData.canLay0] using c1
    have sh : SeqAt.shaped (PyData.list ds) = true := by
      unfold SeqAt.shaped
      rw [cl, Bool.true_and]
      exact decide_eq_true (by simp [PyData.depth]; omega)
    refine ⟨.list ds, .list ds, .lst (SqL.of (e2 _ _ h1)) d2, .lst (SqL.of (e2 _ _ h2)) d2, sh, sh, ?_⟩
    rw [eqv_self cl]
    exact k H2 (Ex.refl H2)
end
end Hc

set_option maxHeartbeats 8000000
namespace Hc
open PySem PySem.Spec PyProof.Rows L2 Evl
abbrev veN : String := "ValueError.__new__"
abbrev rtN : String := "RuntimeError.__new__"
/-- all the classes with makers, ready -/
structure All12 (P : Program) (w : World) (K : PySem.W.Frag) (mg : Str → Option Value) (base : Heap) : Prop extends Txt12 K mg where
  c0 : One P w K mg base "BadShape" "text" (cl K 0) veB veN
  c1 : One P w K mg base "BadLine" "at" (cl K 1) veB veN
  c2 : One P w K mg base "NoClass" "name" (cl K 2) veB veN
  c3 : One P w K mg base "BadField" "name" (cl K 3) veB veN
  c4 : One P w K mg base "TooMany" "what" (cl K 4) veB veN
  c5 : Three P w K mg base "BadRow" "owner" "method" "at" (cl K 5) veB veN
  c6 : Two P w K mg base "BadMethod" "owner" "method" (cl K 6) veB veN
  c7 : One P w K mg base "BadDeed" "deed" (cl K 7) veB veN
  c8 : One P w K mg base "BadPlace" "place" (cl K 8) veB veN
  c9 : One P w K mg base "BadWorld" "form" (cl K 9) veB veN
  c10 : One P w K mg base "BadLabel" "label" (cl K 10) veB veN
  c11 : One P w K mg base "BadGoal" "goal" (cl K 11) veB veN
  c12 : One P w K mg base "BadWhen" "when" (cl K 12) veB veN
  c13 : One P w K mg base "BadMend" "at" (cl K 13) veB veN
  c14 : One P w K mg base "NoDoor" "door" (cl K 14) veB veN
  c15 : One P w K mg base "BadName" "name" (cl K 15) veB veN
  c16 : One P w K mg base "UnlikeFaces" "method" (cl K 16) veB veN
  c19 : One P w K mg base "Shut" "method" (cl K 19) rtB rtN
section
variable {P : Program} {w : World} {K : PySem.W.Frag} {mg : Str → Option Value} {base : Heap}
theorem Txt12.nof (T : Txt12 K mg) {i : Nat} {d : ErrD} {f : Str} (h : errs12[i]? = some d) (hf : d.fields.isEmpty = false) (hm : f ∈ d.fields) : PySem.W.findIn K (.ref (cl K i)) f = some none := (T.maker h hf).2.2 f hm
theorem q_asgE {te : TE} {σ : L2.St} {H : Hp} {C : Addr} {fs : List (Str × V)} {i : Nat} {tz : TS} {D : Ends} (h : EvE te σ H C fs) (k : ∀ a H1, Ex H H1 → H a = none → ErrAt H1 a C fs → tz D (σ.set i (some (.ref a))) H1) : tSeq (tAsg te (gName i)) tz D σ H :=
  h H (Ex.refl H) _ fun a H1 e na he => k a H1 e na he
/-- C(e).f of a class of one field -/
theorem ev_one {σ : L2.St} {H : Hp} {te : TE} {v : V} {i : Nat} {d : ErrD} {f : Str} {bm : List Value} {nid : String} (T : Txt12 K mg) (h : errs12[i]? = some d) (hf : d.fields = [f]) (hb : d.bm = bm) (hn : d.newId = nid) (he : Ev te σ H v) :
    Ev (tXfd K f (tXmk (cl K i) (spIni1 K bm nid f) (tCons te tNil))) σ H v := by
  subst hb hn
  have no := T.nof (f := f) h (by rw [hf]; rfl) (by rw [hf]; exact List.mem_singleton.mpr rfl)
  have xc := T.xc h
  refine ev_fld xc.xf no (ee_mk1 xc no he) ?_
  rw [List.lookup_cons_self]
def spStand : Sp := fun vs H Q _ => ∃ (S : Addr → Prop) (a b c : V) (da db dc : PyData), vs = [a, b, c] ∧ LV S H a da ∧ LV S H b db ∧ LV S H c dc ∧ ∀ H', Ex H H' → Q (.bl true) H'
abbrev nStand : List Str := ["_law_a", "_law_b", "_law_c", "_law_row", "_law_method"]
theorem scStand : FnScope nStand ["_law_a", "_law_b", "_law_c"] (defScope sStand) := ⟨rfl, rfl, rfl, by decide +kernel, rfl, by decide +kernel, by decide +kernel⟩
theorem ok_stand {f : Addr} {fd : FuncData} (F : Fun K "_law_fields_stand" "_law_fields_stand" sStand f fd) (T : All12 P w K mg base) : FnOk P w K mg base CX0 3 f fd ["_law_a", "_law_b", "_law_c"] spStand := by
  have VE := PySem.F.excBase_ValueError
  have RT := PySem.F.excBase_RuntimeError
  refine F.ok scStand (fun vs H Q E h => ?_) (fun cdv A outer s H vs Q E hr h => ?_)
  · obtain ⟨S, a, b, c, da, db, dc, rfl, _⟩ := h
    rfl
  · obtain ⟨S, a, b, c, da, db, dc, rfl, la, lb, lc, q⟩ := h
    refine ⟨_, pss_cons (ps_set (i := 3) scStand.nd rfl (.inl rfl) (pe_three T.c5 VE hr (by rfl) (pa_cons (pv 0) (pa_cons (pv 1) (pa_cons (pv 2) pa_nil)))))
      (pss_cons (ps_set (i := 4) scStand.nd rfl (.inl rfl) (pe_two T.c6 VE hr (by rfl) (pa_cons (pv 1) (pa_cons (pv 2) pa_nil))))
      (pss_cons (ps_if (PW.pt (pw_or (pt_cmpR (op_neD hr.units) (pe_lst (pa_cons (pe_xfd (pv 3)) (pa_cons (pe_xfd (pv 3)) (pa_cons (pe_xfd (pv 3)) pa_nil)))) (pe_lst (pa_cons (pv 0) (pa_cons (pv 1) (pa_cons (pv 2) pa_nil)))) (nomark _))
          (pw_or1 (pt_cmpR (op_neD hr.units) (pe_lst (pa_cons (pe_xfd (pv 4)) (pa_cons (pe_xfd (pv 4)) pa_nil))) (pe_lst (pa_cons (pv 1) (pa_cons (pv 2) pa_nil))) (nomark _))))) (pss_one (ps_ret pe_bl)) pss_nil)
      (pss_cons (ps_if (pt_cmpR (op_neD hr.units) (pe_lst (pa_cons (pe_xfd (pe_one1 T.c0 VE hr (by rfl) (pa_cons (pv 0) pa_nil))) (pa_cons (pe_xfd (pe_one1 T.c1 VE hr (by rfl) (pa_cons (pv 1) pa_nil))) (pa_cons (pe_xfd (pe_one1 T.c2 VE hr (by rfl) (pa_cons (pv 2) pa_nil)))
            (pa_cons (pe_xfd (pe_one1 T.c3 VE hr (by rfl) (pa_cons (pv 0) pa_nil))) (pa_cons (pe_xfd (pe_one1 T.c4 VE hr (by rfl) (pa_cons (pv 1) pa_nil))) pa_nil)))))) (pe_lst (pa_cons (pv 0) (pa_cons (pv 1) (pa_cons (pv 2) (pa_cons (pv 0) (pa_cons (pv 1) pa_nil)))))) (nomark _)) (pss_one (ps_ret pe_bl)) pss_nil)
      (pss_cons (ps_if (pt_cmpR (op_neD hr.units) (pe_lst (pa_cons (pe_xfd (pe_one1 T.c7 VE hr (by rfl) (pa_cons (pv 2) pa_nil))) (pa_cons (pe_xfd (pe_one1 T.c8 VE hr (by rfl) (pa_cons (pv 0) pa_nil))) (pa_cons (pe_xfd (pe_one1 T.c9 VE hr (by rfl) (pa_cons (pv 1) pa_nil)))
            (pa_cons (pe_xfd (pe_one1 T.c10 VE hr (by rfl) (pa_cons (pv 2) pa_nil))) (pa_cons (pe_xfd (pe_one1 T.c11 VE hr (by rfl) (pa_cons (pv 0) pa_nil))) pa_nil)))))) (pe_lst (pa_cons (pv 2) (pa_cons (pv 0) (pa_cons (pv 1) (pa_cons (pv 2) (pa_cons (pv 0) pa_nil)))))) (nomark _)) (pss_one (ps_ret pe_bl)) pss_nil)
      (pss_cons (ps_if (pt_cmpR (op_neD hr.units) (pe_lst (pa_cons (pe_xfd (pe_one1 T.c12 VE hr (by rfl) (pa_cons (pv 1) pa_nil))) (pa_cons (pe_xfd (pe_one1 T.c13 VE hr (by rfl) (pa_cons (pv 2) pa_nil))) (pa_cons (pe_xfd (pe_one1 T.c14 VE hr (by rfl) (pa_cons (pv 0) pa_nil)))
            (pa_cons (pe_xfd (pe_one1 T.c15 VE hr (by rfl) (pa_cons (pv 1) pa_nil))) (pa_cons (pe_xfd (pe_one1 T.c16 VE hr (by rfl) (pa_cons (pv 2) pa_nil))) pa_nil)))))) (pe_lst (pa_cons (pv 1) (pa_cons (pv 2) (pa_cons (pv 0) (pa_cons (pv 1) (pa_cons (pv 2) pa_nil)))))) (nomark _)) (pss_one (ps_ret pe_bl)) pss_nil)
      (pss_one (ps_ret (pe_cmpR (op_eqD hr.units) (pe_xfd (pe_one1 T.c19 RT hr (by rfl) (pa_cons (pv 0) pa_nil))) (pv 0) (nomark _))))))))), ?_⟩
    have n5 := fun (f : Str) => T.toTxt12.nof (i := 5) (f := f) (d := ⟨"BadRow", ["owner", "method", "at"], false⟩) rfl rfl
    have n6 := fun (f : Str) => T.toTxt12.nof (i := 6) (f := f) (d := ⟨"BadMethod", ["owner", "method"], false⟩) rfl rfl
    have x5 := T.toTxt12.xc (i := 5) (d := ⟨"BadRow", ["owner", "method", "at"], false⟩) rfl
    have x6 := T.toTxt12.xc (i := 6) (d := ⟨"BadMethod", ["owner", "method"], false⟩) rfl
    have m51 := n5 "owner" (by simp)
    have m52 := n5 "method" (by simp)
    have m53 := n5 "at" (by simp)
    have m61 := n6 "owner" (by simp)
    have m62 := n6 "method" (by simp)
    refine q_asgE (ee_mk3 x5 m51 m52 m53 (ev_var rfl) (ev_var rfl) (ev_var rfl)) fun r H1 e1 _ hr1 => ?_
    refine q_asgE (ee_mk2 x6 m61 m62 (ev_var rfl) (ev_var rfl)) fun m H2 e2 _ hm1 => ?_
    have e02 := e1.trans e2
    have nx : ∀ {v : V} {d : PyData} {Hx : Hp}, LV S H v d → Ex H Hx → LV S Hx v d := fun h e => h.ext (T := fun _ => False) (fun b o z _ => e b o z) fun _ z => z.elim
    refine q_when (et_or (et_test (ev_same (S := S) (xs := [a, b, c]) (ds := [da, db, dc]) (.cons (nx la e02) (.cons (nx lb e02) (.cons (nx lc e02) .nil)))
      (el_lst (ea_cons (ev_fldV x5.xf m51 (ev_var rfl) (hr1.ex e2) rfl) (ea_cons (ev_fldV x5.xf m52 (ev_var rfl) (hr1.ex e2) rfl) (ea_cons (ev_fldV x5.xf m53 (ev_var rfl) (hr1.ex e2) rfl) ea_nil))) (by show 3 ≤ 100000; decide))
      (el_lst (ea_cons (ev_var rfl) (ea_cons (ev_var rfl) (ea_cons (ev_var rfl) ea_nil))) (by show 3 ≤ 100000; decide)))) fun _ =>
      et_test (ev_same (S := S) (xs := [b, c]) (ds := [db, dc]) (.cons (nx lb e02) (.cons (nx lc e02) .nil))
      (el_lst (ea_cons (ev_fldV x6.xf m61 (ev_var rfl) hm1 rfl) (ea_cons (ev_fldV x6.xf m62 (ev_var rfl) hm1 rfl) ea_nil)) (by show 2 ≤ 100000; decide))
      (el_lst (ea_cons (ev_var rfl) (ea_cons (ev_var rfl) ea_nil)) (by show 2 ≤ 100000; decide)))) (fun z => nomatch z) fun _ H3 e3 => ?_
    have e03 := e02.trans e3
    have T' := T.toTxt12
    refine q_when (et_test (ev_same (S := S) (xs := [a, b, c, a, b]) (ds := [da, db, dc, da, db]) (.cons (nx la e03) (.cons (nx lb e03) (.cons (nx lc e03) (.cons (nx la e03) (.cons (nx lb e03) .nil)))))
      (el_lst (ea_cons (ev_one (i := 0) T' rfl rfl rfl rfl (ev_var rfl)) (ea_cons (ev_one (i := 1) T' rfl rfl rfl rfl (ev_var rfl)) (ea_cons (ev_one (i := 2) T' rfl rfl rfl rfl (ev_var rfl)) (ea_cons (ev_one (i := 3) T' rfl rfl rfl rfl (ev_var rfl)) (ea_cons (ev_one (i := 4) T' rfl rfl rfl rfl (ev_var rfl)) ea_nil))))) (by show 5 ≤ 100000; decide))
      (el_lst (ea_cons (ev_var rfl) (ea_cons (ev_var rfl) (ea_cons (ev_var rfl) (ea_cons (ev_var rfl) (ea_cons (ev_var rfl) ea_nil))))) (by show 5 ≤ 100000; decide)))) (fun z => nomatch z) fun _ H4 e4 => ?_
    have e04 := e03.trans e4
    refine q_when (et_test (ev_same (S := S) (xs := [c, a, b, c, a]) (ds := [dc, da, db, dc, da]) (.cons (nx lc e04) (.cons (nx la e04) (.cons (nx lb e04) (.cons (nx lc e04) (.cons (nx la e04) .nil)))))
      (el_lst (ea_cons (ev_one (i := 7) T' rfl rfl rfl rfl (ev_var rfl)) (ea_cons (ev_one (i := 8) T' rfl rfl rfl rfl (ev_var rfl)) (ea_cons (ev_one (i := 9) T' rfl rfl rfl rfl (ev_var rfl)) (ea_cons (ev_one (i := 10) T' rfl rfl rfl rfl (ev_var rfl)) (ea_cons (ev_one (i := 11) T' rfl rfl rfl rfl (ev_var rfl)) ea_nil))))) (by show 5 ≤ 100000; decide))
      (el_lst (ea_cons (ev_var rfl) (ea_cons (ev_var rfl) (ea_cons (ev_var rfl) (ea_cons (ev_var rfl) (ea_cons (ev_var rfl) ea_nil))))) (by show 5 ≤ 100000; decide)))) (fun z => nomatch z) fun _ H5 e5 => ?_
    have e05 := e04.trans e5
    refine q_when (et_test (ev_same (S := S) (xs := [b, c, a, b, c]) (ds := [db, dc, da, db, dc]) (.cons (nx lb e05) (.cons (nx lc e05) (.cons (nx la e05) (.cons (nx lb e05) (.cons (nx lc e05) .nil)))))
      (el_lst (ea_cons (ev_one (i := 12) T' rfl rfl rfl rfl (ev_var rfl)) (ea_cons (ev_one (i := 13) T' rfl rfl rfl rfl (ev_var rfl)) (ea_cons (ev_one (i := 14) T' rfl rfl rfl rfl (ev_var rfl)) (ea_cons (ev_one (i := 15) T' rfl rfl rfl rfl (ev_var rfl)) (ea_cons (ev_one (i := 16) T' rfl rfl rfl rfl (ev_var rfl)) ea_nil))))) (by show 5 ≤ 100000; decide))
      (el_lst (ea_cons (ev_var rfl) (ea_cons (ev_var rfl) (ea_cons (ev_var rfl) (ea_cons (ev_var rfl) (ea_cons (ev_var rfl) ea_nil))))) (by show 5 ≤ 100000; decide)))) (fun z => nomatch z) fun _ H6 e6 => ?_
    have e06 := e05.trans e6
    have fitA := la.fit
    have sh : SeqAt.shaped da = true := by
      unfold SeqAt.shaped
      rw [fitA.1, Bool.true_and]
      exact decide_eq_true (by omega)
    refine s_ret (v := .bl true) (ev_op (ev_one (i := 19) T' rfl rfl rfl rfl (ev_var rfl)) (ev_var rfl) fun H7 e7 Q7 k => ?_) fun H8 e8 => q H8 (e06.trans e8)
    have lA := (nx la (e06.trans e7)).dp (K := K)
    refine ⟨da, da, lA, lA, sh, sh, ?_⟩
    rw [eqv_self fitA.1]
    exact k H7 (Ex.refl H7)
end
end Hc

set_option maxHeartbeats 8000000
namespace Hc
open PySem PySem.Spec PyProof.Rows L2 Evl
section
variable {K : PySem.W.Frag}
/-- a for over enumerate(a list that stands) -/
theorem for_enum {a : Addr} {xs : List V} {g : TG} {tb : TS} {D : Ends} {σ : L2.St} {H : Hp} (Pv : Nat → L2.St → Hp → Prop) (h0 : Pv 0 σ H) (hl : ∀ i σ H, i ≤ xs.length → Pv i σ H → SqL K H a xs)
    (hs : ∀ i x T σ H, xs[i]? = some x → Pv i σ H → H T = none → g (.ref T) σ (upd H T (.tup [.int (i : Nat), x])) fun σ2 H2 => tb { D with nx := Pv (i + 1), ct := Pv (i + 1), bk := D.nx } σ2 H2) (hd : ∀ σ H, Pv xs.length σ H → D.nx σ H) :
    ∃ W : Nat → Nat → L2.St → Hp → Prop, (∃ m, W 0 m σ H) ∧ ∀ i m σ H, W i m σ H →
      ((Ite K a).stop i H ∧ D.nx σ H) ∨ ((Ite K a).go i H ∧ ∃ N : L2.St → Hp → Prop, (∀ σ' H', N σ' H' → ∃ m', m' < m ∧ W (i + 1) m' σ' H') ∧ ∀ x H', (Ite K a).yld i H x H' → g x σ H' fun σ2 H2 => tb { D with nx := N, ct := N, bk := D.nx } σ2 H2) := by
  refine ⟨fun i m σ H => m = xs.length - i ∧ i ≤ xs.length ∧ Pv i σ H, ⟨xs.length, by simp, Nat.zero_le _, h0⟩, ?_⟩
  rintro i m σ H ⟨rfl, hi, p⟩
  have q := hl i σ H hi p
  by_cases hlt : i < xs.length
  · refine .inr ⟨⟨xs, xs[i], q, List.getElem?_eq_getElem hlt⟩, Pv (i + 1), fun σ' H' p' => ⟨xs.length - (i + 1), by omega, rfl, hlt, p'⟩, fun x H' y => ?_⟩
    obtain ⟨T, z, rfl, nT, rfl, hz⟩ := y
    exact hs i z T σ H (hz xs q) p nT
  · have e : i = xs.length := by omega
    subst e
    exact .inl ⟨⟨xs, q, Nat.le_refl _⟩, hd σ H p⟩
theorem el_cat {σ : L2.St} {H : Hp} {ta tb : TE} {xs ys : List V} (ha : EvL ta σ H xs) (hb : EvL tb σ H ys) (hz : xs.length + ys.length ≤ 100000) : EvL (tOp rCat ta tb) σ H (xs ++ ys) := fun H1 e Q q =>
  ha H1 e _ fun p H2 n1 e2 h1 => hb H2 (e.trans e2) _ fun r H3 n2 e3 h2 => ⟨p, r, xs, ys, rfl, rfl, e3 _ _ h1, h2, sz_of hz, fun t nt => q t _ (fresh_back (e2.trans e3) nt) ((e2.trans e3).trans (Ex.new nt)) upd_same⟩
theorem bools {S : Addr → Prop} {H : Hp} : ∀ bs : List Bool, Paired (LV S H) (bs.map V.bl) (bs.map PyData.bool)
  | [] => .nil
  | b :: r => .cons (.bl b) (bools r)
/-- errors that stand in a row, from the lo-th class on -/
def ErrsAt (K : PySem.W.Frag) (H : Hp) (lo : Nat) (xs : List V) : Prop := ∀ (k : Nat) (x : V), xs[k]? = some x → ∃ a, x = .ref a ∧ ErrIs H a (cl K (lo + k))
theorem ErrsAt.nil {H : Hp} {lo : Nat} : ErrsAt K H lo [] := fun k x h => by simp at h
theorem ErrsAt.cons {H : Hp} {lo : Nat} {a : Addr} {xs : List V} (h : ErrIs H a (cl K lo)) (r : ErrsAt K H (lo + 1) xs) : ErrsAt K H lo (.ref a :: xs) := fun k x e => by
  cases k with
  | zero => exact ⟨a, (Option.some.inj e).symm, h⟩
  | succ k =>
    obtain ⟨b, e1, e2⟩ := r k x (by simpa using e)
    exact ⟨b, e1, by rw [show lo + (k + 1) = lo + 1 + k by omega]; exact e2⟩
theorem ErrsAt.app {H : Hp} {lo : Nat} {xs ys : List V} (h : ErrsAt K H lo xs) (r : ErrsAt K H (lo + xs.length) ys) : ErrsAt K H lo (xs ++ ys) := fun k x e => by
  by_cases hk : k < xs.length
  · rw [List.getElem?_append_left hk] at e
    exact h k x e
  · rw [List.getElem?_append_right (by omega)] at e
    obtain ⟨b, e1, e2⟩ := r _ x e
    exact ⟨b, e1, by rw [show lo + k = lo + xs.length + (k - xs.length) by omega]; exact e2⟩
theorem ErrsAt.ex {H H' : Hp} {lo : Nat} {xs : List V} (h : ErrsAt K H lo xs) (e : Ex H H') : ErrsAt K H' lo xs := fun k x z => by
  obtain ⟨a, e1, e2⟩ := h k x z
  exact ⟨a, e1, e2.ex e⟩
theorem ErrIs.put {H : Hp} {a C m : Addr} {xs ys : List V} (h : ErrIs H a C) (hm : H m = some (.lst xs)) : ErrIs (upd H m (.lst ys)) a C := by
  have n1 : ∀ {b : Addr} {d : Option Addr}, H b = some (exo b C d) → b ≠ m := fun z => ne_of z hm (by intro q; cases q)
  have n2 : ∀ {b : Addr} {fs : List (Str × V)}, H b = some (exd b fs) → b ≠ m := fun z => ne_of z hm (by intro q; cases q)
  rcases h with h | ⟨dd, fs, h1, h2⟩
  · exact .inl ((upd_ne (n1 h)).trans h)
  · exact .inr ⟨dd, fs, (upd_ne (n1 h1)).trans h1, (upd_ne (n2 h2)).trans h2⟩
theorem ErrsAt.put {H : Hp} {m : Addr} {lo : Nat} {xs ys zs : List V} (h : ErrsAt K H lo xs) (hm : H m = some (.lst ys)) : ErrsAt K (upd H m (.lst zs)) lo xs := fun k x z => by
  obtain ⟨a, e1, e2⟩ := h k x z
  exact ⟨a, e1, e2.put hm⟩
end

theorem mk1 {K : PySem.W.Frag} {mg : Str → Option Value} {σ : L2.St} {H : Hp} {te : TE} {v : V} {i : Nat} {d : ErrD} {f : Str} {bm : List Value} {nid : String} (T : Txt12 K mg) (h : errs12[i]? = some d) (hf : d.fields = [f]) (hb : d.bm = bm) (hn : d.newId = nid) (he : Ev te σ H v) :
    EvE (tXmk (cl K i) (spIni1 K bm nid f) (tCons te tNil)) σ H (cl K i) [(f, v)] := by
  subst hb hn
  exact ee_mk1 (T.xc h) (T.nof (f := f) h (by rw [hf]; rfl) (by rw [hf]; exact List.mem_singleton.mpr rfl)) he
theorem run1 {K : PySem.W.Frag} {mg : Str → Option Value} {σ : L2.St} {H : Hp} {te : TE} {v : V} {i : Nat} {d : ErrD} {f : Str} {bm : List Value} {nid : String} {Q : VK} (T : Txt12 K mg) (h : errs12[i]? = some d) (hf : d.fields = [f]) (hb : d.bm = bm) (hn : d.newId = nid) (he : Ev te σ H v)
    (q : ∀ a H2, Ex H H2 → H a = none → ErrAt H2 a (cl K i) [(f, v)] → Q (.ref a) H2) : tXmk (cl K i) (spIni1 K bm nid f) (tCons te tNil) σ H Q := mk1 T h hf hb hn he H (Ex.refl H) Q q
theorem runE {σ : L2.St} {H : Hp} {te : TE} {C : Addr} {fs : List (Str × V)} {Q : VK} (h : EvE te σ H C fs) (q : ∀ a H2, Ex H H2 → H a = none → ErrAt H2 a C fs → Q (.ref a) H2) : te σ H Q := h H (Ex.refl H) Q q
theorem nextL {D : Ends} {σ : L2.St} {H : Hp} (h : D.nx σ H) : tNext D σ H := h
theorem seqAsgLst {ta : TA} {i : Nat} {t2 : TS} {D : Ends} {σ : L2.St} {H : Hp} (h : ta σ H fun xs H1 => xs.length ≤ sizeLine ∧ ∀ p, H1 p = none → t2 D (σ.set i (some (.ref p))) (upd H1 p (.lst xs))) : tSeq (tAsg (tLst ta) (gName i)) t2 D σ H := h
theorem seqAugLst {ta : TA} {i : Nat} {ti : TIp} {t2 : TS} {D : Ends} {σ : L2.St} {H : Hp} {x : V} (hx : σ[i]? = some (some x)) (h : ta σ H fun xs H1 => xs.length ≤ sizeLine ∧ ∀ p, H1 p = none → ti x (.ref p) (upd H1 p (.lst xs)) fun z H2 => t2 D (σ.set i (some z)) H2) : tSeq (tAug i (tLst ta) ti) t2 D σ H := ⟨x, hx, h⟩
theorem c1 {K : PySem.W.Frag} {mg : Str → Option Value} {σ : L2.St} {H : Hp} {te : TE} {v : V} {i : Nat} {d : ErrD} {f : Str} {bm : List Value} {nid : String} {tr : TA} {Q : List V → Hp → Prop} (T : Txt12 K mg) (h : errs12[i]? = some d) (hf : d.fields = [f]) (hb : d.bm = bm) (hn : d.newId = nid) (he : Ev te σ H v)
    (q : ∀ a H2, Ex H H2 → H a = none → ErrAt H2 a (cl K i) [(f, v)] → tr σ H2 fun xs H3 => Q (.ref a :: xs) H3) : tCons (tXmk (cl K i) (spIni1 K bm nid f) (tCons te tNil)) tr σ H Q := run1 T h hf hb hn he q
theorem cE {σ : L2.St} {H : Hp} {te : TE} {C : Addr} {fs : List (Str × V)} {tr : TA} {Q : List V → Hp → Prop} (h : EvE te σ H C fs) (q : ∀ a H2, Ex H H2 → H a = none → ErrAt H2 a C fs → tr σ H2 fun xs H3 => Q (.ref a :: xs) H3) : tCons te tr σ H Q := runE h q
theorem c0 {σ : L2.St} {H : Hp} {C : Addr} {tr : TA} {Q : List V → Hp → Prop} (q : ∀ a H2, Ex H H2 → H a = none → ErrIs H2 a C → tr σ H2 fun xs H3 => Q (.ref a :: xs) H3) : tCons (fun σ H Q => ∀ a, H a = none → Q (.ref a) (upd H a (exo a C none))) tr σ H Q := fun a na => q a _ (Ex.new na) na (.inl upd_same)
theorem paired_snoc {α β : Type} {R : α → β → Prop} : ∀ {xs : List α} {ys : List β} {x : α} {y : β}, Paired R xs ys → R x y → Paired R (xs ++ [x]) (ys ++ [y])
  | _, _, _, _, .nil, h => .cons h .nil
  | _, _, _, _, .cons r t, h => .cons r (paired_snoc t h)
theorem lvs_extT {S T : Addr → Prop} {H H' : Hp} : ∀ {vs : List V} {ds : List PyData}, Paired (LV S H) vs ds → Ext T H H' → (∀ b, T b → S b) → Paired (LV S H') vs ds
  | _, _, .nil, _, _ => .nil
  | _, _, .cons h r, e, m => .cons (h.ext e m) (lvs_extT r e m)

structure TxtL (mg : Str → Option Value) : Prop extends TxtV mg where
  enu : mg "enumerate" = none
  ve : mg "ValueError" = none
  re : mg "RuntimeError" = none
  le : mg "LookupError" = none
/-- what the law asks of the written part besides -/
structure Kit12 (K : PySem.W.Frag) (mg : Str → Option Value) (CH : Addr) : Prop where
  gH : mg "HandedcopiesError" = some (.ref CH)
  xH : PySem.W.excIn K CH veB veN = true
  kH : PySem.W.keepIn K (.ref CH) = true
  eH : ExcC K CH
  toH : ∀ (i : Nat) (d : ErrD), errs12[i]? = some d → PySem.W.kitOne K (.ref (cl K i)) (.ref CH) = some (!d.rt)
  toV : ∀ (i : Nat) (d : ErrD), errs12[i]? = some d → PySem.W.kitOne K (.ref (cl K i)) (.type "ValueError") = some (!d.rt)
  toR : ∀ (i : Nat) (d : ErrD), errs12[i]? = some d → PySem.W.kitOne K (.ref (cl K i)) (.type "RuntimeError") = some d.rt
  toL : ∀ (i : Nat) (d : ErrD), errs12[i]? = some d → PySem.W.kitOne K (.ref (cl K i)) (.type "LookupError") = some false
  hV : PySem.W.kitOne K (.ref CH) (.type "ValueError") = some true
  h1 : PySem.W.kitOne K (.ref CH) (.ref (cl K 1)) = some false
theorem own12 : ∀ i : Nat, i < 20 → ∃ d, errs12[i]? = some d ∧ (!d.rt) = decide ((i : Int) < 17) := by
  intro i hi
  have all : (List.range 20).all (fun i => match errs12[i]? with | some d => decide ((!d.rt) = decide ((i : Int) < 17)) | none => false) = true := by decide +kernel
  have h := List.all_eq_true.mp all i (List.mem_range.mpr hi)
  cases e : errs12[i]? with
  | none =>
    rw [e] at h
    cases h
  | some d =>
    rw [e] at h
    exact ⟨d, rfl, of_decide_eq_true h⟩
theorem who_all : ∀ i : Nat, i < 20 → who i 0 ++ who i 10 = ((List.range 20).map fun j => decide (i = j)).map V.bl := by decide +kernel
theorem who_comp : ∀ i : Nat, i < 20 → given (20 : Int).toNat (fun _ => true) (fun k => V.bl (decide (V.int (k : Int) = V.int (i : Int)))) = ((List.range 20).map fun j => decide (i = j)).map V.bl := by
  intro i _
  unfold given
  rw [List.filter_eq_self.mpr (fun _ _ => rfl), List.map_map]
  refine List.map_congr_left fun k _ => ?_
  show V.bl (decide (V.int (k : Int) = V.int (i : Int))) = V.bl (decide (i = k))
  congr 1
  rw [dec_int]
  by_cases h : i = k
  · subst h
    simp
  · rw [decide_eq_false h]
    simp only [beq_eq_false_iff_ne, ne_eq]
    omega
section
variable {P : Program} {w : World} {K : PySem.W.Frag} {mg : Str → Option Value} {base : Heap}
abbrev nLaw : List Str := ["_law_script", "_law_state", "_law_turn", "_law_a", "_law_b", "_law_c", "_law_made", "_law_at", "_law_e", "_law_is_own", "_law_place"]
theorem scLaw : FnScope nLaw ["_law_script"] (defScope sLaw) := ⟨rfl, rfl, rfl, by decide +kernel, rfl, by decide +kernel, by decide +kernel⟩
theorem ev_isT {σ : L2.St} {H : Hp} {te tc : TE} {a C : Addr} {c : V} {u : Value} {b : Bool} (X : ExcC K C) (x : ErrIs H a C) (k : ClsV c u) (e1 : PySem.W.kitOne K (.ref C) u = some b) (h : Ev te σ H (.ref a)) (hc : Ev tc σ H c) : Ev (tCB (rXis K) (tCons te (tCons tc tNil))) σ H (.bl b) :=
  ev_cb (ea_cons h (ea_cons hc ea_nil)) fun H1 e Q q => ⟨a, C, c, u, b, rfl, k, X, x.ex e, e1, q H1 (Ex.refl H1)⟩
def spLaw (K : PySem.W.Frag) : Sp := fun vs H Q _ => ∃ (a : Addr) (ns : List Int), vs = [.ref a] ∧ SqL K H a (ns.map V.int) ∧ ns.length ≤ 63 ∧ ∀ H', Q (.bl true) H'
/-- a def of the text, ready to be called -/
structure Rd0 (P : Program) (w : World) (K : PySem.W.Frag) (mg : Str → Option Value) (base : Heap) (x : Str) (k : Nat) (ps : List Str) (sp : Sp) : Prop where
  ex : ∃ (f : Addr) (fd : FuncData), mg x = some (.ref f) ∧ PySem.W.keepIn K (.ref f) = true ∧ Binds K fd ps [] ∧ FnOk P w K mg base CX0 k f fd ps sp
theorem pe_rd {X : Cx} {x : Str} {k j : Nat} {ps : List Str} {sp : Sp} {e : Expr} {es : List Expr} {ta : TA} {p pos : Pos} (r : Rd0 X.prog X.w X.K X.mg X.base x k ps sp) (hr : Room j X.A) (hk : k ≤ j) (hg : Gl X x) (ha : PA X (e :: es) ta)
    (hdb : (x == ("__debug__" : Str)) = false := by decide) (he : starEach (e :: es) X.env = (false, eval e X.env) :: starEach es X.env := by rfl) (hpl : (backTo pos (starEach es X.env)).any (·.1) = false := by rfl) : PE X (.Call (.Name x p) (e :: es) [] pos) (tCall sp [] E0 ta) := by
  obtain ⟨f, fd, g1, kp, b, G⟩ := r.ex
  exact pe_call G (hr.mono hk) hg g1 kp b .nil pass0 ha hdb he hpl
theorem ok_law {CH : Addr} {f : Addr} {fd : FuncData} (F : Fun K "law" "law" sLaw f fd) (T : TxtL mg) (A : All12 P w K mg base) (Kt : Kit12 K mg CH) (rS : Rd0 P w K mg base "_law_start" 3 ["_law_script"] (spStart K)) (rV : Rd0 P w K mg base "_law_value" 3 ["_law_state"] spValue)
    (rN : Rd0 P w K mg base "_law_fields_stand" 3 ["_law_a", "_law_b", "_law_c"] spStand) (rF : Rd0 P w K mg base "_law_first" 3 ["_law_e"] (spWho K 0)) (rE : Rd0 P w K mg base "_law_second" 3 ["_law_e"] (spWho K 10)) :
    FnOk P w K mg base CX0 4 f fd ["_law_script"] (spLaw K) := by
  have VE := PySem.F.excBase_ValueError
  have RT := PySem.F.excBase_RuntimeError
  refine F.ok scLaw (fun vs H Q E h => ?_) (fun cdv Ar outer s H vs Q E hr h => ?_)
  · obtain ⟨a, ns, rfl, _⟩ := h
    rfl
  · obtain ⟨a, ns, rfl, hS, hlen, q⟩ := h
    have hr2 : Room 2 _ := hr.mono (by decide)
    have T' := A.toTxt12
    have n5 := fun (f : Str) => T'.nof (i := 5) (f := f) (d := ⟨"BadRow", ["owner", "method", "at"], false⟩) rfl rfl
    have n6 := fun (f : Str) => T'.nof (i := 6) (f := f) (d := ⟨"BadMethod", ["owner", "method"], false⟩) rfl rfl
    refine ⟨_, --DER
      (pss_cons (ps_set (i := 1) scLaw.nd rfl (.inr rfl) (pe_rd rS hr (by decide) (by rfl) (pa_cons (pv 0) pa_nil)))
        (pss_cons (ps_for PassesOwn.never rfl (pi_range1 (by rfl) T.range (pa_cons pe_int pa_nil)) (pg_name (i := 2) scLaw.nd rfl (.inl rfl)) (pss_cons (ps_asg (pe_lc (own := [("_law_place", 10)]) (g := gName 10) (tt := tYes) rfl scLaw.nd (pi_range1 (by rfl) T.range (pa_cons pe_int pa_nil)) (blkOk_by (N := nLaw) (sc := defScope sLaw) (by decide +kernel)) (fun _ _ _ _ _ => pg_name (i := 10) scLaw.nd rfl (.inl rfl)) (fun _ _ _ _ _ => pts_nil) (fun _ _ _ _ _ => pe_rd rV hr (by decide) (by rfl) (pa_cons (pv 1) pa_nil))) (pg_unl rfl (pgs_cons (pg_name (i := 3) scLaw.nd rfl (.inl rfl)) (pgs_cons (pg_name (i := 4) scLaw.nd rfl (.inl rfl)) (pgs_cons (pg_name (i := 5) scLaw.nd rfl (.inl rfl)) pgs_nil)))))
          (pss_cons (ps_if (pt_not (pt_val (pe_rd rN hr (by decide) (by rfl) (pa_cons (pv 3) (pa_cons (pv 4) (pa_cons (pv 5) pa_nil)))))) (pss_one (ps_ret pe_bl)) pss_nil)
          (pss_cons (ps_set (i := 6) scLaw.nd rfl (.inl rfl) (pe_lst (pa_cons (pe_one1 A.c0 VE hr2 (by rfl) (pa_cons (pv 3) pa_nil)) (pa_cons (pe_one1 A.c1 VE hr2 (by rfl) (pa_cons (pv 4) pa_nil)) (pa_cons (pe_one1 A.c2 VE hr2 (by rfl) (pa_cons (pv 5) pa_nil)) (pa_cons (pe_one1 A.c3 VE hr2 (by rfl) (pa_cons (pv 3) pa_nil)) (pa_cons (pe_one1 A.c4 VE hr2 (by rfl) (pa_cons (pv 4) pa_nil)) (pa_cons (pe_three A.c5 VE hr2 (by rfl) (pa_cons (pv 3) (pa_cons (pv 4) (pa_cons (pv 5) pa_nil)))) pa_nil))))))))
          (pss_cons (ps_aug (i := 6) scLaw.nd rfl (.inl rfl) (pe_lst (pa_cons (pe_two A.c6 VE hr2 (by rfl) (pa_cons (pv 4) (pa_cons (pv 5) pa_nil))) (pa_cons (pe_one1 A.c7 VE hr2 (by rfl) (pa_cons (pv 5) pa_nil)) pa_nil))) iop_ext)
          (pss_cons (ps_aug (i := 6) scLaw.nd rfl (.inl rfl) (pe_lst (pa_cons (pe_one1 A.c8 VE hr2 (by rfl) (pa_cons (pv 3) pa_nil)) (pa_cons (pe_one1 A.c9 VE hr2 (by rfl) (pa_cons (pv 4) pa_nil)) (pa_cons (pe_one1 A.c10 VE hr2 (by rfl) (pa_cons (pv 5) pa_nil)) (pa_cons (pe_one1 A.c11 VE hr2 (by rfl) (pa_cons (pv 3) pa_nil)) (pa_cons (pe_one1 A.c12 VE hr2 (by rfl) (pa_cons (pv 4) pa_nil)) (pa_cons (pe_one1 A.c13 VE hr2 (by rfl) (pa_cons (pv 5) pa_nil)) (pa_cons (pe_one1 A.c14 VE hr2 (by rfl) (pa_cons (pv 3) pa_nil)) (pa_cons (pe_one1 A.c15 VE hr2 (by rfl) (pa_cons (pv 4) pa_nil)) pa_nil))))))))) iop_ext)
          (pss_cons (ps_aug (i := 6) scLaw.nd rfl (.inl rfl) (pe_lst (pa_cons (pe_one1 A.c16 VE hr2 (by rfl) (pa_cons (pv 5) pa_nil)) (pa_cons (pe_xplain0 RT (T'.no (i := 17) rfl rfl) (T'.gl 17 _ rfl) (T'.xc (i := 17) rfl).kC (by rfl)) (pa_cons (pe_xplain0 RT (T'.no (i := 18) rfl rfl) (T'.gl 18 _ rfl) (T'.xc (i := 18) rfl).kC (by rfl)) (pa_cons (pe_one1 A.c19 RT hr2 (by rfl) (pa_cons (pv 3) pa_nil)) pa_nil))))) iop_ext)
          (pss_one (ps_for PassesOwn.never rfl (pi_enum (by rfl) T.enu (pa_cons (pv 6) pa_nil)) (pg_tup (by rfl) (pgs_cons (pg_name (i := 7) scLaw.nd rfl (.inr rfl)) (pgs_cons (pg_name (i := 8) scLaw.nd rfl (.inl rfl)) pgs_nil))) (pss_cons (ps_if (pt_cmpR (op_neD hr.units) (pe_op op_cat (pe_rd rF hr (by decide) (by rfl) (pa_cons (pv 8) pa_nil)) (pe_rd rE hr (by decide) (by rfl) (pa_cons (pv 8) pa_nil))) (pe_lc (own := [("_law_place", 10)]) (g := gName 10) (tt := tYes) rfl scLaw.nd (pi_range1 (by rfl) T.range (pa_cons pe_int pa_nil)) (blkOk_by (N := nLaw) (sc := defScope sLaw) (by decide +kernel)) (fun _ _ _ _ _ => pg_name (i := 10) scLaw.nd rfl (.inl rfl)) (fun _ _ _ _ _ => pts_nil) (fun _ _ _ _ _ => pe_cmpR op_eq (pv 10) (pv 7) (nomark _))) (nomark _)) (pss_one (ps_ret pe_bl)) pss_nil)
            (pss_cons (ps_set (i := 9) scLaw.nd rfl (.inl rfl) (pe_cmpR op_lt (pv 7) pe_int (nomark _)))
            (pss_cons (ps_if (PW.pt (pw_or (pt_cmpR op_ne (pe_callB call_xis (by rfl) A.isi boot_isi (pa_cons (pv 8) (pa_cons (pe_cls (by rfl) Kt.gH) pa_nil))) (pv 9) (nomark _)) (pw_or1 (pt_cmpR op_ne (pe_callB call_xis (by rfl) A.isi boot_isi (pa_cons (pv 8) (pa_cons (pe_bltn (v := .ty "ValueError") (u := .type "ValueError") (by rfl) T.ve (by decide +kernel) rfl) pa_nil))) (pv 9) (nomark _))))) (pss_one (ps_ret pe_bl)) pss_nil)
            (pss_one (ps_if (PW.pt (pw_or (pt_cmpR op_eq (pe_callB call_xis (by rfl) A.isi boot_isi (pa_cons (pv 8) (pa_cons (pe_bltn (v := .ty "RuntimeError") (u := .type "RuntimeError") (by rfl) T.re (by decide +kernel) rfl) pa_nil))) (pv 9) (nomark _)) (pw_or1 (pt_val (pe_callB call_xis (by rfl) A.isi boot_isi (pa_cons (pv 8) (pa_cons (pe_bltn (v := .ty "LookupError") (u := .type "LookupError") (by rfl) T.le (by decide +kernel) rfl) pa_nil))))))) (pss_one (ps_ret pe_bl)) pss_nil))))))))))))))
        (pss_one (ps_ret (pe_and (pe_callB call_xis (by rfl) A.isi boot_isi (pa_cons (pe_xplain1 VE Kt.xH Kt.gH Kt.kH (by rfl) (pa_cons pe_str pa_nil)) (pa_cons (pe_bltn (v := .ty "ValueError") (u := .type "ValueError") (by rfl) T.ve (by decide +kernel) rfl) pa_nil))) (pe_one (pe_not (pe_callB call_xis (by rfl) A.isi boot_isi (pa_cons (pe_xplain1 VE Kt.xH Kt.gH Kt.kH (by rfl) (pa_cons pe_str pa_nil)) (pa_cons (pe_cls (by rfl) (T'.gl 1 _ rfl)) pa_nil)))))))))), ?_⟩
    -- state
    refine ⟨_, rfl, a, ns, rfl, hS, hlen, fun H1 st g sm e1 _ _ _ d1 => ?_⟩
    refine ⟨4, rfl, by decide, by decide, ?_⟩
    refine for_range (lo := 0) (n := 4) (fun _ σ H' => ∃ x2 x3 x4 x5 x6 x7 x8 x9 x10, σ = [some (.ref a), some (.ref st), x2, x3, x4, x5, x6, x7, x8, x9, x10] ∧ DrawSt H' st g sm) ⟨none, none, none, none, none, none, none, none, none, rfl, d1⟩ ?_ ?_
    · rintro tn σ H2 htn ⟨x2, x3, x4, x5, x6, x7, x8, x9, x10, rfl, d2⟩
      -- a, b, c
      refine ⟨3, rfl, by decide, by decide, fun D nD => ?_⟩
      have oD := d2.off nD
      refine lc_range (lo := 0) (n := 3) (fun i H' => Ext (Dr st g) H2 H' ∧ DrawSt H' st g sm ∧ ∃ (vs : List V) (ds : List PyData), H' D = some (.lst vs) ∧ vs.length = i ∧ Paired (LV (fun b => Dr st g b ∨ b = D) H') vs ds) ?_ ?_ ?_
      · exact ⟨Ext.new nD, d2.same (same_new nD), [], [], upd_same, rfl, .nil⟩
      · rintro i H3 hi ⟨e3, d3, vs, ds, hD, hl, hv⟩
        refine ⟨rfl, _, rfl, st, g, sm, rfl, d3, fun v dd H4 e4 d4 lv => ?_⟩
        have eD : Ext (fun b => Dr st g b ∨ b = D) H4 (upd H4 D (.lst (vs ++ [v]))) := Ext.put (.inr rfl)
        refine ⟨vs, e4 _ _ hD (dr_off oD), small1000 (by omega), (e3.trans e4).puts nD, d4.put oD, vs ++ [v], ds ++ [dd], upd_same, by rw [List.length_append, hl]; rfl, ?_⟩
        refine paired_snoc (lvs_extT hv ((e4.mono fun b => .inl).trans eD) fun b z => z) ?_
        refine (lv.mono fun b z => ?_).ext eD fun b z => z
        rcases z with z | z
        · exact .inl z
        · refine .inr fun y => ?_
          rw [z, hD] at y
          cases y
      · rintro H3 ⟨e3, d3, vs, ds, hD, hl, hv⟩
        obtain ⟨va, vb, vc, rfl⟩ : ∃ va vb vc, vs = [va, vb, vc] := by
          match vs, hl with
          | [x, y, z], _ => exact ⟨x, y, z, rfl⟩
        cases hv with
        | cons la hv =>
        cases hv with
        | cons lb hv =>
        cases hv with
        | cons lc hv =>
        cases hv
        refine ⟨D, [va, vb, vc], rfl, SqL.of hD, rfl, va, [vb, vc], rfl, vb, [vc], rfl, vc, [], rfl, rfl, ?_⟩
        -- fields stand
        refine ⟨_, rfl, _, rfl, _, rfl, _, va, vb, vc, _, _, _, rfl, la, lb, lc, fun H4 e4 => ⟨true, rfl, iteF ?_⟩⟩
        have s4 : Ex H3 H4 := e4
        refine nextL ?_
        dsimp only
        refine seqAsgLst ?_
        refine c1 T' (i := 0) rfl rfl rfl rfl (ev_var rfl) fun a0 H5 e5 _ h0 => ?_
        have s5 := s4.trans e5
        have X0 : ErrsAt K H5 0 [V.ref a0] := .cons h0.is .nil
        refine c1 T' (i := 1) rfl rfl rfl rfl (ev_var rfl) fun a1 H6 e6 _ h1 => ?_
        have s6 := s5.trans e6
        have X1 : ErrsAt K H6 0 [V.ref a0, V.ref a1] := (X0.ex e6).app (ys := [V.ref a1]) (.cons h1.is .nil)
        refine c1 T' (i := 2) rfl rfl rfl rfl (ev_var rfl) fun a2 H7 e7 _ h2 => ?_
        have s7 := s6.trans e7
        have X2 : ErrsAt K H7 0 [V.ref a0, V.ref a1, V.ref a2] := (X1.ex e7).app (ys := [V.ref a2]) (.cons h2.is .nil)
        refine c1 T' (i := 3) rfl rfl rfl rfl (ev_var rfl) fun a3 H8 e8 _ h3 => ?_
        have s8 := s7.trans e8
        have X3 : ErrsAt K H8 0 [V.ref a0, V.ref a1, V.ref a2, V.ref a3] := (X2.ex e8).app (ys := [V.ref a3]) (.cons h3.is .nil)
        refine c1 T' (i := 4) rfl rfl rfl rfl (ev_var rfl) fun a4 H9 e9 _ h4 => ?_
        have s9 := s8.trans e9
        have X4 : ErrsAt K H9 0 [V.ref a0, V.ref a1, V.ref a2, V.ref a3, V.ref a4] := (X3.ex e9).app (ys := [V.ref a4]) (.cons h4.is .nil)
        refine cE (ee_mk3 (T'.xc (i := 5) rfl) (n5 "owner" (by simp)) (n5 "method" (by simp)) (n5 "at" (by simp)) (ev_var rfl) (ev_var rfl) (ev_var rfl)) fun a5 H10 e10 _ h5 => ?_
        have s10 := s9.trans e10
        have X5 : ErrsAt K H10 0 [V.ref a0, V.ref a1, V.ref a2, V.ref a3, V.ref a4, V.ref a5] := (X4.ex e10).app (ys := [V.ref a5]) (.cons h5.is .nil)
        refine ⟨by show 6 ≤ sizeLine; decide, fun m nm => ?_⟩
        have m0 : H3 m = none := fresh_back s10 nm
        have hm : (upd H10 m (.lst [V.ref a0, V.ref a1, V.ref a2, V.ref a3, V.ref a4, V.ref a5])) m = some (.lst [V.ref a0, V.ref a1, V.ref a2, V.ref a3, V.ref a4, V.ref a5]) := upd_same
        have s11 : Ex H3 (upd H10 m (.lst [V.ref a0, V.ref a1, V.ref a2, V.ref a3, V.ref a4, V.ref a5])) := s10.trans (Ex.new nm)
        replace X5 := X5.ex (Ex.new (o := .lst [V.ref a0, V.ref a1, V.ref a2, V.ref a3, V.ref a4, V.ref a5]) nm)
        generalize upd H10 m (.lst [V.ref a0, V.ref a1, V.ref a2, V.ref a3, V.ref a4, V.ref a5]) = H11 at hm s11 X5 ⊢
        refine seqAugLst rfl ?_
        refine cE (ee_mk2 (T'.xc (i := 6) rfl) (n6 "owner" (by simp)) (n6 "method" (by simp)) (ev_var rfl) (ev_var rfl)) fun a6 H12 e12 _ h6 => ?_
        have s12 := s11.trans e12
        have X6 : ErrsAt K H12 0 [V.ref a0, V.ref a1, V.ref a2, V.ref a3, V.ref a4, V.ref a5, V.ref a6] := (X5.ex e12).app (ys := [V.ref a6]) (.cons h6.is .nil)
        refine c1 T' (i := 7) rfl rfl rfl rfl (ev_var rfl) fun a7 H13 e13 _ h7 => ?_
        have s13 := s12.trans e13
        have X7 : ErrsAt K H13 0 [V.ref a0, V.ref a1, V.ref a2, V.ref a3, V.ref a4, V.ref a5, V.ref a6, V.ref a7] := (X6.ex e13).app (ys := [V.ref a7]) (.cons h7.is .nil)
        refine ⟨by show 2 ≤ sizeLine; decide, fun b6 nb6 => ?_⟩
        have hm6 : (upd H13 b6 (.lst [V.ref a6, V.ref a7])) m = some (.lst [V.ref a0, V.ref a1, V.ref a2, V.ref a3, V.ref a4, V.ref a5]) := Ex.new nb6 _ _ (e13 _ _ (e12 _ _ hm))
        refine ⟨m, b6, _, _, rfl, rfl, hm6, upd_same, by show 6+2 ≤ sizeLine; decide, ?_⟩
        have s14 : Ex H3 (upd (upd H13 b6 (.lst [V.ref a6, V.ref a7])) m (.lst [V.ref a0, V.ref a1, V.ref a2, V.ref a3, V.ref a4, V.ref a5, V.ref a6, V.ref a7])) := (s13.trans (Ex.new nb6)).mut m0
        replace hm : (upd (upd H13 b6 (.lst [V.ref a6, V.ref a7])) m (.lst [V.ref a0, V.ref a1, V.ref a2, V.ref a3, V.ref a4, V.ref a5, V.ref a6, V.ref a7])) m = some (.lst [V.ref a0, V.ref a1, V.ref a2, V.ref a3, V.ref a4, V.ref a5, V.ref a6, V.ref a7]) := upd_same
        replace X7 := (X7.ex (Ex.new (o := .lst [V.ref a6, V.ref a7]) nb6)).put (zs := [V.ref a0, V.ref a1, V.ref a2, V.ref a3, V.ref a4, V.ref a5, V.ref a6, V.ref a7]) hm6
        change tSeq _ _ _ _ (upd (upd H13 b6 (.lst [V.ref a6, V.ref a7])) m (.lst [V.ref a0, V.ref a1, V.ref a2, V.ref a3, V.ref a4, V.ref a5, V.ref a6, V.ref a7]))
        generalize upd (upd H13 b6 (.lst [V.ref a6, V.ref a7])) m (.lst [V.ref a0, V.ref a1, V.ref a2, V.ref a3, V.ref a4, V.ref a5, V.ref a6, V.ref a7]) = H14 at hm s14 X7 ⊢
        refine seqAugLst rfl ?_
        refine c1 T' (i := 8) rfl rfl rfl rfl (ev_var rfl) fun a8 H15 e15 _ h8 => ?_
        have s15 := s14.trans e15
        have X8 : ErrsAt K H15 0 [V.ref a0, V.ref a1, V.ref a2, V.ref a3, V.ref a4, V.ref a5, V.ref a6, V.ref a7, V.ref a8] := (X7.ex e15).app (ys := [V.ref a8]) (.cons h8.is .nil)
        refine c1 T' (i := 9) rfl rfl rfl rfl (ev_var rfl) fun a9 H16 e16 _ h9 => ?_
        have s16 := s15.trans e16
        have X9 : ErrsAt K H16 0 [V.ref a0, V.ref a1, V.ref a2, V.ref a3, V.ref a4, V.ref a5, V.ref a6, V.ref a7, V.ref a8, V.ref a9] := (X8.ex e16).app (ys := [V.ref a9]) (.cons h9.is .nil)
        refine c1 T' (i := 10) rfl rfl rfl rfl (ev_var rfl) fun a10 H17 e17 _ h10 => ?_
        have s17 := s16.trans e17
        have X10 : ErrsAt K H17 0 [V.ref a0, V.ref a1, V.ref a2, V.ref a3, V.ref a4, V.ref a5, V.ref a6, V.ref a7, V.ref a8, V.ref a9, V.ref a10] := (X9.ex e17).app (ys := [V.ref a10]) (.cons h10.is .nil)
        refine c1 T' (i := 11) rfl rfl rfl rfl (ev_var rfl) fun a11 H18 e18 _ h11 => ?_
        have s18 := s17.trans e18
        have X11 : ErrsAt K H18 0 [V.ref a0, V.ref a1, V.ref a2, V.ref a3, V.ref a4, V.ref a5, V.ref a6, V.ref a7, V.ref a8, V.ref a9, V.ref a10, V.ref a11] := (X10.ex e18).app (ys := [V.ref a11]) (.cons h11.is .nil)
        refine c1 T' (i := 12) rfl rfl rfl rfl (ev_var rfl) fun a12 H19 e19 _ h12 => ?_
        have s19 := s18.trans e19
        have X12 : ErrsAt K H19 0 [V.ref a0, V.ref a1, V.ref a2, V.ref a3, V.ref a4, V.ref a5, V.ref a6, V.ref a7, V.ref a8, V.ref a9, V.ref a10, V.ref a11, V.ref a12] := (X11.ex e19).app (ys := [V.ref a12]) (.cons h12.is .nil)
        refine c1 T' (i := 13) rfl rfl rfl rfl (ev_var rfl) fun a13 H20 e20 _ h13 => ?_
        have s20 := s19.trans e20
        have X13 : ErrsAt K H20 0 [V.ref a0, V.ref a1, V.ref a2, V.ref a3, V.ref a4, V.ref a5, V.ref a6, V.ref a7, V.ref a8, V.ref a9, V.ref a10, V.ref a11, V.ref a12, V.ref a13] := (X12.ex e20).app (ys := [V.ref a13]) (.cons h13.is .nil)
        refine c1 T' (i := 14) rfl rfl rfl rfl (ev_var rfl) fun a14 H21 e21 _ h14 => ?_
        have s21 := s20.trans e21
        have X14 : ErrsAt K H21 0 [V.ref a0, V.ref a1, V.ref a2, V.ref a3, V.ref a4, V.ref a5, V.ref a6, V.ref a7, V.ref a8, V.ref a9, V.ref a10, V.ref a11, V.ref a12, V.ref a13, V.ref a14] := (X13.ex e21).app (ys := [V.ref a14]) (.cons h14.is .nil)
        refine c1 T' (i := 15) rfl rfl rfl rfl (ev_var rfl) fun a15 H22 e22 _ h15 => ?_
        have s22 := s21.trans e22
        have X15 : ErrsAt K H22 0 [V.ref a0, V.ref a1, V.ref a2, V.ref a3, V.ref a4, V.ref a5, V.ref a6, V.ref a7, V.ref a8, V.ref a9, V.ref a10, V.ref a11, V.ref a12, V.ref a13, V.ref a14, V.ref a15] := (X14.ex e22).app (ys := [V.ref a15]) (.cons h15.is .nil)
        refine ⟨by show 8 ≤ sizeLine; decide, fun b8 nb8 => ?_⟩
        have hm8 : (upd H22 b8 (.lst [V.ref a8, V.ref a9, V.ref a10, V.ref a11, V.ref a12, V.ref a13, V.ref a14, V.ref a15])) m = some (.lst [V.ref a0, V.ref a1, V.ref a2, V.ref a3, V.ref a4, V.ref a5, V.ref a6, V.ref a7]) := Ex.new nb8 _ _ (e22 _ _ (e21 _ _ (e20 _ _ (e19 _ _ (e18 _ _ (e17 _ _ (e16 _ _ (e15 _ _ hm))))))))
        refine ⟨m, b8, _, _, rfl, rfl, hm8, upd_same, by show 8+8 ≤ sizeLine; decide, ?_⟩
        have s23 : Ex H3 (upd (upd H22 b8 (.lst [V.ref a8, V.ref a9, V.ref a10, V.ref a11, V.ref a12, V.ref a13, V.ref a14, V.ref a15])) m (.lst [V.ref a0, V.ref a1, V.ref a2, V.ref a3, V.ref a4, V.ref a5, V.ref a6, V.ref a7, V.ref a8, V.ref a9, V.ref a10, V.ref a11, V.ref a12, V.ref a13, V.ref a14, V.ref a15])) := (s22.trans (Ex.new nb8)).mut m0
        replace hm : (upd (upd H22 b8 (.lst [V.ref a8, V.ref a9, V.ref a10, V.ref a11, V.ref a12, V.ref a13, V.ref a14, V.ref a15])) m (.lst [V.ref a0, V.ref a1, V.ref a2, V.ref a3, V.ref a4, V.ref a5, V.ref a6, V.ref a7, V.ref a8, V.ref a9, V.ref a10, V.ref a11, V.ref a12, V.ref a13, V.ref a14, V.ref a15])) m = some (.lst [V.ref a0, V.ref a1, V.ref a2, V.ref a3, V.ref a4, V.ref a5, V.ref a6, V.ref a7, V.ref a8, V.ref a9, V.ref a10, V.ref a11, V.ref a12, V.ref a13, V.ref a14, V.ref a15]) := upd_same
        replace X15 := (X15.ex (Ex.new (o := .lst [V.ref a8, V.ref a9, V.ref a10, V.ref a11, V.ref a12, V.ref a13, V.ref a14, V.ref a15]) nb8)).put (zs := [V.ref a0, V.ref a1, V.ref a2, V.ref a3, V.ref a4, V.ref a5, V.ref a6, V.ref a7, V.ref a8, V.ref a9, V.ref a10, V.ref a11, V.ref a12, V.ref a13, V.ref a14, V.ref a15]) hm8
        change tSeq _ _ _ _ (upd (upd H22 b8 (.lst [V.ref a8, V.ref a9, V.ref a10, V.ref a11, V.ref a12, V.ref a13, V.ref a14, V.ref a15])) m (.lst [V.ref a0, V.ref a1, V.ref a2, V.ref a3, V.ref a4, V.ref a5, V.ref a6, V.ref a7, V.ref a8, V.ref a9, V.ref a10, V.ref a11, V.ref a12, V.ref a13, V.ref a14, V.ref a15]))
        generalize upd (upd H22 b8 (.lst [V.ref a8, V.ref a9, V.ref a10, V.ref a11, V.ref a12, V.ref a13, V.ref a14, V.ref a15])) m (.lst [V.ref a0, V.ref a1, V.ref a2, V.ref a3, V.ref a4, V.ref a5, V.ref a6, V.ref a7, V.ref a8, V.ref a9, V.ref a10, V.ref a11, V.ref a12, V.ref a13, V.ref a14, V.ref a15]) = H23 at hm s23 X15 ⊢
        refine seqAugLst rfl ?_
        refine c1 T' (i := 16) rfl rfl rfl rfl (ev_var rfl) fun a16 H24 e24 _ h16 => ?_
        have s24 := s23.trans e24
        have X16 : ErrsAt K H24 0 [V.ref a0, V.ref a1, V.ref a2, V.ref a3, V.ref a4, V.ref a5, V.ref a6, V.ref a7, V.ref a8, V.ref a9, V.ref a10, V.ref a11, V.ref a12, V.ref a13, V.ref a14, V.ref a15, V.ref a16] := (X15.ex e24).app (ys := [V.ref a16]) (.cons h16.is .nil)
        refine c0 fun a17 H25 e25 _ h17 => ?_
        have s25 := s24.trans e25
        have X17 : ErrsAt K H25 0 [V.ref a0, V.ref a1, V.ref a2, V.ref a3, V.ref a4, V.ref a5, V.ref a6, V.ref a7, V.ref a8, V.ref a9, V.ref a10, V.ref a11, V.ref a12, V.ref a13, V.ref a14, V.ref a15, V.ref a16, V.ref a17] := (X16.ex e25).app (ys := [V.ref a17]) (.cons h17 .nil)
        refine c0 fun a18 H26 e26 _ h18 => ?_
        have s26 := s25.trans e26
        have X18 : ErrsAt K H26 0 [V.ref a0, V.ref a1, V.ref a2, V.ref a3, V.ref a4, V.ref a5, V.ref a6, V.ref a7, V.ref a8, V.ref a9, V.ref a10, V.ref a11, V.ref a12, V.ref a13, V.ref a14, V.ref a15, V.ref a16, V.ref a17, V.ref a18] := (X17.ex e26).app (ys := [V.ref a18]) (.cons h18 .nil)
        refine c1 T' (i := 19) rfl rfl rfl rfl (ev_var rfl) fun a19 H27 e27 _ h19 => ?_
        have s27 := s26.trans e27
        have X19 : ErrsAt K H27 0 [V.ref a0, V.ref a1, V.ref a2, V.ref a3, V.ref a4, V.ref a5, V.ref a6, V.ref a7, V.ref a8, V.ref a9, V.ref a10, V.ref a11, V.ref a12, V.ref a13, V.ref a14, V.ref a15, V.ref a16, V.ref a17, V.ref a18, V.ref a19] := (X18.ex e27).app (ys := [V.ref a19]) (.cons h19.is .nil)
        refine ⟨by show 4 ≤ sizeLine; decide, fun b16 nb16 => ?_⟩
        have hm16 : (upd H27 b16 (.lst [V.ref a16, V.ref a17, V.ref a18, V.ref a19])) m = some (.lst [V.ref a0, V.ref a1, V.ref a2, V.ref a3, V.ref a4, V.ref a5, V.ref a6, V.ref a7, V.ref a8, V.ref a9, V.ref a10, V.ref a11, V.ref a12, V.ref a13, V.ref a14, V.ref a15]) := Ex.new nb16 _ _ (e27 _ _ (e26 _ _ (e25 _ _ (e24 _ _ hm))))
        refine ⟨m, b16, _, _, rfl, rfl, hm16, upd_same, by show 16+4 ≤ sizeLine; decide, ?_⟩
        have s28 : Ex H3 (upd (upd H27 b16 (.lst [V.ref a16, V.ref a17, V.ref a18, V.ref a19])) m (.lst [V.ref a0, V.ref a1, V.ref a2, V.ref a3, V.ref a4, V.ref a5, V.ref a6, V.ref a7, V.ref a8, V.ref a9, V.ref a10, V.ref a11, V.ref a12, V.ref a13, V.ref a14, V.ref a15, V.ref a16, V.ref a17, V.ref a18, V.ref a19])) := (s27.trans (Ex.new nb16)).mut m0
        replace hm : (upd (upd H27 b16 (.lst [V.ref a16, V.ref a17, V.ref a18, V.ref a19])) m (.lst [V.ref a0, V.ref a1, V.ref a2, V.ref a3, V.ref a4, V.ref a5, V.ref a6, V.ref a7, V.ref a8, V.ref a9, V.ref a10, V.ref a11, V.ref a12, V.ref a13, V.ref a14, V.ref a15, V.ref a16, V.ref a17, V.ref a18, V.ref a19])) m = some (.lst [V.ref a0, V.ref a1, V.ref a2, V.ref a3, V.ref a4, V.ref a5, V.ref a6, V.ref a7, V.ref a8, V.ref a9, V.ref a10, V.ref a11, V.ref a12, V.ref a13, V.ref a14, V.ref a15, V.ref a16, V.ref a17, V.ref a18, V.ref a19]) := upd_same
        replace X19 := (X19.ex (Ex.new (o := .lst [V.ref a16, V.ref a17, V.ref a18, V.ref a19]) nb16)).put (zs := [V.ref a0, V.ref a1, V.ref a2, V.ref a3, V.ref a4, V.ref a5, V.ref a6, V.ref a7, V.ref a8, V.ref a9, V.ref a10, V.ref a11, V.ref a12, V.ref a13, V.ref a14, V.ref a15, V.ref a16, V.ref a17, V.ref a18, V.ref a19]) hm16
        change tFor _ _ _ _ _ (upd (upd H27 b16 (.lst [V.ref a16, V.ref a17, V.ref a18, V.ref a19])) m (.lst [V.ref a0, V.ref a1, V.ref a2, V.ref a3, V.ref a4, V.ref a5, V.ref a6, V.ref a7, V.ref a8, V.ref a9, V.ref a10, V.ref a11, V.ref a12, V.ref a13, V.ref a14, V.ref a15, V.ref a16, V.ref a17, V.ref a18, V.ref a19]))
        generalize upd (upd H27 b16 (.lst [V.ref a16, V.ref a17, V.ref a18, V.ref a19])) m (.lst [V.ref a0, V.ref a1, V.ref a2, V.ref a3, V.ref a4, V.ref a5, V.ref a6, V.ref a7, V.ref a8, V.ref a9, V.ref a10, V.ref a11, V.ref a12, V.ref a13, V.ref a14, V.ref a15, V.ref a16, V.ref a17, V.ref a18, V.ref a19]) = H28 at hm s28 X19 ⊢
        -- each of them
        refine ⟨_, rfl, m, [V.ref a0, V.ref a1, V.ref a2, V.ref a3, V.ref a4, V.ref a5, V.ref a6, V.ref a7, V.ref a8, V.ref a9, V.ref a10, V.ref a11, V.ref a12, V.ref a13, V.ref a14, V.ref a15, V.ref a16, V.ref a17, V.ref a18, V.ref a19], rfl, SqL.of hm, ?_⟩
        refine for_enum (K := K) (a := m) (xs := [V.ref a0, V.ref a1, V.ref a2, V.ref a3, V.ref a4, V.ref a5, V.ref a6, V.ref a7, V.ref a8, V.ref a9, V.ref a10, V.ref a11, V.ref a12, V.ref a13, V.ref a14, V.ref a15, V.ref a16, V.ref a17, V.ref a18, V.ref a19]) (fun _ σ H' => ∃ x7 x8 x9 x10, σ = [some (.ref a), some (.ref st), some (.int (0 + (tn : Int))), some va, some vb, some vc, some (.ref m), x7, x8, x9, x10] ∧ Ex H28 H') ⟨_, _, _, _, rfl, Ex.refl _⟩ (fun i σ H' _ ⟨_, _, _, _, _, e'⟩ => SqL.of (e' _ _ hm)) ?_ ?_
        · rintro i x T0 σ H' hx ⟨y7, y8, y9, y10, rfl, e'⟩ nT
          have hi : i < 20 := (List.getElem?_eq_some_iff.mp hx).1
          obtain ⟨ai, rfl, hE0⟩ := X19 i x hx
          rw [Nat.zero_add] at hE0
          refine ⟨T0, _, rfl, SqT.of upd_same, rfl, .int i, [.ref ai], rfl, .ref ai, [], rfl, rfl, ?_⟩
          have eT : Ex H28 (upd H' T0 (.tup [.int i, .ref ai])) := e'.trans (Ex.new nT)
          have hE := hE0.ex eT
          generalize upd H' T0 (.tup [.int i, .ref ai]) = K0 at eT hE ⊢
          change tSeq _ _ _ _ K0
          obtain ⟨d, hd, hown⟩ := own12 i hi
          have spl : ∀ lo, SpL (spWho K lo) ([.ref ai] ++ []) K0 (who i lo) := fun lo Hx ex Qx k Ex' => ⟨ai, i, rfl, hi, hE.ex ex, k⟩
          have eA : EvL (tOp rCat (tCall (spWho K 0) [] E0 (tCons (tVar 8) tNil)) (tCall (spWho K 10) [] E0 (tCons (tVar 8) tNil))) [some (.ref a), some (.ref st), some (.int (0 + (tn : Int))), some va, some vb, some vc, some (.ref m), some (.int i), some (.ref ai), y9, y10] K0 (((List.range 20).map fun j => decide (i = j)).map V.bl) := by
            rw [← who_all i hi]
            exact el_cat (el_call (ea_cons (ev_var rfl) ea_nil) (spl 0)) (el_call (ea_cons (ev_var rfl) ea_nil) (spl 10)) (by show 10 + 10 ≤ 100000; decide)
          have eB : EvL (tLc (iRng1 (tCons (tC (.int 20)) tNil)) (gName 10) tYes (tOp rEq (tVar 10) (tVar 7)) [10]) [some (.ref a), some (.ref st), some (.int (0 + (tn : Int))), some va, some vb, some vc, some (.ref m), some (.int i), some (.ref ai), y9, y10] K0 (((List.range 20).map fun j => decide (i = j)).map V.bl) := by
            rw [← who_comp i hi]
            exact el_lcR1 (fun _ => true) (fun k => V.bl (decide (V.int (k : Int) = V.int (i : Int)))) (ea_cons ev_c ea_nil) (by decide) wipe1 (fun k Hx _ _ => et_yes) (fun k Hx _ _ _ => ev_op (ev_var rfl) (ev_var rfl) (rv_eq rfl))
          refine q_when (et_test (ev_same (S := fun _ => False) (bools _) eA eB)) (fun z => nomatch z) fun _ K1 f1 => ?_
          refine q_asg (ev_op (ev_var rfl) ev_c rv_I0) fun K2 f2 => ?_
          have hE2 := hE.ex (f1.trans f2)
          have ow : ∀ b : Bool, b = decide ((i : Int) < 17) → (!decide (V.bl b = V.bl (decide ((i : Int) < 17)))) = false := fun b hb => by rw [hb, decide_eq_true rfl]; rfl
          refine q_when (b := false) (et_or (a := false) (b := false) (et_test (Evl.ev_is (ev_op (ev_isT (T'.exc hi) hE2 (.own _) (Kt.toH i d hd) (ev_var rfl) ev_c) (ev_var rfl) (rv_ne rfl)) (congrArg V.bl (ow _ hown)))) fun _ =>
            et_test (Evl.ev_is (ev_op (ev_isT (T'.exc hi) hE2 (.ty _) (Kt.toV i d hd) (ev_var rfl) ev_c) (ev_var rfl) (rv_ne rfl)) (congrArg V.bl (ow _ hown)))) (fun z => nomatch z) fun _ K3 f3 => ?_
          have hE3 := hE2.ex f3
          have ow2 : decide (V.bl d.rt = V.bl (decide ((i : Int) < 17))) = false := by
            rw [← hown, dec_bl]
            cases d.rt <;> rfl
          refine s_when (b := false) (et_or (a := false) (b := false) (et_test (Evl.ev_is (ev_op (ev_isT (T'.exc hi) hE3 (.ty _) (Kt.toR i d hd) (ev_var rfl) ev_c) (ev_var rfl) (rv_eq rfl)) (congrArg V.bl ow2))) fun _ =>
            et_B (ev_isT (T'.exc hi) hE3 (.ty _) (Kt.toL i d hd) (ev_var rfl) ev_c)) (fun z => nomatch z) fun _ K4 f4 => ?_
          exact ⟨_, _, _, _, rfl, eT.trans (((f1.trans f2).trans f3).trans f4)⟩
        · rintro σ H' ⟨y7, y8, y9, y10, rfl, e'⟩
          exact ⟨_, _, _, _, _, _, _, _, _, rfl, d3.same (s28.trans e')⟩
    · rintro σ H' ⟨x2, x3, x4, x5, x6, x7, x8, x9, x10, rfl, dz⟩
      exact ⟨by show 1 ≤ 1000; decide, fun x nx => ⟨x, CH, .ty "ValueError", .type "ValueError", true, rfl, .ty _, Kt.eH, .inl upd_same, Kt.hV, true, rfl, iteT ⟨by show 1 ≤ 1000; decide, fun y ny => ⟨y, CH, .ref (cl K 1), .ref (cl K 1), false, rfl, .own _, Kt.eH, .inl upd_same, Kt.h1, false, rfl, q _⟩⟩⟩⟩
end
end Hc

set_option maxHeartbeats 4000000
/-! A head with facts by names and a test of one's own. -/
namespace Hc
open PySem PySem.Spec PyProof.Rows L2
def seenK (n : Nat) (g : Addr → Option Obj) : PySem.W.Frag := He.frG g (He.asD g n)
def obsC (n : Nat) (fa : List He.Fa) (fn : List He.DefD) (ex : PySem.W.Frag → Bool) (g : Addr → Option Obj) : Bool × He.AlD := (ex (seenK n g), He.obsD fa fn (seenK n g))
def hookC (n : Nat) (fa : List He.Fa) (fn : List He.DefD) (ex : PySem.W.Frag → Bool) : PySem.W.Hook where
  α := Bool × He.AlD
  obs := fun s => obsC n fa fn ex s.heap.get?
  val := fun _ => (true, He.valD fn)
  says := fun _ h => ∃ K : PySem.W.Frag, K.In h ∧ ex K = true ∧ He.SaysD fa fn K
  of := fun _ _ e => ⟨_, He.frG_in, congrArg Prod.fst e, congrArg Prod.snd e⟩
  keeps := fun _ _ _ ⟨K, hK, c⟩ k => ⟨K, PySem.W.Frag.In.keeps hK k, c⟩
def obC (n : Nat) (fa : List He.Fa) (fn : List He.DefD) (ex : PySem.W.Frag → Bool) (s : PySem.W.SharedT) : Bool × He.AlD := obsC n fa fn ex (HandSHeadRun.getT s)
theorem obC_eq (n : Nat) (fa : List He.Fa) (fn : List He.DefD) (ex : PySem.W.Frag → Bool) (s : PySem.W.SharedT) : obC n fa fn ex s = (hookC n fa fn ex).obs s.abs := by
  have e : HandSHeadRun.getT s = s.abs.heap.get? := funext (HandSHeadRun.getT_eq s)
  show obsC n fa fn ex (HandSHeadRun.getT s) = obsC n fa fn ex s.abs.heap.get?
  rw [e]
/-- a def of the text without defaults -/
theorem fun_of {K : PySem.W.Frag} {x q : Str} {st : Stmt} {f : Addr} {fd : FuncData} (F : FunD K x q (defArgs st) (defBody st) (defScope st) [] [] f fd) : Fun K x q st f fd := by
  obtain ⟨oc, od, dV, kV, doc, pm, an, cdv, ct, osl, e, lk, hcd, hd, _⟩ := F.ex
  rcases hd with ⟨_, rfl⟩ | ⟨h, _⟩
  · exact ⟨⟨oc, od, kV, doc, pm, an, cdv, ct, osl, e, lk, hcd⟩, F.kp⟩
  · exact absurd rfl h
/-- a global def as data; a class's maker -/
def dk (x : Str) (st : Stmt) : He.DefD := ⟨(x, none), x, x, defArgs st, defBody st, defScope st, [], []⟩
def dmk (C m q : Str) (st : Stmt) : He.DefD := ⟨(C, some m), m, q, defArgs st, defBody st, defScope st, [], []⟩
theorem def_of {fa : List He.Fa} {fn : List He.DefD} {K : PySem.W.Frag} (c : He.SaysD fa fn K) (i : Nat) {x : Str} {st : Stmt} (h : fn[i]? = some (dk x st) := by rfl) : ∃ fd, Fun K x x st (He.ga K x) fd := by
  obtain ⟨fd, F⟩ := c.def_ i h
  exact ⟨fd, fun_of F⟩
theorem mth_of {fa : List He.Fa} {fn : List He.DefD} {K : PySem.W.Frag} (c : He.SaysD fa fn K) (i : Nat) {C m q : Str} {st : Stmt} (h : fn[i]? = some (dmk C m q st) := by rfl) : ∃ fd, Fun K m q st (He.ma K (He.ga K C) m) fd := by
  obtain ⟨fd, F⟩ := c.def_ i h
  exact ⟨fd, fun_of F⟩
end Hc

set_option maxHeartbeats 0
namespace Hc
open PySem PySem.Spec PyProof.Rows L2
def fn12 : List He.DefD := [dk "_law_start" (top 23), dk "_law_draw" (top 24), dk "_law_of" (top 25), dk "_law_value" (top 26), dk "_law_fields_stand" (top 27), dk "_law_first" (top 28), dk "_law_second" (top 29), dk "law" (top 30),
  dmk "BadShape" "__init__" "BadShape.__init__" (inClass (top 2) 0), dmk "BadLine" "__init__" "BadLine.__init__" (inClass (top 3) 0), dmk "NoClass" "__init__" "NoClass.__init__" (inClass (top 4) 0), dmk "BadField" "__init__" "BadField.__init__" (inClass (top 5) 0),
  dmk "TooMany" "__init__" "TooMany.__init__" (inClass (top 6) 0), dmk "BadRow" "__init__" "BadRow.__init__" (inClass (top 7) 0), dmk "BadMethod" "__init__" "BadMethod.__init__" (inClass (top 8) 0), dmk "BadDeed" "__init__" "BadDeed.__init__" (inClass (top 9) 0),
  dmk "BadPlace" "__init__" "BadPlace.__init__" (inClass (top 10) 0), dmk "BadWorld" "__init__" "BadWorld.__init__" (inClass (top 11) 0), dmk "BadLabel" "__init__" "BadLabel.__init__" (inClass (top 12) 0), dmk "BadGoal" "__init__" "BadGoal.__init__" (inClass (top 13) 0),
  dmk "BadWhen" "__init__" "BadWhen.__init__" (inClass (top 14) 0), dmk "BadMend" "__init__" "BadMend.__init__" (inClass (top 15) 0), dmk "NoDoor" "__init__" "NoDoor.__init__" (inClass (top 16) 0), dmk "BadName" "__init__" "BadName.__init__" (inClass (top 17) 0),
  dmk "UnlikeFaces" "__init__" "UnlikeFaces.__init__" (inClass (top 18) 0), dmk "Shut" "__init__" "Shut.__init__" (inClass (top 21) 0)]
def fa12 : List He.Fa := [.glo "_law_start", .glo "_law_draw", .glo "_law_of", .glo "_law_value", .glo "_law_fields_stand", .glo "_law_first", .glo "_law_second", .glo "law", .free "int", .free "abs", .free "len", .free "list", .free "range", .free "enumerate", .free "isinstance", .free "ValueError", .free "RuntimeError", .free "LookupError"]
def heD : ErrD := ⟨"HandedcopiesError", [], false⟩
def ex12 (K : PySem.W.Frag) : Bool := errsOk K errs12 && (kitOk K errs12 && (glOk K "HandedcopiesError" && (xcOk K (He.ga K "HandedcopiesError") heD && (PySem.W.excIn K (He.ga K "HandedcopiesError") veB veN && (kitTo K errs12 (.ref (He.ga K "HandedcopiesError")) (fun d => !d.rt) && (kitTo K errs12 (.type "ValueError") (fun d => !d.rt) &&
  (kitTo K errs12 (.type "RuntimeError") (fun d => d.rt) && (kitTo K errs12 (.type "LookupError") (fun _ => false) && (decide (PySem.W.kitOne K (.ref (He.ga K "HandedcopiesError")) (.type "ValueError") = some true) && decide (PySem.W.kitOne K (.ref (He.ga K "HandedcopiesError")) (.ref (ec K errs12 1)) = some false))))))))))
abbrev R12 : PySem.W.OpenRow := PySem.W.OpenLaw.row PySem.Challenge.rw_handedcopies_k12_errors_made
def lo12 : List Str := ["HandedcopiesError", "BadShape", "BadLine", "NoClass", "BadField", "TooMany", "BadRow", "BadMethod", "BadDeed", "BadPlace", "BadWorld", "BadLabel", "BadGoal", "BadWhen", "BadMend", "NoDoor", "BadName", "UnlikeFaces", "Busy", "NotAsked", "Shut", "_law_start", "_law_draw", "_law_of", "_law_value", "_law_fields_stand", "_law_first", "_law_second"]
theorem run12 (w : World) : HandSHeadRun.RunEq R12 (PySem.W.view R12.prog [30]) (hookC 6 fa12 fn12 ex12) (obC 6 fa12 fn12 ex12) 12000 lo12 w := by
  intro os
  kernel_rfl
end Hc

set_option maxHeartbeats 4000000
namespace Hc
open PySem PySem.Spec PyProof.Rows L2
theorem one_of {P : Program} {w : World} {K : PySem.W.Frag} {mg : Str → Option Value} {base : Heap} {i : Nat} {d : ErrD} {x f q : Str} {st : Stmt} {fd : FuncData} {bm : List Value} {nid B : String} {p1 p2 p3 p4 : Pos} (T : Txt12 K mg) (h : errs12[i]? = some d) (hx : d.name = x) (hf : d.fields = [f]) (hb : d.bm = bm) (hn : d.newId = nid)
    (SF : StoreFacts B bm "object.__setattr__" "object") (F : Fun K "__init__" q st (He.ma K (cl K i) "__init__") fd) (S : FnScope ["self", f] ["self", f] (defScope st)) (hB : defBody st = [.Assign [.Attribute (.Name "self" p1) f p2] (.Name f p3) p4])
    (v1 : (defScope st).names.lookup ("self" : Str) = some .local) (v2 : (defScope st).names.lookup f = some .local) (d1 : (f == ("__debug__" : Str)) = false) (d2 : (f == ("__classdict__" : Str)) = false) (b : Binds K fd ["self", f] []) : One P w K mg base x f (cl K i) bm nid := by
  subst hx hb hn
  have he : d.fields.isEmpty = false := by rw [hf]; rfl
  exact ⟨_, fd, T.gl i d h, T.xc h, (T.maker h he).1, (T.maker h he).2.1, ok_ini1 SF F S hB v1 v2 d1 d2, b⟩
theorem facts12 {P : Program} {w : World} {K : PySem.W.Frag} {h : Heap} {mg : Str → Option Value} {f : Addr} (X : K.In h) (G : h.Ns mainGlobals mg) (hfa : mg ("law" : Str) = some (.ref f)) (x : ex12 K = true) (c : He.SaysD fa12 fn12 K) :
    ∃ fd : FuncData, (∀ (s : Shared) (v : Value), BindsTo s fd ⟨[v], []⟩ [("_law_script", v)]) ∧ ∀ base : Heap, K.In base → base.Ns mainGlobals mg → FnOk P w K mg base CX0 4 f fd ["_law_script"] (spLaw K) := by
  unfold ex12 at x
  simp only [Bool.and_eq_true, decide_eq_true_eq] at x
  obtain ⟨y1, y2, y3, y4, y5, y6, y7, y8, y9, y10, y11⟩ := x
  have gH := PySem.W.mg_of X G (of_decide_eq_true y3)
  have T : Txt12 K mg := ⟨y1, y2, fun i d hd => by
    have e : cl K i = He.ga K d.name := ec_at hd
    rw [e]
    exact PySem.W.mg_of X G (err_at y1 (List.mem_of_getElem? hd)).1, He.free_ok X G (c.fact 14 (f := .free "isinstance") rfl)⟩
  have xH := xcOk_ok y4
  have Kt : Kit12 K mg (He.ga K "HandedcopiesError") := ⟨gH, y5, xH.kC, xH.ex, fun i d hd => kit_to y6 hd, fun i d hd => kit_to y7 hd, fun i d hd => kit_to y8 hd, fun i d hd => kit_to y9 hd, y10, y11⟩
  have TL : TxtL mg := ⟨⟨⟨He.free_ok X G (c.fact 8 (f := .free "int") rfl), He.free_ok X G (c.fact 9 (f := .free "abs") rfl), He.free_ok X G (c.fact 10 (f := .free "len") rfl)⟩, He.free_ok X G (c.fact 11 (f := .free "list") rfl), He.free_ok X G (c.fact 12 (f := .free "range") rfl)⟩,
    He.free_ok X G (c.fact 13 (f := .free "enumerate") rfl), He.free_ok X G (c.fact 15 (f := .free "ValueError") rfl), He.free_ok X G (c.fact 16 (f := .free "RuntimeError") rfl), He.free_ok X G (c.fact 17 (f := .free "LookupError") rfl)⟩
  obtain ⟨fd0, F0⟩ := def_of (x := "_law_start") (st := top 23) c 0
  have g0 := He.glo_ok X G (c.fact 0 (f := .glo "_law_start") rfl)
  have b0 : Binds K fd0 ["_law_script"] [] := F0.binds fun _ _ _ _ _ _ us hl => match us, hl with | [_], _ => rfl
  obtain ⟨fd1, F1⟩ := def_of (x := "_law_draw") (st := top 24) c 1
  have g1 := He.glo_ok X G (c.fact 1 (f := .glo "_law_draw") rfl)
  have b1 : Binds K fd1 ["_law_state", "_law_many"] [] := F1.binds fun _ _ _ _ _ _ us hl => match us, hl with | [_, _], _ => rfl
  obtain ⟨fd2, F2⟩ := def_of (x := "_law_of") (st := top 25) c 2
  have g2 := He.glo_ok X G (c.fact 2 (f := .glo "_law_of") rfl)
  have b2 : Binds K fd2 ["_law_state", "_law_some"] [] := F2.binds fun _ _ _ _ _ _ us hl => match us, hl with | [_, _], _ => rfl
  obtain ⟨fd3, F3⟩ := def_of (x := "_law_value") (st := top 26) c 3
  have g3 := He.glo_ok X G (c.fact 3 (f := .glo "_law_value") rfl)
  have b3 : Binds K fd3 ["_law_state"] [] := F3.binds fun _ _ _ _ _ _ us hl => match us, hl with | [_], _ => rfl
  obtain ⟨fd4, F4⟩ := def_of (x := "_law_fields_stand") (st := top 27) c 4
  have g4 := He.glo_ok X G (c.fact 4 (f := .glo "_law_fields_stand") rfl)
  have b4 : Binds K fd4 ["_law_a", "_law_b", "_law_c"] [] := F4.binds fun _ _ _ _ _ _ us hl => match us, hl with | [_, _, _], _ => rfl
  obtain ⟨fd5, F5⟩ := def_of (x := "_law_first") (st := top 28) c 5
  have g5 := He.glo_ok X G (c.fact 5 (f := .glo "_law_first") rfl)
  have b5 : Binds K fd5 ["_law_e"] [] := F5.binds fun _ _ _ _ _ _ us hl => match us, hl with | [_], _ => rfl
  obtain ⟨fd6, F6⟩ := def_of (x := "_law_second") (st := top 29) c 6
  have g6 := He.glo_ok X G (c.fact 6 (f := .glo "_law_second") rfl)
  have b6 : Binds K fd6 ["_law_e"] [] := F6.binds fun _ _ _ _ _ _ us hl => match us, hl with | [_], _ => rfl
  obtain ⟨fd7, F7⟩ := def_of (x := "law") (st := top 30) c 7
  have g7 := He.glo_ok X G (c.fact 7 (f := .glo "law") rfl)
  have b7 : Binds K fd7 ["_law_script"] [] := F7.binds fun _ _ _ _ _ _ us hl => match us, hl with | [_], _ => rfl
  obtain ⟨fd8, F8⟩ := mth_of (C := "BadShape") (m := "__init__") (q := "BadShape.__init__") (st := inClass (top 2) 0) c 8
  have b8 : Binds K fd8 ["self", "text"] [] := F8.binds fun _ _ _ _ _ _ us hl => match us, hl with | [_, _], _ => rfl
  obtain ⟨fd9, F9⟩ := mth_of (C := "BadLine") (m := "__init__") (q := "BadLine.__init__") (st := inClass (top 3) 0) c 9
  have b9 : Binds K fd9 ["self", "at"] [] := F9.binds fun _ _ _ _ _ _ us hl => match us, hl with | [_, _], _ => rfl
  obtain ⟨fd10, F10⟩ := mth_of (C := "NoClass") (m := "__init__") (q := "NoClass.__init__") (st := inClass (top 4) 0) c 10
  have b10 : Binds K fd10 ["self", "name"] [] := F10.binds fun _ _ _ _ _ _ us hl => match us, hl with | [_, _], _ => rfl
  obtain ⟨fd11, F11⟩ := mth_of (C := "BadField") (m := "__init__") (q := "BadField.__init__") (st := inClass (top 5) 0) c 11
  have b11 : Binds K fd11 ["self", "name"] [] := F11.binds fun _ _ _ _ _ _ us hl => match us, hl with | [_, _], _ => rfl
  obtain ⟨fd12, F12⟩ := mth_of (C := "TooMany") (m := "__init__") (q := "TooMany.__init__") (st := inClass (top 6) 0) c 12
  have b12 : Binds K fd12 ["self", "what"] [] := F12.binds fun _ _ _ _ _ _ us hl => match us, hl with | [_, _], _ => rfl
  obtain ⟨fd13, F13⟩ := mth_of (C := "BadRow") (m := "__init__") (q := "BadRow.__init__") (st := inClass (top 7) 0) c 13
  have b13 : Binds K fd13 ["self", "owner", "method", "at"] [] := F13.binds fun _ _ _ _ _ _ us hl => match us, hl with | [_, _, _, _], _ => rfl
  obtain ⟨fd14, F14⟩ := mth_of (C := "BadMethod") (m := "__init__") (q := "BadMethod.__init__") (st := inClass (top 8) 0) c 14
  have b14 : Binds K fd14 ["self", "owner", "method"] [] := F14.binds fun _ _ _ _ _ _ us hl => match us, hl with | [_, _, _], _ => rfl
  obtain ⟨fd15, F15⟩ := mth_of (C := "BadDeed") (m := "__init__") (q := "BadDeed.__init__") (st := inClass (top 9) 0) c 15
  have b15 : Binds K fd15 ["self", "deed"] [] := F15.binds fun _ _ _ _ _ _ us hl => match us, hl with | [_, _], _ => rfl
  obtain ⟨fd16, F16⟩ := mth_of (C := "BadPlace") (m := "__init__") (q := "BadPlace.__init__") (st := inClass (top 10) 0) c 16
  have b16 : Binds K fd16 ["self", "place"] [] := F16.binds fun _ _ _ _ _ _ us hl => match us, hl with | [_, _], _ => rfl
  obtain ⟨fd17, F17⟩ := mth_of (C := "BadWorld") (m := "__init__") (q := "BadWorld.__init__") (st := inClass (top 11) 0) c 17
  have b17 : Binds K fd17 ["self", "form"] [] := F17.binds fun _ _ _ _ _ _ us hl => match us, hl with | [_, _], _ => rfl
  obtain ⟨fd18, F18⟩ := mth_of (C := "BadLabel") (m := "__init__") (q := "BadLabel.__init__") (st := inClass (top 12) 0) c 18
  have b18 : Binds K fd18 ["self", "label"] [] := F18.binds fun _ _ _ _ _ _ us hl => match us, hl with | [_, _], _ => rfl
  obtain ⟨fd19, F19⟩ := mth_of (C := "BadGoal") (m := "__init__") (q := "BadGoal.__init__") (st := inClass (top 13) 0) c 19
  have b19 : Binds K fd19 ["self", "goal"] [] := F19.binds fun _ _ _ _ _ _ us hl => match us, hl with | [_, _], _ => rfl
  obtain ⟨fd20, F20⟩ := mth_of (C := "BadWhen") (m := "__init__") (q := "BadWhen.__init__") (st := inClass (top 14) 0) c 20
  have b20 : Binds K fd20 ["self", "when"] [] := F20.binds fun _ _ _ _ _ _ us hl => match us, hl with | [_, _], _ => rfl
  obtain ⟨fd21, F21⟩ := mth_of (C := "BadMend") (m := "__init__") (q := "BadMend.__init__") (st := inClass (top 15) 0) c 21
  have b21 : Binds K fd21 ["self", "at"] [] := F21.binds fun _ _ _ _ _ _ us hl => match us, hl with | [_, _], _ => rfl
  obtain ⟨fd22, F22⟩ := mth_of (C := "NoDoor") (m := "__init__") (q := "NoDoor.__init__") (st := inClass (top 16) 0) c 22
  have b22 : Binds K fd22 ["self", "door"] [] := F22.binds fun _ _ _ _ _ _ us hl => match us, hl with | [_, _], _ => rfl
  obtain ⟨fd23, F23⟩ := mth_of (C := "BadName") (m := "__init__") (q := "BadName.__init__") (st := inClass (top 17) 0) c 23
  have b23 : Binds K fd23 ["self", "name"] [] := F23.binds fun _ _ _ _ _ _ us hl => match us, hl with | [_, _], _ => rfl
  obtain ⟨fd24, F24⟩ := mth_of (C := "UnlikeFaces") (m := "__init__") (q := "UnlikeFaces.__init__") (st := inClass (top 18) 0) c 24
  have b24 : Binds K fd24 ["self", "method"] [] := F24.binds fun _ _ _ _ _ _ us hl => match us, hl with | [_, _], _ => rfl
  obtain ⟨fd25, F25⟩ := mth_of (C := "Shut") (m := "__init__") (q := "Shut.__init__") (st := inClass (top 21) 0) c 25
  have b25 : Binds K fd25 ["self", "method"] [] := F25.binds fun _ _ _ _ _ _ us hl => match us, hl with | [_, _], _ => rfl
  have e := hfa.symm.trans g7
  cases e
  refine ⟨fd7, fun s v => ?_, fun base _ _ => ?_⟩
  · obtain ⟨oc, od, kV, doc, pm, an, cdv, ct, osl, e7, _, _⟩ := F7.ex
    subst e7
    exact .of_eq rfl
  · have A : All12 P w K mg base := { T with
      c0 := one_of (i := 0) T rfl rfl rfl rfl rfl PySem.F.store_ValueError F8 ⟨rfl, rfl, rfl, by decide +kernel, rfl, by decide +kernel, by decide +kernel⟩ rfl rfl rfl (by decide) (by decide) b8
      c1 := one_of (i := 1) T rfl rfl rfl rfl rfl PySem.F.store_ValueError F9 ⟨rfl, rfl, rfl, by decide +kernel, rfl, by decide +kernel, by decide +kernel⟩ rfl rfl rfl (by decide) (by decide) b9
      c2 := one_of (i := 2) T rfl rfl rfl rfl rfl PySem.F.store_ValueError F10 ⟨rfl, rfl, rfl, by decide +kernel, rfl, by decide +kernel, by decide +kernel⟩ rfl rfl rfl (by decide) (by decide) b10
      c3 := one_of (i := 3) T rfl rfl rfl rfl rfl PySem.F.store_ValueError F11 ⟨rfl, rfl, rfl, by decide +kernel, rfl, by decide +kernel, by decide +kernel⟩ rfl rfl rfl (by decide) (by decide) b11
      c4 := one_of (i := 4) T rfl rfl rfl rfl rfl PySem.F.store_ValueError F12 ⟨rfl, rfl, rfl, by decide +kernel, rfl, by decide +kernel, by decide +kernel⟩ rfl rfl rfl (by decide) (by decide) b12
      c5 := ⟨_, fd13, T.gl 5 _ rfl, T.xc (i := 5) rfl, (T.maker (i := 5) rfl rfl).1, (T.maker (i := 5) rfl rfl).2.1, ok_ini3 PySem.F.store_ValueError F13 ⟨rfl, rfl, rfl, by decide +kernel, rfl, by decide +kernel, by decide +kernel⟩ rfl rfl rfl rfl rfl (by decide) (by decide) (by decide) (by decide) (by decide) (by decide), b13⟩
      c6 := ⟨_, fd14, T.gl 6 _ rfl, T.xc (i := 6) rfl, (T.maker (i := 6) rfl rfl).1, (T.maker (i := 6) rfl rfl).2.1, ok_ini2 PySem.F.store_ValueError F14 ⟨rfl, rfl, rfl, by decide +kernel, rfl, by decide +kernel, by decide +kernel⟩ rfl rfl rfl rfl (by decide) (by decide) (by decide) (by decide), b14⟩
      c7 := one_of (i := 7) T rfl rfl rfl rfl rfl PySem.F.store_ValueError F15 ⟨rfl, rfl, rfl, by decide +kernel, rfl, by decide +kernel, by decide +kernel⟩ rfl rfl rfl (by decide) (by decide) b15
      c8 := one_of (i := 8) T rfl rfl rfl rfl rfl PySem.F.store_ValueError F16 ⟨rfl, rfl, rfl, by decide +kernel, rfl, by decide +kernel, by decide +kernel⟩ rfl rfl rfl (by decide) (by decide) b16
      c9 := one_of (i := 9) T rfl rfl rfl rfl rfl PySem.F.store_ValueError F17 ⟨rfl, rfl, rfl, by decide +kernel, rfl, by decide +kernel, by decide +kernel⟩ rfl rfl rfl (by decide) (by decide) b17
      c10 := one_of (i := 10) T rfl rfl rfl rfl rfl PySem.F.store_ValueError F18 ⟨rfl, rfl, rfl, by decide +kernel, rfl, by decide +kernel, by decide +kernel⟩ rfl rfl rfl (by decide) (by decide) b18
      c11 := one_of (i := 11) T rfl rfl rfl rfl rfl PySem.F.store_ValueError F19 ⟨rfl, rfl, rfl, by decide +kernel, rfl, by decide +kernel, by decide +kernel⟩ rfl rfl rfl (by decide) (by decide) b19
      c12 := one_of (i := 12) T rfl rfl rfl rfl rfl PySem.F.store_ValueError F20 ⟨rfl, rfl, rfl, by decide +kernel, rfl, by decide +kernel, by decide +kernel⟩ rfl rfl rfl (by decide) (by decide) b20
      c13 := one_of (i := 13) T rfl rfl rfl rfl rfl PySem.F.store_ValueError F21 ⟨rfl, rfl, rfl, by decide +kernel, rfl, by decide +kernel, by decide +kernel⟩ rfl rfl rfl (by decide) (by decide) b21
      c14 := one_of (i := 14) T rfl rfl rfl rfl rfl PySem.F.store_ValueError F22 ⟨rfl, rfl, rfl, by decide +kernel, rfl, by decide +kernel, by decide +kernel⟩ rfl rfl rfl (by decide) (by decide) b22
      c15 := one_of (i := 15) T rfl rfl rfl rfl rfl PySem.F.store_ValueError F23 ⟨rfl, rfl, rfl, by decide +kernel, rfl, by decide +kernel, by decide +kernel⟩ rfl rfl rfl (by decide) (by decide) b23
      c16 := one_of (i := 16) T rfl rfl rfl rfl rfl PySem.F.store_ValueError F24 ⟨rfl, rfl, rfl, by decide +kernel, rfl, by decide +kernel, by decide +kernel⟩ rfl rfl rfl (by decide) (by decide) b24
      c19 := one_of (i := 19) T rfl rfl rfl rfl rfl PySem.F.store_RuntimeError F25 ⟨rfl, rfl, rfl, by decide +kernel, rfl, by decide +kernel, by decide +kernel⟩ rfl rfl rfl (by decide) (by decide) b25
    }
    have GS : FnOk P w K mg base CX0 3 _ fd0 ["_law_script"] (spStart K) := ok_start F0 TL.toTxtD
    have GV : FnOk P w K mg base CX0 3 _ fd3 ["_law_state"] spValue := ok_value F3 TL.toTxtV F1 b1 g1 F2 b2 g2
    have GN : FnOk P w K mg base CX0 3 _ fd4 ["_law_a", "_law_b", "_law_c"] spStand := ok_stand F4 A
    have GF : FnOk P w K mg base CX0 1 _ fd5 ["_law_e"] (spWho K 0) := ok_first F5 T
    have GE : FnOk P w K mg base CX0 1 _ fd6 ["_law_e"] (spWho K 10) := ok_second F6 T
    exact ok_law F7 TL A Kt ⟨_, fd0, g0, F0.kp, b0, GS⟩ ⟨_, fd3, g3, F3.kp, b3, GV⟩ ⟨_, fd4, g4, F4.kp, b4, GN⟩ ⟨_, fd5, g5, F5.kp, b5, GF.mono (by decide)⟩ ⟨_, fd6, g6, F6.kp, b6, GE.mono (by decide)⟩
end Hc
open PySem PySem.W PySem.Calls PyProof.Rows
set_option maxHeartbeats 0 in
theorem PySem.Challenge.cw_handedcopies_k12_errors_made_holds : PySem.Challenge.rw_handedcopies_k12_errors_made.Holds := by
  w_on; o_law
  refine HandSHeadRun.head_any (r := OpenLaw.row PySem.Challenge.rw_handedcopies_k12_errors_made) (q := view (OpenLaw.row PySem.Challenge.rw_handedcopies_k12_errors_made).prog [30]) (H := Hc.hookC 6 Hc.fa12 Hc.fn12 Hc.ex12) (ob := Hc.obC 6 Hc.fa12 Hc.fn12 Hc.ex12) (M := 12000) (loose := Hc.lo12) (d := HandSHeadRun.topDef (OpenLaw.row PySem.Challenge.rw_handedcopies_k12_errors_made).prog 30) (kwd := []) (Hc.obC_eq _ _ _ _)
    (by kernel_rfl) (fun s => by kernel_rfl) Hc.run12 (by kernel_rfl) (by kernel_rfl) (by kernel_rfl) (by rfl) (by first | assumption | decide +kernel) (by decide +kernel) ⟨rfl, rfl, rfl, rfl, rfl, by decide +kernel⟩ ?hw ?hc
  case hw => w_witness2
  case hc =>
    refine L2.walk_ofE (l := PySem.Challenge.rw_handedcopies_k12_errors_made) (n := 63) (k := 4) (x := "_law_script") (CX := L2.CX0) rfl (by decide) (by kernel_rfl) ⟨rfl, by decide, by decide⟩ ?F (fun _ _ _ _ z => z)
    intro w mg fa h Y G hmg0
    obtain ⟨K, KX, x, c⟩ := Y
    have hmg : mg ("law" : PySem.Str) = some (.ref fa) := by
      have e : (HandSHeadRun.topDef (OpenLaw.row PySem.Challenge.rw_handedcopies_k12_errors_made).prog 30).name = ("law" : PySem.Str) := by kernel_rfl
      rw [← e]
      exact hmg0
    obtain ⟨fd, hb, hF⟩ := Hc.facts12 (P := (PySem.Challenge.rw_handedcopies_k12_errors_made).prog) (w := w) KX G hmg x c
    exact ⟨K, fd, Hc.spLaw K, KX, hb, fun H a ns hl _ hS => ⟨a, ns, rfl, hS, hl, fun _ => rfl⟩, hF⟩
