import PyProof.Rows.All
import Wide.All
import OpenK.AllK
import Wide.FinOn
import KE.KExcInit
import KE.KIsAll
import KE.KExcIs
import HandS.ForMost
import HandS.ExcInit
import HandS.ExcField
import HandS.IsInst
import PyProof.ReprRoads
import KE.KStateDown
import Lean
import HandS.Base
import HandS.Call
import HandS.Ends
import HandS.More
import HandS.Words
import HandS.WordsExc
import HandS.Defaults
import HandS.Head0
import HandS.Head1
import HandS.Head2
import HandS.HeadEnd
import HandS.HeadHook1
import HandS.HeadHook2
import PySem.Challenge.RW_ringvoices_k00_errors_by_position_and_by
import HandS.Style
import HandS.TupAny
import PyProof.ReprLen
import HandS.TupMul
import HandS.Comp
import HandS.HotCalls
import HandS.ExcValueHot
import HandS.ExcSuper
import KE.KExcSuper
import HandS.HeadHook4
import HandS.ExcIs
set_option Elab.async false
set_option linter.all false
set_option maxRecDepth 100000
set_option maxHeartbeats 0
/-! Own exceptions over Exception, made by position or by keyword, with one attribute. -/
namespace PySem
namespace K0X
open PySem.W PySem.Calls PyProof.Rows PySem.HandSPX
section
variable {M : Model} {A : Around} {E : Value → Shared → Prop} {h : Heap} {g : Array GenState} {d : Drawn} {t : Nat} {os : OsState}
variable {nm q : Str} {C N : Addr} {bs bm bmB : List Value} {hdct : Bool} {sn : List Str} {sub : List Value} {ab : Bool} {col : Option Bool} {dd : Option Addr} {k0 k1 k2 k3 k5 : Option Value} {B newId initId : String}
theorem check_newK (F : ExcBaseFacts B newId initId bmB) (hT : ∀ X : String, bm.contains (.type X) = bmB.contains (.type X)) {rest : List Value} {kw : List (Str × Value)} {Q : Unit → Shared → Prop}
    (hC : h.get? C = some (excClassObj nm q C N bs bm hdct sn sub ab col dd k0 k1 k2 k3 k5 newId)) (hq : Q () ⟨h, g, d, t, os⟩) : wpAny M A (checkBuiltinCall newId ⟨.ref C :: rest, kw⟩) Q E ⟨h, g, d, t, os⟩ := by
  have hcont : (Value.ref C :: bm).contains (.type B) = true := by rw [List.contains_cons, hT, F.hasB, Bool.or_true]
  have hstar := F.noStar
  simp only [checkBuiltinCall, F.newKind, F.newSplit, F.newRow]
  repeat (first | refine wpAny_loadPart_at hC ?_ | (refine wpAny_isSubtype_exc hC ?_; rw [hcont]) | refine wpAny_staticBase_exc hC ?_ | refine wpAny_madeBy_exc hC ?_ | simp only [bne_self_eq_false, Bool.false_eq_true, if_false] | wp_step)
  exact hq
theorem check_type_callK {rest : List Value} {kw : List (Str × Value)} {Q : Unit → Shared → Prop} (hC : h.get? C = some (excClassObj nm q C N bs bm hdct sn sub ab col dd k0 k1 k2 k3 k5 newId))
    (hq : Q () ⟨h, g, d, t, os⟩) : wpAny M A (checkBuiltinCall "type.__call__" ⟨.ref C :: rest, kw⟩) Q E ⟨h, g, d, t, os⟩ := by
  have f3 := tc_sub
  have hT : (⟨h, g, d, t, os⟩ : Shared).TypeIs (.ref C) "type" := ⟨_, hC, rfl⟩
  simp only [checkBuiltinCall, tc_kind, tc_split]
  repeat (any_goals (first | assumption | with_reducible refine wpAny_loadPart_at hC ?_ | with_reducible refine wpAny_onRaise ?_ | with_reducible refine wpAny_map ?_ | wp_step))
end
section
variable {prog : Program} {w : World} {A : Around} {E : Value → Shared → Prop} {R : Result → Shared → Prop} {h : Heap} {g : Array GenState} {d : Drawn} {t : Nat} {os : OsState}
variable {nm q : Str} {C N : Addr} {bs bm bmB : List Value} {hdct : Bool} {sn : List Str} {sub : List Value} {ab : Bool} {col : Option Bool} {dd : Option Addr} {k0 k1 k2 k3 k5 : Option Value} {B newId initId : String}
theorem new_ownK (F : ExcBaseFacts B newId initId bmB) (hT : ∀ X : String, bm.contains (.type X) = bmB.contains (.type X)) {rest : List Value} {kw : List (Str × Value)}
    (hC : h.get? C = some (excClassObj nm q C N bs bm hdct sn sub ab col dd k0 k1 k2 k3 k5 newId))
    (hq : R (.ok (.ret (.ref (h.objs.size + 1)))) ⟨(h.push { cls := .type "tuple", data := .seq rest.toArray }).push
      { cls := .ref C, data := .fields #[.ref h.objs.size, .none, .none, .none, .bool false, .none] }, g, d, t, os⟩) (hrest : rest.length ≤ sizeLine) :
    codeAny (model prog w) A (.builtin newId ⟨.ref C :: rest, kw⟩) R ⟨h, g, d, t, os⟩ := by
  have hends := F.ends
  have hcB : (Value.ref C :: bm).contains (.type B) = true := by rw [List.contains_cons, hT, F.hasB, Bool.or_true]
  have hcA : (Value.ref C :: bm).contains (.type "AttributeError") = false := by rw [List.contains_cons, hT, F.noAttr]; rfl
  have hcN : (Value.ref C :: bm).contains (.type "NameError") = false := by rw [List.contains_cons, hT, F.noName]; rfl
  refine codeAny_builtinAt F.entry ?_
  unfold Builtin.«BaseException.__new__»
  refine wpAt_bind ?_
  show wpAt _ _ _ (stack >>= _) _ _ _
  refine wpAt_bind (wpAt_stack fun p below => wpAt_of_wpAny ?_)
  wp_walk
  refine wpAt_of_wpAny ?_
  rw [F.owner]
  repeat (first | with_reducible refine wpAny_madeHere_exc F.canon hC ?_ | with_reducible refine wpAny_loadPart_at hC ?_ | (with_reducible refine wpAny_isSubtype_exc hC ?_; first | rw [hcB] | rw [hcA] | rw [hcN]) | wp_step)
  show R _ _
  rw [Heap.size_push]
  exact hq
theorem type_call_ownK (F : ExcBaseFacts B newId initId bmB) (hT : ∀ X : String, bm.contains (.type X) = bmB.contains (.type X)) {rest : List Value} {kw : List (Str × Value)} {fI : Addr} {Q : Fin → Shared → Prop}
    (hC : h.get? C = some (excClassObj nm q C N bs bm hdct sn sub ab col dd k0 k1 k2 k3 k5 newId))
    (hi : W.Looks (model prog w) h (typeLookup (.ref C) "__init__") (some (.ref fI))) (hb : ∀ self, W.Looks (model prog w) h (bindSpecial (.ref fI) self) (.ref fI, [self])) (hrest : rest.length ≤ sizeLine)
    (hq : codeAny (model prog w) A (.call (.ref fI) ⟨.ref (h.objs.size + 1) :: rest, kw⟩)
      (fun r s' => match r with | .ok (.ret v) => v = .none ∧ Q (.done (.ret (.ref (h.objs.size + 1)))) s' | .ok _ => False | .error e => E e s')
      ⟨(h.push (W.kdv_tup rest)).push (excO C h.objs.size), g, d, t, os⟩) :
    wpAny (model prog w) A (Builtin.«type.__call__» ⟨.ref C :: rest, kw⟩) Q E ⟨h, g, d, t, os⟩ := by
  repeat (first | with_reducible refine wpAny_loadPart_at hC ?_ | with_reducible refine wpAny_madeBy_exc hC ?_ | wp_step)
  refine codeAny_call_builtin_code (Code.quiet_builtin _ F.quiet) (check_newK F hT hC ?_)
  refine new_ownK F hT hC ?_ hrest
  show wpAny _ _ _ _ _ _
  have k : ∀ b o, h.get? b = some o → ((h.push (W.kdv_tup rest)).push (excO C h.objs.size)).get? b = some o := fun b o e => Heap.get?_push_of_some _ (Heap.get?_push_of_some _ e)
  have hC₁ := k _ _ hC
  have hget : ((h.push (W.kdv_tup rest)).push (excO C h.objs.size)).get? (h.objs.size + 1) = some (excO C h.objs.size) := by heap_get
  have hcC : (Value.ref C :: bm).contains (.ref C) = true := by simp
  have i1 := hi.keeps k
  have b1 := (hb (.ref (h.objs.size + 1))).keeps k
  unfold isInstance
  repeat (first | with_reducible refine wpAny_loadPart_at hget ?_ | (with_reducible refine wpAny_isSubtype_exc hC₁ ?_; rw [hcC]) | wp_step)
  show wpAny _ _ (typeLookup (.ref C) _) _ _ _
  refine i1.at ?_
  refine wpAny_holding (wpAny_bind (b1.at ?_))
  refine wpAny_bind (wpAny_call (codeAny_mono hq fun r s' z => ?_))
  rcases r with e | (v | _ | _ | _) <;> first | exact z | exact z.elim | skip
  obtain ⟨rfl, z⟩ := z
  first
    | exact wpAny_pure (wpAny_pure z)
    | (wp_walk; exact z)
theorem call_ownK (F : ExcBaseFacts B newId initId bmB) (hT : ∀ X : String, bm.contains (.type X) = bmB.contains (.type X)) {rest : List Value} {kw : List (Str × Value)} {fI : Addr}
    (hC : h.get? C = some (excClassObj nm q C N bs bm hdct sn sub ab col dd k0 k1 k2 k3 k5 newId))
    (hi : W.Looks (model prog w) h (typeLookup (.ref C) "__init__") (some (.ref fI))) (hb : ∀ self, W.Looks (model prog w) h (bindSpecial (.ref fI) self) (.ref fI, [self])) (hrest : rest.length ≤ sizeLine)
    (hq : codeAny (model prog w) (A.under (.builtin "type.__call__" ⟨.ref C :: rest, kw⟩)) (.call (.ref fI) ⟨.ref (h.objs.size + 1) :: rest, kw⟩) (W.InitBack (h.objs.size + 1) R)
      ⟨(h.push (W.kdv_tup rest)).push (excO C h.objs.size), g, d, t, os⟩) :
    codeAny (model prog w) A (.call (.ref C) ⟨rest, kw⟩) R ⟨h, g, d, t, os⟩ := by
  have f1 := tc_lookup
  have f2 := tc_bind (.ref C)
  have hTy : (⟨h, g, d, t, os⟩ : Shared).TypeIs (.ref C) "type" := ⟨_, hC, rfl⟩
  refine codeAny_of_tree ?_
  show wpAny _ _ (callAny (.ref C) _) _ _ _
  repeat (any_goals (first | assumption | with_reducible refine wpAny_loadPart_at hC ?_ | wp_step))
  refine ⟨rfl, ?_⟩
  refine codeAny_call_builtin_at (Code.quiet_builtin _ (by decide +kernel)) entry_typeCall (check_type_callK hC (type_call_ownK F hT hC hi hb hrest ?_))
  refine codeAny_mono hq fun r s' z => ?_
  rcases r with e | (v | _ | _ | _) <;> exact z
end
end K0X
end PySem
namespace PySem
namespace K0X
open PySem.W PySem.Calls PyProof.Rows PySem.HandSPX Builtin Builtin.ObjectAttr
abbrev exT : List Value := [.type "Exception", .type "BaseException", .type "object"]
section
variable {prog : Program} {w : World} {A : Around} {E : Value → Shared → Prop} {R : Result → Shared → Prop} {hp : Heap} {g : Array GenState} {d : Drawn} {t : Nat} {os : OsState}
/-- the first store into an exception over Exception -/
theorem osa_newK {K : Frag} {name : Str} {tk : Tok} {v : Value} {x C : Addr} {fv : Array Value} (X : K.In hp) (hx : hp.get? x = some { cls := .ref C, data := .fields fv }) (ho : excOver K C exT = true) (ht : takerIn K C name = some none) (hh : hasDictIn K C = true)
    (hq : ∀ h' tk' dx, (∀ b o, b ≠ x → hp.get? b = some o → h'.get? b = some o) → hp.objs.size ≤ dx → dx ≠ x → h'.get? x = some { cls := .ref C, dict := some dx, data := .fields fv } →
      h'.Ns1 dx (fun y => if y = name then some v else none) → R (.ok (.ret .none)) ⟨h', g, d, tk', os⟩) :
    codeAny (model prog w) A (.call (.builtin "object.__setattr__") ⟨[.ref x, .str name tk, v], []⟩) R ⟨hp, g, d, t, os⟩ := by
  have hxs : x ≠ hp.objs.size := Nat.ne_of_lt (Heap.lt_size hx)
  refine osa_openX (s := ⟨hp, g, d, t, os⟩) (od := none) F.store_Exception X ⟨hx, rfl, rfl, trivial⟩ ho ht fun b => ?_
  obtain ⟨cd, hc, hd'⟩ := any_some hh
  have hcls : Looks (model prog w) hp (classData C) cd := looks_clsIn X hc
  obtain ⟨nm, bs, mro, ns, qn, hd, sn, sb, ab, col, del⟩ := cd
  dsimp only at hd'
  subst hd'
  show wpAny _ _ (storeInOwnDict (.ref x) (.ref C) (.str name tk) name v b) _ _ _
  unfold storeInOwnDict ownDictForStores
  repeat (first | with_reducible refine store_in_new ?_ ?_ | with_reducible refine wpAny_loadPart_at hx ?_ | with_reducible refine hcls.at ?_ | wp_step)
  · exact ⟨_, #[], _, (Heap.get?_update_ne _ _ _ _ hxs.symm).trans (Heap.get?_push_at rfl rfl), rfl, fun e he => absurd he (by simp), fun _ => rfl⟩
  · intro h' tk' hn' hs
    have hx₁ : (hp.push { cls := .type "dict", data := .dict #[] }).get? x = some { cls := .ref C, data := .fields fv } := Heap.get?_push_of_some _ hx
    refine hq h' tk' hp.objs.size (fun b o hb ho => ?_) (Nat.le_refl _) hxs.symm ?_ hn'
    · exact (hs.2 b (Nat.ne_of_lt (Heap.lt_size ho))).trans ((Heap.get?_update_ne _ _ _ _ hb).trans (Heap.get?_push_of_some _ ho))
    · exact (hs.2 x hxs).trans (Heap.get?_update_self _ hx₁ rfl)
end
end K0X
end PySem
namespace K0
open PySem PySem.Spec PyProof.Rows L2
abbrev exT : List Value := PySem.K0X.exT
/-- what the written part says of an error class -/
structure ErrC (K : PySem.W.Frag) (C : Addr) : Prop where
  ini : PySem.W.excInitIn K C exT "Exception.__new__" = true
  ov : PySem.W.excOver K C exT = true
  hd : PySem.W.hasDictIn K C = true
  sa : PySem.W.findIn K (.ref C) "__setattr__" = some (some (.builtin "object.__setattr__"))
  ga : PySem.W.findIn K (.ref C) "__getattribute__" = some (some (.builtin "BaseException.__getattribute__"))
  gg : PySem.W.findIn K (.ref C) "__getattr__" = some none
  exC : PySem.W.subIn K (.ref C) (.type "BaseException") = some true
  tyC : PySem.W.typeIn K (.ref C) = some (.type "type")
  kC : PySem.W.keepIn K (.ref C) = true
  ca : PySem.W.findIn K (.ref C) "__class__" = some (some (.builtin "object.__class__"))
  ob : PySem.W.mroIn K C (.type "object") = some true
/-- its __init__ -/
structure ErrI (K : PySem.W.Frag) (C fI : Addr) : Prop where
  iC : PySem.W.findIn K (.ref C) "__init__" = some (some (.ref fI))
  tI : PySem.W.typeIn K (.ref fI) = some (.type "function")
/-- its attribute -/
structure ErrF (K : PySem.W.Frag) (C : Addr) (f : Str) : Prop where
  tk : PySem.W.takerIn K C f = some none
  no : PySem.W.findIn K (.ref C) f = some none
section
variable {X : Cx} {pins : List (Addr × Obj)} {σ : L2.St} {H : Hp} {s : Shared} {a C : Addr} {f : Str} {y : V} {u : Value} {Q : Unit → Shared → Prop} {E : Value → Shared → Prop} {A : Around}
/-- self.f = y, the first one -/
theorem ost_newE (T : ErrC X.K C) (TF : ErrF X.K C f) (I : Inv X pins σ H s) (e : H a = some (exo a C none)) (ry : RelV y u)
    (h : ∀ dx s', H dx = none → dx ≠ a → Inv X pins σ (upd (upd H dx (exd dx [(f, y)])) a (exo a C (some dx))) s' → Q () s') : wpAny (model X.prog X.w) A (setAttr (.ref a) f u) Q E s := by
  obtain ⟨t1, ho⟩ := exo_at I.hok e
  obtain ⟨hp, g, d, t, os⟩ := s
  refine PySem.W.set_plain I.kIn (ox := { cls := .ref C, dict := none, data := .fields #[.ref t1, .none, .none, .none, .bool false, .none] }) (od := none) ⟨ho, rfl, rfl, trivial⟩ T.sa ?_
  refine PySem.K0X.osa_newK I.kIn ho T.ov TF.tk T.hd (fun h' tk' dx k dn dne hx hn => ?_)
  have hnd : H dx = none := I.hok.fresh dn
  have nd : ∀ {b : Addr} {o : Obj}, hp.get? b = some o → b ≠ dx := fun {b o} q => Nat.ne_of_lt (Nat.lt_of_lt_of_le (Heap.lt_size q) dn)
  have na : ∀ {b : Addr}, H b = none → b ≠ a := fun {b} n z => by
    rw [z, e] at n
    cases n
  have Un1 : Un X.fs [] H (upd (upd H dx (exd dx [(f, y)])) a (exo a C (some dx))) hp h' := {
    keep := fun b o q n _ _ => k b o (na n) q
    slot := fun b o q n _ _ => ⟨o.slots, k b o (na n) q⟩
    free := fun b o q n _ => by rw [upd_ne (na n), upd_ne (nd q)]; exact n
    there := fun b o q _ => by
      by_cases hb : b = a
      · exact ⟨_, by rw [hb]; exact hx⟩
      · exact ⟨o, k b o hb q⟩
    tups := fun b xs q => by rw [upd_ne (at_ne e q exo_tup), upd_ne (ne_of_none q hnd)]; exact q
    frzs := fun b o v q => by rw [upd_ne (at_ne e q exo_frz), upd_ne (ne_of_none q hnd)]; exact q
    tbls := fun b ps q => ⟨#[], by rw [upd_ne (at_ne e q exo_tbl), upd_ne (ne_of_none q hnd), q]; simp⟩ }
  refine h dx _ hnd dne (I.un (t' := tk') Un1 fun b o q => ?_)
  by_cases hb : b = a
  · subst hb
    rw [upd_same] at q
    cases q
    exact exo_ok hx
  · rw [upd_ne hb] at q
    by_cases hd : b = dx
    · subst hd
      rw [upd_same] at q
      cases q
      exact exd_ok hn (relO_put (fs := []) ry fun g => True.intro)
    · rw [upd_ne hd] at q
      exact (I.hok b o q).stay (fun c v hc z => k c v (by
          rcases hc with hc | hc
          · rw [hc]
            exact hb
          · exact at_ne e hc exo_own) z)
        (fun c hc => by rw [upd_ne (at_ne e hc exo_own), upd_ne (ne_of_none hc hnd)]; exact hc) (fun c xs hc => by rw [upd_ne (at_ne e hc exo_tup), upd_ne (ne_of_none hc hnd)]; exact hc)
end
/-- self.f = e in an __init__ -/
def tOstE (K : PySem.W.Frag) (f : Str) (to te : TE) : TS := fun D σ H => te σ H fun y H1 => to σ H1 fun x H2 => ∃ a C : Addr, x = .ref a ∧ ErrC K C ∧ ErrF K C f ∧ H2 a = some (exo a C none) ∧ ∀ dx, H2 dx = none → dx ≠ a → D.nx σ (upd (upd H2 dx (exd dx [(f, y)])) a (exo a C (some dx)))
/-- an exception of the class at C with one attribute is made: at a, its dict at d -/
def MkQ (C : Addr) (f : Str) (v : V) (H : Hp) (Q : VK) : Prop := ∀ a d, H a = none → H d = none → d ≠ a → Q (.ref a) (upd (upd H d (exd d [(f, v)])) a (exo a C (some d)))
/-- the promise of such an __init__ -/
def spInit (C : Addr) (f : Str) : Sp := fun vs H Q _ => ∃ (a : Addr) (v : V), vs = [.ref a, v] ∧ H a = some (exo a C none) ∧ ∀ dx, H dx = none → dx ≠ a → Q .non (upd (upd H dx (exd dx [(f, v)])) a (exo a C (some dx)))
def tMkE (C : Addr) (f : Str) (ta : TA) : TE := fun σ H Q => ta σ H fun vs H1 => ∃ v, vs = [v] ∧ MkQ C f v H1 Q
section
variable {X : Cx} {o e : Expr} {es : List Expr} {to te : TE} {ta : TA} {f : Str} {p p' p1 p2 pos : Pos}
theorem ps_ostE (ho : PE X o to) (he : PE X e te) (hs : swapsWith e (some (.Attribute o f p')) pos.line X.env = pure false := by rfl) : PS X (.Assign [.Attribute o f p'] e pos) (tOstE X.K f to te) := by
  refine ⟨fun pins s σ H D I h => ?_⟩
  refine plainObj_wpAny_Assign_Attribute (thn (he.run pins s σ H _ I h) fun v s1 ⟨y, H1, I1, r1, q1⟩ => thn (ho.run pins s1 σ H1 _ I1 q1) fun u s2 ⟨x, H2, I2, r2, a, C, ex, T, TF, ea, q⟩ => ?_) hs
  subst ex
  obtain rfl : u = Value.ref a := r2
  exact ost_newE T TF I2 ea r1 fun dx s' n ne J => ⟨σ, _, J, q dx n ne⟩
/-- C(..), by position or by name: the tree behind the arguments -/
theorem run_mkE {CX : CXT} {pins : List (Addr × Obj)} {σ : L2.St} {H1 : Hp} {s1 : Shared} {Q : VK} {C fI : Addr} {k : Nat} {fd : FuncData} {us : List Value} {kw : List (Str × Value)} {v : V} {u : Value} {ps : List Str} (T : ErrC X.K C) (TI : ErrI X.K C fI)
    (F1 : FnOk X.prog X.w X.K X.mg X.base CX k fI fd ps (spInit C f)) (hr : Room (k + 1) X.A) (hb : ∀ (s : Shared) (x : Value), X.K.In s.heap → BindsTo s fd ⟨x :: us, kw⟩ (ps.zip [x, u])) (hus : us.length ≤ sizeLine) (hx : Passes CX X (fun _ _ _ => False))
    (I1 : Inv X pins σ H1 s1) (rv : RelV v u) (q : MkQ C f v H1 Q) : wpAny (model X.prog X.w) X.A (call (.ref C) us kw) (EP X pins σ Q) X.xe s1 := by
  obtain ⟨nm, N, qn, bs, bm, hdct, sn, sub, ab, col, dd, k0, k1, k2, k3, k5, hC, hT⟩ := PySem.W.excInit_of I1.kIn T.ini
  obtain ⟨hp, g, dr, tk, os⟩ := s1
  have hsz : hp.objs.size ≤ hp.objs.size + 1 := Nat.le_succ _
  have hn : H1 (hp.objs.size + 1) = none := I1.hok.fresh hsz
  have kk : ∀ b o, hp.get? b = some o → ((hp.push (PySem.W.kdv_tup us)).push (PySem.HandSPX.excO C hp.objs.size)).get? b = some o := fun b o e => Heap.get?_push_of_some _ (Heap.get?_push_of_some _ e)
  have hget : ((hp.push (PySem.W.kdv_tup us)).push (PySem.HandSPX.excO C hp.objs.size)).get? (hp.objs.size + 1) = some (PySem.HandSPX.excO C hp.objs.size) := by heap_get
  have I2 : Inv X pins σ (upd H1 (hp.objs.size + 1) (exo (hp.objs.size + 1) C none)) ⟨(hp.push (PySem.W.kdv_tup us)).push (PySem.HandSPX.excO C hp.objs.size), g, dr, tk, os⟩ :=
    I1.laid (t' := tk) (a := hp.objs.size + 1) (o := exo (hp.objs.size + 1) C none) (h' := (hp.push (PySem.W.kdv_tup us)).push (PySem.HandSPX.excO C hp.objs.size)) kk hsz (exo_ok hget)
  have r2 : Vals [V.ref (hp.objs.size + 1), v] [Value.ref (hp.objs.size + 1), u] := .cons rfl (.cons rv .nil)
  have hsp : spInit C f [V.ref (hp.objs.size + 1), v] (upd H1 (hp.objs.size + 1) (exo (hp.objs.size + 1) C none)) (fun z H3 => z = .non ∧ Q (.ref (hp.objs.size + 1)) H3) (fun _ _ _ => False) := by
    refine ⟨_, v, rfl, upd_same, fun dx n ne => ⟨rfl, ?_⟩⟩
    rw [upd_ne ne] at n
    have e : upd (upd (upd H1 (hp.objs.size + 1) (exo (hp.objs.size + 1) C none)) dx (exd dx [(f, v)])) (hp.objs.size + 1) (exo (hp.objs.size + 1) C (some dx)) = upd (upd H1 dx (exd dx [(f, v)])) (hp.objs.size + 1) (exo (hp.objs.size + 1) C (some dx)) := by
      funext b
      by_cases h1 : b = hp.objs.size + 1
      · rw [h1, upd_same, upd_same]
      · rw [upd_ne h1, upd_ne h1]
        by_cases h2 : b = dx
        · rw [h2, upd_same, upd_same]
        · rw [upd_ne h2, upd_ne h2, upd_ne h1]
    rw [e]
    exact q _ dx hn n ne
  refine wpAny_call (PySem.K0X.call_ownK F.excBase_Exception hT hC (PySem.W.looks_findIn I1.kIn TI.iC) (fun self => PySem.W.bind_fn I1.kIn self TI.tI) hus
    (codeAny_mono (F1.run _ X.stack _ _ ⟨Value.ref (hp.objs.size + 1) :: us, kw⟩ [Value.ref (hp.objs.size + 1), u] _ _ (fun _ _ _ => False) (hr.make C us kw) (I2.env0.make C us kw) (hb _ _ I2.kIn) r2 hsp) fun r s' hq' => ?_))
  cases r with
  | error er => exact hx pins σ _ _ er s' I2 hq'
  | ok fl =>
    cases fl with
    | ret u' =>
      obtain ⟨v', H', I3, rv', ev, q3⟩ := I2.after hq'
      subst ev
      exact ⟨rv', ⟨V.ref (hp.objs.size + 1), H', I3, rfl, q3⟩⟩
    | next => exact False.elim hq'
    | brk => exact False.elim hq'
    | cont => exact False.elim hq'
end
end K0
namespace K0
open PySem PySem.Spec PyProof.Rows L2
section
variable {X : Cx} {CX : CXT} {o e : Expr} {te : TE} {f x : Str} {p pos kpos : Pos} {C fI : Addr} {k : Nat} {fd : FuncData}
/-- C(e) as a value -/
theorem pe_mkE (T : ErrC X.K C) (TI : ErrI X.K C fI) (F1 : FnOk X.prog X.w X.K X.mg X.base CX k fI fd ["self", f] (spInit C f)) (hr : Room (k + 1) X.A) (hb : Binds X.K fd ["self", f] []) (hx : Passes CX X (fun _ _ _ => False)) (hg : Gl X x) (hm : X.mg x = some (.ref C))
    (he : PE X e te) (hs : starEach [e] X.env = (false, eval e X.env) :: starEach [] X.env := by rfl) (hdb : (x == ("__debug__" : Str)) = false := by decide) :
    PE X (.Call (.Name x p) [e] [] pos) (fun σ H Q => te σ H fun v H1 => MkQ C f v H1 Q) := by
  refine ⟨fun pins s σ H Q I h => ?_⟩
  refine wpAny_Call_Name_kw (ld_glob I hg hm ?_ hdb)
  refine PySem.W.callWith_K (h₀ := X.base) I.ok.mod.kin T.kC ?_ hs (by rfl)
  rw [hs]
  show wpAny _ _ (spliced ((false, eval e X.env) :: backTo pos (starEach [] X.env))) _ _ s
  refine Calls.spliced_cons (thn (he.run pins s σ H _ I h) fun u s1 ⟨v, H1, I1, r1, q1⟩ => ?_)
  refine Calls.spliced_nil ⟨I1.kIn, ?_⟩
  show wpAny _ _ (call (.ref C) [u]) _ _ _
  exact run_mkE (us := [u]) (kw := []) T TI F1 hr (fun s z hK => hb s [z, u] hK rfl) (by show 1 ≤ sizeLine; rw [sizeLine_eq]; omega) hx I1 r1 q1
/-- C(f = e) as a value -/
theorem pe_mkEK (T : ErrC X.K C) (TI : ErrI X.K C fI) (F1 : FnOk X.prog X.w X.K X.mg X.base CX k fI fd ["self", f] (spInit C f)) (hr : Room (k + 1) X.A) (hb : ∀ (s : Shared) (z u : Value), X.K.In s.heap → BindsTo s fd ⟨[z], [(f, u)]⟩ [("self", z), (f, u)]) (hx : Passes CX X (fun _ _ _ => False)) (hg : Gl X x) (hm : X.mg x = some (.ref C))
    (he : PE X e te) (hdb : (x == ("__debug__" : Str)) = false := by decide) :
    PE X (.Call (.Name x p) [] [⟨some f, e, kpos⟩] pos) (fun σ H Q => te σ H fun v H1 => MkQ C f v H1 Q) := by
  have hkw : PK X [⟨some f, e, kpos⟩] (tCons te tNil) := pk_cons he pk_nil
  refine ⟨fun pins s σ H Q I h => ?_⟩
  refine wpAny_Call_Name_kw (ld_glob I hg hm ?_ hdb)
  refine PySem.W.callWith_KW0 (h₀ := X.base) I.ok.mod.kin T.kC (by rfl) ?_ (by rfl)
  refine thn (hkw.run pos pins s σ H (fun zs H2 => ∃ v, zs = [v] ∧ MkQ C f v H2 Q) I ?_) fun ws s2 ⟨zs, H2, I2, rz, v, ez, q2⟩ => ⟨I2.kIn, ?_⟩
  · show te σ H fun v H1 => tNil σ H1 fun ys H2 => ∃ v', v :: ys = [v'] ∧ MkQ C f v' H2 Q
    have key : (fun v H1 => MkQ C f v H1 Q) = fun v H1 => tNil σ H1 fun ys H2 => ∃ v', v :: ys = [v'] ∧ MkQ C f v' H2 Q := by
      funext v H1
      show MkQ C f v H1 Q = ∃ v', [v] = [v'] ∧ MkQ C f v' H1 Q
      exact propext ⟨fun z => ⟨v, rfl, z⟩, fun ⟨v', e', z⟩ => by cases e'; exact z⟩
    rw [← key]
    exact h
  · subst ez
    cases rz with
    | cons r1 rr =>
      cases rr
      show wpAny _ _ (call (.ref C) [] [(f, _)]) _ _ _
      exact run_mkE (us := []) T TI F1 hr (fun s z hK => hb s z _ hK) (by show 0 ≤ sizeLine; omega) hx I2 r1 q2
/-- e.f of such an exception -/
def tFldE (K : PySem.W.Frag) (f : Str) (te : TE) : TE := fun σ H Q => te σ H fun x H1 => ∃ (a C dd : Addr) (fs : List (Str × V)) (v : V), x = .ref a ∧ ErrC K C ∧ ErrF K C f ∧ H1 a = some (exo a C (some dd)) ∧ H1 dd = some (exd dd fs) ∧ fs.lookup f = some v ∧ Q v H1
theorem pe_fldE (he : PE X e te) (hb : attributeBase e f X.env (eval e X.env) = eval e X.env := by rfl) : PE X (.Attribute e f pos) (tFldE X.K f te) := by
  refine ⟨fun pins s σ H Q I h => ?_⟩
  refine attr_of hb (thn (he.run pins s σ H _ I h) fun u s1 hh => ?_)
  obtain ⟨z, H1, I1, rx, a, C, dd, fs, v, ez, T, TF, ea, ed, l, q⟩ := hh
  subst ez
  obtain rfl : u = Value.ref a := rx
  obtain ⟨t1, ho⟩ := exo_at I1.hok ea
  obtain ⟨mA, hns, hrel⟩ := exd_at I1.hok ed
  obtain ⟨od, hod, hl⟩ := lookIn_ns hns
  obtain ⟨u, hu, ru⟩ := RelO.some_of (v := v) (o := mA f) (by rw [← l]; exact hrel f)
  have J : PySem.W.InstAt s1.heap a _ C (some od) := ⟨ho, rfl, rfl, hod⟩
  exact HandSPX.exc_get I1.kIn J T.ga T.gg T.exC (PySem.W.findObj_own T.hd TF.no rfl (by rw [hl, hu])) (handed_of ru) ⟨v, H1, I1.tok _, ru, q⟩
end
/-! ### isinstance of such an exception -/
structure Cls1 (K : PySem.W.Frag) : Prop where
  hn : PySem.W.specialIn K (.builtin "object.__class__") "__get__" = some (some (.builtin "getset_descriptor.__get__"))
  ht : PySem.W.takesIn K (.builtin "object.__class__") = some true
def rIsiE (K : PySem.W.Frag) : List V → Hp → VK → Prop := fun xs H Q => ∃ (a C : Addr) (d : Option Addr) (c : V) (u : Value) (b : Bool), xs = [.ref a, c] ∧ ClsV c u ∧ ErrC K C ∧ H a = some (exo a C d) ∧ (∀ dd, d = some dd → ∃ fs, H dd = some (exd dd fs)) ∧ PySem.W.kitOne K (.ref C) u = some b ∧ Q (.bl b) H
def rIsiET (K : PySem.W.Frag) : List V → Hp → VK → Prop := fun xs H Q => ∃ (a C : Addr) (d : Option Addr) (tp : Addr) (cs : List V) (us : List Value) (b : Bool), xs = [.ref a, .ref tp] ∧ H tp = some (.tup cs) ∧ Paired ClsV cs us ∧ ErrC K C ∧ H a = some (exo a C d) ∧ (∀ dd, d = some dd → ∃ fs, H dd = some (exd dd fs)) ∧ PySem.W.kitAny K (.ref C) us = some b ∧ Q (.bl b) H
section
variable {X : Cx} {pins : List (Addr × Obj)} {σ : L2.St} {H : Hp} {s : Shared} {a C : Addr} {d : Option Addr}
theorem inst_exo (I : Inv X pins σ H s) (ea : H a = some (exo a C d)) (ed : ∀ dd, d = some dd → ∃ fs, H dd = some (exd dd fs)) : ∃ (ox : Obj) (od : Option Obj), PySem.W.InstAt s.heap a ox C od := by
  obtain ⟨t1, ho⟩ := exo_at I.hok ea
  cases d with
  | none => exact ⟨_, none, ho, rfl, rfl, trivial⟩
  | some dd =>
    obtain ⟨fs, e2⟩ := ed dd rfl
    obtain ⟨mA, hns, _⟩ := exd_at I.hok e2
    obtain ⟨od, hod, _⟩ := lookIn_ns hns
    exact ⟨_, some od, ho, rfl, rfl, hod⟩
theorem cls_some {K : PySem.W.Frag} (T : ErrC K C) : (PySem.W.clsIn K C).isSome = true := by
  obtain ⟨cd, hc, _⟩ := PySem.W.any_some T.hd
  rw [hc] <;> rfl
theorem call_isiE (Z : Cls1 X.K) : CallR X (.builtin "isinstance") (rIsiE X.K) := by
  intro pins s σ H xs us Q I r h
  obtain ⟨a, C, d, c, u, b, rfl, k, T, ea, ed, e, q⟩ := h
  obtain ⟨u1, u2, rfl, r1, r2⟩ := vals2 r
  have e2 := k.eq r2
  subst e2
  obtain rfl : u1 = Value.ref a := r1
  obtain ⟨ox, od, J⟩ := inst_exo I ea ed
  exact PySem.W.kia_one (PySem.W.kitx_exc (cls_some T) T.ga T.gg T.exC T.ca Z.hn Z.ht T.ob) I.kIn J e (fun z => nomatch z) fun tk => ⟨.bl b, H, I.tok tk, rfl, q⟩
theorem call_isiET (Z : Cls1 X.K) : CallR X (.builtin "isinstance") (rIsiET X.K) := by
  intro pins s σ H xs us Q I r h
  obtain ⟨a, C, d, tp, cs, ws, b, rfl, hT, k, T, ea, ed, e, q⟩ := h
  obtain ⟨u1, u2, rfl, r1, r2⟩ := vals2 r
  cases (show u2 = Value.ref tp from r2)
  obtain rfl : u1 = Value.ref a := r1
  obtain ⟨ox, od, J⟩ := inst_exo I ea ed
  obtain ⟨_, its, rv, o, h1, h2, n, h3⟩ := (show ObjOk X.prog X.w H s.heap tp (.tup cs) from I.hok tp _ hT)
  have e3 := ClsV.all k rv
  subst e3
  obtain ⟨oc, od', dt, sl⟩ := o
  simp only at h2 h3
  subst h2 h3
  exact PySem.W.kia_tup (PySem.W.kitx_exc (cls_some T) T.ga T.gg T.exC T.ca Z.hn Z.ht T.ob) I.kIn J h1 e (fun z => nomatch z) fun tk => ⟨.bl b, H, I.tok tk, rfl, q⟩
end
end K0
/-! repr of data, dicts with text keys among it. -/
namespace K0
open PySem PySem.Spec PyProof.Rows L2
def keyD : Key → PyData
  | .inl i => .int i
  | .inr x => .str x
mutual
inductive Dq (H : Hp) : V → PyData → Prop
  | non : Dq H .non .none
  | bl (b : Bool) : Dq H (.bl b) (.bool b)
  | int (i : Int) : Dq H (.int i) (.int i)
  | str (x : Str) : Dq H (.str x) (.str x)
  | lst {a : Addr} {xs : List V} {ds : List PyData} : H a = some (.lst xs) → DqAll H xs ds → Dq H (.ref a) (.list ds)
  | tup {a : Addr} {xs : List V} {ds : List PyData} : H a = some (.tup xs) → DqAll H xs ds → Dq H (.ref a) (.tuple ds)
  | dic {a : Addr} {kvs : List (Key × V)} {ds : List (PyData × PyData)} : H a = some (.dK kvs) → DqKv H kvs ds → Dq H (.ref a) (.dict ds)
inductive DqAll (H : Hp) : List V → List PyData → Prop
  | nil : DqAll H [] []
  | cons {v : V} {vs : List V} {d : PyData} {ds : List PyData} : Dq H v d → DqAll H vs ds → DqAll H (v :: vs) (d :: ds)
inductive DqKv (H : Hp) : List (Key × V) → List (PyData × PyData) → Prop
  | nil : DqKv H [] []
  | cons {k : Key} {v : V} {kvs : List (Key × V)} {d : PyData} {ds : List (PyData × PyData)} : Dq H v d → DqKv H kvs ds → DqKv H ((k, v) :: kvs) ((keyD k, d) :: ds)
end
mutual
theorem Dq.same {H H' : Hp} (s : ∀ b o, H b = some o → H' b = some o) : ∀ {v : V} {d : PyData}, Dq H v d → Dq H' v d
  | _, _, .non => .non
  | _, _, .bl b => .bl b
  | _, _, .int i => .int i
  | _, _, .str x => .str x
  | _, _, .lst h a => .lst (s _ _ h) (DqAll.same s a)
  | _, _, .tup h a => .tup (s _ _ h) (DqAll.same s a)
  | _, _, .dic h a => .dic (s _ _ h) (DqKv.same s a)
theorem DqAll.same {H H' : Hp} (s : ∀ b o, H b = some o → H' b = some o) : ∀ {v : List V} {d : List PyData}, DqAll H v d → DqAll H' v d
  | _, _, .nil => .nil
  | _, _, .cons h a => .cons (Dq.same s h) (DqAll.same s a)
theorem DqKv.same {H H' : Hp} (s : ∀ b o, H b = some o → H' b = some o) : ∀ {v : List (Key × V)} {d : List (PyData × PyData)}, DqKv H v d → DqKv H' v d
  | _, _, .nil => .nil
  | _, _, .cons h a => .cons (Dq.same s h) (DqKv.same s a)
end
/-- what a dict's entries read as -/
theorem kv_reads {P : Program} {w : World} {H : Hp} {h : Heap} : ∀ {kvs : List (Key × V)} {vs : List (Key × Value)} {es : List DictEntry} {ds : List (PyData × PyData)}, KV kvs vs → Pairs (mixKind P w) es vs → DqKv H kvs ds → ReadsAll h (es.map (·.key)) (ds.map (·.1)) [] ∧ es.map (·.val) = vs.map (·.2)
  | _, _, _, _, .nil, .nil, .nil => ⟨.nil, rfl⟩
  | _, _, _, _, .cons r rr, .cons hk hv pr, .cons hd hr => by
    obtain ⟨q1, q2⟩ := kv_reads (h := h) rr pr hr
    obtain ⟨e1, _⟩ := r
    refine ⟨?_, by rw [List.map_cons, List.map_cons, q2, hv]⟩
    have hk' := hk
    rw [mixKind_is, ← e1] at hk'
    rcases keyIs_shape hk' with ⟨i, t, e2, e3⟩ | ⟨x, t, e2, e3⟩
    · rw [List.map_cons, List.map_cons]
      show ReadsAll h (_ :: _) (keyD _ :: _) []
      rw [e3]
      dsimp only at e2
      rw [e2]
      exact ReadsAll.cons (.int i t) q1
    · rw [List.map_cons, List.map_cons]
      show ReadsAll h (_ :: _) (keyD _ :: _) []
      rw [e3]
      dsimp only at e2
      rw [e2]
      exact ReadsAll.cons (.str x t) q1
section
variable {X : Cx} {pins : List (Addr × Obj)} {σ : L2.St} {H : Hp} {s : Shared}
mutual
theorem Dq.reads (I : Inv X pins σ H s) : ∀ {v : V} {d : PyData}, Dq H v d → ∀ u : Value, RelV v u → ∃ as, Reads s.heap u d as ∧ ∀ b ∈ as, H b ≠ none
  | _, _, .non, u, r => by
    cases (show u = Value.none from r)
    exact ⟨[], Reads.none, fun _ h => nomatch h⟩
  | _, _, .bl b, u, r => by
    cases (show u = Value.bool b from r)
    exact ⟨[], Reads.bool b, fun _ h => nomatch h⟩
  | _, _, .int i, u, r => by
    obtain ⟨t, rfl⟩ := (show ∃ t, u = Value.int i t from r)
    exact ⟨[], Reads.int i t, fun _ h => nomatch h⟩
  | _, _, .str x, u, r => by
    obtain ⟨t, rfl⟩ := (show ∃ t, u = Value.str x t from r)
    exact ⟨[], Reads.str x t, fun _ h => nomatch h⟩
  | _, _, .lst (a := a) h ha, u, r => by
    cases (show u = Value.ref a from r)
    obtain ⟨_, its, n, rv, ho⟩ := I.hok a _ h
    obtain ⟨as, hr, hn⟩ := DqAll.reads I ha its rv
    refine ⟨a :: as, Reads.list ho rfl rfl hr, fun b hb => ?_⟩
    rcases List.mem_cons.mp hb with z | z
    · rw [z, h]
      exact fun z => nomatch z
    · exact hn b z
  | _, _, .tup (a := a) h ha, u, r => by
    cases (show u = Value.ref a from r)
    obtain ⟨_, its, rv, o, ho, hc, n, hd⟩ := I.hok a _ h
    obtain ⟨as, hr, hn⟩ := DqAll.reads I ha its rv
    exact ⟨as, Reads.tuple ho hc hd hr, hn⟩
  | _, _, .dic (a := a) h ha, u, r => by
    cases (show u = Value.ref a from r)
    obtain ⟨_, _, vs, kv, o, es, ep, ho, hx, hd, _, pr, _⟩ := I.hok a _ h
    obtain ⟨q1, q2⟩ := kv_reads (h := s.heap) kv pr ha
    obtain ⟨bs, hr, hn⟩ := DqKv.reads I ha vs kv
    refine ⟨a :: [] ++ bs, Reads.dict ho hx.1 hd q1 (by rw [q2]; exact hr), fun b hb => ?_⟩
    rcases List.mem_cons.mp hb with z | z
    · rw [z, h]
      exact fun z => nomatch z
    · exact hn b z
theorem DqAll.reads (I : Inv X pins σ H s) : ∀ {v : List V} {d : List PyData}, DqAll H v d → ∀ us : List Value, Vals v us → ∃ as, ReadsAll s.heap us d as ∧ ∀ b ∈ as, H b ≠ none
  | _, _, .nil, us, r => by
    cases r
    exact ⟨[], ReadsAll.nil, fun _ h => nomatch h⟩
  | _, _, .cons h1 h2, us, r => by
    cases r with
    | cons r1 r2 =>
      obtain ⟨as, q1, n1⟩ := Dq.reads I h1 _ r1
      obtain ⟨bs, q2, n2⟩ := DqAll.reads I h2 _ r2
      exact ⟨as ++ bs, ReadsAll.cons q1 q2, fun b hb => (List.mem_append.mp hb).elim (n1 b) (n2 b)⟩
theorem DqKv.reads (I : Inv X pins σ H s) : ∀ {v : List (Key × V)} {d : List (PyData × PyData)}, DqKv H v d → ∀ vs : List (Key × Value), KV v vs → ∃ as, ReadsAll s.heap (vs.map (·.2)) (d.map (·.2)) as ∧ ∀ b ∈ as, H b ≠ none
  | _, _, .nil, us, r => by
    cases r
    exact ⟨[], ReadsAll.nil, fun _ h => nomatch h⟩
  | _, _, .cons h1 h2, us, r => by
    cases r with
    | cons r1 r2 =>
      obtain ⟨as, q1, n1⟩ := Dq.reads I h1 _ r1.2
      obtain ⟨bs, q2, n2⟩ := DqKv.reads I h2 _ r2
      exact ⟨as ++ bs, ReadsAll.cons q1 q2, fun b hb => (List.mem_append.mp hb).elim (n1 b) (n2 b)⟩
end
end
/-- small enough to be shown -/
structure Small (d : PyData) : Prop where
  sh : d.showable = true
  dp : d.depth ≤ 40
  ln : d.shown.length ≤ 100000
/-- repr of such data -/
def rRepr : List V → Hp → VK → Prop := fun xs H Q => ∃ (v : V) (d : PyData), xs = [v] ∧ Dq H v d ∧ Small d ∧ Q (.str d.shown) H
theorem call_repr {X : Cx} (hg : X.A.guards = some []) (hu : X.A.units + 64 < cLine) (hK : (X.K.lookup sysModules).isSome = true) : CallR X (.builtin "repr") rRepr := by
  intro pins s σ H xs us Q I r h
  obtain ⟨v, d, rfl, hd, hs, q⟩ := h
  obtain ⟨u, rfl, ru⟩ := vals1 r
  obtain ⟨as, hr, hn⟩ := Dq.reads I hd u ru
  have hz : d.shown.length ≤ sizeLine := Nat.le_trans hs.ln (by rw [sizeLine_eq]; omega)
  have hsys : H sysModules = none := by
    obtain ⟨o, ho⟩ := Option.isSome_iff_exists.mp hK
    exact (I.bs _ _ (I.ok.mod.kin _ _ ho)).2
  have hsm : d.hasDict = true → sysModules ∉ as := fun _ hm => hn _ hm hsys
  have fin : ∀ (h' : Heap) (t : Tok) (tk : Nat), (∀ b o, s.heap.get? b = some o → h'.get? b = some o) → EP X pins σ Q (.str d.shown t) { s with heap := h', toks := tk } := fun h' t tk hk => ⟨.str d.shown, H, I.kept hk, ⟨t, rfl⟩, q⟩
  cases hr with
  | none => exact PySem.P.repr_of_none (fin s.heap _ _ fun _ _ e => e)
  | bool b => exact PySem.P.repr_of_bool (fin s.heap _ _ fun _ _ e => e)
  | int i t => exact PySem.P.repr_of_int (of_decide_eq_true hs.sh) (fin s.heap _ _ fun _ _ e => e)
  | str x t => exact PySem.P.repr_of_str (fin s.heap _ _ fun _ _ e => e) hz
  | list h1 h2 h3 h4 => exact repr_of_reads' (.list h1 h2 h3 h4) hs.sh hsm hg (by have := hs.dp; omega) (fun _ _ e => e) (fun h' t tk hk => fin h' t tk hk) hz
  | tuple h1 h2 h3 h4 => exact repr_of_reads' (.tuple h1 h2 h3 h4) hs.sh hsm hg (by have := hs.dp; omega) (fun _ _ e => e) (fun h' t tk hk => fin h' t tk hk) hz
  | dict h1 h2 h3 h4 h5 => exact repr_of_reads' (.dict h1 h2 h3 h4 h5) hs.sh hsm hg (by have := hs.dp; omega) (fun _ _ e => e) (fun h' t tk hk => fin h' t tk hk) hz
end K0
/-! The head of k00: the text by places, the facts of the written part, the run. -/
namespace K0
open PySem PySem.Spec PyProof.Rows L2
def top (i : Nat) : Stmt := PySem.Challenge.pw_ringvoices_k00_errors_by_position_and_by.main.body.getD i (.Pass ⟨0, 0, 0, 0⟩)
abbrev sDeck : Stmt := top 25
abbrev sDraw : Stmt := top 26
abbrev sPick : Stmt := top 27
abbrev sOdd : Stmt := top 28
abbrev sFirst : Stmt := top 29
abbrev sSecond : Stmt := top 30
abbrev sClasses : Stmt := top 31
abbrev sCaught : Stmt := top 32
abbrev sLaw : Stmt := top 33
abbrev FnP (K : PySem.W.Frag) (x : Str) (st : Stmt) (f : Addr) (fd : FuncData) : Prop := FunD K x x (defArgs st) (defBody st) (defScope st) [] [] f fd
/-- the error classes: name, place in the text, attribute -/
structure ErrD where
  name : Str
  at_ : Nat
  attr : Option Str
def errs : List ErrD := [⟨"BadRings", 2, some "thing"⟩, ⟨"BadPlace", 3, some "thing"⟩, ⟨"BadLot", 4, some "thing"⟩, ⟨"BadOrder", 5, some "thing"⟩, ⟨"BadNumber", 6, some "thing"⟩, ⟨"BadCount", 7, some "thing"⟩,
  ⟨"BadRow", 8, some "thing"⟩, ⟨"BadWhole", 9, some "thing"⟩, ⟨"BadItems", 10, some "thing"⟩, ⟨"BadHeard", 11, some "thing"⟩, ⟨"BadSeen", 12, some "thing"⟩, ⟨"BadSteps", 13, some "thing"⟩, ⟨"Nought", 14, none⟩,
  ⟨"Unfit", 15, some "certificate"⟩, ⟨"TooMany", 16, some "most"⟩, ⟨"BadDeed", 17, some "thing"⟩, ⟨"BadClaim", 18, some "thing"⟩, ⟨"Unkept", 19, some "claim"⟩, ⟨"NoClaim", 20, some "thing"⟩, ⟨"NothingToUndo", 21, none⟩, ⟨"NothingToRedo", 22, none⟩, ⟨"BadText", 23, some "at"⟩]
abbrev exTail : List Value := [.type "Exception", .type "BaseException", .type "object"]
def dInit (e : ErrD) : He.DefD := ⟨(e.name, some "__init__"), "__init__", e.name ++ ".__init__", defArgs (inClass (top e.at_) 0), defBody (inClass (top e.at_) 0), defScope (inClass (top e.at_) 0), [], []⟩
def dGlo (x : Str) (i : Nat) : He.DefD := ⟨(x, none), x, x, defArgs (top i), defBody (top i), defScope (top i), [], []⟩
def fn : List He.DefD := [dGlo "_law_deck" 25, dGlo "_law_draw" 26, dGlo "_law_pick" 27, dGlo "_law_odd" 28, dGlo "_law_first" 29, dGlo "_law_second" 30, dGlo "_law_classes" 31, dGlo "_law_caught" 32, dGlo "law" 33] ++ (errs.filter fun e => e.attr.isSome).map dInit
def blt : List Str := ["int", "list", "len", "isinstance", "tuple", "str", "abs", "max", "range", "repr", "Exception", "ValueError", "LookupError", "KeyError", "IndexError", "ArithmeticError", "ZeroDivisionError", "OverflowError", "TypeError", "RuntimeError", "NotImplementedError", "AttributeError", "super"]
def fa : List He.Fa := [.glo "_law_deck", .glo "_law_draw", .glo "_law_pick", .glo "_law_odd", .glo "_law_first", .glo "_law_second", .glo "_law_classes", .glo "_law_caught", .glo "law", .glo "RingError"] ++ blt.map .free ++ errs.map (fun e => .glo e.name)
/-- numbers, reckoned once -/
def frL {α : Type} : List Nat → (List Nat → α) → α
  | [], k => k []
  | a :: r, k => HandSHeadRun.frNat a fun a => frL r fun r => k (a :: r)
theorem frL_eq {α : Type} : ∀ (l : List Nat) (k : List Nat → α), frL l k = k l
  | [], _ => rfl
  | a :: r, k => by
    show HandSHeadRun.frNat a (fun a => frL r fun r => k (a :: r)) = k (a :: r)
    rw [HandSHeadRun.frNat_eq]
    exact frL_eq r fun r => k (a :: r)
def nsNames : List Str := ["__setattr__", "__getattribute__", "__getattr__", "__class__"]
def attrs : List Str := ["thing", "certificate", "most", "claim", "at"]
def slB (sl : List (Option Value)) : Bool := match sl with
  | [_, _, _, _, some (.builtin n), _] => decide (n = "Exception.__new__")
  | _ => false
/-- what is asked of the error class at C, its base at R -/
def clsB (K : PySem.W.Frag) (R C : Addr) (e : ErrD) : Bool := match K.lookup C with
  | some ⟨.type t, _, .cls cd, sl⟩ => decide (t = "type") && (decide (cd.mro = .ref C :: .ref R :: exTail) && (slB sl.toList && (!cd.hasDel && (cd.hasDict && (nsNames.all (fun x => He.eqO (PySem.W.nsIn K cd.ns x) (some none)) &&
    (He.eqO (PySem.W.nsIn K cd.ns "__init__") (some (some (.ref (He.ma K C "__init__")))) && (decide (PySem.W.typeIn K (.ref (He.ma K C "__init__")) = some (.type "function")) && (match e.attr with
      | some f => He.eqO (PySem.W.nsIn K cd.ns f) (some none)
      | none => true))))))))
  | _ => false
def rootB (K : PySem.W.Frag) (R : Addr) : Bool := match K.lookup R with
  | some ⟨.type t, _, .cls cd, _⟩ => decide (t = "type") && (decide (cd.mro = .ref R :: exTail) && (nsNames ++ attrs).all fun x => He.eqO (PySem.W.nsIn K cd.ns x) (some none))
  | _ => false
def ex (K : PySem.W.Frag) : Bool := HandSHeadRun.frNat (He.ga K "RingError") fun R => frL (errs.map fun e => He.ga K e.name) fun Cs => (K.lookup sysModules).isSome && (rootB K R && (decide ((R :: Cs).Nodup) && (List.zipWith (clsB K R) Cs errs).all id))
/-! ### the Hook: the facts, and one Bool more -/
abbrev AlK : Type := He.AlD × Bool
def obsK (n : Nat) (g : Addr → Option Obj) : AlK := (He.obsD fa fn (He.frG g (sysModules :: He.asD g n)), ex (He.frG g (sysModules :: He.asD g n)))
def valK : AlK := (He.valD fn, true)
theorem obs_of {g : Addr → Option Obj} (e : obsK 6 g = valK) : He.SaysD fa fn (He.frG g (sysModules :: He.asD g 6)) ∧ ex (He.frG g (sysModules :: He.asD g 6)) = true := by
  unfold obsK valK at e
  exact Prod.mk.inj e
def hk : PySem.W.Hook where
  α := AlK
  obs := fun s => obsK 6 s.heap.get?
  val := fun _ => valK
  says := fun _ h => ∃ K : PySem.W.Frag, K.In h ∧ He.SaysD fa fn K ∧ ex K = true
  of := fun _ _ e => ⟨_, He.frG_in, obs_of e⟩
  keeps := fun _ _ _ ⟨K, hK, c⟩ k => ⟨K, PySem.W.Frag.In.keeps hK k, c⟩
abbrev R : PySem.W.OpenRow := PySem.W.OpenLaw.row PySem.Challenge.rw_ringvoices_k00_errors_by_position_and_by
def ob (s : PySem.W.SharedT) : AlK := obsK 6 (HandSHeadRun.getT s)
theorem ob_eq (s : PySem.W.SharedT) : ob s = hk.obs s.abs :=
  congrArg (obsK 6) (funext (HandSHeadRun.getT_eq s))
def loose : List Str := ["RingError", "BadRings", "BadPlace", "BadLot", "BadOrder", "BadNumber", "BadCount", "BadRow", "BadWhole", "BadItems", "BadHeard", "BadSeen", "BadSteps", "Nought", "Unfit", "TooMany", "BadDeed", "BadClaim", "Unkept", "NoClaim", "NothingToUndo", "NothingToRedo", "BadText",
  "_law_deck", "_law_draw", "_law_pick", "_law_odd", "_law_first", "_law_second", "_law_classes", "_law_caught"]
end K0
/-! The deck: what the law draws by. -/
namespace K0
open PySem PySem.Spec PyProof.Rows L2
/-- the names that the module leaves to the built-ins -/
def Bl (mg : Str → Option Value) : Prop := ∀ x ∈ blt, mg x = none
abbrev deckKV (l : Addr) (m k : Int) : List (Key × V) := [((.inr "cells" : Key), V.ref l), (.inr "mixed", .int m), (.inr "draws", .int k)]
/-- a deck at d, its cells at l -/
def DeckAt (d l : Addr) (H : Hp) : Prop := ∃ (ns : List Int) (m k : Int), H d = some (.dK (deckKV l m k)) ∧ H l = some (.lst (ns.map V.int)) ∧ ns.length ≤ 63
/-- all else stands as it was -/
def Keeps (d l : Addr) (H H' : Hp) : Prop := ∀ b o, H b = some o → b ≠ d → b ≠ l → H' b = some o
theorem Keeps.refl {d l : Addr} {H : Hp} : Keeps d l H H := fun _ _ e _ _ => e
theorem Keeps.trans {d l : Addr} {H H1 H2 : Hp} (a : Keeps d l H H1) (b : Keeps d l H1 H2) : Keeps d l H H2 := fun c o e h1 h2 => b c o (a c o e h1 h2) h1 h2
theorem Keeps.new {d l p : Addr} {H : Hp} {o : HO} (h : H p = none) : Keeps d l H (upd H p o) := fun b u e _ _ => by
  rw [upd_ne (ne_of_none e h)]
  exact e
theorem Keeps.atD {d l : Addr} {H : Hp} {o : HO} : Keeps d l H (upd H d o) := fun b u e h _ => by
  rw [upd_ne h]
  exact e
theorem Keeps.atL {d l : Addr} {H : Hp} {o : HO} : Keeps d l H (upd H l o) := fun b u e _ h => by
  rw [upd_ne h]
  exact e
theorem DeckAt.new {d l p : Addr} {H : Hp} {o : HO} (D : DeckAt d l H) (h : H p = none) : DeckAt d l (upd H p o) := by
  obtain ⟨ns, m, k, h1, h2, h3⟩ := D
  exact ⟨ns, m, k, by rw [upd_ne (ne_of_none h1 h)]; exact h1, by rw [upd_ne (ne_of_none h2 h)]; exact h2, h3⟩
theorem DeckAt.ne {d l : Addr} {H : Hp} (D : DeckAt d l H) : d ≠ l := by
  obtain ⟨ns, m, k, h1, h2, _⟩ := D
  exact ne_of h1 h2 (by intro z; cases z)
/-- one draw below n -/
def spDraw : Sp := fun vs H Q _ => ∃ (d l : Addr) (n : Int), vs = [.ref d, .int n] ∧ DeckAt d l H ∧ 1 ≤ n ∧ n < 1000000 ∧ ∀ r H', 0 ≤ r → r < n → DeckAt d l H' → Keeps d l H H' → Q (.int r) H'
/-- one of a list's items -/
def spPick (K : PySem.W.Frag) : Sp := fun vs H Q _ => ∃ (d l p : Addr) (xs : List V), vs = [.ref d, .ref p] ∧ DeckAt d l H ∧ H p = some (.lst xs) ∧ p ≠ l ∧ 1 ≤ xs.length ∧ xs.length < 1000000 ∧ ∀ v H', v ∈ xs → DeckAt d l H' → Keeps d l H H' → Q v H'
/-- a deck of a script -/
def spDeck (K : PySem.W.Frag) : Sp := fun vs H Q _ => ∃ (a : Addr) (ns : List Int), vs = [.ref a] ∧ SqL K H a (ns.map V.int) ∧ ns.length ≤ 63 ∧ ∀ d l H', DeckAt d l H' → (∀ b o, H b = some o → H' b = some o) → H d = none → H l = none → Q (.ref d) H'
section
theorem shaped_ints (ns : List Int) : SeqAt.shaped (.list (ns.map PyData.int)) = true := by
  have h1 : PyData.canLayAll0 (ns.map PyData.int) = true := by
    induction ns with
    | nil => rfl
    | cons n r ih => simp [PyData.canLayAll0, PyData.canLay0, ih]
  have h2 : PyData.depthAll (ns.map PyData.int) ≤ 1 := by
    induction ns with
    | nil => simp [PyData.depthAll]
    | cons n r ih =>
      have := ih (by simpa [PyData.canLayAll0, PyData.canLay0] using h1)
      simp only [List.map_cons, PyData.depthAll, PyData.depth]
      omega
  unfold SeqAt.shaped
  rw [Bool.and_eq_true]
  have h3 : (PyData.list (ns.map PyData.int)).depth ≤ 64 := by
    simp only [PyData.depth]
    omega
  exact ⟨by simpa [PyData.canLay0] using h1, decide_eq_true h3⟩
theorem dp_ints {K : PySem.W.Frag} {H : Hp} : ∀ ns : List Int, DpAll K H (ns.map V.int) (ns.map PyData.int)
  | [] => .nil
  | n :: r => .cons (.int n) (dp_ints r)
theorem eqv_nil : ∀ ns : List Int, PyData.eqv (.list (ns.map PyData.int)) (.list []) = decide (ns = []) := by
  intro ns
  cases ns with
  | nil => rfl
  | cons n r => simp [PyData.eqv, PyData.eqvAll]
theorem ne_cm : ¬ (Sum.inr "cells" : Key) = .inr "mixed" := fun z => absurd (Sum.inr.inj z) (by decide +kernel)
theorem ne_cd : ¬ (Sum.inr "cells" : Key) = .inr "draws" := fun z => absurd (Sum.inr.inj z) (by decide +kernel)
theorem ne_md : ¬ (Sum.inr "mixed" : Key) = .inr "draws" := fun z => absurd (Sum.inr.inj z) (by decide +kernel)
theorem val_cells {l : Addr} {m k : Int} : valV (deckKV l m k) (.inr "cells") = some (.ref l) := by
  rw [L2.valV_pos rfl]
theorem val_mixed {l : Addr} {m k : Int} : valV (deckKV l m k) (.inr "mixed") = some (.int m) := by
  rw [L2.valV_neg ne_cm, L2.valV_pos rfl]
theorem val_draws {l : Addr} {m k : Int} : valV (deckKV l m k) (.inr "draws") = some (.int k) := by
  rw [L2.valV_neg ne_cd, L2.valV_neg ne_md, L2.valV_pos rfl]
theorem put_draws {l : Addr} {m k j : Int} : putK (deckKV l m k) (.inr "draws") (.int j) = deckKV l m j := by
  have h1 : ¬ Str.ofString "cells" = Str.ofString "draws" := by decide +kernel
  have h2 : ¬ Str.ofString "mixed" = Str.ofString "draws" := by decide +kernel
  simp [putK, deckKV, h1, h2]
theorem get_cells {H : Hp} {d l : Addr} {m k : Int} (h : H d = some (.dK (deckKV l m k))) : DGet H d (.str "cells") (some (.ref l)) := by
  rw [← val_cells (l := l) (m := m) (k := k)]
  exact DGet.k (k := Sum.inr "cells") h
theorem get_mixed {H : Hp} {d l : Addr} {m k : Int} (h : H d = some (.dK (deckKV l m k))) : DGet H d (.str "mixed") (some (.int m)) := by
  rw [← val_mixed (l := l) (m := m) (k := k)]
  exact DGet.k (k := Sum.inr "mixed") h
theorem get_draws {H : Hp} {d l : Addr} {m k : Int} (h : H d = some (.dK (deckKV l m k))) : DGet H d (.str "draws") (some (.int k)) := by
  rw [← val_draws (l := l) (m := m) (k := k)]
  exact DGet.k (k := Sum.inr "draws") h
theorem put_drawsD {H : Hp} {d l : Addr} {m k j : Int} (h : H d = some (.dK (deckKV l m k))) : DPut H d (.str "draws") (.int j) (upd H d (.dK (deckKV l m j))) := by
  rw [← put_draws (l := l) (m := m) (k := k) (j := j)]
  exact DPut.k (k := Sum.inr "draws") h (by show 3 < sizeLine; decide)
end
section
variable {P : Program} {w : World} {K : PySem.W.Frag} {mg : Str → Option Value} {base : Heap} {f fD : Addr} {fd fdD : FuncData}
theorem scDraw : FnScope ["deck", "many", "number", "cell"] ["deck", "many"] (defScope sDraw) := ⟨rfl, rfl, rfl, by decide +kernel, rfl, by decide +kernel, by decide +kernel⟩
theorem ok_draw (F : FnP K "_law_draw" sDraw f fd) (B : Bl mg) : FnOk P w K mg base CX0 1 f fd ["deck", "many"] spDraw := by
  refine F.ok scDraw (fun vs H Q E h => ?_) (fun cdv A outer s H vs Q E hr h => ?_)
  · obtain ⟨d, l, n, rfl, _⟩ := h
    rfl
  · obtain ⟨d, l, n, rfl, D, hn1, hn2, k⟩ := h
    have hu := hu_of hr
    have dl := D.ne
    have int1 : ∀ X : Cx, X.mg = mg → True := fun _ _ => trivial
    obtain ⟨ns, m, j, h1, h2, h3⟩ := D
    refine ⟨_, pss_cons (ps_dput hu (pv 0) pe_str (pe_op op_add (pe_dget hu (pv 0) pe_str (fun _ _ => rfl)) pe_int) rfl)
      (pss_cons (ps_set (i := 2) scDraw.nd rfl (Or.inl rfl) (pe_op op_add (pe_dget hu (pv 0) pe_str (fun _ _ => rfl)) (pe_op op_mul pe_int (pe_dget hu (pv 0) pe_str (fun _ _ => rfl)))))
      (pss_cons (ps_if (pt_cmpR (op_neD (Nat.lt_of_le_of_lt (Nat.add_le_add_left (by decide : 64 ≤ 64) _) hr.units)) (pe_dget hu (pv 0) pe_str (fun _ _ => rfl)) (pe_lst pa_nil) (nomark _))
          (pss_cons (ps_set (i := 3) scDraw.nd rfl (Or.inl rfl) (pe_bm0 PySem.F.plainAttrs_list PySem.F.slot_list_pop PySem.F.type_list_pop mt_pop (pe_dget hu (pv 0) pe_str (fun _ _ => rfl))))
          (pss_cons (ps_if (pt_cmpR op_ge (pv 3) (pe_op op_pow pe_int pe_int) (nomark _))
              (pss_cons (ps_expr (pe_bm PySem.F.plainAttrs_list PySem.F.slot_list_append PySem.F.type_list_append mt_append (pe_dget hu (pv 0) pe_str (fun _ _ => rfl)) (pa_cons (pe_op op_fdiv (pv 3) (pe_callB (call_max2 rfl) (by rfl) (B "max" (by decide +kernel)) (by decide +kernel) (pa_cons pe_int (pa_cons (pv 1) pa_nil)))) pa_nil)))
              (pss_one (ps_ret (pe_op op_mod (pe_callTy call_int1 (by rfl) (B "int" (by decide +kernel)) (by decide +kernel) (pa_cons (pv 3) pa_nil)) (pv 1)))))
              pss_nil)
          (pss_one (ps_set (i := 2) scDraw.nd rfl (Or.inl rfl) (pe_op op_add (pv 2) (pe_op op_mod (pe_callTy call_int1 (by rfl) (B "int" (by decide +kernel)) (by decide +kernel) (pa_cons (pv 3) pa_nil)) pe_int))))))
          pss_nil)
      (pss_cons (ps_set (i := 2) scDraw.nd rfl (Or.inl rfl) (pe_op op_mod (pe_callTy call_int1 (by rfl) (B "int" (by decide +kernel)) (by decide +kernel) (pa_cons (pe_op op_add (pe_op op_mul (pv 2) pe_int) pe_int) pa_nil)) pe_int))
      (pss_cons (ps_set (i := 2) scDraw.nd rfl (Or.inl rfl) (pe_op op_mod (pe_callTy call_int1 (by rfl) (B "int" (by decide +kernel)) (by decide +kernel) (pa_cons (pe_op op_add (pe_op op_add (pe_op op_mul (pv 2) (pv 2)) (pe_op op_mul pe_int (pe_dget hu (pv 0) pe_str (fun _ _ => rfl)))) pe_int) pa_nil)) pe_int))
      (pss_cons (ps_set (i := 2) scDraw.nd rfl (Or.inl rfl) (pe_op op_mod (pe_callTy call_int1 (by rfl) (B "int" (by decide +kernel)) (by decide +kernel) (pa_cons (pe_op op_mul (pv 2) pe_int) pa_nil)) pe_int))
      (pss_one (ps_ret (pe_op op_mod (pe_callTy call_int1 (by rfl) (B "int" (by decide +kernel)) (by decide +kernel) (pa_cons (pe_op op_fdiv (pv 2) pe_int) pa_nil)) (pv 1))))))))), ?_⟩
    -- deck['draws'] = deck['draws'] + 1
    refine ⟨_, rfl, d, _, rfl, get_draws h1, _, _, rfl, rfl, _, rfl, d, _, rfl, put_drawsD h1, ?_⟩
    generalize hH1 : upd H d (.dK (deckKV l m (j + 1))) = H1
    have g1 : H1 d = some (.dK (deckKV l m (j + 1))) := by rw [← hH1, upd_same]
    have g2 : H1 l = some (.lst (ns.map V.int)) := by rw [← hH1, upd_ne dl.symm]; exact h2
    have kp : Keeps d l H H1 := by rw [← hH1]; exact Keeps.atD
    generalize j + 1 = j1 at g1
    -- number = deck['mixed'] + 69621 * deck['draws']
    refine ⟨_, rfl, d, _, rfl, get_mixed g1, _, rfl, d, _, rfl, get_draws g1, _, _, rfl, rfl, Or.inl ⟨by decide, by decide⟩, _, _, rfl, rfl, ?_⟩
    -- if deck['cells'] != []
    refine ⟨_, rfl, d, _, rfl, get_cells g1, (by show 0 ≤ sizeLine; omega), fun p np => ?_⟩
    have npd : d ≠ p := ne_of_none g1 np
    have npl : l ≠ p := ne_of_none g2 np
    have g1' : ∀ o, upd H1 p o d = some (.dK (deckKV l m j1)) := fun o => by rw [upd_ne npd]; exact g1
    have g2' : ∀ o, upd H1 p o l = some (.lst (ns.map V.int)) := fun o => by rw [upd_ne npl]; exact g2
    refine ⟨.list (ns.map PyData.int), .list [], .lst (SqL.of (g2' _)) (dp_ints ns), .lst (SqL.of upd_same) .nil, shaped_ints ns, shaped_ints [], _, rfl, ?_⟩
    rw [eqv_nil]
    have kp1 : Keeps d l H (upd H1 p (.lst [])) := kp.trans (.new np)
    have hn0 : 0 < n := by omega
    have popped : ∀ c : Int, ns ≠ [] → (ns.map V.int)[(ns.map V.int).length - 1]? = some (.int c) → True := fun _ _ _ => trivial
    refine ite2 (fun hne => ?_) (fun he => ?_)
    · have hne' : ns ≠ [] := by
        intro z
        rw [z] at hne
        simp at hne
      have hpos : 0 < ns.length := List.length_pos_iff.mpr hne'
      obtain ⟨c, hc⟩ : ∃ c, (ns.map V.int)[(ns.map V.int).length - 1]? = some (.int c) := by
        rw [List.length_map, List.getElem?_map, List.getElem?_eq_getElem (by omega)]
        exact ⟨_, rfl⟩
      -- cell = deck['cells'].pop()
      refine ⟨_, rfl, d, _, rfl, get_cells (g1' _), Or.inl ⟨rfl, _, SqL.of (g2' _)⟩, l, _, _, rfl, rfl, g2' _, hc, ?_⟩
      generalize hH3 : upd (upd H1 p (.lst [])) l (.lst (ns.map V.int).dropLast) = H3
      have q1 : H3 d = some (.dK (deckKV l m j1)) := by rw [← hH3, upd_ne dl]; exact g1' _
      have q2 : H3 l = some (.lst (ns.dropLast.map V.int)) := by rw [← hH3, upd_same, List.map_dropLast]
      have kp3 : Keeps d l H H3 := by rw [← hH3]; exact kp1.trans .atL
      have hlen : (ns.dropLast).length + 1 ≤ 63 := by rw [List.length_dropLast]; omega
      -- if cell >= 10 ** 18
      refine ⟨_, rfl, _, _, rfl, rfl, ⟨by decide, by decide, by decide⟩, _, _, rfl, rfl, _, rfl, ite2 (fun _ => ?_) (fun _ => ?_)⟩
      · refine ⟨_, rfl, d, _, rfl, get_cells q1, Or.inl ⟨rfl, _, SqL.of q2⟩, _, rfl, _, rfl, _, _, rfl, _, _, rfl, rfl, ⟨by split <;> omega, by split <;> omega⟩, l, _, _, rfl, rfl, q2, small1000 (by rw [List.length_map]; omega), ?_⟩
        refine ⟨_, rfl, Or.inl ⟨_, rfl, _, rfl, _, _, rfl, rfl, hn0, k _ _ (Int.emod_nonneg _ (by omega)) (Int.emod_lt_of_pos _ hn0) ⟨ns.dropLast ++ [c / (if n > 2 then n else 2)], m, j1, by rw [upd_ne dl]; exact q1, by rw [upd_same, List.map_append]; rfl, by rw [List.length_append]; exact hlen⟩ (kp3.trans .atL)⟩⟩
      · refine ⟨_, rfl, _, rfl, Or.inl ⟨_, rfl, _, _, rfl, rfl, (by show (0 : Int) < 2147483629; decide), _, _, rfl, rfl, ?_⟩⟩
        refine ⟨_, rfl, _, _, rfl, rfl, Or.inr ⟨by decide, by decide⟩, _, _, rfl, rfl, Or.inl ⟨_, rfl, _, _, rfl, rfl, (by show (0 : Int) < 2147483647; decide), ?_⟩⟩
        refine ⟨_, rfl, _, rfl, _, _, rfl, rfl, Or.inl ⟨by omega, by omega⟩, _, rfl, d, _, rfl, get_draws q1, _, _, rfl, rfl, Or.inl ⟨by decide, by decide⟩, _, _, rfl, rfl, _, _, rfl, rfl, Or.inl ⟨_, rfl, _, _, rfl, rfl, (by show (0 : Int) < 2147483587; decide), ?_⟩⟩
        refine ⟨_, rfl, _, _, rfl, rfl, Or.inr ⟨by decide, by decide⟩, Or.inl ⟨_, rfl, _, _, rfl, rfl, (by show (0 : Int) < 2147483563; decide), ?_⟩⟩
        exact ⟨_, rfl, _, _, rfl, rfl, ⟨by decide, by decide⟩, Or.inl ⟨_, rfl, _, rfl, _, _, rfl, rfl, hn0, k _ _ (Int.emod_nonneg _ (by omega)) (Int.emod_lt_of_pos _ hn0) ⟨ns.dropLast, m, j1, q1, q2, by omega⟩ kp3⟩⟩
    · refine ⟨_, rfl, _, _, rfl, rfl, Or.inr ⟨by decide, by decide⟩, _, _, rfl, rfl, Or.inl ⟨_, rfl, _, _, rfl, rfl, (by show (0 : Int) < 2147483647; decide), ?_⟩⟩
      refine ⟨_, rfl, _, rfl, _, _, rfl, rfl, Or.inl ⟨by omega, by omega⟩, _, rfl, d, _, rfl, get_draws (g1' _), _, _, rfl, rfl, Or.inl ⟨by decide, by decide⟩, _, _, rfl, rfl, _, _, rfl, rfl, Or.inl ⟨_, rfl, _, _, rfl, rfl, (by show (0 : Int) < 2147483587; decide), ?_⟩⟩
      refine ⟨_, rfl, _, _, rfl, rfl, Or.inr ⟨by decide, by decide⟩, Or.inl ⟨_, rfl, _, _, rfl, rfl, (by show (0 : Int) < 2147483563; decide), ?_⟩⟩
      exact ⟨_, rfl, _, _, rfl, rfl, ⟨by decide, by decide⟩, Or.inl ⟨_, rfl, _, rfl, _, _, rfl, rfl, hn0, k _ _ (Int.emod_nonneg _ (by omega)) (Int.emod_lt_of_pos _ hn0) ⟨ns, m, j1, g1' _, g2' _, h3⟩ kp1⟩⟩
end
end K0
namespace K0
open PySem PySem.Spec PyProof.Rows L2
theorem cut_ints (ns : List Int) (lo hi : Option Int) : ∃ ms : List Int, cutV (ns.map V.int) lo hi = ms.map V.int ∧ ms.length ≤ ns.length := by
  unfold cutV
  rw [← List.map_drop, ← List.map_take]
  exact ⟨_, rfl, by rw [List.length_take, List.length_drop]; omega⟩
section
variable {P : Program} {w : World} {K : PySem.W.Frag} {mg : Str → Option Value} {base : Heap} {f fD : Addr} {fd fdD : FuncData}
theorem scPick : FnScope ["deck", "some"] ["deck", "some"] (defScope sPick) := ⟨rfl, rfl, rfl, by decide +kernel, rfl, by decide +kernel, by decide +kernel⟩
theorem ok_pick (F : FnP K "_law_pick" sPick f fd) (FD : FnP K "_law_draw" sDraw fD fdD) (gD : mg "_law_draw" = some (.ref fD)) (B : Bl mg) : FnOk P w K mg base CX0 2 f fd ["deck", "some"] (spPick K) := by
  have GD : FnOk P w K mg base CX0 1 fD fdD ["deck", "many"] spDraw := ok_draw FD B
  have bD : Binds K fdD ["deck", "many"] [] := FD.bindsN fun _ _ _ _ _ _ us hl => match us, hl with | [_, _], _ => rfl
  refine F.ok scPick (fun vs H Q E h => ?_) (fun cdv A outer s H vs Q E hr h => ?_)
  · obtain ⟨d, l, p, xs, rfl, _⟩ := h
    rfl
  · obtain ⟨d, l, p, xs, rfl, D, hp, hpl, h1, h2, k⟩ := h
    have dp : p ≠ d := by
      obtain ⟨ns, m, j, q, _⟩ := D
      exact ne_of hp q (by intro z; cases z)
    refine ⟨_, PSs.nox (pss_one (ps_ret (pe_ix ix_list (pv 1) (pe_call GD hr rfl gD FD.kp bD .nil pass0 (pa_cons (pv 0) (pa_cons (pe_callB call_len_seq (by rfl) (B "len" (by decide +kernel)) PySem.boot_len (pa_cons (pv 1) pa_nil)) pa_nil))) (fun _ _ => rfl)))), ?_⟩
    refine ⟨_, rfl, _, rfl, _, rfl, p, _, rfl, .inl (SqL.of hp), d, l, _, rfl, D, by omega, by omega, fun r H' r0 r1 D' K' => ?_⟩
    obtain ⟨j, rfl⟩ := Int.eq_ofNat_of_zero_le r0
    have hj : j < xs.length := by omega
    exact ⟨p, _, _, _, rfl, rfl, SqL.of (K' _ _ hp dp hpl), atI_nat (List.getElem?_eq_getElem hj), k _ H' (List.getElem_mem hj) D' K'⟩
theorem scDeck : FnScope ["script", "number", "cell"] ["script"] (defScope sDeck) := ⟨rfl, rfl, rfl, by decide +kernel, rfl, by decide +kernel, by decide +kernel⟩
theorem merge_deck (l : Addr) (m k : Int) : mergeK [] (deckKV l m k) = deckKV l m k := rfl
theorem ok_deck (F : FnP K "_law_deck" sDeck f fd) (B : Bl mg) : FnOk P w K mg base CX0 1 f fd ["script"] (spDeck K) := by
  refine F.ok scDeck (fun vs H Q E h => ?_) (fun cdv A outer s H vs Q E hr h => ?_)
  · obtain ⟨a, ns, rfl, _⟩ := h
    rfl
  · obtain ⟨a, ns, rfl, hS, hlen, k⟩ := h
    refine ⟨_, PSs.nox (pss_cons (ps_set (i := 1) scDeck.nd rfl (Or.inl rfl) pe_int)
      (pss_cons (ps_for PassesOwn.never rfl (pi_list (pe_slice sl_list (pv 0) po_none (po_some pe_int))) (pg_name (i := 2) scDeck.nd rfl (Or.inl rfl))
        (pss_one (ps_set (i := 1) scDeck.nd rfl (Or.inl rfl) (pe_op op_mod (pe_callTy call_int1 (by rfl) (B "int" (by decide +kernel)) (by decide +kernel) (pa_cons (pe_op op_add (pe_op op_add (pe_op op_mul (pv 1) pe_int) (pe_op op_mod (pe_callTy call_int1 (by rfl) (B "int" (by decide +kernel)) (by decide +kernel) (pa_cons (pv 2) pa_nil)) pe_int)) pe_int) pa_nil)) pe_int))))
      (pss_one (ps_ret (pe_disp (pps_cons pe_str (pe_revL (pe_callTy call_list_of (by rfl) (B "list" (by decide +kernel)) (by decide +kernel) (pa_cons (pe_slice sl_list (pv 0) po_none (po_some pe_int)) pa_nil))) (pps_cons pe_str (pv 1) (pps_cons pe_str pe_int pps_nil))) (by rfl) (by rfl) (fun z => by cases z) (by decide)))))), ?_⟩
    obtain ⟨ms, hms, hml⟩ := cut_ints ns none (some 63)
    have hm63 : ms.length ≤ 63 := Nat.le_trans hml hlen
    refine ⟨_, rfl, _, rfl, a, _, rfl, hS, fun p np => ?_⟩
    rw [hms]
    have s1 : Same H (upd H p (.lst (ms.map V.int))) := fun b o e => by
      rw [upd_ne (ne_of_none e np)]
      exact e
    generalize hH1 : upd H p (.lst (ms.map V.int)) = H1 at s1
    have hp : H1 p = some (.lst (ms.map V.int)) := by rw [← hH1, upd_same]
    refine ⟨p, rfl, ⟨_, SqL.of hp⟩, for_list (K := K) (a := p) (xs := ms.map V.int) (fun i σ H2 => ∃ (z : Int) (v : Option V), σ = [some (.ref a), some (.int z), v] ∧ H2 = H1) ⟨_, none, rfl, rfl⟩ (fun i σ H2 _ ⟨_, _, _, e⟩ => by rw [e]; exact SqL.of hp) ?_ ?_⟩
    · rintro i y σ H2 hi ⟨z, v, rfl, rfl⟩
      obtain ⟨c, rfl⟩ : ∃ c, y = V.int c := by
        rw [List.getElem?_map] at hi
        cases e : ms[i]? with
        | none =>
          rw [e] at hi
          cases hi
        | some c =>
          rw [e] at hi
          exact ⟨c, (Option.some.inj hi).symm⟩
      refine ⟨_, rfl, _, _, rfl, rfl, Or.inr ⟨by decide, by decide⟩, _, rfl, Or.inl ⟨_, rfl, _, _, rfl, rfl, (by show (0 : Int) < 2147483629; decide), _, _, rfl, rfl, _, _, rfl, rfl, Or.inl ⟨_, rfl, _, _, rfl, rfl, (by show (0 : Int) < 2147483587; decide), ?_⟩⟩⟩
      exact ⟨_, _, rfl, rfl⟩
    · rintro σ H2 ⟨z, v, rfl, rfl⟩
      intro d nd
      refine ⟨_, rfl, _, rfl, a, ns.map V.int, rfl, ?_, fun q nq => ?_⟩
      · have s2 : Same H2 (upd H2 d (.dK [])) := fun b o e => by
          rw [upd_ne (ne_of_none e nd)]
          exact e
        exact s2.seq (s1.seq hS)
      rw [hms]
      refine ⟨q, _, rfl, .inl (SqL.of upd_same), fun r nr => ⟨r, _, rfl, SqL.of upd_same, fun l nl => ?_⟩⟩
      generalize hH5 : upd (upd (upd (upd H2 d (.dK [])) q (.lst (ms.map V.int))) r (.lst (ms.map V.int))) l (.lst (ms.map V.int).reverse) = H5
      have k5 : ∀ b o, upd H2 d (.dK []) b = some o → H5 b = some o := fun b o e => by
        have n1 : b ≠ q := ne_of_none e nq
        have e1 : upd (upd H2 d (.dK [])) q (.lst (ms.map V.int)) b = some o := by rw [upd_ne n1]; exact e
        have n2 : b ≠ r := ne_of_none e1 nr
        have e2 : upd (upd (upd H2 d (.dK [])) q (.lst (ms.map V.int))) r (.lst (ms.map V.int)) b = some o := by rw [upd_ne n2]; exact e1
        rw [← hH5, upd_ne (ne_of_none e2 nl)]
        exact e2
      have h5d : H5 d = some (.dK []) := k5 d _ upd_same
      have h5l : H5 l = some (.lst (ms.reverse.map V.int)) := by rw [← hH5, upd_same, List.map_reverse]
      have dl : l ≠ d := ne_of h5l h5d (by intro z; cases z)
      refine ⟨_, rfl, h5d, deckKV l z 0, rfl, (by show 3 ≤ 15; decide), ?_⟩
      rw [merge_deck]
      refine k d l _ ⟨ms.reverse, z, 0, upd_same, by rw [upd_ne dl]; exact h5l, by rw [List.length_reverse]; exact hm63⟩ (fun b o e => ?_) (s1.free nd) ?_
      · have e2 := s1 b o e
        rw [upd_ne (ne_of_none e2 nd)]
        exact k5 b o (by rw [upd_ne (ne_of_none e2 nd)]; exact e2)
      · cases e : H l with
        | none => rfl
        | some o =>
          have e2 := s1 l o e
          have e3 : upd H2 d (.dK []) l = some o := by rw [upd_ne (ne_of_none e2 nd)]; exact e2
          have e4 : upd (upd H2 d (.dK [])) q (.lst (ms.map V.int)) l = some o := by rw [upd_ne (ne_of_none e3 nq)]; exact e3
          have e5 : upd (upd (upd H2 d (.dK [])) q (.lst (ms.map V.int))) r (.lst (ms.map V.int)) l = some o := by rw [upd_ne (ne_of_none e4 nr)]; exact e4
          rw [nl] at e5
          cases e5
end
end K0
/-! t[::-1] of a pair. -/
namespace K0
open PySem PySem.Spec PyProof.Rows L2
section
variable {prog : Program} {w : World} {A : Around} {E : Value → Shared → Prop} {s : Shared}
theorem applied_rev2 {sl : Addr} {vs : Value} {Q : Int × Int × Nat → Shared → Prop} (hs : s.heap.IsSliceOf sl .none .none vs) (ps : IsPart vs (some (-1))) (h : Q (1, -1, 2) s) :
    wpAny (model prog w) A (Builtin.Slice.sliceApplied (.ref sl) (pure (2 : Int))) Q E s := by
  obtain ⟨os, hos, hcs, hds⟩ := id hs
  unfold Builtin.Slice.sliceApplied Builtin.Slice.sliceFields
  refine wpAny_bind (wpAny_bind (wpAny_field hos hds (x := .none) rfl (wpAny_bind (wpAny_field hos hds (x := .none) rfl (wpAny_bind (wpAny_field hos hds (x := vs) rfl (wpAny_pure ?_)))))))
  refine wpAny_bind (HT.slicePart_ ps ?_)
  show wpAny _ _ (if ((-1 : Int) == 0) = true then _ else _) _ _ s
  rw [if_neg (by decide)]
  refine wpAny_bind (HT.slicePart_ .none (wpAny_bind (HT.slicePart_ .none (wpAny_bind (wpAny_pure ?_)))))
  exact wpAny_pure h
theorem getItem_rev2 {t sl : Addr} {x y vs : Value} {Q : Value → Shared → Prop} (ht : IsTup s.heap t #[x, y]) (hs : s.heap.IsSliceOf sl .none .none vs) (ps : IsPart vs (some (-1)))
    (h : Q (.ref s.heap.objs.size) { s with heap := s.heap.push { cls := .type "tuple", data := .seq #[y, x] } }) : wpAny (model prog w) A (getItem (.ref t) (.ref sl)) Q E s := by
  obtain ⟨os, hos, hcs, hds⟩ := id hs
  have hTs : s.TypeIs (.ref sl) "slice" := ⟨os, hos, hcs⟩
  have hz : sizeOk (.seq #[y, x]) := by
    show 2 ≤ sizeLine
    rw [sizeLine_eq]
    omega
  unfold getItem
  try with_reducible refine wpAny_holding ?_
  first | refine wpAny_bind (wpAny_pure ?_) | skip
  refine wpAny_bind (wpAny_sequenceKey ht.typeIs (by decide) ?_)
  refine wpAny_bind (wpAny_callSpecial?_slot (name := Str.ofString "__getitem__") ht.typeIs PyProof.Rows.slot_tuple_getitem
    (wpAny_call_entry PyProof.Rows.slot_tuple_getitem ht.typeIs entry_tuple_getitem ?_ (args_tuple_getitem _ _)))
  show wpAny _ _ (Builtin.Tuple.tupleItemsOf (.ref t) >>= _) _ _ s
  refine wpAny_bind (tupleItemsOf_ ht ?_)
  refine wpAny_bind (wpAny_typeOf hTs ?_)
  rw [if_pos (by decide)]
  refine wpAny_bind (applied_rev2 hs ps ?_)
  show wpAny _ _ (if (((1 : Int) == 0) && (((-1) : Int) == 1) && ((2 : Nat) == (#[x, y] : Array Value).size)) = true then _ else _) _ _ s
  rw [if_neg (by simp)]
  have e : ((List.range 2).filterMap fun (k : Nat) => (#[x, y] : Array Value)[((1 : Int) + (k : Int) * (-1)).toNat]?).toArray = #[y, x] := by rfl
  rw [e]
  first
    | exact wpAny_bind (m := Builtin.Tuple.tupleExact _) (wpAny_newObj_type (wpAny_pure ⟨_, rfl, wpAny_pure h⟩) hz)
    | exact wpAny_bind (m := Builtin.Tuple.tupleExact _) (wpAny_newObj_type (wpAny_bind (wpAny_pure (wpAny_pure ⟨_, rfl, wpAny_pure h⟩))) hz)
    | exact wpAny_bind (wpAny_bind (m := Builtin.Tuple.tupleExact _) (wpAny_newObj_type (wpAny_pure (wpAny_pure ⟨_, rfl, wpAny_pure h⟩)) hz))
    | exact wpAny_bind (wpAny_bind (m := Builtin.Tuple.tupleExact _) (wpAny_newObj_type (wpAny_pure ⟨_, rfl, wpAny_pure h⟩) hz))
end
def tRev2 (te : TE) : TE := fun σ H Q => te σ H fun x H1 => ∃ a u v, x = .ref a ∧ H1 a = some (.tup [u, v]) ∧ ∀ p, H1 p = none → Q (.ref p) (upd H1 p (.tup [v, u]))
section
variable {X : Cx}
theorem pe_rev2 {e : Expr} {te : TE} {k : Nat} {p1 p2 p3 pos : Pos} (he : PE X e te) : PE X (.Subscript e (.Slice none none (some (.UnaryOp .USub (.Constant (.int 1) k p1) p2)) p3) pos) (tRev2 te) := by
  refine ⟨fun pins s σ H Q I h => ?_⟩
  refine Subscript_ (thn (he.run pins s σ H _ I h) fun v s1 ⟨x, H1, I1, r1, q1⟩ => ?_)
  obtain ⟨a, x1, x2, ex, hx, q⟩ := q1
  subst ex
  cases r1
  have hst : PO X (some (.UnaryOp .USub (.Constant (.int 1) k p1) p2)) (tPart (tUn (rU fun i => .int (-i)) (tC (.int 1)))) := po_some (pe_un un_neg pe_int)
  refine wpAny_Slice (thn (po_none.run pins s1 σ H1 (fun o H2 => o = none ∧ H2 = H1) I1 ⟨rfl, rfl⟩) fun vl s2 ⟨l, H2, I2, pl, el, e2⟩ => ?_)
  subst el e2
  refine thn (po_none.run pins s2 σ H2 (fun o H3 => o = none ∧ H3 = H2) I2 ⟨rfl, rfl⟩) fun vu s3 ⟨u, H3, I3, pu, eu, e3⟩ => ?_
  subst eu e3
  refine thn (hst.run pins s3 σ H3 (fun o H4 => o = some (-1) ∧ H4 = H3) I3 ⟨1, rfl, -1, rfl, rfl, rfl⟩) fun vs s4 ⟨o, H4, I4, ps, eo, e4⟩ => ?_
  subst eo e4
  have I5 : Inv X pins σ H4 { s4 with heap := s4.heap.push { cls := .type "slice", data := .fields #[vl, vu, vs] } } := I4.kept (t' := s4.toks) fun b ob q => Heap.get?_push_of_some _ q
  obtain ⟨its, r, ht, hz⟩ := I5.tuple (SqT.of hx)
  cases pl
  cases pu
  cases r with
  | cons r1 rr =>
    cases rr with
    | cons r2 rr =>
      cases rr
      show wpAny (model X.prog X.w) X.A (subscriptTail e (.Slice none none (some (.UnaryOp .USub (.Constant (.int 1) k p1) p2)) p3) (.ref a) (.ref s4.heap.objs.size)) (EP X pins σ Q) X.xe { s4 with heap := s4.heap.push { cls := .type "slice", data := .fields #[.none, .none, vs] } }
      refine tail_any (ops := [.ref a, .ref s4.heap.objs.size]) ht.typeIs (PyProof.Rows.slot_tuple_getitem.lookup) ?_ (by with_unfolding_all rfl)
      refine getItem_rev2 ht (Heap.IsSliceOf.new _ .none .none vs) ps ?_
      refine ⟨.ref _, _, I5.laid (t' := s4.toks) (o := .tup [x2, x1]) (fun b ob q => Heap.get?_push_of_some _ q) (Nat.le_refl _) ?_, rfl, q _ (I5.hok.fresh (Nat.le_refl _))⟩
      exact ⟨by show 2 ≤ sizeLine; rw [sizeLine_eq]; omega, [_, _], .cons r2 (.cons r1 .nil), IsTup.new _ _⟩
end
end K0
/-! Expressions that give data: what each of them gives, whatever stands beside. -/
namespace K0
open PySem PySem.Spec PyProof.Rows L2
/-- the heap without the deck -/
def hid (d l : Addr) (H : Hp) : Hp := fun b => if b = d ∨ b = l then none else H b
theorem hid_of {d l b : Addr} {H : Hp} {o : HO} (h : H b = some o) (h1 : b ≠ d) (h2 : b ≠ l) : hid d l H b = some o := by
  unfold hid
  rw [if_neg (fun z => z.elim h1 h2)]
  exact h
theorem of_hid {d l b : Addr} {H : Hp} {o : HO} (h : hid d l H b = some o) : H b = some o ∧ b ≠ d ∧ b ≠ l := by
  unfold hid at h
  by_cases c : b = d ∨ b = l
  · rw [if_pos c] at h
    cases h
  · rw [if_neg c] at h
    exact ⟨h, fun z => c (.inl z), fun z => c (.inr z)⟩
theorem hid_keeps {d l : Addr} {H H' : Hp} (k : Keeps d l H H') : ∀ b o, hid d l H b = some o → hid d l H' b = some o := fun b o h => by
  obtain ⟨h1, h2, h3⟩ := of_hid h
  exact hid_of (k b o h1 h2 h3) h2 h3
theorem Keeps.of {d l : Addr} {H H' : Hp} (s : Same H H') : Keeps d l H H' := fun b o e _ _ => s b o e
theorem same_new {H : Hp} {p : Addr} {o : HO} (h : H p = none) : Same H (upd H p o) := fun b u e => by
  rw [upd_ne (ne_of_none e h)]
  exact e
structure GC (d l : Addr) (itv : V) (itd : PyData) (H : Hp) : Prop where
  td : H d ≠ none
  tl : H l ≠ none
  it : Dq (hid d l H) itv itd
theorem GC.same {d l : Addr} {itv : V} {itd : PyData} {H H' : Hp} (g : GC d l itv itd H) (s : Same H H') : GC d l itv itd H' where
  td := fun z => g.td (s.free z)
  tl := fun z => g.tl (s.free z)
  it := g.it.same (hid_keeps (Keeps.of s))
section
variable {d l : Addr} {itv : V} {itd : PyData} {σ : L2.St}
/-- the expression gives data dd -/
def GE (d l : Addr) (itv : V) (itd : PyData) (σ : L2.St) (te : TE) (dd : PyData) : Prop := ∀ (H : Hp) (Q : VK), GC d l itv itd H → (∀ v H', Same H H' → Dq (hid d l H') v dd → Q v H') → te σ H Q
def GA (d l : Addr) (itv : V) (itd : PyData) (σ : L2.St) (ta : TA) (ds : List PyData) : Prop := ∀ (H : Hp) (Q : List V → Hp → Prop), GC d l itv itd H → (∀ vs H', Same H H' → DqAll (hid d l H') vs ds → Q vs H') → ta σ H Q
theorem DqAll.len {H : Hp} : ∀ {vs : List V} {ds : List PyData}, DqAll H vs ds → vs.length = ds.length
  | _, _, .nil => rfl
  | _, _, .cons _ h => by rw [List.length_cons, List.length_cons, DqAll.len h]
theorem DqAll.append {H : Hp} : ∀ {vs ws : List V} {ds es : List PyData}, DqAll H vs ds → DqAll H ws es → DqAll H (vs ++ ws) (ds ++ es)
  | _, _, _, _, .nil, h => h
  | _, _, _, _, .cons a h, k => .cons a (DqAll.append h k)
theorem DqAll.rep {H : Hp} {vs : List V} {ds : List PyData} (h : DqAll H vs ds) : ∀ n : Nat, DqAll H (List.replicate n vs).flatten (List.replicate n ds).flatten
  | 0 => .nil
  | n + 1 => by
    rw [List.replicate_succ, List.replicate_succ, List.flatten_cons, List.flatten_cons]
    exact h.append (DqAll.rep h n)
theorem DqAll.mem {H : Hp} : ∀ {vs : List V} {ds : List PyData} {v : V}, DqAll H vs ds → v ∈ vs → ∃ dd, dd ∈ ds ∧ Dq H v dd
  | _, _, _, .nil, h => nomatch h
  | _, _, v, .cons a r, h => by
    rcases List.mem_cons.mp h with z | z
    · exact ⟨_, List.mem_cons_self, z ▸ a⟩
    · obtain ⟨dd, m, q⟩ := DqAll.mem r z
      exact ⟨dd, List.mem_cons_of_mem _ m, q⟩
theorem len_ok {n : Nat} (h : n ≤ 1000) : n ≤ sizeLine := Nat.le_of_lt (small1000 h)
theorem g_non : GE d l itv itd σ (tC .non) .none := fun H Q g k => k _ H (Same.refl H) .non
theorem g_bl {b : Bool} : GE d l itv itd σ (tC (.bl b)) (.bool b) := fun H Q g k => k _ H (Same.refl H) (.bl b)
theorem g_int {i : Int} : GE d l itv itd σ (tC (.int i)) (.int i) := fun H Q g k => k _ H (Same.refl H) (.int i)
theorem g_str {x : Str} : GE d l itv itd σ (tC (.str x)) (.str x) := fun H Q g k => k _ H (Same.refl H) (.str x)
theorem g_it {i : Nat} (h : σ[i]? = some (some itv)) : GE d l itv itd σ (tVar i) itd := fun H Q g k => ⟨_, h, k _ H (Same.refl H) g.it⟩
theorem g_nil : GA d l itv itd σ tNil [] := fun H Q g k => k _ H (Same.refl H) .nil
theorem g_cons {te : TE} {ta : TA} {dd : PyData} {ds : List PyData} (he : GE d l itv itd σ te dd) (ha : GA d l itv itd σ ta ds) : GA d l itv itd σ (tCons te ta) (dd :: ds) := fun H Q g k =>
  he H _ g fun v H1 s1 q1 => ha H1 _ (g.same s1) fun vs H2 s2 q2 => k _ H2 (s1.trans s2) (.cons (q1.same (hid_keeps (Keeps.of s2))) q2)
/-- a new object -/
theorem g_new {H : Hp} {p : Addr} {o : HO} (g : GC d l itv itd H) (n : H p = none) : hid d l (upd H p o) p = some o :=
  hid_of upd_same (fun z => g.td (z ▸ n)) (fun z => g.tl (z ▸ n))
theorem g_tup {ta : TA} {ds : List PyData} (ha : GA d l itv itd σ ta ds) (hl : ds.length ≤ 1000 := by decide) : GE d l itv itd σ (tTup ta) (.tuple ds) := fun H Q g k =>
  ha H _ g fun vs H1 s1 q1 => ⟨len_ok (by rw [q1.len]; exact hl), fun p np => k _ _ (s1.trans (same_new np)) (.tup (g_new (g.same s1) np) (q1.same (hid_keeps (Keeps.of (same_new np)))))⟩
theorem g_lst {ta : TA} {ds : List PyData} (ha : GA d l itv itd σ ta ds) (hl : ds.length ≤ 1000 := by decide) : GE d l itv itd σ (tLst ta) (.list ds) := fun H Q g k =>
  ha H _ g fun vs H1 s1 q1 => ⟨len_ok (by rw [q1.len]; exact hl), fun p np => k _ _ (s1.trans (same_new np)) (.lst (g_new (g.same s1) np) (q1.same (hid_keeps (Keeps.of (same_new np)))))⟩
theorem g_dict0 : GE d l itv itd σ tDNewK (.dict []) := fun H Q g k p np => k _ _ (same_new np) (.dic (g_new g np) .nil)
theorem g_cat {ta tb : TE} {ds es : List PyData} (ha : GE d l itv itd σ ta (.list ds)) (hb : GE d l itv itd σ tb (.list es)) (hl : ds.length + es.length ≤ 1000 := by decide) : GE d l itv itd σ (tOp rCat ta tb) (.list (ds ++ es)) := fun H Q g k => by
  refine ha H _ g fun v H1 s1 q1 => hb H1 _ (g.same s1) fun u H2 s2 q2 => ?_
  have q1' := q1.same (hid_keeps (Keeps.of s2))
  cases q1' with
  | lst h1 a1 =>
    cases q2 with
    | lst h2 a2 =>
      refine ⟨_, _, _, _, rfl, rfl, (of_hid h1).1, (of_hid h2).1, len_ok (by rw [a1.len, a2.len]; exact hl), fun p np => ?_⟩
      exact k _ _ ((s1.trans s2).trans (same_new np)) (.lst (g_new (g.same (s1.trans s2)) np) ((a1.append a2).same (hid_keeps (Keeps.of (same_new np)))))
theorem g_rep {ta : TE} {ds : List PyData} {i : Int} (ha : GE d l itv itd σ ta (.list ds)) (hi : 0 ≤ i ∧ i < 1000 := by decide) (hl : ds.length * i.toNat ≤ 1000 := by decide) : GE d l itv itd σ (tOp rRep ta (tC (.int i))) (.list (List.replicate i.toNat ds).flatten) := fun H Q g k => by
  refine ha H _ g fun v H1 s1 q1 => ?_
  cases q1 with
  | lst h1 a1 =>
    refine ⟨_, _, _, rfl, rfl, (of_hid h1).1, by omega, by omega, len_ok (by rw [a1.len]; exact hl), fun p np => ?_⟩
    exact k _ _ (s1.trans (same_new np)) (.lst (g_new (g.same s1) np) ((a1.rep _).same (hid_keeps (Keeps.of (same_new np)))))
theorem g_catT {K : PySem.W.Frag} {ta tb : TE} {x : PyData} {ds : List PyData} {y : PyData} {es : List PyData} (ha : GE d l itv itd σ ta (.tuple (x :: ds))) (hb : GE d l itv itd σ tb (.tuple (y :: es))) (hl : (x :: ds).length + (y :: es).length ≤ 1000 := by decide) :
    GE d l itv itd σ (tOp (rCatT K) ta tb) (.tuple ((x :: ds) ++ (y :: es))) := fun H Q g k => by
  refine ha H _ g fun v H1 s1 q1 => hb H1 _ (g.same s1) fun u H2 s2 q2 => ?_
  have q1' := q1.same (hid_keeps (Keeps.of s2))
  cases q1' with
  | tup h1 a1 =>
    cases q2 with
    | tup h2 a2 =>
      refine ⟨_, _, _, _, rfl, rfl, SqT.of (of_hid h1).1, SqT.of (of_hid h2).1, ?_, len_ok (by rw [a1.len, a2.len]; exact hl), fun z => ?_, fun _ p np => ?_⟩
      · intro z
        have e := a1.len
        rw [z] at e
        cases e
      · have e := a2.len
        rw [z] at e
        cases e
      · exact k _ _ ((s1.trans s2).trans (same_new np)) (.tup (g_new (g.same (s1.trans s2)) np) ((a1.append a2).same (hid_keeps (Keeps.of (same_new np)))))
/-- a pair's slices -/
theorem g_sl {K : PySem.W.Frag} {te : TE} {x y z : PyData} {lo hi : Option Int} {tl th : TO} (he : GE d l itv itd σ te (.tuple [x, y])) (hlo : ∀ H (R : Option Int → Hp → Prop), R lo H → tl σ H R) (hhi : ∀ H (R : Option Int → Hp → Prop), R hi H → th σ H R)
    (hc : ¬ (HT.sIx 2 0 lo = 0 ∧ HT.sIx 2 2 hi = 2)) (hz : ∀ u v : V, (cutV [u, v] lo hi = [u] ∧ z = x) ∨ (cutV [u, v] lo hi = [v] ∧ z = y)) : GE d l itv itd σ (tSl (rSlT K) te tl th) (.tuple [z]) := fun H Q g k => by
  refine he H _ g fun v H1 s1 q1 => hlo _ _ (hhi _ _ ?_)
  cases q1 with
  | tup h1 a1 =>
    cases a1 with
    | @cons u vs _ _ b1 br =>
      cases br with
      | @cons w _ _ _ b2 br =>
        cases br
        refine ⟨_, _, rfl, SqT.of (of_hid h1).1, hc, fun p np => ?_⟩
        refine k _ _ (s1.trans (same_new np)) (.tup (g_new (g.same s1) np) ?_)
        have hk := hid_keeps (d := d) (l := l) (Keeps.of (same_new (o := .tup (cutV [u, w] lo hi)) np))
        rcases hz u w with ⟨e, rfl⟩ | ⟨e, rfl⟩
        · rw [e] at hk ⊢
          exact .cons (b1.same hk) .nil
        · rw [e] at hk ⊢
          exact .cons (b2.same hk) .nil
theorem g_rev {te : TE} {x y : PyData} (he : GE d l itv itd σ te (.tuple [x, y])) : GE d l itv itd σ (tRev2 te) (.tuple [y, x]) := fun H Q g k => by
  refine he H _ g fun v H1 s1 q1 => ?_
  cases q1 with
  | tup h1 a1 =>
    cases a1 with
    | @cons u vs _ _ b1 br =>
      cases br with
      | @cons w _ _ _ b2 br =>
        cases br
        refine ⟨_, u, w, rfl, (of_hid h1).1, fun p np => ?_⟩
        have hk := hid_keeps (d := d) (l := l) (Keeps.of (same_new (o := .tup [w, u]) np))
        exact k _ _ (s1.trans (same_new np)) (.tup (g_new (g.same s1) np) (.cons (b2.same hk) (.cons (b1.same hk) .nil)))
theorem g_list {K : PySem.W.Frag} {te : TE} {ds : List PyData} (he : GE d l itv itd σ te (.tuple ds)) :
    GE d l itv itd σ (tCB (fun xs H Q => ∃ p ys, xs = [.ref p] ∧ (SqL K H p ys ∨ SqT K H p ys) ∧ ∀ l, H l = none → Q (.ref l) (upd H l (.lst ys))) (tCons te tNil)) (.list ds) := fun H Q g k => by
  refine he H _ g fun v H1 s1 q1 => ?_
  cases q1 with
  | tup h1 a1 =>
    exact ⟨_, _, rfl, .inr (SqT.of (of_hid h1).1), fun p np => k _ _ (s1.trans (same_new np)) (.lst (g_new (g.same s1) np) (a1.same (hid_keeps (Keeps.of (same_new np)))))⟩
theorem g_i0 {ta tb : TE} {f : Int → Int → V} {i j : Int} {dd : PyData} (ha : GE d l itv itd σ ta (.int i)) (hb : GE d l itv itd σ tb (.int j)) (hf : ∀ H, Dq H (f i j) dd) : GE d l itv itd σ (tOp (rI0 f) ta tb) dd := fun H Q g k => by
  refine ha H _ g fun v H1 s1 q1 => hb H1 _ (g.same s1) fun u H2 s2 q2 => ?_
  cases q1
  cases q2
  exact ⟨i, j, rfl, rfl, k _ _ (s1.trans s2) (hf _)⟩
theorem g_iC {ta tb : TE} {C : Int → Int → Prop} {f : Int → Int → V} {i j : Int} {dd : PyData} (ha : GE d l itv itd σ ta (.int i)) (hb : GE d l itv itd σ tb (.int j)) (hc : C i j) (hf : ∀ H, Dq H (f i j) dd) : GE d l itv itd σ (tOp (rI C f) ta tb) dd := fun H Q g k => by
  refine ha H _ g fun v H1 s1 q1 => hb H1 _ (g.same s1) fun u H2 s2 q2 => ?_
  cases q1
  cases q2
  exact ⟨i, j, rfl, rfl, hc, k _ _ (s1.trans s2) (hf _)⟩
theorem g_eqI {ta tb : TE} {i j : Int} (ha : GE d l itv itd σ ta (.int i)) (hb : GE d l itv itd σ tb (.int j)) : GE d l itv itd σ (tOp rEq ta tb) (.bool (decide (V.int i = V.int j))) := fun H Q g k => by
  refine ha H _ g fun v H1 s1 q1 => hb H1 _ (g.same s1) fun u H2 s2 q2 => ?_
  cases q1
  cases q2
  exact ⟨rfl, k _ _ (s1.trans s2) (.bl _)⟩
theorem g_neI {ta tb : TE} {i j : Int} (ha : GE d l itv itd σ ta (.int i)) (hb : GE d l itv itd σ tb (.int j)) : GE d l itv itd σ (tOp rNe ta tb) (.bool (!decide (V.int i = V.int j))) := fun H Q g k => by
  refine ha H _ g fun v H1 s1 q1 => hb H1 _ (g.same s1) fun u H2 s2 q2 => ?_
  cases q1
  cases q2
  exact ⟨rfl, k _ _ (s1.trans s2) (.bl _)⟩
theorem g_uI {ta : TE} {f : Int → V} {i : Int} {dd : PyData} (ha : GE d l itv itd σ ta (.int i)) (hf : ∀ H, Dq H (f i) dd) : GE d l itv itd σ (tUn (rU f) ta) dd := fun H Q g k => by
  refine ha H _ g fun v H1 s1 q1 => ?_
  cases q1
  exact ⟨i, rfl, k _ _ s1 (hf _)⟩
theorem g_strI {ta : TE} {i : Int} (ha : GE d l itv itd σ ta (.int i)) (hi : i.natAbs.log2 < 1920) : GE d l itv itd σ (tCB (fun xs H Q => ∃ i, xs = [.int i] ∧ i.natAbs.log2 < 1920 ∧ Q (.str (toString i)) H) (tCons ta tNil)) (.str (toString i)) := fun H Q g k => by
  refine ha H _ g fun v H1 s1 q1 => ?_
  cases q1
  exact ⟨i, rfl, hi, k _ _ s1 (.str _)⟩
theorem g_adds {ta tb : TE} {x y : Str} (ha : GE d l itv itd σ ta (.str x)) (hb : GE d l itv itd σ tb (.str y)) (hz : x.length + y.length ≤ 1000) : GE d l itv itd σ (tOp (fun x y H Q => ∃ i j, x = .str i ∧ y = .str j ∧ i.length + j.length ≤ sizeLine ∧ Q (.str (i ++ j)) H) ta tb) (.str (x ++ y)) := fun H Q g k => by
  refine ha H _ g fun v H1 s1 q1 => hb H1 _ (g.same s1) fun u H2 s2 q2 => ?_
  cases q1
  cases q2
  exact ⟨x, y, rfl, rfl, len_ok hz, k _ _ (s1.trans s2) (.str _)⟩
theorem g_cutS {te : TE} {x : Str} {lo hi : Option Int} {tl th : TO} (he : GE d l itv itd σ te (.str x)) (hlo : ∀ H (R : Option Int → Hp → Prop), R lo H → tl σ H R) (hhi : ∀ H (R : Option Int → Hp → Prop), R hi H → th σ H R) (hz : x.length ≤ 1000) : GE d l itv itd σ (tSl rSlS te tl th) (.str (cutS x lo hi)) := fun H Q g k => by
  refine he H _ g fun v H1 s1 q1 => hlo _ _ (hhi _ _ ?_)
  cases q1
  exact ⟨x, rfl, len_ok hz, k _ _ s1 (.str _)⟩
theorem g_upper {te : TE} {x : Str} (he : GE d l itv itd σ te (.str x)) (hz : x.length ≤ 1000) : GE d l itv itd σ (tM0 (fun x xs H Q => ∃ a, x = .str a ∧ xs = [] ∧ a.length ≤ 5592405 ∧ Q (.str (Txt.upper a)) H) te) (.str (Txt.upper x)) := fun H Q g k => by
  refine he H _ g fun v H1 s1 q1 => ?_
  cases q1
  exact ⟨⟨x, rfl⟩, x, rfl, rfl, by omega, k _ _ s1 (.str _)⟩
/-- {'a': (1, 2)} -/
theorem g_dict1 {x : Str} {i j : Int} : GE d l itv itd σ (tDisp [(tC (.str x), tTup (tCons (tC (.int i)) (tCons (tC (.int j)) tNil)))]) (.dict [(.str x, .tuple [.int i, .int j])]) := fun H Q g k => by
  intro p np
  refine ⟨by show 2 ≤ sizeLine; exact len_ok (by decide), fun q nq => ?_⟩
  have g1 : GC d l itv itd (upd H p (.dK [])) := g.same (same_new np)
  have pq : p ≠ q := fun z => by
    rw [← z, upd_same] at nq
    cases nq
  refine ⟨by rw [upd_ne pq, upd_same], [(.inr x, .ref q)], rfl, (by show 1 ≤ 15; decide), ?_⟩
  have s2 : Same H (upd (upd (upd H p (.dK [])) q (.tup [.int i, .int j])) p (.dK (mergeK [] [(.inr x, .ref q)]))) := fun b o e => by
    rw [upd_ne (ne_of_none e np), upd_ne (ne_of_none ((same_new np) b o e) nq), upd_ne (ne_of_none e np)]
    exact e
  refine k _ _ s2 (.dic (kvs := [(.inr x, .ref q)]) (hid_of upd_same (fun z => g.td (z ▸ np)) (fun z => g.tl (z ▸ np))) (.cons (.tup (xs := [.int i, .int j]) (hid_of (by rw [upd_ne pq.symm, upd_same]) (fun z => g1.td (z ▸ nq)) (fun z => g1.tl (z ▸ nq))) (.cons (.int i) (.cons (.int j) .nil))) .nil))
end
end K0
/-! One of many odd values. -/
namespace K0
open PySem PySem.Spec PyProof.Rows L2
def its : List PyData := [.tuple [.tuple [.int 1, .int 0], .int 1], .int 3, .str "rings 2", .none, .tuple [.str "sum", .int 4]]
def tinyB (d : PyData) : Bool := d.showable && (decide (d.depth ≤ 5) && decide (d.shown.length ≤ 200))
/-- a value that can be shown -/
def GV (d l : Addr) (H : Hp) (v : V) : Prop := ∃ dd, Dq (hid d l H) v dd ∧ tinyB dd = true
def spOdd : Sp := fun vs H Q _ => ∃ (d l : Addr) (it : V) (itd : PyData), vs = [.ref d, it] ∧ DeckAt d l H ∧ Dq (hid d l H) it itd ∧ itd ∈ its ∧ ∀ v H', DeckAt d l H' → Keeps d l H H' → GV d l H' v → Q v H'
def D0 : List PyData := [.none, .bool true, .bool false, .int 0, .int 1, .int (-(1)), .int 2, .int 3, .str "", .str "silent", .tuple [], .tuple [.tuple []], .list [], .dict [], .tuple [.int 0], .tuple [.int 1, .int 2], .list [.int 1, .int 2], .int ((10 : Int) ^ (39 : Int).toNat), .tuple [.tuple [.int 0], .int 1], .int 61]
def D1 : List PyData := [.tuple [.tuple [.int 1, .int 0], .int 1], .tuple [.tuple [.int 0], .tuple [.int 1]], .list [.int 1], .dict [(.str "a", .tuple [.int 1, .int 2])], .tuple [.tuple [.int 1, .int 2]], .tuple [.str "1", .int 2], .tuple [.none, .int 1], .str "a b\n~", .tuple [.int 1, .bool true], .tuple [.int 0, .int 0]]
def DT1 : List PyData := [.list [.tuple [.int 1, .int 0], .int 1], .tuple [.tuple [.int 1, .int 0], .int 1, .int 0], .tuple [.int 1], .tuple [.tuple [.int 1, .int 0]], .tuple [.int 1, .tuple [.int 1, .int 0]], .tuple [.tuple [.int 1, .int 0], .int 1, .tuple [.int 1, .int 0]], .tuple [.tuple [.tuple [.int 1, .int 0], .int 1]], .tuple [.tuple [.int 1, .int 0], .tuple [.int 1, .int 0], .int 1]]
def DT2 : List PyData := [.list [.str "sum", .int 4], .tuple [.str "sum", .int 4, .int 0], .tuple [.int 4], .tuple [.str "sum"], .tuple [.int 4, .str "sum"], .tuple [.str "sum", .int 4, .str "sum"], .tuple [.tuple [.str "sum", .int 4]], .tuple [.str "sum", .str "sum", .int 4]]
def DI : List PyData := [.int (3 + 1), .int (3 - 1), .int (-(3)), .bool (decide (V.int 3 = V.int 1)), .bool (!decide (V.int 3 = V.int 0)), .list [.int 3], .tuple [.int 3], .str (toString (3 : Int)), .int (3 * 2)]
def DS : List PyData := [.str ("rings 2" ++ " "), .str (cutS "rings 2" (some 1) none), .str (Txt.upper "rings 2"), .list [.str "rings 2"], .tuple [.str "rings 2"], .str ("rings 2" ++ "rings 2")]
theorem seq_asg {te : TE} {i : Nat} {u : TS} {D : Ends} {σ : L2.St} {H : Hp} (h : te σ H fun x H1 => u D (σ.set i (some x)) H1) : tSeq (tAsg te (gName i)) u D σ H := h
theorem asg1 {te : TE} {i : Nat} {D : Ends} {σ : L2.St} {H : Hp} (h : te σ H fun x H1 => D.nx (σ.set i (some x)) H1) : tAsg te (gName i) D σ H := h
theorem iteD {c A B : Prop} [Decidable c] (hc : c) (h : A) : if decide c = true then A else B := by
  rw [decide_eq_true hc]
  exact iteT h
theorem seq_if {c : TT} {t u r : TS} {D : Ends} {σ : L2.St} {H : Hp} (h : c σ H fun b H1 => if b = true then t { D with nx := r D } σ H1 else u { D with nx := r D } σ H1) : tSeq (tIfS c t u) r D σ H := h
theorem GE.run {d l : Addr} {itv : V} {itd : PyData} {σ : L2.St} {te : TE} {dd : PyData} {H : Hp} {Q : VK} (h : GE d l itv itd σ te dd) (g : GC d l itv itd H) (k : ∀ v H', Same H H' → Dq (hid d l H') v dd → Q v H') : te σ H Q := h H Q g k
theorem g_catV {d l : Addr} {itv v : V} {itd : PyData} {σ : L2.St} {H : Hp} {Q : VK} {i : Nat} {tb : TE} {ds es : List PyData} (g : GC d l itv itd H) (hσ : σ[i]? = some (some v)) (hv : Dq (hid d l H) v (.list ds)) (hb : GE d l itv itd σ tb (.list es)) (hl : ds.length + es.length ≤ 1000)
    (k : ∀ u H', Same H H' → Dq (hid d l H') u (.list (ds ++ es)) → Q u H') : tOp rCat (tVar i) tb σ H Q := by
  refine ⟨v, hσ, hb H _ g fun u H2 s2 q2 => ?_⟩
  have q1' := hv.same (hid_keeps (Keeps.of s2))
  cases q1' with
  | lst h1 a1 =>
    cases q2 with
    | lst h2 a2 =>
      refine ⟨_, _, _, _, rfl, rfl, (of_hid h1).1, (of_hid h2).1, len_ok (by rw [a1.len, a2.len]; exact hl), fun p np => ?_⟩
      exact k _ _ (s2.trans (same_new np)) (.lst (g_new (g.same s2) np) ((a1.append a2).same (hid_keeps (Keeps.of (same_new np)))))
theorem same_deck {d l : Addr} {H H' : Hp} (D : DeckAt d l H) (s : Same H H') : DeckAt d l H' := by
  obtain ⟨ns, m, k, h1, h2, h3⟩ := D
  exact ⟨ns, m, k, s _ _ h1, s _ _ h2, h3⟩
theorem deck_gc {d l : Addr} {H : Hp} {itv : V} {itd : PyData} (D : DeckAt d l H) (q : Dq (hid d l H) itv itd) : GC d l itv itd H := by
  obtain ⟨ns, m, k, h1, h2, h3⟩ := D
  exact ⟨fun z => (by rw [h1] at z; cases z), fun z => (by rw [h2] at z; cases z), q⟩
/-- the pick's end -/
theorem pick_end {K : PySem.W.Frag} {d l : Addr} {H : Hp} {Q : VK} {E : XK} {u : V} {ds : List PyData} (D : DeckAt d l H) (q : Dq (hid d l H) u (.list ds)) (h1 : 1 ≤ ds.length ∧ ds.length ≤ 1000) (ht : ds.all tinyB = true)
    (k : ∀ v H', DeckAt d l H' → Keeps d l H H' → GV d l H' v → Q v H') : spPick K [.ref d, u] H Q E := by
  cases q with
  | lst h a =>
    obtain ⟨g1, g2, g3⟩ := of_hid h
    refine ⟨d, l, _, _, rfl, D, g1, g3, by rw [a.len]; exact h1.1, by rw [a.len]; omega, fun v H' hv D' K' => ?_⟩
    obtain ⟨dd, m, z⟩ := a.mem hv
    exact k v H' D' K' ⟨dd, z.same (hid_keeps K'), List.all_eq_true.mp ht dd m⟩
section
variable {P : Program} {w : World} {K : PySem.W.Frag} {mg : Str → Option Value} {base : Heap} {f fD fP : Addr} {fd fdD fdP : FuncData}
theorem scOdd : FnScope ["deck", "it", "some"] ["deck", "it"] (defScope sOdd) := ⟨rfl, rfl, rfl, by decide +kernel, rfl, by decide +kernel, by decide +kernel⟩
theorem ok_odd (F : FnP K "_law_odd" sOdd f fd) (FP : FnP K "_law_pick" sPick fP fdP) (gP : mg "_law_pick" = some (.ref fP)) (FD : FnP K "_law_draw" sDraw fD fdD) (gD : mg "_law_draw" = some (.ref fD)) (B : Bl mg) : FnOk P w K mg base CX0 3 f fd ["deck", "it"] spOdd := by
  have GP : FnOk P w K mg base CX0 2 fP fdP ["deck", "some"] (spPick K) := ok_pick FP FD gD B
  have bP : Binds K fdP ["deck", "some"] [] := FP.bindsN fun _ _ _ _ _ _ us hl => match us, hl with | [_, _], _ => rfl
  refine F.ok scOdd (fun vs H Q E h => ?_) (fun cdv A outer s H vs Q E hr h => ?_)
  · obtain ⟨d, l, it, itd, rfl, _⟩ := h
    rfl
  · obtain ⟨d, l, it, itd, rfl, D, hit, hin, k⟩ := h
    refine ⟨_, PSs.nox (pss_cons (ps_set (i := 2) scOdd.nd rfl (Or.inl rfl) (pe_lst (pa_cons pe_non (pa_cons pe_bl (pa_cons pe_bl (pa_cons pe_int (pa_cons pe_int (pa_cons (pe_un un_neg pe_int) (pa_cons pe_int (pa_cons pe_int (pa_cons pe_str (pa_cons pe_str (pa_cons (pe_tup pa_nil) (pa_cons (pe_tup (pa_cons (pe_tup pa_nil) pa_nil)) (pa_cons (pe_lst pa_nil) (pa_cons pe_dnewK (pa_cons (pe_tup (pa_cons pe_int pa_nil)) (pa_cons (pe_tup (pa_cons pe_int (pa_cons pe_int pa_nil))) (pa_cons (pe_lst (pa_cons pe_int (pa_cons pe_int pa_nil))) (pa_cons (pe_op op_pow pe_int pe_int) (pa_cons (pe_tup (pa_cons (pe_tup (pa_cons pe_int pa_nil)) (pa_cons pe_int pa_nil))) (pa_cons pe_int pa_nil))))))))))))))))))))))
      (pss_cons (ps_set (i := 2) scOdd.nd rfl (Or.inl rfl) (pe_op op_cat (pv 2) (pe_lst (pa_cons (pe_tup (pa_cons (pe_tup (pa_cons pe_int (pa_cons pe_int pa_nil))) (pa_cons pe_int pa_nil))) (pa_cons (pe_tup (pa_cons (pe_tup (pa_cons pe_int pa_nil)) (pa_cons (pe_tup (pa_cons pe_int pa_nil)) pa_nil))) (pa_cons (pe_lst (pa_cons pe_int pa_nil)) (pa_cons (pe_disp (pps_cons pe_str (pe_tup (pa_cons pe_int (pa_cons pe_int pa_nil))) pps_nil) (by rfl) (by rfl) (fun z => by cases z) (by decide)) (pa_cons (pe_tup (pa_cons (pe_tup (pa_cons pe_int (pa_cons pe_int pa_nil))) pa_nil)) (pa_cons (pe_tup (pa_cons pe_str (pa_cons pe_int pa_nil))) (pa_cons (pe_tup (pa_cons pe_non (pa_cons pe_int pa_nil))) (pa_cons pe_str (pa_cons (pe_tup (pa_cons pe_int (pa_cons pe_bl pa_nil))) (pa_cons (pe_tup (pa_cons pe_int (pa_cons pe_int pa_nil))) pa_nil)))))))))))))
      (pss_cons (ps_if (pt_val (pe_callB call_isi (by rfl) (B "isinstance" (by decide +kernel)) PyProof.Rows.boot_isinstance (pa_cons (pv 1) (pa_cons (pe_bltn (v := .ty "tuple") (by rfl) (B "tuple" (by decide +kernel)) (by decide +kernel) rfl) pa_nil)))) (pss_one (ps_set (i := 2) scOdd.nd rfl (Or.inl rfl) (pe_op op_cat (pv 2) (pe_op op_rep (pe_lst (pa_cons (pe_callTy call_list_of (by rfl) (B "list" (by decide +kernel)) (by decide +kernel) (pa_cons (pv 1) pa_nil)) (pa_cons (pe_op op_catT (pv 1) (pe_tup (pa_cons pe_int pa_nil))) (pa_cons (pe_slice sl_tup (pv 1) (po_some pe_int) po_none) (pa_cons (pe_slice sl_tup (pv 1) po_none (po_some (pe_un un_neg pe_int))) (pa_cons (pe_rev2 (pv 1)) (pa_cons (pe_op op_catT (pv 1) (pe_slice sl_tup (pv 1) po_none (po_some pe_int))) (pa_cons (pe_tup (pa_cons (pv 1) pa_nil)) (pa_cons (pe_op op_catT (pe_slice sl_tup (pv 1) po_none (po_some pe_int)) (pv 1)) pa_nil))))))))) pe_int)))) (pss_one (ps_if (pw_and (pt_val (pe_callB call_isi (by rfl) (B "isinstance" (by decide +kernel)) PyProof.Rows.boot_isinstance (pa_cons (pv 1) (pa_cons (pe_bltn (v := .ty "int") (by rfl) (B "int" (by decide +kernel)) (by decide +kernel) rfl) pa_nil)))) (pw_and1 (pt_cmpR op_lt (pe_callB call_abs (by rfl) (B "abs" (by decide +kernel)) (by decide +kernel) (pa_cons (pv 1) pa_nil)) (pe_op op_pow pe_int pe_int) (nomark _)))).pt (pss_one (ps_set (i := 2) scOdd.nd rfl (Or.inl rfl) (pe_op op_cat (pv 2) (pe_op op_rep (pe_lst (pa_cons (pe_op op_add (pv 1) pe_int) (pa_cons (pe_op op_sub (pv 1) pe_int) (pa_cons (pe_un un_neg (pv 1)) (pa_cons (pe_cmpR op_eq (pv 1) pe_int (nomark _)) (pa_cons (pe_cmpR op_ne (pv 1) pe_int (nomark _)) (pa_cons (pe_lst (pa_cons (pv 1) pa_nil)) (pa_cons (pe_tup (pa_cons (pv 1) pa_nil)) (pa_cons (pe_callTy call_str_int (by rfl) (B "str" (by decide +kernel)) (by decide +kernel) (pa_cons (pv 1) pa_nil)) (pa_cons (pe_op op_mul (pv 1) pe_int) pa_nil)))))))))) pe_int)))) (pss_one (ps_if (pt_val (pe_callB call_isi (by rfl) (B "isinstance" (by decide +kernel)) PyProof.Rows.boot_isinstance (pa_cons (pv 1) (pa_cons (pe_bltn (v := .ty "str") (by rfl) (B "str" (by decide +kernel)) (by decide +kernel) rfl) pa_nil)))) (pss_one (ps_set (i := 2) scOdd.nd rfl (Or.inl rfl) (pe_op op_cat (pv 2) (pe_op op_rep (pe_lst (pa_cons (pe_op op_add_str (pv 1) pe_str) (pa_cons (pe_slice sl_str (pv 1) (po_some pe_int) po_none) (pa_cons (pe_upper (pv 1)) (pa_cons (pe_lst (pa_cons (pv 1) pa_nil)) (pa_cons (pe_tup (pa_cons (pv 1) pa_nil)) (pa_cons (pe_op op_add_str (pv 1) (pv 1)) pa_nil))))))) pe_int)))) pss_nil)))))
      (pss_one (ps_ret (pe_call GP hr rfl gP FP.kp bP .nil pass0 (pa_cons (pv 0) (pa_cons (pv 2) pa_nil)))))))), ?_⟩
    have g0 := deck_gc D hit
    refine seq_asg ?_
    refine GE.run (dd := .list D0) ?g0' g0 ?k0
    case g0' => exact g_lst (ds := D0) (g_cons g_non (g_cons g_bl (g_cons g_bl (g_cons g_int (g_cons g_int (g_cons (g_uI g_int (fun _ => .int _)) (g_cons g_int (g_cons g_int (g_cons g_str (g_cons g_str (g_cons (g_tup g_nil) (g_cons (g_tup (g_cons (g_tup g_nil) g_nil)) (g_cons (g_lst g_nil) (g_cons g_dict0 (g_cons (g_tup (g_cons g_int g_nil)) (g_cons (g_tup (g_cons g_int (g_cons g_int g_nil))) (g_cons (g_lst (g_cons g_int (g_cons g_int g_nil))) (g_cons (g_iC g_int g_int ⟨by decide, by decide, by decide⟩ (fun _ => .int _)) (g_cons (g_tup (g_cons (g_tup (g_cons g_int g_nil)) (g_cons g_int g_nil))) (g_cons g_int g_nil)))))))))))))))))))) (by decide)
    intro v0 H1 s1 q0
    refine seq_asg ?_
    refine g_catV (es := D1) (g0.same s1) rfl q0 ?g1' ?l1 ?k1
    case g1' => exact g_lst (ds := D1) (g_cons (g_tup (g_cons (g_tup (g_cons g_int (g_cons g_int g_nil))) (g_cons g_int g_nil))) (g_cons (g_tup (g_cons (g_tup (g_cons g_int g_nil)) (g_cons (g_tup (g_cons g_int g_nil)) g_nil))) (g_cons (g_lst (g_cons g_int g_nil)) (g_cons g_dict1 (g_cons (g_tup (g_cons (g_tup (g_cons g_int (g_cons g_int g_nil))) g_nil)) (g_cons (g_tup (g_cons g_str (g_cons g_int g_nil))) (g_cons (g_tup (g_cons g_non (g_cons g_int g_nil))) (g_cons g_str (g_cons (g_tup (g_cons g_int (g_cons g_bl g_nil))) (g_cons (g_tup (g_cons g_int (g_cons g_int g_nil))) g_nil)))))))))) (by decide)
    case l1 => decide
    intro v1 H2 s2 q1
    have g2 := g0.same (s1.trans s2)
    have sK : ∀ {H3 : Hp} {v : V} {H' : Hp}, Same H2 H3 → DeckAt d l H' → Keeps d l H3 H' → GV d l H' v → Q v H' := fun s3 D' K' g => k _ _ D' ((Keeps.of ((s1.trans s2).trans s3)).trans K') g
    have D2 := same_deck D (s1.trans s2)
    have isi : ∀ {t T : String} {b : Bool}, kitB t T = some b → PySem.W.kitOne K (.type t) (.type T) = some b := fun h => kit_ty h
    simp only [its, List.mem_cons, List.not_mem_nil, or_false] at hin
    rcases hin with rfl | rfl | rfl | rfl | rfl
    · have hq := g2.it
      cases hq with
      | tup h1 a1 =>
        refine seq_if ⟨_, rfl, _, .ty "tuple", _, _, true, rfl, .ty _, .base (.tup (of_hid h1).1), isi (by decide +kernel), _, rfl, iteT (asg1 ?_)⟩
        refine g_catV (es := (List.replicate (3 : Int).toNat DT1).flatten) g2 rfl q1 ?gX0 ?lX0 ?kX0
        case gX0 => exact g_rep (ds := DT1) (g_lst (ds := DT1) (g_cons (g_list (g_it rfl)) (g_cons (g_catT (g_it rfl) (g_tup (g_cons g_int g_nil))) (g_cons (g_sl (g_it rfl) (fun _ _ h => ⟨_, rfl, h⟩) (fun _ _ h => h) (by decide) (fun _ _ => by first | exact .inl ⟨rfl, rfl⟩ | exact .inr ⟨rfl, rfl⟩)) (g_cons (g_sl (g_it rfl) (fun _ _ h => h) (fun _ _ h => ⟨_, rfl, _, rfl, h⟩) (by decide) (fun _ _ => by first | exact .inl ⟨rfl, rfl⟩ | exact .inr ⟨rfl, rfl⟩)) (g_cons (g_rev (g_it rfl)) (g_cons (g_catT (g_it rfl) (g_sl (g_it rfl) (fun _ _ h => h) (fun _ _ h => ⟨_, rfl, h⟩) (by decide) (fun _ _ => by first | exact .inl ⟨rfl, rfl⟩ | exact .inr ⟨rfl, rfl⟩))) (g_cons (g_tup (g_cons (g_it rfl) g_nil)) (g_cons (g_catT (g_sl (g_it rfl) (fun _ _ h => h) (fun _ _ h => ⟨_, rfl, h⟩) (by decide) (fun _ _ => by first | exact .inl ⟨rfl, rfl⟩ | exact .inr ⟨rfl, rfl⟩)) (g_it rfl)) g_nil)))))))) (by decide)) (by decide) (by decide)
        case lX0 => decide
        intro v2 H3 s3 q3
        exact ⟨_, rfl, _, rfl, pick_end (K := K) (E := E0) (same_deck D2 s3) q3 (by decide) (by decide +kernel) fun v H' D' K' g => sK s3 D' K' g⟩
    · have hq := g2.it
      cases hq
      refine seq_if ⟨_, rfl, _, .ty "tuple", _, _, false, rfl, .ty _, .base (.int _), isi (by decide +kernel), _, rfl, iteF ?_⟩
      refine ⟨_, rfl, _, .ty "int", _, _, true, rfl, .ty _, .base (.int _), isi (by decide +kernel), _, rfl, iteT ⟨_, rfl, 3, rfl, _, _, rfl, rfl, ⟨by decide, by decide, by decide⟩, _, _, rfl, rfl, _, rfl, iteD (by decide) (asg1 ?_)⟩⟩
      refine g_catV (es := (List.replicate (3 : Int).toNat DI).flatten) g2 rfl q1 ?gX1 ?lX1 ?kX1
      case gX1 => exact g_rep (ds := DI) (g_lst (ds := DI) (g_cons (g_i0 (g_it rfl) g_int (fun _ => .int _)) (g_cons (g_i0 (g_it rfl) g_int (fun _ => .int _)) (g_cons (g_uI (g_it rfl) (fun _ => .int _)) (g_cons (g_eqI (g_it rfl) g_int) (g_cons (g_neI (g_it rfl) g_int) (g_cons (g_lst (g_cons (g_it rfl) g_nil)) (g_cons (g_tup (g_cons (g_it rfl) g_nil)) (g_cons (g_strI (g_it rfl) (by decide +kernel)) (g_cons (g_iC (g_it rfl) g_int (Or.inr ⟨by decide, by decide⟩) (fun _ => .int _)) g_nil))))))))) (by decide)) (by decide) (by decide)
      case lX1 => decide
      intro v2 H3 s3 q3
      exact ⟨_, rfl, _, rfl, pick_end (K := K) (E := E0) (same_deck D2 s3) q3 (by decide) (by decide +kernel) fun v H' D' K' g => sK s3 D' K' g⟩
    · have hq := g2.it
      cases hq
      refine seq_if ⟨_, rfl, _, .ty "tuple", _, _, false, rfl, .ty _, .base (.str _), isi (by decide +kernel), _, rfl, iteF ?_⟩
      refine ⟨_, rfl, _, .ty "int", _, _, false, rfl, .ty _, .base (.str _), isi (by decide +kernel), _, rfl, iteF (iteF ?_)⟩
      refine ⟨_, rfl, _, .ty "str", _, _, true, rfl, .ty _, .base (.str _), isi (by decide +kernel), _, rfl, iteT (asg1 ?_)⟩
      refine g_catV (es := (List.replicate (2 : Int).toNat DS).flatten) g2 rfl q1 ?gX2 ?lX2 ?kX2
      case gX2 => exact g_rep (ds := DS) (g_lst (ds := DS) (g_cons (g_adds (g_it rfl) g_str (by decide +kernel)) (g_cons (g_cutS (g_it rfl) (fun _ _ h => ⟨_, rfl, h⟩) (fun _ _ h => h) (by decide +kernel)) (g_cons (g_upper (g_it rfl) (by decide +kernel)) (g_cons (g_lst (g_cons (g_it rfl) g_nil)) (g_cons (g_tup (g_cons (g_it rfl) g_nil)) (g_cons (g_adds (g_it rfl) (g_it rfl) (by decide +kernel)) g_nil)))))) (by decide)) (by decide) (by decide)
      case lX2 => decide
      intro v2 H3 s3 q3
      exact ⟨_, rfl, _, rfl, pick_end (K := K) (E := E0) (same_deck D2 s3) q3 (by decide) (by decide +kernel) fun v H' D' K' g => sK s3 D' K' g⟩
    · have hq := g2.it
      cases hq
      refine seq_if ⟨_, rfl, _, .ty "tuple", _, _, false, rfl, .ty _, .base .non, isi (by decide +kernel), _, rfl, iteF ?_⟩
      refine ⟨_, rfl, _, .ty "int", _, _, false, rfl, .ty _, .base .non, isi (by decide +kernel), _, rfl, iteF (iteF ?_)⟩
      refine ⟨_, rfl, _, .ty "str", _, _, false, rfl, .ty _, .base .non, isi (by decide +kernel), _, rfl, iteF ?_⟩
      exact ⟨_, rfl, _, rfl, pick_end (K := K) (E := E0) D2 q1 (by decide) (by decide +kernel) fun v H' D' K' g => sK (Same.refl _) D' K' g⟩
    · have hq := g2.it
      cases hq with
      | tup h1 a1 =>
        refine seq_if ⟨_, rfl, _, .ty "tuple", _, _, true, rfl, .ty _, .base (.tup (of_hid h1).1), isi (by decide +kernel), _, rfl, iteT (asg1 ?_)⟩
        refine g_catV (es := (List.replicate (3 : Int).toNat DT2).flatten) g2 rfl q1 ?gX3 ?lX3 ?kX3
        case gX3 => exact g_rep (ds := DT2) (g_lst (ds := DT2) (g_cons (g_list (g_it rfl)) (g_cons (g_catT (g_it rfl) (g_tup (g_cons g_int g_nil))) (g_cons (g_sl (g_it rfl) (fun _ _ h => ⟨_, rfl, h⟩) (fun _ _ h => h) (by decide) (fun _ _ => by first | exact .inl ⟨rfl, rfl⟩ | exact .inr ⟨rfl, rfl⟩)) (g_cons (g_sl (g_it rfl) (fun _ _ h => h) (fun _ _ h => ⟨_, rfl, _, rfl, h⟩) (by decide) (fun _ _ => by first | exact .inl ⟨rfl, rfl⟩ | exact .inr ⟨rfl, rfl⟩)) (g_cons (g_rev (g_it rfl)) (g_cons (g_catT (g_it rfl) (g_sl (g_it rfl) (fun _ _ h => h) (fun _ _ h => ⟨_, rfl, h⟩) (by decide) (fun _ _ => by first | exact .inl ⟨rfl, rfl⟩ | exact .inr ⟨rfl, rfl⟩))) (g_cons (g_tup (g_cons (g_it rfl) g_nil)) (g_cons (g_catT (g_sl (g_it rfl) (fun _ _ h => h) (fun _ _ h => ⟨_, rfl, h⟩) (by decide) (fun _ _ => by first | exact .inl ⟨rfl, rfl⟩ | exact .inr ⟨rfl, rfl⟩)) (g_it rfl)) g_nil)))))))) (by decide)) (by decide) (by decide)
        case lX3 => decide
        intro v2 H3 s3 q3
        exact ⟨_, rfl, _, rfl, pick_end (K := K) (E := E0) (same_deck D2 s3) q3 (by decide) (by decide +kernel) fun v H' D' K' g => sK s3 D' K' g⟩
end
end K0
/-! What the head's facts say of the error classes. -/
namespace K0
open PySem PySem.Spec PyProof.Rows L2 PySem.W
theorem along2 {K : Frag} {name : Str} {C R : Addr} {r : Option Value} (h1 : ownIn K name (.ref C) = some none) (h2 : ownIn K name (.ref R) = some none) (h3 : alongIn K name K0.exTail = some r) : alongIn K name (.ref C :: .ref R :: K0.exTail) = some r := by
  show (match ownIn K name (.ref C) with | some (some v) => some (some v) | some none => alongIn K name (.ref R :: K0.exTail) | none => none) = some r
  rw [h1]
  show (match ownIn K name (.ref R) with | some (some v) => some (some v) | some none => alongIn K name K0.exTail | none => none) = some r
  rw [h2]
  exact h3
theorem tail_sa (K : Frag) : alongIn K "__setattr__" K0.exTail = some (some (.builtin "object.__setattr__")) := by kernel_rfl
theorem tail_ga (K : Frag) : alongIn K "__getattribute__" K0.exTail = some (some (.builtin "BaseException.__getattribute__")) := by kernel_rfl
theorem tail_gg (K : Frag) : alongIn K "__getattr__" K0.exTail = some none := by kernel_rfl
theorem tail_ca (K : Frag) : alongIn K "__class__" K0.exTail = some (some (.builtin "object.__class__")) := by kernel_rfl
theorem tail_thing (K : Frag) : alongIn K "thing" K0.exTail = some none := by kernel_rfl
theorem tail_certificate (K : Frag) : alongIn K "certificate" K0.exTail = some none := by kernel_rfl
theorem tail_most (K : Frag) : alongIn K "most" K0.exTail = some none := by kernel_rfl
theorem tail_claim (K : Frag) : alongIn K "claim" K0.exTail = some none := by kernel_rfl
theorem tail_at (K : Frag) : alongIn K "at" K0.exTail = some none := by kernel_rfl
theorem call_type (K : Frag) : findIn K (.type "type") "__call__" = some (some (.builtin "type.__call__")) := by kernel_rfl
theorem cls1 (K : Frag) : Cls1 K := ⟨by kernel_rfl, by kernel_rfl⟩
theorem tail_attr {K : Frag} {f : Str} (h : f ∈ attrs) : alongIn K f K0.exTail = some none := by
  simp only [attrs, List.mem_cons, List.not_mem_nil, or_false] at h
  rcases h with rfl | rfl | rfl | rfl | rfl
  · exact tail_thing K
  · exact tail_certificate K
  · exact tail_most K
  · exact tail_claim K
  · exact tail_at K
/-- the error class at C over R, as it stands -/
structure ClsF (K : Frag) (R C : Addr) (e : ErrD) : Prop where
  at_ : ∃ dd cd sl, K.lookup C = some ⟨.type "type", dd, .cls cd, sl⟩ ∧ cd.mro = .ref C :: .ref R :: K0.exTail ∧ slB sl.toList = true ∧ cd.hasDel = false ∧ cd.hasDict = true ∧ (∀ x ∈ nsNames, nsIn K cd.ns x = some none) ∧
    nsIn K cd.ns "__init__" = some (some (.ref (He.ma K C "__init__"))) ∧ (∀ f, e.attr = some f → nsIn K cd.ns f = some none)
  tI : typeIn K (.ref (He.ma K C "__init__")) = some (.type "function")
structure RootF (K : Frag) (R : Addr) : Prop where
  at_ : ∃ dd cd sl, K.lookup R = some ⟨.type "type", dd, .cls cd, sl⟩ ∧ cd.mro = .ref R :: K0.exTail ∧ ∀ x ∈ nsNames ++ attrs, nsIn K cd.ns x = some none
theorem clsF_of {K : Frag} {R C : Addr} {e : ErrD} (h : clsB K R C e = true) : ClsF K R C e := by
  unfold clsB at h
  cases q : K.lookup C with
  | none =>
    rw [q] at h
    cases h
  | some o =>
    obtain ⟨oc, od, dt, osl⟩ := o
    rw [q] at h
    cases oc with
    | type t =>
      cases dt with
      | cls cd =>
        obtain ⟨h1, h⟩ := He.ba h
        obtain ⟨h2, h⟩ := He.ba h
        obtain ⟨h3, h⟩ := He.ba h
        obtain ⟨h4, h⟩ := He.ba h
        obtain ⟨h5, h⟩ := He.ba h
        obtain ⟨h6, h⟩ := He.ba h
        obtain ⟨h7, h⟩ := He.ba h
        obtain ⟨h8, h9⟩ := He.ba h
        have e1 := of_decide_eq_true h1
        subst e1
        refine ⟨⟨_, cd, osl, q, of_decide_eq_true h2, h3, by simpa using h4, h5, fun x hx => He.eqO_ok (List.all_eq_true.mp h6 x hx), He.eqO_ok h7, fun f hf => ?_⟩, of_decide_eq_true h8⟩
        rw [hf] at h9
        exact He.eqO_ok h9
      | _ => cases h
    | _ => cases dt <;> cases h
theorem rootF_of {K : Frag} {R : Addr} (h : rootB K R = true) : RootF K R := by
  unfold rootB at h
  cases q : K.lookup R with
  | none =>
    rw [q] at h
    cases h
  | some o =>
    obtain ⟨oc, od, dt, osl⟩ := o
    rw [q] at h
    cases oc with
    | type t =>
      cases dt with
      | cls cd =>
        obtain ⟨h1, h⟩ := He.ba h
        obtain ⟨h2, h3⟩ := He.ba h
        have e1 := of_decide_eq_true h1
        subst e1
        exact ⟨_, cd, osl, q, of_decide_eq_true h2, fun x hx => He.eqO_ok (List.all_eq_true.mp h3 x hx)⟩
      | _ => cases h
    | _ => cases dt <;> cases h
section
variable {K : Frag} {R C : Addr} {e : ErrD}
theorem own_of {dd : Option Addr} {cd : ClassData} {sl : Array (Option Value)} {x : Str} {C : Addr} (q : K.lookup C = some ⟨.type "type", dd, .cls cd, sl⟩) (h : nsIn K cd.ns x = some none) : ownIn K x (.ref C) = some none := by
  show (match K.lookup C with | some ⟨_, _, .cls cd, _⟩ => nsIn K cd.ns x | _ => none) = some none
  rw [q]
  exact h
theorem find_of (F : ClsF K R C e) (G : RootF K R) {x : Str} {r : Option Value} (hx : x ∈ nsNames) (ht : alongIn K x K0.exTail = some r) : findIn K (.ref C) x = some r := by
  obtain ⟨dd, cd, sl, q, hm, _, _, _, hn, _, _⟩ := F.at_
  obtain ⟨dd2, cd2, sl2, q2, hm2, hn2⟩ := G.at_
  show (match K.lookup C with | some ⟨_, _, .cls cd, _⟩ => alongIn K x cd.mro | _ => none) = some r
  rw [q]
  show alongIn K x cd.mro = some r
  rw [hm]
  exact along2 (own_of q (hn x hx)) (own_of q2 (hn2 x (List.mem_append_left _ hx))) ht
theorem cls_of (F : ClsF K R C e) : ∃ cd, clsIn K C = some cd ∧ cd.mro = .ref C :: .ref R :: K0.exTail ∧ cd.hasDict = true := by
  obtain ⟨dd, cd, sl, q, hm, _, _, hd, _⟩ := F.at_
  refine ⟨cd, ?_, hm, hd⟩
  unfold clsIn
  rw [q]
theorem sub_of (F : ClsF K R C e) {b : Value} {r : Bool} (h : (Value.ref C :: Value.ref R :: K0.exTail).contains b = r) : mroIn K C b = some r := by
  obtain ⟨cd, hc, hm, _⟩ := cls_of F
  unfold mroIn
  rw [hc, Option.bind_some, hm, if_neg (show ¬ (List.isEmpty (Value.ref C :: Value.ref R :: K0.exTail) = true) from Bool.false_ne_true), h]
theorem type_of (F : ClsF K R C e) : typeIn K (.ref C) = some (.type "type") := by
  obtain ⟨dd, cd, sl, q, _⟩ := F.at_
  show (K.lookup C).map (·.cls) = _
  rw [q]
  rfl
theorem has_ty (T : String) {h : K0.exTail.contains (.type T) = true} : (Value.ref C :: Value.ref R :: K0.exTail).contains (.type T) = true := by
  rw [List.contains_cons, List.contains_cons, h, Bool.or_true, Bool.or_true]
theorem errC_of (F : ClsF K R C e) (G : RootF K R) : ErrC K C where
  ini := by
    obtain ⟨dd, cd, sl, q, hm, hs, hd, _⟩ := F.at_
    unfold excInitIn
    rw [q]
    unfold slB at hs
    show (match cd.mro, sl.toList with
      | .ref C' :: bm, [_, _, _, _, some (.builtin n), _] => C' == C && n == "Exception.__new__" && !cd.hasDel && excTail K0.exT bm
      | _, _ => false) = true
    rw [hm]
    split at hs
    · rename_i n _ hl
      rw [hl]
      have e1 : n = "Exception.__new__" := of_decide_eq_true hs
      subst e1
      show (C == C && ("Exception.__new__" == "Exception.__new__") && !cd.hasDel && excTail K0.exT (.ref R :: K0.exTail)) = true
      rw [hd]
      have e2 : excTail K0.exT (.ref R :: K0.exTail) = true := by
        show excTail K0.exT K0.exTail = true
        decide +kernel
      rw [e2]
      simp
    · cases hs
  ov := by
    obtain ⟨cd, hc, hm, _⟩ := cls_of F
    unfold excOver
    rw [hc]
    show (match cd.mro with | .ref C' :: bm => C' == C && excTail K0.exT bm | _ => false) = true
    rw [hm]
    show (C == C && excTail K0.exT (.ref R :: K0.exTail)) = true
    have e2 : excTail K0.exT (.ref R :: K0.exTail) = true := by
      show excTail K0.exT K0.exTail = true
      decide +kernel
    rw [e2]
    simp
  hd := by
    obtain ⟨cd, hc, _, hd⟩ := cls_of F
    unfold hasDictIn
    rw [hc]
    exact hd
  sa := find_of F G (by decide +kernel) (tail_sa K)
  ga := find_of F G (by decide +kernel) (tail_ga K)
  gg := find_of F G (by decide +kernel) (tail_gg K)
  exC := sub_of F (has_ty "BaseException" (h := by decide +kernel))
  tyC := type_of F
  kC := by
    have h1 : specialIn K (.ref C) "__call__" = some (some (.builtin "type.__call__")) := by
      unfold specialIn
      rw [type_of F, Option.bind_some]
      exact call_type K
    obtain ⟨dd, cd, sl, q, _⟩ := F.at_
    show (match K.lookup C with
      | some ⟨_, _, .func _, _⟩ => true
      | some ⟨_, _, .cls _, _⟩ => specialIn K (.ref C) "__call__" == some (some (.builtin "type.__call__"))
      | _ => false) = true
    rw [q, h1]
    simp
  ca := find_of F G (by decide +kernel) (tail_ca K)
  ob := sub_of F (has_ty "object" (h := by decide +kernel))
theorem errI_of (F : ClsF K R C e) : ErrI K C (He.ma K C "__init__") where
  iC := by
    obtain ⟨dd, cd, sl, q, hm, _, _, _, _, hi, _⟩ := F.at_
    show (match K.lookup C with | some ⟨_, _, .cls cd, _⟩ => alongIn K "__init__" cd.mro | _ => none) = _
    rw [q]
    show alongIn K "__init__" cd.mro = _
    rw [hm]
    have h1 : ownIn K "__init__" (.ref C) = some (some (.ref (He.ma K C "__init__"))) := by
      show (match K.lookup C with | some ⟨_, _, .cls cd, _⟩ => nsIn K cd.ns "__init__" | _ => none) = _
      rw [q]
      exact hi
    show (match ownIn K "__init__" (.ref C) with | some (some v) => some (some v) | some none => alongIn K "__init__" (.ref R :: K0.exTail) | none => none) = _
    rw [h1]
  tI := F.tI
theorem errF_of (F : ClsF K R C e) (G : RootF K R) {f : Str} (h : e.attr = some f) (hf : f ∈ attrs) : ErrF K C f := by
  obtain ⟨dd, cd, sl, q, hm, _, _, _, _, _, ha⟩ := F.at_
  obtain ⟨dd2, cd2, sl2, q2, hm2, hn2⟩ := G.at_
  have no : findIn K (.ref C) f = some none := by
    show (match K.lookup C with | some ⟨_, _, .cls cd, _⟩ => alongIn K f cd.mro | _ => none) = _
    rw [q]
    show alongIn K f cd.mro = _
    rw [hm]
    exact along2 (own_of q (ha f h)) (own_of q2 (hn2 f (List.mem_append_right _ hf))) (tail_attr hf)
  refine ⟨?_, no⟩
  unfold takerIn
  rw [no]
  rfl
/-- isinstance of it and another one -/
theorem kit_same : kitOne K (.ref C) (.ref C) = some true := by
  unfold kitOne
  rw [if_pos (by simp)]
theorem kit_other {D : Addr} {e2 : ErrD} (F : ClsF K R C e) (F2 : ClsF K R D e2) (h1 : D ≠ C) (h2 : D ≠ R) : kitOne K (.ref C) (.ref D) = some false := by
  unfold kitOne
  rw [if_neg (by simp; exact fun z => h1 z.symm)]
  obtain ⟨cd, hc, _⟩ := cls_of F2
  show (if ((clsIn K D).isSome && typeIn K (.ref D) == some (.type "type")) = true then subIn K (.ref C) (.ref D) else none) = some false
  rw [hc, type_of F2, if_pos (by simp)]
  refine sub_of F ?_
  rw [List.contains_cons, List.contains_cons]
  have a1 : (Value.ref D == Value.ref C) = false := by simpa using h1
  have a2 : (Value.ref D == Value.ref R) = false := by simpa using h2
  rw [a1, a2]
  rfl
theorem kit_root (F : ClsF K R C e) (G : RootF K R) : kitOne K (.ref C) (.ref R) = some true := by
  obtain ⟨dd2, cd2, sl2, q2, hm2, hn2⟩ := G.at_
  unfold kitOne
  by_cases z : (Value.ref C == Value.ref R) = true
  · rw [if_pos z]
  · rw [if_neg z]
    have hc : clsIn K R = some cd2 := by
      unfold clsIn
      rw [q2]
    have ht : typeIn K (.ref R) = some (.type "type") := by
      show (K.lookup R).map (·.cls) = _
      rw [q2]
      rfl
    show (if ((clsIn K R).isSome && typeIn K (.ref R) == some (.type "type")) = true then subIn K (.ref C) (.ref R) else none) = some true
    rw [hc, ht, if_pos (by simp)]
    refine sub_of F ?_
    simp
theorem kit_blt (F : ClsF K R C e) {T : String} {b : Bool} (h1 : kitMeta T = true) (h2 : K0.exTail.contains (.type T) = b) : kitOne K (.ref C) (.type T) = some b := by
  unfold kitOne
  rw [if_neg (by simp)]
  show (if kitMeta T = true then subIn K (.ref C) (.type T) else none) = some b
  rw [if_pos h1]
  refine sub_of F ?_
  rw [List.contains_cons, List.contains_cons, h2]
  rfl
end
end K0
/-! The errors are made. -/
namespace K0
open PySem PySem.Spec PyProof.Rows L2
/-- an error class that is made by one value -/
def MkE (P : Program) (w : World) (K : PySem.W.Frag) (mg : Str → Option Value) (base : Heap) (x f : Str) : Prop := ErrC K (He.ga K x) ∧ ErrF K (He.ga K x) f ∧ mg x = some (.ref (He.ga K x)) ∧ ∃ fI fd, ErrI K (He.ga K x) fI ∧ FnOk P w K mg base CX0 1 fI fd ["self", f] (spInit (He.ga K x) f) ∧ L2.Binds K fd ["self", f] [] ∧
  ∀ (s : Shared) (z u : Value), K.In s.heap → BindsTo s fd ⟨[z], [(f, u)]⟩ [("self", z), (f, u)]
theorem pe_mk {X : Cx} {x f : Str} {e : Expr} {te : TE} {p pos : Pos} (M : MkE X.prog X.w X.K X.mg X.base x f) (hr : Room 2 X.A) (hg : Gl X x) (he : PE X e te) (hs : starEach [e] X.env = (false, eval e X.env) :: starEach [] X.env := by rfl) (hdb : (x == ("__debug__" : Str)) = false := by decide) :
    PE X (.Call (.Name x p) [e] [] pos) (fun σ H Q => te σ H fun v H1 => MkQ (He.ga X.K x) f v H1 Q) := by
  obtain ⟨T, TF, gm, fI, fd, TI, ok, b, _⟩ := M
  exact pe_mkE T TI ok hr b pass0 hg gm he hs hdb
theorem pe_mkK {X : Cx} {x f : Str} {e : Expr} {te : TE} {p pos kpos : Pos} (M : MkE X.prog X.w X.K X.mg X.base x f) (hr : Room 2 X.A) (hg : Gl X x) (he : PE X e te) (hdb : (x == ("__debug__" : Str)) = false := by decide) :
    PE X (.Call (.Name x p) [] [⟨some f, e, kpos⟩] pos) (fun σ H Q => te σ H fun v H1 => MkQ (He.ga X.K x) f v H1 Q) := by
  obtain ⟨T, TF, gm, fI, fd, TI, ok, _, b⟩ := M
  exact pe_mkEK T TI ok hr b pass0 hg gm he hdb
theorem iteN {c A B : Prop} [Decidable c] (hc : ¬ c) (h : B) : if decide c = true then A else B := by
  rw [decide_eq_false hc]
  exact iteF h
section
variable {P : Program} {w : World} {K : PySem.W.Frag} {mg : Str → Option Value} {base : Heap} {f : Addr} {fd : FuncData} {C : Addr}
theorem ok_BadRings (F : FunD K "__init__" "BadRings.__init__" (defArgs (inClass (top 2) 0)) (defBody (inClass (top 2) 0)) (defScope (inClass (top 2) 0)) [] [] f fd) (T : ErrC K C) (TF : ErrF K C "thing") : FnOk P w K mg base CX0 1 f fd ["self", "thing"] (spInit C "thing") ∧ L2.Binds K fd ["self", "thing"] [] ∧
    ∀ (s : Shared) (z u : Value), K.In s.heap → BindsTo s fd ⟨[z], [("thing", u)]⟩ [("self", z), ("thing", u)] := by
  have sc : FnScope ["self", "thing"] ["self", "thing"] (defScope (inClass (top 2) 0)) := ⟨rfl, rfl, rfl, by decide +kernel, rfl, by decide +kernel, by decide +kernel⟩
  refine ⟨F.ok sc (fun vs H Q E h => ?_) (fun cdv A outer s H vs Q E hr h => ?_), F.bindsN fun _ _ _ _ _ _ us hl => match us, hl with | [_, _], _ => rfl, fun s z u _ => ?_⟩
  · obtain ⟨a, v, rfl, _⟩ := h
    rfl
  · obtain ⟨a, v, rfl, ha, k⟩ := h
    exact ⟨_, PSs.nox (pss_one (ps_ostE (pv 0) (pv 1))), v, rfl, _, rfl, a, C, rfl, T, TF, ha, fun dx n ne => k dx n ne⟩
  · obtain ⟨oc, od, dV, kV, doc, pm, an, cdv, ct, osl, rfl, lk, hcd, hD, hK⟩ := F.ex
    rcases hD with ⟨_, rfl⟩ | ⟨e, _⟩
    · exact .of_eq rfl
    · exact absurd rfl e
theorem ok_BadPlace (F : FunD K "__init__" "BadPlace.__init__" (defArgs (inClass (top 3) 0)) (defBody (inClass (top 3) 0)) (defScope (inClass (top 3) 0)) [] [] f fd) (T : ErrC K C) (TF : ErrF K C "thing") : FnOk P w K mg base CX0 1 f fd ["self", "thing"] (spInit C "thing") ∧ L2.Binds K fd ["self", "thing"] [] ∧
    ∀ (s : Shared) (z u : Value), K.In s.heap → BindsTo s fd ⟨[z], [("thing", u)]⟩ [("self", z), ("thing", u)] := by
  have sc : FnScope ["self", "thing"] ["self", "thing"] (defScope (inClass (top 3) 0)) := ⟨rfl, rfl, rfl, by decide +kernel, rfl, by decide +kernel, by decide +kernel⟩
  refine ⟨F.ok sc (fun vs H Q E h => ?_) (fun cdv A outer s H vs Q E hr h => ?_), F.bindsN fun _ _ _ _ _ _ us hl => match us, hl with | [_, _], _ => rfl, fun s z u _ => ?_⟩
  · obtain ⟨a, v, rfl, _⟩ := h
    rfl
  · obtain ⟨a, v, rfl, ha, k⟩ := h
    exact ⟨_, PSs.nox (pss_one (ps_ostE (pv 0) (pv 1))), v, rfl, _, rfl, a, C, rfl, T, TF, ha, fun dx n ne => k dx n ne⟩
  · obtain ⟨oc, od, dV, kV, doc, pm, an, cdv, ct, osl, rfl, lk, hcd, hD, hK⟩ := F.ex
    rcases hD with ⟨_, rfl⟩ | ⟨e, _⟩
    · exact .of_eq rfl
    · exact absurd rfl e
theorem ok_BadLot (F : FunD K "__init__" "BadLot.__init__" (defArgs (inClass (top 4) 0)) (defBody (inClass (top 4) 0)) (defScope (inClass (top 4) 0)) [] [] f fd) (T : ErrC K C) (TF : ErrF K C "thing") : FnOk P w K mg base CX0 1 f fd ["self", "thing"] (spInit C "thing") ∧ L2.Binds K fd ["self", "thing"] [] ∧
    ∀ (s : Shared) (z u : Value), K.In s.heap → BindsTo s fd ⟨[z], [("thing", u)]⟩ [("self", z), ("thing", u)] := by
  have sc : FnScope ["self", "thing"] ["self", "thing"] (defScope (inClass (top 4) 0)) := ⟨rfl, rfl, rfl, by decide +kernel, rfl, by decide +kernel, by decide +kernel⟩
  refine ⟨F.ok sc (fun vs H Q E h => ?_) (fun cdv A outer s H vs Q E hr h => ?_), F.bindsN fun _ _ _ _ _ _ us hl => match us, hl with | [_, _], _ => rfl, fun s z u _ => ?_⟩
  · obtain ⟨a, v, rfl, _⟩ := h
    rfl
  · obtain ⟨a, v, rfl, ha, k⟩ := h
    exact ⟨_, PSs.nox (pss_one (ps_ostE (pv 0) (pv 1))), v, rfl, _, rfl, a, C, rfl, T, TF, ha, fun dx n ne => k dx n ne⟩
  · obtain ⟨oc, od, dV, kV, doc, pm, an, cdv, ct, osl, rfl, lk, hcd, hD, hK⟩ := F.ex
    rcases hD with ⟨_, rfl⟩ | ⟨e, _⟩
    · exact .of_eq rfl
    · exact absurd rfl e
theorem ok_BadOrder (F : FunD K "__init__" "BadOrder.__init__" (defArgs (inClass (top 5) 0)) (defBody (inClass (top 5) 0)) (defScope (inClass (top 5) 0)) [] [] f fd) (T : ErrC K C) (TF : ErrF K C "thing") : FnOk P w K mg base CX0 1 f fd ["self", "thing"] (spInit C "thing") ∧ L2.Binds K fd ["self", "thing"] [] ∧
    ∀ (s : Shared) (z u : Value), K.In s.heap → BindsTo s fd ⟨[z], [("thing", u)]⟩ [("self", z), ("thing", u)] := by
  have sc : FnScope ["self", "thing"] ["self", "thing"] (defScope (inClass (top 5) 0)) := ⟨rfl, rfl, rfl, by decide +kernel, rfl, by decide +kernel, by decide +kernel⟩
  refine ⟨F.ok sc (fun vs H Q E h => ?_) (fun cdv A outer s H vs Q E hr h => ?_), F.bindsN fun _ _ _ _ _ _ us hl => match us, hl with | [_, _], _ => rfl, fun s z u _ => ?_⟩
  · obtain ⟨a, v, rfl, _⟩ := h
    rfl
  · obtain ⟨a, v, rfl, ha, k⟩ := h
    exact ⟨_, PSs.nox (pss_one (ps_ostE (pv 0) (pv 1))), v, rfl, _, rfl, a, C, rfl, T, TF, ha, fun dx n ne => k dx n ne⟩
  · obtain ⟨oc, od, dV, kV, doc, pm, an, cdv, ct, osl, rfl, lk, hcd, hD, hK⟩ := F.ex
    rcases hD with ⟨_, rfl⟩ | ⟨e, _⟩
    · exact .of_eq rfl
    · exact absurd rfl e
theorem ok_BadNumber (F : FunD K "__init__" "BadNumber.__init__" (defArgs (inClass (top 6) 0)) (defBody (inClass (top 6) 0)) (defScope (inClass (top 6) 0)) [] [] f fd) (T : ErrC K C) (TF : ErrF K C "thing") : FnOk P w K mg base CX0 1 f fd ["self", "thing"] (spInit C "thing") ∧ L2.Binds K fd ["self", "thing"] [] ∧
    ∀ (s : Shared) (z u : Value), K.In s.heap → BindsTo s fd ⟨[z], [("thing", u)]⟩ [("self", z), ("thing", u)] := by
  have sc : FnScope ["self", "thing"] ["self", "thing"] (defScope (inClass (top 6) 0)) := ⟨rfl, rfl, rfl, by decide +kernel, rfl, by decide +kernel, by decide +kernel⟩
  refine ⟨F.ok sc (fun vs H Q E h => ?_) (fun cdv A outer s H vs Q E hr h => ?_), F.bindsN fun _ _ _ _ _ _ us hl => match us, hl with | [_, _], _ => rfl, fun s z u _ => ?_⟩
  · obtain ⟨a, v, rfl, _⟩ := h
    rfl
  · obtain ⟨a, v, rfl, ha, k⟩ := h
    exact ⟨_, PSs.nox (pss_one (ps_ostE (pv 0) (pv 1))), v, rfl, _, rfl, a, C, rfl, T, TF, ha, fun dx n ne => k dx n ne⟩
  · obtain ⟨oc, od, dV, kV, doc, pm, an, cdv, ct, osl, rfl, lk, hcd, hD, hK⟩ := F.ex
    rcases hD with ⟨_, rfl⟩ | ⟨e, _⟩
    · exact .of_eq rfl
    · exact absurd rfl e
theorem ok_BadCount (F : FunD K "__init__" "BadCount.__init__" (defArgs (inClass (top 7) 0)) (defBody (inClass (top 7) 0)) (defScope (inClass (top 7) 0)) [] [] f fd) (T : ErrC K C) (TF : ErrF K C "thing") : FnOk P w K mg base CX0 1 f fd ["self", "thing"] (spInit C "thing") ∧ L2.Binds K fd ["self", "thing"] [] ∧
    ∀ (s : Shared) (z u : Value), K.In s.heap → BindsTo s fd ⟨[z], [("thing", u)]⟩ [("self", z), ("thing", u)] := by
  have sc : FnScope ["self", "thing"] ["self", "thing"] (defScope (inClass (top 7) 0)) := ⟨rfl, rfl, rfl, by decide +kernel, rfl, by decide +kernel, by decide +kernel⟩
  refine ⟨F.ok sc (fun vs H Q E h => ?_) (fun cdv A outer s H vs Q E hr h => ?_), F.bindsN fun _ _ _ _ _ _ us hl => match us, hl with | [_, _], _ => rfl, fun s z u _ => ?_⟩
  · obtain ⟨a, v, rfl, _⟩ := h
    rfl
  · obtain ⟨a, v, rfl, ha, k⟩ := h
    exact ⟨_, PSs.nox (pss_one (ps_ostE (pv 0) (pv 1))), v, rfl, _, rfl, a, C, rfl, T, TF, ha, fun dx n ne => k dx n ne⟩
  · obtain ⟨oc, od, dV, kV, doc, pm, an, cdv, ct, osl, rfl, lk, hcd, hD, hK⟩ := F.ex
    rcases hD with ⟨_, rfl⟩ | ⟨e, _⟩
    · exact .of_eq rfl
    · exact absurd rfl e
theorem ok_BadRow (F : FunD K "__init__" "BadRow.__init__" (defArgs (inClass (top 8) 0)) (defBody (inClass (top 8) 0)) (defScope (inClass (top 8) 0)) [] [] f fd) (T : ErrC K C) (TF : ErrF K C "thing") : FnOk P w K mg base CX0 1 f fd ["self", "thing"] (spInit C "thing") ∧ L2.Binds K fd ["self", "thing"] [] ∧
    ∀ (s : Shared) (z u : Value), K.In s.heap → BindsTo s fd ⟨[z], [("thing", u)]⟩ [("self", z), ("thing", u)] := by
  have sc : FnScope ["self", "thing"] ["self", "thing"] (defScope (inClass (top 8) 0)) := ⟨rfl, rfl, rfl, by decide +kernel, rfl, by decide +kernel, by decide +kernel⟩
  refine ⟨F.ok sc (fun vs H Q E h => ?_) (fun cdv A outer s H vs Q E hr h => ?_), F.bindsN fun _ _ _ _ _ _ us hl => match us, hl with | [_, _], _ => rfl, fun s z u _ => ?_⟩
  · obtain ⟨a, v, rfl, _⟩ := h
    rfl
  · obtain ⟨a, v, rfl, ha, k⟩ := h
    exact ⟨_, PSs.nox (pss_one (ps_ostE (pv 0) (pv 1))), v, rfl, _, rfl, a, C, rfl, T, TF, ha, fun dx n ne => k dx n ne⟩
  · obtain ⟨oc, od, dV, kV, doc, pm, an, cdv, ct, osl, rfl, lk, hcd, hD, hK⟩ := F.ex
    rcases hD with ⟨_, rfl⟩ | ⟨e, _⟩
    · exact .of_eq rfl
    · exact absurd rfl e
theorem ok_BadWhole (F : FunD K "__init__" "BadWhole.__init__" (defArgs (inClass (top 9) 0)) (defBody (inClass (top 9) 0)) (defScope (inClass (top 9) 0)) [] [] f fd) (T : ErrC K C) (TF : ErrF K C "thing") : FnOk P w K mg base CX0 1 f fd ["self", "thing"] (spInit C "thing") ∧ L2.Binds K fd ["self", "thing"] [] ∧
    ∀ (s : Shared) (z u : Value), K.In s.heap → BindsTo s fd ⟨[z], [("thing", u)]⟩ [("self", z), ("thing", u)] := by
  have sc : FnScope ["self", "thing"] ["self", "thing"] (defScope (inClass (top 9) 0)) := ⟨rfl, rfl, rfl, by decide +kernel, rfl, by decide +kernel, by decide +kernel⟩
  refine ⟨F.ok sc (fun vs H Q E h => ?_) (fun cdv A outer s H vs Q E hr h => ?_), F.bindsN fun _ _ _ _ _ _ us hl => match us, hl with | [_, _], _ => rfl, fun s z u _ => ?_⟩
  · obtain ⟨a, v, rfl, _⟩ := h
    rfl
  · obtain ⟨a, v, rfl, ha, k⟩ := h
    exact ⟨_, PSs.nox (pss_one (ps_ostE (pv 0) (pv 1))), v, rfl, _, rfl, a, C, rfl, T, TF, ha, fun dx n ne => k dx n ne⟩
  · obtain ⟨oc, od, dV, kV, doc, pm, an, cdv, ct, osl, rfl, lk, hcd, hD, hK⟩ := F.ex
    rcases hD with ⟨_, rfl⟩ | ⟨e, _⟩
    · exact .of_eq rfl
    · exact absurd rfl e
theorem ok_BadItems (F : FunD K "__init__" "BadItems.__init__" (defArgs (inClass (top 10) 0)) (defBody (inClass (top 10) 0)) (defScope (inClass (top 10) 0)) [] [] f fd) (T : ErrC K C) (TF : ErrF K C "thing") : FnOk P w K mg base CX0 1 f fd ["self", "thing"] (spInit C "thing") ∧ L2.Binds K fd ["self", "thing"] [] ∧
    ∀ (s : Shared) (z u : Value), K.In s.heap → BindsTo s fd ⟨[z], [("thing", u)]⟩ [("self", z), ("thing", u)] := by
  have sc : FnScope ["self", "thing"] ["self", "thing"] (defScope (inClass (top 10) 0)) := ⟨rfl, rfl, rfl, by decide +kernel, rfl, by decide +kernel, by decide +kernel⟩
  refine ⟨F.ok sc (fun vs H Q E h => ?_) (fun cdv A outer s H vs Q E hr h => ?_), F.bindsN fun _ _ _ _ _ _ us hl => match us, hl with | [_, _], _ => rfl, fun s z u _ => ?_⟩
  · obtain ⟨a, v, rfl, _⟩ := h
    rfl
  · obtain ⟨a, v, rfl, ha, k⟩ := h
    exact ⟨_, PSs.nox (pss_one (ps_ostE (pv 0) (pv 1))), v, rfl, _, rfl, a, C, rfl, T, TF, ha, fun dx n ne => k dx n ne⟩
  · obtain ⟨oc, od, dV, kV, doc, pm, an, cdv, ct, osl, rfl, lk, hcd, hD, hK⟩ := F.ex
    rcases hD with ⟨_, rfl⟩ | ⟨e, _⟩
    · exact .of_eq rfl
    · exact absurd rfl e
theorem ok_BadHeard (F : FunD K "__init__" "BadHeard.__init__" (defArgs (inClass (top 11) 0)) (defBody (inClass (top 11) 0)) (defScope (inClass (top 11) 0)) [] [] f fd) (T : ErrC K C) (TF : ErrF K C "thing") : FnOk P w K mg base CX0 1 f fd ["self", "thing"] (spInit C "thing") ∧ L2.Binds K fd ["self", "thing"] [] ∧
    ∀ (s : Shared) (z u : Value), K.In s.heap → BindsTo s fd ⟨[z], [("thing", u)]⟩ [("self", z), ("thing", u)] := by
  have sc : FnScope ["self", "thing"] ["self", "thing"] (defScope (inClass (top 11) 0)) := ⟨rfl, rfl, rfl, by decide +kernel, rfl, by decide +kernel, by decide +kernel⟩
  refine ⟨F.ok sc (fun vs H Q E h => ?_) (fun cdv A outer s H vs Q E hr h => ?_), F.bindsN fun _ _ _ _ _ _ us hl => match us, hl with | [_, _], _ => rfl, fun s z u _ => ?_⟩
  · obtain ⟨a, v, rfl, _⟩ := h
    rfl
  · obtain ⟨a, v, rfl, ha, k⟩ := h
    exact ⟨_, PSs.nox (pss_one (ps_ostE (pv 0) (pv 1))), v, rfl, _, rfl, a, C, rfl, T, TF, ha, fun dx n ne => k dx n ne⟩
  · obtain ⟨oc, od, dV, kV, doc, pm, an, cdv, ct, osl, rfl, lk, hcd, hD, hK⟩ := F.ex
    rcases hD with ⟨_, rfl⟩ | ⟨e, _⟩
    · exact .of_eq rfl
    · exact absurd rfl e
theorem ok_BadSeen (F : FunD K "__init__" "BadSeen.__init__" (defArgs (inClass (top 12) 0)) (defBody (inClass (top 12) 0)) (defScope (inClass (top 12) 0)) [] [] f fd) (T : ErrC K C) (TF : ErrF K C "thing") : FnOk P w K mg base CX0 1 f fd ["self", "thing"] (spInit C "thing") ∧ L2.Binds K fd ["self", "thing"] [] ∧
    ∀ (s : Shared) (z u : Value), K.In s.heap → BindsTo s fd ⟨[z], [("thing", u)]⟩ [("self", z), ("thing", u)] := by
  have sc : FnScope ["self", "thing"] ["self", "thing"] (defScope (inClass (top 12) 0)) := ⟨rfl, rfl, rfl, by decide +kernel, rfl, by decide +kernel, by decide +kernel⟩
  refine ⟨F.ok sc (fun vs H Q E h => ?_) (fun cdv A outer s H vs Q E hr h => ?_), F.bindsN fun _ _ _ _ _ _ us hl => match us, hl with | [_, _], _ => rfl, fun s z u _ => ?_⟩
  · obtain ⟨a, v, rfl, _⟩ := h
    rfl
  · obtain ⟨a, v, rfl, ha, k⟩ := h
    exact ⟨_, PSs.nox (pss_one (ps_ostE (pv 0) (pv 1))), v, rfl, _, rfl, a, C, rfl, T, TF, ha, fun dx n ne => k dx n ne⟩
  · obtain ⟨oc, od, dV, kV, doc, pm, an, cdv, ct, osl, rfl, lk, hcd, hD, hK⟩ := F.ex
    rcases hD with ⟨_, rfl⟩ | ⟨e, _⟩
    · exact .of_eq rfl
    · exact absurd rfl e
theorem ok_BadSteps (F : FunD K "__init__" "BadSteps.__init__" (defArgs (inClass (top 13) 0)) (defBody (inClass (top 13) 0)) (defScope (inClass (top 13) 0)) [] [] f fd) (T : ErrC K C) (TF : ErrF K C "thing") : FnOk P w K mg base CX0 1 f fd ["self", "thing"] (spInit C "thing") ∧ L2.Binds K fd ["self", "thing"] [] ∧
    ∀ (s : Shared) (z u : Value), K.In s.heap → BindsTo s fd ⟨[z], [("thing", u)]⟩ [("self", z), ("thing", u)] := by
  have sc : FnScope ["self", "thing"] ["self", "thing"] (defScope (inClass (top 13) 0)) := ⟨rfl, rfl, rfl, by decide +kernel, rfl, by decide +kernel, by decide +kernel⟩
  refine ⟨F.ok sc (fun vs H Q E h => ?_) (fun cdv A outer s H vs Q E hr h => ?_), F.bindsN fun _ _ _ _ _ _ us hl => match us, hl with | [_, _], _ => rfl, fun s z u _ => ?_⟩
  · obtain ⟨a, v, rfl, _⟩ := h
    rfl
  · obtain ⟨a, v, rfl, ha, k⟩ := h
    exact ⟨_, PSs.nox (pss_one (ps_ostE (pv 0) (pv 1))), v, rfl, _, rfl, a, C, rfl, T, TF, ha, fun dx n ne => k dx n ne⟩
  · obtain ⟨oc, od, dV, kV, doc, pm, an, cdv, ct, osl, rfl, lk, hcd, hD, hK⟩ := F.ex
    rcases hD with ⟨_, rfl⟩ | ⟨e, _⟩
    · exact .of_eq rfl
    · exact absurd rfl e
theorem ok_Unfit (F : FunD K "__init__" "Unfit.__init__" (defArgs (inClass (top 15) 0)) (defBody (inClass (top 15) 0)) (defScope (inClass (top 15) 0)) [] [] f fd) (T : ErrC K C) (TF : ErrF K C "certificate") : FnOk P w K mg base CX0 1 f fd ["self", "certificate"] (spInit C "certificate") ∧ L2.Binds K fd ["self", "certificate"] [] ∧
    ∀ (s : Shared) (z u : Value), K.In s.heap → BindsTo s fd ⟨[z], [("certificate", u)]⟩ [("self", z), ("certificate", u)] := by
  have sc : FnScope ["self", "certificate"] ["self", "certificate"] (defScope (inClass (top 15) 0)) := ⟨rfl, rfl, rfl, by decide +kernel, rfl, by decide +kernel, by decide +kernel⟩
  refine ⟨F.ok sc (fun vs H Q E h => ?_) (fun cdv A outer s H vs Q E hr h => ?_), F.bindsN fun _ _ _ _ _ _ us hl => match us, hl with | [_, _], _ => rfl, fun s z u _ => ?_⟩
  · obtain ⟨a, v, rfl, _⟩ := h
    rfl
  · obtain ⟨a, v, rfl, ha, k⟩ := h
    exact ⟨_, PSs.nox (pss_one (ps_ostE (pv 0) (pv 1))), v, rfl, _, rfl, a, C, rfl, T, TF, ha, fun dx n ne => k dx n ne⟩
  · obtain ⟨oc, od, dV, kV, doc, pm, an, cdv, ct, osl, rfl, lk, hcd, hD, hK⟩ := F.ex
    rcases hD with ⟨_, rfl⟩ | ⟨e, _⟩
    · exact .of_eq rfl
    · exact absurd rfl e
theorem ok_TooMany (F : FunD K "__init__" "TooMany.__init__" (defArgs (inClass (top 16) 0)) (defBody (inClass (top 16) 0)) (defScope (inClass (top 16) 0)) [] [] f fd) (T : ErrC K C) (TF : ErrF K C "most") : FnOk P w K mg base CX0 1 f fd ["self", "most"] (spInit C "most") ∧ L2.Binds K fd ["self", "most"] [] ∧
    ∀ (s : Shared) (z u : Value), K.In s.heap → BindsTo s fd ⟨[z], [("most", u)]⟩ [("self", z), ("most", u)] := by
  have sc : FnScope ["self", "most"] ["self", "most"] (defScope (inClass (top 16) 0)) := ⟨rfl, rfl, rfl, by decide +kernel, rfl, by decide +kernel, by decide +kernel⟩
  refine ⟨F.ok sc (fun vs H Q E h => ?_) (fun cdv A outer s H vs Q E hr h => ?_), F.bindsN fun _ _ _ _ _ _ us hl => match us, hl with | [_, _], _ => rfl, fun s z u _ => ?_⟩
  · obtain ⟨a, v, rfl, _⟩ := h
    rfl
  · obtain ⟨a, v, rfl, ha, k⟩ := h
    exact ⟨_, PSs.nox (pss_one (ps_ostE (pv 0) (pv 1))), v, rfl, _, rfl, a, C, rfl, T, TF, ha, fun dx n ne => k dx n ne⟩
  · obtain ⟨oc, od, dV, kV, doc, pm, an, cdv, ct, osl, rfl, lk, hcd, hD, hK⟩ := F.ex
    rcases hD with ⟨_, rfl⟩ | ⟨e, _⟩
    · exact .of_eq rfl
    · exact absurd rfl e
theorem ok_BadDeed (F : FunD K "__init__" "BadDeed.__init__" (defArgs (inClass (top 17) 0)) (defBody (inClass (top 17) 0)) (defScope (inClass (top 17) 0)) [] [] f fd) (T : ErrC K C) (TF : ErrF K C "thing") : FnOk P w K mg base CX0 1 f fd ["self", "thing"] (spInit C "thing") ∧ L2.Binds K fd ["self", "thing"] [] ∧
    ∀ (s : Shared) (z u : Value), K.In s.heap → BindsTo s fd ⟨[z], [("thing", u)]⟩ [("self", z), ("thing", u)] := by
  have sc : FnScope ["self", "thing"] ["self", "thing"] (defScope (inClass (top 17) 0)) := ⟨rfl, rfl, rfl, by decide +kernel, rfl, by decide +kernel, by decide +kernel⟩
  refine ⟨F.ok sc (fun vs H Q E h => ?_) (fun cdv A outer s H vs Q E hr h => ?_), F.bindsN fun _ _ _ _ _ _ us hl => match us, hl with | [_, _], _ => rfl, fun s z u _ => ?_⟩
  · obtain ⟨a, v, rfl, _⟩ := h
    rfl
  · obtain ⟨a, v, rfl, ha, k⟩ := h
    exact ⟨_, PSs.nox (pss_one (ps_ostE (pv 0) (pv 1))), v, rfl, _, rfl, a, C, rfl, T, TF, ha, fun dx n ne => k dx n ne⟩
  · obtain ⟨oc, od, dV, kV, doc, pm, an, cdv, ct, osl, rfl, lk, hcd, hD, hK⟩ := F.ex
    rcases hD with ⟨_, rfl⟩ | ⟨e, _⟩
    · exact .of_eq rfl
    · exact absurd rfl e
theorem ok_BadClaim (F : FunD K "__init__" "BadClaim.__init__" (defArgs (inClass (top 18) 0)) (defBody (inClass (top 18) 0)) (defScope (inClass (top 18) 0)) [] [] f fd) (T : ErrC K C) (TF : ErrF K C "thing") : FnOk P w K mg base CX0 1 f fd ["self", "thing"] (spInit C "thing") ∧ L2.Binds K fd ["self", "thing"] [] ∧
    ∀ (s : Shared) (z u : Value), K.In s.heap → BindsTo s fd ⟨[z], [("thing", u)]⟩ [("self", z), ("thing", u)] := by
  have sc : FnScope ["self", "thing"] ["self", "thing"] (defScope (inClass (top 18) 0)) := ⟨rfl, rfl, rfl, by decide +kernel, rfl, by decide +kernel, by decide +kernel⟩
  refine ⟨F.ok sc (fun vs H Q E h => ?_) (fun cdv A outer s H vs Q E hr h => ?_), F.bindsN fun _ _ _ _ _ _ us hl => match us, hl with | [_, _], _ => rfl, fun s z u _ => ?_⟩
  · obtain ⟨a, v, rfl, _⟩ := h
    rfl
  · obtain ⟨a, v, rfl, ha, k⟩ := h
    exact ⟨_, PSs.nox (pss_one (ps_ostE (pv 0) (pv 1))), v, rfl, _, rfl, a, C, rfl, T, TF, ha, fun dx n ne => k dx n ne⟩
  · obtain ⟨oc, od, dV, kV, doc, pm, an, cdv, ct, osl, rfl, lk, hcd, hD, hK⟩ := F.ex
    rcases hD with ⟨_, rfl⟩ | ⟨e, _⟩
    · exact .of_eq rfl
    · exact absurd rfl e
theorem ok_Unkept (F : FunD K "__init__" "Unkept.__init__" (defArgs (inClass (top 19) 0)) (defBody (inClass (top 19) 0)) (defScope (inClass (top 19) 0)) [] [] f fd) (T : ErrC K C) (TF : ErrF K C "claim") : FnOk P w K mg base CX0 1 f fd ["self", "claim"] (spInit C "claim") ∧ L2.Binds K fd ["self", "claim"] [] ∧
    ∀ (s : Shared) (z u : Value), K.In s.heap → BindsTo s fd ⟨[z], [("claim", u)]⟩ [("self", z), ("claim", u)] := by
  have sc : FnScope ["self", "claim"] ["self", "claim"] (defScope (inClass (top 19) 0)) := ⟨rfl, rfl, rfl, by decide +kernel, rfl, by decide +kernel, by decide +kernel⟩
  refine ⟨F.ok sc (fun vs H Q E h => ?_) (fun cdv A outer s H vs Q E hr h => ?_), F.bindsN fun _ _ _ _ _ _ us hl => match us, hl with | [_, _], _ => rfl, fun s z u _ => ?_⟩
  · obtain ⟨a, v, rfl, _⟩ := h
    rfl
  · obtain ⟨a, v, rfl, ha, k⟩ := h
    exact ⟨_, PSs.nox (pss_one (ps_ostE (pv 0) (pv 1))), v, rfl, _, rfl, a, C, rfl, T, TF, ha, fun dx n ne => k dx n ne⟩
  · obtain ⟨oc, od, dV, kV, doc, pm, an, cdv, ct, osl, rfl, lk, hcd, hD, hK⟩ := F.ex
    rcases hD with ⟨_, rfl⟩ | ⟨e, _⟩
    · exact .of_eq rfl
    · exact absurd rfl e
theorem ok_NoClaim (F : FunD K "__init__" "NoClaim.__init__" (defArgs (inClass (top 20) 0)) (defBody (inClass (top 20) 0)) (defScope (inClass (top 20) 0)) [] [] f fd) (T : ErrC K C) (TF : ErrF K C "thing") : FnOk P w K mg base CX0 1 f fd ["self", "thing"] (spInit C "thing") ∧ L2.Binds K fd ["self", "thing"] [] ∧
    ∀ (s : Shared) (z u : Value), K.In s.heap → BindsTo s fd ⟨[z], [("thing", u)]⟩ [("self", z), ("thing", u)] := by
  have sc : FnScope ["self", "thing"] ["self", "thing"] (defScope (inClass (top 20) 0)) := ⟨rfl, rfl, rfl, by decide +kernel, rfl, by decide +kernel, by decide +kernel⟩
  refine ⟨F.ok sc (fun vs H Q E h => ?_) (fun cdv A outer s H vs Q E hr h => ?_), F.bindsN fun _ _ _ _ _ _ us hl => match us, hl with | [_, _], _ => rfl, fun s z u _ => ?_⟩
  · obtain ⟨a, v, rfl, _⟩ := h
    rfl
  · obtain ⟨a, v, rfl, ha, k⟩ := h
    exact ⟨_, PSs.nox (pss_one (ps_ostE (pv 0) (pv 1))), v, rfl, _, rfl, a, C, rfl, T, TF, ha, fun dx n ne => k dx n ne⟩
  · obtain ⟨oc, od, dV, kV, doc, pm, an, cdv, ct, osl, rfl, lk, hcd, hD, hK⟩ := F.ex
    rcases hD with ⟨_, rfl⟩ | ⟨e, _⟩
    · exact .of_eq rfl
    · exact absurd rfl e
theorem ok_BadText (F : FunD K "__init__" "BadText.__init__" (defArgs (inClass (top 23) 0)) (defBody (inClass (top 23) 0)) (defScope (inClass (top 23) 0)) [] [] f fd) (T : ErrC K C) (TF : ErrF K C "at") : FnOk P w K mg base CX0 1 f fd ["self", "at"] (spInit C "at") ∧ L2.Binds K fd ["self", "at"] [] ∧
    ∀ (s : Shared) (z u : Value), K.In s.heap → BindsTo s fd ⟨[z], [("at", u)]⟩ [("self", z), ("at", u)] := by
  have sc : FnScope ["self", "at"] ["self", "at"] (defScope (inClass (top 23) 0)) := ⟨rfl, rfl, rfl, by decide +kernel, rfl, by decide +kernel, by decide +kernel⟩
  refine ⟨F.ok sc (fun vs H Q E h => ?_) (fun cdv A outer s H vs Q E hr h => ?_), F.bindsN fun _ _ _ _ _ _ us hl => match us, hl with | [_, _], _ => rfl, fun s z u _ => ?_⟩
  · obtain ⟨a, v, rfl, _⟩ := h
    rfl
  · obtain ⟨a, v, rfl, ha, k⟩ := h
    exact ⟨_, PSs.nox (pss_one (ps_ostE (pv 0) (pv 1))), v, rfl, _, rfl, a, C, rfl, T, TF, ha, fun dx n ne => k dx n ne⟩
  · obtain ⟨oc, od, dV, kV, doc, pm, an, cdv, ct, osl, rfl, lk, hcd, hD, hK⟩ := F.ex
    rcases hD with ⟨_, rfl⟩ | ⟨e, _⟩
    · exact .of_eq rfl
    · exact absurd rfl e
/-- the promise of the two makers -/
def spMk (K : PySem.W.Frag) (T : List (Str × Str)) : Sp := fun vs H Q _ => ∃ (wd x : Str) (v : V) (b : Bool), vs = [.str wd, v, .bl b] ∧ (wd, x) ∈ T ∧ MkQ (He.ga K x) "thing" v H Q
def firstT : List (Str × Str) := [("rings", "BadRings"), ("place", "BadPlace"), ("lot", "BadLot"), ("order", "BadOrder"), ("number", "BadNumber"), ("count", "BadCount"), ("row", "BadRow"), ("whole", "BadWhole"), ("items", "BadItems")]
theorem sc_first : FnScope ["word", "value", "is_named"] ["word", "value", "is_named"] (defScope sFirst) := ⟨rfl, rfl, rfl, by decide +kernel, rfl, by decide +kernel, by decide +kernel⟩
theorem ok_first (F : FnP K "_law_first" sFirst f fd) (M : ∀ q ∈ firstT, MkE P w K mg base q.2 "thing") : FnOk P w K mg base CX0 3 f fd ["word", "value", "is_named"] (spMk K firstT) := by
  have M0 : MkE P w K mg base "BadRings" "thing" := M ("rings", "BadRings") (by simp [firstT])
  have M1 : MkE P w K mg base "BadPlace" "thing" := M ("place", "BadPlace") (by simp [firstT])
  have M2 : MkE P w K mg base "BadLot" "thing" := M ("lot", "BadLot") (by simp [firstT])
  have M3 : MkE P w K mg base "BadOrder" "thing" := M ("order", "BadOrder") (by simp [firstT])
  have M4 : MkE P w K mg base "BadNumber" "thing" := M ("number", "BadNumber") (by simp [firstT])
  have M5 : MkE P w K mg base "BadCount" "thing" := M ("count", "BadCount") (by simp [firstT])
  have M6 : MkE P w K mg base "BadRow" "thing" := M ("row", "BadRow") (by simp [firstT])
  have M7 : MkE P w K mg base "BadWhole" "thing" := M ("whole", "BadWhole") (by simp [firstT])
  have M8 : MkE P w K mg base "BadItems" "thing" := M ("items", "BadItems") (by simp [firstT])
  refine F.ok sc_first (fun vs H Q E h => ?_) (fun cdv A outer s H vs Q E hr h => ?_)
  · obtain ⟨wd, x, v, b, rfl, _⟩ := h
    rfl
  · obtain ⟨wd, x, v, b, rfl, hin, k⟩ := h
    refine ⟨_, PSs.nox (pss_cons (ps_if (pt_cmpR op_eq (pv 0) pe_str (nomark _)) (pss_one (ps_ret (pe_ifExp (pt_val (pv 2)) (pe_mkK M0 hr (by rfl) (pv 1)) (pe_mk M0 hr (by rfl) (pv 1))))) pss_nil) (
      pss_cons (ps_if (pt_cmpR op_eq (pv 0) pe_str (nomark _)) (pss_one (ps_ret (pe_ifExp (pt_val (pv 2)) (pe_mkK M1 hr (by rfl) (pv 1)) (pe_mk M1 hr (by rfl) (pv 1))))) pss_nil) (
      pss_cons (ps_if (pt_cmpR op_eq (pv 0) pe_str (nomark _)) (pss_one (ps_ret (pe_ifExp (pt_val (pv 2)) (pe_mkK M2 hr (by rfl) (pv 1)) (pe_mk M2 hr (by rfl) (pv 1))))) pss_nil) (
      pss_cons (ps_if (pt_cmpR op_eq (pv 0) pe_str (nomark _)) (pss_one (ps_ret (pe_ifExp (pt_val (pv 2)) (pe_mkK M3 hr (by rfl) (pv 1)) (pe_mk M3 hr (by rfl) (pv 1))))) pss_nil) (
      pss_cons (ps_if (pt_cmpR op_eq (pv 0) pe_str (nomark _)) (pss_one (ps_ret (pe_ifExp (pt_val (pv 2)) (pe_mkK M4 hr (by rfl) (pv 1)) (pe_mk M4 hr (by rfl) (pv 1))))) pss_nil) (
      pss_cons (ps_if (pt_cmpR op_eq (pv 0) pe_str (nomark _)) (pss_one (ps_ret (pe_ifExp (pt_val (pv 2)) (pe_mkK M5 hr (by rfl) (pv 1)) (pe_mk M5 hr (by rfl) (pv 1))))) pss_nil) (
      pss_cons (ps_if (pt_cmpR op_eq (pv 0) pe_str (nomark _)) (pss_one (ps_ret (pe_ifExp (pt_val (pv 2)) (pe_mkK M6 hr (by rfl) (pv 1)) (pe_mk M6 hr (by rfl) (pv 1))))) pss_nil) (
      pss_cons (ps_if (pt_cmpR op_eq (pv 0) pe_str (nomark _)) (pss_one (ps_ret (pe_ifExp (pt_val (pv 2)) (pe_mkK M7 hr (by rfl) (pv 1)) (pe_mk M7 hr (by rfl) (pv 1))))) pss_nil) (
      pss_cons (ps_if (pt_cmpR op_eq (pv 0) pe_str (nomark _)) (pss_one (ps_ret (pe_ifExp (pt_val (pv 2)) (pe_mkK M8 hr (by rfl) (pv 1)) (pe_mk M8 hr (by rfl) (pv 1))))) pss_nil) (
      pss_one (ps_ret pe_non))))))))))), ?_⟩
    simp only [firstT, List.mem_cons, List.not_mem_nil, or_false, Prod.mk.injEq] at hin
    rcases hin with ⟨rfl, rfl⟩ | ⟨rfl, rfl⟩ | ⟨rfl, rfl⟩ | ⟨rfl, rfl⟩ | ⟨rfl, rfl⟩ | ⟨rfl, rfl⟩ | ⟨rfl, rfl⟩ | ⟨rfl, rfl⟩ | ⟨rfl, rfl⟩
    · exact ⟨_, rfl, rfl, _, rfl, iteD rfl ⟨_, rfl, b, rfl, by cases b <;> exact ⟨_, rfl, k⟩⟩⟩
    · exact ⟨_, rfl, rfl, _, rfl, iteN (by decide +kernel) ⟨_, rfl, rfl, _, rfl, iteD rfl ⟨_, rfl, b, rfl, by cases b <;> exact ⟨_, rfl, k⟩⟩⟩⟩
    · exact ⟨_, rfl, rfl, _, rfl, iteN (by decide +kernel) ⟨_, rfl, rfl, _, rfl, iteN (by decide +kernel) ⟨_, rfl, rfl, _, rfl, iteD rfl ⟨_, rfl, b, rfl, by cases b <;> exact ⟨_, rfl, k⟩⟩⟩⟩⟩
    · exact ⟨_, rfl, rfl, _, rfl, iteN (by decide +kernel) ⟨_, rfl, rfl, _, rfl, iteN (by decide +kernel) ⟨_, rfl, rfl, _, rfl, iteN (by decide +kernel) ⟨_, rfl, rfl, _, rfl, iteD rfl ⟨_, rfl, b, rfl, by cases b <;> exact ⟨_, rfl, k⟩⟩⟩⟩⟩⟩
    · exact ⟨_, rfl, rfl, _, rfl, iteN (by decide +kernel) ⟨_, rfl, rfl, _, rfl, iteN (by decide +kernel) ⟨_, rfl, rfl, _, rfl, iteN (by decide +kernel) ⟨_, rfl, rfl, _, rfl, iteN (by decide +kernel) ⟨_, rfl, rfl, _, rfl, iteD rfl ⟨_, rfl, b, rfl, by cases b <;> exact ⟨_, rfl, k⟩⟩⟩⟩⟩⟩⟩
    · exact ⟨_, rfl, rfl, _, rfl, iteN (by decide +kernel) ⟨_, rfl, rfl, _, rfl, iteN (by decide +kernel) ⟨_, rfl, rfl, _, rfl, iteN (by decide +kernel) ⟨_, rfl, rfl, _, rfl, iteN (by decide +kernel) ⟨_, rfl, rfl, _, rfl, iteN (by decide +kernel) ⟨_, rfl, rfl, _, rfl, iteD rfl ⟨_, rfl, b, rfl, by cases b <;> exact ⟨_, rfl, k⟩⟩⟩⟩⟩⟩⟩⟩
    · exact ⟨_, rfl, rfl, _, rfl, iteN (by decide +kernel) ⟨_, rfl, rfl, _, rfl, iteN (by decide +kernel) ⟨_, rfl, rfl, _, rfl, iteN (by decide +kernel) ⟨_, rfl, rfl, _, rfl, iteN (by decide +kernel) ⟨_, rfl, rfl, _, rfl, iteN (by decide +kernel) ⟨_, rfl, rfl, _, rfl, iteN (by decide +kernel) ⟨_, rfl, rfl, _, rfl, iteD rfl ⟨_, rfl, b, rfl, by cases b <;> exact ⟨_, rfl, k⟩⟩⟩⟩⟩⟩⟩⟩⟩
    · exact ⟨_, rfl, rfl, _, rfl, iteN (by decide +kernel) ⟨_, rfl, rfl, _, rfl, iteN (by decide +kernel) ⟨_, rfl, rfl, _, rfl, iteN (by decide +kernel) ⟨_, rfl, rfl, _, rfl, iteN (by decide +kernel) ⟨_, rfl, rfl, _, rfl, iteN (by decide +kernel) ⟨_, rfl, rfl, _, rfl, iteN (by decide +kernel) ⟨_, rfl, rfl, _, rfl, iteN (by decide +kernel) ⟨_, rfl, rfl, _, rfl, iteD rfl ⟨_, rfl, b, rfl, by cases b <;> exact ⟨_, rfl, k⟩⟩⟩⟩⟩⟩⟩⟩⟩⟩
    · exact ⟨_, rfl, rfl, _, rfl, iteN (by decide +kernel) ⟨_, rfl, rfl, _, rfl, iteN (by decide +kernel) ⟨_, rfl, rfl, _, rfl, iteN (by decide +kernel) ⟨_, rfl, rfl, _, rfl, iteN (by decide +kernel) ⟨_, rfl, rfl, _, rfl, iteN (by decide +kernel) ⟨_, rfl, rfl, _, rfl, iteN (by decide +kernel) ⟨_, rfl, rfl, _, rfl, iteN (by decide +kernel) ⟨_, rfl, rfl, _, rfl, iteN (by decide +kernel) ⟨_, rfl, rfl, _, rfl, iteD rfl ⟨_, rfl, b, rfl, by cases b <;> exact ⟨_, rfl, k⟩⟩⟩⟩⟩⟩⟩⟩⟩⟩⟩
def secondT : List (Str × Str) := [("heard", "BadHeard"), ("seen", "BadSeen"), ("steps", "BadSteps"), ("deed", "BadDeed"), ("claim", "BadClaim"), ("no claim", "NoClaim")]
theorem sc_second : FnScope ["word", "value", "is_named"] ["word", "value", "is_named"] (defScope sSecond) := ⟨rfl, rfl, rfl, by decide +kernel, rfl, by decide +kernel, by decide +kernel⟩
theorem ok_second (F : FnP K "_law_second" sSecond f fd) (M : ∀ q ∈ secondT, MkE P w K mg base q.2 "thing") : FnOk P w K mg base CX0 3 f fd ["word", "value", "is_named"] (spMk K secondT) := by
  have M0 : MkE P w K mg base "BadHeard" "thing" := M ("heard", "BadHeard") (by simp [secondT])
  have M1 : MkE P w K mg base "BadSeen" "thing" := M ("seen", "BadSeen") (by simp [secondT])
  have M2 : MkE P w K mg base "BadSteps" "thing" := M ("steps", "BadSteps") (by simp [secondT])
  have M3 : MkE P w K mg base "BadDeed" "thing" := M ("deed", "BadDeed") (by simp [secondT])
  have M4 : MkE P w K mg base "BadClaim" "thing" := M ("claim", "BadClaim") (by simp [secondT])
  have M5 : MkE P w K mg base "NoClaim" "thing" := M ("no claim", "NoClaim") (by simp [secondT])
  refine F.ok sc_second (fun vs H Q E h => ?_) (fun cdv A outer s H vs Q E hr h => ?_)
  · obtain ⟨wd, x, v, b, rfl, _⟩ := h
    rfl
  · obtain ⟨wd, x, v, b, rfl, hin, k⟩ := h
    refine ⟨_, PSs.nox (pss_cons (ps_if (pt_cmpR op_eq (pv 0) pe_str (nomark _)) (pss_one (ps_ret (pe_ifExp (pt_val (pv 2)) (pe_mkK M0 hr (by rfl) (pv 1)) (pe_mk M0 hr (by rfl) (pv 1))))) pss_nil) (
      pss_cons (ps_if (pt_cmpR op_eq (pv 0) pe_str (nomark _)) (pss_one (ps_ret (pe_ifExp (pt_val (pv 2)) (pe_mkK M1 hr (by rfl) (pv 1)) (pe_mk M1 hr (by rfl) (pv 1))))) pss_nil) (
      pss_cons (ps_if (pt_cmpR op_eq (pv 0) pe_str (nomark _)) (pss_one (ps_ret (pe_ifExp (pt_val (pv 2)) (pe_mkK M2 hr (by rfl) (pv 1)) (pe_mk M2 hr (by rfl) (pv 1))))) pss_nil) (
      pss_cons (ps_if (pt_cmpR op_eq (pv 0) pe_str (nomark _)) (pss_one (ps_ret (pe_ifExp (pt_val (pv 2)) (pe_mkK M3 hr (by rfl) (pv 1)) (pe_mk M3 hr (by rfl) (pv 1))))) pss_nil) (
      pss_cons (ps_if (pt_cmpR op_eq (pv 0) pe_str (nomark _)) (pss_one (ps_ret (pe_ifExp (pt_val (pv 2)) (pe_mkK M4 hr (by rfl) (pv 1)) (pe_mk M4 hr (by rfl) (pv 1))))) pss_nil) (
      pss_one (ps_ret (pe_ifExp (pt_val (pv 2)) (pe_mkK M5 hr (by rfl) (pv 1)) (pe_mk M5 hr (by rfl) (pv 1)))))))))), ?_⟩
    simp only [secondT, List.mem_cons, List.not_mem_nil, or_false, Prod.mk.injEq] at hin
    rcases hin with ⟨rfl, rfl⟩ | ⟨rfl, rfl⟩ | ⟨rfl, rfl⟩ | ⟨rfl, rfl⟩ | ⟨rfl, rfl⟩ | ⟨rfl, rfl⟩
    · exact ⟨_, rfl, rfl, _, rfl, iteD rfl ⟨_, rfl, b, rfl, by cases b <;> exact ⟨_, rfl, k⟩⟩⟩
    · exact ⟨_, rfl, rfl, _, rfl, iteN (by decide +kernel) ⟨_, rfl, rfl, _, rfl, iteD rfl ⟨_, rfl, b, rfl, by cases b <;> exact ⟨_, rfl, k⟩⟩⟩⟩
    · exact ⟨_, rfl, rfl, _, rfl, iteN (by decide +kernel) ⟨_, rfl, rfl, _, rfl, iteN (by decide +kernel) ⟨_, rfl, rfl, _, rfl, iteD rfl ⟨_, rfl, b, rfl, by cases b <;> exact ⟨_, rfl, k⟩⟩⟩⟩⟩
    · exact ⟨_, rfl, rfl, _, rfl, iteN (by decide +kernel) ⟨_, rfl, rfl, _, rfl, iteN (by decide +kernel) ⟨_, rfl, rfl, _, rfl, iteN (by decide +kernel) ⟨_, rfl, rfl, _, rfl, iteD rfl ⟨_, rfl, b, rfl, by cases b <;> exact ⟨_, rfl, k⟩⟩⟩⟩⟩⟩
    · exact ⟨_, rfl, rfl, _, rfl, iteN (by decide +kernel) ⟨_, rfl, rfl, _, rfl, iteN (by decide +kernel) ⟨_, rfl, rfl, _, rfl, iteN (by decide +kernel) ⟨_, rfl, rfl, _, rfl, iteN (by decide +kernel) ⟨_, rfl, rfl, _, rfl, iteD rfl ⟨_, rfl, b, rfl, by cases b <;> exact ⟨_, rfl, k⟩⟩⟩⟩⟩⟩⟩
    · exact ⟨_, rfl, rfl, _, rfl, iteN (by decide +kernel) ⟨_, rfl, rfl, _, rfl, iteN (by decide +kernel) ⟨_, rfl, rfl, _, rfl, iteN (by decide +kernel) ⟨_, rfl, rfl, _, rfl, iteN (by decide +kernel) ⟨_, rfl, rfl, _, rfl, iteN (by decide +kernel) ⟨_, rfl, b, rfl, by cases b <;> exact ⟨_, rfl, k⟩⟩⟩⟩⟩⟩⟩
end
end K0
/-! _law_classes: which classes an error is of. -/
namespace K0
open PySem PySem.Spec PyProof.Rows L2
/-- isinstance(e, c): e at a, of the class at C; At: what is known of e -/
def rIsA (K : PySem.W.Frag) (C a : Addr) (At : Hp → Prop) : List V → Hp → VK → Prop := fun xs H Q => ∃ (c : V) (u : Value) (b : Bool), xs = [.ref a, c] ∧ At H ∧ ClsV c u ∧ PySem.W.kitOne K (.ref C) u = some b ∧ Q (.bl b) H
def rIsAT (K : PySem.W.Frag) (C a : Addr) (At : Hp → Prop) : List V → Hp → VK → Prop := fun xs H Q => ∃ (tp : Addr) (cs : List V) (us : List Value) (b : Bool), xs = [.ref a, .ref tp] ∧ H tp = some (.tup cs) ∧ At H ∧ Paired ClsV cs us ∧ PySem.W.kitAny K (.ref C) us = some b ∧ Q (.bl b) H
/-- a list of rows: pairs of a word and a truth value -/
def Rows (H : Hp) : List V → List (Str × Bool) → Prop := Paired fun v r => ∃ p, v = .ref p ∧ H p = some (.tup [.str r.1, .bl r.2])
theorem Rows.same {H H' : Hp} (s : Same H H') {xs : List V} {rs : List (Str × Bool)} (h : Rows H xs rs) : Rows H' xs rs := Paired.mapP h fun _ _ ⟨p, e, q⟩ => ⟨p, e, s _ _ q⟩
theorem Rows.app {H : Hp} : ∀ {xs ys : List V} {rs ss : List (Str × Bool)}, Rows H xs rs → Rows H ys ss → Rows H (xs ++ ys) (rs ++ ss)
  | _, _, _, _, .nil, h => h
  | _, _, _, _, .cons a t, h => .cons a (Rows.app t h)
theorem Rows.len {H : Hp} {xs : List V} {rs : List (Str × Bool)} (h : Rows H xs rs) : xs.length = rs.length := Paired.length h
section
variable {K : PySem.W.Frag} {C a : Addr} {At : Hp → Prop} {σ : L2.St}
/-- a row; rows -/
def RE (a : Addr) (At : Hp → Prop) (σ : L2.St) (te : TE) (r : Str × Bool) : Prop := σ[0]? = some (some (.ref a)) → (∀ H H', Same H H' → At H → At H') → ∀ (H : Hp) (Q : VK), At H → (∀ p H', Same H H' → H' p = some (.tup [.str r.1, .bl r.2]) → Q (.ref p) H') → te σ H Q
def RA (a : Addr) (At : Hp → Prop) (σ : L2.St) (ta : TA) (rs : List (Str × Bool)) : Prop := σ[0]? = some (some (.ref a)) → (∀ H H', Same H H' → At H → At H') → ∀ (H : Hp) (Q : List V → Hp → Prop), At H → (∀ vs H', Same H H' → Rows H' vs rs → Q vs H') → ta σ H Q
theorem row1 {w : Str} {c : V} {u : Value} {b : Bool} (hc : ClsV c u) (hk : PySem.W.kitOne K (.ref C) u = some b) : RE a At σ (tTup (tCons (tC (.str w)) (tCons (tCB (rIsA K C a At) (tCons (tVar 0) (tCons (tC c) tNil))) tNil))) (w, b) := fun h0 hm H Q hA k =>
  ⟨_, h0, c, u, b, rfl, hA, hc, hk, len_ok (by show 2 ≤ 1000; decide), fun p np => k p _ (same_new np) upd_same⟩
theorem rowT3 {w : Str} {c1 c2 c3 : V} {us : List Value} {b : Bool} (hc : Paired ClsV [c1, c2, c3] us) (hk : PySem.W.kitAny K (.ref C) us = some b) : RE a At σ (tTup (tCons (tC (.str w)) (tCons (tCB (rIsAT K C a At) (tCons (tVar 0) (tCons (tTup (tCons (tC c1) (tCons (tC c2) (tCons (tC c3) tNil)))) tNil))) tNil))) (w, b) := fun h0 hm H Q hA k =>
  ⟨_, h0, len_ok (by show 3 ≤ 1000; decide), fun q nq => ⟨q, _, us, b, rfl, upd_same, hm _ _ (same_new nq) hA, hc, hk, len_ok (by show 2 ≤ 1000; decide), fun p np => k p _ ((same_new nq).trans (same_new np)) upd_same⟩⟩
theorem rowT4 {w : Str} {c1 c2 c3 c4 : V} {us : List Value} {b : Bool} (hc : Paired ClsV [c1, c2, c3, c4] us) (hk : PySem.W.kitAny K (.ref C) us = some b) : RE a At σ (tTup (tCons (tC (.str w)) (tCons (tCB (rIsAT K C a At) (tCons (tVar 0) (tCons (tTup (tCons (tC c1) (tCons (tC c2) (tCons (tC c3) (tCons (tC c4) tNil))))) tNil))) tNil))) (w, b) := fun h0 hm H Q hA k =>
  ⟨_, h0, len_ok (by show 4 ≤ 1000; decide), fun q nq => ⟨q, _, us, b, rfl, upd_same, hm _ _ (same_new nq) hA, hc, hk, len_ok (by show 2 ≤ 1000; decide), fun p np => k p _ ((same_new nq).trans (same_new np)) upd_same⟩⟩
theorem r_nil : RA a At σ tNil [] := fun h0 hm H Q hA k => k _ H (Same.refl H) .nil
theorem r_cons {te : TE} {ta : TA} {r : Str × Bool} {rs : List (Str × Bool)} (he : RE a At σ te r) (ha : RA a At σ ta rs) : RA a At σ (tCons te ta) (r :: rs) := fun h0 hm H Q hA k =>
  he h0 hm H _ hA fun p H1 s1 q1 => ha h0 hm H1 _ (hm _ _ s1 hA) fun vs H2 s2 q2 => k _ H2 (s1.trans s2) (.cons ⟨p, rfl, s2 _ _ q1⟩ q2)
/-- found = [..] -/
theorem r_lst {ta : TA} {rs : List (Str × Bool)} {H : Hp} {Q : VK} (ha : RA a At σ ta rs) (h0 : σ[0]? = some (some (.ref a))) (hm : ∀ H H', Same H H' → At H → At H') (hA : At H) (hl : rs.length ≤ 1000)
    (k : ∀ p H' xs, Same H H' → H' p = some (.lst xs) → Rows H' xs rs → Q (.ref p) H') : tLst ta σ H Q :=
  ha h0 hm H _ hA fun vs H1 s1 q1 => ⟨len_ok (by rw [q1.len]; exact hl), fun p np => k p _ vs (s1.trans (same_new np)) upd_same (q1.same (same_new np))⟩
/-- found + [..] -/
theorem r_cat {ta : TA} {rs ss : List (Str × Bool)} {H : Hp} {Q : VK} {q : Addr} {ys : List V} {i : Nat} (ha : RA a At σ ta ss) (h0 : σ[0]? = some (some (.ref a))) (hm : ∀ H H', Same H H' → At H → At H') (hA : At H) (hi : σ[i]? = some (some (.ref q))) (hq : H q = some (.lst ys)) (hy : Rows H ys rs) (hl : rs.length + ss.length ≤ 1000) (hl2 : ss.length ≤ 1000)
    (k : ∀ p H' xs, Same H H' → H' p = some (.lst xs) → Rows H' xs (rs ++ ss) → Q (.ref p) H') : tOp rCat (tVar i) (tLst ta) σ H Q :=
  ⟨_, hi, r_lst ha h0 hm hA hl2 fun p H1 xs s1 hp hx => ⟨q, p, ys, xs, rfl, rfl, s1 _ _ hq, hp, len_ok (by rw [hy.len, hx.len]; exact hl), fun r nr => k r _ _ (s1.trans (same_new nr)) upd_same (((hy.same s1).app hx).same (same_new nr))⟩⟩
end
def rowsOf (x : Str) : List (Str × Bool) := [("rings", decide (x = "BadRings")), ("place", decide (x = "BadPlace")), ("lot", decide (x = "BadLot")), ("order", decide (x = "BadOrder")), ("number", decide (x = "BadNumber")), ("count", decide (x = "BadCount")), ("row", decide (x = "BadRow")), ("whole", decide (x = "BadWhole")), ("items", decide (x = "BadItems")), ("heard", decide (x = "BadHeard")), ("seen", decide (x = "BadSeen")), ("steps", decide (x = "BadSteps")), ("deed", decide (x = "BadDeed")), ("claim", decide (x = "BadClaim")), ("no claim", decide (x = "NoClaim")), ("unfit", decide (x = "Unfit")), ("many", decide (x = "TooMany")), ("unkept", decide (x = "Unkept")), ("text", decide (x = "BadText")), ("nought", decide (x = "Nought")), ("undo", decide (x = "NothingToUndo")), ("redo", decide (x = "NothingToRedo")), ("base", true), ("error", true), ("value", false), ("lookup", false), ("number error", false), ("others", false)]
def wordOf : List (Str × Str) := [("BadRings", "rings"), ("BadPlace", "place"), ("BadLot", "lot"), ("BadOrder", "order"), ("BadNumber", "number"), ("BadCount", "count"), ("BadRow", "row"), ("BadWhole", "whole"), ("BadItems", "items"), ("BadHeard", "heard"), ("BadSeen", "seen"), ("BadSteps", "steps"), ("BadDeed", "deed"), ("BadClaim", "claim"), ("NoClaim", "no claim"), ("Unfit", "unfit"), ("TooMany", "many"), ("Unkept", "unkept"), ("BadText", "text"), ("Nought", "nought"), ("NothingToUndo", "undo"), ("NothingToRedo", "redo")]
/-- what the rows that are true say -/
def saidOf (rs : List (Str × Bool)) : List Str := (rs.filter (·.2)).map (·.1)
theorem said_all : ∀ q ∈ wordOf, saidOf (rowsOf q.1) = [q.2, "base", "error"] := by decide +kernel
/-- the promise: At tells what is known of the error -/
def spCls (At : Hp → Prop) (a : Addr) (x : Str) : Sp := fun vs H Q _ => vs = [.ref a] ∧ At H ∧ ∀ p H', Same H H' → H' p = some (.lst ((saidOf (rowsOf x)).map V.str)) → Q (.ref p) H'
/-- the facts that the walk leans on -/
structure Kit (K : PySem.W.Frag) (mg : Str → Option Value) : Prop where
  own : ∀ x y : Str, x ∈ wordOf.map (·.1) → y ∈ wordOf.map (·.1) → PySem.W.kitOne K (.ref (He.ga K x)) (.ref (He.ga K y)) = some (decide (x = y))
  root : ∀ x : Str, x ∈ wordOf.map (·.1) → PySem.W.kitOne K (.ref (He.ga K x)) (.ref (He.ga K "RingError")) = some true
  blt : ∀ (x : Str) (T : String) (b : Bool), x ∈ wordOf.map (·.1) → PySem.W.kitMeta T = true → K0.exTail.contains (.type T) = b → PySem.W.kitOne K (.ref (He.ga K x)) (.type T) = some b
  gm : ∀ x : Str, x ∈ (("RingError" : Str) :: wordOf.map (·.1)) → mg x = some (.ref (He.ga K x))
abbrev RW0 (x : Str) : List (Str × Bool) := [("rings", decide (x = "BadRings")), ("place", decide (x = "BadPlace")), ("lot", decide (x = "BadLot"))]
abbrev RW1 (x : Str) : List (Str × Bool) := [("order", decide (x = "BadOrder")), ("number", decide (x = "BadNumber")), ("count", decide (x = "BadCount"))]
abbrev RW2 (x : Str) : List (Str × Bool) := [("row", decide (x = "BadRow")), ("whole", decide (x = "BadWhole")), ("items", decide (x = "BadItems"))]
abbrev RW3 (x : Str) : List (Str × Bool) := [("heard", decide (x = "BadHeard")), ("seen", decide (x = "BadSeen")), ("steps", decide (x = "BadSteps"))]
abbrev RW4 (x : Str) : List (Str × Bool) := [("deed", decide (x = "BadDeed")), ("claim", decide (x = "BadClaim")), ("no claim", decide (x = "NoClaim"))]
abbrev RW5 (x : Str) : List (Str × Bool) := [("unfit", decide (x = "Unfit")), ("many", decide (x = "TooMany")), ("unkept", decide (x = "Unkept"))]
abbrev RW6 (x : Str) : List (Str × Bool) := [("text", decide (x = "BadText")), ("nought", decide (x = "Nought")), ("undo", decide (x = "NothingToUndo"))]
abbrev RW7 (x : Str) : List (Str × Bool) := [("redo", decide (x = "NothingToRedo")), ("base", true), ("error", true)]
abbrev RW8 (x : Str) : List (Str × Bool) := [("value", false), ("lookup", false)]
abbrev RW9 (x : Str) : List (Str × Bool) := [("number error", false)]
abbrev RW10 (x : Str) : List (Str × Bool) := [("others", false)]
theorem said_cons {r : Str × Bool} {rs : List (Str × Bool)} : saidOf (r :: rs) = if r.2 = true then r.1 :: saidOf rs else saidOf rs := by
  unfold saidOf
  rw [List.filter_cons]
  split <;> rfl
theorem said_app (rs : List (Str × Bool)) (r : Str × Bool) : saidOf (rs ++ [r]) = if r.2 = true then saidOf rs ++ [r.1] else saidOf rs := by
  unfold saidOf
  rw [List.filter_append, List.map_append]
  by_cases h : r.2 = true
  · rw [if_pos h, List.filter_cons, if_pos h]
    rfl
  · rw [if_neg h, List.filter_cons, if_neg h]
    simp
/-- the reading of [word for word, it in found if it] -/
theorem cls_end {K : PySem.W.Frag} {q D : Addr} {ys : List V} {rs : List (Str × Bool)} {H : Hp} {Q : VK} {σ : L2.St} (hr : Rows H ys rs) (hq : H q = some (.lst ys)) (nD : H D = none) (hσ : σ.length = 4 := by rfl) (hl : rs.length ≤ 1000 := by exact Nat.le_of_ble_eq_true rfl)
    (k : ∀ p H', Same H H' → H' p = some (.lst ((saidOf rs).map V.str)) → Q (.ref p) H') :
    ∃ W : Nat → Nat → Hp → Prop, (∃ m, W 0 m (upd H D (.lst []))) ∧ ∀ i m H1, W i m H1 → ((Itl K q).stop i H1 ∧ Q (.ref D) H1) ∨ ((Itl K q).go i H1 ∧ ∃ Nx : Hp → Prop, (∀ H', Nx H' → ∃ m', m' < m ∧ W (i + 1) m' H') ∧ ∀ x H', (Itl K q).yld i H1 x H' → gTup K 2 (gCons (gName 2) (gCons (gName 3) gNil)) x (wipe σ [2, 3]) H' fun σ2 H2 => wipe σ2 [2, 3] = wipe σ [2, 3] ∧ tB (tVar 3) σ2 H2 fun b H3 =>
      if b = true then tVar 2 σ2 H3 fun y H4 => ∃ acc, H4 D = some (.lst acc) ∧ acc.length < sizeLine ∧ Nx (upd H4 D (.lst (acc ++ [y]))) else Nx H3) := by
  have hqD : q ≠ D := ne_of_none hq nD
  have hlen := hr.len
  refine lc_list (K := K) (a := q) (xs := ys) (fun i H1 => ∃ acc, H1 = upd H D (.lst acc) ∧ acc = (saidOf (rs.take i)).map V.str ∧ acc.length ≤ i) ⟨[], rfl, rfl, Nat.le_refl _⟩ (fun i H1 _ ⟨acc, e, _⟩ => by rw [e]; exact SqL.of (by rw [upd_ne hqD]; exact hq)) ?_ ?_
  · rintro i y H1 hi ⟨acc, rfl, ea, hal⟩
    have hil : i < rs.length := by
      have := (List.getElem?_eq_some_iff.mp hi).1
      omega
    obtain ⟨p, rfl, hp⟩ : ∃ p, y = .ref p ∧ H p = some (.tup [.str rs[i].1, .bl rs[i].2]) := by
      have key : ∀ {xs : List V} {ss : List (Str × Bool)}, Rows H xs ss → ∀ (j : Nat) (z : V) (hj : j < ss.length), xs[j]? = some z → ∃ p, z = .ref p ∧ H p = some (.tup [.str ss[j].1, .bl ss[j].2]) := by
        intro xs ss h
        induction h with
        | nil => intro j z hj; exact absurd hj (by simp)
        | cons h1 h2 ih =>
          intro j z hj e
          cases j with
          | zero =>
            obtain ⟨p, e1, e2⟩ := h1
            simp at e
            exact ⟨p, e ▸ e1, e2⟩
          | succ j => exact ih j z (by simpa using hj) (by simpa using e)
      exact key hr i y hil hi
    have hpD : p ≠ D := ne_of_none hp nD
    obtain ⟨σ0, σ1, σ2, σ3, rfl⟩ : ∃ a b c d, σ = [a, b, c, d] := by
      match σ, hσ with
      | [a, b, c, d], _ => exact ⟨a, b, c, d, rfl⟩
    refine ⟨p, _, rfl, SqT.of (by rw [upd_ne hpD]; exact hp), rfl, _, _, rfl, _, _, rfl, rfl, rfl, ?_⟩
    refine ⟨_, rfl, _, rfl, ?_⟩
    have et : rs.take (i + 1) = rs.take i ++ [rs[i]] := by rw [List.take_succ, List.getElem?_eq_getElem hil]; rfl
    by_cases hb : rs[i].2 = true
    · rw [hb]
      refine iteT ⟨_, rfl, acc, upd_same, small1000 (by omega), acc ++ [.str rs[i].1], upd_upd, ?_, by rw [List.length_append]; show acc.length + 1 ≤ i + 1; omega⟩
      rw [et, said_app, if_pos hb, List.map_append, ea]
      rfl
    · have hb' : rs[i].2 = false := by simpa using hb
      rw [hb']
      refine iteF ⟨acc, rfl, ?_, by omega⟩
      rw [et, said_app, if_neg hb, ea]
  · rintro H1 ⟨acc, rfl, ea, _⟩
    refine k D _ (same_new nD) ?_
    rw [upd_same, ea, hlen, List.take_length]
theorem scCls : FnScope ["e", "found", "word", "it"] ["e"] (defScope sClasses) := ⟨rfl, rfl, rfl, by decide +kernel, rfl, by decide +kernel, by decide +kernel⟩
theorem rows_all (x : Str) : (((((((((((RW0 x) ++ (RW1 x)) ++ (RW2 x)) ++ (RW3 x)) ++ (RW4 x)) ++ (RW5 x)) ++ (RW6 x)) ++ (RW7 x)) ++ (RW8 x)) ++ (RW9 x)) ++ (RW10 x)) = rowsOf x := rfl
section
variable {P : Program} {w : World} {K : PySem.W.Frag} {mg : Str → Option Value} {base : Heap} {f : Addr} {fd : FuncData}
/-- what is known of an error that is tracked -/
def AtE (a C : Addr) (d : Option Addr) (H : Hp) : Prop := H a = some (exo a C d) ∧ ∀ dd, d = some dd → ∃ fs, H dd = some (exd dd fs)
theorem AtE.same {a C : Addr} {d : Option Addr} : ∀ H H', Same H H' → AtE a C d H → AtE a C d H' := fun H H' s h => ⟨s _ _ h.1, fun dd e => by
  obtain ⟨fs, q⟩ := h.2 dd e
  exact ⟨fs, s _ _ q⟩⟩
theorem ok_classes (F : FnP K "_law_classes" sClasses f fd) (KT : Kit K mg) (B : Bl mg) {x : Str} {a : Addr} {d : Option Addr} (hx : x ∈ wordOf.map (·.1)) (T : ErrC K (He.ga K x)) : FnOk P w K mg base CX0 1 f fd ["e"] (spCls (AtE a (He.ga K x) d) a x) := by
  have G_BadRings : mg "BadRings" = some (.ref (He.ga K "BadRings")) := KT.gm _ (by decide +kernel)
  have G_BadPlace : mg "BadPlace" = some (.ref (He.ga K "BadPlace")) := KT.gm _ (by decide +kernel)
  have G_BadLot : mg "BadLot" = some (.ref (He.ga K "BadLot")) := KT.gm _ (by decide +kernel)
  have G_BadOrder : mg "BadOrder" = some (.ref (He.ga K "BadOrder")) := KT.gm _ (by decide +kernel)
  have G_BadNumber : mg "BadNumber" = some (.ref (He.ga K "BadNumber")) := KT.gm _ (by decide +kernel)
  have G_BadCount : mg "BadCount" = some (.ref (He.ga K "BadCount")) := KT.gm _ (by decide +kernel)
  have G_BadRow : mg "BadRow" = some (.ref (He.ga K "BadRow")) := KT.gm _ (by decide +kernel)
  have G_BadWhole : mg "BadWhole" = some (.ref (He.ga K "BadWhole")) := KT.gm _ (by decide +kernel)
  have G_BadItems : mg "BadItems" = some (.ref (He.ga K "BadItems")) := KT.gm _ (by decide +kernel)
  have G_BadHeard : mg "BadHeard" = some (.ref (He.ga K "BadHeard")) := KT.gm _ (by decide +kernel)
  have G_BadSeen : mg "BadSeen" = some (.ref (He.ga K "BadSeen")) := KT.gm _ (by decide +kernel)
  have G_BadSteps : mg "BadSteps" = some (.ref (He.ga K "BadSteps")) := KT.gm _ (by decide +kernel)
  have G_Nought : mg "Nought" = some (.ref (He.ga K "Nought")) := KT.gm _ (by decide +kernel)
  have G_Unfit : mg "Unfit" = some (.ref (He.ga K "Unfit")) := KT.gm _ (by decide +kernel)
  have G_TooMany : mg "TooMany" = some (.ref (He.ga K "TooMany")) := KT.gm _ (by decide +kernel)
  have G_BadDeed : mg "BadDeed" = some (.ref (He.ga K "BadDeed")) := KT.gm _ (by decide +kernel)
  have G_BadClaim : mg "BadClaim" = some (.ref (He.ga K "BadClaim")) := KT.gm _ (by decide +kernel)
  have G_Unkept : mg "Unkept" = some (.ref (He.ga K "Unkept")) := KT.gm _ (by decide +kernel)
  have G_NoClaim : mg "NoClaim" = some (.ref (He.ga K "NoClaim")) := KT.gm _ (by decide +kernel)
  have G_NothingToUndo : mg "NothingToUndo" = some (.ref (He.ga K "NothingToUndo")) := KT.gm _ (by decide +kernel)
  have G_NothingToRedo : mg "NothingToRedo" = some (.ref (He.ga K "NothingToRedo")) := KT.gm _ (by decide +kernel)
  have G_BadText : mg "BadText" = some (.ref (He.ga K "BadText")) := KT.gm _ (by decide +kernel)
  have G_RingError : mg "RingError" = some (.ref (He.ga K "RingError")) := KT.gm _ (by decide +kernel)
  refine F.ok scCls (fun vs H Q E h => ?_) (fun cdv A outer s H vs Q E hr h => ?_)
  · obtain ⟨rfl, _⟩ := h
    rfl
  · obtain ⟨rfl, hA, k⟩ := h
    have hm := @AtE.same a (He.ga K x) d
    have ci : CallR (Cx.nox (cxOf CX0 P w K mg base ["e", "found", "word", "it"] "_law_classes" (defScope sClasses) f cdv A outer s H E)) (.builtin "isinstance") (rIsA K (He.ga K x) a (AtE a (He.ga K x) d)) := fun pins s σ H xs us Q I r ⟨c, u, b, e, hA, hc, hk, q⟩ =>
      call_isiE (cls1 K) pins s σ H xs us Q I r ⟨a, _, d, c, u, b, e, hc, T, hA.1, hA.2, hk, q⟩
    have ciT : CallR (Cx.nox (cxOf CX0 P w K mg base ["e", "found", "word", "it"] "_law_classes" (defScope sClasses) f cdv A outer s H E)) (.builtin "isinstance") (rIsAT K (He.ga K x) a (AtE a (He.ga K x) d)) := fun pins s σ H xs us Q I r ⟨tp, cs, ws, b, e, ht, hA, hc, hk, q⟩ =>
      call_isiET (cls1 K) pins s σ H xs us Q I r ⟨a, _, d, tp, cs, ws, b, e, ht, hc, T, hA.1, hA.2, hk, q⟩
    refine ⟨_, PSs.nox (pss_cons (ps_set (i := 1) scCls.nd rfl (Or.inl rfl) (pe_lst (pa_cons (pe_tup (pa_cons pe_str (pa_cons (pe_callB ci (by rfl) (B "isinstance" (by decide +kernel)) PyProof.Rows.boot_isinstance (pa_cons (pv 0) (pa_cons (pe_glob (v := .ref (He.ga K "BadRings")) (by rfl) G_BadRings rfl) pa_nil))) pa_nil))) (pa_cons (pe_tup (pa_cons pe_str (pa_cons (pe_callB ci (by rfl) (B "isinstance" (by decide +kernel)) PyProof.Rows.boot_isinstance (pa_cons (pv 0) (pa_cons (pe_glob (v := .ref (He.ga K "BadPlace")) (by rfl) G_BadPlace rfl) pa_nil))) pa_nil))) (pa_cons (pe_tup (pa_cons pe_str (pa_cons (pe_callB ci (by rfl) (B "isinstance" (by decide +kernel)) PyProof.Rows.boot_isinstance (pa_cons (pv 0) (pa_cons (pe_glob (v := .ref (He.ga K "BadLot")) (by rfl) G_BadLot rfl) pa_nil))) pa_nil))) pa_nil))))) (
      pss_cons (ps_set (i := 1) scCls.nd rfl (Or.inl rfl) (pe_op op_cat (pv 1) (pe_lst (pa_cons (pe_tup (pa_cons pe_str (pa_cons (pe_callB ci (by rfl) (B "isinstance" (by decide +kernel)) PyProof.Rows.boot_isinstance (pa_cons (pv 0) (pa_cons (pe_glob (v := .ref (He.ga K "BadOrder")) (by rfl) G_BadOrder rfl) pa_nil))) pa_nil))) (pa_cons (pe_tup (pa_cons pe_str (pa_cons (pe_callB ci (by rfl) (B "isinstance" (by decide +kernel)) PyProof.Rows.boot_isinstance (pa_cons (pv 0) (pa_cons (pe_glob (v := .ref (He.ga K "BadNumber")) (by rfl) G_BadNumber rfl) pa_nil))) pa_nil))) (pa_cons (pe_tup (pa_cons pe_str (pa_cons (pe_callB ci (by rfl) (B "isinstance" (by decide +kernel)) PyProof.Rows.boot_isinstance (pa_cons (pv 0) (pa_cons (pe_glob (v := .ref (He.ga K "BadCount")) (by rfl) G_BadCount rfl) pa_nil))) pa_nil))) pa_nil)))))) (
      pss_cons (ps_set (i := 1) scCls.nd rfl (Or.inl rfl) (pe_op op_cat (pv 1) (pe_lst (pa_cons (pe_tup (pa_cons pe_str (pa_cons (pe_callB ci (by rfl) (B "isinstance" (by decide +kernel)) PyProof.Rows.boot_isinstance (pa_cons (pv 0) (pa_cons (pe_glob (v := .ref (He.ga K "BadRow")) (by rfl) G_BadRow rfl) pa_nil))) pa_nil))) (pa_cons (pe_tup (pa_cons pe_str (pa_cons (pe_callB ci (by rfl) (B "isinstance" (by decide +kernel)) PyProof.Rows.boot_isinstance (pa_cons (pv 0) (pa_cons (pe_glob (v := .ref (He.ga K "BadWhole")) (by rfl) G_BadWhole rfl) pa_nil))) pa_nil))) (pa_cons (pe_tup (pa_cons pe_str (pa_cons (pe_callB ci (by rfl) (B "isinstance" (by decide +kernel)) PyProof.Rows.boot_isinstance (pa_cons (pv 0) (pa_cons (pe_glob (v := .ref (He.ga K "BadItems")) (by rfl) G_BadItems rfl) pa_nil))) pa_nil))) pa_nil)))))) (
      pss_cons (ps_set (i := 1) scCls.nd rfl (Or.inl rfl) (pe_op op_cat (pv 1) (pe_lst (pa_cons (pe_tup (pa_cons pe_str (pa_cons (pe_callB ci (by rfl) (B "isinstance" (by decide +kernel)) PyProof.Rows.boot_isinstance (pa_cons (pv 0) (pa_cons (pe_glob (v := .ref (He.ga K "BadHeard")) (by rfl) G_BadHeard rfl) pa_nil))) pa_nil))) (pa_cons (pe_tup (pa_cons pe_str (pa_cons (pe_callB ci (by rfl) (B "isinstance" (by decide +kernel)) PyProof.Rows.boot_isinstance (pa_cons (pv 0) (pa_cons (pe_glob (v := .ref (He.ga K "BadSeen")) (by rfl) G_BadSeen rfl) pa_nil))) pa_nil))) (pa_cons (pe_tup (pa_cons pe_str (pa_cons (pe_callB ci (by rfl) (B "isinstance" (by decide +kernel)) PyProof.Rows.boot_isinstance (pa_cons (pv 0) (pa_cons (pe_glob (v := .ref (He.ga K "BadSteps")) (by rfl) G_BadSteps rfl) pa_nil))) pa_nil))) pa_nil)))))) (
      pss_cons (ps_set (i := 1) scCls.nd rfl (Or.inl rfl) (pe_op op_cat (pv 1) (pe_lst (pa_cons (pe_tup (pa_cons pe_str (pa_cons (pe_callB ci (by rfl) (B "isinstance" (by decide +kernel)) PyProof.Rows.boot_isinstance (pa_cons (pv 0) (pa_cons (pe_glob (v := .ref (He.ga K "BadDeed")) (by rfl) G_BadDeed rfl) pa_nil))) pa_nil))) (pa_cons (pe_tup (pa_cons pe_str (pa_cons (pe_callB ci (by rfl) (B "isinstance" (by decide +kernel)) PyProof.Rows.boot_isinstance (pa_cons (pv 0) (pa_cons (pe_glob (v := .ref (He.ga K "BadClaim")) (by rfl) G_BadClaim rfl) pa_nil))) pa_nil))) (pa_cons (pe_tup (pa_cons pe_str (pa_cons (pe_callB ci (by rfl) (B "isinstance" (by decide +kernel)) PyProof.Rows.boot_isinstance (pa_cons (pv 0) (pa_cons (pe_glob (v := .ref (He.ga K "NoClaim")) (by rfl) G_NoClaim rfl) pa_nil))) pa_nil))) pa_nil)))))) (
      pss_cons (ps_set (i := 1) scCls.nd rfl (Or.inl rfl) (pe_op op_cat (pv 1) (pe_lst (pa_cons (pe_tup (pa_cons pe_str (pa_cons (pe_callB ci (by rfl) (B "isinstance" (by decide +kernel)) PyProof.Rows.boot_isinstance (pa_cons (pv 0) (pa_cons (pe_glob (v := .ref (He.ga K "Unfit")) (by rfl) G_Unfit rfl) pa_nil))) pa_nil))) (pa_cons (pe_tup (pa_cons pe_str (pa_cons (pe_callB ci (by rfl) (B "isinstance" (by decide +kernel)) PyProof.Rows.boot_isinstance (pa_cons (pv 0) (pa_cons (pe_glob (v := .ref (He.ga K "TooMany")) (by rfl) G_TooMany rfl) pa_nil))) pa_nil))) (pa_cons (pe_tup (pa_cons pe_str (pa_cons (pe_callB ci (by rfl) (B "isinstance" (by decide +kernel)) PyProof.Rows.boot_isinstance (pa_cons (pv 0) (pa_cons (pe_glob (v := .ref (He.ga K "Unkept")) (by rfl) G_Unkept rfl) pa_nil))) pa_nil))) pa_nil)))))) (
      pss_cons (ps_set (i := 1) scCls.nd rfl (Or.inl rfl) (pe_op op_cat (pv 1) (pe_lst (pa_cons (pe_tup (pa_cons pe_str (pa_cons (pe_callB ci (by rfl) (B "isinstance" (by decide +kernel)) PyProof.Rows.boot_isinstance (pa_cons (pv 0) (pa_cons (pe_glob (v := .ref (He.ga K "BadText")) (by rfl) G_BadText rfl) pa_nil))) pa_nil))) (pa_cons (pe_tup (pa_cons pe_str (pa_cons (pe_callB ci (by rfl) (B "isinstance" (by decide +kernel)) PyProof.Rows.boot_isinstance (pa_cons (pv 0) (pa_cons (pe_glob (v := .ref (He.ga K "Nought")) (by rfl) G_Nought rfl) pa_nil))) pa_nil))) (pa_cons (pe_tup (pa_cons pe_str (pa_cons (pe_callB ci (by rfl) (B "isinstance" (by decide +kernel)) PyProof.Rows.boot_isinstance (pa_cons (pv 0) (pa_cons (pe_glob (v := .ref (He.ga K "NothingToUndo")) (by rfl) G_NothingToUndo rfl) pa_nil))) pa_nil))) pa_nil)))))) (
      pss_cons (ps_set (i := 1) scCls.nd rfl (Or.inl rfl) (pe_op op_cat (pv 1) (pe_lst (pa_cons (pe_tup (pa_cons pe_str (pa_cons (pe_callB ci (by rfl) (B "isinstance" (by decide +kernel)) PyProof.Rows.boot_isinstance (pa_cons (pv 0) (pa_cons (pe_glob (v := .ref (He.ga K "NothingToRedo")) (by rfl) G_NothingToRedo rfl) pa_nil))) pa_nil))) (pa_cons (pe_tup (pa_cons pe_str (pa_cons (pe_callB ci (by rfl) (B "isinstance" (by decide +kernel)) PyProof.Rows.boot_isinstance (pa_cons (pv 0) (pa_cons (pe_glob (v := .ref (He.ga K "RingError")) (by rfl) G_RingError rfl) pa_nil))) pa_nil))) (pa_cons (pe_tup (pa_cons pe_str (pa_cons (pe_callB ci (by rfl) (B "isinstance" (by decide +kernel)) PyProof.Rows.boot_isinstance (pa_cons (pv 0) (pa_cons (pe_bltn (v := .ty "Exception") (by rfl) (B "Exception" (by decide +kernel)) (by decide +kernel) rfl) pa_nil))) pa_nil))) pa_nil)))))) (
      pss_cons (ps_set (i := 1) scCls.nd rfl (Or.inl rfl) (pe_op op_cat (pv 1) (pe_lst (pa_cons (pe_tup (pa_cons pe_str (pa_cons (pe_callB ci (by rfl) (B "isinstance" (by decide +kernel)) PyProof.Rows.boot_isinstance (pa_cons (pv 0) (pa_cons (pe_bltn (v := .ty "ValueError") (by rfl) (B "ValueError" (by decide +kernel)) (by decide +kernel) rfl) pa_nil))) pa_nil))) (pa_cons (pe_tup (pa_cons pe_str (pa_cons (pe_callB ciT (by rfl) (B "isinstance" (by decide +kernel)) PyProof.Rows.boot_isinstance (pa_cons (pv 0) (pa_cons (pe_tup (pa_cons (pe_bltn (v := .ty "LookupError") (by rfl) (B "LookupError" (by decide +kernel)) (by decide +kernel) rfl) (pa_cons (pe_bltn (v := .ty "KeyError") (by rfl) (B "KeyError" (by decide +kernel)) (by decide +kernel) rfl) (pa_cons (pe_bltn (v := .ty "IndexError") (by rfl) (B "IndexError" (by decide +kernel)) (by decide +kernel) rfl) pa_nil)))) pa_nil))) pa_nil))) pa_nil))))) (
      pss_cons (ps_set (i := 1) scCls.nd rfl (Or.inl rfl) (pe_op op_cat (pv 1) (pe_lst (pa_cons (pe_tup (pa_cons pe_str (pa_cons (pe_callB ciT (by rfl) (B "isinstance" (by decide +kernel)) PyProof.Rows.boot_isinstance (pa_cons (pv 0) (pa_cons (pe_tup (pa_cons (pe_bltn (v := .ty "ArithmeticError") (by rfl) (B "ArithmeticError" (by decide +kernel)) (by decide +kernel) rfl) (pa_cons (pe_bltn (v := .ty "ZeroDivisionError") (by rfl) (B "ZeroDivisionError" (by decide +kernel)) (by decide +kernel) rfl) (pa_cons (pe_bltn (v := .ty "OverflowError") (by rfl) (B "OverflowError" (by decide +kernel)) (by decide +kernel) rfl) pa_nil)))) pa_nil))) pa_nil))) pa_nil)))) (
      pss_cons (ps_set (i := 1) scCls.nd rfl (Or.inl rfl) (pe_op op_cat (pv 1) (pe_lst (pa_cons (pe_tup (pa_cons pe_str (pa_cons (pe_callB ciT (by rfl) (B "isinstance" (by decide +kernel)) PyProof.Rows.boot_isinstance (pa_cons (pv 0) (pa_cons (pe_tup (pa_cons (pe_bltn (v := .ty "TypeError") (by rfl) (B "TypeError" (by decide +kernel)) (by decide +kernel) rfl) (pa_cons (pe_bltn (v := .ty "RuntimeError") (by rfl) (B "RuntimeError" (by decide +kernel)) (by decide +kernel) rfl) (pa_cons (pe_bltn (v := .ty "NotImplementedError") (by rfl) (B "NotImplementedError" (by decide +kernel)) (by decide +kernel) rfl) (pa_cons (pe_bltn (v := .ty "AttributeError") (by rfl) (B "AttributeError" (by decide +kernel)) (by decide +kernel) rfl) pa_nil))))) pa_nil))) pa_nil))) pa_nil)))) (
      pss_one (ps_ret (pe_lc (own := [("word", 2), ("it", 3)]) (g := gTup K 2 (gCons (gName 2) (gCons (gName 3) gNil))) (tt := tB (tVar 3)) (te := tVar 2) rfl scCls.nd (pi_list (pv 1)) (blkOk_by (own := [("word", 2), ("it", 3)]) (N := ["e", "found", "word", "it"]) (sc := defScope sClasses) (by decide +kernel)) (fun _ _ _ _ _ => pg_tup rfl (pgs_cons (pg_name (i := 2) scCls.nd rfl (Or.inl rfl)) (pgs_cons (pg_name (i := 3) scCls.nd rfl (Or.inl rfl)) pgs_nil))) (fun _ _ _ _ _ => pts_one (pt_val (pv 3))) (fun _ _ _ _ _ => pv 2))))))))))))))), ?_⟩
    have ko : ∀ y : Str, y ∈ wordOf.map (·.1) → PySem.W.kitOne K (.ref (He.ga K x)) (.ref (He.ga K y)) = some (decide (x = y)) := fun y hy => KT.own x y hx hy
    have kr := KT.root x hx
    have kb : ∀ (T : String) (b : Bool), PySem.W.kitMeta T = true → K0.exTail.contains (.type T) = b → PySem.W.kitOne K (.ref (He.ga K x)) (.type T) = some b := fun T b h1 h2 => KT.blt x T b hx h1 h2
    refine seq_asg ?_
    refine r_lst (rs := (RW0 x)) ?a0 rfl hm hA (Nat.le_of_ble_eq_true rfl) ?b0
    case a0 => exact (r_cons (row1 (.own _) (ko "BadRings" (by decide +kernel))) (r_cons (row1 (.own _) (ko "BadPlace" (by decide +kernel))) (r_cons (row1 (.own _) (ko "BadLot" (by decide +kernel))) r_nil)))
    intro p0 H0 x0 s0 h0 r0
    refine seq_asg ?_
    refine r_cat (rs := (RW0 x)) (ss := (RW1 x)) ?a1 rfl hm (hm _ _ s0 hA) rfl h0 r0 (Nat.le_of_ble_eq_true rfl) (Nat.le_of_ble_eq_true rfl) ?b1
    case a1 => exact (r_cons (row1 (.own _) (ko "BadOrder" (by decide +kernel))) (r_cons (row1 (.own _) (ko "BadNumber" (by decide +kernel))) (r_cons (row1 (.own _) (ko "BadCount" (by decide +kernel))) r_nil)))
    intro p1 H1 x1 t1 h1 r1
    have s1 := s0.trans t1
    refine seq_asg ?_
    refine r_cat (rs := ((RW0 x) ++ (RW1 x))) (ss := (RW2 x)) ?a2 rfl hm (hm _ _ s1 hA) rfl h1 r1 (Nat.le_of_ble_eq_true rfl) (Nat.le_of_ble_eq_true rfl) ?b2
    case a2 => exact (r_cons (row1 (.own _) (ko "BadRow" (by decide +kernel))) (r_cons (row1 (.own _) (ko "BadWhole" (by decide +kernel))) (r_cons (row1 (.own _) (ko "BadItems" (by decide +kernel))) r_nil)))
    intro p2 H2 x2 t2 h2 r2
    have s2 := s1.trans t2
    refine seq_asg ?_
    refine r_cat (rs := (((RW0 x) ++ (RW1 x)) ++ (RW2 x))) (ss := (RW3 x)) ?a3 rfl hm (hm _ _ s2 hA) rfl h2 r2 (Nat.le_of_ble_eq_true rfl) (Nat.le_of_ble_eq_true rfl) ?b3
    case a3 => exact (r_cons (row1 (.own _) (ko "BadHeard" (by decide +kernel))) (r_cons (row1 (.own _) (ko "BadSeen" (by decide +kernel))) (r_cons (row1 (.own _) (ko "BadSteps" (by decide +kernel))) r_nil)))
    intro p3 H3 x3 t3 h3 r3
    have s3 := s2.trans t3
    refine seq_asg ?_
    refine r_cat (rs := ((((RW0 x) ++ (RW1 x)) ++ (RW2 x)) ++ (RW3 x))) (ss := (RW4 x)) ?a4 rfl hm (hm _ _ s3 hA) rfl h3 r3 (Nat.le_of_ble_eq_true rfl) (Nat.le_of_ble_eq_true rfl) ?b4
    case a4 => exact (r_cons (row1 (.own _) (ko "BadDeed" (by decide +kernel))) (r_cons (row1 (.own _) (ko "BadClaim" (by decide +kernel))) (r_cons (row1 (.own _) (ko "NoClaim" (by decide +kernel))) r_nil)))
    intro p4 H4 x4 t4 h4 r4
    have s4 := s3.trans t4
    refine seq_asg ?_
    refine r_cat (rs := (((((RW0 x) ++ (RW1 x)) ++ (RW2 x)) ++ (RW3 x)) ++ (RW4 x))) (ss := (RW5 x)) ?a5 rfl hm (hm _ _ s4 hA) rfl h4 r4 (Nat.le_of_ble_eq_true rfl) (Nat.le_of_ble_eq_true rfl) ?b5
    case a5 => exact (r_cons (row1 (.own _) (ko "Unfit" (by decide +kernel))) (r_cons (row1 (.own _) (ko "TooMany" (by decide +kernel))) (r_cons (row1 (.own _) (ko "Unkept" (by decide +kernel))) r_nil)))
    intro p5 H5 x5 t5 h5 r5
    have s5 := s4.trans t5
    refine seq_asg ?_
    refine r_cat (rs := ((((((RW0 x) ++ (RW1 x)) ++ (RW2 x)) ++ (RW3 x)) ++ (RW4 x)) ++ (RW5 x))) (ss := (RW6 x)) ?a6 rfl hm (hm _ _ s5 hA) rfl h5 r5 (Nat.le_of_ble_eq_true rfl) (Nat.le_of_ble_eq_true rfl) ?b6
    case a6 => exact (r_cons (row1 (.own _) (ko "BadText" (by decide +kernel))) (r_cons (row1 (.own _) (ko "Nought" (by decide +kernel))) (r_cons (row1 (.own _) (ko "NothingToUndo" (by decide +kernel))) r_nil)))
    intro p6 H6 x6 t6 h6 r6
    have s6 := s5.trans t6
    refine seq_asg ?_
    refine r_cat (rs := (((((((RW0 x) ++ (RW1 x)) ++ (RW2 x)) ++ (RW3 x)) ++ (RW4 x)) ++ (RW5 x)) ++ (RW6 x))) (ss := (RW7 x)) ?a7 rfl hm (hm _ _ s6 hA) rfl h6 r6 (Nat.le_of_ble_eq_true rfl) (Nat.le_of_ble_eq_true rfl) ?b7
    case a7 => exact (r_cons (row1 (.own _) (ko "NothingToRedo" (by decide +kernel))) (r_cons (row1 (.own _) kr) (r_cons (row1 (.ty _) (kb "Exception" true (by decide +kernel) (by decide +kernel))) r_nil)))
    intro p7 H7 x7 t7 h7 r7
    have s7 := s6.trans t7
    refine seq_asg ?_
    refine r_cat (rs := ((((((((RW0 x) ++ (RW1 x)) ++ (RW2 x)) ++ (RW3 x)) ++ (RW4 x)) ++ (RW5 x)) ++ (RW6 x)) ++ (RW7 x))) (ss := (RW8 x)) ?a8 rfl hm (hm _ _ s7 hA) rfl h7 r7 (Nat.le_of_ble_eq_true rfl) (Nat.le_of_ble_eq_true rfl) ?b8
    case a8 => exact (r_cons (row1 (.ty _) (kb "ValueError" false (by decide +kernel) (by decide +kernel))) (r_cons (rowT3 (.cons (.ty _) (.cons (.ty _) (.cons (.ty _) .nil))) (kitAny_cons (kb "LookupError" false (by decide +kernel) (by decide +kernel)) (fun _ => (kitAny_cons (kb "KeyError" false (by decide +kernel) (by decide +kernel)) (fun _ => (kitAny_cons (kb "IndexError" false (by decide +kernel) (by decide +kernel)) (fun _ => kitAny_nil) (fun z => Bool.noConfusion z))) (fun z => Bool.noConfusion z))) (fun z => Bool.noConfusion z))) r_nil))
    intro p8 H8 x8 t8 h8 r8
    have s8 := s7.trans t8
    refine seq_asg ?_
    refine r_cat (rs := (((((((((RW0 x) ++ (RW1 x)) ++ (RW2 x)) ++ (RW3 x)) ++ (RW4 x)) ++ (RW5 x)) ++ (RW6 x)) ++ (RW7 x)) ++ (RW8 x))) (ss := (RW9 x)) ?a9 rfl hm (hm _ _ s8 hA) rfl h8 r8 (Nat.le_of_ble_eq_true rfl) (Nat.le_of_ble_eq_true rfl) ?b9
    case a9 => exact (r_cons (rowT3 (.cons (.ty _) (.cons (.ty _) (.cons (.ty _) .nil))) (kitAny_cons (kb "ArithmeticError" false (by decide +kernel) (by decide +kernel)) (fun _ => (kitAny_cons (kb "ZeroDivisionError" false (by decide +kernel) (by decide +kernel)) (fun _ => (kitAny_cons (kb "OverflowError" false (by decide +kernel) (by decide +kernel)) (fun _ => kitAny_nil) (fun z => Bool.noConfusion z))) (fun z => Bool.noConfusion z))) (fun z => Bool.noConfusion z))) r_nil)
    intro p9 H9 x9 t9 h9 r9
    have s9 := s8.trans t9
    refine seq_asg ?_
    refine r_cat (rs := ((((((((((RW0 x) ++ (RW1 x)) ++ (RW2 x)) ++ (RW3 x)) ++ (RW4 x)) ++ (RW5 x)) ++ (RW6 x)) ++ (RW7 x)) ++ (RW8 x)) ++ (RW9 x))) (ss := (RW10 x)) ?a10 rfl hm (hm _ _ s9 hA) rfl h9 r9 (Nat.le_of_ble_eq_true rfl) (Nat.le_of_ble_eq_true rfl) ?b10
    case a10 => exact (r_cons (rowT4 (.cons (.ty _) (.cons (.ty _) (.cons (.ty _) (.cons (.ty _) .nil)))) (kitAny_cons (kb "TypeError" false (by decide +kernel) (by decide +kernel)) (fun _ => (kitAny_cons (kb "RuntimeError" false (by decide +kernel) (by decide +kernel)) (fun _ => (kitAny_cons (kb "NotImplementedError" false (by decide +kernel) (by decide +kernel)) (fun _ => (kitAny_cons (kb "AttributeError" false (by decide +kernel) (by decide +kernel)) (fun _ => kitAny_nil) (fun z => Bool.noConfusion z))) (fun z => Bool.noConfusion z))) (fun z => Bool.noConfusion z))) (fun z => Bool.noConfusion z))) r_nil)
    intro p10 H10 x10 t10 h10 r10
    have s10 := s9.trans t10
    have rr : Rows H10 x10 (rowsOf x) := r10
    have sE := s10
    refine ⟨_, rfl, p10, rfl, ⟨_, SqL.of h10⟩, fun D nD => ?_⟩
    exact cls_end rr h10 nD rfl (Nat.le_of_ble_eq_true rfl) (fun p H' s' hp => k p H' (sE.trans s') hp)
end
end K0
/-! The law's checks. -/
namespace K0
open PySem PySem.Spec PyProof.Rows L2
/-! ### how long what is shown can be -/
def Bnd (n k : Nat) (d : PyData) : Prop := d.showable = true ∧ d.depth ≤ k ∧ d.shown.length ≤ n
theorem Bnd.le {n k n' k' : Nat} {d : PyData} (h : Bnd n k d) (h1 : n ≤ n') (h2 : k ≤ k') : Bnd n' k' d := ⟨h.1, Nat.le_trans h.2.1 h2, Nat.le_trans h.2.2 h1⟩
theorem Bnd.small {n k : Nat} {d : PyData} (h : Bnd n k d) (h1 : n ≤ 100000) (h2 : k ≤ 40) : Small d := ⟨h.1, Nat.le_trans h.2.1 h2, Nat.le_trans h.2.2 h1⟩
theorem shown_all : ∀ ds : List PyData, PyData.shownAll ds = ds.map PyData.shown
  | [] => by simp only [PyData.shownAll, List.map_nil]
  | d :: r => by simp only [PyData.shownAll, List.map_cons, shown_all r]
theorem bnd_all {n k : Nat} : ∀ ds : List PyData, (∀ d ∈ ds, Bnd n k d) → PyData.showableAll ds = true ∧ PyData.depthAll ds ≤ k ∧ ((ds.map PyData.shown).map (·.length)).sum ≤ ds.length * n
  | [], _ => ⟨by simp only [PyData.showableAll], by simp only [PyData.depthAll]; omega, by simp⟩
  | d :: r, h => by
    obtain ⟨h1, h2, h3⟩ := h d List.mem_cons_self
    obtain ⟨q1, q2, q3⟩ := bnd_all r fun e he => h e (List.mem_cons_of_mem _ he)
    refine ⟨by simp only [PyData.showableAll, h1, q1, Bool.and_self], by simp only [PyData.depthAll]; omega, ?_⟩
    rw [List.map_cons, List.map_cons, List.sum_cons, List.length_cons, Nat.succ_mul]
    omega
theorem bnd_list {n k : Nat} {ds : List PyData} (h : ∀ d ∈ ds, Bnd n k d) : Bnd (ds.length * n + 2 * ds.length + 3) (k + 1) (.list ds) := by
  obtain ⟨q1, q2, q3⟩ := bnd_all ds h
  refine ⟨by simp only [PyData.showable, q1], by simp only [PyData.depth]; omega, ?_⟩
  have z := listText_len_le (ds.map PyData.shown)
  simp only [PyData.shown, shown_all]
  rw [List.length_map] at z
  omega
theorem bnd_tuple {n k : Nat} {ds : List PyData} (h : ∀ d ∈ ds, Bnd n k d) : Bnd (ds.length * n + 2 * ds.length + 3) (k + 1) (.tuple ds) := by
  obtain ⟨q1, q2, q3⟩ := bnd_all ds h
  refine ⟨by simp only [PyData.showable, q1], by simp only [PyData.depth]; omega, ?_⟩
  have z := tupleText_len_le (ds.map PyData.shown)
  simp only [PyData.shown, shown_all]
  rw [List.length_map] at z
  omega
theorem bnd_tiny {d : PyData} (h : tinyB d = true) : Bnd 200 5 d := by
  unfold tinyB at h
  obtain ⟨h1, h⟩ := He.ba h
  obtain ⟨h2, h3⟩ := He.ba h
  exact ⟨h1, of_decide_eq_true h2, of_decide_eq_true h3⟩
/-! ### slots that stand -/
def Fix (n : Nat) (σ σ' : L2.St) : Prop := σ'.length = σ.length ∧ ∀ i, i < n → σ'[i]? = σ[i]?
theorem Fix.refl {n : Nat} {σ : L2.St} : Fix n σ σ := ⟨rfl, fun _ _ => rfl⟩
theorem Fix.trans {n : Nat} {σ σ1 σ2 : L2.St} (a : Fix n σ σ1) (b : Fix n σ1 σ2) : Fix n σ σ2 := ⟨b.1.trans a.1, fun i h => (b.2 i h).trans (a.2 i h)⟩
theorem Fix.set {n j : Nat} {σ σ1 : L2.St} {v : Option V} (a : Fix n σ σ1) (h : n ≤ j) : Fix n σ (σ1.set j v) := ⟨by rw [List.length_set]; exact a.1, fun i hi => by rw [List.getElem?_set_ne (by omega)]; exact a.2 i hi⟩
theorem Fix.le {n m : Nat} {σ σ1 : L2.St} (a : Fix n σ σ1) (h : m ≤ n) : Fix m σ σ1 := ⟨a.1, fun i hi => a.2 i (by omega)⟩
theorem set_at {σ : L2.St} {j : Nat} {v : V} (h : j < σ.length) : (σ.set j (some v))[j]? = some (some v) := List.getElem?_set_self h
/-! ### which classes: one promise for all -/
def spClsU (K : PySem.W.Frag) : Sp := fun vs H Q E => ∃ (a : Addr) (x : Str) (d : Option Addr), x ∈ wordOf.map (·.1) ∧ ErrC K (He.ga K x) ∧ spCls (AtE a (He.ga K x) d) a x vs H Q E
theorem said_list : ∀ q ∈ wordOf, SeqAt.shaped (.list [.str q.2, .str "base", .str "error"]) = true ∧ PyData.eqv (.list [.str q.2, .str "base", .str "error"]) (.list [.str q.2, .str "base", .str "error"]) = true := by decide +kernel
section
variable {P : Program} {w : World} {K : PySem.W.Frag} {mg : Str → Option Value} {base : Heap} {f : Addr} {fd : FuncData}
theorem ok_classesU (F : FnP K "_law_classes" sClasses f fd) (KT : Kit K mg) (B : Bl mg) : FnOk P w K mg base CX0 1 f fd ["e"] (spClsU K) :=
  ⟨fun vs H Q E ⟨a, x, d, hx, T, h⟩ => (ok_classes (P := P) (w := w) (base := base) F KT B hx T).len vs H Q E h, fun A outer s H args us vs Q E hr e0 hb r ⟨a, x, d, hx, T, h⟩ => (ok_classes F KT B hx T).run A outer s H args us vs Q E hr e0 hb r h⟩
end
/-- the facts of the classes with one value -/
structure Cls3 (K : PySem.W.Frag) (x f : Str) : Prop where
  T : ErrC K (He.ga K x)
  TF : ErrF K (He.ga K x) f
/-- e = _law_first(..); if repr(e.thing) != text or _law_classes(e) != [word, 'base', 'error']: return False -/
def t_check (K : PySem.W.Frag) (T : List (Str × Str)) : TS := tSeq (tAsg (tCall (spMk K T) [] E0 (tCons (tVar 6) (tCons (tVar 3) (tCons (tVar 5) tNil)))) (gName 7))
  (tSeq (tIfS (tOr (tTest (tOp rNe (tCB rRepr (tCons (tFldE K "thing" (tVar 7)) tNil)) (tVar 4))) (tTest (tOp (rNeD K) (tCall (spClsU K) [] E0 (tCons (tVar 7) tNil)) (tLst (tCons (tVar 6) (tCons (tC (.str "base")) (tCons (tC (.str "error")) tNil)))))))
    (tRet (tC (.bl false))) tNext) tNext)
theorem orF {A B : Prop} {c : Prop} [Decidable c] (hc : c) (h : B) : if (!decide c) = true then A else B := by
  rw [decide_eq_true hc]
  exact iteF h
/-- what the answer of _law_classes reads as -/
theorem dp_said {K : PySem.W.Frag} {H : Hp} {p : Addr} {wd : Str} (h : H p = some (.lst ([wd, "base", "error"].map V.str))) : Dp K H (.ref p) (.list [.str wd, .str "base", .str "error"]) :=
  .lst (SqL.of h) (.cons (.str _) (.cons (.str _) (.cons (.str _) .nil)))
/-- _law_classes(e) != [word, 'base', 'error'] is False -/
theorem classes_ok {K : PySem.W.Frag} {te tw : TE} {σ : L2.St} {H : Hp} {Q : Bool → Hp → Prop} {a : Addr} {x wd : Str} {d : Option Addr} (hin : (x, wd) ∈ wordOf) (T : ErrC K (He.ga K x)) (he : ∀ H R, R (.ref a) H → te σ H R) (hw : ∀ H R, R (.str wd) H → tw σ H R) (hA : AtE a (He.ga K x) d H)
    (k : ∀ H', Same H H' → Q false H') : tTest (tOp (rNeD K) (tCall (spClsU K) [] E0 (tCons te tNil)) (tLst (tCons tw (tCons (tC (.str "base")) (tCons (tC (.str "error")) tNil))))) σ H Q := by
  refine he _ _ ⟨a, x, d, List.mem_map_of_mem hin, T, rfl, hA, fun p H1 s1 hp => hw _ _ ⟨len_ok (by show 3 ≤ 1000; decide), fun q nq => ?_⟩⟩
  rw [said_all _ hin] at hp
  obtain ⟨z1, z2⟩ := said_list _ hin
  refine ⟨_, _, dp_said ((same_new nq) _ _ hp), dp_said (wd := wd) upd_same, z1, z1, false, ?_, k _ (s1.trans (same_new nq))⟩
  rw [z2]
  rfl
theorem check_ok {K : PySem.W.Frag} {T : List (Str × Str)} {σ : L2.St} {D : Ends} {H : Hp} {wd x : Str} {v : V} {b : Bool} {dd : PyData} (hin : (wd, x) ∈ T) (hwo : (x, wd) ∈ wordOf) (C : Cls3 K x "thing") (hl : σ.length = 13) (h3 : σ[3]? = some (some v)) (h4 : σ[4]? = some (some (.str dd.shown))) (h5 : σ[5]? = some (some (.bl b)))
    (h6 : σ[6]? = some (some (.str wd))) (hv : Dq H v dd) (hs : Small dd) (k : ∀ e H', Same H H' → D.nx (σ.set 7 (some e)) H') : t_check K T D σ H := by
  refine ⟨_, h6, _, h3, _, h5, wd, x, v, b, rfl, hin, fun a d na nd da => ?_⟩
  have s1 : Same H (upd (upd H d (exd d [("thing", v)])) a (exo a (He.ga K x) (some d))) := fun c o e => by
    rw [upd_ne (ne_of_none e na), upd_ne (ne_of_none e nd)]
    exact e
  have ha : (upd (upd H d (exd d [("thing", v)])) a (exo a (He.ga K x) (some d))) a = some (exo a (He.ga K x) (some d)) := upd_same
  have hd : (upd (upd H d (exd d [("thing", v)])) a (exo a (He.ga K x) (some d))) d = some (exd d [("thing", v)]) := by rw [upd_ne da, upd_same]
  generalize upd (upd H d (exd d [("thing", v)])) a (exo a (He.ga K x) (some d)) = H1 at s1 ha hd
  have g7 : (σ.set 7 (some (.ref a)))[7]? = some (some (.ref a)) := set_at (by omega)
  have g4 : (σ.set 7 (some (.ref a)))[4]? = some (some (.str dd.shown)) := by rw [List.getElem?_set_ne (by omega)]; exact h4
  have g6 : (σ.set 7 (some (.ref a)))[6]? = some (some (.str wd)) := by rw [List.getElem?_set_ne (by omega)]; exact h6
  refine ⟨_, g7, a, _, d, _, v, rfl, C.T, C.TF, ha, hd, by simp [List.lookup], v, dd, rfl, hv.same s1, hs, _, g4, rfl, _, rfl, orF rfl ?_⟩
  refine classes_ok (a := a) (x := x) (wd := wd) (d := some d) hwo C.T (fun H R r => ⟨_, g7, r⟩) (fun H R r => ⟨_, g6, r⟩) ⟨ha, fun dd e => by cases e; exact ⟨_, hd⟩⟩ fun H2 s2 => iteF (k _ _ (s1.trans s2))
/-! ### for word in (..) -/
def strsTA : List Str → TA
  | [] => tNil
  | x :: r => tCons (tC (.str x)) (strsTA r)
theorem strs_ok {σ : L2.St} {H : Hp} : ∀ (ws : List Str) (Q : List V → Hp → Prop), Q (ws.map V.str) H → strsTA ws σ H Q
  | [], Q, h => h
  | x :: r, Q, h => strs_ok r (fun vs H' => Q (V.str x :: vs) H') h
def t_loop (K : PySem.W.Frag) (T : List (Str × Str)) : TS := tFor (iTup K (tTup (strsTA (T.map (·.1))))) (gName 6) (t_check K T)
theorem loop_ok {K : PySem.W.Frag} {T : List (Str × Str)} {σ : L2.St} {D : Ends} {H : Hp} {v : V} {b : Bool} {dd : PyData} (hT : ∀ q ∈ T, (q.2, q.1) ∈ wordOf ∧ Cls3 K q.2 "thing") (hTl : T.length ≤ 1000) (hl : σ.length = 13) (h3 : σ[3]? = some (some v)) (h4 : σ[4]? = some (some (.str dd.shown))) (h5 : σ[5]? = some (some (.bl b)))
    (hv : Dq H v dd) (hs : Small dd) (k : ∀ σ' H', Fix 6 σ σ' → Same H H' → D.nx σ' H') : t_loop K T D σ H := by
  refine strs_ok _ _ ⟨len_ok (by rw [List.length_map, List.length_map]; exact hTl), fun p np => ⟨p, rfl, ⟨_, SqT.of upd_same⟩, ?_⟩⟩
  have hp : upd H p (.tup ((T.map (·.1)).map V.str)) p = some (.tup ((T.map (·.1)).map V.str)) := upd_same
  have s0 : Same H (upd H p (.tup ((T.map (·.1)).map V.str))) := same_new np
  generalize upd H p (.tup ((T.map (·.1)).map V.str)) = H0 at hp s0
  refine for_tup (K := K) (a := p) (xs := (T.map (·.1)).map V.str) (fun i σ' H' => Fix 6 σ σ' ∧ Same H0 H') ⟨.refl, Same.refl _⟩ (fun i σ' H' _ h => SqT.of (h.2 _ _ hp)) ?_ (fun σ' H' h => k σ' H' h.1 (s0.trans h.2))
  rintro i y σ' H' hi ⟨hf, hs'⟩
  obtain ⟨q, hq, rfl⟩ : ∃ q, q ∈ T ∧ y = .str q.1 := by
    rw [List.getElem?_map, List.getElem?_map] at hi
    cases e : T[i]? with
    | none =>
      rw [e] at hi
      cases hi
    | some q =>
      rw [e] at hi
      exact ⟨q, List.mem_of_getElem? e, (Option.some.inj hi).symm⟩
  obtain ⟨hw, hC⟩ := hT q hq
  have l' : σ'.length = 13 := hf.1.trans hl
  refine check_ok (wd := q.1) (x := q.2) (v := v) (b := b) (dd := dd) hq hw hC (by rw [List.length_set]; exact l') ?_ ?_ ?_ (set_at (by omega)) ((hv.same s0).same hs') hs fun e H2 s2 => ⟨((hf.set (by omega)).set (by omega)), hs'.trans s2⟩
  · rw [List.getElem?_set_ne (by omega)]; exact (hf.2 3 (by omega)).trans h3
  · rw [List.getElem?_set_ne (by omega)]; exact (hf.2 4 (by omega)).trans h4
  · rw [List.getElem?_set_ne (by omega)]; exact (hf.2 5 (by omega)).trans h5
end K0
namespace K0
open PySem PySem.Spec PyProof.Rows L2
/-- [word, 'base', 'error'] -/
abbrev L3 (wd : Str) : PyData := .list [.str wd, .str "base", .str "error"]
abbrev tSaid (K : PySem.W.Frag) (te : TE) : TE := tCall (spClsU K) [] E0 (tCons te tNil)
theorem cls_call {K : PySem.W.Frag} {te : TE} {σ : L2.St} {H : Hp} {Q : VK} {a : Addr} {x wd : Str} {d : Option Addr} (hin : (x, wd) ∈ wordOf) (T : ErrC K (He.ga K x)) (he : ∀ R : VK, R (.ref a) H → te σ H R) (hA : AtE a (He.ga K x) d H)
    (k : ∀ p H', Same H H' → H' p = some (.lst ([wd, "base", "error"].map V.str)) → Q (.ref p) H') : tSaid K te σ H Q := by
  refine he _ ⟨a, x, d, List.mem_map_of_mem hin, T, rfl, hA, fun p H1 s1 hp => ?_⟩
  rw [said_all _ hin] at hp
  exact k p H1 s1 hp
/-- the comprehension [[word, 'base', 'error'] for word in ws] -/
def t_words (K : PySem.W.Frag) (ws : List Str) : TE := tLc (iTup K (tTup (strsTA ws))) (gName 6) tYes (tLst (tCons (tVar 6) (tCons (tC (.str "base")) (tCons (tC (.str "error")) tNil)))) [6]
def Said3 (D : Addr) (H : Hp) : List V → List Str → Prop := Paired fun v wd => ∃ r, v = .ref r ∧ r ≠ D ∧ H r = some (.lst ([wd, "base", "error"].map V.str))
theorem Said3.app {D : Addr} {H : Hp} : ∀ {xs ys : List V} {rs ss : List Str}, Said3 D H xs rs → Said3 D H ys ss → Said3 D H (xs ++ ys) (rs ++ ss)
  | _, _, _, _, .nil, h => h
  | _, _, _, _, .cons a t, h => .cons a (Said3.app t h)
theorem Said3.dp {D : Addr} {H : Hp} {K : PySem.W.Frag} : ∀ {xs : List V} {rs : List Str}, Said3 D H xs rs → DpAll K H xs (rs.map L3)
  | _, _, .nil => .nil
  | _, _, .cons ⟨r, e, _, h⟩ t => by
    subst e
    exact .cons (dp_said h) (Said3.dp t)
theorem words_ok {K : PySem.W.Frag} {ws : List Str} {σ : L2.St} {H : Hp} {Q : VK} (hl : σ.length = 13) (hw : ws.length ≤ 100) (k : ∀ p H', Same H H' → Dp K H' (.ref p) (.list (ws.map L3)) → Q (.ref p) H') : t_words K ws σ H Q := by
  refine strs_ok _ _ ⟨len_ok (by rw [List.length_map]; omega), fun p np => ⟨p, rfl, ⟨_, SqT.of upd_same⟩, fun D nD => ?_⟩⟩
  have hp : upd H p (.tup (ws.map V.str)) p = some (.tup (ws.map V.str)) := upd_same
  have s0 : Same H (upd H p (.tup (ws.map V.str))) := same_new np
  generalize upd H p (.tup (ws.map V.str)) = H0 at hp s0 nD
  refine lc_tup (K := K) (a := p) (xs := ws.map V.str) (fun i H' => Same H0 H' ∧ ∃ acc, H' D = some (.lst acc) ∧ acc.length ≤ i ∧ Said3 D H' acc (ws.take i)) ⟨same_new nD, [], upd_same, Nat.le_refl _, .nil⟩ (fun i H' _ h => SqT.of (h.1 _ _ hp)) ?_ ?_
  · rintro i y H1 hi ⟨s1, acc, hD, hal, hsd⟩
    obtain ⟨wd, hwd, rfl⟩ : ∃ wd, ws[i]? = some wd ∧ y = .str wd := by
      rw [List.getElem?_map] at hi
      cases e : ws[i]? with
      | none =>
        rw [e] at hi
        cases hi
      | some q =>
        rw [e] at hi
        exact ⟨q, rfl, (Option.some.inj hi).symm⟩
    have hil : i < ws.length := (List.getElem?_eq_some_iff.mp hwd).1
    have hw6 : 6 < (wipe σ [6]).length := by
      rw [wipe_length, hl]
      omega
    refine ⟨?_, ?_⟩
    · show ((σ.set 6 none).set 6 (some (V.str wd))).set 6 none = σ.set 6 none
      rw [List.set_set, List.set_set]
    refine iteT (B := Same H0 H1 ∧ ∃ acc, H1 D = some (HO.lst acc) ∧ acc.length ≤ i + 1 ∧ Said3 D H1 acc (ws.take (i + 1))) ?_
    refine ⟨_, set_at hw6, len_ok (by show 3 ≤ 1000; decide), fun r nr => ?_⟩
    have nrD : r ≠ D := fun z => by
      rw [z, hD] at nr
      cases nr
    refine ⟨acc, by rw [upd_ne nrD.symm]; exact hD, small1000 (by omega), ?_, acc ++ [.ref r], upd_same, by rw [List.length_append]; show acc.length + 1 ≤ i + 1; omega, ?_⟩
    · intro b o e
      have e1 := s1 b o e
      rw [upd_ne (ne_of_none e nD), upd_ne (ne_of_none e1 nr)]
      exact e1
    · rw [List.take_succ, hwd]
      refine Said3.app (Paired.mapP hsd ?_) (.cons ⟨r, rfl, nrD, ?_⟩ .nil)
      · rintro v wd' ⟨q, e, hq, hh⟩
        exact ⟨q, e, hq, by rw [upd_ne hq, upd_ne (ne_of_none hh nr)]; exact hh⟩
      · rw [upd_ne nrD, upd_same]
        rfl
  · rintro H1 ⟨s1, acc, hD, _, hsd⟩
    rw [List.length_map, List.take_length] at hsd
    exact k D H1 (s0.trans s1) (.lst (SqL.of hD) hsd.dp)
/-- a new error in slot j -/
def mkR (K : PySem.W.Frag) (x f : Str) : TE := fun σ H Q => tVar 3 σ H fun v H1 => MkQ (He.ga K x) f v H1 Q
abbrev tMk (K : PySem.W.Frag) (x f : Str) (j : Nat) : TS := tAsg (tIf (tB (tVar 5)) (mkR K x f) (mkR K x f)) (gName j)
theorem mk_ok {K : PySem.W.Frag} {x f : Str} {j : Nat} {σ : L2.St} {H : Hp} {D : Ends} {u : TS} {v : V} {b : Bool} (h3 : σ[3]? = some (some v)) (h5 : σ[5]? = some (some (.bl b)))
    (k : ∀ a d H', Same H H' → H' a = some (exo a (He.ga K x) (some d)) → H' d = some (exd d [(f, v)]) → u D (σ.set j (some (.ref a))) H') : tSeq (tMk K x f j) u D σ H := by
  have key : mkR K x f σ H fun z H1 => u D (σ.set j (some z)) H1 := by
    refine ⟨v, h3, fun a d na nd da => k a d _ (fun c o e => ?_) upd_same (by rw [upd_ne da, upd_same])⟩
    rw [upd_ne (ne_of_none e na), upd_ne (ne_of_none e nd)]
    exact e
  refine seq_asg ⟨_, h5, b, rfl, ?_⟩
  cases b
  · exact iteF key
  · exact iteT key
/-- if repr((unfit.certificate, many.most, unkept.claim, at.at)) != repr((value,) * 4): return False -/
def t_four (K : PySem.W.Frag) : TS := tIfS (tTest (tOp rNe (tCB rRepr (tCons (tTup (tCons (tFldE K "certificate" (tVar 8)) (tCons (tFldE K "most" (tVar 9)) (tCons (tFldE K "claim" (tVar 10)) (tCons (tFldE K "at" (tVar 11)) tNil))))) tNil)) (tCB rRepr (tCons (tOp (rRepT K) (tTup (tCons (tVar 3) tNil)) (tC (.int 4))) tNil)))) (tRet (tC (.bl false))) tNext
def t_told (K : PySem.W.Frag) : TS := tAsg (tLst (tCons (tSaid K (tVar 8)) (tCons (tSaid K (tVar 9)) (tCons (tSaid K (tVar 10)) (tCons (tSaid K (tVar 11)) tNil))))) (gName 12)
def t_iftold (K : PySem.W.Frag) : TS := tIfS (tTest (tOp (rNeD K) (tVar 12) (t_words K ["unfit", "many", "unkept", "text"]))) (tRet (tC (.bl false))) tNext
def t_inner (K : PySem.W.Frag) : TS := tSeq (t_loop K firstT) (tSeq (t_loop K secondT) (tSeq (tMk K "Unfit" "certificate" 8) (tSeq (tMk K "TooMany" "most" 9) (tSeq (tMk K "Unkept" "claim" 10) (tSeq (tMk K "BadText" "at" 11) (tSeq (t_four K) (tSeq (t_told K) (tSeq (t_iftold K) tNext))))))))
/-- what the law leans on -/
structure All3 (K : PySem.W.Frag) : Prop where
  first : ∀ q ∈ firstT, (q.2, q.1) ∈ wordOf ∧ Cls3 K q.2 "thing"
  second : ∀ q ∈ secondT, (q.2, q.1) ∈ wordOf ∧ Cls3 K q.2 "thing"
  unfit : Cls3 K "Unfit" "certificate"
  many : Cls3 K "TooMany" "most"
  unkept : Cls3 K "Unkept" "claim"
  text : Cls3 K "BadText" "at"
theorem four_words : SeqAt.shaped (.list ((["unfit", "many", "unkept", "text"] : List Str).map L3)) = true ∧ PyData.eqv (.list ((["unfit", "many", "unkept", "text"] : List Str).map L3)) (.list ((["unfit", "many", "unkept", "text"] : List Str).map L3)) = true := by decide +kernel
theorem get_set_ne {σ : L2.St} {i j : Nat} {v : Option V} {x : Option (Option V)} (h : σ[i]? = x) (n : i ≠ j) : (σ.set j v)[i]? = x := by
  rw [List.getElem?_set_ne (Ne.symm n)]
  exact h
theorem inner_ok {K : PySem.W.Frag} {σ : L2.St} {D : Ends} {H : Hp} {v : V} {b : Bool} {dd : PyData} (A : All3 K) (hl : σ.length = 13) (h3 : σ[3]? = some (some v)) (h4 : σ[4]? = some (some (.str dd.shown))) (h5 : σ[5]? = some (some (.bl b)))
    (hv : Dq H v dd) (hs : Bnd 2000 10 dd) (k : ∀ σ' H', Fix 5 σ σ' → Same H H' → D.nx σ' H') : t_inner K D σ H := by
  have hsm := hs.small (by decide) (by decide)
  refine loop_ok A.first (by decide) hl h3 h4 h5 hv hsm fun σ1 H1 f1 s1 => ?_
  have l1 : σ1.length = 13 := f1.1.trans hl
  refine loop_ok (v := v) (b := b) (dd := dd) A.second (by decide) l1 ((f1.2 3 (by omega)).trans h3) ((f1.2 4 (by omega)).trans h4) ((f1.2 5 (by omega)).trans h5) (hv.same s1) hsm fun σ2 H2 f2 s2 => ?_
  have f3 := f1.trans f2
  have l2 : σ2.length = 13 := f3.1.trans hl
  have g3 : σ2[3]? = some (some v) := (f3.2 3 (by omega)).trans h3
  have g5 : σ2[5]? = some (some (.bl b)) := (f3.2 5 (by omega)).trans h5
  have s12 := s1.trans s2
  refine mk_ok (v := v) (b := b) g3 g5 fun a8 d8 H3 s3 e8 q8 => ?_
  refine mk_ok (v := v) (b := b) (get_set_ne g3 (by omega)) (get_set_ne g5 (by omega)) fun a9 d9 H4 s4 e9 q9 => ?_
  refine mk_ok (v := v) (b := b) (get_set_ne (get_set_ne g3 (by omega)) (by omega)) (get_set_ne (get_set_ne g5 (by omega)) (by omega)) fun aA dA H5 s5 eA qA => ?_
  refine mk_ok (v := v) (b := b) (get_set_ne (get_set_ne (get_set_ne g3 (by omega)) (by omega)) (by omega)) (get_set_ne (get_set_ne (get_set_ne g5 (by omega)) (by omega)) (by omega)) fun aB dB H6 s6 eB qB => ?_
  have s36 := (s4.trans s5).trans s6
  have s46 := s5.trans s6
  have f6 : Fix 6 σ ((((σ2.set 8 (some (.ref a8))).set 9 (some (.ref a9))).set 10 (some (.ref aA))).set 11 (some (.ref aB))) := (((f3.set (by omega)).set (by omega)).set (by omega)).set (by omega)
  have z8 : ((((σ2.set 8 (some (.ref a8))).set 9 (some (.ref a9))).set 10 (some (.ref aA))).set 11 (some (.ref aB)))[8]? = some (some (.ref a8)) := get_set_ne (get_set_ne (get_set_ne (set_at (by omega)) (by omega)) (by omega)) (by omega)
  have z9 : ((((σ2.set 8 (some (.ref a8))).set 9 (some (.ref a9))).set 10 (some (.ref aA))).set 11 (some (.ref aB)))[9]? = some (some (.ref a9)) := get_set_ne (get_set_ne (set_at (by rw [List.length_set]; omega)) (by omega)) (by omega)
  have zA : ((((σ2.set 8 (some (.ref a8))).set 9 (some (.ref a9))).set 10 (some (.ref aA))).set 11 (some (.ref aB)))[10]? = some (some (.ref aA)) := get_set_ne (set_at (by rw [List.length_set, List.length_set]; omega)) (by omega)
  have zB : ((((σ2.set 8 (some (.ref a8))).set 9 (some (.ref a9))).set 10 (some (.ref aA))).set 11 (some (.ref aB)))[11]? = some (some (.ref aB)) := set_at (by rw [List.length_set, List.length_set, List.length_set]; omega)
  have w3 : ((((σ2.set 8 (some (.ref a8))).set 9 (some (.ref a9))).set 10 (some (.ref aA))).set 11 (some (.ref aB)))[3]? = some (some v) := (f6.2 3 (by omega)).trans h3
  generalize (((σ2.set 8 (some (.ref a8))).set 9 (some (.ref a9))).set 10 (some (.ref aA))).set 11 (some (.ref aB)) = σ3 at f6 z8 z9 zA zB w3
  have l3 : σ3.length = 13 := f6.1.trans hl
  have s06 : Same H H6 := s12.trans (s3.trans s36)
  have v6 := hv.same s06
  -- the four values, shown
  refine seq_if ?_
  refine ⟨_, z8, a8, _, d8, _, v, rfl, A.unfit.T, A.unfit.TF, s36 _ _ e8, s36 _ _ q8, by simp [List.lookup], _, z9, a9, _, d9, _, v, rfl, A.many.T, A.many.TF, s46 _ _ e9, s46 _ _ q9, by simp [List.lookup],
    _, zA, aA, _, dA, _, v, rfl, A.unkept.T, A.unkept.TF, s6 _ _ eA, s6 _ _ qA, by simp [List.lookup], _, zB, aB, _, dB, _, v, rfl, A.text.T, A.text.TF, eB, qB, by simp [List.lookup], len_ok (by show 4 ≤ 1000; decide), fun p np => ?_⟩
  have sp := same_new (o := .tup [v, v, v, v]) np
  have b4 : Small (.tuple [dd, dd, dd, dd]) := (bnd_tuple (n := 2000) (k := 10) (ds := [dd, dd, dd, dd]) (by simp; exact hs)).small (Nat.le_of_ble_eq_true rfl) (by decide)
  refine ⟨_, .tuple [dd, dd, dd, dd], rfl, .tup upd_same (.cons (v6.same sp) (.cons (v6.same sp) (.cons (v6.same sp) (.cons (v6.same sp) .nil)))), b4, _, w3, len_ok (by show 1 ≤ 1000; decide), fun q nq => ?_⟩
  refine ⟨q, 4, [v], rfl, rfl, SqT.of upd_same, List.cons_ne_nil _ _, by decide, by decide, by show 1 ≤ 1000; decide, fun r nr => ?_⟩
  have sr := sp.trans ((same_new (o := .tup [v]) nq).trans (same_new (o := .tup (List.replicate (4 : Int).toNat [v]).flatten) nr))
  refine ⟨_, .tuple [dd, dd, dd, dd], rfl, .tup (xs := [v, v, v, v]) upd_same (.cons (v6.same sr) (.cons (v6.same sr) (.cons (v6.same sr) (.cons (v6.same sr) .nil)))), b4, rfl, _, rfl, orF rfl ?_⟩
  generalize upd (upd (upd H6 p (.tup [v, v, v, v])) q (.tup [v])) r (.tup (List.replicate (4 : Int).toNat [v]).flatten) = H7 at sr
  have sZ := s36.trans sr
  -- told
  show tSeq (t_told K) _ _ _ _
  refine seq_asg ?_
  refine cls_call (a := a8) (x := "Unfit") (wd := "unfit") (d := some d8) (by decide +kernel) A.unfit.T (fun R h => ⟨_, z8, h⟩) ⟨sZ _ _ e8, fun x e => by cases e; exact ⟨_, sZ _ _ q8⟩⟩ fun p1 J1 t1 m1 => ?_
  refine cls_call (a := a9) (x := "TooMany") (wd := "many") (d := some d9) (by decide +kernel) A.many.T (fun R h => ⟨_, z9, h⟩) ⟨(s46.trans (sr.trans t1)) _ _ e9, fun x e => by cases e; exact ⟨_, (s46.trans (sr.trans t1)) _ _ q9⟩⟩ fun p2 J2 t2 m2 => ?_
  refine cls_call (a := aA) (x := "Unkept") (wd := "unkept") (d := some dA) (by decide +kernel) A.unkept.T (fun R h => ⟨_, zA, h⟩) ⟨(s6.trans (sr.trans (t1.trans t2))) _ _ eA, fun x e => by cases e; exact ⟨_, (s6.trans (sr.trans (t1.trans t2))) _ _ qA⟩⟩ fun p3 J3 t3 m3 => ?_
  refine cls_call (a := aB) (x := "BadText") (wd := "text") (d := some dB) (by decide +kernel) A.text.T (fun R h => ⟨_, zB, h⟩) ⟨(sr.trans (t1.trans (t2.trans t3))) _ _ eB, fun x e => by cases e; exact ⟨_, (sr.trans (t1.trans (t2.trans t3))) _ _ qB⟩⟩ fun p4 J4 t4 m4 => ?_
  refine ⟨len_ok (by show 4 ≤ 1000; decide), fun u nu => ?_⟩
  have su := same_new (o := .lst [.ref p1, .ref p2, .ref p3, .ref p4]) nu
  have t24 := t2.trans (t3.trans (t4.trans su))
  have hu : upd J4 u (.lst [.ref p1, .ref p2, .ref p3, .ref p4]) u = some (.lst [.ref p1, .ref p2, .ref p3, .ref p4]) := upd_same
  generalize upd J4 u (.lst [.ref p1, .ref p2, .ref p3, .ref p4]) = J5 at su t24 hu
  -- if told != ..
  refine seq_if ⟨_, set_at (by omega), words_ok (by rw [List.length_set]; exact l3) (by decide) fun q' J6 t6 dq => ?_⟩
  have e1 := (t24.trans t6) _ _ m1
  have e2 := ((t3.trans (t4.trans su)).trans t6) _ _ m2
  have e3 := ((t4.trans su).trans t6) _ _ m3
  have e4 := (su.trans t6) _ _ m4
  obtain ⟨y1, y2⟩ := four_words
  refine ⟨.list ((["unfit", "many", "unkept", "text"] : List Str).map L3), _, .lst (SqL.of (t6 _ _ hu)) (.cons (dp_said e1) (.cons (dp_said e2) (.cons (dp_said e3) (.cons (dp_said e4) .nil)))), dq, y1, y1, false, ?_, iteF ?_⟩
  · rw [y2]
    rfl
  · exact k _ _ ((f6.le (by omega)).set (by omega)) (s06.trans (sr.trans (t1.trans (t24.trans t6))))
end K0
namespace K0
open PySem PySem.Spec PyProof.Rows L2
/-- for is_named in (False, True) -/
def t_mid (K : PySem.W.Frag) : TS := tFor (iTup K (tTup (tCons (tC (.bl false)) (tCons (tC (.bl true)) tNil)))) (gName 5) (t_inner K)
theorem mid_ok {K : PySem.W.Frag} {σ : L2.St} {D : Ends} {H : Hp} {v : V} {dd : PyData} (A : All3 K) (hl : σ.length = 13) (h3 : σ[3]? = some (some v)) (h4 : σ[4]? = some (some (.str dd.shown)))
    (hv : Dq H v dd) (hs : Bnd 2000 10 dd) (k : ∀ σ' H', Fix 5 σ σ' → Same H H' → D.nx σ' H') : t_mid K D σ H := by
  refine ⟨len_ok (by show 2 ≤ 1000; decide), fun p np => ⟨p, rfl, ⟨_, SqT.of upd_same⟩, ?_⟩⟩
  have hp : upd H p (.tup [.bl false, .bl true]) p = some (.tup [.bl false, .bl true]) := upd_same
  have s0 : Same H (upd H p (.tup [.bl false, .bl true])) := same_new np
  generalize upd H p (.tup [.bl false, .bl true]) = H0 at hp s0
  refine for_tup (K := K) (a := p) (xs := [.bl false, .bl true]) (fun i σ' H' => Fix 5 σ σ' ∧ Same H0 H') ⟨.refl, Same.refl _⟩ (fun i σ' H' _ h => SqT.of (h.2 _ _ hp)) ?_ (fun σ' H' h => k σ' H' h.1 (s0.trans h.2))
  rintro i y σ' H' hi ⟨hf, hs'⟩
  obtain ⟨b, rfl⟩ : ∃ b, y = .bl b := by
    match i, hi with
    | 0, hi => exact ⟨false, (Option.some.inj hi).symm⟩
    | 1, hi => exact ⟨true, (Option.some.inj hi).symm⟩
  have l' : σ'.length = 13 := hf.1.trans hl
  refine inner_ok (v := v) (b := b) (dd := dd) A (by rw [List.length_set]; exact l') (get_set_ne ((hf.2 3 (by omega)).trans h3) (by omega)) (get_set_ne ((hf.2 4 (by omega)).trans h4) (by omega)) (set_at (by omega)) ((hv.same s0).same hs') hs fun σ2 H2 f2 s2 => ⟨(hf.set (Nat.le_refl _)).trans f2, hs'.trans s2⟩
/-- the promise of _law_caught -/
def spCaught : Sp := fun vs H Q _ => ∃ (v : V) (dd : PyData), vs = [v] ∧ Dq H v dd ∧ ∀ p H', Same H H' → Dq H' (.ref p) (.list [dd, L3 "unkept", L3 "nought"]) → Q (.ref p) H'
abbrev tL3 (wd : Str) : TE := tLst (tCons (tC (.str wd)) (tCons (tC (.str "base")) (tCons (tC (.str "error")) tNil)))
def tFive : TE := tLst (tCons (tTup (tCons (tTup (tCons (tC (.int 1)) (tCons (tC (.int 0)) tNil))) (tCons (tC (.int 1)) tNil))) (tCons (tC (.int 3)) (tCons (tC (.str "rings 2")) (tCons (tC .non) (tCons (tTup (tCons (tC (.str "sum")) (tCons (tC (.int 4)) tNil))) tNil)))))
def t_value (K : PySem.W.Frag) : TS := tAsg (tCall spOdd [] E0 (tCons (tVar 1) (tCons (tCall (spPick K) [] E0 (tCons (tVar 1) (tCons tFive tNil))) tNil))) (gName 3)
def t_pair (K : PySem.W.Frag) : TS := tAsg (tIf (tTest (tOp rEq (tCall spDraw [] E0 (tCons (tVar 1) (tCons (tC (.int 4)) tNil))) (tC (.int 0)))) (tTup (tCons (tVar 3) (tCons (tLst (tCons (tVar 3) tNil)) tNil))) (tVar 3)) (gName 3)
def t_text : TS := tAsg (tCB rRepr (tCons (tVar 3) tNil)) (gName 4)
def t_caught : TS := tIfS (tTest (tOp rNe (tCB rRepr (tCons (tCall spCaught [] E0 (tCons (tVar 3) tNil)) tNil)) (tCB rRepr (tCons (tLst (tCons (tVar 3) (tCons (tL3 "unkept") (tCons (tL3 "nought") tNil)))) tNil)))) (tRet (tC (.bl false))) tNext
def t_body (K : PySem.W.Frag) : TS := tSeq (t_value K) (tSeq (t_pair K) (tSeq t_text (tSeq (t_mid K) (tSeq t_caught tNext))))
theorem five_ok {d l : Addr} {σ : L2.St} : GE d l .non .none σ tFive (.list its) :=
  g_lst (ds := its) (g_cons (g_tup (g_cons (g_tup (g_cons g_int (g_cons g_int g_nil))) (g_cons g_int g_nil))) (g_cons g_int (g_cons g_str (g_cons g_non (g_cons (g_tup (g_cons g_str (g_cons g_int g_nil))) g_nil))))) (by decide)
theorem un_hid {d l : Addr} {H : Hp} {v : V} {dd : PyData} (h : Dq (hid d l H) v dd) : Dq H v dd := h.same fun b o e => (of_hid e).1
theorem dq_L3 {H : Hp} {p : Addr} {wd : Str} (h : H p = some (.lst [.str wd, .str "base", .str "error"])) : Dq H (.ref p) (L3 wd) := .lst h (.cons (.str _) (.cons (.str _) (.cons (.str _) .nil)))
theorem bnd_L3 : ∀ wd ∈ (["unkept", "nought"] : List Str), Bnd 2000 10 (L3 wd) := by
  intro wd h
  simp only [List.mem_cons, List.not_mem_nil, or_false] at h
  rcases h with rfl | rfl
  · exact ⟨by decide +kernel, by decide +kernel, by decide +kernel⟩
  · exact ⟨by decide +kernel, by decide +kernel, by decide +kernel⟩
/-- one go -/
theorem body_ok {K : PySem.W.Frag} {σ : L2.St} {D : Ends} {H : Hp} {d l : Addr} (A : All3 K) (hl : σ.length = 13) (h1 : σ[1]? = some (some (.ref d))) (hD : DeckAt d l H) (k : ∀ σ' H', Fix 2 σ σ' → DeckAt d l H' → D.nx σ' H') : t_body K D σ H := by
  show tSeq (t_value K) _ _ _ _
  refine seq_asg ⟨_, h1, _, h1, five_ok _ _ (deck_gc hD .non) fun u H1 s1 q1 => ?_⟩
  have D1 := same_deck hD s1
  cases q1 with
  | lst hu au =>
    obtain ⟨g1, g2, g3⟩ := of_hid hu
    refine ⟨d, l, _, _, rfl, D1, g1, g3, by rw [au.len]; decide, by rw [au.len]; decide, fun it H2 hv D2 K2 => ?_⟩
    obtain ⟨itd, hin, hit⟩ := au.mem hv
    refine ⟨d, l, it, itd, rfl, D2, hit.same (hid_keeps K2), hin, fun v0 H3 D3 K3 ⟨dd0, q0, t0⟩ => ?_⟩
    -- value = (value, [value]) if .. else value
    show tSeq (t_pair K) _ _ _ _
    refine seq_asg ?_
    have e1 : (σ.set 3 (some v0))[1]? = some (some (.ref d)) := get_set_ne h1 (by omega)
    have e3 : (σ.set 3 (some v0))[3]? = some (some v0) := set_at (by omega)
    refine ⟨_, e1, d, l, 4, rfl, D3, by decide, by decide, fun r H4 _ _ D4 K4 => ⟨rfl, _, rfl, ?_⟩⟩
    have q4 := un_hid (q0.same (hid_keeps K4))
    have b0 := bnd_tiny t0
    -- what follows, whichever it is
    have rest : ∀ (v : V) (H5 : Hp) (dd : PyData), Same H4 H5 → Dq H5 v dd → Bnd 2000 10 dd → (tSeq t_text (tSeq (t_mid K) (tSeq t_caught tNext))) D ((σ.set 3 (some v0)).set 3 (some v)) H5 := by
      intro v H5 dd s5 q5 b5
      have l5 : ((σ.set 3 (some v0)).set 3 (some v)).length = 13 := by rw [List.length_set, List.length_set]; exact hl
      have z3 : ((σ.set 3 (some v0)).set 3 (some v))[3]? = some (some v) := set_at (by rw [List.length_set]; omega)
      have f5 : Fix 2 σ ((σ.set 3 (some v0)).set 3 (some v)) := (Fix.refl.set (by omega)).set (by omega)
      generalize (σ.set 3 (some v0)).set 3 (some v) = σ5 at l5 z3 f5
      have sm := b5.small (by decide) (by decide)
      show tSeq t_text _ _ _ _
      refine seq_asg ⟨_, z3, v, dd, rfl, q5, sm, ?_⟩
      show t_mid K _ _ _
      refine mid_ok (v := v) (dd := dd) A (by rw [List.length_set]; exact l5) (get_set_ne z3 (by omega)) (set_at (by omega)) q5 b5 fun σ6 H6 f6 s6 => ?_
      have y3 : σ6[3]? = some (some v) := (f6.2 3 (by omega)).trans (get_set_ne z3 (by omega))
      have q6 := q5.same s6
      show tSeq t_caught _ _ _ _
      unfold t_caught
      refine seq_if ⟨_, y3, v, dd, rfl, q6, fun p H7 s7 q7 => ?_⟩
      have b7 : Small (.list [dd, L3 "unkept", L3 "nought"]) := (bnd_list (n := 2000) (k := 10) (ds := [dd, L3 "unkept", L3 "nought"]) (by
        intro e he
        simp only [List.mem_cons, List.not_mem_nil, or_false] at he
        rcases he with rfl | rfl | rfl
        · exact b5
        · exact bnd_L3 _ (by simp)
        · exact bnd_L3 _ (by simp))).small (Nat.le_of_ble_eq_true rfl) (by decide)
      refine ⟨_, _, rfl, q7, b7, _, y3, len_ok (by show 3 ≤ 1000; decide), fun x nx => len_ok (by show 3 ≤ 1000; decide) |> fun h => ⟨h, fun y ny => ⟨len_ok (by show 3 ≤ 1000; decide), fun z nz => ?_⟩⟩⟩
      have sx := same_new (o := .lst [.str "unkept", .str "base", .str "error"]) nx
      have sy := same_new (o := .lst [.str "nought", .str "base", .str "error"]) ny
      have hx : (upd H7 x (.lst [.str "unkept", .str "base", .str "error"])) x = some (.lst [.str "unkept", .str "base", .str "error"]) := upd_same
      generalize upd H7 x (.lst [.str "unkept", .str "base", .str "error"]) = G1 at sx sy hx ny nz
      have hy : (upd G1 y (.lst [.str "nought", .str "base", .str "error"])) y = some (.lst [.str "nought", .str "base", .str "error"]) := upd_same
      generalize upd G1 y (.lst [.str "nought", .str "base", .str "error"]) = G2 at sy hy nz
      have sz := same_new (o := .lst [v, .ref x, .ref y]) nz
      refine ⟨_, .list [dd, L3 "unkept", L3 "nought"], rfl, .lst upd_same (.cons (q6.same (s7.trans (sx.trans (sy.trans sz)))) (.cons (dq_L3 ((sy.trans sz) _ _ hx)) (.cons (dq_L3 (sz _ _ hy)) .nil))), b7, rfl, _, rfl, orF rfl ?_⟩
      exact k _ _ (f5.trans ((Fix.refl.set (by omega)).trans (f6.le (by omega)))) (same_deck D4 (s5.trans (s6.trans (s7.trans (sx.trans (sy.trans sz))))))
    refine ite2 (fun _ => ?_) (fun _ => ?_)
    · refine ⟨_, e3, _, e3, len_ok (by show 1 ≤ 1000; decide), fun x nx => ⟨len_ok (by show 2 ≤ 1000; decide), fun y ny => ?_⟩⟩
      have sx := same_new (o := .lst [v0]) nx
      have sy := same_new (o := .tup [v0, .ref x]) ny
      refine rest _ _ (.tuple [dd0, .list [dd0]]) (sx.trans sy) (.tup upd_same (.cons (q4.same (sx.trans sy)) (.cons (.lst (sy _ _ upd_same) (.cons (q4.same (sx.trans sy)) .nil)) .nil))) ?_
      have b1 : Bnd 205 6 (.list [dd0]) := bnd_list (n := 200) (k := 5) (ds := [dd0]) (by simp; exact b0)
      exact (bnd_tuple (n := 205) (k := 6) (ds := [dd0, .list [dd0]]) (by
        intro e he
        simp only [List.mem_cons, List.not_mem_nil, or_false] at he
        rcases he with rfl | rfl
        · exact b0.le (by decide) (by decide)
        · exact b1)).le (Nat.le_of_ble_eq_true rfl) (by decide)
    · exact ⟨_, e3, rest v0 H4 dd0 (Same.refl _) q4 (b0.le (by decide) (by decide))⟩
end K0
namespace K0
open PySem PySem.Spec PyProof.Rows L2
/-- C(), an error without a value -/
def tMkN (K : PySem.W.Frag) (x : Str) : TE := fun _ H Q => ∀ a, H a = none → Q (.ref a) (upd H a (exo a (He.ga K x) none))
def MkN (P : Program) (w : World) (K : PySem.W.Frag) (mg : Str → Option Value) (base : Heap) (x : Str) : Prop := ∀ X : Cx, X.prog = P → X.w = w → X.K = K → X.mg = mg → X.base = base → Room 3 X.A → Gl X x → ∀ p pos : Pos, PE X (.Call (.Name x p) [] [] pos) (tMkN K x)
def t_end (K : PySem.W.Frag) : TS := tAsg (tLst (tCons (tSaid K (tMkN K "Nought")) (tCons (tSaid K (tMkN K "NothingToUndo")) (tCons (tSaid K (tMkN K "NothingToRedo")) tNil)))) (gName 12)
def t_ret (K : PySem.W.Frag) : TS := tRet (tOp (rEqD K) (tVar 12) (t_words K ["nought", "undo", "redo"]))
def t_law (K : PySem.W.Frag) : TS := tSeq (tAsg (tCall (spDeck K) [] E0 (tCons (tVar 0) tNil)) (gName 1)) (tSeq (tFor (iRng1 (tCons (tC (.int 3)) tNil)) (gName 2) (t_body K)) (tSeq (t_end K) (t_ret K)))
def spLaw (K : PySem.W.Frag) : Sp := fun vs H Q _ => ∃ (a : Addr) (ns : List Int), vs = [.ref a] ∧ SqL K H a (ns.map V.int) ∧ ns.length ≤ 63 ∧ ∀ H', Q (.bl true) H'
abbrev lawN : List Str := ["script", "deck", "go", "value", "text", "is_named", "word", "e", "unfit", "many", "unkept", "at", "told"]
theorem three_words : SeqAt.shaped (.list ((["nought", "undo", "redo"] : List Str).map L3)) = true ∧ PyData.eqv (.list ((["nought", "undo", "redo"] : List Str).map L3)) (.list ((["nought", "undo", "redo"] : List Str).map L3)) = true := by decide +kernel
theorem mkN_ok {K : PySem.W.Frag} {σ : L2.St} {H : Hp} {Q : VK} {x wd : Str} (hin : (x, wd) ∈ wordOf) (T : ErrC K (He.ga K x)) (k : ∀ p H', Same H H' → H' p = some (.lst ([wd, "base", "error"].map V.str)) → Q (.ref p) H') : tSaid K (tMkN K x) σ H Q := by
  intro a na
  have s0 := same_new (o := exo a (He.ga K x) none) na
  exact ⟨a, x, none, List.mem_map_of_mem hin, T, rfl, ⟨upd_same, fun _ e => nomatch e⟩, fun p H1 s1 hp => by
    rw [said_all _ hin] at hp
    exact k p H1 (s0.trans s1) hp⟩
theorem pure_law {K : PySem.W.Frag} (A : All3 K) (hN : ∀ q ∈ wordOf, ErrC K (He.ga K q.1)) (vs : List V) (H : Hp) (Q : VK) (E : XK) (h : spLaw K vs H Q E) : t_law K { nx := fun _ H' => Q .non H', rt := Q } (start lawN vs) H := by
  obtain ⟨a, ns, rfl, hS, hlen, hQ⟩ := h
  refine ⟨_, rfl, a, ns, rfl, hS, hlen, fun d l H1 D1 _ _ _ => ?_⟩
  refine ⟨3, rfl, by decide, by decide, for_range (lo := 0) (n := 3) (fun i σ' H' => σ'.length = 13 ∧ σ'[1]? = some (some (.ref d)) ∧ DeckAt d l H') ⟨rfl, rfl, D1⟩ ?_ ?_⟩
  · rintro i σ' H' _ ⟨h1, h2, h3⟩
    refine body_ok (d := d) (l := l) A (by rw [List.length_set]; exact h1) (get_set_ne h2 (by omega)) h3 fun σ2 H2 f2 D2 => ⟨?_, ?_, D2⟩
    · exact f2.1.trans (by rw [List.length_set]; exact h1)
    · exact (f2.2 1 (by omega)).trans (get_set_ne h2 (by omega))
  · rintro σ' H' ⟨h1, _, _⟩
    show tSeq (t_end K) _ _ _ _
    refine seq_asg ?_
    refine mkN_ok (wd := "nought") (by decide +kernel) (hN ("Nought", "nought") (by decide +kernel)) fun p1 J1 t1 m1 => ?_
    refine mkN_ok (wd := "undo") (by decide +kernel) (hN ("NothingToUndo", "undo") (by decide +kernel)) fun p2 J2 t2 m2 => ?_
    refine mkN_ok (wd := "redo") (by decide +kernel) (hN ("NothingToRedo", "redo") (by decide +kernel)) fun p3 J3 t3 m3 => ?_
    refine ⟨len_ok (by show 3 ≤ 1000; decide), fun u nu => ?_⟩
    have su := same_new (o := .lst [.ref p1, .ref p2, .ref p3]) nu
    refine ⟨_, set_at (by omega), words_ok (by rw [List.length_set]; exact h1) (by decide) fun q J5 t5 dq => ?_⟩
    obtain ⟨y1, y2⟩ := three_words
    refine ⟨.list ((["nought", "undo", "redo"] : List Str).map L3), _, .lst (SqL.of (t5 _ _ upd_same)) (.cons (dp_said ((t2.trans (t3.trans (su.trans t5))) _ _ m1)) (.cons (dp_said ((t3.trans (su.trans t5)) _ _ m2)) (.cons (dp_said ((su.trans t5) _ _ m3)) .nil))), dq, y1, y1, ?_⟩
    rw [y2]
    exact hQ J5
/-! ### the law's def, where nothing is being shown -/
theorem fn_at {CX : CXT} {P : Program} {w : World} {K : PySem.W.Frag} {mg : Str → Option Value} {base : Heap} {k : Nat} {f : Addr} {name qual : Str} {params : Arguments} {body : List Stmt} {scope : Scope} {fd : FuncData} {N ps : List Str} {sp : Sp} {A : Around} (F : FunD K name qual params body scope [] [] f fd) (S : FnScope N ps scope)
    (len : ∀ vs H Q E, sp vs H Q E → vs.length = ps.length) (hr : Room (k + 1) A)
    (hbody : ∀ (cdv : Value) (outer : List Env) (s : Shared) (H : Hp) (vs : List V) (Q : VK) (E : XK), Room k (A.deeper (envOfC qual scope s.heap.objs.size f cdv)) → sp vs H Q E →
      ∃ t, PSs (cxOf CX P w K mg base N qual scope f cdv A outer s H E) body t ∧ t { nx := fun _ H' => Q .non H', rt := Q } (start N vs) H)
    (outer : List Env) (s : Shared) (H : Hp) (args : Args) (us : List Value) (vs : List V) (Q : VK) (E : XK) (e0 : Env0 P w K mg base A outer s H) (hb : BindsTo s fd args (ps.zip us)) (r : Vals vs us) (hsp : sp vs H Q E) :
    codeAny (model P w) A (.call (.ref f) args) (CR CX outer P w H s Q E) s := by
  obtain ⟨oc, od, dV, kV, doc, pm, an, cdv, ct, osl, rfl, lk, hcd, _, _⟩ := F.ex
  have hl := len _ _ _ _ hsp
  have KX : K.In s.heap := e0.mod.kin.keeps fun b o e => (e0.bs b o e).1
  have lim : s.heap.NoLimit := e0.mod.nolimit.keeps fun b o e => (e0.bs b o e).1
  have hkind : ∀ y ∈ ps.zip us, scope.names.lookup y.1 = some .local ∨ (scope.names.lookup y.1 = some .cell ∧ ((cellsFrom (s.heap.objs.size + 1) scope.names []).lookup y.1).isSome = true) := fun ⟨n, v⟩ hy => by
    rcases S.par n (List.of_mem_zip hy).1 with q | q
    · exact .inl q
    · exact .inr ⟨q, PySem.W.cellsFrom_some _ _ _ (.inl q)⟩
  refine codeAny_call_function hr.depth (KX _ _ lk) rfl S.co S.gen rfl (PySem.W.codeRec_of KX hcd) (hb _ _ _ _ ?_)
  refine wpAny_newFunctionEnv_cells S.kind hkind fun env he s1 x => ?_
  subst he
  refine ⟨lim.keeps x.toInCall.keep, codeAny_func ?_⟩
  obtain ⟨t, ht, hq⟩ := hbody cdv outer s H vs Q E (hr.deeper _) hsp
  have I : Inv (cxOf CX P w K mg base N qual scope f cdv A outer s H E) [] (start N vs) H s1 := inv_start S hr.hd e0 hl r x
  refine wpAny_mono (ht.run [] s1 (start N vs) H _ I hq) (fun fl s' hs => ?_) fun e s' hs => hs
  cases fl with
  | ret u =>
    obtain ⟨v, σ', H', J, rv, q⟩ := hs
    exact ⟨v, H', J.os, J.bare, J.base, J.hok, rv, q⟩
  | next =>
    obtain ⟨σ', H', J, q⟩ := hs
    exact ⟨.non, H', J.os, J.bare, J.base, J.hok, rfl, q⟩
  | brk =>
    obtain ⟨_, _, _, q⟩ := hs
    exact False.elim q
  | cont =>
    obtain ⟨_, _, _, q⟩ := hs
    exact False.elim q
section
variable {P : Program} {w : World} {K : PySem.W.Frag} {mg : Str → Option Value} {base : Heap} {f fK fO fP fD f1 f2 f3 f4 : Addr} {fd fdK fdO fdP fdD fd1 fd2 fd3 fd4 : FuncData}
theorem scLaw : FnScope lawN ["script"] (defScope sLaw) := ⟨rfl, rfl, rfl, by decide +kernel, rfl, by decide +kernel, by decide +kernel⟩
theorem ok_law (F : FnP K "law" sLaw f fd) (B : Bl mg) (A3 : All3 K) (hN : ∀ q ∈ wordOf, ErrC K (He.ga K q.1)) (hK : (K.lookup sysModules).isSome = true)
    (FK : FnP K "_law_deck" sDeck fK fdK) (gK : mg "_law_deck" = some (.ref fK)) (FO : FnP K "_law_odd" sOdd fO fdO) (gO : mg "_law_odd" = some (.ref fO)) (FP : FnP K "_law_pick" sPick fP fdP) (gP : mg "_law_pick" = some (.ref fP)) (FD : FnP K "_law_draw" sDraw fD fdD) (gD : mg "_law_draw" = some (.ref fD))
    (F1 : FnP K "_law_first" sFirst f1 fd1) (g1 : mg "_law_first" = some (.ref f1)) (F2 : FnP K "_law_second" sSecond f2 fd2) (g2 : mg "_law_second" = some (.ref f2)) (F3 : FnP K "_law_classes" sClasses f3 fd3) (g3 : mg "_law_classes" = some (.ref f3)) (KT : Kit K mg)
    (F4 : FnP K "_law_caught" sCaught f4 fd4) (g4 : mg "_law_caught" = some (.ref f4)) (G4 : FnOk P w K mg base CX0 4 f4 fd4 ["value"] spCaught) (M : ∀ q ∈ firstT ++ secondT, MkE P w K mg base q.2 "thing") (mU : MkE P w K mg base "Unfit" "certificate") (mT : MkE P w K mg base "TooMany" "most") (mK : MkE P w K mg base "Unkept" "claim") (mX : MkE P w K mg base "BadText" "at")
    (n1 : MkN P w K mg base "Nought") (n2 : MkN P w K mg base "NothingToUndo") (n3 : MkN P w K mg base "NothingToRedo") {A : Around} (hA : A.guards = some []) (hr : Room 5 A) (outer : List Env) (s : Shared) (H : Hp) (args : Args) (us : List Value) (vs : List V) (Q : VK) (E : XK) (e0 : Env0 P w K mg base A outer s H)
    (hb : BindsTo s fd args ((["script"] : List Str).zip us)) (r : Vals vs us) (hsp : spLaw K vs H Q E) : codeAny (model P w) A (.call (.ref f) args) (CR CX0 outer P w H s Q E) s := by
  have GK : FnOk P w K mg base CX0 1 fK fdK ["script"] (spDeck K) := ok_deck FK B
  have bK : L2.Binds K fdK ["script"] [] := FK.bindsN fun _ _ _ _ _ _ us hl => match us, hl with | [_], _ => rfl
  have GO : FnOk P w K mg base CX0 3 fO fdO ["deck", "it"] spOdd := ok_odd FO FP gP FD gD B
  have bO : L2.Binds K fdO ["deck", "it"] [] := FO.bindsN fun _ _ _ _ _ _ us hl => match us, hl with | [_, _], _ => rfl
  have GP : FnOk P w K mg base CX0 2 fP fdP ["deck", "some"] (spPick K) := ok_pick FP FD gD B
  have bP : L2.Binds K fdP ["deck", "some"] [] := FP.bindsN fun _ _ _ _ _ _ us hl => match us, hl with | [_, _], _ => rfl
  have GD : FnOk P w K mg base CX0 1 fD fdD ["deck", "many"] spDraw := ok_draw FD B
  have bD : L2.Binds K fdD ["deck", "many"] [] := FD.bindsN fun _ _ _ _ _ _ us hl => match us, hl with | [_, _], _ => rfl
  have G1 : FnOk P w K mg base CX0 3 f1 fd1 ["word", "value", "is_named"] (spMk K firstT) := ok_first F1 fun q h => M q (List.mem_append_left _ h)
  have b1 : L2.Binds K fd1 ["word", "value", "is_named"] [] := F1.bindsN fun _ _ _ _ _ _ us hl => match us, hl with | [_, _, _], _ => rfl
  have G2 : FnOk P w K mg base CX0 3 f2 fd2 ["word", "value", "is_named"] (spMk K secondT) := ok_second F2 fun q h => M q (List.mem_append_right _ h)
  have b2 : L2.Binds K fd2 ["word", "value", "is_named"] [] := F2.bindsN fun _ _ _ _ _ _ us hl => match us, hl with | [_, _, _], _ => rfl
  have G3 : FnOk P w K mg base CX0 1 f3 fd3 ["e"] (spClsU K) := ok_classesU F3 KT B
  have b3 : L2.Binds K fd3 ["e"] [] := F3.bindsN fun _ _ _ _ _ _ us hl => match us, hl with | [_], _ => rfl
  have b4 : L2.Binds K fd4 ["value"] [] := F4.bindsN fun _ _ _ _ _ _ us hl => match us, hl with | [_], _ => rfl
  refine fn_at F scLaw (fun vs H Q E h => ?_) hr (fun cdv outer s H vs Q E hr h => ⟨t_law K, PSs.nox ?_, pure_law A3 hN vs H Q E h⟩) outer s H args us vs Q E e0 hb r hsp
  · obtain ⟨a, ns, rfl, _⟩ := h
    rfl
  · have hr1 : Room 1 _ := hr.mono (by decide : 1 ≤ 4)
    have hr2 : Room 2 _ := hr.mono (by decide : 2 ≤ 4)
    have hr3 : Room 3 _ := hr.mono (by decide : 3 ≤ 4)
    have cr : CallR (Cx.nox (cxOf CX0 P w K mg base lawN "law" (defScope sLaw) f cdv A outer s H E)) (.builtin "repr") rRepr := call_repr hA hr.units hK
    exact (pss_cons (ps_set (i := 1) scLaw.nd rfl (Or.inl rfl) (pe_call GK hr1 (by rfl) gK FK.kp bK .nil pass0 (pa_cons (pv 0) pa_nil)))
      (pss_cons (ps_for PassesOwn.never rfl (pi_range1 rfl (B "range" (by decide +kernel)) (pa_cons pe_int pa_nil)) (pg_name (i := 2) scLaw.nd rfl (Or.inl rfl)) (pss_cons (ps_set (i := 3) scLaw.nd rfl (Or.inl rfl) (pe_call GO hr3 (by rfl) gO FO.kp bO .nil pass0 (pa_cons (pv 1) (pa_cons (pe_call GP hr2 (by rfl) gP FP.kp bP .nil pass0 (pa_cons (pv 1) (pa_cons (pe_lst (pa_cons (pe_tup (pa_cons (pe_tup (pa_cons pe_int (pa_cons pe_int pa_nil))) (pa_cons pe_int pa_nil))) (pa_cons pe_int (pa_cons pe_str (pa_cons pe_non (pa_cons (pe_tup (pa_cons pe_str (pa_cons pe_int pa_nil))) pa_nil)))))) pa_nil))) pa_nil))))
      (pss_cons (ps_set (i := 3) scLaw.nd rfl (Or.inl rfl) (pe_ifExp (pt_cmpR op_eq (pe_call GD hr1 (by rfl) gD FD.kp bD .nil pass0 (pa_cons (pv 1) (pa_cons pe_int pa_nil))) pe_int (nomark _)) (pe_tup (pa_cons (pv 3) (pa_cons (pe_lst (pa_cons (pv 3) pa_nil)) pa_nil))) (pv 3)))
      (pss_cons (ps_set (i := 4) scLaw.nd rfl (Or.inl rfl) (pe_callB cr (by rfl) (B "repr" (by decide +kernel)) (by decide +kernel) (pa_cons (pv 3) pa_nil)))
      (pss_cons (ps_for PassesOwn.never rfl (pi_tup (pe_tup (pa_cons pe_bl (pa_cons pe_bl pa_nil)))) (pg_name (i := 5) scLaw.nd rfl (Or.inl rfl)) (pss_cons (ps_for PassesOwn.never rfl (pi_tup (pe_tup (pa_cons pe_str (pa_cons pe_str (pa_cons pe_str (pa_cons pe_str (pa_cons pe_str (pa_cons pe_str (pa_cons pe_str (pa_cons pe_str (pa_cons pe_str pa_nil))))))))))) (pg_name (i := 6) scLaw.nd rfl (Or.inl rfl)) (pss_cons (ps_set (i := 7) scLaw.nd rfl (Or.inl rfl) (pe_call G1 hr3 (by rfl) g1 F1.kp b1 .nil pass0 (pa_cons (pv 6) (pa_cons (pv 3) (pa_cons (pv 5) pa_nil)))))
      (pss_cons (ps_if (pw_or (pt_cmpR op_ne (pe_callB cr (by rfl) (B "repr" (by decide +kernel)) (by decide +kernel) (pa_cons (pe_fldE (pv 7)) pa_nil)) (pv 4) (nomark _)) (pw_or1 (pt_cmpR (op_neD hr.units) (pe_call G3 hr1 (by rfl) g3 F3.kp b3 .nil pass0 (pa_cons (pv 7) pa_nil)) (pe_lst (pa_cons (pv 6) (pa_cons pe_str (pa_cons pe_str pa_nil)))) (nomark _)))).pt (pss_one (ps_ret pe_bl)) pss_nil)
      pss_nil)))
      (pss_cons (ps_for PassesOwn.never rfl (pi_tup (pe_tup (pa_cons pe_str (pa_cons pe_str (pa_cons pe_str (pa_cons pe_str (pa_cons pe_str (pa_cons pe_str pa_nil)))))))) (pg_name (i := 6) scLaw.nd rfl (Or.inl rfl)) (pss_cons (ps_set (i := 7) scLaw.nd rfl (Or.inl rfl) (pe_call G2 hr3 (by rfl) g2 F2.kp b2 .nil pass0 (pa_cons (pv 6) (pa_cons (pv 3) (pa_cons (pv 5) pa_nil)))))
      (pss_cons (ps_if (pw_or (pt_cmpR op_ne (pe_callB cr (by rfl) (B "repr" (by decide +kernel)) (by decide +kernel) (pa_cons (pe_fldE (pv 7)) pa_nil)) (pv 4) (nomark _)) (pw_or1 (pt_cmpR (op_neD hr.units) (pe_call G3 hr1 (by rfl) g3 F3.kp b3 .nil pass0 (pa_cons (pv 7) pa_nil)) (pe_lst (pa_cons (pv 6) (pa_cons pe_str (pa_cons pe_str pa_nil)))) (nomark _)))).pt (pss_one (ps_ret pe_bl)) pss_nil)
      pss_nil)))
      (pss_cons (ps_set (i := 8) scLaw.nd rfl (Or.inl rfl) (pe_ifExp (pt_val (pv 5)) (pe_mkK mU hr2 (by rfl) (pv 3)) (pe_mk mU hr2 (by rfl) (pv 3))))
      (pss_cons (ps_set (i := 9) scLaw.nd rfl (Or.inl rfl) (pe_ifExp (pt_val (pv 5)) (pe_mkK mT hr2 (by rfl) (pv 3)) (pe_mk mT hr2 (by rfl) (pv 3))))
      (pss_cons (ps_set (i := 10) scLaw.nd rfl (Or.inl rfl) (pe_ifExp (pt_val (pv 5)) (pe_mkK mK hr2 (by rfl) (pv 3)) (pe_mk mK hr2 (by rfl) (pv 3))))
      (pss_cons (ps_set (i := 11) scLaw.nd rfl (Or.inl rfl) (pe_ifExp (pt_val (pv 5)) (pe_mkK mX hr2 (by rfl) (pv 3)) (pe_mk mX hr2 (by rfl) (pv 3))))
      (pss_cons (ps_if (pt_cmpR op_ne (pe_callB cr (by rfl) (B "repr" (by decide +kernel)) (by decide +kernel) (pa_cons (pe_tup (pa_cons (pe_fldE (pv 8)) (pa_cons (pe_fldE (pv 9)) (pa_cons (pe_fldE (pv 10)) (pa_cons (pe_fldE (pv 11)) pa_nil))))) pa_nil)) (pe_callB cr (by rfl) (B "repr" (by decide +kernel)) (by decide +kernel) (pa_cons (pe_op op_repT (pe_tup (pa_cons (pv 3) pa_nil)) pe_int) pa_nil)) (nomark _)) (pss_one (ps_ret pe_bl)) pss_nil)
      (pss_cons (ps_set (i := 12) scLaw.nd rfl (Or.inl rfl) (pe_lst (pa_cons (pe_call G3 hr1 (by rfl) g3 F3.kp b3 .nil pass0 (pa_cons (pv 8) pa_nil)) (pa_cons (pe_call G3 hr1 (by rfl) g3 F3.kp b3 .nil pass0 (pa_cons (pv 9) pa_nil)) (pa_cons (pe_call G3 hr1 (by rfl) g3 F3.kp b3 .nil pass0 (pa_cons (pv 10) pa_nil)) (pa_cons (pe_call G3 hr1 (by rfl) g3 F3.kp b3 .nil pass0 (pa_cons (pv 11) pa_nil)) pa_nil))))))
      (pss_cons (ps_if (pt_cmpR (op_neD hr.units) (pv 12) (pe_lc (own := [("word", 6)]) (g := gName 6) (tt := tYes) (te := tLst (tCons (tVar 6) (tCons (tC (.str "base")) (tCons (tC (.str "error")) tNil)))) rfl scLaw.nd (pi_tup (pe_tup (pa_cons pe_str (pa_cons pe_str (pa_cons pe_str (pa_cons pe_str pa_nil)))))) (blkOk_by (own := [("word", 6)]) (N := lawN) (sc := defScope sLaw) (by decide +kernel)) (fun _ _ _ _ _ => pg_name (i := 6) scLaw.nd rfl (Or.inl rfl)) (fun _ _ _ _ _ => pts_nil) (fun _ _ _ _ _ => (pe_lst (pa_cons (pv 6) (pa_cons pe_str (pa_cons pe_str pa_nil)))))) (nomark _)) (pss_one (ps_ret pe_bl)) pss_nil)
      pss_nil))))))))))
      (pss_cons (ps_if (pt_cmpR op_ne (pe_callB cr (by rfl) (B "repr" (by decide +kernel)) (by decide +kernel) (pa_cons (pe_call G4 hr (by rfl) g4 F4.kp b4 .nil pass0 (pa_cons (pv 3) pa_nil)) pa_nil)) (pe_callB cr (by rfl) (B "repr" (by decide +kernel)) (by decide +kernel) (pa_cons (pe_lst (pa_cons (pv 3) (pa_cons (pe_lst (pa_cons pe_str (pa_cons pe_str (pa_cons pe_str pa_nil)))) (pa_cons (pe_lst (pa_cons pe_str (pa_cons pe_str (pa_cons pe_str pa_nil)))) pa_nil)))) pa_nil)) (nomark _)) (pss_one (ps_ret pe_bl)) pss_nil)
      pss_nil))))))
      (pss_cons (ps_set (i := 12) scLaw.nd rfl (Or.inl rfl) (pe_lst (pa_cons (pe_call G3 hr1 (by rfl) g3 F3.kp b3 .nil pass0 (pa_cons (n1 _ rfl rfl rfl rfl rfl hr3 (by rfl) _ _) pa_nil)) (pa_cons (pe_call G3 hr1 (by rfl) g3 F3.kp b3 .nil pass0 (pa_cons (n2 _ rfl rfl rfl rfl rfl hr3 (by rfl) _ _) pa_nil)) (pa_cons (pe_call G3 hr1 (by rfl) g3 F3.kp b3 .nil pass0 (pa_cons (n3 _ rfl rfl rfl rfl rfl hr3 (by rfl) _ _) pa_nil)) pa_nil)))))
      (pss_one (ps_ret (pe_cmpR (op_eqD hr.units) (pv 12) (pe_lc (own := [("word", 6)]) (g := gName 6) (tt := tYes) (te := tLst (tCons (tVar 6) (tCons (tC (.str "base")) (tCons (tC (.str "error")) tNil)))) rfl scLaw.nd (pi_tup (pe_tup (pa_cons pe_str (pa_cons pe_str (pa_cons pe_str pa_nil))))) (blkOk_by (own := [("word", 6)]) (N := lawN) (sc := defScope sLaw) (by decide +kernel)) (fun _ _ _ _ _ => pg_name (i := 6) scLaw.nd rfl (Or.inl rfl)) (fun _ _ _ _ _ => pts_nil) (fun _ _ _ _ _ => (pe_lst (pa_cons (pv 6) (pa_cons pe_str (pa_cons pe_str pa_nil)))))) (nomark _)))))))
end
end K0
/-! Iterators that end while an exception is handled. -/
namespace K0
open PySem PySem.Spec PyProof.Rows HotX
section
variable {prog : Program} {w : World} {A : Around} {E : Value → Shared → Prop} {s : Shared}
theorem pyNext_list_end_hot {it l x1 : Addr} {i : Nat} {items : Array Value} {Q : Option Value → Shared → Prop} (hot : HotAt A x1 s.heap) (hne : x1 ≠ it)
    (hit : s.heap.IsListIter it l i) (hl : s.heap.IsList l items) (hx : items[i]? = none)
    (hQ : ∀ h', Heap.ExtBut it s.heap h' → Q none { s with heap := h' }) : wpAny (model prog w) A (pyNext (.ref it)) Q E s := by
  obtain ⟨o, ho, hc, hd⟩ := id hit
  obtain ⟨ol, hol, _, nl, hdl⟩ := hl
  obtain ⟨hh, o1, vs1, h1, d1, c1⟩ := hot
  unfold pyNext
  refine wpAny_bind (wpAny_attempt (wpAny_callSpecial?_slot (name := Str.ofString "__next__") hit.typeIs slot_listiter_next
    (wpAny_call_entry slot_listiter_next hit.typeIs entry_listiter_next ?_ (args_listiter_next _))))
  show wpAny _ _ (field (.ref it) 0 >>= _) _ _ s
  refine wpAny_bind (wpAny_field ho hd (x := .ref l) rfl ?_)
  show wpAny _ _ (if (Value.ref l == Value.none) = true then _ else _) _ _ s
  rw [if_neg (show ¬ ((Value.ref l == Value.none) = true) from Bool.false_ne_true)]
  show wpAny _ _ (field (.ref it) 1 >>= _) _ _ s
  refine wpAny_bind (wpAny_field ho hd (x := .int i 0) rfl ?_)
  show wpAny _ _ (seqItems? (.ref l) >>= _) _ _ s
  refine wpAny_bind (wpAny_seqItems hol hdl ?_)
  simp only [Int.toNat_natCast, hx]
  refine wpAny_bind (wpAny_rule (wpAny_bind (wpAny_setField ho hd (by simp) ?_)))
  generalize hs' : s.heap.update it _ = hu
  have h1' : hu.get? x1 = some o1 := by rw [← hs', Heap.get?_update_other _ _ (Ne.symm hne)]; exact h1
  have kp : ∀ b o, b ≠ it → s.heap.get? b = some o → hu.get? b = some o := fun b o hb e => by rw [← hs', Heap.get?_update_other _ _ (Ne.symm hb)]; exact e
  show wpAny _ _ (newExc (.type "StopIteration") [] >>= _) _ _ _
  refine wpAny_bind ?_
  simp only [newExc, newTuple]
  refine wpAny_bind (wpAny_newObj_type ?_ (by size_fits))
  refine wpAny_bind (m := firstArgMember _ _) (wpAny_of_eq (a := Value.none) (by first | rfl | (simp only [firstArgMember]; rfl)) ?_)
  refine wpAny_newObj_type ?_ (by size_fits)
  refine raiseNew_hot ⟨hh, o1, vs1, Heap.get?_push_of_some _ (Heap.get?_push_of_some _ h1'), d1, c1⟩ (Nat.ne_of_lt (Heap.lt_size (Heap.get?_push_of_some _ h1'))) (Heap.get?_push_size _ rfl) rfl (by first | (simp; done) | (simp; omega) | (simp only [Array.size_append]; simp; omega)) ?_
  refine wpAny_bind (wpAny_isInstance (T := "StopIteration") (b := true) ⟨_, Heap.get?_update_self _ (Heap.get?_push_size _ rfl) rfl, rfl⟩ isSubtype_stop ?_)
  refine wpAny_pure (hQ _ fun b o hb e => ?_)
  have e' := kp b o hb e
  rw [Heap.get?_update_other _ _ (Nat.ne_of_gt (Heap.lt_size (Heap.get?_push_of_some _ e')))]
  exact Heap.get?_push_of_some _ (Heap.get?_push_of_some _ e')
theorem next_tuple_end_hot {it t x1 : Addr} {i : Nat} {items : Array Value} {Q : Option Value → Shared → Prop} (hot : HotAt A x1 s.heap) (hne : x1 ≠ it)
    (hit : IsTupIter s.heap it t i) (ht : IsTup s.heap t items) (hx : items[i]? = none)
    (hQ : ∀ h', Heap.ExtBut it s.heap h' → Q none { s with heap := h' }) : wpAny (model prog w) A (pyNext (.ref it)) Q E s := by
  obtain ⟨o, ho, hc, hd⟩ := id hit
  obtain ⟨ol, hol, _, nl, hdl⟩ := ht
  obtain ⟨hh, o1, vs1, h1, d1, c1⟩ := hot
  unfold pyNext
  refine wpAny_bind (wpAny_attempt (wpAny_callSpecial?_slot (name := Str.ofString "__next__") hit.typeIs slot_tupleiter_next
    (wpAny_call_entry slot_tupleiter_next hit.typeIs entry_tupleiter_next ?_ (args_tupleiter_next _))))
  show wpAny _ _ (field (.ref it) 0 >>= _) _ _ s
  refine wpAny_bind (wpAny_field ho hd (x := .ref t) rfl ?_)
  show wpAny _ _ (if (Value.ref t == Value.none) = true then _ else _) _ _ s
  rw [if_neg (show ¬ ((Value.ref t == Value.none) = true) from Bool.false_ne_true)]
  show wpAny _ _ (field (.ref it) 1 >>= _) _ _ s
  refine wpAny_bind (wpAny_field ho hd (x := .int i 0) rfl ?_)
  show wpAny _ _ (seqItems? (.ref t) >>= _) _ _ s
  refine wpAny_bind (wpAny_seqItems hol hdl ?_)
  simp only [Int.toNat_natCast, hx]
  refine wpAny_bind (wpAny_rule (wpAny_bind (wpAny_setField ho hd (by simp) ?_)))
  generalize hs' : s.heap.update it _ = hu
  have h1' : hu.get? x1 = some o1 := by rw [← hs', Heap.get?_update_other _ _ (Ne.symm hne)]; exact h1
  have kp : ∀ b o, b ≠ it → s.heap.get? b = some o → hu.get? b = some o := fun b o hb e => by rw [← hs', Heap.get?_update_other _ _ (Ne.symm hb)]; exact e
  show wpAny _ _ (newExc (.type "StopIteration") [] >>= _) _ _ _
  refine wpAny_bind ?_
  simp only [newExc, newTuple]
  refine wpAny_bind (wpAny_newObj_type ?_ (by size_fits))
  refine wpAny_bind (m := firstArgMember _ _) (wpAny_of_eq (a := Value.none) (by first | rfl | (simp only [firstArgMember]; rfl)) ?_)
  refine wpAny_newObj_type ?_ (by size_fits)
  refine raiseNew_hot ⟨hh, o1, vs1, Heap.get?_push_of_some _ (Heap.get?_push_of_some _ h1'), d1, c1⟩ (Nat.ne_of_lt (Heap.lt_size (Heap.get?_push_of_some _ h1'))) (Heap.get?_push_size _ rfl) rfl (by first | (simp; done) | (simp; omega) | (simp only [Array.size_append]; simp; omega)) ?_
  refine wpAny_bind (wpAny_isInstance (T := "StopIteration") (b := true) ⟨_, Heap.get?_update_self _ (Heap.get?_push_size _ rfl) rfl, rfl⟩ isSubtype_stop ?_)
  refine wpAny_pure (hQ _ fun b o hb e => ?_)
  have e' := kp b o hb e
  rw [Heap.get?_update_other _ _ (Nat.ne_of_gt (Heap.lt_size (Heap.get?_push_of_some _ e')))]
  exact Heap.get?_push_of_some _ (Heap.get?_push_of_some _ e')
theorem hotAt_ext {x1 b : Addr} {h h' : Heap} (hot : HotAt A x1 h) (hne : x1 ≠ b) (e : Heap.ExtBut b h h') : HotAt A x1 h' := by
  obtain ⟨hh, o1, vs1, h1, d1, c1⟩ := hot
  exact ⟨hh, o1, vs1, e _ _ hne h1, d1, c1⟩
theorem hotAt_push {x1 : Addr} {h : Heap} {o : Obj} (hot : HotAt A x1 h) : HotAt A x1 (h.push o) := by
  obtain ⟨hh, o1, vs1, h1, d1, c1⟩ := hot
  exact ⟨hh, o1, vs1, Heap.get?_push_of_some _ h1, d1, c1⟩
theorem hotAt_lt {x1 : Addr} {h : Heap} (hot : HotAt A x1 h) : x1 ≠ h.objs.size := by
  obtain ⟨hh, o1, vs1, h1, d1, c1⟩ := hot
  exact Nat.ne_of_lt (Heap.lt_size h1)
theorem unpackItems_tuple_hot {t x1 : Addr} {items : Array Value} {Q : List Value → Shared → Prop} (hot : HotAt A x1 s.heap) (ht : IsTup s.heap t items)
    (hQ : ∀ h', Heap.ExtBut s.heap.objs.size s.heap h' → Q items.toList { s with heap := h' }) : wpAny (model prog w) A (unpackItems (.ref t) items.size none) Q E s := by
  have hlt : t ≠ s.heap.objs.size := by obtain ⟨o, ho, _⟩ := ht; exact Nat.ne_of_lt (Heap.lt_size ho)
  have hxl := hotAt_lt hot
  unfold unpackItems
  refine wpAny_bind ?_
  · unfold notIterableAtAll
    refine wpAny_bind (wpAny_specialOf ht.typeIs slot_tuple_iter.lookup ?_)
    refine wpAny_pure ?_
    simp only [Bool.false_eq_true, if_false]
    refine wpAny_bind (wpAny_holding (iter_tuple ht ?_))
    refine wpAny_bind (wpAny_holding (draw_tuple hlt items.size 0 _ _ ⟨_, Heap.get?_push_size _ rfl, rfl, rfl⟩ (ht.push _) (by omega) fun h₁ hit₁ hs₁ => ?_))
    have hall : List.take items.size (List.drop 0 items.toList) = items.toList := by
      rw [List.drop_zero]; exact List.take_of_length_le (by simp)
    rw [hall]
    rw [if_neg (by simp)]
    have ht₁ : IsTup h₁ t items := (ht.push _).extBut hs₁.extBut hlt
    refine wpAny_bind (wpAny_holding (next_tuple_end_hot (hotAt_ext (hotAt_push hot) hxl hs₁.extBut) hxl hit₁ ht₁ (by simp) fun h₂ he₂ => ?_))
    simp only [Option.isSome_none, Bool.false_eq_true, if_false]
    refine wpAny_pure (hQ h₂ fun b o hb e => he₂ b o hb (hs₁.extBut b o hb (Heap.get?_push_of_some _ e)))
theorem assign_tuple_hot {env : Env} {elts : List Expr} {k : Nat} {pos : Pos} {t x1 : Addr} {items : Array Value} {Q : Unit → Shared → Prop} (hot : HotAt A x1 s.heap) (ht : IsTup s.heap t items)
    (hn : (assignEach elts env).length = items.size) (hstar : (assignEach elts env).findIdx? (·.1) = none)
    (h : ∀ h', Heap.ExtBut s.heap.objs.size s.heap h' → wpAny (model prog w) A (assignInOrder ((assignEach elts env).map (·.2)) items.toList) Q E { s with heap := h' }) :
    wpAny (model prog w) A (assign (.Tuple elts k pos) env (.ref t)) Q E s := by
  rw [assign_Tuple]
  refine wpAny_bind (wpAny_standAt ?_)
  unfold unpack
  rw [hn, hstar]
  exact wpAny_bind (wpAny_holding (unpackItems_tuple_hot hot ht h))
end
end K0
/-! List comprehensions over lists while an exception is handled. -/
namespace L2
open PySem PySem.Spec PyProof.Rows HotX L2H
abbrev Cx.blkH (X : Cx) (p : Addr × Obj) (s : Shared) (H : Hp) (scope : Scope) (cenv : Env) (fp : List Addr) : Cx := { X.blk s H scope cenv fp with pn := [p] }
theorem turn_listH {P : Program} {w : World} {K : PySem.W.Frag} {tg : Expr} (a it : Addr) : TurnH P w K tg (Itl K a) [it] it (fun i h => h.IsListIter it a i) where
  mem := by simp
  obj := (turn_list (P := P) (w := w) (K := K) (tg := tg) a it).obj
  keep := (turn_list (P := P) (w := w) (K := K) (tg := tg) a it).keep
  item := by
    intro X hP hw hK hc i pins s σ H E I hf st hg
    subst hP hw hK
    obtain ⟨xs, x, hq, hx⟩ := hg
    obtain ⟨its, rv, p, hz⟩ := I.list hq
    obtain ⟨u, hu, ru⟩ := rv.get hx
    obtain ⟨f0, f1, f2, f3, f4, f5⟩ := hf it (by simp)
    refine wpAny_pyNext_list_item st p.isList (x := u) (by simpa using hu) fun h' st' sb => ?_
    have I1 : Inv X pins σ H { s with heap := h' } := I.turned (t' := s.toks) (fun b o hb e => (sb.2 b hb).trans e) f0 f1 f3 f4 f5
    obtain ⟨o, e, c, d⟩ := id st'
    exact ⟨u, rfl, go_of (s := { s with heap := h' }) e c d (by decide) ⟨x, H, I1, ru, ⟨rfl, fun ys hy => by rw [I.list_inj hy hq]; exact hx⟩, st', fun b hb => (hf b hb).1⟩⟩
  done := by
    intro X hP hw hK hc i pins s σ H E I hf st hg
    subst hP hw hK
    obtain ⟨xs, hq, hx⟩ := hg
    obtain ⟨its, rv, p, hz⟩ := I.list hq
    obtain ⟨f0, f1, f2, f3, f4, f5⟩ := hf it (by simp)
    have hl := rv.length
    obtain ⟨p0, ⟨hh, v1, e1, c1⟩, hp⟩ := hc
    have P1 := (I.pin p0 (List.mem_append_left _ hp)).1
    exact K0.pyNext_list_end_hot ⟨hh, p0.2, v1, P1, e1, c1⟩ (f5 p0 (List.mem_append_left _ hp)) st p.isList (by simp; omega) fun h' eb => ⟨rfl, I.turned (t' := s.toks) (fun b o hb e => eb b o hb e) f0 f1 f3 f4 f5⟩
  self := (turn_list (P := P) (w := w) (K := K) (tg := tg) a it).self
theorem pi_listH {X : Cx} {tg l : Expr} {tl : TE} (hl : PE X l tl) : PIH X tg l (iList X.K tl) := by
  refine ⟨fun pins s σ H R I h => ?_⟩
  refine thn (hl.run pins s σ H _ I h) fun v s1 ⟨x, H1, I1, r1, q1⟩ => ?_
  obtain ⟨a, e, ⟨xs, hq⟩, q⟩ := q1
  subst e
  cases r1
  obtain ⟨its, rv, p, hz⟩ := I1.list hq
  refine wpAny_pyIter_list p.isList ?_
  refine ⟨s1.heap.objs.size, [s1.heap.objs.size], _, _, H1, rfl, I1.kept (t' := s1.toks) fun b o e => Heap.get?_push_of_some _ e, turn_listH a _, ⟨_, Heap.get?_push_size _ rfl, rfl, rfl⟩, fun b hb => ?_, q⟩
  have e : b = s1.heap.objs.size := by simpa using hb
  subst e
  exact I1.fpOk (Nat.le_refl _) (I1.hok.fresh (Nat.le_refl _))
theorem pg_tupH {X : Cx} {pos : Pos} {es : List Expr} {k : Nat} {t : TGs} {n : Nat} (hc : HotC X) (h : PGs X es t)
    (hn : (assignEach es X.env).length = n := by rfl) (hst : (assignEach es X.env).findIdx? (·.1) = none := by rfl) : PG X (.Tuple es k pos) (gTup X.K n t) := by
  refine ⟨fun pins s σ H v u Q I r hw => ?_⟩
  obtain ⟨a, xs, e1, hq, hl, hw⟩ := hw
  subst e1
  cases r
  obtain ⟨its, rv, ht, hz⟩ := I.tuple hq
  obtain ⟨x1, hot⟩ := hc.at I
  refine K0.assign_tuple_hot hot ht (by simp [hn, ← hl, rv.length]) hst fun h' hx => ?_
  have I1 : Inv X pins σ H { s with heap := h' } := I.kept (t' := s.toks) fun b o e => hx b o (Nat.ne_of_lt (Heap.lt_size e)) e
  exact h.run pins _ σ H xs _ Q I1 (by simpa using rv) hw
section
variable {X : Cx}
theorem Inv.addPn {Y : Cx} {p : Addr × Obj} {σ : St} {H : Hp} {s : Shared} (I : Inv Y [] σ H s) (h : s.heap.get? p.1 = some p.2 ∧ H p.1 = none ∧ p.1 ≠ Y.env.locals ∧ p.1 ∉ Y.fs ∧ ∀ v, p.2.data ≠ .cell v) : Inv { Y with pn := [p] } [] σ H s :=
  ⟨⟨I.ok.mod, I.ok.kind, I.ok.glob, I.ok.blt, I.ok.above, I.ok.inj, I.ok.has, I.ok.cab, I.ok.hd, I.ok.frames, I.ok.stk, I.ok.exf, I.ok.bs, I.ok.bsz, I.ok.noex, I.ok.exfs, I.ok.funs, I.ok.frf⟩, I.os, I.bare, I.base, I.loc, I.cell, I.free, I.freeC, fun q hq => by
    have e : q = p := by simpa using (show q ∈ [p] ++ ([] : List (Addr × Obj)) from hq)
    rw [e]
    exact h, I.hok, I.len⟩
theorem blockH {p : Addr × Obj} {pins : List (Addr × Obj)} {σ : St} {H : Hp} {s : Shared} {scope : Scope} {own : List (Str × Nat)} {fp : List Addr} (I : Inv X pins σ H s) (ok : BlkOk X.N X.env.scope scope own) (hN : X.N.Nodup) (hfp : ∀ b ∈ fp, FpOk X pins H b ∧ b < s.heap.objs.size) (hp : p ∈ X.pn) :
    Inv (X.blkH p s H scope (compEnvC scope (cellsFrom (s.heap.objs.size + 1) scope.names (cloFrom X.env.cells scope.names [])) s.heap.objs.size X.env) fp) [] (wipe σ (own.map (·.2))) H { s with heap := pushCells (s.heap.push { cls := .type "dict", data := .dict #[] }) scope.names } := by
  obtain ⟨h1, h2, h3, h4, h5⟩ := I.pin p (List.mem_append_left _ hp)
  exact (block_start I ok hN hfp).addPn ⟨pushCells_keeps _ _ _ _ (Heap.get?_push_of_some _ h1), h2, Nat.ne_of_lt (Heap.lt_size h1), fun z => (List.mem_cons.mp (I.stkSub p.1 z)).elim h3 h4, h5⟩
theorem lc_coreH {p : Addr × Obj} {pins : List (Addr × Obj)} {s : Shared} {σ : St} {H : Hp} {Q : VK} {elt tg iter : Expr} {ifs : List Expr} {scope : Scope} {own : List (Str × Nat)} {pos pos' : Pos} {wi : TI} {g : TG} {tt : TT} {te : TE} {use : Option (Value → Sem Unit)} {Qf : Value → Shared → Prop}
    (hot : Hot1 X.A p) (hpn : p ∈ X.pn) (hN : X.N.Nodup) (I : Inv X pins σ H s) (hi : PIH X tg iter wi) (ok : BlkOk X.N X.env.scope scope own)
    (hg : ∀ (s : Shared) (H : Hp) (C : Addr) (cl : List (Str × Addr)) (fp : List Addr), PG (X.blkH p s H scope (compEnvC scope cl C X.env) fp) tg g) (ht : ∀ (s : Shared) (H : Hp) (C : Addr) (cl : List (Str × Addr)) (fp : List Addr), PTs (X.blkH p s H scope (compEnvC scope cl C X.env) fp) ifs tt)
    (he : ∀ (s : Shared) (H : Hp) (C : Addr) (cl : List (Str × Addr)) (fp : List Addr), PE (X.blkH p s H scope (compEnvC scope cl C X.env) fp) elt te) (hs : ∀ x, foldedSetIterable iter X.env x = pure x)
    (h : tLc wi g tt te (own.map (·.2)) σ H Q)
    (hRR : ∀ D C s' m H', Inv X pins σ H' s' → Q (.ref D) H' → s'.heap.Ns C m → FpOk X pins H' C → compPost (model X.prog X.w) X.A X.xe use Qf (.ref D) C (.ok .next) s') :
    wpAny (model X.prog X.w) X.A (comprehension (.ListComp elt [⟨tg, iter, ifs, 0⟩] scope pos) scope X.env pos' (newList []) false (eval iter X.env) use) Qf X.xe s := by
  have hfree : ∀ y ∈ scope.names, y.2 = .free → ∃ c, X.env.cells.lookup y.1 = some c := fun y hy e => by
    rcases ok.free y hy e with k | k
    · exact I.ok.has _ (.inl k)
    · exact I.ok.has _ (.inr k)
  refine wpAny_comprehension_free (use := use) rfl hs (closure_ok hfree) ok.kind (fun y hy e => by rw [ok.uniq y hy, e])
    (thn (hi.run pins s σ H _ I h) fun xv s1 hx => thn hx fun itv s2 h2 => ?_)
  obtain ⟨it, fp, tn, J, H2, e, I2, T, st2, f2, q⟩ := h2
  subst e
  refine wpAny_newObj_type (newEnv_comp ?_) (by show 0 ≤ sizeLine; decide)
  generalize hD : s2.heap.objs.size = D
  have hDn : H2 D = none := I2.hok.fresh (Nat.le_of_eq hD)
  obtain ⟨W, ⟨m0, w0⟩, turn⟩ := q D hDn
  -- the new list
  generalize hs3 : ({ s2 with heap := s2.heap.push { cls := .type "list", data := .seq ([] : List Value).toArray } } : Shared) = s3
  have I3 : Inv X pins σ (upd H2 D (.lst [])) s3 := by
    rw [← hs3]
    refine I2.laid (t' := s2.toks) (fun b o e => Heap.get?_push_of_some _ e) (Nat.le_of_eq hD) ⟨Nat.zero_le _, [], 0, .nil, ?_⟩
    rw [← hD]
    exact Heap.get?_push_size _ rfl
  have h3 : s3.heap = s2.heap.push { cls := .type "list", data := .seq ([] : List Value).toArray } := by rw [← hs3]
  have sz : ∀ b ∈ fp, b < s2.heap.objs.size := fun b hb => by
    obtain ⟨o, e, _⟩ := T.obj _ _ st2 b hb
    exact Heap.lt_size e
  have f3 : ∀ b ∈ fp, FpOk X pins (upd H2 D (.lst [])) b ∧ b < s3.heap.objs.size := fun b hb => by
    have hlt := sz b hb
    refine ⟨⟨?_, (f2 b hb).2⟩, by rw [h3, Heap.size_push]; exact Nat.lt_succ_of_lt hlt⟩
    rw [upd_ne (by rw [← hD]; exact Nat.ne_of_lt hlt)]
    exact (f2 b hb).1
  have st3 : tn 0 s3.heap := T.keep _ _ _ st2 fun b _ o e => by rw [h3]; exact Heap.get?_push_of_some _ e
  have I4 := blockH I3 ok hN f3 hpn
  have pg := hg s3 (upd H2 D (.lst [])) s3.heap.objs.size (cellsFrom (s3.heap.objs.size + 1) scope.names (cloFrom X.env.cells scope.names [])) fp
  have pt := ht s3 (upd H2 D (.lst [])) s3.heap.objs.size (cellsFrom (s3.heap.objs.size + 1) scope.names (cloFrom X.env.cells scope.names [])) fp
  have pe := he s3 (upd H2 D (.lst [])) s3.heap.objs.size (cellsFrom (s3.heap.objs.size + 1) scope.names (cloFrom X.env.cells scope.names [])) fp
  show codeAny _ _ (.compStart (.ListComp elt [⟨tg, iter, ifs, 0⟩] scope pos) 0 (.ref it) (.ref D) (compEnvC scope (cellsFrom (s3.heap.objs.size + 1) scope.names (cloFrom X.env.cells scope.names [])) s3.heap.objs.size X.env)) (compPost (model X.prog X.w) X.A X.xe use Qf (.ref D) s3.heap.objs.size) { s3 with heap := pushCells (s3.heap.push { cls := .type "dict", data := .dict #[] }) scope.names }
  have nfp : ∀ b ∈ fp, (upd H2 D (.lst [])) b = none := fun b hb => (f3 b hb).1.1
  generalize hce : compEnvC scope (cellsFrom (s3.heap.objs.size + 1) scope.names (cloFrom X.env.cells scope.names [])) s3.heap.objs.size X.env = ce at I4 pg pt pe ⊢
  have cL : ce.locals = s3.heap.objs.size := by subst hce; rfl
  generalize hH3 : upd H2 D (.lst []) = H3 at I3 I4 pg pt pe w0 nfp f3
  generalize hs4 : ({ s3 with heap := pushCells (s3.heap.push { cls := .type "dict", data := .dict #[] }) scope.names } : Shared) = s4 at I4 ⊢
  have st4 : tn 0 s4.heap := T.keep _ _ _ st3 fun b _ o e => by rw [← hs4]; exact pushCells_keeps _ _ _ _ (Heap.get?_push_of_some _ e)
  have stat : ∀ {σ' : St} {H' : Hp} {s' : Shared}, Inv (X.blkH p s3 H3 scope ce fp) [] σ' H' s' → (∀ b ∈ fp, H' b = none) → ∀ b ∈ fp, FpOk (X.blkH p s3 H3 scope ce fp) [] H' b := fun {σ' H' s'} I' hn b hb =>
    ⟨hn b hb, (I'.ok.exf b hb).1, I'.ok.exfs b hb, .inl hb, fun x c e => (I'.ok.exf b hb).2 x c e, fun q hq => by
      have e : q = p := by simpa using (show q ∈ [p] ++ ([] : List (Addr × Obj)) from hq)
      rw [e]
      exact (f3 b hb).1.2.2.2.2.2 p (List.mem_append_left _ hpn)⟩
  have hotB : HotC (X.blkH p s3 H3 scope ce fp) := ⟨p, hot, List.mem_singleton.mpr rfl⟩
  have loop : codeAny (model X.prog X.w) X.A (.compLoop (.ListComp elt [⟨tg, iter, ifs, 0⟩] scope pos) 0 (.ref it) (.ref D) ce) (compPost (model X.prog X.w) X.A X.xe use Qf (.ref D) s3.heap.objs.size) s4 := by
    refine compLoop_any (fun n s' => ∃ i H', Inv (X.blkH p s3 H3 scope ce fp) [] (wipe σ (own.map (·.2))) H' s' ∧ tn i s'.heap ∧ (∀ b ∈ fp, H' b = none) ∧ W i n H') ?_ m0 ⟨0, H3, I4, st4, nfp, w0⟩
    rintro n s5 ⟨i, H5, I5, st5, n5, w5⟩
    rcases turn i n H5 w5 with ⟨stop, qq⟩ | ⟨go, Nx, hNx, step⟩
    · have td := T.done (X.blkH p s3 H3 scope ce fp) rfl rfl rfl hotB i [] s5 _ H5 (fun _ _ => False) I5 (stat I5 n5) st5 stop
      refine thnF td fun r s6 ⟨hr, I6⟩ => ?_
      subst hr
      -- back in the def's context
      have I7 : Inv X pins σ H5 s6 := I3.call' (ch := fp) I6.os I6.base I6.hok I6.bare fun b hb => ⟨(f3 b hb).1.2.2.2.1, (f3 b hb).1.2.1, (f3 b hb).1.2.2.2.2.1, (f3 b hb).1.2.2.2.2.2⟩
      have nC : H5 s3.heap.objs.size = none := by
        have z : H5 ce.locals = none := I6.free
        rw [cL] at z
        exact z
      obtain ⟨m, hn, _⟩ := I6.loc
      have hn : s6.heap.Ns ce.locals m := hn
      rw [cL] at hn
      exact hRR D s3.heap.objs.size s6 m H5 I7 qq hn (I3.fpOk (Nat.le_refl _) nC)
    · have ti := T.item (X.blkH p s3 H3 scope ce fp) rfl rfl rfl hotB i [] s5 _ H5 (fun _ _ => False) I5 (stat I5 n5) st5 go
      refine thnF ti fun r s6 ⟨u, hr, h6⟩ => ?_
      subst hr
      refine thnF h6 fun _ s7 ⟨x, H7, I7, r7, y7, st7, n7⟩ => ?_
      have I7' := I7.pinned (stat I7 n7) (T.obj _ _ st7)
      refine thnF (pg.run _ s7 _ H7 x u _ I7' r7 (step x H7 y7)) fun _ s8 ⟨σ8, H8, I8, hw8, q8⟩ => ?_
      refine thnF (pt.run _ s8 σ8 H8 _ I8 q8) fun b s9 ⟨H9, I9, q9⟩ => ?_
      -- the turn's end
      have fin : ∀ {s' : Shared} {H' : Hp}, Inv (X.blkH p s3 H3 scope ce fp) ([] ++ pinsAt fp s7.heap) σ8 H' s' → Nx H' → ∃ m, m < n ∧ ∃ i H', Inv (X.blkH p s3 H3 scope ce fp) [] (wipe σ (own.map (·.2))) H' s' ∧ tn i s'.heap ∧ (∀ b ∈ fp, H' b = none) ∧ W i m H' := fun {s' H'} I' nx => by
        obtain ⟨m', hm, w'⟩ := hNx H' nx
        have pin' : ∀ b ∈ fp, ∀ o, s7.heap.get? b = some o → s'.heap.get? b = some o ∧ H' b = none := fun b hb o e =>
          let z := I'.pin (b, o) (List.mem_append_right _ (List.mem_append_right _ (mem_pinsAt hb e)))
          ⟨z.1, z.2.1⟩
        have hl : (wipe σ (own.map (·.2))).length = σ8.length := by rw [← hw8, wipe_length]
        refine ⟨m', hm, i + 1, H', (I'.unpinned (pins := [])).weak hl (fun j v e => ?_), T.keep _ _ _ st7 fun b hb o e => (pin' b hb o e).1, fun b hb => ?_, w'⟩
        · rw [← hw8] at e
          exact (wipe_some e).1
        · obtain ⟨o, e, _⟩ := T.obj _ _ st7 b hb
          exact (pin' b hb o e).2
      cases b with
      | false =>
        simp only [Bool.false_eq_true, if_false] at q9 ⊢
        exact fin I9 q9
      | true =>
        simp only [if_true] at q9 ⊢
        refine thnF (pe.run _ s9 σ8 H9 _ I9 q9) fun z s10 ⟨yv, H10, I10, r10, acc, hD10, hz10, nx⟩ => ?_
        exact app_ok (X := X.blkH p s3 H3 scope ce fp) I10 hD10 hz10 r10 fun s11 I11 => fin I11 nx
  exact codeAny_compStart_list loop (T.self X.A 0 _ _ _ st4 loop)
theorem pe_lcH {p : Addr × Obj} {elt tg iter : Expr} {ifs : List Expr} {scope : Scope} {own : List (Str × Nat)} {pos : Pos} {wi : TI} {g : TG} {tt : TT} {te : TE} (hot : Hot1 X.A p) (hpn : p ∈ X.pn) (hN : X.N.Nodup) (hi : PIH X tg iter wi) (ok : BlkOk X.N X.env.scope scope own)
    (hg : ∀ (s : Shared) (H : Hp) (C : Addr) (cl : List (Str × Addr)) (fp : List Addr), PG (X.blkH p s H scope (compEnvC scope cl C X.env) fp) tg g) (ht : ∀ (s : Shared) (H : Hp) (C : Addr) (cl : List (Str × Addr)) (fp : List Addr), PTs (X.blkH p s H scope (compEnvC scope cl C X.env) fp) ifs tt)
    (he : ∀ (s : Shared) (H : Hp) (C : Addr) (cl : List (Str × Addr)) (fp : List Addr), PE (X.blkH p s H scope (compEnvC scope cl C X.env) fp) elt te) (hs : ∀ x, foldedSetIterable iter X.env x = pure x := by intro _; rfl) :
    PE X (.ListComp elt [⟨tg, iter, ifs, 0⟩] scope pos) (tLc wi g tt te (own.map (·.2))) := by
  refine ⟨fun pins s σ H Q I h => ?_⟩
  rw [eval_ListComp]
  refine lc_coreH hot hpn hN I hi ok hg ht he hs h fun D C s' m H' I' q hn f => ⟨m, hn, fun h'' sb => ?_⟩
  obtain ⟨f0, f1, f2, f3, f4, f5⟩ := f
  exact ⟨.ref D, H', I'.turned (t' := s'.toks) (fun b o hb e => (sb.2 b hb).trans e) f0 f1 f3 f4 f5, rfl, q⟩
end
end L2
/-! _law_classes, asked of the error that is handled. -/
namespace K0
open PySem PySem.Spec PyProof.Rows L2 L2H HotX
/-! ### defs that are told which error is handled -/
structure FnHp (P : Program) (w : World) (K : PySem.W.Frag) (mg : Str → Option Value) (base : Heap) (CX : CXT) (k : Nat) (f : Addr) (fd : FuncData) (ps : List Str) (sp : Addr × Obj → Sp) : Prop where
  len : ∀ p vs H Q E, sp p vs H Q E → vs.length = ps.length
  run : ∀ (A : Around) (outer : List Env) (s : Shared) (H : Hp) (args : Args) (us : List Value) (vs : List V) (Q : VK) (E : XK) (p : Addr × Obj), RoomH k A → Hot1 A p → PinOk outer H s p → Env0 P w K mg base A outer s H → BindsTo s fd args (ps.zip us) → Vals vs us → sp p vs H Q E →
    codeAny (model P w) A (.call (.ref f) args) (CR CX outer P w H s Q E) s
theorem fn_hp {CX : CXT} {P : Program} {w : World} {K : PySem.W.Frag} {mg : Str → Option Value} {base : Heap} {k : Nat} {f : Addr} {name qual : Str} {params : Arguments} {body : List Stmt} {scope : Scope} {fd : FuncData} {N ps : List Str} {sp : Addr × Obj → Sp} (F : FunD K name qual params body scope [] [] f fd) (S : FnScope N ps scope)
    (len : ∀ p vs H Q E, sp p vs H Q E → vs.length = ps.length)
    (hbody : ∀ (cdv : Value) (A : Around) (outer : List Env) (s : Shared) (H : Hp) (vs : List V) (Q : VK) (E : XK) (p : Addr × Obj), Hot1 A p → RoomH k (A.deeper (envOfC qual scope s.heap.objs.size f cdv)) → sp p vs H Q E →
      ∃ t, PSs (cxH CX P w K mg base N qual scope f cdv A outer s H E p) body t ∧ t { nx := fun _ H' => Q .non H', rt := Q } (L2.start N vs) H) :
    FnHp P w K mg base CX (k + 1) f fd ps sp := by
  obtain ⟨oc, od, dV, kV, doc, pm, an, cdv, ct, osl, rfl, lk, hcd, _, _⟩ := F.ex
  refine ⟨len, fun A outer s H args us vs Q E p hr hot hpin e0 hb r hsp => ?_⟩
  have hl := len _ _ _ _ _ hsp
  have KX : K.In s.heap := e0.mod.kin.keeps fun b o e => (e0.bs b o e).1
  have lim : s.heap.NoLimit := e0.mod.nolimit.keeps fun b o e => (e0.bs b o e).1
  have hkind : ∀ y ∈ ps.zip us, scope.names.lookup y.1 = some .local ∨ (scope.names.lookup y.1 = some .cell ∧ ((cellsFrom (s.heap.objs.size + 1) scope.names []).lookup y.1).isSome = true) := fun ⟨n, v⟩ hy => by
    rcases S.par n (List.of_mem_zip hy).1 with q | q
    · exact .inl q
    · exact .inr ⟨q, PySem.W.cellsFrom_some _ _ _ (.inl q)⟩
  refine codeAny_call_function hr.depth (KX _ _ lk) rfl S.co S.gen rfl (PySem.W.codeRec_of KX hcd) (hb _ _ _ _ ?_)
  refine wpAny_newFunctionEnv_cells S.kind hkind fun env he s1 x => ?_
  subst he
  refine ⟨lim.keeps x.toInCall.keep, codeAny_func ?_⟩
  obtain ⟨t, ht, hq⟩ := hbody cdv A outer s H vs Q E p hot (hr.deeper _) hsp
  have I : Inv (cxH CX P w K mg base N qual scope f cdv A outer s H E p) [] (L2.start N vs) H s1 := inv_startH S hpin e0 hl r x
  refine wpAny_mono (ht.run [] s1 (L2.start N vs) H _ I hq) (fun fl s' hs => ?_) fun e s' hs => hs
  cases fl with
  | ret u =>
    obtain ⟨v, σ', H', J, rv, q⟩ := hs
    exact ⟨v, H', J.os, J.bare, J.base, J.hok, rv, q⟩
  | next =>
    obtain ⟨σ', H', J, q⟩ := hs
    exact ⟨.non, H', J.os, J.bare, J.base, J.hok, rfl, q⟩
  | brk =>
    obtain ⟨_, _, _, q⟩ := hs
    exact False.elim q
  | cont =>
    obtain ⟨_, _, _, q⟩ := hs
    exact False.elim q
theorem pe_callHp {X : Cx} {CX : CXT} {k : Nat} {f : Addr} {fd : FuncData} {ps : List Str} {sp : Addr × Obj → Sp} {E : L2.St → XK} {x : Str} {q pos : Pos} {e : Expr} {es : List Expr} {t : TA} {p : Addr × Obj} (F : FnHp X.prog X.w X.K X.mg X.base CX k f fd ps sp) (hr : RoomH k X.A) (hot : Hot1 X.A p) (hp : p ∈ X.pn) (hg : Gl X x) (hm : X.mg x = some (.ref f)) (hk : PySem.W.keepIn X.K (.ref f) = true) (hb : L2.Binds X.K fd ps []) (hx : ∀ σ, PassesAt CX X σ (E σ))
    (ha : PA X (e :: es) t) (hdb : (x == ("__debug__" : Str)) = false := by decide) (he : starEach (e :: es) X.env = (false, eval e X.env) :: starEach es X.env := by rfl) (hpl : (backTo pos (starEach es X.env)).any (·.1) = false := by rfl) :
    PE X (.Call (.Name x q) (e :: es) [] pos) (tCallS (sp p) E t) := by
  refine ⟨fun pins s σ H Q I h => ?_⟩
  refine wpAny_Call_Name_kw (ld_glob I hg hm ?_ hdb)
  refine PySem.W.callWith_K (h₀ := X.base) I.ok.mod.kin hk (thn (ha.run pos pins s σ H _ I h) fun us s1 ⟨vs, H1, I1, r, q1⟩ => ⟨I1.kIn, ?_⟩) he hpl
  show wpAny _ _ (call (.ref f) us) _ _ _
  have hl : us.length = ps.length := by rw [← r.length]; exact F.len _ _ _ _ _ q1
  have b := hb s1 us I1.kIn (by rw [List.append_nil]; exact hl)
  rw [List.append_nil] at b
  have P1 := I1.pin p (List.mem_append_left _ hp)
  have hpin : PinOk X.stack H1 s1 p := ⟨P1.1, P1.2.1, fun hm => (List.mem_cons.mp (I1.stkSub p.1 hm)).elim P1.2.2.1 P1.2.2.2.1, P1.2.2.2.2⟩
  refine wpAny_call (codeAny_mono (F.run X.A X.stack s1 H1 ⟨us, []⟩ us vs Q (E σ) p hr hot hpin I1.env0 b r q1) fun r s' hq => ?_)
  cases r with
  | error e => exact hx σ pins H1 s1 e s' I1 hq
  | ok fl =>
    cases fl with
    | ret u => exact I1.after hq
    | next => exact False.elim hq
    | brk => exact False.elim hq
    | cont => exact False.elim hq
/-! ### isinstance of the error that is handled -/
def AtP (d : Option Addr) (H : Hp) : Prop := ∀ dd, d = some dd → ∃ fs, H dd = some (exd dd fs)
theorem AtP.same {d : Option Addr} : ∀ H H', Same H H' → AtP d H → AtP d H' := fun H H' s h dd e => by
  obtain ⟨fs, q⟩ := h dd e
  exact ⟨fs, s _ _ q⟩
theorem inst_P {X : Cx} {pins : List (Addr × Obj)} {σ : L2.St} {H : Hp} {s : Shared} {p : Addr × Obj} {C : Addr} {d : Option Addr} (I : Inv X pins σ H s) (hp : p ∈ X.pn) (hz : Zc (.ref C) d p.2) (hf : ∃ vs, p.2.data = .fields vs) (hd : AtP d H) : ∃ od, PySem.W.InstAt s.heap p.1 p.2 C od := by
  obtain ⟨a, oe⟩ := p
  obtain ⟨hget, _⟩ := I.pin (a, oe) (List.mem_append_left _ hp)
  obtain ⟨oc, od, oda, osl⟩ := oe
  obtain ⟨vs, hv⟩ := hf
  obtain ⟨h1, h2⟩ := hz
  dsimp only at h1 h2 hv hget
  subst h1 h2 hv
  cases od with
  | none => exact ⟨none, hget, rfl, rfl, trivial⟩
  | some dd =>
    obtain ⟨fs, e2⟩ := hd dd rfl
    obtain ⟨mA, hns, _⟩ := exd_at I.hok e2
    obtain ⟨od, hod, _⟩ := lookIn_ns hns
    exact ⟨some od, hget, rfl, rfl, hod⟩
section
variable {X : Cx} {p : Addr × Obj} {C : Addr} {d : Option Addr}
theorem call_isiP (Z : Cls1 X.K) (T : ErrC X.K C) (hp : p ∈ X.pn) (hz : Zc (.ref C) d p.2) (hf : ∃ vs, p.2.data = .fields vs) : CallR X (.builtin "isinstance") (rIsA X.K C p.1 (AtP d)) := by
  intro pins s σ H xs us Q I r h
  obtain ⟨c, u, b, rfl, hA, k, e, q⟩ := h
  obtain ⟨u1, u2, rfl, r1, r2⟩ := vals2 r
  have e2 := k.eq r2
  subst e2
  obtain rfl : u1 = Value.ref p.1 := r1
  obtain ⟨od, J⟩ := inst_P I hp hz hf hA
  exact PySem.W.kia_one (PySem.W.kitx_exc (cls_some T) T.ga T.gg T.exC T.ca Z.hn Z.ht T.ob) I.kIn J e (fun z => nomatch z) fun tk => ⟨.bl b, H, I.tok tk, rfl, q⟩
theorem call_isiPT (Z : Cls1 X.K) (T : ErrC X.K C) (hp : p ∈ X.pn) (hz : Zc (.ref C) d p.2) (hf : ∃ vs, p.2.data = .fields vs) : CallR X (.builtin "isinstance") (rIsAT X.K C p.1 (AtP d)) := by
  intro pins s σ H xs us Q I r h
  obtain ⟨tp, cs, ws, b, rfl, hT, hA, k, e, q⟩ := h
  obtain ⟨u1, u2, rfl, r1, r2⟩ := vals2 r
  cases (show u2 = Value.ref tp from r2)
  obtain rfl : u1 = Value.ref p.1 := r1
  obtain ⟨od, J⟩ := inst_P I hp hz hf hA
  obtain ⟨_, its, rv, o, h1, h2, n, h3⟩ := (show ObjOk X.prog X.w H s.heap tp (.tup cs) from I.hok tp _ hT)
  have e3 := ClsV.all k rv
  subst e3
  obtain ⟨oc, od', dt, sl⟩ := o
  simp only at h2 h3
  subst h2 h3
  exact PySem.W.kia_tup (PySem.W.kitx_exc (cls_some T) T.ga T.gg T.exC T.ca Z.hn Z.ht T.ob) I.kIn J h1 e (fun z => nomatch z) fun tk => ⟨.bl b, H, I.tok tk, rfl, q⟩
end
/-- the promise where the error is handled -/
def spClsP (K : PySem.W.Frag) (p : Addr × Obj) : Sp := fun vs H Q E => ∃ (x : Str) (d : Option Addr), x ∈ wordOf.map (·.1) ∧ ErrC K (He.ga K x) ∧ Zc (.ref (He.ga K x)) d p.2 ∧ (∃ vs, p.2.data = .fields vs) ∧ spCls (AtP d) p.1 x vs H Q E
section
variable {P : Program} {w : World} {K : PySem.W.Frag} {mg : Str → Option Value} {base : Heap} {f : Addr} {fd : FuncData}
theorem ok_classesP (F : FnP K "_law_classes" sClasses f fd) (KT : Kit K mg) (B : Bl mg) : FnHp P w K mg base CX0 1 f fd ["e"] (spClsP K) := by
  have G_BadRings : mg "BadRings" = some (.ref (He.ga K "BadRings")) := KT.gm _ (by decide +kernel)
  have G_BadPlace : mg "BadPlace" = some (.ref (He.ga K "BadPlace")) := KT.gm _ (by decide +kernel)
  have G_BadLot : mg "BadLot" = some (.ref (He.ga K "BadLot")) := KT.gm _ (by decide +kernel)
  have G_BadOrder : mg "BadOrder" = some (.ref (He.ga K "BadOrder")) := KT.gm _ (by decide +kernel)
  have G_BadNumber : mg "BadNumber" = some (.ref (He.ga K "BadNumber")) := KT.gm _ (by decide +kernel)
  have G_BadCount : mg "BadCount" = some (.ref (He.ga K "BadCount")) := KT.gm _ (by decide +kernel)
  have G_BadRow : mg "BadRow" = some (.ref (He.ga K "BadRow")) := KT.gm _ (by decide +kernel)
  have G_BadWhole : mg "BadWhole" = some (.ref (He.ga K "BadWhole")) := KT.gm _ (by decide +kernel)
  have G_BadItems : mg "BadItems" = some (.ref (He.ga K "BadItems")) := KT.gm _ (by decide +kernel)
  have G_BadHeard : mg "BadHeard" = some (.ref (He.ga K "BadHeard")) := KT.gm _ (by decide +kernel)
  have G_BadSeen : mg "BadSeen" = some (.ref (He.ga K "BadSeen")) := KT.gm _ (by decide +kernel)
  have G_BadSteps : mg "BadSteps" = some (.ref (He.ga K "BadSteps")) := KT.gm _ (by decide +kernel)
  have G_Nought : mg "Nought" = some (.ref (He.ga K "Nought")) := KT.gm _ (by decide +kernel)
  have G_Unfit : mg "Unfit" = some (.ref (He.ga K "Unfit")) := KT.gm _ (by decide +kernel)
  have G_TooMany : mg "TooMany" = some (.ref (He.ga K "TooMany")) := KT.gm _ (by decide +kernel)
  have G_BadDeed : mg "BadDeed" = some (.ref (He.ga K "BadDeed")) := KT.gm _ (by decide +kernel)
  have G_BadClaim : mg "BadClaim" = some (.ref (He.ga K "BadClaim")) := KT.gm _ (by decide +kernel)
  have G_Unkept : mg "Unkept" = some (.ref (He.ga K "Unkept")) := KT.gm _ (by decide +kernel)
  have G_NoClaim : mg "NoClaim" = some (.ref (He.ga K "NoClaim")) := KT.gm _ (by decide +kernel)
  have G_NothingToUndo : mg "NothingToUndo" = some (.ref (He.ga K "NothingToUndo")) := KT.gm _ (by decide +kernel)
  have G_NothingToRedo : mg "NothingToRedo" = some (.ref (He.ga K "NothingToRedo")) := KT.gm _ (by decide +kernel)
  have G_BadText : mg "BadText" = some (.ref (He.ga K "BadText")) := KT.gm _ (by decide +kernel)
  have G_RingError : mg "RingError" = some (.ref (He.ga K "RingError")) := KT.gm _ (by decide +kernel)
  refine fn_hp F scCls (fun p vs H Q E h => ?_) (fun cdv A outer s H vs Q E p hot hr h => ?_)
  · obtain ⟨x, d, _, _, _, _, rfl, _⟩ := h
    rfl
  · obtain ⟨x, d, hx, T, hz, hf, rfl, hA, k⟩ := h
    have hm := @AtP.same d
    have ci : CallR (Cx.nox (cxH CX0 P w K mg base ["e", "found", "word", "it"] "_law_classes" (defScope sClasses) f cdv A outer s H E p)) (.builtin "isinstance") (rIsA K (He.ga K x) p.1 (AtP d)) := call_isiP (cls1 K) T (List.mem_singleton.mpr rfl) hz hf
    have ciT : CallR (Cx.nox (cxH CX0 P w K mg base ["e", "found", "word", "it"] "_law_classes" (defScope sClasses) f cdv A outer s H E p)) (.builtin "isinstance") (rIsAT K (He.ga K x) p.1 (AtP d)) := call_isiPT (cls1 K) T (List.mem_singleton.mpr rfl) hz hf
    refine ⟨_, PSs.nox (pss_cons (ps_set (i := 1) scCls.nd rfl (Or.inl rfl) (pe_lst (pa_cons (pe_tup (pa_cons pe_str (pa_cons (pe_callB ci (by rfl) (B "isinstance" (by decide +kernel)) PyProof.Rows.boot_isinstance (pa_cons (pv 0) (pa_cons (pe_glob (v := .ref (He.ga K "BadRings")) (by rfl) G_BadRings rfl) pa_nil))) pa_nil))) (pa_cons (pe_tup (pa_cons pe_str (pa_cons (pe_callB ci (by rfl) (B "isinstance" (by decide +kernel)) PyProof.Rows.boot_isinstance (pa_cons (pv 0) (pa_cons (pe_glob (v := .ref (He.ga K "BadPlace")) (by rfl) G_BadPlace rfl) pa_nil))) pa_nil))) (pa_cons (pe_tup (pa_cons pe_str (pa_cons (pe_callB ci (by rfl) (B "isinstance" (by decide +kernel)) PyProof.Rows.boot_isinstance (pa_cons (pv 0) (pa_cons (pe_glob (v := .ref (He.ga K "BadLot")) (by rfl) G_BadLot rfl) pa_nil))) pa_nil))) pa_nil))))) (
      pss_cons (ps_set (i := 1) scCls.nd rfl (Or.inl rfl) (pe_op op_cat (pv 1) (pe_lst (pa_cons (pe_tup (pa_cons pe_str (pa_cons (pe_callB ci (by rfl) (B "isinstance" (by decide +kernel)) PyProof.Rows.boot_isinstance (pa_cons (pv 0) (pa_cons (pe_glob (v := .ref (He.ga K "BadOrder")) (by rfl) G_BadOrder rfl) pa_nil))) pa_nil))) (pa_cons (pe_tup (pa_cons pe_str (pa_cons (pe_callB ci (by rfl) (B "isinstance" (by decide +kernel)) PyProof.Rows.boot_isinstance (pa_cons (pv 0) (pa_cons (pe_glob (v := .ref (He.ga K "BadNumber")) (by rfl) G_BadNumber rfl) pa_nil))) pa_nil))) (pa_cons (pe_tup (pa_cons pe_str (pa_cons (pe_callB ci (by rfl) (B "isinstance" (by decide +kernel)) PyProof.Rows.boot_isinstance (pa_cons (pv 0) (pa_cons (pe_glob (v := .ref (He.ga K "BadCount")) (by rfl) G_BadCount rfl) pa_nil))) pa_nil))) pa_nil)))))) (
      pss_cons (ps_set (i := 1) scCls.nd rfl (Or.inl rfl) (pe_op op_cat (pv 1) (pe_lst (pa_cons (pe_tup (pa_cons pe_str (pa_cons (pe_callB ci (by rfl) (B "isinstance" (by decide +kernel)) PyProof.Rows.boot_isinstance (pa_cons (pv 0) (pa_cons (pe_glob (v := .ref (He.ga K "BadRow")) (by rfl) G_BadRow rfl) pa_nil))) pa_nil))) (pa_cons (pe_tup (pa_cons pe_str (pa_cons (pe_callB ci (by rfl) (B "isinstance" (by decide +kernel)) PyProof.Rows.boot_isinstance (pa_cons (pv 0) (pa_cons (pe_glob (v := .ref (He.ga K "BadWhole")) (by rfl) G_BadWhole rfl) pa_nil))) pa_nil))) (pa_cons (pe_tup (pa_cons pe_str (pa_cons (pe_callB ci (by rfl) (B "isinstance" (by decide +kernel)) PyProof.Rows.boot_isinstance (pa_cons (pv 0) (pa_cons (pe_glob (v := .ref (He.ga K "BadItems")) (by rfl) G_BadItems rfl) pa_nil))) pa_nil))) pa_nil)))))) (
      pss_cons (ps_set (i := 1) scCls.nd rfl (Or.inl rfl) (pe_op op_cat (pv 1) (pe_lst (pa_cons (pe_tup (pa_cons pe_str (pa_cons (pe_callB ci (by rfl) (B "isinstance" (by decide +kernel)) PyProof.Rows.boot_isinstance (pa_cons (pv 0) (pa_cons (pe_glob (v := .ref (He.ga K "BadHeard")) (by rfl) G_BadHeard rfl) pa_nil))) pa_nil))) (pa_cons (pe_tup (pa_cons pe_str (pa_cons (pe_callB ci (by rfl) (B "isinstance" (by decide +kernel)) PyProof.Rows.boot_isinstance (pa_cons (pv 0) (pa_cons (pe_glob (v := .ref (He.ga K "BadSeen")) (by rfl) G_BadSeen rfl) pa_nil))) pa_nil))) (pa_cons (pe_tup (pa_cons pe_str (pa_cons (pe_callB ci (by rfl) (B "isinstance" (by decide +kernel)) PyProof.Rows.boot_isinstance (pa_cons (pv 0) (pa_cons (pe_glob (v := .ref (He.ga K "BadSteps")) (by rfl) G_BadSteps rfl) pa_nil))) pa_nil))) pa_nil)))))) (
      pss_cons (ps_set (i := 1) scCls.nd rfl (Or.inl rfl) (pe_op op_cat (pv 1) (pe_lst (pa_cons (pe_tup (pa_cons pe_str (pa_cons (pe_callB ci (by rfl) (B "isinstance" (by decide +kernel)) PyProof.Rows.boot_isinstance (pa_cons (pv 0) (pa_cons (pe_glob (v := .ref (He.ga K "BadDeed")) (by rfl) G_BadDeed rfl) pa_nil))) pa_nil))) (pa_cons (pe_tup (pa_cons pe_str (pa_cons (pe_callB ci (by rfl) (B "isinstance" (by decide +kernel)) PyProof.Rows.boot_isinstance (pa_cons (pv 0) (pa_cons (pe_glob (v := .ref (He.ga K "BadClaim")) (by rfl) G_BadClaim rfl) pa_nil))) pa_nil))) (pa_cons (pe_tup (pa_cons pe_str (pa_cons (pe_callB ci (by rfl) (B "isinstance" (by decide +kernel)) PyProof.Rows.boot_isinstance (pa_cons (pv 0) (pa_cons (pe_glob (v := .ref (He.ga K "NoClaim")) (by rfl) G_NoClaim rfl) pa_nil))) pa_nil))) pa_nil)))))) (
      pss_cons (ps_set (i := 1) scCls.nd rfl (Or.inl rfl) (pe_op op_cat (pv 1) (pe_lst (pa_cons (pe_tup (pa_cons pe_str (pa_cons (pe_callB ci (by rfl) (B "isinstance" (by decide +kernel)) PyProof.Rows.boot_isinstance (pa_cons (pv 0) (pa_cons (pe_glob (v := .ref (He.ga K "Unfit")) (by rfl) G_Unfit rfl) pa_nil))) pa_nil))) (pa_cons (pe_tup (pa_cons pe_str (pa_cons (pe_callB ci (by rfl) (B "isinstance" (by decide +kernel)) PyProof.Rows.boot_isinstance (pa_cons (pv 0) (pa_cons (pe_glob (v := .ref (He.ga K "TooMany")) (by rfl) G_TooMany rfl) pa_nil))) pa_nil))) (pa_cons (pe_tup (pa_cons pe_str (pa_cons (pe_callB ci (by rfl) (B "isinstance" (by decide +kernel)) PyProof.Rows.boot_isinstance (pa_cons (pv 0) (pa_cons (pe_glob (v := .ref (He.ga K "Unkept")) (by rfl) G_Unkept rfl) pa_nil))) pa_nil))) pa_nil)))))) (
      pss_cons (ps_set (i := 1) scCls.nd rfl (Or.inl rfl) (pe_op op_cat (pv 1) (pe_lst (pa_cons (pe_tup (pa_cons pe_str (pa_cons (pe_callB ci (by rfl) (B "isinstance" (by decide +kernel)) PyProof.Rows.boot_isinstance (pa_cons (pv 0) (pa_cons (pe_glob (v := .ref (He.ga K "BadText")) (by rfl) G_BadText rfl) pa_nil))) pa_nil))) (pa_cons (pe_tup (pa_cons pe_str (pa_cons (pe_callB ci (by rfl) (B "isinstance" (by decide +kernel)) PyProof.Rows.boot_isinstance (pa_cons (pv 0) (pa_cons (pe_glob (v := .ref (He.ga K "Nought")) (by rfl) G_Nought rfl) pa_nil))) pa_nil))) (pa_cons (pe_tup (pa_cons pe_str (pa_cons (pe_callB ci (by rfl) (B "isinstance" (by decide +kernel)) PyProof.Rows.boot_isinstance (pa_cons (pv 0) (pa_cons (pe_glob (v := .ref (He.ga K "NothingToUndo")) (by rfl) G_NothingToUndo rfl) pa_nil))) pa_nil))) pa_nil)))))) (
      pss_cons (ps_set (i := 1) scCls.nd rfl (Or.inl rfl) (pe_op op_cat (pv 1) (pe_lst (pa_cons (pe_tup (pa_cons pe_str (pa_cons (pe_callB ci (by rfl) (B "isinstance" (by decide +kernel)) PyProof.Rows.boot_isinstance (pa_cons (pv 0) (pa_cons (pe_glob (v := .ref (He.ga K "NothingToRedo")) (by rfl) G_NothingToRedo rfl) pa_nil))) pa_nil))) (pa_cons (pe_tup (pa_cons pe_str (pa_cons (pe_callB ci (by rfl) (B "isinstance" (by decide +kernel)) PyProof.Rows.boot_isinstance (pa_cons (pv 0) (pa_cons (pe_glob (v := .ref (He.ga K "RingError")) (by rfl) G_RingError rfl) pa_nil))) pa_nil))) (pa_cons (pe_tup (pa_cons pe_str (pa_cons (pe_callB ci (by rfl) (B "isinstance" (by decide +kernel)) PyProof.Rows.boot_isinstance (pa_cons (pv 0) (pa_cons (pe_bltn (v := .ty "Exception") (by rfl) (B "Exception" (by decide +kernel)) (by decide +kernel) rfl) pa_nil))) pa_nil))) pa_nil)))))) (
      pss_cons (ps_set (i := 1) scCls.nd rfl (Or.inl rfl) (pe_op op_cat (pv 1) (pe_lst (pa_cons (pe_tup (pa_cons pe_str (pa_cons (pe_callB ci (by rfl) (B "isinstance" (by decide +kernel)) PyProof.Rows.boot_isinstance (pa_cons (pv 0) (pa_cons (pe_bltn (v := .ty "ValueError") (by rfl) (B "ValueError" (by decide +kernel)) (by decide +kernel) rfl) pa_nil))) pa_nil))) (pa_cons (pe_tup (pa_cons pe_str (pa_cons (pe_callB ciT (by rfl) (B "isinstance" (by decide +kernel)) PyProof.Rows.boot_isinstance (pa_cons (pv 0) (pa_cons (pe_tup (pa_cons (pe_bltn (v := .ty "LookupError") (by rfl) (B "LookupError" (by decide +kernel)) (by decide +kernel) rfl) (pa_cons (pe_bltn (v := .ty "KeyError") (by rfl) (B "KeyError" (by decide +kernel)) (by decide +kernel) rfl) (pa_cons (pe_bltn (v := .ty "IndexError") (by rfl) (B "IndexError" (by decide +kernel)) (by decide +kernel) rfl) pa_nil)))) pa_nil))) pa_nil))) pa_nil))))) (
      pss_cons (ps_set (i := 1) scCls.nd rfl (Or.inl rfl) (pe_op op_cat (pv 1) (pe_lst (pa_cons (pe_tup (pa_cons pe_str (pa_cons (pe_callB ciT (by rfl) (B "isinstance" (by decide +kernel)) PyProof.Rows.boot_isinstance (pa_cons (pv 0) (pa_cons (pe_tup (pa_cons (pe_bltn (v := .ty "ArithmeticError") (by rfl) (B "ArithmeticError" (by decide +kernel)) (by decide +kernel) rfl) (pa_cons (pe_bltn (v := .ty "ZeroDivisionError") (by rfl) (B "ZeroDivisionError" (by decide +kernel)) (by decide +kernel) rfl) (pa_cons (pe_bltn (v := .ty "OverflowError") (by rfl) (B "OverflowError" (by decide +kernel)) (by decide +kernel) rfl) pa_nil)))) pa_nil))) pa_nil))) pa_nil)))) (
      pss_cons (ps_set (i := 1) scCls.nd rfl (Or.inl rfl) (pe_op op_cat (pv 1) (pe_lst (pa_cons (pe_tup (pa_cons pe_str (pa_cons (pe_callB ciT (by rfl) (B "isinstance" (by decide +kernel)) PyProof.Rows.boot_isinstance (pa_cons (pv 0) (pa_cons (pe_tup (pa_cons (pe_bltn (v := .ty "TypeError") (by rfl) (B "TypeError" (by decide +kernel)) (by decide +kernel) rfl) (pa_cons (pe_bltn (v := .ty "RuntimeError") (by rfl) (B "RuntimeError" (by decide +kernel)) (by decide +kernel) rfl) (pa_cons (pe_bltn (v := .ty "NotImplementedError") (by rfl) (B "NotImplementedError" (by decide +kernel)) (by decide +kernel) rfl) (pa_cons (pe_bltn (v := .ty "AttributeError") (by rfl) (B "AttributeError" (by decide +kernel)) (by decide +kernel) rfl) pa_nil))))) pa_nil))) pa_nil))) pa_nil)))) (
      pss_one (ps_ret (pe_lcH (p := p) (own := [("word", 2), ("it", 3)]) (g := gTup K 2 (gCons (gName 2) (gCons (gName 3) gNil))) (tt := tB (tVar 3)) (te := tVar 2) hot (List.mem_singleton.mpr rfl) scCls.nd (pi_listH (pv 1)) (blkOk_by (own := [("word", 2), ("it", 3)]) (N := ["e", "found", "word", "it"]) (sc := defScope sClasses) (by decide +kernel)) (fun _ _ _ _ _ => pg_tupH ⟨p, hot, List.mem_singleton.mpr rfl⟩ (pgs_cons (pg_name (i := 2) scCls.nd rfl (Or.inl rfl)) (pgs_cons (pg_name (i := 3) scCls.nd rfl (Or.inl rfl)) pgs_nil))) (fun _ _ _ _ _ => pts_one (pt_val (pv 3))) (fun _ _ _ _ _ => pv 2))))))))))))))), ?_⟩
    have ko : ∀ y : Str, y ∈ wordOf.map (·.1) → PySem.W.kitOne K (.ref (He.ga K x)) (.ref (He.ga K y)) = some (decide (x = y)) := fun y hy => KT.own x y hx hy
    have kr := KT.root x hx
    have kb : ∀ (T : String) (b : Bool), PySem.W.kitMeta T = true → K0.exTail.contains (.type T) = b → PySem.W.kitOne K (.ref (He.ga K x)) (.type T) = some b := fun T b h1 h2 => KT.blt x T b hx h1 h2
    refine seq_asg ?_
    refine r_lst (rs := (RW0 x)) ?a0 rfl hm hA (Nat.le_of_ble_eq_true rfl) ?b0
    case a0 => exact (r_cons (row1 (.own _) (ko "BadRings" (by decide +kernel))) (r_cons (row1 (.own _) (ko "BadPlace" (by decide +kernel))) (r_cons (row1 (.own _) (ko "BadLot" (by decide +kernel))) r_nil)))
    intro p0 H0 x0 s0 h0 r0
    refine seq_asg ?_
    refine r_cat (rs := (RW0 x)) (ss := (RW1 x)) ?a1 rfl hm (hm _ _ s0 hA) rfl h0 r0 (Nat.le_of_ble_eq_true rfl) (Nat.le_of_ble_eq_true rfl) ?b1
    case a1 => exact (r_cons (row1 (.own _) (ko "BadOrder" (by decide +kernel))) (r_cons (row1 (.own _) (ko "BadNumber" (by decide +kernel))) (r_cons (row1 (.own _) (ko "BadCount" (by decide +kernel))) r_nil)))
    intro p1 H1 x1 t1 h1 r1
    have s1 := s0.trans t1
    refine seq_asg ?_
    refine r_cat (rs := ((RW0 x) ++ (RW1 x))) (ss := (RW2 x)) ?a2 rfl hm (hm _ _ s1 hA) rfl h1 r1 (Nat.le_of_ble_eq_true rfl) (Nat.le_of_ble_eq_true rfl) ?b2
    case a2 => exact (r_cons (row1 (.own _) (ko "BadRow" (by decide +kernel))) (r_cons (row1 (.own _) (ko "BadWhole" (by decide +kernel))) (r_cons (row1 (.own _) (ko "BadItems" (by decide +kernel))) r_nil)))
    intro p2 H2 x2 t2 h2 r2
    have s2 := s1.trans t2
    refine seq_asg ?_
    refine r_cat (rs := (((RW0 x) ++ (RW1 x)) ++ (RW2 x))) (ss := (RW3 x)) ?a3 rfl hm (hm _ _ s2 hA) rfl h2 r2 (Nat.le_of_ble_eq_true rfl) (Nat.le_of_ble_eq_true rfl) ?b3
    case a3 => exact (r_cons (row1 (.own _) (ko "BadHeard" (by decide +kernel))) (r_cons (row1 (.own _) (ko "BadSeen" (by decide +kernel))) (r_cons (row1 (.own _) (ko "BadSteps" (by decide +kernel))) r_nil)))
    intro p3 H3 x3 t3 h3 r3
    have s3 := s2.trans t3
    refine seq_asg ?_
    refine r_cat (rs := ((((RW0 x) ++ (RW1 x)) ++ (RW2 x)) ++ (RW3 x))) (ss := (RW4 x)) ?a4 rfl hm (hm _ _ s3 hA) rfl h3 r3 (Nat.le_of_ble_eq_true rfl) (Nat.le_of_ble_eq_true rfl) ?b4
    case a4 => exact (r_cons (row1 (.own _) (ko "BadDeed" (by decide +kernel))) (r_cons (row1 (.own _) (ko "BadClaim" (by decide +kernel))) (r_cons (row1 (.own _) (ko "NoClaim" (by decide +kernel))) r_nil)))
    intro p4 H4 x4 t4 h4 r4
    have s4 := s3.trans t4
    refine seq_asg ?_
    refine r_cat (rs := (((((RW0 x) ++ (RW1 x)) ++ (RW2 x)) ++ (RW3 x)) ++ (RW4 x))) (ss := (RW5 x)) ?a5 rfl hm (hm _ _ s4 hA) rfl h4 r4 (Nat.le_of_ble_eq_true rfl) (Nat.le_of_ble_eq_true rfl) ?b5
    case a5 => exact (r_cons (row1 (.own _) (ko "Unfit" (by decide +kernel))) (r_cons (row1 (.own _) (ko "TooMany" (by decide +kernel))) (r_cons (row1 (.own _) (ko "Unkept" (by decide +kernel))) r_nil)))
    intro p5 H5 x5 t5 h5 r5
    have s5 := s4.trans t5
    refine seq_asg ?_
    refine r_cat (rs := ((((((RW0 x) ++ (RW1 x)) ++ (RW2 x)) ++ (RW3 x)) ++ (RW4 x)) ++ (RW5 x))) (ss := (RW6 x)) ?a6 rfl hm (hm _ _ s5 hA) rfl h5 r5 (Nat.le_of_ble_eq_true rfl) (Nat.le_of_ble_eq_true rfl) ?b6
    case a6 => exact (r_cons (row1 (.own _) (ko "BadText" (by decide +kernel))) (r_cons (row1 (.own _) (ko "Nought" (by decide +kernel))) (r_cons (row1 (.own _) (ko "NothingToUndo" (by decide +kernel))) r_nil)))
    intro p6 H6 x6 t6 h6 r6
    have s6 := s5.trans t6
    refine seq_asg ?_
    refine r_cat (rs := (((((((RW0 x) ++ (RW1 x)) ++ (RW2 x)) ++ (RW3 x)) ++ (RW4 x)) ++ (RW5 x)) ++ (RW6 x))) (ss := (RW7 x)) ?a7 rfl hm (hm _ _ s6 hA) rfl h6 r6 (Nat.le_of_ble_eq_true rfl) (Nat.le_of_ble_eq_true rfl) ?b7
    case a7 => exact (r_cons (row1 (.own _) (ko "NothingToRedo" (by decide +kernel))) (r_cons (row1 (.own _) kr) (r_cons (row1 (.ty _) (kb "Exception" true (by decide +kernel) (by decide +kernel))) r_nil)))
    intro p7 H7 x7 t7 h7 r7
    have s7 := s6.trans t7
    refine seq_asg ?_
    refine r_cat (rs := ((((((((RW0 x) ++ (RW1 x)) ++ (RW2 x)) ++ (RW3 x)) ++ (RW4 x)) ++ (RW5 x)) ++ (RW6 x)) ++ (RW7 x))) (ss := (RW8 x)) ?a8 rfl hm (hm _ _ s7 hA) rfl h7 r7 (Nat.le_of_ble_eq_true rfl) (Nat.le_of_ble_eq_true rfl) ?b8
    case a8 => exact (r_cons (row1 (.ty _) (kb "ValueError" false (by decide +kernel) (by decide +kernel))) (r_cons (rowT3 (.cons (.ty _) (.cons (.ty _) (.cons (.ty _) .nil))) (kitAny_cons (kb "LookupError" false (by decide +kernel) (by decide +kernel)) (fun _ => (kitAny_cons (kb "KeyError" false (by decide +kernel) (by decide +kernel)) (fun _ => (kitAny_cons (kb "IndexError" false (by decide +kernel) (by decide +kernel)) (fun _ => kitAny_nil) (fun z => Bool.noConfusion z))) (fun z => Bool.noConfusion z))) (fun z => Bool.noConfusion z))) r_nil))
    intro p8 H8 x8 t8 h8 r8
    have s8 := s7.trans t8
    refine seq_asg ?_
    refine r_cat (rs := (((((((((RW0 x) ++ (RW1 x)) ++ (RW2 x)) ++ (RW3 x)) ++ (RW4 x)) ++ (RW5 x)) ++ (RW6 x)) ++ (RW7 x)) ++ (RW8 x))) (ss := (RW9 x)) ?a9 rfl hm (hm _ _ s8 hA) rfl h8 r8 (Nat.le_of_ble_eq_true rfl) (Nat.le_of_ble_eq_true rfl) ?b9
    case a9 => exact (r_cons (rowT3 (.cons (.ty _) (.cons (.ty _) (.cons (.ty _) .nil))) (kitAny_cons (kb "ArithmeticError" false (by decide +kernel) (by decide +kernel)) (fun _ => (kitAny_cons (kb "ZeroDivisionError" false (by decide +kernel) (by decide +kernel)) (fun _ => (kitAny_cons (kb "OverflowError" false (by decide +kernel) (by decide +kernel)) (fun _ => kitAny_nil) (fun z => Bool.noConfusion z))) (fun z => Bool.noConfusion z))) (fun z => Bool.noConfusion z))) r_nil)
    intro p9 H9 x9 t9 h9 r9
    have s9 := s8.trans t9
    refine seq_asg ?_
    refine r_cat (rs := ((((((((((RW0 x) ++ (RW1 x)) ++ (RW2 x)) ++ (RW3 x)) ++ (RW4 x)) ++ (RW5 x)) ++ (RW6 x)) ++ (RW7 x)) ++ (RW8 x)) ++ (RW9 x))) (ss := (RW10 x)) ?a10 rfl hm (hm _ _ s9 hA) rfl h9 r9 (Nat.le_of_ble_eq_true rfl) (Nat.le_of_ble_eq_true rfl) ?b10
    case a10 => exact (r_cons (rowT4 (.cons (.ty _) (.cons (.ty _) (.cons (.ty _) (.cons (.ty _) .nil)))) (kitAny_cons (kb "TypeError" false (by decide +kernel) (by decide +kernel)) (fun _ => (kitAny_cons (kb "RuntimeError" false (by decide +kernel) (by decide +kernel)) (fun _ => (kitAny_cons (kb "NotImplementedError" false (by decide +kernel) (by decide +kernel)) (fun _ => (kitAny_cons (kb "AttributeError" false (by decide +kernel) (by decide +kernel)) (fun _ => kitAny_nil) (fun z => Bool.noConfusion z))) (fun z => Bool.noConfusion z))) (fun z => Bool.noConfusion z))) (fun z => Bool.noConfusion z))) r_nil)
    intro p10 H10 x10 t10 h10 r10
    have s10 := s9.trans t10
    have rr : Rows H10 x10 (rowsOf x) := r10
    have sE := s10
    refine ⟨_, rfl, p10, rfl, ⟨_, SqL.of h10⟩, fun D nD => ?_⟩
    exact cls_end rr h10 nD rfl (Nat.le_of_ble_eq_true rfl) (fun p H' s' hp => k p H' (sE.trans s') hp)
end
end K0
/-! _law_caught. -/
namespace K0
open PySem PySem.Spec PyProof.Rows L2 L2H HotX
section
variable {X : Cx}
/-- raise of an error that is tracked -/
theorem pmk_exo {e : Expr} {te : TE} (hx : X.ex = []) (he : PE X e te) :
    L2N.PMk X e (fun σ H Q => te σ H fun x H1 => ∃ (a C : Addr) (d : Option Addr), x = .ref a ∧ H1 a = some (exo a C d) ∧ Fr0 X.H_0 a ∧ ErrC X.K C ∧ Q (.ref C) d (delH H1 a)) := by
  intro pins s σ H Q I h
  refine wpAny_mono (he.run pins s σ H _ I h) (fun u s1 hu => ?_) fun _ _ x => x
  obtain ⟨v, H1, I1, r1, a, C, d, rfl, ha, h0, T, q⟩ := hu
  obtain rfl : u = Value.ref a := r1
  obtain ⟨t1, ho⟩ := exo_at I1.hok ha
  obtain ⟨G, gs, ga, J⟩ := I1.untrack ha h0 hx
  refine ⟨a, _, _, { s1 with heap := G }, delH H1 a, .ref C, d, rfl, J, gs, ga, ho, ⟨rfl, rfl, fun vs' e' => ?_⟩, rfl, rfl, delH_same, rfl, I1.bare, raises_own T.exC T.tyC, q⟩
  cases e'
  rfl
/-- e.f, e the error that is handled -/
def tFldP (K : PySem.W.Frag) (a : Addr) (cls : Value) (d : Option Addr) (f : Str) (te : TE) : TE := fun σ H Q => te σ H fun x H1 => ∃ (C dd : Addr) (fs : List (Str × V)) (v : V), x = .ref a ∧ cls = .ref C ∧ d = some dd ∧ ErrC K C ∧ ErrF K C f ∧ H1 dd = some (exd dd fs) ∧ fs.lookup f = some v ∧ Q v H1
theorem pe_fldP {a : Addr} {oe : Obj} {cls : Value} {d : Option Addr} {o : Expr} {f : Str} {te : TE} {pos : Pos} (hp : (a, oe) ∈ X.pn) (hz : Zc cls d oe) (hf : ∃ vs, oe.data = .fields vs) (he : PE X o te) (hb : attributeBase o f X.env (eval o X.env) = eval o X.env := by rfl) :
    PE X (.Attribute o f pos) (tFldP X.K a cls d f te) := by
  refine ⟨fun pins s σ H Q I h => ?_⟩
  refine attr_of hb (thn (he.run pins s σ H _ I h) fun u s1 hh => ?_)
  obtain ⟨z, H1, I1, rx, C, dd, fs, v, ez, ec, ed, T, TF, eh, l, q⟩ := hh
  subst ez ec ed
  obtain rfl : u = Value.ref a := rx
  obtain ⟨hget, _⟩ := I1.pin (a, oe) (List.mem_append_left _ hp)
  obtain ⟨oc, od, oda, osl⟩ := oe
  obtain ⟨vs, hv⟩ := hf
  obtain ⟨h1, h2⟩ := hz
  dsimp only at h1 h2 hv hget
  subst h1 h2 hv
  obtain ⟨mA, hns, hrel⟩ := exd_at I1.hok eh
  obtain ⟨od, hod, hl⟩ := lookIn_ns hns
  obtain ⟨u, hu, ru⟩ := RelO.some_of (v := v) (o := mA f) (by rw [← l]; exact hrel f)
  have J : PySem.W.InstAt s1.heap a _ C (some od) := ⟨hget, rfl, rfl, hod⟩
  exact HandSPX.exc_get I1.kIn J T.ga T.gg T.exC (PySem.W.findObj_own T.hd TF.no rfl (by rw [hl, hu])) (handed_of ru) ⟨v, H1, I1.tok _, ru, q⟩
/-- _law_classes(e), e the error that is handled -/
def tClsE (K : PySem.W.Frag) (i : Nat) (a : Addr) (cls : Value) (d : Option Addr) : TE := fun σ H Q => ∃ v, σ[i]? = some (some v) ∧ ∃ x : Str, cls = .ref (He.ga K x) ∧ x ∈ wordOf.map (·.1) ∧ ErrC K (He.ga K x) ∧ spCls (AtP d) a x [v] H Q fun _ _ _ => False
end
theorem same_del {H : Hp} {a d : Addr} {C : Addr} {f : Str} {v : V} (na : H a = none) (nd : H d = none) (hne : d ≠ a) : Same H (delH (upd (upd H d (exd d [(f, v)])) a (exo a C (some d))) a) ∧ delH (upd (upd H d (exd d [(f, v)])) a (exo a C (some d))) a d = some (exd d [(f, v)]) := by
  refine ⟨fun b o e => ?_, ?_⟩
  · have h1 : b ≠ a := ne_of_none e na
    have h2 : b ≠ d := ne_of_none e nd
    unfold delH
    rw [if_neg h1, upd_ne h1, upd_ne h2]
    exact e
  · unfold delH
    rw [if_neg hne, upd_ne hne, upd_same]
theorem same_del0 {H : Hp} {a C : Addr} (na : H a = none) : Same H (delH (upd H a (exo a C none)) a) := fun b o e => by
  have h1 : b ≠ a := ne_of_none e na
  unfold delH
  rw [if_neg h1, upd_ne h1]
  exact e
theorem same_put {H0 H : Hp} {l : Addr} {o : HO} (s : Same H0 H) (n : H0 l = none) : Same H0 (upd H l o) := fun b u e => by
  rw [upd_ne (ne_of_none e n)]
  exact s b u e
abbrev caN : List Str := ["value", "found", "e"]
theorem scCaught : FnScope caN ["value"] (defScope sCaught) := ⟨rfl, rfl, rfl, by decide +kernel, rfl, by decide +kernel, by decide +kernel⟩
/-- raise, caught -/
def tbR (te : TE) (H0 : Hp) (K : PySem.W.Frag) : WX → TS := fun W _ σ H => te σ H fun x H1 => ∃ (a C : Addr) (d : Option Addr), x = .ref a ∧ H1 a = some (exo a C d) ∧ Fr0 H0 a ∧ ErrC K C ∧ W (.ref C) d σ (delH H1 a)
def t_raise (te : TE) (H0 : Hp) (K : PySem.W.Frag) (c : Value) (ts : Addr → Value → Option Addr → TS) : TS := fun D σ H => tbR te H0 K (wAs K c 2 ts (fun _ _ _ _ => False) D) D σ H
def ts_fld (K : PySem.W.Frag) : Addr → Value → Option Addr → TS := fun a cls d => tDrop (tBM K "list" rAppend (tVar 1) (tCons (tFldP K a cls d "thing" (tVar 2)) tNil))
def ts_cls (K : PySem.W.Frag) : Addr → Value → Option Addr → TS := fun a cls d => tDrop (tBM K "list" rAppend (tVar 1) (tCons (tClsE K 2 a cls d) tNil))
def tMk1 (C : Addr) (f : Str) : TE := fun σ H Q => tVar 0 σ H fun v H1 => MkQ C f v H1 Q
def t_ca (K : PySem.W.Frag) (H0 : Hp) : TS := tSeq (tAsg (tLst tNil) (gName 1)) (tSeq (t_raise (tMk1 (He.ga K "BadRow") "thing") H0 K (.ref (He.ga K "BadRow")) (ts_fld K)) (tSeq (t_raise (tMk1 (He.ga K "Unkept") "claim") H0 K (.ref (He.ga K "RingError")) (ts_cls K)) (tSeq (t_raise (tMkN K "Nought") H0 K (.ref (He.ga K "RingError")) (ts_cls K)) (tRet (tVar 1)))))
theorem ca_ne {H : Hp} {p l : Addr} {xs : List V} {wd : Str} (hp : H p = some (.lst (([wd, "base", "error"] : List Str).map V.str))) (hl : H l = some (.lst xs)) (n : xs.length < 3) : p ≠ l := fun e => by
  rw [e, hl] at hp
  have z : xs = ([wd, "base", "error"] : List Str).map V.str := HO.lst.inj (Option.some.inj hp)
  rw [z] at n
  exact absurd n (by show ¬ ((3 : Nat) < 3); decide)
theorem fr0_of {H0 H : Hp} {a : Addr} (s : Same H0 H) (n : H a = none) : Fr0 H0 a := fr0_none (by
  cases e : H0 a with
  | none => rfl
  | some o =>
    have q := s _ _ e
    rw [n] at q
    cases q)
/-- found.append(_law_classes(e)) -/
theorem cls_step {K : PySem.W.Frag} {D : Ends} {σ : L2.St} {H H0 : Hp} {a l : Addr} {d : Option Addr} {x wd : Str} {xs : List V} (h1 : σ[1]? = some (some (.ref l))) (h2 : σ[2]? = some (some (.ref a))) (hl : H l = some (.lst xs)) (hn : xs.length < 3) (hin : (x, wd) ∈ wordOf) (T : ErrC K (He.ga K x)) (hd : AtP d H) (s0 : Same H0 H) (nl : H0 l = none)
    (k : ∀ p H', Same H0 H' → H' l = some (.lst (xs ++ [.ref p])) → H' p = some (.lst (([wd, "base", "error"] : List Str).map V.str)) → (∀ b o, b ≠ l → H b = some o → H' b = some o) → D.nx σ H') : ts_cls K a (.ref (He.ga K x)) d D σ H := by
  refine ⟨_, h1, Or.inl ⟨rfl, _, SqL.of hl⟩, _, h2, x, rfl, List.mem_map_of_mem hin, T, rfl, hd, fun p H' s1 hp => ?_⟩
  rw [said_all _ hin] at hp
  have hl' := s1 _ _ hl
  have ne := ca_ne hp hl' hn
  refine ⟨l, xs, .ref p, rfl, rfl, hl', small1000 (by omega), k p _ (same_put (s0.trans s1) nl) upd_same (by rw [upd_ne ne]; exact hp) fun b o hb e => by rw [upd_ne hb]; exact s1 _ _ e⟩
theorem pure_caught {K : PySem.W.Frag} {H : Hp} {v : V} {dd : PyData} {Q : VK} (T1 : ErrC K (He.ga K "BadRow")) (TF : ErrF K (He.ga K "BadRow") "thing") (T2 : ErrC K (He.ga K "Unkept")) (T3 : ErrC K (He.ga K "Nought"))
    (x1 : PySem.W.exmOne K (.ref (He.ga K "BadRow")) (.ref (He.ga K "BadRow")) = some true) (x2 : PySem.W.exmOne K (.ref (He.ga K "Unkept")) (.ref (He.ga K "RingError")) = some true) (x3 : PySem.W.exmOne K (.ref (He.ga K "Nought")) (.ref (He.ga K "RingError")) = some true)
    (hv : Dq H v dd) (hQ : ∀ p H', Same H H' → Dq H' (.ref p) (.list [dd, L3 "unkept", L3 "nought"]) → Q (.ref p) H') : t_ca K H { nx := fun _ H' => Q .non H', rt := Q } (start caN [v]) H := by
  show tSeq (tAsg (tLst tNil) (gName 1)) _ _ _ _
  refine seq_asg ?_
  refine ⟨len_ok (by show 0 ≤ 1000; decide), fun l nl => ?_⟩
  generalize eH1 : upd H l (.lst []) = H1
  have s1 : Same H H1 := by rw [← eH1]; exact same_new nl
  have l1 : H1 l = some (.lst []) := by rw [← eH1]; exact upd_same
  -- BadRow
  refine ⟨v, rfl, fun a d na nd hne => ?_⟩
  refine ⟨a, _, some d, rfl, upd_same, fr0_of s1 na, T1, true, x1, fun _ e ne => ?_, fun z => nomatch z⟩
  obtain ⟨c1, c2⟩ := same_del (C := He.ga K "BadRow") (f := "thing") (v := v) na nd hne
  generalize delH (upd (upd H1 d (exd d [(("thing" : Str), v)])) a (exo a (He.ga K "BadRow") (some d))) a = H2 at ne c1 c2 ⊢
  have l2 : H2 l = some (.lst []) := c1 _ _ l1
  refine ⟨_, rfl, Or.inl ⟨rfl, _, SqL.of l2⟩, _, rfl, _, _, _, v, rfl, rfl, rfl, T1, TF, c2, rfl, l, _, _, rfl, rfl, l2, small1000 (by show 0 ≤ 1000; decide), ?_⟩
  generalize eH3 : upd H2 l (.lst ([] ++ [v])) = H3
  have s3 : Same H H3 := by rw [← eH3]; exact same_put (s1.trans c1) nl
  have l3 : H3 l = some (.lst [v]) := by rw [← eH3]; exact upd_same
  -- Unkept
  refine ⟨v, rfl, fun a' d' na' nd' hne' => ?_⟩
  refine ⟨a', _, some d', rfl, upd_same, fr0_of s3 na', T2, true, x2, fun _ e' ne' => ?_, fun z => nomatch z⟩
  obtain ⟨c1', c2'⟩ := same_del (C := He.ga K "Unkept") (f := "claim") (v := v) na' nd' hne'
  generalize delH (upd (upd H3 d' (exd d' [(("claim" : Str), v)])) a' (exo a' (He.ga K "Unkept") (some d'))) a' = H4 at ne' c1' c2' ⊢
  have l4 : H4 l = some (.lst [v]) := c1' _ _ l3
  refine cls_step (wd := "unkept") (H0 := H) rfl rfl l4 (by show 1 < 3; decide) (by decide +kernel) T2 (fun q eq => by cases eq; exact ⟨_, c2'⟩) (s3.trans c1') nl fun p2 H5 s5 l5 q5 _ => ?_
  -- Nought
  intro a3 na3
  refine ⟨a3, _, none, rfl, upd_same, fr0_of s5 na3, T3, true, x3, fun _ e3 ne3 => ?_, fun z => nomatch z⟩
  have c3 := same_del0 (C := He.ga K "Nought") na3
  generalize delH (upd H5 a3 (exo a3 (He.ga K "Nought") none)) a3 = H6 at ne3 c3 ⊢
  have l6 : H6 l = some (.lst [v, .ref p2]) := c3 _ _ l5
  have n2 : p2 ≠ l := ca_ne q5 l5 (by show 2 < 3; decide)
  refine cls_step (wd := "nought") (H0 := H) rfl rfl l6 (by show 2 < 3; decide) (by decide +kernel) T3 (fun q eq => nomatch eq) (s5.trans c3) nl fun p3 H7 s7 l7 q7 k7 => ?_
  refine ⟨_, rfl, hQ l H7 s7 (.lst l7 (.cons (hv.same s7) (.cons (dq_L3 (k7 _ _ n2 (c3 _ _ q5))) (.cons (dq_L3 q7) .nil))))⟩
section
variable {P : Program} {w : World} {K : PySem.W.Frag} {mg : Str → Option Value} {base : Heap} {f f3 : Addr} {fd fd3 : FuncData}
theorem ok_caught (F : FnP K "_law_caught" sCaught f fd) (F3 : FnP K "_law_classes" sClasses f3 fd3) (g3 : mg "_law_classes" = some (.ref f3)) (KT : Kit K mg) (B : Bl mg) (m1 : MkE P w K mg base "BadRow" "thing") (m2 : MkE P w K mg base "Unkept" "claim") (n3 : MkN P w K mg base "Nought") (T3 : ErrC K (He.ga K "Nought"))
    (x1 : PySem.W.exmOne K (.ref (He.ga K "BadRow")) (.ref (He.ga K "BadRow")) = some true) (x2 : PySem.W.exmOne K (.ref (He.ga K "Unkept")) (.ref (He.ga K "RingError")) = some true) (x3 : PySem.W.exmOne K (.ref (He.ga K "Nought")) (.ref (He.ga K "RingError")) = some true) :
    FnOk P w K mg base CX0 4 f fd ["value"] spCaught := by
  have GH : FnHp P w K mg base CX0 1 f3 fd3 ["e"] (spClsP K) := ok_classesP F3 KT B
  have b3 : L2.Binds K fd3 ["e"] [] := F3.bindsN fun _ _ _ _ _ _ us hl => match us, hl with | [_], _ => rfl
  have gR : mg "BadRow" = some (.ref (He.ga K "BadRow")) := KT.gm _ (by decide +kernel)
  have gB : mg "RingError" = some (.ref (He.ga K "RingError")) := KT.gm _ (by decide +kernel)
  refine F.ok scCaught (fun vs H Q E h => ?_) (fun cdv A outer s H vs Q E hr h => ?_)
  · obtain ⟨v, dd, rfl, _⟩ := h
    rfl
  · obtain ⟨v, dd, rfl, hv, hQ⟩ := h
    have hr2 : Room 2 (A.deeper (envOfC "_law_caught" (defScope sCaught) s.heap.objs.size f cdv)) := hr.mono (by decide : 2 ≤ 3)
    have hr1 : Room 1 (A.deeper (envOfC "_law_caught" (defScope sCaught) s.heap.objs.size f cdv)) := hr.mono (by decide : 1 ≤ 3)
    have tk : L2N.Takes (Cx.nox (cxOf CX0 P w K mg base caN "_law_caught" (defScope sCaught) f cdv A outer s H E)) (fun _ _ _ _ => False) := fun u s' ⟨_, _, _, _, _, _, _, _, _, _, _, _, _, _, _, _, z⟩ => z.elim
    have clsE : ∀ (a : Addr) (oe : Obj) (cls : Value) (d : Option Addr) (pn : List (Addr × Obj)) (p1 p2 pos : Pos), L2N.Zn cls d oe → (∃ vs, oe.data = .fields vs) → PE (Cx.suite (Cx.nox (cxOf CX0 P w K mg base caN "_law_caught" (defScope sCaught) f cdv A outer s H E)) a ((a, oe) :: pn)) (.Call (.Name "_law_classes" p1) [.Name "e" p2] [] pos) (tClsE K 2 a cls d) := fun a oe cls d pn p1 p2 pos hz hf => by
      refine ⟨fun pins s' σ H' Q' I ⟨z, hzz, x, ec, hx, T, q⟩ => ?_⟩
      have hot : Hot1 (A.deeper (envOfC "_law_caught" (defScope sCaught) s.heap.objs.size f cdv) |>.mark (some (.ref a))) (a, oe) := by
        obtain ⟨vs', e'⟩ := hf
        exact ⟨rfl, vs', e', hz.2.2 vs' e'⟩
      exact (pe_callHp (sp := spClsP K) (E := fun _ _ _ _ => False) (p := (a, oe)) GH ⟨hr1.dp, hr1.un⟩ hot List.mem_cons_self (by rfl) g3 F3.kp b3 (fun _ _ _ _ _ _ _ z => z.elim) (pa_cons (pv 2) pa_nil)).run pins s' σ H' Q' I ⟨z, hzz, x, d, hx, T, ec ▸ hz.zc, hf, q⟩
    refine ⟨t_ca K H, PSs.nox (pss_cons (ps_set (i := 1) scCaught.nd rfl (Or.inl rfl) (pe_lst pa_nil))
      (pss_cons (L2N.ps_try_as (i := 2) (c := .ref (He.ga K "BadRow")) (ts := ts_fld K) (tb := tbR (tMk1 (He.ga K "BadRow") "thing") H K) rfl rfl scCaught.nd rfl rfl ⟨by rfl, by decide, .inl gR⟩ tk (fun W pn xe tkW hp => pss_one (L2N.ps_raise rfl tkW (pmk_exo rfl (pe_mk m1 hr2 (by rfl) (pv 0)))))
        (fun a oe cls d pn hz hf => pss_one (ps_expr (pe_bm PySem.F.plainAttrs_list PySem.F.slot_list_append PySem.F.type_list_append mt_append (pv 1) (pa_cons (pe_fldP List.mem_cons_self hz.zc hf (pv 2)) pa_nil)))))
      (pss_cons (L2N.ps_try_as (i := 2) (c := .ref (He.ga K "RingError")) (ts := ts_cls K) (tb := tbR (tMk1 (He.ga K "Unkept") "claim") H K) rfl rfl scCaught.nd rfl rfl ⟨by rfl, by decide, .inl gB⟩ tk (fun W pn xe tkW hp => pss_one (L2N.ps_raise rfl tkW (pmk_exo rfl (pe_mkK m2 hr2 (by rfl) (pv 0)))))
        (fun a oe cls d pn hz hf => pss_one (ps_expr (pe_bm PySem.F.plainAttrs_list PySem.F.slot_list_append PySem.F.type_list_append mt_append (pv 1) (pa_cons (clsE a oe cls d pn _ _ _ hz hf) pa_nil)))))
      (pss_cons (L2N.ps_try_as (i := 2) (c := .ref (He.ga K "RingError")) (ts := ts_cls K) (tb := tbR (tMkN K "Nought") H K) rfl rfl scCaught.nd rfl rfl ⟨by rfl, by decide, .inl gB⟩ tk (fun W pn xe tkW hp => pss_one (L2N.ps_raise rfl tkW (pmk_exo rfl (n3 _ rfl rfl rfl rfl rfl hr (by rfl) _ _))))
        (fun a oe cls d pn hz hf => pss_one (ps_expr (pe_bm PySem.F.plainAttrs_list PySem.F.slot_list_append PySem.F.type_list_append mt_append (pv 1) (pa_cons (clsE a oe cls d pn _ _ _ hz hf) pa_nil)))))
      (pss_one (ps_ret (pv 1))))))), ?_⟩
    exact pure_caught m1.1 m1.2.1 m2.1 T3 x1 x2 x3 hv hQ
end
end K0
/-! An own error over Exception whose __init__ says super().__init__(). -/
namespace K0
open PySem PySem.Spec PyProof.Rows L2 PySem.W PySem.Calls
abbrev noBody (p0 p1 p2 p3 p4 : Pos) : List Stmt := [.Expr (.Call (.Attribute (.Call (.Name "super" p0) [] [] p1) "__init__" p2) [] [] p3) p4]
/-- the __init__ at fI closes over the class at C -/
structure NoF (prog : Program) (K : Frag) (C fI : Addr) (qual : Str) (params : Arguments) (body : List Stmt) (scope : Scope) : Prop where
  ex : ∃ (name : Str) (oc kV doc pm ct ccl cl : Value) (od an cdd cld : Option Addr) (osl ccs csl : Array (Option Value)) (cda cc : Addr) (vs : Array Value) (file : Str) (tf : Tok), K.lookup fI = some ⟨oc, od, .func (ksFn name qual params body scope .none kV doc pm an (.ref cda) ct cc), osl⟩ ∧ codeIn K (.ref cda) qual = true ∧
    K.lookup cda = some ⟨ccl, cdd, .fields vs, ccs⟩ ∧ vs[2]? = some (.str file tf) ∧ ((prog.main.file : Str) == file) = true ∧ K.lookup cc = some ⟨cl, cld, .cell (some (.ref C)), csl⟩
section
variable {prog : Program} {w : World} {A : Around} {R : Result → Shared → Prop} {hp : Heap} {g : Array GenState} {d : Drawn} {t : Nat} {os : OsState} {K : Frag} {C fI e t0 : Addr} {qual : Str} {params : Arguments} {scope : Scope} {p0 p1 p2 p3 p4 : Pos} {mg mb : Str → Option Value} {cd : ClassData} {bm bl : List Value}
variable {nm q : Str} {N : Addr} {bs : List Value} {hdct : Bool} {sn : List Str} {sub : List Value} {ab : Bool} {col : Option Bool} {dd : Option Addr} {k0 k1 k2 k3 k5 : Option Value}
theorem no_init (X : K.In hp) (lim : hp.NoLimit) (G : hp.Ns mainGlobals mg) (hgs : mg "super" = none) (Bn : hp.Ns builtinsNs mb) (hbs : mb "super" = some (.type "super")) (F : NoF prog K C fI qual params (noBody p0 p1 p2 p3 p4) scope) (hdep : A.depth < recursionLimit)
    (hpar : (params.posonlyargs ++ params.args).head?.map (·.arg) = some ("self" : Str)) (hbind : ∀ (fd : FuncData) (s : Shared), fd.params = params → fd.defaults = .none → BindsTo s fd ⟨[.ref e], []⟩ [("self", .ref e)])
    (hks : scope.names.lookup ("super" : Str) = some .globalImplicit) (hkc : scope.names.lookup ("__class__" : Str) = some .free) (hka : scope.names.lookup ("self" : Str) = some .local) (hcell : ∀ x ∈ scope.names, x.2 ≠ .cell) (hco : scope.isCoroutine = false) (hgen : scope.isGenerator = false) (hk : scope.kind = .function)
    (hsz : ∀ env : Env, swapsWith (.Call (.Attribute (.Call (.Name "super" p0) [] [] p1) "__init__" p2) [] [] p3) none p4.line env = pure false) (pl : Env → Sem Bool) (hev : ∀ env : Env, eval (.Call (.Attribute (.Call (.Name "super" p0) [] [] p1) "__init__" p2) [] [] p3) env = (do
      let ov ← attributeBase (.Call (.Name "super" p0) [] [] p1) "__init__" env (eval (.Call (.Name "super" p0) [] [] p1) env)
      standAt p2.atName
      let (f, first) ← holding [ov] (getMethod ov "__init__" (pl env))
      callWith p3 f first (backTo p3 (starEach [] env)) []))
    (hclm : clsIn K C = some cd) (hmro : cd.mro = .ref C :: bl) (hini : alongIn K "__init__" bl = some (some (.builtin "Exception.__init__"))) (hsubC : mroIn K C (.ref C) = some true) (hex : subIn K (.ref C) (.type "Exception") = some true) (hop : nsIn K cStatics "thirdparty.any" = some none)
    (hC : hp.get? C = some (excClassObj nm q C N bs bm hdct sn sub ab col dd k0 k1 k2 k3 k5 "Exception.__new__")) (he : hp.get? e = some (HandSPX.excO C t0)) (htop : (prog.main.scope.names.lookup ("super" : Str)).isSome = false)
    (hq : ∀ h' t1 tk', (∀ b o, b ≠ e → hp.get? b = some o → h'.get? b = some o) → h'.get? e = some (HandSPX.excO C t1) → R (.ok (.ret .none)) ⟨h', g, d, tk', os⟩) : codeAny (model prog w) A (.call (.ref fI) ⟨[.ref e], []⟩) R ⟨hp, g, d, t, os⟩ := by
  obtain ⟨name, oc, kV, doc, pm, ct, ccl, cl, od, an, cdd, cld, osl, ccs, csl, cda, cc, vs, file, tf, lk, hcd, hcode, hvs, hfile, hcc⟩ := F.ex
  obtain ⟨ar, har, earg⟩ : ∃ ar, (params.posonlyargs ++ params.args).head? = some ar ∧ ar.arg = "self" := by
    cases z : (params.posonlyargs ++ params.args).head? with
    | none => rw [z] at hpar; cases hpar
    | some ar => rw [z] at hpar; exact ⟨ar, rfl, Option.some.inj hpar⟩
  refine ks_codeAny_call_defAt (binds := [("self", .ref e)]) hdep (X _ _ lk) rfl lim (codeRec_of X hcd) rfl (hbind _ _ rfl rfl) hcell (fun x hx => ?_) (fun h₀ hns k₀ => ?_) hco hgen hk
  · have ex : x = (("self" : Str), Value.ref e) := by simpa using hx
    rw [ex]
    exact hka
  have X0 : K.In h₀ := X.keeps k₀
  have e0 := k₀ _ _ he
  have C0 := k₀ _ _ hC
  refine ks_wpAt_execs_cons (ks_wpAt_Expr_any (ks_wpAt_MethodCall (pl := pl _) ?_ (hev _)) (by
    show (scope.kind == ScopeKind.module && _) = false
    rw [hk]
    rfl) (hsz _))
  refine ks_wpAt_super_base (env := ksEnv qual scope hp.objs.size fI (.ref cda) cc) hks hkc (by decide) rfl (X0 _ _ lk) rfl har rfl (X0 _ _ hcode) rfl hvs hfile htop ?_
  refine ks_loadName_global hk hks (loadGlobal_builtin (env := ksEnv qual scope hp.objs.size fI (.ref cda) cc) (G.keeps k₀) hgs (Bn.keeps k₀) hbs ⟨rfl, ?_⟩)
  refine wpAny_loadName_free hk hkc rfl ⟨_, X0 _ _ hcc, rfl⟩ ?_
  refine wpAny_loadName_local hk (by rw [earg]; exact hka) hns (v := .ref e) (by rw [earg]; rfl) ?_
  refine ks_wpAny_isType_cls C0 rfl ⟨rfl, ?_⟩
  refine ks_wpAny_call_super C0 rfl e0 rfl (fun c z => nomatch z) (looks_mroIn X0 hsubC) (fun h1 eso k1 => ?_)
  have X1 : K.In h1 := X0.keeps k1
  have e1 := k1 _ _ e0
  have C1 := k1 _ _ C0
  have I1 : InstAt h1 e (HandSPX.excO C t0) C none := ⟨e1, rfl, rfl, trivial⟩
  refine ESX.getMethod_super eso (looks_opaque X1 hop) (l₀ := cd.mro) (fun A Q E s k q => wpAny_bind ((looks_clsIn X1 hclm) A _ E s k (wpAny_pure q))) (by rw [hmro]; exact ESX.drop_own C bl) X1 hini (ks_ne X1 I1 hclm) (by decide) (I1.type.andThen (looks_subIn X1 hex)) ?_
  refine ESX.callWith_bw (x := e) rfl (evalArgs_empty ⟨Heap.get?_push_size _ rfl, ?_⟩)
  refine ESX.call_bw (Heap.get?_push_of_some _ C1) (Heap.get?_push_of_some _ e1) (Heap.get?_push_size _ rfl) (by show 0 ≤ sizeLine; omega) fun h2 t1 k2 e2 => ?_
  refine wpAt_of_wpAny (wpAny_execs_nil ?_)
  exact hq h2 t1 _ (fun b o hb eo => k2 b o hb (Heap.get?_push_of_some _ (k1 _ _ (k₀ _ _ eo)))) e2
end
end K0
/-! The Hook, with the three __init__s that close over their class. -/
namespace K0
open PySem PySem.Spec PyProof.Rows L2
abbrev NoW : Type := Option (Str × Arguments × List Stmt × Scope)
def atFile (file : Str) (K : PySem.W.Frag) (a : Addr) : Bool := match K.lookup a with
  | some ⟨_, _, .fields (vs : Array Value), _⟩ => (match (vs[2]? : Option Value) with
    | some (Value.str f _) => file == f
    | _ => false)
  | _ => false
def atCell (K : PySem.W.Frag) (c C : Addr) : Bool := match K.lookup c with
  | some ⟨_, _, .cell (some (.ref D)), _⟩ => decide (D = C)
  | _ => false
def noW (file : Str) (K : PySem.W.Frag) (C : Addr) : NoW := match K.lookup (He.ma K C "__init__") with
  | some ⟨_, _, .func fd, _⟩ => (match fd.body, fd.closure, fd.code, fd.defaults with
    | .stmts body, [(c0, cc)], .ref cda, .none => if (decide (c0 = "__class__") && (decide (fd.globals = mainGlobals) && (decide (fd.builtins = builtinsNs) && (PySem.W.codeIn K (.ref cda) fd.qualname && (atFile file K cda && atCell K cc C))))) = true then some (fd.qualname, fd.params, body, fd.scope) else none
    | _, _, _, _ => none)
  | _ => none
def noE : List (Str × Nat) := [("Nought", 14), ("NothingToUndo", 21), ("NothingToRedo", 22)]
def noV (e : Str × Nat) : NoW := some (e.1 ++ ".__init__", defArgs (inClass (top e.2) 0), defBody (inClass (top e.2) 0), defScope (inClass (top e.2) 0))
def root0 (K : PySem.W.Frag) (R : Addr) : Bool := match K.lookup R with
  | some ⟨_, _, .cls cd, _⟩ => He.eqO (PySem.W.nsIn K cd.ns "__init__") (some none)
  | _ => false
def ex2 (K : PySem.W.Frag) : Bool := root0 K (He.ga K "RingError") && He.eqO (PySem.W.nsIn K cStatics "thirdparty.any") (some none)
abbrev Al2 : Type := He.AlD × (Bool × (Bool × List NoW))
def frK (g : Addr → Option Obj) : PySem.W.Frag := He.frG g (cStatics :: sysModules :: He.asD g 6)
def obs2 (g : Addr → Option Obj) : Al2 := (He.obsD fa fn (frK g), (ex (frK g), (ex2 (frK g), noE.map fun e => noW R.prog.main.file (frK g) (He.ga (frK g) e.1))))
def val2 : Al2 := (He.valD fn, (true, (true, noE.map noV)))
def Says2 (K : PySem.W.Frag) : Prop := He.SaysD fa fn K ∧ ex K = true ∧ ex2 K = true ∧ noE.map (fun e => noW R.prog.main.file K (He.ga K e.1)) = noE.map noV
theorem obs2_of {g : Addr → Option Obj} (e : obs2 g = val2) : Says2 (frK g) := by
  unfold obs2 val2 at e
  obtain ⟨e1, e2⟩ := Prod.mk.inj e
  obtain ⟨e2, e3⟩ := Prod.mk.inj e2
  obtain ⟨e3, e4⟩ := Prod.mk.inj e3
  exact ⟨e1, e2, e3, e4⟩
def hk2 : PySem.W.Hook where
  α := Al2
  obs := fun s => obs2 s.heap.get?
  val := fun _ => val2
  says := fun _ h => ∃ K : PySem.W.Frag, K.In h ∧ Says2 K
  of := fun _ _ e => ⟨_, He.frG_in, obs2_of e⟩
  keeps := fun _ _ _ ⟨K, hK, c⟩ k => ⟨K, PySem.W.Frag.In.keeps hK k, c⟩
def ob2 (s : PySem.W.SharedT) : Al2 := obs2 (HandSHeadRun.getT s)
theorem ob2_eq (s : PySem.W.SharedT) : ob2 s = hk2.obs s.abs :=
  congrArg obs2 (funext (HandSHeadRun.getT_eq s))
end K0
/-! C(), C's __init__ closing over C. -/
namespace K0
open PySem PySem.Spec PyProof.Rows L2 PySem.W
theorem noF_of {prog : Program} {K : Frag} {C : Addr} {qual : Str} {params : Arguments} {body : List Stmt} {scope : Scope} (h : noW prog.main.file K C = some (qual, params, body, scope)) : NoF prog K C (He.ma K C "__init__") qual params body scope := by
  unfold noW at h
  cases q : K.lookup (He.ma K C "__init__") with
  | none => rw [q] at h; cases h
  | some o =>
    obtain ⟨oc, od, dt, osl⟩ := o
    rw [q] at h
    cases dt with
    | func fd =>
      obtain ⟨name, qn, ps, bd, sc, gl, clo, dV, kV, doc, pm, an, code, ct, bl⟩ := fd
      cases bd with
      | stmts b =>
        cases clo with
        | nil => cases h
        | cons c0 cr =>
          obtain ⟨c0, cc⟩ := c0
          cases cr with
          | cons _ _ => cases h
          | nil =>
            cases code with
            | ref cda =>
             cases dV with
             | none =>
              dsimp only at h
              split at h
              · rename_i hc
                cases h
                obtain ⟨h1, hc⟩ := He.ba hc
                obtain ⟨h2, hc⟩ := He.ba hc
                obtain ⟨h3, hc⟩ := He.ba hc
                obtain ⟨h4, hc⟩ := He.ba hc
                obtain ⟨h5, h6⟩ := He.ba hc
                have e1 := of_decide_eq_true h1
                have e2 := of_decide_eq_true h2
                have e3 := of_decide_eq_true h3
                subst e1 e2 e3
                unfold atFile at h5
                cases q5 : K.lookup cda with
                | none => rw [q5] at h5; cases h5
                | some o5 =>
                  obtain ⟨ccl, cdd, dt5, ccs⟩ := o5
                  rw [q5] at h5
                  cases dt5 with
                  | fields vs =>
                    have h5 : (match (vs[2]? : Option Value) with
                      | some (Value.str f _) => prog.main.file == f
                      | _ => false) = true := h5
                    cases q6 : (vs[2]? : Option Value) with
                    | none => rw [q6] at h5; cases h5
                    | some v =>
                      rw [q6] at h5
                      cases v with
                      | str f tf =>
                        unfold atCell at h6
                        cases q7 : K.lookup cc with
                        | none => rw [q7] at h6; cases h6
                        | some o7 =>
                          obtain ⟨cl, cld, dt7, csl⟩ := o7
                          rw [q7] at h6
                          cases dt7 with
                          | cell c =>
                            cases c with
                            | none => cases h6
                            | some v =>
                              cases v with
                              | ref D =>
                                have e7 : D = C := of_decide_eq_true h6
                                subst e7
                                exact ⟨name, oc, kV, doc, pm, ct, ccl, cl, od, an, cdd, cld, osl, ccs, csl, cda, cc, vs, f, tf, q, h4, q5, q6, h5, q7⟩
                              | _ => cases h6
                          | _ => cases h6
                      | _ => cases h5
                  | _ => cases h5
              · cases h
             | _ => cases h
            | _ => cases h
      | _ => cases h
    | _ => cases h
section
variable {P : Program} {w : World} {K : Frag} {mg : Str → Option Value} {base : Heap} {x qual : Str} {C Rr : Addr} {e : ErrD} {params : Arguments} {scope : Scope} {p0 p1 p2 p3 p4 : Pos}
theorem mkN_of (hCa : C = He.ga K x) (FC : ClsF K Rr C e) (GR : RootF K Rr) (r0 : ownIn K "__init__" (.ref Rr) = some none) (hop : nsIn K cStatics "thirdparty.any" = some none) (hmx : mg x = some (.ref C)) (hms : mg "super" = none) (NF : NoF P K C (He.ma K C "__init__") qual params (noBody p0 p1 p2 p3 p4) scope)
    (hpar : (params.posonlyargs ++ params.args).head?.map (·.arg) = some ("self" : Str)) (hbind : ∀ (e : Addr) (fd : FuncData) (s : Shared), fd.params = params → fd.defaults = .none → BindsTo s fd ⟨[.ref e], []⟩ [("self", .ref e)])
    (hks : scope.names.lookup ("super" : Str) = some .globalImplicit) (hkc : scope.names.lookup ("__class__" : Str) = some .free) (hka : scope.names.lookup ("self" : Str) = some .local) (hcell : ∀ x ∈ scope.names, x.2 ≠ .cell) (hco : scope.isCoroutine = false) (hgen : scope.isGenerator = false) (hk : scope.kind = .function)
    (hsz : ∀ env : Env, swapsWith (.Call (.Attribute (.Call (.Name "super" p0) [] [] p1) "__init__" p2) [] [] p3) none p4.line env = pure false) (pl : Env → Sem Bool) (hev : ∀ env : Env, eval (.Call (.Attribute (.Call (.Name "super" p0) [] [] p1) "__init__" p2) [] [] p3) env = (do
      let ov ← attributeBase (.Call (.Name "super" p0) [] [] p1) "__init__" env (eval (.Call (.Name "super" p0) [] [] p1) env)
      standAt p2.atName
      let (f, first) ← holding [ov] (getMethod ov "__init__" (pl env))
      callWith p3 f first (backTo p3 (starEach [] env)) []))
    (htop : (P.main.scope.names.lookup ("super" : Str)).isSome = false) (hdb : (x == ("__debug__" : Str)) = false) : MkN P w K mg base x := by
  have T : ErrC K C := errC_of FC GR
  have TI : ErrI K C (He.ma K C "__init__") := errI_of FC
  subst hCa
  intro X hP hw hK hmg hbase hr hg p pos
  subst hP hw hK hmg hbase
  refine ⟨fun pins s σ H Q I h => ?_⟩
  refine wpAny_Call_Name_kw (ld_glob I hg hmx ?_ hdb)
  refine PySem.W.callWith_K0 I.kIn T.kC ?_
  show wpAny _ _ (call (.ref (He.ga X.K x)) []) _ _ _
  obtain ⟨cd, hclm, hmro, _⟩ := cls_of FC
  obtain ⟨nm, N, qn, bs, bm, hdct, sn, sub, ab, col, dd, k0, k1, k2, k3, k5, hC, hT⟩ := PySem.W.excInit_of I.kIn T.ini
  obtain ⟨mb, hb1, hb2⟩ := I.mod.blt
  have G : s.heap.Ns mainGlobals X.mg := I.mod.glob.keeps I.bk
  have Bn : s.heap.Ns builtinsNs mb := hb1.keeps I.bk
  have lim := I.nolimit
  have KI := I.kIn
  have hini : alongIn X.K "__init__" (.ref Rr :: K0.exTail) = some (some (.builtin "Exception.__init__")) := by
    show (match ownIn X.K "__init__" (.ref Rr) with | some (some v) => some (some v) | some none => alongIn X.K "__init__" K0.exTail | none => none) = _
    rw [r0]
    exact ESX.along_init X.K
  obtain ⟨hp, g, dr, tk, os⟩ := s
  have hsz' : hp.objs.size ≤ hp.objs.size + 1 := Nat.le_succ _
  have hn : H (hp.objs.size + 1) = none := I.hok.fresh hsz'
  have kk : ∀ b o, hp.get? b = some o → ((hp.push (PySem.W.kdv_tup [])).push (PySem.HandSPX.excO (He.ga X.K x) hp.objs.size)).get? b = some o := fun b o e => Heap.get?_push_of_some _ (Heap.get?_push_of_some _ e)
  have hget : ((hp.push (PySem.W.kdv_tup [])).push (PySem.HandSPX.excO (He.ga X.K x) hp.objs.size)).get? (hp.objs.size + 1) = some (PySem.HandSPX.excO (He.ga X.K x) hp.objs.size) := by heap_get
  have hr1 : Room 2 (X.A.under (.builtin "type.__call__" ⟨[.ref (He.ga X.K x)], []⟩)) := Room.make hr (He.ga X.K x) [] []
  refine wpAny_call (PySem.K0X.call_ownK F.excBase_Exception hT hC (PySem.W.looks_findIn KI TI.iC) (fun self => PySem.W.bind_fn KI self TI.tI) (by show 0 ≤ sizeLine; omega)
    (no_init (KI.keeps kk) (lim.keeps kk) (G.keeps kk) hms (Bn.keeps kk) ((hb2 "super" (by decide)).trans (by decide +kernel)) NF hr1.depth hpar (hbind _) hks hkc hka hcell hco hgen hk hsz pl hev hclm hmro hini (sub_of FC (by simp)) (sub_of FC (has_ty "Exception" (h := by decide +kernel))) hop (kk _ _ hC) hget htop fun h' t1 tk' k' e' => ⟨rfl, ?_⟩))
  have I2 := I.laid (t' := tk') (a := hp.objs.size + 1) (o := exo (hp.objs.size + 1) (He.ga X.K x) none) (h' := h') (fun b o e => k' b o (Nat.ne_of_lt (Nat.lt_succ_of_lt (Heap.lt_size e))) (kk b o e)) hsz' (exo_ok e')
  exact ⟨.ref (hp.objs.size + 1), _, I2, rfl, h _ hn⟩
end
end K0
namespace K0
open PySem PySem.Spec PyProof.Rows L2
theorem run2 (w : World) : HandSHeadRun.RunEq R (PySem.W.view R.prog [33]) hk2 ob2 8000 loose w := by
  intro os
  kernel_rfl
end K0
/-! What the head says, as the law wants it. -/
namespace K0
open PySem PySem.Spec PyProof.Rows L2
theorem zip_all {α β : Type} (f : β → α → Bool) (g : α → β) : ∀ l : List α, (List.zipWith f (l.map g) l).all id = true → ∀ e ∈ l, f (g e) e = true
  | [], _, e, h => absurd h (by simp)
  | a :: r, h, e, he => by
    rw [List.map_cons, List.zipWith_cons_cons, List.all_cons] at h
    obtain ⟨h1, h2⟩ := He.ba h
    rcases List.mem_cons.mp he with rfl | he
    · exact h1
    · exact zip_all f g r h2 e he
theorem inj_of {α β : Type} (g : α → β) : ∀ l : List α, (l.map g).Nodup → ∀ a ∈ l, ∀ b ∈ l, g a = g b → a = b
  | [], _, a, h, _, _, _ => absurd h (by simp)
  | c :: r, n, a, ha, b, hb, e => by
    rw [List.map_cons, List.nodup_cons] at n
    rcases List.mem_cons.mp ha with ea | ha'
    · rcases List.mem_cons.mp hb with eb | hb'
      · rw [ea, eb]
      · exact absurd (List.mem_map.mpr ⟨b, hb', by rw [← e, ea]⟩) n.1
    · rcases List.mem_cons.mp hb with eb | hb'
      · exact absurd (List.mem_map.mpr ⟨a, ha', by rw [e, eb]⟩) n.1
      · exact inj_of g r n.2 a ha' b hb' e
abbrev Rt (K : PySem.W.Frag) : Addr := He.ga K "RingError"
structure AllF (K : PySem.W.Frag) : Prop where
  sys : (K.lookup sysModules).isSome = true
  root : RootF K (Rt K)
  cls : ∀ e ∈ errs, ClsF K (Rt K) (He.ga K e.name) e
  inj : ∀ a ∈ errs, ∀ b ∈ errs, He.ga K a.name = He.ga K b.name → a = b
  notR : ∀ a ∈ errs, He.ga K a.name ≠ Rt K
theorem allF_of {K : PySem.W.Frag} (h : ex K = true) : AllF K := by
  unfold ex at h
  rw [HandSHeadRun.frNat_eq, frL_eq] at h
  obtain ⟨h1, h⟩ := He.ba h
  obtain ⟨h2, h⟩ := He.ba h
  obtain ⟨h3, h4⟩ := He.ba h
  have n := of_decide_eq_true h3
  rw [List.nodup_cons] at n
  exact ⟨h1, rootF_of h2, fun e he => clsF_of (zip_all (clsB K (Rt K)) (fun e => He.ga K e.name) errs h4 e he), inj_of (fun e : ErrD => He.ga K e.name) errs n.2, fun a ha e => n.1 (List.mem_map.mpr ⟨a, ha, e⟩)⟩
theorem name_in : ∀ x ∈ wordOf.map (·.1), ∃ e ∈ errs, e.name = x := by decide +kernel
theorem name_inj : ∀ a ∈ errs, ∀ b ∈ errs, a.name = b.name → a.at_ = b.at_ := by decide +kernel
section
variable {P : Program} {w : World} {K : PySem.W.Frag} {mg : Str → Option Value} {base h : Heap}
theorem glo_err (X : K.In h) (G : h.Ns mainGlobals mg) (c : He.SaysD fa fn K) {e : ErrD} (he : e ∈ errs) : mg e.name = some (.ref (He.ga K e.name)) :=
  He.glo_ok X G (c.facts (f := .glo e.name) (List.mem_append_right _ (List.mem_map_of_mem (f := fun e : ErrD => He.Fa.glo e.name) he)))
theorem bl_of (X : K.In h) (G : h.Ns mainGlobals mg) (c : He.SaysD fa fn K) : Bl mg := fun x hx =>
  He.free_ok X G (c.facts (f := .free x) (List.mem_append_left _ (List.mem_append_right _ (List.mem_map_of_mem hx))))
theorem kit_of (X : K.In h) (G : h.Ns mainGlobals mg) (c : He.SaysD fa fn K) (A : AllF K) : Kit K mg where
  own := fun x y hx hy => by
    obtain ⟨a, ha, rfl⟩ := name_in x hx
    obtain ⟨b, hb, rfl⟩ := name_in y hy
    by_cases e : a.name = b.name
    · rw [decide_eq_true e, e]
      exact kit_same
    · rw [decide_eq_false e]
      exact kit_other (A.cls a ha) (A.cls b hb) (fun z => e (congrArg ErrD.name (A.inj b hb a ha z)).symm) (A.notR b hb)
  root := fun x hx => by
    obtain ⟨a, ha, rfl⟩ := name_in x hx
    exact kit_root (A.cls a ha) A.root
  blt := fun x T b hx h1 h2 => by
    obtain ⟨a, ha, rfl⟩ := name_in x hx
    exact kit_blt (A.cls a ha) h1 h2
  gm := fun x hx => by
    rcases List.mem_cons.mp hx with rfl | hx
    · exact He.glo_ok X G (c.fact 9 (f := .glo "RingError") rfl)
    · obtain ⟨a, ha, rfl⟩ := name_in x hx
      exact glo_err X G c ha
theorem exm_of {C R : Addr} {e : ErrD} (F : ClsF K R C e) (G : RootF K R) : PySem.W.exmOne K (.ref C) (.ref C) = some true ∧ PySem.W.exmOne K (.ref C) (.ref R) = some true := by
  have T := errC_of F G
  refine ⟨PySem.W.exm_ref T.exC T.hd T.tyC (sub_of F (by simp)), ?_⟩
  obtain ⟨dd2, cd2, sl2, q2, hm2, hn2⟩ := G.at_
  have hc : PySem.W.clsIn K R = some cd2 := by
    unfold PySem.W.clsIn
    rw [q2]
  have ht : PySem.W.typeIn K (.ref R) = some (.type "type") := by
    show (K.lookup R).map (·.cls) = _
    rw [q2]
    rfl
  have hs : PySem.W.subIn K (.ref R) (.type "BaseException") = some true := by
    show PySem.W.mroIn K R (.type "BaseException") = some true
    unfold PySem.W.mroIn
    rw [hc, Option.bind_some, hm2, if_neg (show ¬ (List.isEmpty (Value.ref R :: K0.exTail) = true) from Bool.false_ne_true)]
    have e : (Value.ref R :: K0.exTail).contains (.type "BaseException") = true := by
      rw [List.contains_cons]
      have e2 : K0.exTail.contains (.type "BaseException") = true := by decide +kernel
      rw [e2, Bool.or_true]
    rw [e]
  have e1 : (PySem.W.subIn K (.ref R) (.type "BaseException") == some true) = true := by rw [hs] <;> rfl
  have e2 : ((PySem.W.clsIn K R).isSome && PySem.W.typeIn K (.ref R) == some (.type "type")) = true := by rw [hc, ht] <;> rfl
  show (if (PySem.W.subIn K (.ref R) (.type "BaseException") == some true) = true then (if ((PySem.W.clsIn K R).isSome && PySem.W.typeIn K (.ref R) == some (.type "type")) = true then PySem.W.subIn K (.ref C) (.ref R) else none) else none) = some true
  rw [if_pos e1, if_pos e2]
  exact sub_of F (by simp)
theorem mk_BadRings (X : K.In h) (G : h.Ns mainGlobals mg) (c : He.SaysD fa fn K) (A : AllF K) : MkE P w K mg base "BadRings" "thing" := by
  obtain ⟨fd, F1⟩ := c.def_ 9 (d := dInit ⟨"BadRings", 2, some "thing"⟩) rfl
  have q : (dInit ⟨"BadRings", 2, some "thing"⟩).qual = "BadRings.__init__" := by decide +kernel
  rw [q] at F1
  have he : (⟨"BadRings", 2, some "thing"⟩ : ErrD) ∈ errs := List.mem_of_getElem? (i := 0) rfl
  have F := A.cls _ he
  have T := errC_of F A.root
  have TF := errF_of F A.root rfl (by decide +kernel : ("thing" : Str) ∈ attrs)
  obtain ⟨h1, h2, h3⟩ := ok_BadRings (P := P) (w := w) (mg := mg) (base := base) F1 T TF
  exact ⟨T, TF, glo_err X G c he, _, fd, errI_of F, h1, h2, h3⟩
theorem mk_BadPlace (X : K.In h) (G : h.Ns mainGlobals mg) (c : He.SaysD fa fn K) (A : AllF K) : MkE P w K mg base "BadPlace" "thing" := by
  obtain ⟨fd, F1⟩ := c.def_ 10 (d := dInit ⟨"BadPlace", 3, some "thing"⟩) rfl
  have q : (dInit ⟨"BadPlace", 3, some "thing"⟩).qual = "BadPlace.__init__" := by decide +kernel
  rw [q] at F1
  have he : (⟨"BadPlace", 3, some "thing"⟩ : ErrD) ∈ errs := List.mem_of_getElem? (i := 1) rfl
  have F := A.cls _ he
  have T := errC_of F A.root
  have TF := errF_of F A.root rfl (by decide +kernel : ("thing" : Str) ∈ attrs)
  obtain ⟨h1, h2, h3⟩ := ok_BadPlace (P := P) (w := w) (mg := mg) (base := base) F1 T TF
  exact ⟨T, TF, glo_err X G c he, _, fd, errI_of F, h1, h2, h3⟩
theorem mk_BadLot (X : K.In h) (G : h.Ns mainGlobals mg) (c : He.SaysD fa fn K) (A : AllF K) : MkE P w K mg base "BadLot" "thing" := by
  obtain ⟨fd, F1⟩ := c.def_ 11 (d := dInit ⟨"BadLot", 4, some "thing"⟩) rfl
  have q : (dInit ⟨"BadLot", 4, some "thing"⟩).qual = "BadLot.__init__" := by decide +kernel
  rw [q] at F1
  have he : (⟨"BadLot", 4, some "thing"⟩ : ErrD) ∈ errs := List.mem_of_getElem? (i := 2) rfl
  have F := A.cls _ he
  have T := errC_of F A.root
  have TF := errF_of F A.root rfl (by decide +kernel : ("thing" : Str) ∈ attrs)
  obtain ⟨h1, h2, h3⟩ := ok_BadLot (P := P) (w := w) (mg := mg) (base := base) F1 T TF
  exact ⟨T, TF, glo_err X G c he, _, fd, errI_of F, h1, h2, h3⟩
theorem mk_BadOrder (X : K.In h) (G : h.Ns mainGlobals mg) (c : He.SaysD fa fn K) (A : AllF K) : MkE P w K mg base "BadOrder" "thing" := by
  obtain ⟨fd, F1⟩ := c.def_ 12 (d := dInit ⟨"BadOrder", 5, some "thing"⟩) rfl
  have q : (dInit ⟨"BadOrder", 5, some "thing"⟩).qual = "BadOrder.__init__" := by decide +kernel
  rw [q] at F1
  have he : (⟨"BadOrder", 5, some "thing"⟩ : ErrD) ∈ errs := List.mem_of_getElem? (i := 3) rfl
  have F := A.cls _ he
  have T := errC_of F A.root
  have TF := errF_of F A.root rfl (by decide +kernel : ("thing" : Str) ∈ attrs)
  obtain ⟨h1, h2, h3⟩ := ok_BadOrder (P := P) (w := w) (mg := mg) (base := base) F1 T TF
  exact ⟨T, TF, glo_err X G c he, _, fd, errI_of F, h1, h2, h3⟩
theorem mk_BadNumber (X : K.In h) (G : h.Ns mainGlobals mg) (c : He.SaysD fa fn K) (A : AllF K) : MkE P w K mg base "BadNumber" "thing" := by
  obtain ⟨fd, F1⟩ := c.def_ 13 (d := dInit ⟨"BadNumber", 6, some "thing"⟩) rfl
  have q : (dInit ⟨"BadNumber", 6, some "thing"⟩).qual = "BadNumber.__init__" := by decide +kernel
  rw [q] at F1
  have he : (⟨"BadNumber", 6, some "thing"⟩ : ErrD) ∈ errs := List.mem_of_getElem? (i := 4) rfl
  have F := A.cls _ he
  have T := errC_of F A.root
  have TF := errF_of F A.root rfl (by decide +kernel : ("thing" : Str) ∈ attrs)
  obtain ⟨h1, h2, h3⟩ := ok_BadNumber (P := P) (w := w) (mg := mg) (base := base) F1 T TF
  exact ⟨T, TF, glo_err X G c he, _, fd, errI_of F, h1, h2, h3⟩
theorem mk_BadCount (X : K.In h) (G : h.Ns mainGlobals mg) (c : He.SaysD fa fn K) (A : AllF K) : MkE P w K mg base "BadCount" "thing" := by
  obtain ⟨fd, F1⟩ := c.def_ 14 (d := dInit ⟨"BadCount", 7, some "thing"⟩) rfl
  have q : (dInit ⟨"BadCount", 7, some "thing"⟩).qual = "BadCount.__init__" := by decide +kernel
  rw [q] at F1
  have he : (⟨"BadCount", 7, some "thing"⟩ : ErrD) ∈ errs := List.mem_of_getElem? (i := 5) rfl
  have F := A.cls _ he
  have T := errC_of F A.root
  have TF := errF_of F A.root rfl (by decide +kernel : ("thing" : Str) ∈ attrs)
  obtain ⟨h1, h2, h3⟩ := ok_BadCount (P := P) (w := w) (mg := mg) (base := base) F1 T TF
  exact ⟨T, TF, glo_err X G c he, _, fd, errI_of F, h1, h2, h3⟩
theorem mk_BadRow (X : K.In h) (G : h.Ns mainGlobals mg) (c : He.SaysD fa fn K) (A : AllF K) : MkE P w K mg base "BadRow" "thing" := by
  obtain ⟨fd, F1⟩ := c.def_ 15 (d := dInit ⟨"BadRow", 8, some "thing"⟩) rfl
  have q : (dInit ⟨"BadRow", 8, some "thing"⟩).qual = "BadRow.__init__" := by decide +kernel
  rw [q] at F1
  have he : (⟨"BadRow", 8, some "thing"⟩ : ErrD) ∈ errs := List.mem_of_getElem? (i := 6) rfl
  have F := A.cls _ he
  have T := errC_of F A.root
  have TF := errF_of F A.root rfl (by decide +kernel : ("thing" : Str) ∈ attrs)
  obtain ⟨h1, h2, h3⟩ := ok_BadRow (P := P) (w := w) (mg := mg) (base := base) F1 T TF
  exact ⟨T, TF, glo_err X G c he, _, fd, errI_of F, h1, h2, h3⟩
theorem mk_BadWhole (X : K.In h) (G : h.Ns mainGlobals mg) (c : He.SaysD fa fn K) (A : AllF K) : MkE P w K mg base "BadWhole" "thing" := by
  obtain ⟨fd, F1⟩ := c.def_ 16 (d := dInit ⟨"BadWhole", 9, some "thing"⟩) rfl
  have q : (dInit ⟨"BadWhole", 9, some "thing"⟩).qual = "BadWhole.__init__" := by decide +kernel
  rw [q] at F1
  have he : (⟨"BadWhole", 9, some "thing"⟩ : ErrD) ∈ errs := List.mem_of_getElem? (i := 7) rfl
  have F := A.cls _ he
  have T := errC_of F A.root
  have TF := errF_of F A.root rfl (by decide +kernel : ("thing" : Str) ∈ attrs)
  obtain ⟨h1, h2, h3⟩ := ok_BadWhole (P := P) (w := w) (mg := mg) (base := base) F1 T TF
  exact ⟨T, TF, glo_err X G c he, _, fd, errI_of F, h1, h2, h3⟩
theorem mk_BadItems (X : K.In h) (G : h.Ns mainGlobals mg) (c : He.SaysD fa fn K) (A : AllF K) : MkE P w K mg base "BadItems" "thing" := by
  obtain ⟨fd, F1⟩ := c.def_ 17 (d := dInit ⟨"BadItems", 10, some "thing"⟩) rfl
  have q : (dInit ⟨"BadItems", 10, some "thing"⟩).qual = "BadItems.__init__" := by decide +kernel
  rw [q] at F1
  have he : (⟨"BadItems", 10, some "thing"⟩ : ErrD) ∈ errs := List.mem_of_getElem? (i := 8) rfl
  have F := A.cls _ he
  have T := errC_of F A.root
  have TF := errF_of F A.root rfl (by decide +kernel : ("thing" : Str) ∈ attrs)
  obtain ⟨h1, h2, h3⟩ := ok_BadItems (P := P) (w := w) (mg := mg) (base := base) F1 T TF
  exact ⟨T, TF, glo_err X G c he, _, fd, errI_of F, h1, h2, h3⟩
theorem mk_BadHeard (X : K.In h) (G : h.Ns mainGlobals mg) (c : He.SaysD fa fn K) (A : AllF K) : MkE P w K mg base "BadHeard" "thing" := by
  obtain ⟨fd, F1⟩ := c.def_ 18 (d := dInit ⟨"BadHeard", 11, some "thing"⟩) rfl
  have q : (dInit ⟨"BadHeard", 11, some "thing"⟩).qual = "BadHeard.__init__" := by decide +kernel
  rw [q] at F1
  have he : (⟨"BadHeard", 11, some "thing"⟩ : ErrD) ∈ errs := List.mem_of_getElem? (i := 9) rfl
  have F := A.cls _ he
  have T := errC_of F A.root
  have TF := errF_of F A.root rfl (by decide +kernel : ("thing" : Str) ∈ attrs)
  obtain ⟨h1, h2, h3⟩ := ok_BadHeard (P := P) (w := w) (mg := mg) (base := base) F1 T TF
  exact ⟨T, TF, glo_err X G c he, _, fd, errI_of F, h1, h2, h3⟩
theorem mk_BadSeen (X : K.In h) (G : h.Ns mainGlobals mg) (c : He.SaysD fa fn K) (A : AllF K) : MkE P w K mg base "BadSeen" "thing" := by
  obtain ⟨fd, F1⟩ := c.def_ 19 (d := dInit ⟨"BadSeen", 12, some "thing"⟩) rfl
  have q : (dInit ⟨"BadSeen", 12, some "thing"⟩).qual = "BadSeen.__init__" := by decide +kernel
  rw [q] at F1
  have he : (⟨"BadSeen", 12, some "thing"⟩ : ErrD) ∈ errs := List.mem_of_getElem? (i := 10) rfl
  have F := A.cls _ he
  have T := errC_of F A.root
  have TF := errF_of F A.root rfl (by decide +kernel : ("thing" : Str) ∈ attrs)
  obtain ⟨h1, h2, h3⟩ := ok_BadSeen (P := P) (w := w) (mg := mg) (base := base) F1 T TF
  exact ⟨T, TF, glo_err X G c he, _, fd, errI_of F, h1, h2, h3⟩
theorem mk_BadSteps (X : K.In h) (G : h.Ns mainGlobals mg) (c : He.SaysD fa fn K) (A : AllF K) : MkE P w K mg base "BadSteps" "thing" := by
  obtain ⟨fd, F1⟩ := c.def_ 20 (d := dInit ⟨"BadSteps", 13, some "thing"⟩) rfl
  have q : (dInit ⟨"BadSteps", 13, some "thing"⟩).qual = "BadSteps.__init__" := by decide +kernel
  rw [q] at F1
  have he : (⟨"BadSteps", 13, some "thing"⟩ : ErrD) ∈ errs := List.mem_of_getElem? (i := 11) rfl
  have F := A.cls _ he
  have T := errC_of F A.root
  have TF := errF_of F A.root rfl (by decide +kernel : ("thing" : Str) ∈ attrs)
  obtain ⟨h1, h2, h3⟩ := ok_BadSteps (P := P) (w := w) (mg := mg) (base := base) F1 T TF
  exact ⟨T, TF, glo_err X G c he, _, fd, errI_of F, h1, h2, h3⟩
theorem mk_Unfit (X : K.In h) (G : h.Ns mainGlobals mg) (c : He.SaysD fa fn K) (A : AllF K) : MkE P w K mg base "Unfit" "certificate" := by
  obtain ⟨fd, F1⟩ := c.def_ 21 (d := dInit ⟨"Unfit", 15, some "certificate"⟩) rfl
  have q : (dInit ⟨"Unfit", 15, some "certificate"⟩).qual = "Unfit.__init__" := by decide +kernel
  rw [q] at F1
  have he : (⟨"Unfit", 15, some "certificate"⟩ : ErrD) ∈ errs := List.mem_of_getElem? (i := 13) rfl
  have F := A.cls _ he
  have T := errC_of F A.root
  have TF := errF_of F A.root rfl (by decide +kernel : ("certificate" : Str) ∈ attrs)
  obtain ⟨h1, h2, h3⟩ := ok_Unfit (P := P) (w := w) (mg := mg) (base := base) F1 T TF
  exact ⟨T, TF, glo_err X G c he, _, fd, errI_of F, h1, h2, h3⟩
theorem mk_TooMany (X : K.In h) (G : h.Ns mainGlobals mg) (c : He.SaysD fa fn K) (A : AllF K) : MkE P w K mg base "TooMany" "most" := by
  obtain ⟨fd, F1⟩ := c.def_ 22 (d := dInit ⟨"TooMany", 16, some "most"⟩) rfl
  have q : (dInit ⟨"TooMany", 16, some "most"⟩).qual = "TooMany.__init__" := by decide +kernel
  rw [q] at F1
  have he : (⟨"TooMany", 16, some "most"⟩ : ErrD) ∈ errs := List.mem_of_getElem? (i := 14) rfl
  have F := A.cls _ he
  have T := errC_of F A.root
  have TF := errF_of F A.root rfl (by decide +kernel : ("most" : Str) ∈ attrs)
  obtain ⟨h1, h2, h3⟩ := ok_TooMany (P := P) (w := w) (mg := mg) (base := base) F1 T TF
  exact ⟨T, TF, glo_err X G c he, _, fd, errI_of F, h1, h2, h3⟩
theorem mk_BadDeed (X : K.In h) (G : h.Ns mainGlobals mg) (c : He.SaysD fa fn K) (A : AllF K) : MkE P w K mg base "BadDeed" "thing" := by
  obtain ⟨fd, F1⟩ := c.def_ 23 (d := dInit ⟨"BadDeed", 17, some "thing"⟩) rfl
  have q : (dInit ⟨"BadDeed", 17, some "thing"⟩).qual = "BadDeed.__init__" := by decide +kernel
  rw [q] at F1
  have he : (⟨"BadDeed", 17, some "thing"⟩ : ErrD) ∈ errs := List.mem_of_getElem? (i := 15) rfl
  have F := A.cls _ he
  have T := errC_of F A.root
  have TF := errF_of F A.root rfl (by decide +kernel : ("thing" : Str) ∈ attrs)
  obtain ⟨h1, h2, h3⟩ := ok_BadDeed (P := P) (w := w) (mg := mg) (base := base) F1 T TF
  exact ⟨T, TF, glo_err X G c he, _, fd, errI_of F, h1, h2, h3⟩
theorem mk_BadClaim (X : K.In h) (G : h.Ns mainGlobals mg) (c : He.SaysD fa fn K) (A : AllF K) : MkE P w K mg base "BadClaim" "thing" := by
  obtain ⟨fd, F1⟩ := c.def_ 24 (d := dInit ⟨"BadClaim", 18, some "thing"⟩) rfl
  have q : (dInit ⟨"BadClaim", 18, some "thing"⟩).qual = "BadClaim.__init__" := by decide +kernel
  rw [q] at F1
  have he : (⟨"BadClaim", 18, some "thing"⟩ : ErrD) ∈ errs := List.mem_of_getElem? (i := 16) rfl
  have F := A.cls _ he
  have T := errC_of F A.root
  have TF := errF_of F A.root rfl (by decide +kernel : ("thing" : Str) ∈ attrs)
  obtain ⟨h1, h2, h3⟩ := ok_BadClaim (P := P) (w := w) (mg := mg) (base := base) F1 T TF
  exact ⟨T, TF, glo_err X G c he, _, fd, errI_of F, h1, h2, h3⟩
theorem mk_Unkept (X : K.In h) (G : h.Ns mainGlobals mg) (c : He.SaysD fa fn K) (A : AllF K) : MkE P w K mg base "Unkept" "claim" := by
  obtain ⟨fd, F1⟩ := c.def_ 25 (d := dInit ⟨"Unkept", 19, some "claim"⟩) rfl
  have q : (dInit ⟨"Unkept", 19, some "claim"⟩).qual = "Unkept.__init__" := by decide +kernel
  rw [q] at F1
  have he : (⟨"Unkept", 19, some "claim"⟩ : ErrD) ∈ errs := List.mem_of_getElem? (i := 17) rfl
  have F := A.cls _ he
  have T := errC_of F A.root
  have TF := errF_of F A.root rfl (by decide +kernel : ("claim" : Str) ∈ attrs)
  obtain ⟨h1, h2, h3⟩ := ok_Unkept (P := P) (w := w) (mg := mg) (base := base) F1 T TF
  exact ⟨T, TF, glo_err X G c he, _, fd, errI_of F, h1, h2, h3⟩
theorem mk_NoClaim (X : K.In h) (G : h.Ns mainGlobals mg) (c : He.SaysD fa fn K) (A : AllF K) : MkE P w K mg base "NoClaim" "thing" := by
  obtain ⟨fd, F1⟩ := c.def_ 26 (d := dInit ⟨"NoClaim", 20, some "thing"⟩) rfl
  have q : (dInit ⟨"NoClaim", 20, some "thing"⟩).qual = "NoClaim.__init__" := by decide +kernel
  rw [q] at F1
  have he : (⟨"NoClaim", 20, some "thing"⟩ : ErrD) ∈ errs := List.mem_of_getElem? (i := 18) rfl
  have F := A.cls _ he
  have T := errC_of F A.root
  have TF := errF_of F A.root rfl (by decide +kernel : ("thing" : Str) ∈ attrs)
  obtain ⟨h1, h2, h3⟩ := ok_NoClaim (P := P) (w := w) (mg := mg) (base := base) F1 T TF
  exact ⟨T, TF, glo_err X G c he, _, fd, errI_of F, h1, h2, h3⟩
theorem mk_BadText (X : K.In h) (G : h.Ns mainGlobals mg) (c : He.SaysD fa fn K) (A : AllF K) : MkE P w K mg base "BadText" "at" := by
  obtain ⟨fd, F1⟩ := c.def_ 27 (d := dInit ⟨"BadText", 23, some "at"⟩) rfl
  have q : (dInit ⟨"BadText", 23, some "at"⟩).qual = "BadText.__init__" := by decide +kernel
  rw [q] at F1
  have he : (⟨"BadText", 23, some "at"⟩ : ErrD) ∈ errs := List.mem_of_getElem? (i := 21) rfl
  have F := A.cls _ he
  have T := errC_of F A.root
  have TF := errF_of F A.root rfl (by decide +kernel : ("at" : Str) ∈ attrs)
  obtain ⟨h1, h2, h3⟩ := ok_BadText (P := P) (w := w) (mg := mg) (base := base) F1 T TF
  exact ⟨T, TF, glo_err X G c he, _, fd, errI_of F, h1, h2, h3⟩
end
end K0
/-! The law's end. -/
namespace K0
open PySem PySem.Spec PyProof.Rows L2
abbrev LW : PySem.W.OpenLaw := PySem.Challenge.rw_ringvoices_k00_errors_by_position_and_by
abbrev PL : Program := LW.prog
/-! ### a law whose promise stands at the first caller alone -/
theorem law_callA {P : Program} {w : World} {K : PySem.W.Frag} {mg mb : Str → Option Value} {CX : CXT} {fa a : Addr} {fd : FuncData} {x : Str} {sp : Sp} {s₁ : Shared} {vs : List Value} {ns : List Int}
    (KX : K.In s₁.heap) (hns : s₁.heap.Ns mainGlobals mg) (hb : s₁.heap.Ns builtinsNs mb) (hbb : ∀ x : Str, x ≠ "__name__" → mb x = bootBuiltins x) (hlim : s₁.heap.NoLimit) (hg : s₁.gens = #[])
    (ha : s₁.heap.get? a = some { cls := .type "list", data := .seq vs.toArray }) (hi : IntsAre vs ns) (hl : ns.length ≤ sizeLine)
    (F : ∀ base : Heap, K.In base → base.Ns mainGlobals mg → ∀ (s : Shared) (H : Hp) (args : Args) (us : List Value) (vs : List V) (Q : VK) (E : XK), Env0 P w K mg base callerA [] s H → BindsTo s fd args ([x].zip us) → Vals vs us → sp vs H Q E → codeAny (model P w) callerA (.call (.ref fa) args) (CR CX [] P w H s Q E) s) (hbind : ∀ (s : Shared) (u : Value), BindsTo s fd ⟨[u], []⟩ [(x, u)])
    (hsp : ∀ H : Hp, Only H → SqL K H a (ns.map V.int) → sp [.ref a] H (fun v _ => v = .bl true) fun _ _ _ => False)
    (hCX : ∀ H e s', CX [] H s₁ (fun _ _ _ => False) e s' → False) :
    codeAny (model P w) callerA (.call (.ref fa) ⟨[.ref a], []⟩) (fun r s' => r = .ok (.ret (.bool true)) ∧ OldK s₁.heap s'.heap ∧ s'.os = s₁.os ∧ AllBare s'.gens) s₁ := by
  have rv := vals_ints hi
  have lenV := hi.length
  -- from an abstract heap in which nothing but the script may be tracked
  have core : ∀ H : Hp, Only H → SqL K H a (ns.map V.int) → HOk P w H s₁.heap → (∀ b, H b ≠ none → b = a) → (H a ≠ none → K.lookup a = none) →
      codeAny (model P w) callerA (.call (.ref fa) ⟨[.ref a], []⟩) (fun r s' => r = .ok (.ret (.bool true)) ∧ OldK s₁.heap s'.heap ∧ s'.os = s₁.os ∧ AllBare s'.gens) s₁ := by
    intro H hO hS hok hA hK
    have base_of : ∀ {b : Addr} {o : Obj}, s₁.heap.get? b = some o → H b = none → (hidT s₁.heap H).get? b = some o := fun e n => hidT_get e n
    have noA : ∀ {b : Addr} {o : Obj} {es : Array DictEntry} {ep : Nat}, s₁.heap.get? b = some o → o.data = .dict es ep → H b = none := fun {b o es ep} e d => by
      cases q : H b with
      | none => rfl
      | some u =>
        have e' : b = a := hA b (by rw [q]; simp)
        subst e'
        rw [ha] at e; cases e
        have d' : Data.seq vs.toArray _ = Data.dict es ep := d
        cases d'
    have nsK : ∀ {b : Addr} {m : Str → Option Value}, s₁.heap.Ns b m → (hidT s₁.heap H).Ns b m := fun {b m} ⟨o, es, ep, e, d, r⟩ => ⟨o, es, ep, base_of e (noA e d), d, r⟩
    have hKb : K.In (hidT s₁.heap H) := fun b o e => base_of (KX b o e) (by
      cases q : H b with
      | none => rfl
      | some u =>
        have e' : b = a := hA b (by rw [q]; simp)
        subst e'
        rw [hK (by rw [q]; simp)] at e; cases e)
    have hM : Mod K mg (hidT s₁.heap H) := ⟨hKb, nsK hns, ⟨mb, nsK hb, hbb⟩, let ⟨mc, h1, h2⟩ := hlim; ⟨mc, nsK h1, h2⟩⟩
    have e0 : Env0 P w K mg (hidT s₁.heap H) callerA [] s₁ H := ⟨rfl, hM, fun b o e => of_hidT e, Nat.le_of_eq (hidT_size _ _), trivial, fun b hb => absurd (show b ∈ ([] : List Addr) from hb) (by simp), hok, .of_eq hg⟩
    refine codeAny_mono (F _ hKb (nsK hns) s₁ H ⟨[.ref a], []⟩ [.ref a] [.ref a] _ _ e0 (hbind s₁ (.ref a)) (.cons rfl .nil) (hsp H hO hS)) fun r s' h => ?_
    cases r with
    | error e => exact (hCX H e s' h).elim
    | ok fl =>
      cases fl with
      | next => exact False.elim h
      | brk => exact False.elim h
      | cont => exact False.elim h
      | ret u =>
        obtain ⟨v, H', os, bare, un, hok', r', q⟩ := h
        have q' : v = .bl true := q
        subst q'
        obtain rfl : u = Value.bool true := r'
        refine ⟨rfl, OldK.of_keep fun b o e => ?_, os, bare⟩
        cases q : H b with
        | none => exact un.keep b o e q (by intro z; exact absurd (show b ∈ ([] : List Addr) from z) (by simp)) (by simp)
        | some u =>
          rcases hO b with z | ⟨ob, xs, z⟩
          · rw [q] at z; cases z
          · have z2 := un.frzs b ob _ z
            obtain ⟨e1, _⟩ := hok b _ z
            obtain ⟨e2, _⟩ := hok' b _ z2
            rw [e] at e1; cases e1
            exact e2
  cases hk : K.lookup a with
  | some o =>
    -- the script is one of the module's own objects
    have e := KX a o hk
    rw [ha] at e
    cases e
    refine core (fun _ => none) (fun _ => .inl rfl) (.inr ⟨_, vs.toArray, _, hk, rfl, rfl, rfl, by rw [List.size_toArray, lenV]; exact hl, by simpa using rv⟩) (fun b u z => by have z' : (none : Option HO) = some u := z; cases z') (fun b z => absurd rfl z) fun z => absurd rfl z
  | none =>
    refine core (fun b => if b = a then some (.frz { cls := .type "list", data := .seq vs.toArray } (.lst (ns.map V.int))) else none) (fun b => ?_) (.inl (.inr ⟨{ cls := .type "list", data := .seq vs.toArray }, if_pos rfl⟩)) (fun b u z => ?_) (fun b z => ?_) fun _ => hk
    · by_cases hb : b = a
      · exact .inr ⟨_, _, if_pos hb⟩
      · exact .inl (if_neg hb)
    · by_cases hb : b = a
      · have z' := (if_pos hb).symm.trans z
        cases z'
        subst hb
        exact ⟨ha, by rw [List.length_map]; exact hl, vs, _, rv, ha⟩
      · have z' := (if_neg hb).symm.trans z
        cases z'
    · by_cases hb : b = a
      · exact hb
      · exact absurd (if_neg hb) z
theorem walk_ofA {l : PySem.W.OpenLaw} {n : Nat} {q : Program} {loose : List Str} {XP : (Str → Option Value) → Heap → Prop} {YP : World → Heap → Prop} {d : DefRec} {CX : CXT} {x : Str}
    (hn : l.most = some n) (hn2 : n ≤ sizeLine) (hdf : d.params.defaults = [])
    (F : ∀ (w : World) (mg : Str → Option Value) (fa : Addr) (h : Heap), YP w h → h.Ns mainGlobals mg → mg d.name = some (.ref fa) →
      ∃ (K : PySem.W.Frag) (fd : FuncData) (sp : Sp), K.In h ∧ (∀ (s : Shared) (u : Value), BindsTo s fd ⟨[u], []⟩ [(x, u)]) ∧
        (∀ (H : Hp) (a : Addr) (ns : List Int), ns.length ≤ n → Only H → SqL K H a (ns.map V.int) → sp [.ref a] H (fun v _ => v = .bl true) fun _ _ _ => False) ∧
        ∀ base : Heap, K.In base → base.Ns mainGlobals mg → ∀ (s : Shared) (H : Hp) (args : Args) (us : List Value) (vs : List V) (Q : VK) (E : XK), Env0 l.prog w K mg base callerA [] s H → BindsTo s fd args ([x].zip us) → Vals vs us → sp vs H Q E → codeAny (model l.prog w) callerA (.call (.ref fa) args) (CR CX [] l.prog w H s Q E) s)
    (hCX : ∀ (H : Hp) (s : Shared) (e : Value) (s' : Shared), CX [] H s (fun _ _ _ => False) e s' → False) :
    PySem.W.WalkO q loose XP YP l.row.toRowW d [] (fun f vs => PySem.call f vs) := by
  refine Att.attach_call hn hdf fun w s₀ s₁ mg mb fa o pm cd doc a vs ns G Y ho hd hcd hmg hobj hints hlen hg => ?_
  obtain ⟨K, fd, sp, KX, hb, hsp, hF⟩ := F w mg fa _ Y G.T.g hmg
  exact law_callA KX G.T.g G.T.b G.T.builtins G.T.nolimit hg hobj hints (Nat.le_trans hlen hn2) hF hb (fun H hO hS => hsp H a ns hlen hO hS) fun H e s' => hCX H s₁ e s'
/-! ### the errors without a value -/
theorem binds_self {params : Arguments} (h : ∀ (name qn : Str) (bd : FuncBody) (sc : Scope) (gl : Addr) (clo : List (Str × Addr)) (kV doc pm code ct : Value) (an : Option Addr) (bl e : Addr), bindArgs ⟨name, qn, params, bd, sc, gl, clo, .none, kV, doc, pm, an, code, ct, bl⟩ ⟨[.ref e], []⟩ = pure [(("self" : Str), Value.ref e)]) (e : Addr) (fd : FuncData) (s : Shared) (hp : fd.params = params) (hd : fd.defaults = .none) : BindsTo s fd ⟨[.ref e], []⟩ [("self", .ref e)] := by
  obtain ⟨name, qn, ps, bd, sc, gl, clo, dV, kV, doc, pm, an, code, ct, bl⟩ := fd
  have hp : ps = params := hp
  have hd : dV = .none := hd
  subst hp hd
  exact .of_eq (h ..)
theorem no_super : (PL.main.scope.names.lookup ("super" : Str)).isSome = false := by kernel_rfl
section
variable {w : World} {K : PySem.W.Frag} {mg : Str → Option Value} {base h : Heap}
theorem root0_of (A : AllF K) (h : root0 K (Rt K) = true) : PySem.W.ownIn K "__init__" (.ref (Rt K)) = some none := by
  obtain ⟨dd2, cd2, sl2, q2, hm2, hn2⟩ := A.root.at_
  unfold root0 at h
  rw [q2] at h
  exact own_of q2 (He.eqO_ok h)
theorem mkn_Nought (X : K.In h) (G : h.Ns mainGlobals mg) (c : Says2 K) (A : AllF K) : MkN PL w K mg base "Nought" := by
  obtain ⟨c1, _, c3, c4⟩ := c
  have e := congrArg (fun l : List NoW => l[0]?) c4
  have e2 : noW PL.main.file K (He.ga K "Nought") = noV ("Nought", 14) := Option.some.inj e
  obtain ⟨h1, h2⟩ := He.ba c3
  have he : (⟨"Nought", 14, none⟩ : ErrD) ∈ errs := List.mem_of_getElem? (i := 12) rfl
  have F : ClsF K (Rt K) (He.ga K "Nought") ⟨"Nought", 14, none⟩ := A.cls _ he
  exact mkN_of rfl F A.root (root0_of A h1) (He.eqO_ok h2) (glo_err X G c1 he) (bl_of X G c1 "super" (by decide +kernel)) (noF_of (prog := PL) e2) rfl (binds_self fun _ _ _ _ _ _ _ _ _ _ _ _ _ _ => rfl) (by decide +kernel) (by decide +kernel) (by decide +kernel) (by decide +kernel) rfl rfl rfl (fun _ => rfl) _ (fun _ => rfl) no_super (by decide)
theorem mkn_NothingToUndo (X : K.In h) (G : h.Ns mainGlobals mg) (c : Says2 K) (A : AllF K) : MkN PL w K mg base "NothingToUndo" := by
  obtain ⟨c1, _, c3, c4⟩ := c
  have e := congrArg (fun l : List NoW => l[1]?) c4
  have e2 : noW PL.main.file K (He.ga K "NothingToUndo") = noV ("NothingToUndo", 21) := Option.some.inj e
  obtain ⟨h1, h2⟩ := He.ba c3
  have he : (⟨"NothingToUndo", 21, none⟩ : ErrD) ∈ errs := List.mem_of_getElem? (i := 19) rfl
  have F : ClsF K (Rt K) (He.ga K "NothingToUndo") ⟨"NothingToUndo", 21, none⟩ := A.cls _ he
  exact mkN_of rfl F A.root (root0_of A h1) (He.eqO_ok h2) (glo_err X G c1 he) (bl_of X G c1 "super" (by decide +kernel)) (noF_of (prog := PL) e2) rfl (binds_self fun _ _ _ _ _ _ _ _ _ _ _ _ _ _ => rfl) (by decide +kernel) (by decide +kernel) (by decide +kernel) (by decide +kernel) rfl rfl rfl (fun _ => rfl) _ (fun _ => rfl) no_super (by decide)
theorem mkn_NothingToRedo (X : K.In h) (G : h.Ns mainGlobals mg) (c : Says2 K) (A : AllF K) : MkN PL w K mg base "NothingToRedo" := by
  obtain ⟨c1, _, c3, c4⟩ := c
  have e := congrArg (fun l : List NoW => l[2]?) c4
  have e2 : noW PL.main.file K (He.ga K "NothingToRedo") = noV ("NothingToRedo", 22) := Option.some.inj e
  obtain ⟨h1, h2⟩ := He.ba c3
  have he : (⟨"NothingToRedo", 22, none⟩ : ErrD) ∈ errs := List.mem_of_getElem? (i := 20) rfl
  have F : ClsF K (Rt K) (He.ga K "NothingToRedo") ⟨"NothingToRedo", 22, none⟩ := A.cls _ he
  exact mkN_of rfl F A.root (root0_of A h1) (He.eqO_ok h2) (glo_err X G c1 he) (bl_of X G c1 "super" (by decide +kernel)) (noF_of (prog := PL) e2) rfl (binds_self fun _ _ _ _ _ _ _ _ _ _ _ _ _ _ => rfl) (by decide +kernel) (by decide +kernel) (by decide +kernel) (by decide +kernel) rfl rfl rfl (fun _ => rfl) _ (fun _ => rfl) no_super (by decide)
end
end K0
/-! The law holds. -/
namespace K0
open PySem PySem.Spec PyProof.Rows L2
theorem word_first : ∀ q ∈ firstT ++ secondT, (q.2, q.1) ∈ wordOf ∧ ∃ e ∈ errs, e.name = q.2 ∧ e.attr = some "thing" := by decide +kernel
section
variable {w : World} {K : PySem.W.Frag} {mg : Str → Option Value} {base h : Heap} {f : Addr}
theorem cls3_of (A : AllF K) {e : ErrD} (he : e ∈ errs) {fl : Str} (h1 : e.attr = some fl) (h2 : fl ∈ attrs) : Cls3 K e.name fl := ⟨errC_of (A.cls e he) A.root, errF_of (A.cls e he) A.root h1 h2⟩
theorem all3_of (A : AllF K) : All3 K := by
  have key : ∀ q ∈ firstT ++ secondT, (q.2, q.1) ∈ wordOf ∧ Cls3 K q.2 "thing" := fun q hq => by
    obtain ⟨h1, e, he, h2, h3⟩ := word_first q hq
    refine ⟨h1, ?_⟩
    rw [← h2]
    exact cls3_of A he h3 (by decide +kernel)
  exact ⟨fun q hq => key q (List.mem_append_left _ hq), fun q hq => key q (List.mem_append_right _ hq), cls3_of A (e := ⟨"Unfit", 15, some "certificate"⟩) (List.mem_of_getElem? (i := 13) rfl) rfl (by decide +kernel), cls3_of A (e := ⟨"TooMany", 16, some "most"⟩) (List.mem_of_getElem? (i := 14) rfl) rfl (by decide +kernel),
    cls3_of A (e := ⟨"Unkept", 19, some "claim"⟩) (List.mem_of_getElem? (i := 17) rfl) rfl (by decide +kernel), cls3_of A (e := ⟨"BadText", 23, some "at"⟩) (List.mem_of_getElem? (i := 21) rfl) rfl (by decide +kernel)⟩
theorem mks (X : K.In h) (G : h.Ns mainGlobals mg) (c : He.SaysD fa fn K) (A : AllF K) : ∀ q ∈ firstT ++ secondT, MkE PL w K mg base q.2 "thing" := by
  intro q hq
  simp only [firstT, secondT, List.cons_append, List.nil_append, List.mem_cons, List.not_mem_nil, or_false] at hq
  rcases hq with rfl | rfl | rfl | rfl | rfl | rfl | rfl | rfl | rfl | rfl | rfl | rfl | rfl | rfl | rfl
  · exact mk_BadRings X G c A
  · exact mk_BadPlace X G c A
  · exact mk_BadLot X G c A
  · exact mk_BadOrder X G c A
  · exact mk_BadNumber X G c A
  · exact mk_BadCount X G c A
  · exact mk_BadRow X G c A
  · exact mk_BadWhole X G c A
  · exact mk_BadItems X G c A
  · exact mk_BadHeard X G c A
  · exact mk_BadSeen X G c A
  · exact mk_BadSteps X G c A
  · exact mk_BadDeed X G c A
  · exact mk_BadClaim X G c A
  · exact mk_NoClaim X G c A
theorem facts (X : K.In h) (G : h.Ns mainGlobals mg) (hfa : mg ("law" : Str) = some (.ref f)) (c : Says2 K) :
    ∃ fd : FuncData, (∀ (s : Shared) (v : Value), BindsTo s fd ⟨[v], []⟩ [("script", v)]) ∧ ∀ base : Heap, K.In base → base.Ns mainGlobals mg → ∀ (s : Shared) (H : Hp) (args : Args) (us : List Value) (vs : List V) (Q : VK) (E : XK), Env0 PL w K mg base callerA [] s H → BindsTo s fd args ((["script"] : List Str).zip us) → Vals vs us → spLaw K vs H Q E → codeAny (model PL w) callerA (.call (.ref f) args) (CR CX0 [] PL w H s Q E) s := by
  have A : AllF K := allF_of c.2.1
  have c1 := c.1
  obtain ⟨fdK, FK⟩ := c1.def_ 0 (d := dGlo "_law_deck" 25) rfl
  obtain ⟨fdD, FD⟩ := c1.def_ 1 (d := dGlo "_law_draw" 26) rfl
  obtain ⟨fdP, FP⟩ := c1.def_ 2 (d := dGlo "_law_pick" 27) rfl
  obtain ⟨fdO, FO⟩ := c1.def_ 3 (d := dGlo "_law_odd" 28) rfl
  obtain ⟨fd1, F1⟩ := c1.def_ 4 (d := dGlo "_law_first" 29) rfl
  obtain ⟨fd2, F2⟩ := c1.def_ 5 (d := dGlo "_law_second" 30) rfl
  obtain ⟨fd3, F3⟩ := c1.def_ 6 (d := dGlo "_law_classes" 31) rfl
  obtain ⟨fd4, F4⟩ := c1.def_ 7 (d := dGlo "_law_caught" 32) rfl
  obtain ⟨fd, F⟩ := c1.def_ 8 (d := dGlo "law" 33) rfl
  have e := hfa.symm.trans (He.glo_ok X G (c1.fact 8 (f := .glo "law") rfl))
  cases e
  have b := FunD.bindsA (ps := ["script"]) F fun _ _ _ _ _ _ us hl => match us, hl with | [_], _ => rfl
  refine ⟨fd, fun s v => b s [v] rfl, fun base hKb hGb s H args us vs Q E e0 hb r hsp => ?_⟩
  have B : Bl mg := bl_of X G c1
  have KT : Kit K mg := kit_of X G c1 A
  have g3 := He.glo_ok X G (c1.fact 6 (f := .glo "_law_classes") rfl)
  have hN : ∀ q ∈ wordOf, ErrC K (He.ga K q.1) := fun q hq => by
    obtain ⟨a, ha, e⟩ := name_in q.1 (List.mem_map_of_mem hq)
    rw [← e]
    exact errC_of (A.cls a ha) A.root
  have xr := exm_of (A.cls ⟨"BadRow", 8, some "thing"⟩ (List.mem_of_getElem? (i := 6) rfl)) A.root
  have xu := exm_of (A.cls ⟨"Unkept", 19, some "claim"⟩ (List.mem_of_getElem? (i := 17) rfl)) A.root
  have xn := exm_of (A.cls ⟨"Nought", 14, none⟩ (List.mem_of_getElem? (i := 12) rfl)) A.root
  have G4 : FnOk PL w K mg base CX0 4 (He.ga K "_law_caught") fd4 ["value"] spCaught := ok_caught F4 F3 g3 KT B (mk_BadRow X G c1 A) (mk_Unkept X G c1 A) (mkn_Nought X G c A) (errC_of (A.cls ⟨"Nought", 14, none⟩ (List.mem_of_getElem? (i := 12) rfl)) A.root) xr.1 xu.2 xn.2
  exact ok_law F B (all3_of A) hN A.sys FK (He.glo_ok X G (c1.fact 0 (f := .glo "_law_deck") rfl)) FO (He.glo_ok X G (c1.fact 3 (f := .glo "_law_odd") rfl)) FP (He.glo_ok X G (c1.fact 2 (f := .glo "_law_pick") rfl)) FD (He.glo_ok X G (c1.fact 1 (f := .glo "_law_draw") rfl))
    F1 (He.glo_ok X G (c1.fact 4 (f := .glo "_law_first") rfl)) F2 (He.glo_ok X G (c1.fact 5 (f := .glo "_law_second") rfl)) F3 g3 KT F4 (He.glo_ok X G (c1.fact 7 (f := .glo "_law_caught") rfl)) G4 (mks X G c1 A) (mk_Unfit X G c1 A) (mk_TooMany X G c1 A) (mk_Unkept X G c1 A) (mk_BadText X G c1 A)
    (mkn_Nought X G c A) (mkn_NothingToUndo X G c A) (mkn_NothingToRedo X G c A) (A := callerA) rfl ⟨rfl, by decide, by decide⟩ [] s H args us vs Q E e0 hb r hsp
end
end K0
open PySem PySem.W PySem.Calls PyProof.Rows
theorem PySem.Challenge.cw_ringvoices_k00_errors_by_position_and_by_holds : PySem.Challenge.rw_ringvoices_k00_errors_by_position_and_by.Holds := by
  w_on; o_law
  refine HandSHeadRun.head_any (r := K0.R) (q := view K0.R.prog [33]) (H := K0.hk2) (ob := K0.ob2) (M := 8000) (loose := K0.loose) (d := HandSHeadRun.topDef K0.R.prog 33) (kwd := []) K0.ob2_eq
    (by kernel_rfl) (fun s => by kernel_rfl) K0.run2 (by kernel_rfl) (by kernel_rfl) (by kernel_rfl) (by rfl) (by first | assumption | decide +kernel) (by decide +kernel) ⟨rfl, rfl, rfl, rfl, rfl, by decide +kernel⟩ ?hw ?hc
  case hw => w_witness2
  case hc =>
    refine K0.walk_ofA (l := K0.LW) (n := 63) (x := "script") (CX := L2.CX0) rfl (by decide) (by kernel_rfl) ?F (fun _ _ _ _ z => z)
    intro w mg fa h Y G hmg0
    obtain ⟨K, KX, c⟩ := Y
    have hmg : mg ("law" : PySem.Str) = some (.ref fa) := by
      have e : (HandSHeadRun.topDef K0.R.prog 33).name = ("law" : PySem.Str) := by kernel_rfl
      rw [← e]
      exact hmg0
    obtain ⟨fd, hb, hF⟩ := K0.facts (w := w) KX G hmg c
    exact ⟨K, fd, K0.spLaw K, KX, hb, fun H a ns hl _ hS => ⟨a, ns, rfl, hS, hl, fun _ => rfl⟩, hF⟩
