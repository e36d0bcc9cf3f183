import PyProof.Rows.All
import Wide.All
import OpenK.AllK
import Wide.FinOn
import HandS.ForMost
import HandS.Exc
import HandS.ExcInit
import HandS.ExcIs
import HandS.ExcField
import HandS.Evl
import HandS.Defaults
import HandS.IsInst
import HandS.ExcValue
import HandS.ExcBuiltin
import HandS.Wide
import HandS.MakeKwOnly
import KE.KExcIs
import HandS.Iter
import HandS.OwnEq
import HandS.Strs
import HandS.SetFor
import HandS.TupMul
import HandS.TupAny
import HandS.DictComp
import HandS.Conv
import HandS.Zip
import HandS.Rev
import PyProof.Rows.PlainNe
import KE.GoesEnum
import KE.GoesZip
import KE.GoesMore
import HandS.List
import HandS.Dict
import KE.KDictPairs
import HandS.ExcOwn
import PyProof.StrOps2
import HandS.Lambda
import HandS.TryMany
import HandS.EndTab
import KE.KNest
import PyProof.NeKinds
import HandS.Text
import HandS.WordsExc
import PySem.Challenge.RW_leastattr_k94_texts_of_trees
set_option Elab.async false
set_option linter.all false
set_option maxRecDepth 100000
set_option maxHeartbeats 4000000
/-! Exceptions as values: made by position or by name, their fields, isinstance. -/
namespace Exv
open PySem PySem.Spec PySem.W PySem.Calls PySem.HandSPX
section
variable {M : Model} {A : Around} {E : Value → Shared → Prop} {h : Heap} {g : Array GenState} {d : Drawn} {t : Nat} {os : OsState}
variable {nm q : Str} {C N : Addr} {bs bm bmB : List Value} {hdct : Bool} {sn : List Str} {sub : List Value} {ab : Bool} {col : Option Bool} {dd : Option Addr} {k0 k1 k2 k3 k5 : Option Value} {B newId initId : String}

theorem check_newK (F : ExcBaseFacts B newId initId bmB) (tail : ∀ X : String, bm.contains (.type X) = bmB.contains (.type X)) {rest : List Value} {kw : List (Str × Value)} {Q : Unit → Shared → Prop}
    (atC : h.get? C = some (excClassObj nm q C N bs bm hdct sn sub ab col dd k0 k1 k2 k3 k5 newId)) (go : Q () ⟨h, g, d, t, os⟩) : wpAny M A (checkBuiltinCall newId ⟨.ref C :: rest, kw⟩) Q E ⟨h, g, d, t, os⟩ := by
  have c0 : (Value.ref C :: bm).contains (.type B) = true := by rw [List.contains_cons, tail, F.hasB, Bool.or_true]
  have nst := F.noStar
  simp only [checkBuiltinCall, F.newKind, F.newSplit, F.newRow]
  repeat (first | refine wpAny_loadPart_at atC ?_ | (refine wpAny_isSubtype_exc atC ?_; rw [c0]) | refine wpAny_staticBase_exc atC ?_ | refine wpAny_madeBy_exc atC ?_ | simp only [bne_self_eq_false, Bool.false_eq_true, if_false] | wp_step)
  exact go
end
section
variable {prog : Program} {w : World} {A : Around} {E : Value → Shared → Prop} {R : Result → Shared → Prop} {h : Heap} {g : Array GenState} {d : Drawn} {t : Nat} {os : OsState}
variable {nm q : Str} {C N : Addr} {bs bm bmB : List Value} {hdct : Bool} {sn : List Str} {sub : List Value} {ab : Bool} {col : Option Bool} {dd : Option Addr} {k0 k1 k2 k3 k5 : Option Value} {B newId initId : String}

theorem newK (F : ExcBaseFacts B newId initId bmB) (tail : ∀ X : String, bm.contains (.type X) = bmB.contains (.type X)) {rest : List Value} {kw : List (Str × Value)}
    (atC : h.get? C = some (excClassObj nm q C N bs bm hdct sn sub ab col dd k0 k1 k2 k3 k5 newId))
    (go : R (.ok (.ret (.ref (h.objs.size + 1)))) ⟨(h.push { cls := .type "tuple", data := .seq rest.toArray }).push
      { cls := .ref C, data := .fields #[.ref h.objs.size, .none, .none, .none, .bool false, .none] }, g, d, t, os⟩) (fits : rest.length ≤ sizeLine) :
    codeAny (model prog w) A (.builtin newId ⟨.ref C :: rest, kw⟩) R ⟨h, g, d, t, os⟩ := by
  have fin0 := F.ends
  have c1 : (Value.ref C :: bm).contains (.type B) = true := by rw [List.contains_cons, tail, F.hasB, Bool.or_true]
  have c2 : (Value.ref C :: bm).contains (.type "AttributeError") = false := by rw [List.contains_cons, tail, F.noAttr]; rfl
  have c3 : (Value.ref C :: bm).contains (.type "NameError") = false := by rw [List.contains_cons, tail, F.noName]; rfl
  refine PySem.codeAny_builtinAt F.entry ?_
  unfold Builtin.«BaseException.__new__»
  refine PySem.wpAt_bind ?_
  show PySem.wpAt _ _ _ (stack >>= _) _ _ _
  refine PySem.wpAt_bind (PySem.wpAt_stack fun p below => PySem.wpAt_of_wpAny ?_)
  wp_walk
  refine PySem.wpAt_of_wpAny ?_
  rw [F.owner]
  repeat (first | with_reducible refine wpAny_madeHere_exc F.canon atC ?_ | with_reducible refine wpAny_loadPart_at atC ?_ | (with_reducible refine wpAny_isSubtype_exc atC ?_; first | rw [c1] | rw [c2] | rw [c3]) | wp_step)
  show R _ _
  rw [Heap.size_push]
  exact go

theorem type_callK (F : ExcBaseFacts B newId initId bmB) (tail : ∀ X : String, bm.contains (.type X) = bmB.contains (.type X)) {rest : List Value} {kw : List (Str × Value)} {fI : Addr} {Q : Fin → Shared → Prop}
    (atC : h.get? C = some (excClassObj nm q C N bs bm hdct sn sub ab col dd k0 k1 k2 k3 k5 newId))
    (ini : W.Looks (model prog w) h (typeLookup (.ref C) "__init__") (some (.ref fI))) (bnd : ∀ self, W.Looks (model prog w) h (bindSpecial (.ref fI) self) (.ref fI, [self])) (fits : rest.length ≤ sizeLine)
    (go : codeAny (model prog w) A (.call (.ref fI) ⟨.ref (h.objs.size + 1) :: rest, kw⟩)
      (fun r s' => match r with | .ok (.ret v) => v = .none ∧ Q (.done (.ret (.ref (h.objs.size + 1)))) s' | .ok _ => False | .error e => E e s')
      ⟨(h.push (W.kdv_tup rest)).push (excO C h.objs.size), g, d, t, os⟩) :
    wpAny (model prog w) A (Builtin.«type.__call__» ⟨.ref C :: rest, kw⟩) Q E ⟨h, g, d, t, os⟩ := by
  repeat (first | with_reducible refine wpAny_loadPart_at atC ?_ | with_reducible refine wpAny_madeBy_exc atC ?_ | wp_step)
  refine codeAny_call_builtin_code (Code.quiet_builtin _ F.quiet) (check_newK F tail atC ?_)
  refine newK F tail atC ?_ fits
  show wpAny _ _ _ _ _ _
  have kp : ∀ b o, h.get? b = some o → ((h.push (W.kdv_tup rest)).push (excO C h.objs.size)).get? b = some o := fun b o e => Heap.get?_push_of_some _ (Heap.get?_push_of_some _ e)
  have hC₁ := kp _ _ atC
  have got : ((h.push (W.kdv_tup rest)).push (excO C h.objs.size)).get? (h.objs.size + 1) = some (excO C h.objs.size) := by heap_get
  have c4 : (Value.ref C :: bm).contains (.ref C) = true := by simp
  have ini1 := ini.keeps kp
  have bnd1 := (bnd (.ref (h.objs.size + 1))).keeps kp
  unfold isInstance
  repeat (first | with_reducible refine wpAny_loadPart_at got ?_ | (with_reducible refine wpAny_isSubtype_exc hC₁ ?_; rw [c4]) | wp_step)
  show wpAny _ _ (typeLookup (.ref C) _) _ _ _
  refine ini1.at ?_
  refine wpAny_holding (wpAny_bind (bnd1.at ?_))
  refine wpAny_bind (wpAny_call (codeAny_mono go fun r s' z => ?_))
  rcases r with e | (v | _ | _ | _) <;> first | exact z | exact z.elim | skip
  obtain ⟨rfl, z⟩ := z
  first
    | exact wpAny_pure (wpAny_pure z)
    | (wp_walk; exact z)

theorem call_ownK (F : ExcBaseFacts B newId initId bmB) (tail : ∀ X : String, bm.contains (.type X) = bmB.contains (.type X)) {rest : List Value} {kw : List (Str × Value)} {fI : Addr}
    (atC : h.get? C = some (excClassObj nm q C N bs bm hdct sn sub ab col dd k0 k1 k2 k3 k5 newId))
    (ini : W.Looks (model prog w) h (typeLookup (.ref C) "__init__") (some (.ref fI))) (bnd : ∀ self, W.Looks (model prog w) h (bindSpecial (.ref fI) self) (.ref fI, [self])) (fits : rest.length ≤ sizeLine)
    (go : codeAny (model prog w) (A.under (.builtin "type.__call__" ⟨.ref C :: rest, kw⟩)) (.call (.ref fI) ⟨.ref (h.objs.size + 1) :: rest, kw⟩) (W.InitBack (h.objs.size + 1) R)
      ⟨(h.push (W.kdv_tup rest)).push (excO C h.objs.size), g, d, t, os⟩) :
    codeAny (model prog w) A (.call (.ref C) ⟨rest, kw⟩) R ⟨h, g, d, t, os⟩ := by
  have look0 := tc_lookup
  have bind0 := tc_bind (.ref C)
  have ty0 : (⟨h, g, d, t, os⟩ : Shared).TypeIs (.ref C) "type" := ⟨_, atC, rfl⟩
  refine codeAny_of_tree ?_
  show wpAny _ _ (callAny (.ref C) _) _ _ _
  repeat (any_goals (first | assumption | with_reducible refine wpAny_loadPart_at atC ?_ | wp_step))
  refine ⟨rfl, ?_⟩
  refine codeAny_call_builtin_at (Code.quiet_builtin _ (by decide +kernel)) entry_typeCall (wpAny_check_type_call_sub atC (type_callK F tail atC ini bnd fits ?_))
  refine codeAny_mono go fun r s' z => ?_
  rcases r with e | (v | _ | _ | _) <;> exact z
end
end Exv

namespace L2
open PySem PySem.Spec PyProof.Rows
/-- at a: an exception of the class at C, its fields fs -/
def ExcAt (H : Hp) (a C : Addr) (fs : List (Str × V)) : Prop := ∃ d, H a = some (exo a C (some d)) ∧ H d = some (exd d fs)
theorem ExcAt.mono {H H' : Hp} {a C : Addr} {fs : List (Str × V)} (e : ∀ b o, H b = some o → H' b = some o) (x : ExcAt H a C fs) : ExcAt H' a C fs :=
  let ⟨d, h1, h2⟩ := x; ⟨d, e _ _ h1, e _ _ h2⟩
/-- C(e, ..) of an exception class with its own __init__ -/
def tMkE (C : Addr) (sp : Sp) (ta : TA) : TE := fun σ H Q => ta σ H fun vs H1 => vs.length ≤ 1000 ∧ ∀ a, H1 a = none → sp (.ref a :: vs) (upd H1 a (exo a C none)) (fun v H2 => v = .non ∧ Q (.ref a) H2) (fun _ _ _ => False)
def tMkEK (C : Addr) (sp : Sp) (gV : List V → List V → List V) (n : Nat) (tk : TA) : TE := fun σ H Q => tk σ H fun zs H1 => zs.length = n ∧ ∀ a, H1 a = none → sp (gV [.ref a] zs) (upd H1 a (exo a C none)) (fun v H2 => v = .non ∧ Q (.ref a) H2) (fun _ _ _ => False)
/-- e.f of an exception -/
def tXv (K : PySem.W.Frag) (f : Str) (ta : TE) : TE := fun σ H Q => ta σ H fun x H1 => ∃ (a C : Addr) (fs : List (Str × V)) (v : V), x = .ref a ∧ ExcAt H1 a C fs ∧ XfC K C ∧ PySem.W.findIn K (.ref C) f = some none ∧ fs.lookup f = some v ∧ Q v H1
/-- isinstance(e, c) -/
def rIsX (K : PySem.W.Frag) : List V → Hp → VK → Prop := fun xs H Q => ∃ (a C : Addr) (c : V) (cv : Value) (b : Bool), xs = [.ref a, c] ∧ (H a = some (exo a C none) ∨ ∃ fs, ExcAt H a C fs) ∧ ClsV c cv ∧ ExcC K C ∧ PySem.W.kitOne K (.ref C) cv = some b ∧ Q (.bl b) H
section
variable {X : Cx} {k : Nat} {fI C : Addr} {fd : FuncData} {ps ks : List Str} {sp : Sp} {x f : Str} {p pos : Pos} {e : Expr} {es : List Expr} {kws : List Keyword} {ta tk : TA} {te : TE} {g : List Value → List Value → List Value} {gV : List V → List V → List V}
theorem run_exc {pins : List (Addr × Obj)} {σ : St} {H : Hp} {s : Shared} {Q : VK} {us : List Value} {kw : List (Str × Value)} {gv : Addr → List V} {gu : Addr → List Value} (T : OexC X.K C) (iC : PySem.W.findIn X.K (.ref C) "__init__" = some (some (.ref fI))) (tI : PySem.W.typeIn X.K (.ref fI) = some (.type "function"))
    (F1 : FnOk X.prog X.w X.K X.mg X.base CX0 k fI fd ps sp) (hr : Room (k + 1) X.A) (hb : ∀ (s : Shared) (a : Addr), X.K.In s.heap → BindsTo s fd ⟨.ref a :: us, kw⟩ (ps.zip (gu a)))
    (I : Inv X pins σ H s) (r : ∀ a, Vals (gv a) (gu a)) (hus : us.length ≤ sizeLine)
    (h : ∀ a, H a = none → sp (gv a) (upd H a (exo a C none)) (fun v H2 => v = .non ∧ Q (.ref a) H2) (fun _ _ _ => False)) :
    wpAny (model X.prog X.w) X.A (call (.ref C) us kw) (EP X pins σ Q) X.xe s := by
  obtain ⟨nm, q, N, bs, bm, sn, sub, ab, col, dd, k0, k1, k2, k3, k5, hC, hbm⟩ := T.cls
  obtain ⟨hp, gg, dr, tk, os⟩ := s
  have hsz : hp.objs.size ≤ hp.objs.size + 1 := Nat.le_succ _
  have hn : H (hp.objs.size + 1) = none := I.hok.fresh hsz
  have hq := h (hp.objs.size + 1) hn
  have kk : ∀ b o, hp.get? b = some o → ((hp.push (PySem.W.kdv_tup us)).push (PySem.HandSPX.excO C hp.objs.size)).get? b = some o := fun b o e => Heap.get?_push_of_some _ (Heap.get?_push_of_some _ e)
  have hget : ((hp.push (PySem.W.kdv_tup us)).push (PySem.HandSPX.excO C hp.objs.size)).get? (hp.objs.size + 1) = some (PySem.HandSPX.excO C hp.objs.size) := by heap_get
  have I2 : Inv X pins σ (upd H (hp.objs.size + 1) (exo (hp.objs.size + 1) C none)) ⟨(hp.push (PySem.W.kdv_tup us)).push (PySem.HandSPX.excO C hp.objs.size), gg, dr, tk, os⟩ :=
    I.laid (t' := tk) (a := hp.objs.size + 1) (o := exo (hp.objs.size + 1) C none) (h' := (hp.push (PySem.W.kdv_tup us)).push (PySem.HandSPX.excO C hp.objs.size)) kk hsz (exo_ok hget)
  refine wpAny_call (Exv.call_ownK F.excBase_ValueError (fun Y => PySem.HandSPX.refsVE_contains Y bm hbm) (I.kIn _ _ hC) (PySem.W.looks_findIn I.kIn iC) (fun self => PySem.W.bind_fn I.kIn self tI) hus
    (codeAny_mono (F1.run _ X.stack _ _ ⟨Value.ref (hp.objs.size + 1) :: us, kw⟩ (gu (hp.objs.size + 1)) _ _ (fun _ _ _ => False) (hr.make C us kw) (I2.env0.make C us kw) (hb _ (hp.objs.size + 1) I2.kIn) (r _) hq) fun r s' hq' => ?_))
  cases r with
  | error er => exact False.elim hq'
  | ok fl =>
    cases fl with
    | ret u =>
      obtain ⟨v, H', I3, rv, ev, q3⟩ := I2.after hq'
      subst ev
      exact ⟨rv, ⟨V.ref (hp.objs.size + 1), H', I3, rfl, q3⟩⟩
    | next => exact False.elim hq'
    | brk => exact False.elim hq'
    | cont => exact False.elim hq'
theorem pe_exc (T : OexC X.K C) (iC : PySem.W.findIn X.K (.ref C) "__init__" = some (some (.ref fI))) (tI : PySem.W.typeIn X.K (.ref fI) = some (.type "function"))
    (F1 : FnOk X.prog X.w X.K X.mg X.base CX0 k fI fd ps sp) (hr : Room (k + 1) X.A) (hb : Binds X.K fd ps []) (hm : X.mg x = some (.ref C)) (ha : PA X (e :: es) ta) (hg : Gl X x := by rfl)
    (hdb : (x == ("__debug__" : Str)) = false := by decide) (he : starEach (e :: es) X.env = (false, eval e X.env) :: starEach es X.env := by rfl) (hpl : (backTo pos (starEach es X.env)).any (·.1) = false := by rfl) :
    PE X (.Call (.Name x p) (e :: es) [] pos) (tMkE C sp ta) := by
  refine ⟨fun pins s σ H Q I h => ?_⟩
  refine wpAny_Call_Name_kw (ld_glob I hg hm ?_ hdb)
  refine PySem.W.callWith_K (h₀ := X.base) I.ok.mod.kin T.kC (thn (ha.run pos pins s σ H _ I h) fun us s1 ⟨vs, H1, I1, r1, hz, q1⟩ => ⟨I1.kIn, ?_⟩) he hpl
  show wpAny _ _ (call (.ref C) us) _ _ _
  have hus : us.length ≤ sizeLine := by
    rw [← Paired.length r1, sizeLine_eq]
    omega
  have hl : ∀ a, (Value.ref a :: us).length = ps.length := fun a => by
    have e1 := F1.len _ _ _ _ (q1 s1.heap.objs.size (I1.hok.fresh (Nat.le_refl _)))
    rw [← e1, List.length_cons, List.length_cons, ← Paired.length r1]
  refine run_exc (gv := fun a => .ref a :: vs) (gu := fun a => .ref a :: us) T iC tI F1 hr (fun s a hK => ?_) I1 (fun a => .cons rfl r1) hus q1
  have z := hb s (Value.ref a :: us) hK (by rw [List.append_nil]; exact hl a)
  rw [List.append_nil] at z
  exact z
theorem pe_excK (T : OexC X.K C) (iC : PySem.W.findIn X.K (.ref C) "__init__" = some (some (.ref fI))) (tI : PySem.W.typeIn X.K (.ref fI) = some (.type "function"))
    (F1 : FnOk X.prog X.w X.K X.mg X.base CX0 k fI fd ps sp) (hr : Room (k + 1) X.A) (hb : KBn X.K fd ps 1 ks g gV) (hm : X.mg x = some (.ref C)) (hkw : PK X kws tk) (hg : Gl X x := by rfl)
    (hall : (backToKw pos (keywordEach kws X.env)).all (·.1.isSome) = true := by rfl) (hks : (backToKw pos (keywordEach kws X.env)).filterMap (·.1) = ks := by rfl) (hdb : (x == ("__debug__" : Str)) = false := by decide)
    (hpl : ((backTo pos (starEach [] X.env)).any (·.1) || (backToKw pos (keywordEach kws X.env)).any (·.1.isNone)) = false := by rfl) :
    PE X (.Call (.Name x p) [] kws pos) (tMkEK C sp gV ks.length tk) := by
  refine ⟨fun pins s σ H Q I h => ?_⟩
  refine wpAny_Call_Name_kw (ld_glob I hg hm ?_ hdb)
  refine PySem.W.callWith_KW0 (h₀ := X.base) I.ok.mod.kin T.kC hall ?_ hpl
  refine thn (hkw.run pos pins s σ H _ I h) fun ws s2 ⟨zs, H2, I2, rz, l2, q2⟩ => ⟨I2.kIn, ?_⟩
  rw [hks]
  exact run_exc (us := []) (gv := fun a => gV [.ref a] zs) (gu := fun a => g [.ref a] ws) T iC tI F1 hr (fun s a hK => hb.to s [.ref a] ws hK rfl (rz.length.symm.trans l2)) I2 (fun a => hb.rel (.cons rfl .nil) rz) (by rw [sizeLine_eq]; decide) q2
theorem pe_xv (he : PE X e te) (hb : attributeBase e f X.env (eval e X.env) = eval e X.env := by rfl) : PE X (.Attribute e f pos) (tXv X.K f te) := by
  refine ⟨fun pins s σ H Q I h => ?_⟩
  refine attr_of hb (thn (he.run pins s σ H _ I h) fun u s1 hh => ?_)
  obtain ⟨x, H1, I1, rx, a, C, fs, v, ex, ⟨d, ea, ed⟩, T, hno, l, q⟩ := hh
  subst ex
  obtain rfl : u = Value.ref a := rx
  obtain ⟨t1, ho⟩ := exo_at I1.hok ea
  obtain ⟨mA, hns, hr⟩ := exd_at I1.hok ed
  obtain ⟨od, hod, hl⟩ := lookIn_ns hns
  obtain ⟨u, hu, ru⟩ := RelO.some_of (v := v) (o := mA f) (by rw [← l]; exact hr f)
  have J : PySem.W.InstAt s1.heap a { cls := .ref C, dict := some d, data := .fields #[.ref t1, .none, .none, .none, .bool false, .none] } C (some od) := ⟨ho, rfl, rfl, hod⟩
  exact HandSPX.exc_get I1.kIn J T.ga T.gg T.exC (PySem.W.findObj_own T.hdC hno rfl (by rw [hl, hu])) (handed_of ru) ⟨v, H1, I1.tok _, ru, q⟩
theorem call_isX : CallR X (.builtin "isinstance") (rIsX X.K) := by
  intro pins s σ H xs us Q I r h
  obtain ⟨a, C, c, cv, b, rfl, hx, hcv, T, e, q⟩ := h
  cases r with
  | cons rx rr =>
    cases rr with
    | cons rt rr =>
      cases rr
      cases rx
      have ec := hcv.eq rt
      subst ec
      have hcl : (PySem.W.clsIn X.K C).isSome = true := by
        obtain ⟨cd, hc, _⟩ := PySem.W.any_some T.hd
        rw [hc] <;> rfl
      rcases hx with ea | ⟨fs, d, ea, ed⟩
      · obtain ⟨t1, ho⟩ := exo_at I.hok ea
        have J : PySem.W.InstAt s.heap a { cls := .ref C, dict := none, data := .fields #[.ref t1, .none, .none, .none, .bool false, .none] } C none := ⟨ho, rfl, rfl, trivial⟩
        exact PySem.W.kia_one (PySem.W.kitx_exc hcl T.hg T.hk T.hs T.ha T.hn T.ht T.hm) I.kIn J e (fun z => nomatch z) fun tk => ⟨.bl b, H, I.tok tk, rfl, q⟩
      · obtain ⟨t1, ho⟩ := exo_at I.hok ea
        obtain ⟨mA, hns, hr⟩ := exd_at I.hok ed
        obtain ⟨od, hod, hl⟩ := lookIn_ns hns
        have J : PySem.W.InstAt s.heap a { cls := .ref C, dict := some d, data := .fields #[.ref t1, .none, .none, .none, .bool false, .none] } C (some od) := ⟨ho, rfl, rfl, hod⟩
        exact PySem.W.kia_one (PySem.W.kitx_exc hcl T.hg T.hk T.hs T.ha T.hn T.ht T.hm) I.kIn J e (fun z => nomatch z) fun tk => ⟨.bl b, H, I.tok tk, rfl, q⟩
end
end L2

namespace L2
open PySem PySem.Spec PyProof.Rows
/-- at a: an object whose class is the built-in T -/
def exb (a : Addr) (T : String) : HO := .ext fun h => PySem.W.KitAt a T h
theorem exb_ok {P : Program} {w : World} {H : Hp} {h : Heap} {a : Addr} {T : String} {o : Obj} (e : h.get? a = some o) (c : o.cls = .type T) : ObjOk P w H h a (exb a T) :=
  ⟨⟨o, e, c⟩, ⟨o, e⟩, fun _ _ ⟨o, q, r⟩ k => ⟨o, k o q, r⟩⟩
theorem exb_at {P : Program} {w : World} {H : Hp} {h : Heap} {a : Addr} {T : String} (hok : HOk P w H h) (e : H a = some (exb a T)) : PySem.W.KitAt a T h := by
  have x : ObjOk P w H h a (.ext fun h => PySem.W.KitAt a T h) := hok a _ e
  exact x.1
/-- isinstance(e, c), e of the built-in class ValueError -/
def rIsB (K : PySem.W.Frag) : List V → Hp → VK → Prop := fun xs H Q => ∃ (a : Addr) (c : V) (cv : Value) (b : Bool), xs = [.ref a, c] ∧ H a = some (exb a "ValueError") ∧ ClsV c cv ∧ PySem.W.kitOne K (.type "ValueError") cv = some b ∧ Q (.bl b) H
section
variable {X : Cx} {C : Addr} {x : Str} {p pos : Pos} {e : Expr} {es : List Expr} {ta : TA}
theorem call_isB : CallR X (.builtin "isinstance") (rIsB X.K) := by
  intro pins s σ H xs us Q I r h
  obtain ⟨a, c, cv, b, rfl, ea, hcv, e, q⟩ := h
  cases r with
  | cons rx rr =>
    cases rr with
    | cons rt rr =>
      cases rr
      cases rx
      have ec := hcv.eq rt
      subst ec
      exact PySem.W.kia_one (PySem.W.kitx_bexc PySem.F.excAttr_ValueError PySem.F.lkClass_ValueError PySem.F.soClass_ValueError (by decide +kernel)) I.kIn (exb_at I.hok ea) e (fun z => nomatch z) fun tk => ⟨.bl b, H, I.tok tk, rfl, q⟩
/-- ValueError(e, ..) as a value -/
theorem pe_ve (hg : Gl X "ValueError") (hm : X.mg "ValueError" = none) (ha : PA X (e :: es) ta)
    (he : starEach (e :: es) X.env = (false, eval e X.env) :: starEach es X.env := by rfl) (hpl : (backTo pos (starEach es X.env)).any (·.1) = false := by rfl) :
    PE X (.Call (.Name "ValueError" p) (e :: es) [] pos) (fun σ H Q => ta σ H fun vs H1 => vs.length ≤ sizeLine ∧ ∀ a, H1 a = none → Q (.ref a) (upd H1 a (exb a "ValueError"))) := by
  refine ⟨fun pins s σ H Q J h => ?_⟩
  refine wpAny_Call_Name_kw (ld_blt J hg hm boot_ValueError ?_)
  refine PyProof.Rows.callWith_type1 (thn (ha.run pos pins s σ H _ J h) fun us s1 hh => ?_) he hpl
  obtain ⟨vs, H1, I1, r1, q0, q1⟩ := hh
  obtain ⟨hp1, g1, d1, tk1, os1⟩ := s1
  refine wpAny_call_exc exb_ValueError.call (fun h' a mk => ?_) (Nat.le_trans (Nat.le_of_eq r1.length.symm) q0)
  have hn : H1 a = none := I1.hok.gone mk.new
  obtain ⟨t0, ha', _, _⟩ := mk.there
  exact ⟨.ref a, _, I1.laidN (t' := tk1) mk.keeps mk.new hn (exb_ok ha' rfl), rfl, q1 a hn⟩
/-- C(), C an exception class without __init__ of its own -/
theorem pe_exc0 (q : PySem.W.excIn X.K C [.type "ValueError", .type "Exception", .type "BaseException", .type "object"] "ValueError.__new__" = true) (gC : X.mg x = some (.ref C)) (kC : PySem.W.keepIn X.K (.ref C) = true) (hg : Gl X x := by rfl)
    (hdb : (x == ("__debug__" : Str)) = false := by decide) :
    PE X (.Call (.Name x p) [] [] pos) (fun _ H Q => ∀ a, H a = none → Q (.ref a) (upd H a (exo a C none))) := by
  refine ⟨fun pins s σ H Q I h => ?_⟩
  refine wpAny_Call_Name_kw (ld_glob I hg gC ?_ hdb)
  refine PySem.W.callWith_K0 I.kIn kC ?_
  show wpAny _ _ (call (.ref C) []) _ _ _
  obtain ⟨bm, N, nm, qn, bs, hdct, sn, sub, ab, col, dd, k0, k1, k2, k3, k5, mN, hC, hN, hni, T⟩ := exc_obj I.kIn q
  obtain ⟨hp1, g1, d1, tk1, os1⟩ := s
  refine wpAny_call_exc_subT PySem.F.excBase_ValueError T hC hN hni (fun h' a hm => ?_) (Nat.zero_le _)
  have hn : H a = none := I.hok.gone hm.new
  obtain ⟨t, ht, _, _⟩ := hm.there
  exact ⟨.ref a, _, I.laidN (t' := tk1) hm.keeps hm.new hn (exo_ok ht), rfl, h a hn⟩
end
/-! ### list + list, whatever may be read -/
def rCatS (K : PySem.W.Frag) : R2 := fun x y H Q => ∃ l b xs zs, x = .ref l ∧ y = .ref b ∧ SqL K H l xs ∧ SqL K H b zs ∧ xs.length + zs.length ≤ sizeLine ∧ ∀ p, H p = none → Q (.ref p) (upd H p (.lst (xs ++ zs)))
theorem op_catS {X : Cx} : OpR X (binaryOp .Add) (rCatS X.K) := by
  intro pins s σ H x y v u Q I rx ry h
  obtain ⟨l, b, xs, zs, rfl, rfl, hH, hB, hz, q⟩ := h
  cases rx
  cases ry
  obtain ⟨its, r, ⟨o1, n1, e1, c1, d1, s1⟩, z1⟩ := I.list hH
  obtain ⟨its2, r2, ⟨o2, n2, e2, c2, d2, s2⟩, z2⟩ := I.list hB
  have hl := r.length
  have hl2 := r2.length
  have ea : its.toArray ++ its2.toArray = (its ++ its2).toArray := by simp
  obtain ⟨oc1, od1, oda1, os1⟩ := o1
  obtain ⟨oc2, od2, oda2, os2⟩ := o2
  simp only at c1 d1 s1 c2 d2 s2
  subst c1 d1 s1 c2 d2 s2
  refine concat_meets ⟨_, e1, rfl⟩ ⟨_, e2, rfl⟩ noFill_list_add seq_list_add PySem.F.slot_list_add PySem.F.entry_list_add (PySem.F.args_list_add_2 _ _) (list_addW l b its.toArray its2.toArray n1 n2 none none os1 os2 (by rw [List.size_toArray, List.size_toArray]; omega)) ⟨e1, e2, ?_⟩
  rw [ea]
  exact ⟨.ref _, _, I.lnew (t' := s.toks) (r.append r2) (by rw [List.length_append]; omega), rfl, q _ I.fresh⟩
end L2

set_option Elab.async false
set_option linter.all false
set_option maxRecDepth 100000
set_option maxHeartbeats 4000000
/-! enumerate over a tuple; len(set(texts)); == and != by an own __eq__ with any answer. -/
namespace Own
open PySem PySem.Spec PySem.W PySem.Calls PySem.SeqAt
/-! ### enumerate(t), t a tuple -/
theorem newT (t : Addr) (its : Array Value) :
    Meets (Builtin.«enumerate.__new__» ⟨[.type "enumerate", .ref t], []⟩) (fun _ R s => s.heap.IsTuple t its ∧
      R (.ok (.ret (.ref (s.heap.objs.size + 1)))) { s with heap := (s.heap.push { cls := .type "tuple_iterator", data := .fields #[.ref t, .int 0 0] }).push { cls := .type "enumerate", data := .fields #[.none, .bool false, .ref s.heap.objs.size, rawInt 0, .none, .none] } }) :=
  .of_wp fun prog w A R s h => by
    obtain ⟨hp, g, d, tk, os⟩ := s; obtain ⟨hT, h⟩ := h
    have hsub := sub_enumerate
    have hz : (hp.push { cls := .type "tuple_iterator", data := .fields #[.ref t, .int 0 0] }).objs.size = hp.objs.size + 1 := Heap.size_push ..
    have h2 : R (.ok (.ret (.ref (hp.push { cls := .type "tuple_iterator", data := .fields #[.ref t, .int 0 0] }).objs.size))) ⟨(hp.push { cls := .type "tuple_iterator", data := .fields #[.ref t, .int 0 0] }).push { cls := .type "enumerate", data := .fields #[.none, .bool false, .ref hp.objs.size, rawInt 0, .none, .none] }, g, d, tk, os⟩ := by
      rw [hz]; exact h
    wp_walk using wpAny_pyIter_tuple hT
    refine wpAny_stack_any fun st => wpAny_pure ?_
    split
    · rename_i c _ _ _ _ _
      cases (c == Value.type "enumerate") <;> (wp_walk using wpAny_pyIter_tuple hT; exact ⟨_, rfl, h2⟩)
    · wp_walk using wpAny_pyIter_tuple hT
      exact ⟨_, rfl, h2⟩
section
variable {prog : Program} {w : World} {A : Around} {E : Value → Shared → Prop} {s : Shared}
theorem callT {t : Addr} {its : Array Value} {Q : Value → Shared → Prop} (hT : s.heap.IsTuple t its)
    (k : ∀ h', IsEnum h' (s.heap.objs.size + 1) s.heap.objs.size 0 .none → h'.IsTupleIter s.heap.objs.size t 0 → (∀ b o, s.heap.get? b = some o → h'.get? b = some o) → Q (.ref (s.heap.objs.size + 1)) { s with heap := h' }) :
    wpAny (model prog w) A (call (.type "enumerate") [.ref t]) Q E s := by
  refine callType_new F.called_enumerate (by decide) (F.typeCall_enumerate_1 _) (F.newCall_enumerate_1 _) (fun obj => F.args_object_init_2 obj _) F.entry_enumerate_new (newT t its) ⟨hT, ?_⟩
  have hz : (s.heap.push { cls := .type "tuple_iterator", data := .fields #[.ref t, .int 0 0] }).objs.size = s.heap.objs.size + 1 := Heap.size_push ..
  have he := Heap.get?_push_size (s.heap.push { cls := .type "tuple_iterator", data := .fields #[.ref t, .int 0 0] }) (o := { cls := .type "enumerate", data := .fields #[.none, .bool false, .ref s.heap.objs.size, rawInt 0, .none, .none] }) rfl
  rw [hz] at he
  exact ⟨⟨_, he, rfl⟩, k _ he ⟨_, Heap.get?_push_of_some _ (Heap.get?_push_size _ rfl), rfl, rfl⟩ fun b o x => Heap.get?_push_of_some _ (Heap.get?_push_of_some _ x)⟩
end
end Own
namespace L2
open PySem PySem.Spec PyProof.Rows
/-- the tuple at a, each item in a new pair -/
def IteT (K : PySem.W.Frag) (a : Addr) : It :=
  ⟨fun i H => ∃ (xs : List V) (x : V), SqT K H a xs ∧ xs[i]? = some x, fun i H v H' => ∃ T x, v = .ref T ∧ H T = none ∧ H' = upd H T (.tup [.int (i : Nat), x]) ∧ ∀ xs, SqT K H a xs → xs[i]? = some x, fun i H => ∃ xs : List V, SqT K H a xs ∧ xs.length ≤ i⟩
theorem turn_enumT {P : Program} {w : World} {K : PySem.W.Frag} {elts : List Expr} {kk : Nat} {tpos : Pos} (a e it : Addr) :
    Turn P w K (.Tuple elts kk tpos) (IteT K a) [e, it] e (fun i h => (∃ old, IsEnum h e it ((i : Nat) : Int) old) ∧ h.IsTupleIter it a i ∧ e ≠ it) where
  mem := by simp
  obj := fun i h st b hb => by
    obtain ⟨⟨old, he⟩, ⟨o, ho, hc, hd⟩, _⟩ := st
    have e' : b = e ∨ b = it := by simpa using hb
    rcases e' with z | z <;> rw [z]
    · exact ⟨_, he, fun v q => nomatch q⟩
    · exact ⟨o, ho, fun v q => by rw [hd] at q; cases q⟩
  keep := fun i h h' st k => ⟨st.1.imp fun _ he => k e (by simp) _ he, st.2.1.at fun o q => k it (by simp) o q, st.2.2⟩
  item := by
    intro X hP hw hK hc i pins s σ H E I hf st hg
    subst hP hw hK
    obtain ⟨⟨old, he⟩, hit, hne⟩ := st
    obtain ⟨xs, x, hq, hx⟩ := hg
    obtain ⟨its, rv, p, hz⟩ := I.tuple hq
    obtain ⟨u, hu, ru⟩ := rv.get hx
    have hel : e < s.heap.objs.size := Heap.lt_size he
    have hil : it < s.heap.objs.size := let ⟨_, q, _⟩ := hit; Heap.lt_size q
    have hai : a ≠ it := fun z => by
      obtain ⟨o, ho, ho2, _⟩ := hit
      obtain ⟨o3, ho3, ho4, _⟩ := p
      rw [z, ho] at ho3
      rw [← Option.some.inj ho3, ho2] at ho4
      injection ho4 with ho5
      exact absurd ho5 (by decide)
    have hae : a ≠ e := fun z => by
      obtain ⟨o3, ho3, ho4, _⟩ := p
      rw [z, he] at ho3
      rw [← Option.some.inj ho3] at ho4
      injection ho4 with ho5
      exact absurd ho5 (by decide)
    have hlt : i < its.toArray.size := by
      have := (List.getElem?_eq_some_iff.mp hu).1
      simpa using this
    refine wpAny_pyNext_enum_itemD (Draws.tuple (by rw [Around.in1_handled]; exact I.ok.hd hc) it a hai its.toArray) he ⟨hit, p⟩ hlt hne (by simp [hae.symm, hne]) fun x' h' tk hx' ho st' hT hsz hk => ?_
    refine ⟨_, rfl, wpAny_letOwnedTupleGo_enum (s := { s with heap := h', toks := tk + 1 }) ho fun h'' he' sb => ?_⟩
    have hxu : x' = u := by
      have h1 : its[i]? = some x' := by simpa using hx'
      rw [hu] at h1
      exact (Option.some.inj h1).symm
    subst hxu
    have hT2 : h''.get? s.heap.objs.size = some { cls := .type "tuple", data := .seq #[.int i tk, x'] } := (sb.2 _ (Nat.ne_of_gt hel)).trans hT
    have new : ObjOk X.prog X.w (upd H s.heap.objs.size (.tup [.int (i : Nat), x])) h'' s.heap.objs.size (.tup [.int (i : Nat), x]) :=
      ⟨by show 2 ≤ sizeLine; decide, [.int i tk, x'], .cons ⟨_, rfl⟩ (.cons ru .nil), ⟨_, hT2, rfl, _, rfl⟩⟩
    have I1 : Inv X pins σ (upd H s.heap.objs.size (.tup [.int (i : Nat), x])) { s with heap := h'', toks := tk + 1 } :=
      I.turnedNew (ch := [e, it]) (fun b ob hb q => (sb.2 b (fun z => hb (by simp [z]))).trans (hk b ob (fun z => hb (by simp [z])) (fun z => hb (by simp [z])) q)) hf (Nat.le_refl _) new
    refine ⟨.ref s.heap.objs.size, _, I1, rfl, ⟨_, x, rfl, I.hok.fresh (Nat.le_refl _), rfl, fun ys hy => by rw [I.tuple_inj hy hq]; exact hx⟩, ⟨⟨x', ?_⟩, st'.1.at fun o q => (sb.2 it (Ne.symm hne)).trans q, hne⟩, fun b hb => ?_⟩
    · rw [show ((i + 1 : Nat) : Int) = (i : Int) + 1 by omega]
      exact he'
    · have e' : b = e ∨ b = it := by simpa using hb
      have hb' : b < s.heap.objs.size := by
        rcases e' with z | z <;> rw [z] <;> assumption
      rw [upd_ne (Nat.ne_of_lt hb')]
      exact (hf b hb).1
  done := by
    intro X hP hw hK hc i pins s σ H E I hf st hg
    subst hP hw hK
    obtain ⟨⟨old, he⟩, hit, hne⟩ := st
    obtain ⟨xs, hq, hx⟩ := hg
    obtain ⟨its, rv, p, hz⟩ := I.tuple hq
    obtain ⟨f0, f1, f2, f3, f4, f5⟩ := hf it (by simp)
    have hl := rv.length
    have hT : s.TypeIs (.ref e) "enumerate" := ⟨_, he, rfl⟩
    have hE : ∀ (E2 : Value → Shared → Prop) (Q2 : Value → Shared → Prop), (∀ h' x, Heap.ExtBut it s.heap h' → (∃ o, h'.get? x = some o ∧ o.cls = .type "StopIteration") → E2 (.ref x) { s with heap := h' }) →
        wpAny (model X.prog X.w) X.A.in1 (Builtin.SmallTypes.nextOf (.ref it)) Q2 E2 s := fun E2 Q2 k =>
      wpAny_nextOf_tuple_end (by rw [Around.in1_handled]; exact I.ok.hd hc) hit p (by simp; omega) k
    unfold pyNext
    refine wpAny_bind (wpAny_attempt (wpAny_callSpecial?_slot (name := Str.ofString "__next__") hT F.slot_enumerate_next
      (wpAny_call_entry F.slot_enumerate_next hT F.entry_enumerate_next ?_ (F.args_enumerate_next_1 _))))
    show wpAny _ _ (field (.ref e) 2 >>= _) _ _ _
    refine wpAny_bind (wpAny_field he rfl (x := .ref it) rfl ?_)
    refine wpAny_bind (hE _ _ fun h' x he' hx' => ?_)
    obtain ⟨o, ho, hoc⟩ := hx'
    refine wpAny_bind (wpAny_isInstance (T := "StopIteration") (b := true) ⟨o, ho, hoc⟩ isSubtype_stop ?_)
    exact wpAny_pure ⟨rfl, I.turned (t' := s.toks) (fun b ob hb q => he' b ob hb q) f0 f1 f3 f4 f5⟩
  self := fun A i s Q E st h => let ⟨⟨_, he⟩, _⟩ := st; wpAny_pyIter_enum he h
def iEnumA (K : PySem.W.Frag) (ta : TA) : TI := fun σ H R => ta σ H fun vs H1 => ∃ a xs, vs = [.ref a] ∧ ((SqL K H1 a xs ∧ R (Ite K a) H1) ∨ (SqT K H1 a xs ∧ R (IteT K a) H1))
/-- enumerate of a list or a tuple -/
theorem pi_enumA {X : Cx} {e : Expr} {ta : TA} {p pos tpos : Pos} {elts : List Expr} {kk : Nat} (hg : Gl X "enumerate") (hm : X.mg "enumerate" = none) (ha : PA X [e] ta) (hs : starEach [e] X.env = [(false, eval e X.env)] := by rfl) :
    PI X (.Tuple elts kk tpos) (.Call (.Name "enumerate" p) [e] [] pos) (iEnumA X.K ta) := by
  refine ⟨fun pins s σ H R I h => ?_⟩
  refine Call_ (ld_blt I hg hm boot_enumerate (PyProof.Rows.callWith_type1 (thn (ha.run pos pins s σ H _ I h) fun us s1 ⟨vs, H1, I1, r1, a, xs, ex, q⟩ => ?_) hs rfl))
  subst ex
  rw [Vals.ref1 r1]
  have fp : ∀ b ∈ [s1.heap.objs.size + 1, s1.heap.objs.size], FpOk X pins H1 b := fun b hb => by
    have e' : b = s1.heap.objs.size + 1 ∨ b = s1.heap.objs.size := by simpa using hb
    have hle : s1.heap.objs.size ≤ b := by rcases e' with z | z <;> omega
    exact I1.fpOk hle (I1.hok.fresh hle)
  rcases q with ⟨hq, q⟩ | ⟨hq, q⟩
  · obtain ⟨its, rv, p', hz⟩ := I1.list hq
    refine call_enumerate_list p'.isList fun h' he hit hsz hk => wpAny_pyIter_enum he ?_
    exact ⟨s1.heap.objs.size + 1, [s1.heap.objs.size + 1, s1.heap.objs.size], _, _, H1, rfl, I1.kept (t' := s1.toks) hk, turn_enum a (s1.heap.objs.size + 1) s1.heap.objs.size, ⟨⟨.none, he⟩, hit, Nat.succ_ne_self _⟩, fp, q⟩
  · obtain ⟨its, rv, p', hz⟩ := I1.tuple hq
    refine Own.callT p' fun h' he hit hk => wpAny_pyIter_enum he ?_
    exact ⟨s1.heap.objs.size + 1, [s1.heap.objs.size + 1, s1.heap.objs.size], _, _, H1, rfl, I1.kept (t' := s1.toks) hk, turn_enumT a (s1.heap.objs.size + 1) s1.heap.objs.size, ⟨⟨.none, he⟩, hit, Nat.succ_ne_self _⟩, fp, q⟩
end L2

set_option Elab.async false
set_option linter.all false
set_option maxRecDepth 100000
set_option maxHeartbeats 8000000
namespace Own
open PySem PySem.Spec PySem.W PySem.Calls PySem.SeqAt PyProof.Rows
section
variable {prog : Program} {w : World} {A : Around} {R : Result → Shared → Prop} {I : Addr} {fp wr : List Addr} {G : Array GenState → Array GenState → Prop} {n : Nat} {P : Nat → Value → Prop} {St : Nat → Shared → Prop}
/-- the first i texts are in the set, c of them different -/
def Some_ (prog : Program) (w : World) (h : Heap) (S : Addr) (xs : List Str) (i : Nat) : Prop := ∃ c, c ≤ i ∧ (c = i ↔ (xs.take i).Nodup) ∧ h.SetOf (PySem.strKind prog w) S (fun z => decide (z ∈ xs.take i)) c
theorem nodup_snoc {α : Type} [DecidableEq α] {l : List α} {x : α} : (l ++ [x]).Nodup ↔ l.Nodup ∧ x ∉ l := by
  rw [List.nodup_append]
  constructor
  · rintro ⟨h1, _, h3⟩
    exact ⟨h1, fun hx => h3 x hx x (by simp) rfl⟩
  · rintro ⟨h1, h2⟩
    exact ⟨h1, by simp, fun a ha b hb => by
      rw [List.mem_singleton] at hb
      subst hb
      exact fun z => h2 (z ▸ ha)⟩
theorem addTexts (W : WalksS prog w A.in1 I fp wr G n P St) (S : Addr) (hSf : S ∉ fp) (xs : List Str) (hsz : xs.length = n) (hn1 : n ≤ 1000) (hval : ∀ i v, P i v → ∃ z t, xs[i]? = some z ∧ v = .str z t) :
    ∀ (k i : Nat) (s : Shared), n - i = k → i ≤ n → St i s → Some_ prog w s.heap S xs i → (∀ s', Moved (S :: wr) G s s' → Some_ prog w s'.heap S xs n → R (.ok (.ret .none)) s') →
      codeAny (model prog w) A (.builtin "set.update.loop" ⟨[.ref S, .ref I], []⟩) R s := by
  have hSw : S ∉ wr := fun h => hSf (W.sub _ h)
  have hsub : ∀ b ∈ wr, b ∈ S :: wr := fun b hb => List.mem_cons_of_mem _ hb
  have keep : ∀ {s s' : Shared} {i : Nat}, Moved wr G s s' → Some_ prog w s.heap S xs i → Some_ prog w s'.heap S xs i := fun hm ⟨c, c1, c2, o, es, ep, t, ho, rest⟩ => ⟨c, c1, c2, o, es, ep, t, hm.heap S _ hSw ho, rest⟩
  intro k
  induction k with
  | zero =>
    intro i s hk hi hst hS hR
    obtain rfl : i = n := by omega
    refine codeAny_builtin PyProof.Rows.F.entry_set_update_loop ?_
    rw [Around.under_plainId PyProof.Rows.F.plain_set_update_loop _]
    show wpAny _ A.in1 (pyNext (.ref I) >>= _) _ _ s
    refine wpAny_bind (W.done s _ _ hst fun s' hm => ?_)
    exact wpAny_pure (hR s' (hm.mono hsub) (keep hm hS))
  | succ k ih =>
    intro i s hk hi hst hS hR
    have hlt : i < n := by omega
    refine codeAny_builtin PyProof.Rows.F.entry_set_update_loop ?_
    rw [Around.under_plainId PyProof.Rows.F.plain_set_update_loop _]
    show wpAny _ A.in1 (pyNext (.ref I) >>= _) _ _ s
    refine wpAny_bind (W.item i s _ _ hlt hst fun v s' hP hst' hm => ?_)
    obtain ⟨z, t, hz, rfl⟩ := hval i v hP
    obtain ⟨c, c1, c2, hS'⟩ := keep hm hS
    show wpAny _ A.in1 (holding [Value.str z t] (setAdd S (.str z t)) >>= _) _ _ s'
    refine wpAny_bind (wpAny_holding ?_)
    unfold setAdd
    refine wpAny_holding (wpAny_bind ((PySem.strKind prog w).pyHash (k := z) (strKind_is _ _ _ _) ?_))
    refine wpAny_setAddHashed_of (knd := PySem.strKind prog w) (s := { s' with toks := s'.toks + 1 }) (strKind_is _ _ _ _) rfl hS' (by unfold scanBound; omega) fun h' hsb hS2 => ?_
    have et : xs.take (i + 1) = xs.take i ++ [z] := by rw [List.take_add_one, hz]; rfl
    have hS3 : Some_ prog w h' S xs (i + 1) := by
      refine ⟨_, ?_, ?_, SetOf_congr hS2 (fun y => ?_) rfl⟩
      · split <;> omega
      · rw [et, nodup_snoc]
        by_cases hm : z ∈ xs.take i
        · rw [if_pos (decide_eq_true hm)]
          exact ⟨fun e => by omega, fun e => absurd hm e.2⟩
        · rw [if_neg (by simpa using hm)]
          exact ⟨fun e => ⟨c2.mp (by omega), hm⟩, fun e => by have := c2.mpr e.1; omega⟩
      · rw [et]
        simp [List.mem_append]
    refine wpAny_pure ⟨plainId_quiet PyProof.Rows.F.plain_set_update_loop _, ih (i + 1) _ (by omega) hlt (W.frame _ s' _ _ hst' (Nat.le_succ _) fun b hb o e => ?_) hS3 fun s'' hm'' hS'' => ?_⟩
    · rw [hsb.2 b (fun h : b = S => hSf (by rw [← h]; exact hb))]; exact e
    · refine hR s'' (Moved.trans W.gtrans ((hm.mono hsub).then_heap (Nat.le_succ _) fun b o hb e => ?_) hm'') hS''
      rw [hsb.2 b (fun h : b = S => hb (by rw [h]; exact List.mem_cons_self))]; exact e
end
section
variable {prog : Program} {w : World} {A : Around} {E : Value → Shared → Prop} {s : Shared}
abbrev setO0 (led : Bool) : Obj := { cls := .type "set", dict := none, data := .set #[] 0 (.fresh 0 0 led) }
/-- set(t) of a tuple of texts -/
theorem call_set_texts {l : Addr} {items : Array Value} (xs : List Str) {Q : Value → Shared → Prop} (hh : A.handled = none) (hl : s.heap.IsTuple l items) (hi : StrsAre items.toList xs) (hn1 : xs.length ≤ 1000)
    (k : ∀ (h' : Heap) (tk : Nat), Some_ prog w h' s.heap.objs.size xs xs.length → (∀ b o, b < s.heap.objs.size → s.heap.get? b = some o → h'.get? b = some o) → Q (.ref s.heap.objs.size) { s with heap := h', toks := tk }) :
    wpAny (model prog w) A (call (.type "set") [.ref l]) Q E s := by
  obtain ⟨c, tl, hmro⟩ := PySem.F.called_set.mro
  have hmade := PySem.F.called_set.made
  have hsub := PySem.F.called_set.sub
  refine wpAny_call (codeAny_of_tree ?_)
  show wpAny _ _ (callAny (.type "set") _) _ _ _
  refine wpAny_pure ⟨Code.quiet_builtin _ (by decide +kernel), codeAny_builtin PySem.F.entry_type_call ?_⟩
  rw [Around.under_plain (weight_type_call_type "set" [.ref l] []) rfl]
  have h1 := PySem.F.called_set.notType
  have h2 := PySem.F.called_set.canCreate
  have hct := PySem.F.typeCall_set_1 (.ref l)
  repeat (any_goals (first | assumption | wp_step))
  refine codeAny_mono (code_set_new_1 (.ref l) (E := E) (Q₁ := fun obj s₁ => ∃ led : Bool, obj = .ref s.heap.objs.size ∧ s₁ = { s with heap := s.heap.push (setO0 led) }) fun led => ⟨led, rfl, rfl⟩) fun r s₁ hr => ?_
  rcases r with e | (obj | _ | _ | _) <;> first | exact hr | exact hr.elim | skip
  obtain ⟨led, rfl, rfl⟩ := hr
  have hS : (s.heap.push (setO0 led)).get? s.heap.objs.size = some (setO0 led) := Heap.get?_push_size _ rfl
  have hT : Shared.TypeIs { s with heap := s.heap.push (setO0 led) } (.ref s.heap.objs.size) "set" := ⟨_, hS, rfl⟩
  have hli := PySem.F.called_set.init.lookup
  have hbi := PySem.F.called_set.init.bind (.ref s.heap.objs.size)
  repeat (any_goals (first | assumption | wp_step))
  refine codeAny_mono (codeAny_call_builtin (R := wants (fun r s₂ => r = .none ∧ ∃ h' tk, s₂ = { s with heap := h', toks := tk } ∧ Some_ prog w h' s.heap.objs.size xs xs.length ∧
      (∀ b o, b < s.heap.objs.size → s.heap.get? b = some o → h'.get? b = some o)) E) PySem.F.called_set.init.plain PySem.F.entry_set_init (check_set_init_1 hT ?_)) fun r₂ s₂ hr₂ => ?_
  · have hlS : l < s.heap.objs.size := let ⟨ol, hol, _⟩ := hl; Heap.lt_size hol
    have hl1 : (s.heap.push (setO0 led)).IsTuple l items := hl.push _
    obtain ⟨⟨ocls, odict, odata, oslots⟩, hol', hcl, nl, hdl⟩ := id hl1
    simp only at hcl hdl
    subst hcl; subst hdl
    have hsls := PySem.F.sub_tuple_set
    have hslf := PySem.F.sub_tuple_frozenset
    have hne : (Value.type "tuple" == Value.type "dict") = false := by decide
    unfold Builtin.«set.__init__» noKeywords Builtin.Frozenset.updateFrom
    generalize hPI : pyIter = PI
    wp_walk
    subst hPI
    refine wpAny_pyIter_tuple hl1 (wpAny_bind (wpAny_runValue ?_))
    have hh3 : A.in1.in1.in1.handled = none := by simp [hh]
    have hz1 : (s.heap.push (setO0 led)).objs.size = s.heap.objs.size + 1 := Heap.size_push ..
    have hneI : l ≠ (s.heap.push (setO0 led)).objs.size := by rw [hz1]; exact Nat.ne_of_lt (Nat.lt_succ_of_lt hlS)
    have hsz : xs.length = items.size := by rw [← StrsAre.len_eq hi, Array.length_toList]
    have hval : ∀ (i : Nat) (v : Value), items[i]? = some v → ∃ z t, xs[i]? = some z ∧ v = .str z t := fun i v hv => by
      obtain ⟨t, e⟩ := SS.strs_at hi i v (by rw [Array.getElem?_toList]; exact hv)
      have hlt : i < xs.length := by rw [hsz]; exact (Array.getElem?_eq_some_iff.mp hv).1
      refine ⟨xs[i], t, List.getElem?_eq_getElem hlt, ?_⟩
      rw [e, List.getD_eq_getElem?_getD, List.getElem?_eq_getElem hlt]
      rfl
    refine addTexts ((Walks.tuple hh3 _ l hneI items).toS) s.heap.objs.size (by rw [hz1]; simp only [List.mem_cons, List.mem_singleton, List.not_mem_nil, or_false, not_or]; exact ⟨Nat.ne_of_lt (Nat.lt_succ_self _), Nat.ne_of_gt hlS⟩) xs hsz (by omega) hval (items.size - 0) 0 _ (by omega) (Nat.zero_le _)
      ⟨⟨_, Heap.get?_push_size _ rfl, rfl, rfl⟩, (hl1.push _)⟩ ?hS0 ?hR
    case hS0 =>
      refine ⟨0, Nat.le_refl _, by simp, ?_⟩
      refine SetOf_congr ((setObjOf_fresh (knd := PySem.strKind prog w) led).setOf (a := s.heap.objs.size) (Heap.get?_push_of_some _ hS) (by unfold scanBound; omega)) (fun _ => ?_) rfl
      simp
    case hR =>
      intro s' hm hS'
      obtain ⟨h', g', d', tk', os'⟩ := s'
      obtain rfl : g' = s.gens := hm.gens
      obtain rfl : d' = s.drawn := hm.drawn
      obtain rfl : os' = s.os := hm.os
      refine wpAny_pure (wpAny_pure ⟨rfl, h', tk', rfl, by rw [hsz]; exact hS', fun b o hb e => ?_⟩)
      exact hm.heap b o (by rw [hz1]; simp only [List.mem_cons, List.mem_singleton, List.not_mem_nil, or_false, not_or]; exact ⟨Nat.ne_of_lt hb, Nat.ne_of_lt (Nat.lt_succ_of_lt hb)⟩) (Heap.get?_push_of_some _ (Heap.get?_push_of_some _ e))
  · rcases r₂ with e | (r | _ | _ | _) <;> first | exact hr₂ | exact hr₂.elim | skip
    obtain ⟨rfl, h', tk, rfl, hS', hk'⟩ := hr₂
    repeat (any_goals (first | assumption | wp_step))
    exact k _ _ hS' hk'
end
end Own

namespace L2
open PySem PySem.Spec PyProof.Rows
section
variable {X : Cx}
/-- len(set(t)), t a tuple of texts: as many as they are exactly if no two are equal -/
def tLenSetT (K : PySem.W.Frag) (ta : TE) : TE := fun σ H Q => ta σ H fun x H1 => ∃ l, ∃ xs : List Str, x = .ref l ∧ SqT K H1 l (xs.map V.str) ∧ xs.length ≤ 1000 ∧ ∀ c : Nat, c ≤ xs.length → (c = xs.length ↔ xs.Nodup) → Q (.int c) H1
theorem pe_lenSetT {a : Expr} {ta : TE} {p p2 q pos : Pos} (hc : X.calm = true) (hg : Gl X "len") (hm : X.mg "len" = none) (hg2 : Gl X "set") (hm2 : X.mg "set" = none) (ha : PE X a ta)
    (na : starEach [a] X.env = (false, eval a X.env) :: starEach [] X.env := by rfl) : PE X (.Call (.Name "len" p) [.Call (.Name "set" p2) [a] [] q] [] pos) (tLenSetT X.K ta) := by
  refine ⟨fun pins s σ H Q I h => Call_ (ld_blt I hg hm boot_len ?_)⟩
  refine PyProof.Rows.callWith_builtin1 (PyProof.Rows.args_cons ?_ rfl) rfl rfl
  refine Call_ (ld_blt I hg2 hm2 boot_set ?_)
  refine PyProof.Rows.callWith_type1 (PyProof.Rows.args_cons (thn (ha.run pins s σ H _ I h) fun v s1 ⟨x, H1, I1, r1, l, xs, ex, hq, h1, q1⟩ => PyProof.Rows.args_nil ?_) na) na rfl
  subst ex
  obtain rfl : v = Value.ref l := r1
  obtain ⟨its, r, pl, hz⟩ := I1.tuple hq
  refine Own.call_set_texts xs (I1.ok.hd hc) pl (by simpa using strsAre_of r) h1 fun h' tk ⟨c, c1, c2, hS⟩ hk => PyProof.Rows.args_nil ?_
  obtain ⟨o, es, ep, t, ho, hex, hd, _, _, _, hf, hn⟩ := hS
  have I2 : Inv X pins σ H1 { s1 with heap := h' } := I1.kept (t' := s1.toks) fun b o e => hk b o (Heap.lt_size e) e
  rw [List.take_length] at c2
  refine call_len_set ho hex hd hf (by rw [hn] <;> omega) ⟨.int c, H1, I2.tok _, ⟨_, by rw [hn]⟩, q1 c c1 c2⟩
end
end L2

set_option Elab.async false
set_option linter.all false
set_option maxRecDepth 100000
set_option maxHeartbeats 8000000
namespace Own
open PySem PySem.Spec PySem.W PySem.Calls
section
variable {prog : Program} {w : World} {A : Around} {E : Value → Shared → Prop} {s : Shared} {K : Frag} {x C L f : Addr} {h₀ : Heap} {m : Str → Option Value} {ox : Obj} {od : Option Obj} {b tb : Value}
variable {nm q : Str} {N : Addr} {bs bm : List Value} {hdct : Bool} {sn : List Str} {sub : List Value} {ab : Bool} {col : Option Bool} {dd : Option Addr} {k0 k1 k2 k3 k5 : Option Value} {newId : String}
theorem ifBound_B {M : Model} {name : Str} {id : String} {args : List Value} {Q : Option Value → Shared → Prop} (X : K.In s.heap) (I : InstAt s.heap x ox C od) (hs : findIn K (.ref C) name = some (some (.builtin id)))
    (hbd : ∀ self, bindSpecial (.builtin id) self = pure (.builtin id, [self])) (h : wpAny M A (call (.builtin id) (.ref x :: args)) (fun v => Q (some v)) E s) : wpAny M A (callSpecialIfBound? (.ref x) name args) Q E s := by
  simp only [callSpecialIfBound?, bindSpecialIfBound?]
  refine wpAny_holding (wpAny_bind (wpAny_bind (wpAny_bind (I.type.here ((looks_findIn X hs).here ?_)))))
  simp only [hbd]
  refine wpAny_bind (wpAny_askSetting (wpAny_ite ?_))
  have fin : wpAny M A (call (.builtin id) ([.ref x] ++ args) >>= fun v => pure (some v)) Q E s := wpAny_bind (wpAny_mono h (fun v s' h' => wpAny_pure h') fun _ _ h' => h')
  split
  · exact wpAny_bind (wpAny_pure (wpAny_pure fin))
  · exact wpAny_tryCatch (wpAny_bind (wpAny_pure (wpAny_pure fin)))
theorem neBody (hu : A.units < cLine) (X : K.In s.heap) (I : InstAt s.heap x ox C od) (hs : findIn K (.ref C) "__eq__" = some (some (.ref f))) (hf : isFn K (.ref f) = true) {Q : Fin → Shared → Prop}
    (h : wpAny (model prog w) A (call (.ref f) [.ref x, b]) (fun v s' => ∃ c, v = .bool c ∧ Q (.done (.ret (.bool (!c)))) s') E s) :
    wpAny (model prog w) A (Builtin.«object.__ne__» ⟨[.ref x, b], []⟩) Q E s := by
  unfold Builtin.«object.__ne__»
  repeat (first
    | with_reducible refine wpAny_cRoomFor hu ?_
    | (refine wpAny_bind (m := callSpecialIfBound? (.ref x) (Str.ofString "__eq__") [b]) (ifBound_K X I hs hf (wpAny_mono h (fun r s' hr => by
          obtain ⟨c, rfl, hq⟩ := hr
          repeat (first | exact hq | exact wpAny_pure hq | exact wpAny_truthy_bool hq | (refine wpAny_bind (m := truthy (.bool _)) (wpAny_truthy_bool ?_)) | wp_step)) fun _ _ e => e)))
    | wp_step)
theorem cmpNe {Q : Value → Shared → Prop} (hu : A.units + 1 < cLine) (X : K.In s.heap) (I : InstAt s.heap x ox C od) (hb : Looks (model prog w) s.heap (typeOf b) tb) (hn : notFirst K C tb = true)
    (hs : findIn K (.ref C) "__eq__" = some (some (.ref f))) (hf : isFn K (.ref f) = true) (hne : findIn K (.ref C) "__ne__" = some (some (.builtin "object.__ne__")))
    (hC : s.heap.get? C = some (excClassObj nm q C N bs bm hdct sn sub ab col dd k0 k1 k2 k3 k5 newId)) (hbm : bm.contains (.type "object") = true)
    (h : wpAny (model prog w) A.in1 (call (.ref f) [.ref x, b]) (fun v s' => ∃ c, v = .bool c ∧ Q (.bool (!c)) s') E s) : wpAny (model prog w) A (richCompare .NotEq (.ref x) b) Q E s := by
  have S := F.cmp_object.ne
  have one : wpAny (model prog w) A (tryCompare (.ref x) "__ne__" b) (fun r s' => ∃ v, r = some v ∧ Q v s') E s := by
    unfold tryCompare
    have mid : wpAny (model prog w) A (call (.builtin "object.__ne__") [.ref x, b]) (fun v s' => ∃ c, v = .bool c ∧ Q v s') E s := by
      obtain ⟨hp, g, d, t, os⟩ := s
      refine wpAny_call (codeAny_call_builtin S.plain F.cmpEntry_ne (wpAny_check_slot_inst F.cmpKind_ne F.cmpSplit_ne (F.cmpArgs_ne _ _) hbm I.at_ I.cls hC (neBody (A := A.in1) (by rw [Around.in1_units]; exact hu) X I hs hf (wpAny_mono h (fun v s' hv => ?_) fun _ _ e => e))))
      obtain ⟨c, rfl, hq⟩ := hv
      first | exact ⟨c, rfl, _, rfl, hq⟩ | exact ⟨c, rfl, c, rfl, hq⟩ | exact ⟨c, rfl, hq⟩
    exact wpAny_bind (ifBound_B X I hne S.bind (wpAny_mono mid (fun v s' ⟨c, e, hq⟩ => by subst e; exact wpAny_pure ⟨_, rfl, hq⟩) fun _ _ e => e))
  unfold richCompare
  simp only [oneThing_ref]
  refine wpAny_holding (wpAny_bind (wpAny_cRoomFor (Nat.lt_of_succ_lt hu) ?_))
  rw [cmpInfo_NotEq]
  dsimp only
  refine wpAny_bind (I.type.here (wpAny_bind (hb.here ?_)))
  have fin : wpAny (model prog w) A (tryCompare (.ref x) "__ne__" b) (fun r s' => ∃ v, r = some v ∧ Q v s') E s := one
  split
  · rename_i hq
    have e : subIn K tb (.ref C) = some false := by
      rcases Bool.or_eq_true_iff.mp hn with e | e
      · rw [beq_iff_eq.mp e] at hq; simp at hq
      · exact beq_iff_eq.mp e
    refine wpAny_bind ((looks_subIn X e).here ?_)
    simp only [Bool.false_eq_true, if_false]
    refine wpAny_bind (wpAny_mono one (fun r s' z => ?_) fun _ _ e => e)
    obtain ⟨v, rfl, hq⟩ := z
    exact wpAny_pure hq
  · refine wpAny_bind (wpAny_pure ?_)
    simp only [Bool.false_eq_true, if_false]
    refine wpAny_bind (wpAny_mono one (fun r s' z => ?_) fun _ _ e => e)
    obtain ⟨v, rfl, hq⟩ := z
    exact wpAny_pure hq
end
end Own
namespace L2
open PySem PySem.Spec PyProof.Rows
/-- what the other one is: of the class too, or a tuple -/
def TyE (K : PySem.W.Frag) (C : Addr) (H : Hp) (y : V) : Prop := (∃ b dy gs, y = .ref b ∧ H b = some (.ins C dy gs)) ∨ (∃ b ys, y = .ref b ∧ SqT K H b ys ∧ PySem.W.notFirst K C (.type "tuple") = true)
def rEqS (K : PySem.W.Frag) (C : Addr) (sp : Sp) (E : XK) : R2 := fun x y H Q => ∃ a dx fs, x = .ref a ∧ H a = some (.ins C dx fs) ∧ TyE K C H y ∧ sp [x, y] H (fun v H' => ∃ c, v = .bl c ∧ Q (.bl c) H') E
def rNeS (K : PySem.W.Frag) (C : Addr) (sp : Sp) (E : XK) : R2 := fun x y H Q => ∃ a dx fs, x = .ref a ∧ H a = some (.ins C dx fs) ∧ TyE K C H y ∧ sp [x, y] H (fun v H' => ∃ c, v = .bl c ∧ Q (.bl (!c)) H') E
/-- a class with a method __eq__ and no __ne__ -/
structure EqC (K : PySem.W.Frag) (C f : Addr) : Prop where
  eq : PySem.W.findIn K (.ref C) "__eq__" = some (some (.ref f))
  fn : PySem.W.isFn K (.ref f) = true
  ne : PySem.W.findIn K (.ref C) "__ne__" = some (some (.builtin "object.__ne__"))
  cls : ∃ (nm q : Str) (N : Addr) (bs bm : List Value) (hdct : Bool) (sn : List Str) (sub : List Value) (ab : Bool) (col : Option Bool) (dd : Option Addr) (k0 k1 k2 k3 k5 : Option Value) (newId : String),
    K.lookup C = some (excClassObj nm q C N bs bm hdct sn sub ab col dd k0 k1 k2 k3 k5 newId) ∧ bm.contains (.type "object") = true
section
variable {X : Cx} {n : Nat} {CX : CXT} {C f : Addr} {fd : FuncData} {ps : List Str} {sp : Sp} {E : XK}
theorem tyE_looks {pins : List (Addr × Obj)} {σ : St} {H : Hp} {s : Shared} {y : V} {u : Value} (I : Inv X pins σ H s) (r : RelV y u) (h : TyE X.K C H y) : ∃ tb, PySem.W.Looks (model X.prog X.w) s.heap (typeOf u) tb ∧ PySem.W.notFirst X.K C tb = true := by
  rcases h with ⟨b, dy, gs, rfl, hb⟩ | ⟨b, ys, rfl, hb, hn⟩
  · cases r
    obtain ⟨mB, J', _⟩ := ins_get I.hok hb
    obtain ⟨od', J', _⟩ := J'.look
    exact ⟨.ref C, J'.type, by simp [PySem.W.notFirst]⟩
  · cases r
    obtain ⟨its, rv, ⟨o, ho, hc, _⟩, hz⟩ := I.tuple hb
    refine ⟨.type "tuple", ?_, hn⟩
    have q : PySem.W.Looks (model X.prog X.w) s.heap (typeOf (.ref b)) o.cls := (PySem.W.Looks.ld ho).andThen .now
    rw [hc] at q
    exact q
theorem run_own {pins : List (Addr × Obj)} {σ : St} {H : Hp} {s : Shared} {x y : V} {v u : Value} {Q : VK} {A : Around} (F : FnOk X.prog X.w X.K X.mg X.base CX n f fd ps sp) (hb : Binds X.K fd ps []) (hx : Passes CX X E) (hr : Room n A) (hfr : A.frames = X.A.frames)
    (I : Inv X pins σ H s) (rx : RelV x v) (ry : RelV y u) (h : sp [x, y] H Q E) : wpAny (model X.prog X.w) A (call (.ref f) [v, u]) (fun r s' => ∃ z H', Inv X pins σ H' s' ∧ RelV z r ∧ Q z H') X.xe s := by
  have e0 : Env0 X.prog X.w X.K X.mg X.base A X.stack s H := by
    have e := I.env0
    exact ⟨by rw [hfr]; exact e.frames, e.mod, e.bs, e.bsz, e.funs, e.frf, e.hok, e.bare⟩
  have hl := F.len _ _ _ _ h
  refine wpAny_call (codeAny_mono (F.run A X.stack s H ⟨[v, u], []⟩ [v, u] [x, y] _ E hr e0 (by
    have := hb s [v, u] I.kIn (by simpa using hl)
    simpa using this) (.cons rx (.cons ry .nil)) h) fun r s' hq => ?_)
  rcases r with e | (w | _ | _ | _)
  · exact hx pins σ H s e s' I hq
  · exact hq.elim
  · exact hq.elim
  · exact hq.elim
  · obtain ⟨z, H', I', rz, q⟩ := I.after hq
    exact ⟨z, H', I', rz, q⟩
theorem op_eqS (F : FnOk X.prog X.w X.K X.mg X.base CX n f fd ps sp) (T : EqC X.K C f) (hb : Binds X.K fd ps []) (hx : Passes CX X E) (hr : Room n X.A) : OpR X (compareOp .Eq) (rEqS X.K C sp E) := by
  intro pins s σ H x y v u Q I rx ry h
  obtain ⟨a, dx, fs, rfl, ha, ty, hs⟩ := h
  cases rx
  obtain ⟨mA, J, _⟩ := ins_get I.hok ha
  obtain ⟨od, J, _⟩ := J.look
  obtain ⟨m, hF⟩ := I.fr
  obtain ⟨tb, ht, hn⟩ := tyE_looks I ry ty
  refine PySem.W.cmp_K (op := .Eq) (tb := tb) hr.units0 hF I.ok.mod.kin J ht hn T.eq T.fn ?_
  refine wpAny_mono (run_own (x := .ref a) F hb hx hr rfl I rfl ry hs) (fun r s' ⟨z, H', I', rz, c, ez, q⟩ => ?_) fun _ _ e => e
  subst ez
  cases rz
  exact ⟨.bl c, H', I', rfl, q⟩
theorem op_neS (F : FnOk X.prog X.w X.K X.mg X.base CX n f fd ps sp) (T : EqC X.K C f) (hb : Binds X.K fd ps []) (hx : Passes CX X E) (hr : Room (n + 1) X.A) : OpR X (compareOp .NotEq) (rNeS X.K C sp E) := by
  intro pins s σ H x y v u Q I rx ry h
  obtain ⟨a, dx, fs, rfl, ha, ty, hs⟩ := h
  cases rx
  obtain ⟨mA, J, _⟩ := ins_get I.hok ha
  obtain ⟨od, J, _⟩ := J.look
  obtain ⟨tb, ht, hn⟩ := tyE_looks I ry ty
  obtain ⟨nm, q, N, bs, bm, hdct, sn, sub, ab, col, dd, k0, k1, k2, k3, k5, newId, hC, hbm⟩ := T.cls
  refine Own.cmpNe (by have := hr.units; omega) I.kIn J ht hn T.eq T.fn T.ne (I.kIn _ _ hC) hbm ?_
  refine wpAny_mono (run_own (x := .ref a) F hb hx hr.in1 rfl I rfl ry hs) (fun r s' ⟨z, H', I', rz, c, ez, q⟩ => ?_) fun _ _ e => e
  subst ez
  cases rz
  exact ⟨c, rfl, .bl (!c), H', I', rfl, q⟩
end
end L2

set_option Elab.async false
set_option linter.all false
set_option maxRecDepth 100000
set_option maxHeartbeats 4000000
namespace Own
open PySem PySem.Spec PyProof.Rows
open AutoSeq1 (wpAny_loadPart')
theorem mulOne (l : Addr) (items : Array Value) (n : Nat) (dd : Option Addr) (sl : Array (Option Value)) (u : Tok) :
    Meets (Builtin.«tuple.__mul__» ⟨[.ref l, .int 1 u], []⟩) (fun _ R s => s.heap.get? l = some { cls := .type "tuple", dict := dd, data := .seq items n, slots := sl } ∧ R (.ok (.ret (Value.ref l))) s) :=
  .of_wp fun prog w A R s h => by
    obtain ⟨hp, g, d, tk, os⟩ := s
    obtain ⟨hl, h⟩ := h
    have f1 := AutoSeq1.idx_int
    have c0 : (decide ((1 : Int) < -(2 ^ 63)) || decide ((1 : Int) ≥ 2 ^ 63)) = false := by decide
    have c1 : (items.isEmpty || (1 : Int) == 1) = true := by simp
    wp_walk using wpAny_loadPart' hl
    repeat (first
      | (refine wpAny_ite_false (decide_eq_false (by rw [c0]; exact Bool.false_ne_true)) ?_; wp_walk using wpAny_loadPart' hl)
      | (refine wpAny_ite_true (decide_eq_true c1) ?_; wp_walk using wpAny_loadPart' hl))
    exact ⟨_, rfl, h⟩
theorem mulNone (l : Addr) (items : Array Value) (n : Nat) (dd : Option Addr) (sl : Array (Option Value)) (u : Tok) (hi : items.isEmpty = false) :
    Meets (Builtin.«tuple.__mul__» ⟨[.ref l, .int 0 u], []⟩) (fun _ R s => s.heap.get? l = some { cls := .type "tuple", dict := dd, data := .seq items n, slots := sl } ∧
      R (.ok (.ret (Value.ref s.heap.objs.size))) { s with heap := s.heap.push { cls := Value.type "tuple", data := Data.seq #[] }, toks := s.toks }) :=
  .of_wp fun prog w A R s h => by
    obtain ⟨hp, g, d, tk, os⟩ := s
    obtain ⟨hl, h⟩ := h
    have f1 := AutoSeq1.idx_int
    have c0 : (decide ((0 : Int) < -(2 ^ 63)) || decide ((0 : Int) ≥ 2 ^ 63)) = false := by decide
    have c1 : (items.isEmpty || (0 : Int) == 1) = false := by rw [hi]; rfl
    have c2 : (decide ((0 : Int) ≤ 0) || items.isEmpty) = true := by simp
    wp_walk using wpAny_loadPart' hl
    repeat (first
      | (refine wpAny_ite_false (decide_eq_false (by rw [c0]; exact Bool.false_ne_true)) ?_; wp_walk using wpAny_loadPart' hl)
      | (refine wpAny_ite_false (decide_eq_false (by rw [c1]; exact Bool.false_ne_true)) ?_; wp_walk using wpAny_loadPart' hl)
      | (refine wpAny_ite_true (decide_eq_true c2) ?_; wp_walk using wpAny_loadPart' hl))
    exact ⟨_, rfl, h⟩
end Own
namespace L2
open PySem PySem.Spec PyProof.Rows
/-- t * k, k from 0 on -/
def rRepA (K : PySem.W.Frag) : R2 := fun x y H Q => ∃ (l : Addr) (k : Nat) (xs : List V), x = .ref l ∧ y = .int k ∧ SqT K H l xs ∧ xs ≠ [] ∧ k ≤ 1000 ∧ xs.length ≤ 1000 ∧ (k = 1 → Q (.ref l) H) ∧ (k ≠ 1 → ∀ p, H p = none → Q (.ref p) (upd H p (.tup (List.replicate k xs).flatten)))
section
variable {X : Cx}
theorem op_repA : OpR X (binaryOp .Mult) (rRepA X.K) := by
  intro pins s σ H x y v u Q I rx ry h
  obtain ⟨l, k, xs, rfl, rfl, hT, hne, h2, hz, q1, q⟩ := h
  by_cases hk : 2 ≤ k
  · exact op_repT pins s σ H _ _ v u Q I rx ry ⟨l, k, xs, rfl, rfl, hT, hne, by omega, by omega, hz, by simpa using q (by omega)⟩
  cases rx
  obtain ⟨t, rfl⟩ := ry
  obtain ⟨its, r, ⟨⟨cls, dd, data, sl⟩, ho, hc, n, hd⟩, hs⟩ := I.tuple hT
  simp only at hc hd
  subst hc hd
  have hi : its.toArray.isEmpty = false := by
    cases its with
    | nil => exact absurd (List.eq_nil_of_length_eq_zero r.length) hne
    | cons a b => rfl
  have go : ∀ {Q2 : Value → Shared → Prop}, wpAny (model X.prog X.w) X.A (call (.builtin "tuple.__mul__") [.ref l, .int (k : Int) t]) Q2 X.xe s → wpAny (model X.prog X.w) X.A (binaryOp .Mult (.ref l) (.int (k : Int) t)) Q2 X.xe s := fun h =>
    wpAny_binaryOp_repeat_ref (T := "tuple") (U := "int") (by decide) ⟨_, ho, rfl⟩ (fun s' => typeIs_int s' k t) noFill_tuple_mul F.fills_int_mul F.slot_int_rmul repeat_tuple F.slot_int_index.lookup
      (call_meets F.slot_int_rmul (typeIs_int s k t) F.entry_int_rmul (F.args_int_rmul_2 _ _) (int_rmul_tuple k t l its.toArray n dd sl) ⟨ho, rfl, ⟨_, ho, rfl⟩, h⟩)
  rcases (by omega : k = 1 ∨ k = 0) with e | e
  · subst e
    exact go (call_meets F.slot_tuple_mul ⟨_, ho, rfl⟩ F.entry_tuple_mul (F.args_tuple_mul_2 _ _) (Own.mulOne l its.toArray n dd sl t) ⟨ho, ⟨.ref l, H, I, rfl, q1 rfl⟩⟩)
  · subst e
    refine go (call_meets F.slot_tuple_mul ⟨_, ho, rfl⟩ F.entry_tuple_mul (F.args_tuple_mul_2 _ _) (Own.mulNone l its.toArray n dd sl t hi) ⟨ho, ?_⟩)
    refine ⟨.ref s.heap.objs.size, _, I.laid (t' := s.toks) (o := .tup (List.replicate 0 xs).flatten) (fun b ob q => Heap.get?_push_of_some _ q) (Nat.le_refl _) ?_, rfl, q (by omega) _ (I.hok.fresh (Nat.le_refl _))⟩
    exact ⟨Nat.zero_le _, [], .nil, IsTup.new _ _⟩
end
end L2

set_option Elab.async false
set_option linter.all false
set_option maxRecDepth 100000
set_option maxHeartbeats 4000000
namespace L2
open PySem PySem.Spec PyProof.Rows
theorem tup_ne_iter {h : Heap} {a i1 t : Addr} {its : Array Value} {i : Nat} (p : IsTup h a its) (q : h.IsTupleIter i1 t i) : a ≠ i1 := fun z => by
  obtain ⟨o, ho, ho2, _⟩ := q
  obtain ⟨o3, ho3, ho4, _⟩ := p
  rw [z, ho] at ho3
  rw [← Option.some.inj ho3, ho2] at ho4
  injection ho4 with ho5
  exact absurd ho5 (by decide)
theorem lst_ne_iter {h : Heap} {a i1 t : Addr} {its : Array Value} {i : Nat} (p : h.IsList a its) (q : h.IsListIter i1 t i) : a ≠ i1 := fun z => by
  obtain ⟨o, ho, ho2, _⟩ := q
  obtain ⟨o3, ho3, ho4, _⟩ := p
  rw [z, ho] at ho3
  rw [← Option.some.inj ho3, ho2] at ho4
  injection ho4 with ho5
  exact absurd ho5 (by decide)
theorem not2 {x y z : Addr} (h1 : x ≠ y) (h2 : x ≠ z) : x ∉ [y, z] := fun h => by
  rcases List.mem_cons.mp h with h | h
  · exact h1 h
  · exact h2 (List.mem_singleton.mp h)
theorem zsep (n a b : Nat) (la : a < n) (lb : b < n) : ZipSep2 (n + 4) (n + 2) (n + 3) n (n + 1) [n, a] [n + 1, b] where
  TIz := (fun h : (n + 2 : Nat) = n + 4 => by omega)
  TOz := (fun h : (n + 3 : Nat) = n + 4 => by omega)
  TITO := (fun h : (n + 2 : Nat) = n + 3 => by omega)
  TIi1 := (fun h : (n + 2 : Nat) = n => by omega)
  mem1 := List.mem_cons_self
  zf1 := not2 (fun h : (n + 4 : Nat) = n => by omega) (fun h : (n + 4 : Nat) = a => by omega)
  Tf1 := not2 (fun h : (n + 3 : Nat) = n => by omega) (fun h : (n + 3 : Nat) = a => by omega)
  TIi2 := (fun h : (n + 2 : Nat) = n + 1 => by omega)
  mem2 := List.mem_cons_self
  zf2 := not2 (fun h : (n + 4 : Nat) = n + 1 => by omega) (fun h : (n + 4 : Nat) = b => by omega)
  Tf2 := not2 (fun h : (n + 3 : Nat) = n + 1 => by omega) (fun h : (n + 3 : Nat) = b => by omega)
  sep1_2 := not2 (fun h : (n : Nat) = n + 1 => by omega) (fun h : (n : Nat) = b => by omega)
  sep2_1 := not2 (fun h : (n + 1 : Nat) = n => by omega) (fun h : (n + 1 : Nat) = a => by omega)
/-- the tuple at a and the list at b, the items in new pairs -/
def ItzM (K : PySem.W.Frag) (a b : Addr) : It :=
  ⟨fun i H => ∃ (xs ys : List V) (x y : V), SqT K H a xs ∧ SqL K H b ys ∧ xs.length = ys.length ∧ xs[i]? = some x ∧ ys[i]? = some y,
    fun i H v H' => ∃ T x y, v = .ref T ∧ H T = none ∧ H' = upd H T (.tup [x, y]) ∧ (∀ xs, SqT K H a xs → xs[i]? = some x) ∧ ∀ ys, SqL K H b ys → ys[i]? = some y,
    fun i H => ∃ xs ys : List V, SqT K H a xs ∧ SqL K H b ys ∧ xs.length = i ∧ ys.length = i⟩
theorem turn_zipM {P : Program} {w : World} {K : PySem.W.Frag} {elts : List Expr} {kk : Nat} {tpos : Pos} {a b z TI TO i1 i2 : Addr} (D : ZipSep2 z TI TO i1 i2 [i1, a] [i2, b]) :
    Turn P w K (.Tuple elts kk tpos) (ItzM K a b) [z, TI, TO, i1, i2] z (fun i h => IsZip h z TI TO .none ∧ IsTupOf2 h TI (.ref i1) (.ref i2) ∧ (∃ x y, IsTupOf2 h TO x y) ∧ h.IsTupleIter i1 a i ∧ h.IsListIter i2 b i) where
  mem := by simp
  obj := fun i h st c hc => by
    obtain ⟨hz, hTI, ⟨x, y, hTO⟩, ⟨o1, e1, _, d1⟩, ⟨o2, e2, _, d2⟩⟩ := st
    have e' : c = z ∨ c = TI ∨ c = TO ∨ c = i1 ∨ c = i2 := by simpa using hc
    rcases e' with q | q | q | q | q <;> rw [q]
    · exact ⟨_, hz, fun v q => nomatch q⟩
    · exact ⟨_, hTI, fun v q => nomatch q⟩
    · exact ⟨_, hTO, fun v q => nomatch q⟩
    · exact ⟨o1, e1, fun v q => by rw [d1] at q; cases q⟩
    · exact ⟨o2, e2, fun v q => by rw [d2] at q; cases q⟩
  keep := fun i h h' st k => ⟨k z (by simp) _ st.1, k TI (by simp) _ st.2.1, let ⟨x, y, hTO⟩ := st.2.2.1; ⟨x, y, k TO (by simp) _ hTO⟩, st.2.2.2.1.at fun o q => k i1 (by simp) o q, st.2.2.2.2.at fun o q => k i2 (by simp) o q⟩
  item := by
    intro X hP hw hK hc i pins s σ H E I hf st hg
    subst hP hw hK
    obtain ⟨hz, hTI, ⟨x0, y0, hTO⟩, h1, h2⟩ := st
    obtain ⟨xs, ys, x, y, hqx, hqy, _, hx, hy⟩ := hg
    obtain ⟨its, rv, p, _⟩ := I.tuple hqx
    obtain ⟨its2, rv2, p2, _⟩ := I.list hqy
    obtain ⟨u, hu, ru⟩ := rv.get hx
    obtain ⟨u2, hu2, ru2⟩ := rv2.get hy
    have hzl : z < s.heap.objs.size := Heap.lt_size hz
    have hh : X.A.in1.handled = none := by rw [Around.in1_handled]; exact I.ok.hd hc
    have D1 := Draws.tuple (prog := X.prog) (w := X.w) hh i1 a (tup_ne_iter p h1) its.toArray
    have D2 := Draws.list (prog := X.prog) (w := X.w) hh i2 b (lst_ne_iter p2.isList h2) its2.toArray
    have hl1 : i < its.toArray.size := by simpa using (List.getElem?_eq_some_iff.mp hu).1
    have hl2 : i < its2.toArray.size := by simpa using (List.getElem?_eq_some_iff.mp hu2).1
    refine wpAny_pyNext_zipD2_item D D1 D2 hz hTI hTO ⟨h1, p⟩ ⟨h2, p2.isList⟩ hl1 hl2 fun v1 v2 h' tk e1 e2 z' TO' s1 s2 hT hsz hk => ?_
    have q1 : v1 = u := by
      have h1 : its[i]? = some v1 := by simpa using e1
      rw [hu] at h1
      exact (Option.some.inj h1).symm
    have q2 : v2 = u2 := by
      have h1 : its2[i]? = some v2 := by simpa using e2
      rw [hu2] at h1
      exact (Option.some.inj h1).symm
    subst q1 q2
    refine ⟨_, rfl, wpAny_letOwnedTupleGo_zip (s := { s with heap := h', toks := tk }) z' fun h'' z'' sb => ?_⟩
    have hT2 : h''.get? s.heap.objs.size = some { cls := .type "tuple", data := .seq #[v1, v2] } := (sb.2 _ (Nat.ne_of_gt hzl)).trans hT
    have new : ObjOk X.prog X.w (upd H s.heap.objs.size (.tup [x, y])) h'' s.heap.objs.size (.tup [x, y]) :=
      ⟨by show 2 ≤ sizeLine; decide, [v1, v2], .cons ru (.cons ru2 .nil), ⟨_, hT2, rfl, _, rfl⟩⟩
    have I1 : Inv X pins σ (upd H s.heap.objs.size (.tup [x, y])) { s with heap := h'', toks := tk } :=
      I.turnedNew (t' := tk) (ch := [z, TI, TO, i1, i2]) (fun c o hb q => (sb.2 c (fun q' => hb (by simp [q']))).trans (hk c o (fun q' => hb (by simp [q'])) (fun q' => hb (by simp [q'])) (fun q' => hb (by simp [q'])) (fun q' => hb (by simp [q'])) q)) hf (Nat.le_refl _) new
    refine ⟨.ref s.heap.objs.size, _, I1, rfl, ⟨_, x, y, rfl, I.hok.fresh (Nat.le_refl _), rfl, fun l hl => by rw [I.tuple_inj hl hqx]; exact hx, fun l hl => by rw [I.list_inj hl hqy]; exact hy⟩, ⟨z'', ?_, ⟨v1, v2, ?_⟩, ?_, ?_⟩, fun c hcm => ?_⟩
    · exact (sb.2 _ D.TIz).trans (hk _ _ D.TIz D.TITO D.TIi1 D.TIi2 hTI)
    · exact (sb.2 _ D.TOz).trans TO'
    · exact s1.1.at fun o q => (sb.2 _ (Ne.symm D.zi1)).trans q
    · exact s2.1.at fun o q => (sb.2 _ (Ne.symm D.zi2)).trans q
    · have e' : c = z ∨ c = TI ∨ c = TO ∨ c = i1 ∨ c = i2 := by simpa using hcm
      have hlt : c < s.heap.objs.size := by
        rcases e' with q | q | q | q | q <;> rw [q]
        · exact hzl
        · exact Heap.lt_size hTI
        · exact Heap.lt_size hTO
        · obtain ⟨_, e1, _⟩ := h1; exact Heap.lt_size e1
        · obtain ⟨_, e2, _⟩ := h2; exact Heap.lt_size e2
      rw [upd_ne (Nat.ne_of_lt hlt)]
      exact (hf c hcm).1
  done := by
    intro X hP hw hK hc i pins s σ H E I hf st hg
    subst hP hw hK
    obtain ⟨hz, hTI, ⟨x0, y0, hTO⟩, h1, h2⟩ := st
    obtain ⟨xs, ys, hqx, hqy, hx, hy⟩ := hg
    obtain ⟨its, rv, p, _⟩ := I.tuple hqx
    obtain ⟨its2, rv2, p2, _⟩ := I.list hqy
    have l1 := rv.length
    have l2 := rv2.length
    have hh : X.A.in1.handled = none := by rw [Around.in1_handled]; exact I.ok.hd hc
    have D1 := Draws.tuple (prog := X.prog) (w := X.w) hh i1 a (tup_ne_iter p h1) its.toArray
    have D2 := Draws.list (prog := X.prog) (w := X.w) hh i2 b (lst_ne_iter p2.isList h2) its2.toArray
    exact wpAny_pyNext_zipD2_end D D1 D2 hz hTI hTO ⟨h1, p⟩ ⟨h2, p2.isList⟩ (by simp; omega) (by simp; omega) (.inl (by simp; omega)) fun h' tk hk => ⟨rfl, I.turnedL (t' := tk) (ch := [z, TI, TO, i1, i2]) (fun c o hb q =>
      hk c o (fun q' => hb (by simp [q'])) (fun q' => hb (by simp [q'])) (fun q' => hb (by simp [q'])) (fun q' => hb (by simp [q'])) q) hf⟩
  self := fun A i s Q E st h => wpAny_pyIter_zip st.1 h
def iZipM (K : PySem.W.Frag) (ta : TA) : TI := fun σ H R => ta σ H fun vs H1 => ∃ a b xs ys, vs = [.ref a, .ref b] ∧ SqT K H1 a xs ∧ SqL K H1 b ys ∧ R (ItzM K a b) H1
/-- zip(t, l) of a tuple and a list -/
theorem pi_zipM {X : Cx} {e e2 : Expr} {ta : TA} {p pos tpos : Pos} {elts : List Expr} {kk : Nat} (hg : Gl X "zip") (hm : X.mg "zip" = none) (ha : PA X [e, e2] ta)
    (hs : starEach [e, e2] X.env = (false, eval e X.env) :: starEach [e2] X.env := by rfl) (hpl : (backTo pos (starEach [e2] X.env)).any (·.1) = false := by rfl) :
    PI X (.Tuple elts kk tpos) (.Call (.Name "zip" p) [e, e2] [] pos) (iZipM X.K ta) := by
  refine ⟨fun pins s σ H R I h => ?_⟩
  refine Call_ (ld_blt I hg hm PyProof.Rows.boot_zip (PyProof.Rows.callWith_type1 (thn (ha.run pos pins s σ H _ I h) fun us s1 ⟨vs, H1, I1, r1, a, b, xs, ys, ex, hqx, hqy, q⟩ => ?_) hs hpl))
  subst ex
  cases r1 with
  | cons r rr =>
    cases rr with
    | cons r' rr =>
      cases rr
      cases r
      cases r'
      have fp : ∀ c, c ∈ [s1.heap.objs.size + 4, s1.heap.objs.size + 2, s1.heap.objs.size + 3, s1.heap.objs.size, s1.heap.objs.size + 1] → FpOk X pins H1 c := fun c hcm => by
        have e' : c = s1.heap.objs.size + 4 ∨ c = s1.heap.objs.size + 2 ∨ c = s1.heap.objs.size + 3 ∨ c = s1.heap.objs.size ∨ c = s1.heap.objs.size + 1 := by simpa using hcm
        have hle : s1.heap.objs.size ≤ c := by rcases e' with z | z | z | z | z <;> rw [z] <;> first | exact Nat.le_add_right _ _ | exact Nat.le_refl _
        exact I1.fpOk hle (I1.hok.fresh hle)
      obtain ⟨its, rv, p1, _⟩ := I1.tuple hqx
      obtain ⟨its2, rv2, p2, _⟩ := I1.list hqy
      have la : a < s1.heap.objs.size := by obtain ⟨o, ho, _⟩ := p1; exact Heap.lt_size ho
      have lb : b < s1.heap.objs.size := p2.lt
      refine zip_begins2 (begins_tuple a its.toArray) (begins_list b its2.toArray) p1 p2.isList fun h' hz hTI hTO h1 h2 hsz hk => wpAny_pyIter_zip hz ?_
      refine ⟨s1.heap.objs.size + 4, [s1.heap.objs.size + 4, s1.heap.objs.size + 2, s1.heap.objs.size + 3, s1.heap.objs.size, s1.heap.objs.size + 1], _, _, H1, rfl, I1.kept (t' := s1.toks) hk, turn_zipM (a := a) (b := b) (i1 := s1.heap.objs.size) (i2 := s1.heap.objs.size + 1) ?_, ⟨hz, hTI, ⟨_, _, hTO⟩, ⟨_, h1, rfl, rfl⟩, ⟨_, h2, rfl, rfl⟩⟩, fp, q⟩
      exact zsep _ _ _ la lb
end L2

set_option Elab.async false
set_option linter.all false
set_option maxRecDepth 100000
set_option maxHeartbeats 4000000
namespace L2
open PySem PySem.Spec PyProof.Rows
/-- the list at a and the tuple at b, the items in new pairs -/
def ItzN (K : PySem.W.Frag) (a b : Addr) : It :=
  ⟨fun i H => ∃ (xs ys : List V) (x y : V), SqL K H a xs ∧ SqT K H b ys ∧ xs.length = ys.length ∧ xs[i]? = some x ∧ ys[i]? = some y,
    fun i H v H' => ∃ T x y, v = .ref T ∧ H T = none ∧ H' = upd H T (.tup [x, y]) ∧ (∀ xs, SqL K H a xs → xs[i]? = some x) ∧ ∀ ys, SqT K H b ys → ys[i]? = some y,
    fun i H => ∃ xs ys : List V, SqL K H a xs ∧ SqT K H b ys ∧ xs.length = i ∧ ys.length = i⟩
theorem turn_zipN {P : Program} {w : World} {K : PySem.W.Frag} {elts : List Expr} {kk : Nat} {tpos : Pos} {a b z TI TO i1 i2 : Addr} (D : ZipSep2 z TI TO i1 i2 [i1, a] [i2, b]) :
    Turn P w K (.Tuple elts kk tpos) (ItzN K a b) [z, TI, TO, i1, i2] z (fun i h => IsZip h z TI TO .none ∧ IsTupOf2 h TI (.ref i1) (.ref i2) ∧ (∃ x y, IsTupOf2 h TO x y) ∧ h.IsListIter i1 a i ∧ h.IsTupleIter i2 b i) where
  mem := by simp
  obj := fun i h st c hc => by
    obtain ⟨hz, hTI, ⟨x, y, hTO⟩, ⟨o1, e1, _, d1⟩, ⟨o2, e2, _, d2⟩⟩ := st
    have e' : c = z ∨ c = TI ∨ c = TO ∨ c = i1 ∨ c = i2 := by simpa using hc
    rcases e' with q | q | q | q | q <;> rw [q]
    · exact ⟨_, hz, fun v q => nomatch q⟩
    · exact ⟨_, hTI, fun v q => nomatch q⟩
    · exact ⟨_, hTO, fun v q => nomatch q⟩
    · exact ⟨o1, e1, fun v q => by rw [d1] at q; cases q⟩
    · exact ⟨o2, e2, fun v q => by rw [d2] at q; cases q⟩
  keep := fun i h h' st k => ⟨k z (by simp) _ st.1, k TI (by simp) _ st.2.1, let ⟨x, y, hTO⟩ := st.2.2.1; ⟨x, y, k TO (by simp) _ hTO⟩, st.2.2.2.1.at fun o q => k i1 (by simp) o q, st.2.2.2.2.at fun o q => k i2 (by simp) o q⟩
  item := by
    intro X hP hw hK hc i pins s σ H E I hf st hg
    subst hP hw hK
    obtain ⟨hz, hTI, ⟨x0, y0, hTO⟩, h1, h2⟩ := st
    obtain ⟨xs, ys, x, y, hqx, hqy, _, hx, hy⟩ := hg
    obtain ⟨its, rv, p, _⟩ := I.list hqx
    obtain ⟨its2, rv2, p2, _⟩ := I.tuple hqy
    obtain ⟨u, hu, ru⟩ := rv.get hx
    obtain ⟨u2, hu2, ru2⟩ := rv2.get hy
    have hzl : z < s.heap.objs.size := Heap.lt_size hz
    have hh : X.A.in1.handled = none := by rw [Around.in1_handled]; exact I.ok.hd hc
    have D1 := Draws.list (prog := X.prog) (w := X.w) hh i1 a (lst_ne_iter p.isList h1) its.toArray
    have D2 := Draws.tuple (prog := X.prog) (w := X.w) hh i2 b (tup_ne_iter p2 h2) its2.toArray
    have hl1 : i < its.toArray.size := by simpa using (List.getElem?_eq_some_iff.mp hu).1
    have hl2 : i < its2.toArray.size := by simpa using (List.getElem?_eq_some_iff.mp hu2).1
    refine wpAny_pyNext_zipD2_item D D1 D2 hz hTI hTO ⟨h1, p.isList⟩ ⟨h2, p2⟩ hl1 hl2 fun v1 v2 h' tk e1 e2 z' TO' s1 s2 hT hsz hk => ?_
    have q1 : v1 = u := by
      have h1 : its[i]? = some v1 := by simpa using e1
      rw [hu] at h1
      exact (Option.some.inj h1).symm
    have q2 : v2 = u2 := by
      have h1 : its2[i]? = some v2 := by simpa using e2
      rw [hu2] at h1
      exact (Option.some.inj h1).symm
    subst q1 q2
    refine ⟨_, rfl, wpAny_letOwnedTupleGo_zip (s := { s with heap := h', toks := tk }) z' fun h'' z'' sb => ?_⟩
    have hT2 : h''.get? s.heap.objs.size = some { cls := .type "tuple", data := .seq #[v1, v2] } := (sb.2 _ (Nat.ne_of_gt hzl)).trans hT
    have new : ObjOk X.prog X.w (upd H s.heap.objs.size (.tup [x, y])) h'' s.heap.objs.size (.tup [x, y]) :=
      ⟨by show 2 ≤ sizeLine; decide, [v1, v2], .cons ru (.cons ru2 .nil), ⟨_, hT2, rfl, _, rfl⟩⟩
    have I1 : Inv X pins σ (upd H s.heap.objs.size (.tup [x, y])) { s with heap := h'', toks := tk } :=
      I.turnedNew (t' := tk) (ch := [z, TI, TO, i1, i2]) (fun c o hb q => (sb.2 c (fun q' => hb (by simp [q']))).trans (hk c o (fun q' => hb (by simp [q'])) (fun q' => hb (by simp [q'])) (fun q' => hb (by simp [q'])) (fun q' => hb (by simp [q'])) q)) hf (Nat.le_refl _) new
    refine ⟨.ref s.heap.objs.size, _, I1, rfl, ⟨_, x, y, rfl, I.hok.fresh (Nat.le_refl _), rfl, fun l hl => by rw [I.list_inj hl hqx]; exact hx, fun l hl => by rw [I.tuple_inj hl hqy]; exact hy⟩, ⟨z'', ?_, ⟨v1, v2, ?_⟩, ?_, ?_⟩, fun c hcm => ?_⟩
    · exact (sb.2 _ D.TIz).trans (hk _ _ D.TIz D.TITO D.TIi1 D.TIi2 hTI)
    · exact (sb.2 _ D.TOz).trans TO'
    · exact s1.1.at fun o q => (sb.2 _ (Ne.symm D.zi1)).trans q
    · exact s2.1.at fun o q => (sb.2 _ (Ne.symm D.zi2)).trans q
    · have e' : c = z ∨ c = TI ∨ c = TO ∨ c = i1 ∨ c = i2 := by simpa using hcm
      have hlt : c < s.heap.objs.size := by
        rcases e' with q | q | q | q | q <;> rw [q]
        · exact hzl
        · exact Heap.lt_size hTI
        · exact Heap.lt_size hTO
        · obtain ⟨_, e1, _⟩ := h1; exact Heap.lt_size e1
        · obtain ⟨_, e2, _⟩ := h2; exact Heap.lt_size e2
      rw [upd_ne (Nat.ne_of_lt hlt)]
      exact (hf c hcm).1
  done := by
    intro X hP hw hK hc i pins s σ H E I hf st hg
    subst hP hw hK
    obtain ⟨hz, hTI, ⟨x0, y0, hTO⟩, h1, h2⟩ := st
    obtain ⟨xs, ys, hqx, hqy, hx, hy⟩ := hg
    obtain ⟨its, rv, p, _⟩ := I.list hqx
    obtain ⟨its2, rv2, p2, _⟩ := I.tuple hqy
    have l1 := rv.length
    have l2 := rv2.length
    have hh : X.A.in1.handled = none := by rw [Around.in1_handled]; exact I.ok.hd hc
    have D1 := Draws.list (prog := X.prog) (w := X.w) hh i1 a (lst_ne_iter p.isList h1) its.toArray
    have D2 := Draws.tuple (prog := X.prog) (w := X.w) hh i2 b (tup_ne_iter p2 h2) its2.toArray
    exact wpAny_pyNext_zipD2_end D D1 D2 hz hTI hTO ⟨h1, p.isList⟩ ⟨h2, p2⟩ (by simp; omega) (by simp; omega) (.inl (by simp; omega)) fun h' tk hk => ⟨rfl, I.turnedL (t' := tk) (ch := [z, TI, TO, i1, i2]) (fun c o hb q =>
      hk c o (fun q' => hb (by simp [q'])) (fun q' => hb (by simp [q'])) (fun q' => hb (by simp [q'])) (fun q' => hb (by simp [q'])) q) hf⟩
  self := fun A i s Q E st h => wpAny_pyIter_zip st.1 h
def iZipN (K : PySem.W.Frag) (ta : TA) : TI := fun σ H R => ta σ H fun vs H1 => ∃ a b xs ys, vs = [.ref a, .ref b] ∧ SqL K H1 a xs ∧ SqT K H1 b ys ∧ R (ItzN K a b) H1
/-- zip(l, t) of a list and a tuple -/
theorem pi_zipN {X : Cx} {e e2 : Expr} {ta : TA} {p pos tpos : Pos} {elts : List Expr} {kk : Nat} (hg : Gl X "zip") (hm : X.mg "zip" = none) (ha : PA X [e, e2] ta)
    (hs : starEach [e, e2] X.env = (false, eval e X.env) :: starEach [e2] X.env := by rfl) (hpl : (backTo pos (starEach [e2] X.env)).any (·.1) = false := by rfl) :
    PI X (.Tuple elts kk tpos) (.Call (.Name "zip" p) [e, e2] [] pos) (iZipN X.K ta) := by
  refine ⟨fun pins s σ H R I h => ?_⟩
  refine Call_ (ld_blt I hg hm PyProof.Rows.boot_zip (PyProof.Rows.callWith_type1 (thn (ha.run pos pins s σ H _ I h) fun us s1 ⟨vs, H1, I1, r1, a, b, xs, ys, ex, hqx, hqy, q⟩ => ?_) hs hpl))
  subst ex
  cases r1 with
  | cons r rr =>
    cases rr with
    | cons r' rr =>
      cases rr
      cases r
      cases r'
      have fp : ∀ c, c ∈ [s1.heap.objs.size + 4, s1.heap.objs.size + 2, s1.heap.objs.size + 3, s1.heap.objs.size, s1.heap.objs.size + 1] → FpOk X pins H1 c := fun c hcm => by
        have e' : c = s1.heap.objs.size + 4 ∨ c = s1.heap.objs.size + 2 ∨ c = s1.heap.objs.size + 3 ∨ c = s1.heap.objs.size ∨ c = s1.heap.objs.size + 1 := by simpa using hcm
        have hle : s1.heap.objs.size ≤ c := by rcases e' with z | z | z | z | z <;> rw [z] <;> first | exact Nat.le_add_right _ _ | exact Nat.le_refl _
        exact I1.fpOk hle (I1.hok.fresh hle)
      obtain ⟨its, rv, p1, _⟩ := I1.list hqx
      obtain ⟨its2, rv2, p2, _⟩ := I1.tuple hqy
      have la : a < s1.heap.objs.size := p1.lt
      have lb : b < s1.heap.objs.size := by obtain ⟨o, ho, _⟩ := p2; exact Heap.lt_size ho
      refine zip_begins2 (begins_list a its.toArray) (begins_tuple b its2.toArray) p1.isList p2 fun h' hz hTI hTO h1 h2 hsz hk => wpAny_pyIter_zip hz ?_
      refine ⟨s1.heap.objs.size + 4, [s1.heap.objs.size + 4, s1.heap.objs.size + 2, s1.heap.objs.size + 3, s1.heap.objs.size, s1.heap.objs.size + 1], _, _, H1, rfl, I1.kept (t' := s1.toks) hk, turn_zipN (a := a) (b := b) (i1 := s1.heap.objs.size) (i2 := s1.heap.objs.size + 1) ?_, ⟨hz, hTI, ⟨_, _, hTO⟩, ⟨_, h1, rfl, rfl⟩, ⟨_, h2, rfl, rfl⟩⟩, fp, q⟩
      exact zsep _ _ _ la lb
end L2

set_option Elab.async false
set_option linter.all false
set_option maxRecDepth 100000
set_option maxHeartbeats 4000000
/-! An item of a list, for a place that is raised: found[i] += .. -/
namespace L2
open PySem PySem.Spec PySem.W PyProof.Rows
theorem get_list {X : Cx} : PGet X (rIxL X.K) := by
  intro pins s σ H x y v u Q I rx ry h
  obtain ⟨p, xs, i, z, rfl, rfl, hq, he, q⟩ := h
  cases rx
  obtain ⟨t, rfl⟩ := ry
  obtain ⟨its, r, pl, hz⟩ := I.list hq
  obtain ⟨j, h1, h2, h3, h4, h5⟩ := atI_get he
  obtain ⟨w, ew, rw'⟩ := r.get h2
  have hl := r.length
  have hn := line63
  have fin : EP X pins σ Q w s := ⟨z, H, I, rw', q⟩
  by_cases h0 : 0 ≤ i
  · have hj : i.toNat = j := by
      rw [seqIndex_of h0 h5] at h1
      exact Option.some.inj h1
    exact wpAny_getItem_list (x := w) pl.isList h0 (by omega) (by rw [hj]; simpa using ew) fin
  · have hj : (i + (its.toArray.size : Int)).toNat = j := by
      rw [seqIndex_neg (by omega) h4] at h1
      rw [List.size_toArray, ← hl]
      exact Option.some.inj h1
    exact wpAny_getItem_list_neg (x := w) pl.isList (by omega) (by rw [List.size_toArray] <;> omega) (by omega) (by rw [hj]; simpa using ew) fin
end L2

set_option Elab.async false
set_option linter.all false
set_option maxRecDepth 100000
set_option maxHeartbeats 4000000
/-! A tuple that is known to have no dict of its own (made by tuple(list)), and dict(..) of such a tuple of pairs. -/
namespace L2
open PySem PySem.Spec PySem.W PyProof.Rows
section
variable {X : Cx} {a : Expr} {ta : TE}
/-- tuple(x) of a list: a new tuple, plain -/
def kTupF (K : PySem.W.Frag) (x : V) (H : Hp) (Q : VK) : Prop := ∃ p xs, x = .ref p ∧ SqL K H p xs ∧ ∀ q o, H q = none → o.dict = none → Q (.ref q) (upd H q (.frz o (.tup xs)))
theorem rl_tupleF (pins : List (Addr × Obj)) (s : Shared) (σ : St) (H : Hp) (x : V) (v : Value) (Q : VK) (I : Inv X pins σ H s) (r : RelV x v) (h : kTupF X.K x H Q) :
    wpAny (model X.prog X.w) X.A (call (.type "tuple") [v]) (EP X pins σ Q) X.xe s := by
  obtain ⟨p, xs, rfl, hs, q⟩ := h
  obtain rfl : v = .ref p := r
  obtain ⟨its, rv, pl, hz⟩ := I.list hs
  refine call_tuple_list pl.isList (fun h' hk => ?_) (by rw [List.size_toArray, ← rv.length]; exact hz)
  have I1 : Inv X pins σ H { s with heap := h' } := I.kept (t' := s.toks) hk
  have I2 : Inv X pins σ (upd H h'.objs.size (.frz { cls := .type "tuple", data := .seq its.toArray } (.tup xs))) { s with heap := h'.push { cls := .type "tuple", data := .seq its.toArray } } :=
    I1.laid (t' := s.toks) (fun b o e => Heap.get?_push_of_some _ e) (Nat.le_refl _) (show ObjOk X.prog X.w _ _ _ (.frz _ (.tup xs)) from ⟨Heap.get?_push_size _ rfl, hz, its, rv, IsTup.new _ _⟩)
  exact ⟨.ref h'.objs.size, upd H h'.objs.size (.frz { cls := .type "tuple", data := .seq its.toArray } (.tup xs)), I2, rfl, q _ _ (I1.hok.fresh (Nat.le_refl _)) rfl⟩
theorem pe_tupleF {p pos : Pos} (hg : Gl X "tuple") (hm : X.mg "tuple" = none) (ha : PE X a ta) (na : starEach [a] X.env = (false, eval a X.env) :: starEach [] X.env := by rfl) :
    PE X (.Call (.Name "tuple" p) [a] [] pos) (tThen ta (kTupF X.K)) := by
  refine ⟨fun pins s σ H Q I h => ?_⟩
  exact Call_ (ld_blt I hg hm boot_tuple (PyProof.Rows.callWith_type1 (one_arg ha I h (fun v s2 x H2 I2 r q => rl_tupleF pins s2 σ H2 x v Q I2 r q) na) na))
end
section
variable {X : Cx}
/-- dict(xs) of a plain tuple of pairs -/
def rDictT (K : PySem.W.Frag) (xs : List V) (H : Hp) (Q : VK) : Prop := ∃ (a : Addr) (o : Obj) (ps : List Addr) (kvs : List (Key × V)), xs = [.ref a] ∧ H a = some (.frz o (.tup (ps.map V.ref))) ∧ o.dict = none ∧ Paired (fun p kv => SqT K H p [kV kv.1, kv.2]) ps kvs ∧
    ∀ p, H p = none → Q (.ref p) (upd H p (.dK (mergeK [] kvs)))
theorem pairs_of2 {pins : List (Addr × Obj)} {σ : St} {H : Hp} {s : Shared} (I : Inv X pins σ H s) : ∀ {ps : List Addr} {kvs : List (Key × V)}, Paired (fun p kv => SqT X.K H p [kV kv.1, kv.2]) ps kvs →
    ∃ (prs : List (Key × Value)) (qs : List (Value × Value)), KV kvs prs ∧ prs.length = ps.length ∧ qs.length = ps.length ∧ ∀ (j : Nat) (k v : Value), qs[j]? = some (k, v) → ∃ (b : Addr) (y : Key), ps[j]? = some b ∧ prs[j]? = some (y, v) ∧ IsTup s.heap b #[k, v] ∧ keyIs y k = true
  | _, _, .nil => ⟨[], [], .nil, rfl, rfl, fun j k v e => by simp at e⟩
  | _, _, .cons (a := p) (b := kv) h t => by
    obtain ⟨prs, qs, r, hl, hl2, hp⟩ := pairs_of2 I t
    obtain ⟨its, rv, ht, _⟩ := I.tuple h
    obtain ⟨u, y, ei, ru, ry⟩ := vals2 rv
    subst ei
    refine ⟨(kv.1, y) :: prs, (u, y) :: qs, .cons ⟨rfl, ry⟩ r, by rw [List.length_cons, List.length_cons, hl], by rw [List.length_cons, List.length_cons, hl2], fun j k v e => ?_⟩
    cases j with
    | zero =>
      have e' : (u, y) = (k, v) := Option.some.inj e
      cases e'
      exact ⟨p, kv.1, rfl, rfl, ht, kV_is (P := X.prog) (w := X.w) ru⟩
    | succ j =>
      obtain ⟨b, y', e1, e2, e3⟩ := hp j k v (by simpa using e)
      exact ⟨b, y', by simpa using e1, by simpa using e2, e3⟩
theorem call_dictT (hcalm : X.calm = true) : CallR X (.type "dict") (rDictT X.K) := by
  intro pins s σ H xs us Q I r q
  obtain ⟨a, o, ps, kvs, ex, hq, hd, hp, q⟩ := q
  subst ex
  obtain ⟨u, eu, rx⟩ := vals1 r
  subst eu
  cases rx
  obtain ⟨ho, hz, its, rv, o2, ho2, hc, n, hdat⟩ := (show ObjOk X.prog X.w H s.heap a (.frz o (.tup (ps.map V.ref))) from I.hok a _ hq)
  have eo : o2 = o := Option.some.inj (ho2.symm.trans ho)
  subst eo
  have ei := refs_at rv
  subst ei
  rw [List.length_map] at hz
  obtain ⟨prs, qs, rel, hl, hl2, hpr⟩ := pairs_of2 I hp
  refine PySem.call_dict_pairs (knd := mixKind X.prog X.w) (kvs := prs) (PairArg.tuple a (ps.map Value.ref).toArray (fun j => ps[j]?.getD 0) qs) (I.ok.hd hcalm) ⟨⟨o2, n, ho, hc, hd, hdat⟩, by rw [List.size_toArray, List.length_map, hl2], fun j k v e => ?_⟩ ⟨hl.trans hl2.symm, fun j k v e => ?_⟩ (by rw [hl2]; exact hz) fun h' tk hd' k => ?_
  · obtain ⟨b, y, e1, e2, e3, e4⟩ := hpr j k v e
    refine ⟨by simp [e1], .inl ?_⟩
    show Heap.IsTuple _ (ps[j]?.getD 0) _
    rw [e1]
    exact e3
  · obtain ⟨b, y, e1, e2, e3, e4⟩ := hpr j k v e
    exact ⟨y, e2, e4⟩
  · have hm : (s.heap.objs.size == sysModules) = false := beq_eq_false_iff_ne.mpr (Nat.ne_of_gt I.big)
    have hlen : (mergeK [] kvs).length ≤ sizeLine := by
      refine Nat.le_trans (length_mergeK kvs []) ?_
      rw [List.length_nil, Nat.zero_add, rel.length, hl]
      exact hz
    exact ⟨.ref s.heap.objs.size, upd H s.heap.objs.size (.dK (mergeK [] kvs)), I.laid (t' := tk) (fun b o e => k b o (fun z => nomatch z) e) (Nat.le_refl _) (show ObjOk X.prog X.w _ _ _ (.dK (mergeK [] kvs)) from ⟨hlen, hm, merged [] prs, KV.merge rel .nil, hd'⟩), rfl, q _ (I.hok.fresh (Nat.le_refl _))⟩
end
end L2

set_option Elab.async false
set_option linter.all false
set_option maxRecDepth 100000
set_option maxHeartbeats 4000000
/-! Data at any depth behind a frame: what an expression answers, told by data. -/
namespace L2
open PySem PySem.Spec PyProof.Rows
def kD : Key → PyData
  | .inl i => .int i
  | .inr s => .str s
mutual
inductive Dq (K : PySem.W.Frag) (H : Hp) : V → PyData → Prop
  | non : Dq K H .non .none
  | bl (b : Bool) : Dq K H (.bl b) (.bool b)
  | int (i : Int) : Dq K H (.int i) (.int i)
  | str (x : Str) : Dq K H (.str x) (.str x)
  | lst {a : Addr} {xs : List V} {ds : List PyData} : SqL K H a xs → DqAll K H xs ds → Dq K H (.ref a) (.list ds)
  | tup {a : Addr} {xs : List V} {ds : List PyData} : SqT K H a xs → DqAll K H xs ds → Dq K H (.ref a) (.tuple ds)
  | dic {a : Addr} {kvs : List (Key × V)} {ks : List (PyData × PyData)} : H a = some (.dK kvs) → DqKv K H kvs ks → Dq K H (.ref a) (.dict ks)
inductive DqAll (K : PySem.W.Frag) (H : Hp) : List V → List PyData → Prop
  | nil : DqAll K H [] []
  | cons {v : V} {d : PyData} {vs : List V} {ds : List PyData} : Dq K H v d → DqAll K H vs ds → DqAll K H (v :: vs) (d :: ds)
inductive DqKv (K : PySem.W.Frag) (H : Hp) : List (Key × V) → List (PyData × PyData) → Prop
  | nil : DqKv K H [] []
  | cons {k : Key} {v : V} {d : PyData} {vs : List (Key × V)} {ds : List (PyData × PyData)} : Dq K H v d → DqKv K H vs ds → DqKv K H ((k, v) :: vs) ((kD k, d) :: ds)
end
open Evl (Ex)
section
variable {K : PySem.W.Frag} {H H' : Hp}
theorem exL {a : Addr} {xs : List V} (e : Ex H H') (h : SqL K H a xs) : SqL K H' a xs := SqL.ext h e
theorem exT {a : Addr} {xs : List V} (e : Ex H H') (h : SqT K H a xs) : SqT K H' a xs := SqT.ext h e
mutual
theorem Dq.ex (e : Ex H H') : ∀ {v : V} {d : PyData}, Dq K H v d → Dq K H' v d
  | _, _, .non => .non
  | _, _, .bl b => .bl b
  | _, _, .int i => .int i
  | _, _, .str x => .str x
  | _, _, .lst h t => .lst (exL e h) (DqAll.ex e t)
  | _, _, .tup h t => .tup (exT e h) (DqAll.ex e t)
  | _, _, .dic h t => .dic (e _ _ h) (DqKv.ex e t)
theorem DqAll.ex (e : Ex H H') : ∀ {vs : List V} {ds : List PyData}, DqAll K H vs ds → DqAll K H' vs ds
  | _, _, .nil => .nil
  | _, _, .cons h t => .cons (Dq.ex e h) (DqAll.ex e t)
theorem DqKv.ex (e : Ex H H') : ∀ {vs : List (Key × V)} {ds : List (PyData × PyData)}, DqKv K H vs ds → DqKv K H' vs ds
  | _, _, .nil => .nil
  | _, _, .cons h t => .cons (Dq.ex e h) (DqKv.ex e t)
end
theorem DqAll.length : ∀ {vs : List V} {ds : List PyData}, DqAll K H vs ds → vs.length = ds.length
  | _, _, .nil => rfl
  | _, _, .cons _ t => congrArg (· + 1) t.length
theorem DqAll.get : ∀ {vs : List V} {ds : List PyData}, DqAll K H vs ds → ∀ {i : Nat} {v : V}, vs[i]? = some v → ∃ d, ds[i]? = some d ∧ Dq K H v d
  | _, _, .nil, i, v, h => by simp at h
  | _, _, .cons h t, 0, v, e => by simp at e; subst e; exact ⟨_, rfl, h⟩
  | _, _, .cons h t, i + 1, v, e => t.get (by simpa using e)
theorem DqAll.get' : ∀ {vs : List V} {ds : List PyData}, DqAll K H vs ds → ∀ {i : Nat} {d : PyData}, ds[i]? = some d → ∃ v, vs[i]? = some v ∧ Dq K H v d
  | _, _, .nil, i, v, h => by simp at h
  | _, _, .cons h t, 0, v, e => by simp at e; subst e; exact ⟨_, rfl, h⟩
  | _, _, .cons h t, i + 1, v, e => t.get' (by simpa using e)
theorem DqAll.append : ∀ {vs ws : List V} {ds es : List PyData}, DqAll K H vs ds → DqAll K H ws es → DqAll K H (vs ++ ws) (ds ++ es)
  | _, _, _, _, .nil, h => h
  | _, _, _, _, .cons h t, u => .cons h (t.append u)
theorem DqAll.take : ∀ {vs : List V} {ds : List PyData} (n : Nat), DqAll K H vs ds → DqAll K H (vs.take n) (ds.take n)
  | _, _, _, .nil => by simpa using DqAll.nil
  | _, _, 0, .cons _ _ => .nil
  | _, _, n + 1, .cons h t => .cons h (t.take n)
theorem DqAll.drop : ∀ {vs : List V} {ds : List PyData} (n : Nat), DqAll K H vs ds → DqAll K H (vs.drop n) (ds.drop n)
  | _, _, _, .nil => by simpa using DqAll.nil
  | _, _, 0, .cons h t => .cons h t
  | _, _, n + 1, .cons _ t => t.drop n
end
/-- what is kept aside, and what is seen -/
structure Fr where
  view : Hp → Hp
  inv : Hp → Prop
  sub : ∀ {H : Hp} {b : Addr} {o : HO}, view H b = some o → H b = some o
  put : ∀ {H : Hp} {p : Addr} {o : HO}, inv H → (H p = none ∨ ∃ u, view H p = some u) → inv (upd H p o) ∧ view (upd H p o) = upd (view H) p o
def Fr.le (G : Fr) (H H' : Hp) : Prop := Ex (G.view H) (G.view H')
theorem Fr.le.refl {G : Fr} {H : Hp} : G.le H H := fun _ _ h => h
theorem Fr.le.trans {G : Fr} {H H1 H2 : Hp} (a : G.le H H1) (b : G.le H1 H2) : G.le H H2 := fun c o h => b c o (a c o h)
theorem Fr.blank {G : Fr} {H : Hp} {p : Addr} (h : H p = none) : G.view H p = none := by
  cases e : G.view H p with
  | none => rfl
  | some o => rw [G.sub e] at h; cases h
theorem Fr.new {G : Fr} {H : Hp} {p : Addr} {o : HO} (i : G.inv H) (h : H p = none) : G.inv (upd H p o) ∧ G.le H (upd H p o) ∧ G.view (upd H p o) p = some o := by
  obtain ⟨a, b⟩ := G.put (o := o) i (.inl h)
  refine ⟨a, fun c u e => ?_, by rw [b]; exact upd_same⟩
  rw [b, upd_ne (ne_of_none e (Fr.blank h))]
  exact e
theorem Fr.up {G : Fr} {K : PySem.W.Frag} {H : Hp} {v : V} {d : PyData} (h : Dq K (G.view H) v d) : Dq K H v d := h.ex fun _ _ => G.sub
theorem Fr.upL {G : Fr} {K : PySem.W.Frag} {H : Hp} {a : Addr} {xs : List V} (h : SqL K (G.view H) a xs) : SqL K H a xs := exL (fun _ _ => G.sub) h
theorem Fr.upT {G : Fr} {K : PySem.W.Frag} {H : Hp} {a : Addr} {xs : List V} (h : SqT K (G.view H) a xs) : SqT K H a xs := exT (fun _ _ => G.sub) h
def Fr.all : Fr := ⟨fun H => H, fun _ => True, fun h => h, fun _ _ => ⟨trivial, rfl⟩⟩
def hide (H : Hp) (l : Addr) : Hp := fun b => if b = l then none else H b
theorem hide_ne {H : Hp} {l b : Addr} (h : b ≠ l) : hide H l b = H b := if_neg h
theorem hide_same {H : Hp} {l : Addr} : hide H l l = none := if_pos rfl
theorem hide_some {H : Hp} {l b : Addr} {o : HO} (h : hide H l b = some o) : b ≠ l ∧ H b = some o := by
  by_cases e : b = l
  · subst e; rw [hide_same] at h; cases h
  · rw [hide_ne e] at h; exact ⟨e, h⟩
theorem hide_upd {H : Hp} {l p : Addr} {o : HO} (h : p ≠ l) : hide (upd H p o) l = upd (hide H l) p o := by
  funext b
  by_cases e : b = l
  · subst e; rw [hide_same, upd_ne (Ne.symm h), hide_same]
  · rw [hide_ne e]
    by_cases e2 : b = p
    · subst e2; rw [upd_same, upd_same]
    · rw [upd_ne e2, upd_ne e2, hide_ne e]
theorem hide_upd_same {H : Hp} {l : Addr} {o : HO} : hide (upd H l o) l = hide H l := by
  funext b
  by_cases e : b = l
  · subst e; rw [hide_same, hide_same]
  · rw [hide_ne e, hide_ne e, upd_ne e]
/-- the object o at l is kept aside, too -/
def Fr.own (G : Fr) (l : Addr) (o : HO) : Fr :=
  ⟨fun H => hide (G.view H) l, fun H => G.inv H ∧ G.view H l = some o, fun h => G.sub (hide_some h).2, fun {H p u} i h => by
    have hp : p ≠ l := by
      rcases h with h | ⟨x, h⟩
      · intro e
        rw [e] at h
        have := G.sub i.2
        rw [h] at this
        cases this
      · exact (hide_some h).1
    obtain ⟨a, b⟩ := G.put (o := u) i.1 (h.imp id fun ⟨x, e⟩ => ⟨x, (hide_some e).2⟩)
    refine ⟨⟨a, by rw [b, upd_ne (Ne.symm hp)]; exact i.2⟩, ?_⟩
    show hide (G.view _) l = _
    rw [b, hide_upd hp]⟩
theorem Fr.own_new {G : Fr} {H : Hp} {l : Addr} {o : HO} (i : G.inv H) (h : H l = none) : (G.own l o).inv (upd H l o) ∧ (G.own l o).view (upd H l o) = G.view H := by
  obtain ⟨a, b⟩ := G.put (o := o) i (.inl h)
  refine ⟨⟨a, by rw [b]; exact upd_same⟩, ?_⟩
  show hide (G.view _) l = _
  rw [b, hide_upd_same]
  funext c
  by_cases e : c = l
  · subst e; rw [hide_same, Fr.blank h]
  · exact hide_ne e
theorem Fr.own_set {G : Fr} {H : Hp} {l : Addr} {o o' : HO} (i : (G.own l o).inv H) : (G.own l o').inv (upd H l o') ∧ (G.own l o').view (upd H l o') = (G.own l o).view H := by
  obtain ⟨a, b⟩ := G.put (o := o') i.1 (.inr ⟨_, i.2⟩)
  refine ⟨⟨a, by rw [b]; exact upd_same⟩, ?_⟩
  show hide (G.view _) l = hide (G.view H) l
  rw [b, hide_upd_same]
theorem Fr.own_at {G : Fr} {H : Hp} {l : Addr} {o : HO} (i : (G.own l o).inv H) : H l = some o := G.sub i.2
/-- what was seen ahead of l is seen when l is seen again -/
theorem Fr.own_le {G : Fr} {H H' : Hp} {l : Addr} {o : HO} (hn : G.view H l = none) (h : Ex (G.view H) ((G.own l o).view H')) : G.le H H' := fun c u e => (hide_some (h c u e)).2
theorem Fr.own_sub {G : Fr} {H : Hp} {l : Addr} {o : HO} : Ex ((G.own l o).view H) (G.view H) := fun c u e => (hide_some e).2
/-- the well at a, of the middle number q -/
structure IsW (G : Fr) (a : Addr) (q : Int) : Prop where
  at_ : ∀ {H : Hp}, G.inv H → ∃ p r : Int, H a = some (.lst [.int p, .int q, .int r])
  hid : ∀ H, G.view H a = none
  put : ∀ {H : Hp} {p r : Int}, G.inv H → G.inv (upd H a (.lst [.int p, .int q, .int r])) ∧ G.view (upd H a (.lst [.int p, .int q, .int r])) = G.view H
theorem IsW.own {G : Fr} {a l : Addr} {q : Int} {o : HO} (w : IsW G a q) : IsW (G.own l o) a q where
  at_ := fun i => w.at_ i.1
  hid := fun H => by
    show hide (G.view H) l a = none
    by_cases e : a = l
    · subst e; exact hide_same
    · rw [hide_ne e]; exact w.hid H
  put := fun {H p r} i => by
    obtain ⟨a1, b1⟩ := w.put (p := p) (r := r) i.1
    refine ⟨⟨a1, by rw [b1]; exact i.2⟩, ?_⟩
    show hide (G.view _) l = hide (G.view _) l
    rw [b1]
def Fr.well (a : Addr) (q : Int) : Fr :=
  ⟨fun H => hide H a, fun H => ∃ p r : Int, H a = some (.lst [.int p, .int q, .int r]), fun h => (hide_some h).2, fun {H p o} i h => by
    have hp : p ≠ a := by
      rcases h with h | ⟨x, h⟩
      · intro e
        obtain ⟨_, _, i⟩ := i
        rw [← e, h] at i
        cases i
      · exact (hide_some h).1
    exact ⟨i.imp fun _ i => i.imp fun _ i => by rw [upd_ne (Ne.symm hp)]; exact i, hide_upd hp⟩⟩
theorem Fr.isWell {a : Addr} {q : Int} : IsW (Fr.well a q) a q where
  at_ := fun i => i
  hid := fun _ => hide_same
  put := fun _ => ⟨⟨_, _, upd_same⟩, hide_upd_same⟩

abbrev OS := Addr → Option HO
def hideS (H : Hp) (S : OS) : Hp := fun b => if (S b).isSome then none else H b
theorem hideS_none {H : Hp} {S : OS} {b : Addr} (h : S b = none) : hideS H S b = H b := by unfold hideS; rw [h]; rfl
theorem hideS_some {H : Hp} {S : OS} {b : Addr} {o : HO} (h : hideS H S b = some o) : S b = none ∧ H b = some o := by
  cases e : S b with
  | none => rw [hideS_none e] at h; exact ⟨rfl, h⟩
  | some u => unfold hideS at h; rw [e] at h; cases h
theorem hideS_upd {H : Hp} {S : OS} {p : Addr} {o : HO} (h : S p = none) : hideS (upd H p o) S = upd (hideS H S) p o := by
  funext b
  by_cases e : b = p
  · subst e; rw [upd_same, hideS_none h, upd_same]
  · rw [upd_ne e]
    unfold hideS
    rw [upd_ne e]
def Fr.owns (G : Fr) (S : OS) : Fr :=
  ⟨fun H => hideS (G.view H) S, fun H => G.inv H ∧ ∀ b o, S b = some o → G.view H b = some o, fun h => G.sub (hideS_some h).2, fun {H p u} i h => by
    have hp : S p = none := by
      cases e : S p with
      | none => rfl
      | some o =>
        have g := i.2 p o e
        rcases h with h | ⟨x, h⟩
        · rw [G.sub g] at h; cases h
        · have := (hideS_some h).1
          rw [e] at this; cases this
    obtain ⟨a, b⟩ := G.put (o := u) i.1 (h.imp id fun ⟨x, e⟩ => ⟨x, (hideS_some e).2⟩)
    refine ⟨⟨a, fun c o hc => ?_⟩, ?_⟩
    · rw [b, upd_ne (fun e => by rw [e, hp] at hc; cases hc)]
      exact i.2 c o hc
    · show hideS (G.view _) S = _
      rw [b, hideS_upd hp]⟩
/-- frames that keep more aside -/
inductive SubF : Fr → Fr → Prop
  | refl {G : Fr} : SubF G G
  | own {G G' : Fr} {l : Addr} {o : HO} : SubF G G' → SubF G (G'.own l o)
  | owns {G G' : Fr} {S : OS} : SubF G G' → SubF G (G'.owns S)
theorem SubF.trans {A B C : Fr} (h : SubF A B) (h2 : SubF B C) : SubF A C := by
  induction h2 with
  | refl => exact h
  | own _ ih => exact .own ih
  | owns _ ih => exact .owns ih
/-- the attributes of an object -/
inductive DqFs (K : PySem.W.Frag) (H : Hp) : List (Str × V) → List (Str × PyData) → Prop
  | nil : DqFs K H [] []
  | cons {f : Str} {v : V} {d : PyData} {vs : List (Str × V)} {ds : List (Str × PyData)} : Dq K H v d → DqFs K H vs ds → DqFs K H ((f, v) :: vs) ((f, d) :: ds)
theorem DqFs.ex {K : PySem.W.Frag} {H H' : Hp} (e : Evl.Ex H H') : ∀ {vs : List (Str × V)} {ds : List (Str × PyData)}, DqFs K H vs ds → DqFs K H' vs ds
  | _, _, .nil => .nil
  | _, _, .cons h t => .cons (h.ex e) (DqFs.ex e t)
/-- what a place holds -/
inductive Sl where
  | any | dat (d : PyData) | well | odic (m : List (Str × PyData)) | fdic (m : List (Str × PyData)) | ins (C : Addr) (fs : List (Str × PyData)) | olst (ds : List PyData) | sem (p : Hp → V → Prop) | frm (p : Fr → Hp → V → Prop)
def SlOk (K : PySem.W.Frag) (G : Fr) (H : Hp) (v : V) : Sl → Prop
  | .any => True
  | .dat d => Dq K (G.view H) v d
  | .well => ∃ a q, v = .ref a ∧ IsW G a q
  | .odic m => ∃ a kvs, v = .ref a ∧ (∀ H', G.inv H' → H' a = some (.dK kvs)) ∧ DqKv K (G.view H) kvs (m.map fun p => (.str p.1, p.2))
  | .fdic m => ∃ a o kvs, v = .ref a ∧ (∀ H', G.inv H' → H' a = some (.frz o (.dK kvs))) ∧ DqKv K (G.view H) kvs (m.map fun p => (.str p.1, p.2))
  | .ins C fs => ∃ a dx vs, v = .ref a ∧ G.view H a = some (.ins C dx vs) ∧ DqFs K (G.view H) vs fs
  | .olst ds => ∃ a vs, v = .ref a ∧ (∀ H', G.inv H' → H' a = some (.lst vs)) ∧ DqAll K (G.view H) vs ds
  | .sem p => ∀ H', Ex (G.view H) H' → p H' v
  | .frm p => ∀ G' H', SubF G G' → Ex (G.view H) (G'.view H') → p G' H' v
def EnvOk (K : PySem.W.Frag) (G : Fr) (H : Hp) (σ : L2.St) (Γ : List Sl) : Prop := σ.length = Γ.length ∧ ∀ (i : Nat) (s : Sl), Γ[i]? = some s → s = .any ∨ ∃ v, σ[i]? = some (some v) ∧ SlOk K G H v s
inductive ArgsOk (K : PySem.W.Frag) (G : Fr) (H : Hp) : List V → List Sl → Prop
  | nil : ArgsOk K G H [] []
  | cons {v : V} {s : Sl} {vs : List V} {ss : List Sl} : SlOk K G H v s → ArgsOk K G H vs ss → ArgsOk K G H (v :: vs) (s :: ss)
section
variable {K : PySem.W.Frag} {G : Fr} {H H' : Hp} {σ : L2.St} {Γ : List Sl}
theorem SlOk.le {v : V} {s : Sl} (h : SlOk K G H v s) (e : G.le H H') : SlOk K G H' v s := by
  cases s with
  | any => trivial
  | dat d => exact Dq.ex e h
  | well => exact h
  | odic m => obtain ⟨a, k, e1, e2, e3⟩ := h; exact ⟨a, k, e1, e2, e3.ex e⟩
  | fdic m => obtain ⟨a, o, k, e1, e2, e3⟩ := h; exact ⟨a, o, k, e1, e2, e3.ex e⟩
  | ins C fs => obtain ⟨a, dx, vs, e1, e2, e3⟩ := h; exact ⟨a, dx, vs, e1, e _ _ e2, e3.ex e⟩
  | sem p => exact fun H2 e2 => h H2 fun b o hb => e2 b o (e b o hb)
  | frm p => exact fun G2 H2 s2 e2 => h G2 H2 s2 fun b o hb => e2 b o (e b o hb)
  | olst ds => obtain ⟨a, vs, e1, e2, e3⟩ := h; exact ⟨a, vs, e1, e2, e3.ex e⟩
theorem EnvOk.le (h : EnvOk K G H σ Γ) (e : G.le H H') : EnvOk K G H' σ Γ := ⟨h.1, fun i s hs => (h.2 i s hs).imp id fun ⟨v, a, b⟩ => ⟨v, a, b.le e⟩⟩
theorem ArgsOk.le : ∀ {vs : List V} {ss : List Sl}, ArgsOk K G H vs ss → G.le H H' → ArgsOk K G H' vs ss
  | _, _, .nil, _ => .nil
  | _, _, .cons h t, e => .cons (h.le e) (t.le e)
theorem ArgsOk.length : ∀ {vs : List V} {ss : List Sl}, ArgsOk K G H vs ss → vs.length = ss.length
  | _, _, .nil => rfl
  | _, _, .cons _ t => congrArg (· + 1) t.length
/-- the frame takes one more object aside -/
theorem SlOk.own {v : V} {s : Sl} {l : Addr} {o : HO} {H' : Hp} (h : SlOk K G H v s) (e : Ex (G.view H) ((G.own l o).view H')) : SlOk K (G.own l o) H' v s := by
  cases s with
  | any => trivial
  | dat d => exact Dq.ex e h
  | well => obtain ⟨a, q, e1, w⟩ := h; exact ⟨a, q, e1, w.own⟩
  | odic m => obtain ⟨a, k, e1, e2, e3⟩ := h; exact ⟨a, k, e1, fun H' i => e2 H' i.1, e3.ex e⟩
  | fdic m => obtain ⟨a, o', k, e1, e2, e3⟩ := h; exact ⟨a, o', k, e1, fun H' i => e2 H' i.1, e3.ex e⟩
  | ins C fs => obtain ⟨a, dx, vs, e1, e2, e3⟩ := h; exact ⟨a, dx, vs, e1, e _ _ e2, e3.ex e⟩
  | sem p => exact fun H2 e2 => h H2 fun b o hb => e2 b o (e b o hb)
  | frm p => exact fun G2 H2 s2 e2 => h G2 H2 (SubF.trans (.own .refl) s2) fun b o hb => e2 b o (e b o hb)
  | olst ds => obtain ⟨a, vs, e1, e2, e3⟩ := h; exact ⟨a, vs, e1, fun H' i => e2 H' i.1, e3.ex e⟩
theorem EnvOk.own {l : Addr} {o : HO} {H' : Hp} (h : EnvOk K G H σ Γ) (e : Ex (G.view H) ((G.own l o).view H')) : EnvOk K (G.own l o) H' σ Γ := ⟨h.1, fun i s hs => (h.2 i s hs).imp id fun ⟨v, a, b⟩ => ⟨v, a, b.own e⟩⟩
theorem EnvOk.set {i : Nat} {v : V} {s : Sl} (h : EnvOk K G H σ Γ) (hi : i < Γ.length) (hv : SlOk K G H v s) : EnvOk K G H (σ.set i (some v)) (Γ.set i s) := ⟨by rw [List.length_set, List.length_set]; exact h.1, fun j t hj => by
  by_cases e : i = j
  · subst e
    rw [List.getElem?_set_self hi] at hj
    cases hj
    exact .inr ⟨v, by rw [List.getElem?_set_self (by rw [h.1]; exact hi)], hv⟩
  · rw [List.getElem?_set_ne e] at hj ⊢
    exact h.2 j t hj⟩
theorem EnvOk.wipe1 {i : Nat} (h : EnvOk K G H σ Γ) : EnvOk K G H (σ.set i none) (Γ.set i .any) := ⟨by rw [List.length_set, List.length_set]; exact h.1, fun j t hj => by
  by_cases e : i = j
  · subst e
    have hi : i < Γ.length := by
      have := (List.getElem?_eq_some_iff.mp hj).1
      simpa using this
    rw [List.getElem?_set_self hi] at hj
    cases hj
    exact .inl rfl
  · rw [List.getElem?_set_ne e] at hj ⊢
    exact h.2 j t hj⟩
theorem envOk_of0 : ∀ {vs : List V} {ss : List Sl} (n : Nat), ArgsOk K G H vs ss → ∀ (i : Nat) (s : Sl), (ss ++ List.replicate n .any)[i]? = some s → s = .any ∨ ∃ v, (vs.map some ++ List.replicate n none)[i]? = some (some v) ∧ SlOk K G H v s
  | _, _, n, .nil => fun i s hs => .inl (by
      rw [List.nil_append, List.getElem?_replicate] at hs
      split at hs <;> cases hs
      rfl)
  | _, _, n, .cons h t => fun i s hs => by
    cases i with
    | zero => simp at hs; subst hs; exact .inr ⟨_, rfl, h⟩
    | succ i => exact envOk_of0 n t i s (by simpa using hs)
theorem envOk_of {vs : List V} {ss : List Sl} (n : Nat) (h : ArgsOk K G H vs ss) : EnvOk K G H (vs.map some ++ List.replicate n none) (ss ++ List.replicate n .any) := ⟨by simp [h.length], envOk_of0 n h⟩
end
/-- what an expression answers -/
def EvD (K : PySem.W.Frag) (te : TE) (Γ : List Sl) (P : PyData → Prop) : Prop := ∀ (G : Fr) (σ : L2.St) (H : Hp), EnvOk K G H σ Γ → G.inv H → ∀ Q : VK, (∀ v d H', G.inv H' → G.le H H' → P d → Dq K (G.view H') v d → Q v H') → te σ H Q
def EvS (K : PySem.W.Frag) (ta : TA) (Γ : List Sl) (P : List Sl → Prop) : Prop := ∀ (G : Fr) (σ : L2.St) (H : Hp), EnvOk K G H σ Γ → G.inv H → ∀ Q : List V → Hp → Prop, (∀ vs ss H', G.inv H' → G.le H H' → P ss → ArgsOk K G H' vs ss → Q vs H') → ta σ H Q
def EvB (K : PySem.W.Frag) (tt : TT) (Γ : List Sl) (P : Bool → Prop) : Prop := ∀ (G : Fr) (σ : L2.St) (H : Hp), EnvOk K G H σ Γ → G.inv H → ∀ Q : Bool → Hp → Prop, (∀ b H', G.inv H' → G.le H H' → P b → Q b H') → tt σ H Q
/-- the promise of a def, told by data -/
def spF (K : PySem.W.Frag) (pre : List Sl → Prop) (post : List Sl → PyData → Prop) : Sp := fun vs H Q _ => ∃ (G : Fr) (ss : List Sl), G.inv H ∧ ArgsOk K G H vs ss ∧ pre ss ∧ ∀ v d H', G.inv H' → G.le H H' → post ss d → Dq K (G.view H') v d → Q v H'
section
variable {K : PySem.W.Frag} {Γ : List Sl} {te tb tc : TE} {ta : TA} {tt tu : TT} {P P' P1 P2 : PyData → Prop} {PS : List Sl → Prop}
theorem EvD.imp (h : EvD K te Γ P) (hp : ∀ d, P d → P' d) : EvD K te Γ P' := fun G σ H e i Q q => h G σ H e i Q fun v d H' i' l p dq => q v d H' i' l (hp d p) dq
theorem EvB.imp {P P' : Bool → Prop} (h : EvB K tt Γ P) (hp : ∀ d, P d → P' d) : EvB K tt Γ P' := fun G σ H e i Q q => h G σ H e i Q fun b H' i' l p => q b H' i' l (hp b p)
theorem ev_var {i : Nat} {d : PyData} (h : Γ[i]? = some (.dat d)) : EvD K (tVar i) Γ (· = d) := fun G σ H e i' Q q => by
  rcases e.2 i _ h with z | ⟨v, a, b⟩
  · cases z
  · exact ⟨v, a, q v d H i' .refl rfl b⟩
theorem ev_c {v : V} {d : PyData} (h : ∀ H, Dq K H v d) : EvD K (tC v) Γ (· = d) := fun G σ H e i Q q => q v d H i .refl rfl (h _)
theorem ev_int {n : Int} : EvD K (tC (.int n)) Γ (· = .int n) := ev_c fun _ => .int n
theorem ev_bl {b : Bool} : EvD K (tC (.bl b)) Γ (· = .bool b) := ev_c fun _ => .bl b
theorem ev_str {x : Str} : EvD K (tC (.str x)) Γ (· = .str x) := ev_c fun _ => .str x
theorem es_nil : EvS K tNil Γ (· = []) := fun G σ H e i Q q => q [] [] H i .refl rfl .nil
theorem es_cons (h : EvD K te Γ P) (t : EvS K ta Γ PS) : EvS K (tCons te ta) Γ (fun ss => ∃ d r, ss = .dat d :: r ∧ P d ∧ PS r) := fun G σ H e i Q q =>
  h G σ H e i _ fun v d H1 i1 l1 p1 dq => t G σ H1 (e.le l1) i1 _ fun vs ss H2 i2 l2 p2 dqs => q (v :: vs) (.dat d :: ss) H2 i2 (l1.trans l2) ⟨d, ss, rfl, p1, p2⟩ (.cons (dq.ex l2) dqs)
/-- a well as an argument -/
theorem es_well {i : Nat} (h : Γ[i]? = some .well) (t : EvS K ta Γ PS) : EvS K (tCons (tVar i) ta) Γ (fun ss => ∃ r, ss = .well :: r ∧ PS r) := fun G σ H e i' Q q => by
  rcases e.2 i _ h with z | ⟨v, a, b⟩
  · cases z
  · exact ⟨v, a, t G σ H e i' _ fun vs ss H2 i2 l2 p2 dqs => q (v :: vs) (.well :: ss) H2 i2 l2 ⟨ss, rfl, p2⟩ (.cons b dqs)⟩
theorem ev_call {pre : List Sl → Prop} {post : List Sl → PyData → Prop} {E : XK} (h : EvS K ta Γ PS) (hp : ∀ ss, PS ss → pre ss) : EvD K (tCall (spF K pre post) [] E ta) Γ (fun d => ∃ ss, PS ss ∧ post ss d) := fun G σ H e i Q q =>
  h G σ H e i _ fun vs ss H1 i1 l1 p1 dqs => by
    rw [List.append_nil]
    exact ⟨G, ss, i1, dqs, hp ss p1, fun v d H' i' l' p' dq => q v d H' i' (l1.trans l') ⟨ss, p1, p'⟩ dq⟩
theorem ev_not {f : PyData → Bool → Prop} (h : EvD K te Γ P) (hp : ∀ d, P d → ∃ b, d = .bool b) : EvD K (tNotV te) Γ (fun d => ∃ b, P (.bool b) ∧ d = .bool (!b)) := fun G σ H e i Q q =>
  h G σ H e i _ fun v d H1 i1 l1 p1 dq => by
    obtain ⟨b, rfl⟩ := hp d p1
    cases dq
    exact ⟨b, rfl, q _ _ H1 i1 l1 ⟨b, p1, rfl⟩ (.bl _)⟩
/-- x and y, told by two tests -/
theorem ev_and {b1 b2 : Bool} (h : EvD K te Γ (· = .bool b1)) (h2 : b1 = true → EvD K tb Γ (· = .bool b2)) : EvD K (tAndV te tb) Γ (· = .bool (b1 && b2)) := fun G σ H e i Q q =>
  h G σ H e i _ fun v d H1 i1 l1 p1 dq => by
    subst p1
    cases dq
    refine ⟨b1, rfl, ?_⟩
    cases b1 with
    | false => exact q _ _ H1 i1 l1 rfl (.bl _)
    | true => exact h2 rfl G σ H1 (e.le l1) i1 _ fun v d H2 i2 l2 p2 dq2 => q v d H2 i2 (l1.trans l2) (by rw [p2]; rfl) dq2
theorem eb_val {b : Bool} (h : EvD K te Γ (· = .bool b)) : EvB K (tB te) Γ (· = b) := fun G σ H e i Q q => h G σ H e i _ fun v d H1 i1 l1 p1 dq => by
  subst p1
  cases dq
  exact ⟨b, rfl, q b H1 i1 l1 rfl⟩
theorem eb_test {b : Bool} (h : EvD K te Γ (· = .bool b)) : EvB K (tTest te) Γ (· = b) := fun G σ H e i Q q => h G σ H e i _ fun v d H1 i1 l1 p1 dq => by
  subst p1
  cases dq
  exact ⟨b, rfl, q b H1 i1 l1 rfl⟩
theorem eb_not {b : Bool} (h : EvB K tt Γ (· = b)) : EvB K (tNot tt) Γ (· = !b) := fun G σ H e i Q q => h G σ H e i _ fun c H1 i1 l1 p1 => q _ H1 i1 l1 (by rw [p1])
theorem eb_or {b1 b2 : Bool} (h : EvB K tt Γ (· = b1)) (h2 : b1 = false → EvB K tu Γ (· = b2)) : EvB K (tOr tt tu) Γ (· = (b1 || b2)) := fun G σ H e i Q q => h G σ H e i _ fun c H1 i1 l1 p1 => by
  subst p1
  cases c with
  | true => exact q true H1 i1 l1 rfl
  | false => exact h2 rfl G σ H1 (e.le l1) i1 _ fun c H2 i2 l2 p2 => q c H2 i2 (l1.trans l2) p2
theorem eb_and {b1 b2 : Bool} (h : EvB K tt Γ (· = b1)) (h2 : b1 = true → EvB K tu Γ (· = b2)) : EvB K (tAnd tt tu) Γ (· = (b1 && b2)) := fun G σ H e i Q q => h G σ H e i _ fun c H1 i1 l1 p1 => by
  subst p1
  cases c with
  | false => exact q false H1 i1 l1 rfl
  | true => exact h2 rfl G σ H1 (e.le l1) i1 _ fun c H2 i2 l2 p2 => q c H2 i2 (l1.trans l2) p2
/-- two whole numbers and an operator -/
theorem ev_opI {P1 P2 : Int → Prop} {c : Int → Int → Prop} {f : Int → Int → V} {g : Int → Int → PyData} (hg : ∀ i j H, Dq K H (f i j) (g i j)) (h1 : EvD K te Γ (fun d => ∃ n, d = .int n ∧ P1 n)) (h2 : EvD K tb Γ (fun d => ∃ n, d = .int n ∧ P2 n)) (hc : ∀ i j, P1 i → P2 j → c i j) :
    EvD K (tOp (rI c f) te tb) Γ (fun d => ∃ i j, P1 i ∧ P2 j ∧ d = g i j) := fun G σ H e i Q q =>
  h1 G σ H e i _ fun v d H1 i1 l1 ⟨n, p1, p1'⟩ dq => h2 G σ H1 (e.le l1) i1 _ fun v2 d2 H2 i2 l2 ⟨m, p2, p2'⟩ dq2 => by
    subst p1; subst p2
    cases dq; cases dq2
    exact ⟨n, m, rfl, rfl, hc n m p1' p2', q _ _ H2 i2 (l1.trans l2) ⟨n, m, p1', p2', rfl⟩ (hg n m _)⟩
end
end L2

set_option Elab.async false
set_option linter.all false
set_option maxRecDepth 100000
set_option maxHeartbeats 4000000
namespace L2
open PySem PySem.Spec PyProof.Rows
open Evl (Ex)
/-- J goes through n things, the i-th one seen as P tells, by whatever frame sees as much as G at H -/
def Walk (K : PySem.W.Frag) (G : Fr) (J : It) (n : Nat) (P : Nat → PyData → Prop) (H : Hp) : Prop := ∀ (G' : Fr) (H2 : Hp), (∀ H, G'.inv H → G.inv H) → Ex (G.view H) (G'.view H2) → G'.inv H2 →
  (∀ i, i < n → J.go i H2 ∧ ∀ x H3, J.yld i H2 x H3 → G'.inv H3 ∧ G'.le H2 H3 ∧ ∃ d, P i d ∧ Dq K (G'.view H3) x d) ∧ J.stop n H2
def EvI (K : PySem.W.Frag) (wi : TI) (Γ : List Sl) (Nn : Nat → Prop) (P : Nat → PyData → Prop) : Prop := ∀ (G : Fr) (σ : L2.St) (H : Hp), EnvOk K G H σ Γ → G.inv H → ∀ R : It → Hp → Prop, (∀ n J H', Nn n → G.inv H' → G.le H H' → Walk K G J n P H' → R J H') → wi σ H R
def Walk0 (K : PySem.W.Frag) (G : Fr) (J : It) (n : Nat) (P : Nat → PyData → Prop) (H : Hp) : Prop := ∀ (G' : Fr) (H2 : Hp), Ex (G.view H) (G'.view H2) → G'.inv H2 →
  (∀ i, i < n → J.go i H2 ∧ ∀ x H3, J.yld i H2 x H3 → G'.inv H3 ∧ G'.le H2 H3 ∧ ∃ d, P i d ∧ Dq K (G'.view H3) x d) ∧ J.stop n H2
/-- as EvI, of things that are seen -/
def EvI0 (K : PySem.W.Frag) (wi : TI) (Γ : List Sl) (Nn : Nat → Prop) (P : Nat → PyData → Prop) : Prop := ∀ (G : Fr) (σ : L2.St) (H : Hp), EnvOk K G H σ Γ → G.inv H → ∀ R : It → Hp → Prop, (∀ n J H', Nn n → G.inv H' → G.le H H' → Walk0 K G J n P H' → R J H') → wi σ H R
theorem EvI0.toI {K : PySem.W.Frag} {wi : TI} {Γ : List Sl} {Nn : Nat → Prop} {P : Nat → PyData → Prop} (h : EvI0 K wi Γ Nn P) : EvI K wi Γ Nn P := fun G σ H ev iv R q => h G σ H ev iv R fun n J H' a b c w => q n J H' a b c fun G' H2 _ e i => w G' H2 e i
/-- a target: what the places hold behind it, other places than vs stay -/
def TgOk (K : PySem.W.Frag) (g : TG) (vs : List Nat) (Γ : List Sl) (P : PyData → Prop) (N : PyData → List Sl) : Prop := ∀ (G : Fr) (σ : L2.St) (H : Hp) (x : V) (d : PyData), EnvOk K G H σ Γ → G.inv H → P d → Dq K (G.view H) x d → ∀ Q : L2.St → Hp → Prop,
  (∀ σ2, σ2.length = σ.length → (∀ i, i ∉ vs → σ2[i]? = σ[i]?) → EnvOk K G H σ2 (N d) → Q σ2 H) → g x σ H Q
def TgsOk (K : PySem.W.Frag) (g : TGs) (vs : List Nat) (Γ : List Sl) (P : List PyData → Prop) (N : List PyData → List Sl) : Prop := ∀ (G : Fr) (σ : L2.St) (H : Hp) (xs : List V) (ds : List PyData), EnvOk K G H σ Γ → G.inv H → P ds → DqAll K (G.view H) xs ds → ∀ Q : L2.St → Hp → Prop,
  (∀ σ2, σ2.length = σ.length → (∀ i, i ∉ vs → σ2[i]? = σ[i]?) → EnvOk K G H σ2 (N ds) → Q σ2 H) → g xs σ H Q
theorem wipe_cons (σ : L2.St) (v : Nat) (vs : List Nat) : wipe σ (v :: vs) = (wipe σ vs).set v none := rfl
theorem wipe_len (σ : L2.St) : ∀ vs : List Nat, (wipe σ vs).length = σ.length
  | [] => rfl
  | v :: vs => by rw [wipe_cons, List.length_set, wipe_len σ vs]
theorem wipe_get (σ : L2.St) : ∀ (vs : List Nat) (i : Nat), (wipe σ vs)[i]? = if i ∈ vs then σ[i]?.map (fun _ => none) else σ[i]?
  | [], i => by simp; rfl
  | v :: vs, i => by
    rw [wipe_cons, List.getElem?_set, wipe_get σ vs i, wipe_len]
    by_cases e : v = i
    · subst e
      simp
      by_cases h : v < σ.length
      · rw [if_pos h, List.getElem?_eq_getElem h]; rfl
      · rw [if_neg h, List.getElem?_eq_none (by omega)]; rfl
    · rw [if_neg e]
      by_cases h : i ∈ vs
      · rw [if_pos h, if_pos (List.mem_cons_of_mem _ h)]
      · rw [if_neg h, if_neg (by simp [h, Ne.symm e])]
theorem wipe_eq {σ σ2 : L2.St} {vs : List Nat} (hl : σ2.length = (wipe σ vs).length) (h : ∀ i, i ∉ vs → σ2[i]? = (wipe σ vs)[i]?) : wipe σ2 vs = wipe σ vs := by
  refine List.ext_getElem? fun i => ?_
  rw [wipe_get, wipe_get]
  by_cases hm : i ∈ vs
  · rw [if_pos hm, if_pos hm]
    rw [wipe_len] at hl
    by_cases hi : i < σ.length
    · rw [List.getElem?_eq_getElem hi, List.getElem?_eq_getElem (by omega)]; rfl
    · rw [List.getElem?_eq_none (by omega), List.getElem?_eq_none (by omega)]
  · rw [if_neg hm, if_neg hm, h i hm, wipe_get, if_neg hm]
def wipeΓ (Γ : List Sl) : List Nat → List Sl
  | [] => Γ
  | v :: vs => (wipeΓ Γ vs).set v .any
section
variable {K : PySem.W.Frag} {Γ : List Sl} {te tb tl : TE} {ta : TA} {wi : TI} {g : TG} {Nn : Nat → Prop} {vs : List Nat} {P : Nat → PyData → Prop} {N : PyData → List Sl} {R : Nat → PyData → PyData → Prop}
theorem EnvOk.wipe {G : Fr} {H : Hp} {σ : L2.St} (h : EnvOk K G H σ Γ) : ∀ vs : List Nat, EnvOk K G H (L2.wipe σ vs) (wipeΓ Γ vs)
  | [] => h
  | v :: vs => (EnvOk.wipe h vs).wipe1
/-- a comprehension -/
theorem ev_lc (hn : ∀ n, Nn n → n < 100000) (hi : EvI K wi Γ Nn P) (hg : ∀ i, TgOk K g vs (wipeΓ Γ vs) (P i) N) (he : ∀ i d, P i d → EvD K te (N d) (R i d)) :
    EvD K (tLc wi g tYes te vs) Γ (fun d => ∃ es, d = .list es ∧ Nn es.length ∧ ∀ i e, es[i]? = some e → ∃ d, P i d ∧ R i d e) := fun G σ H ev iv Q q => by
  refine hi G σ H ev iv _ fun n J H1 hnn iv1 l1 w D hD => ?_
  have hn := hn n hnn
  have ho := Fr.own_new (G := G) (o := HO.lst []) iv1 hD
  -- the list made so far is acc
  let Iv : Nat → Hp → Prop := fun i H => ∃ (acc : List V) (es : List PyData), (G.own D (.lst acc)).inv H ∧ Ex (G.view H1) ((G.own D (.lst acc)).view H) ∧ acc.length = i ∧ DqAll K ((G.own D (.lst acc)).view H) acc es ∧ ∀ j e, es[j]? = some e → ∃ d, P j d ∧ R j d e
  refine ⟨fun i m H => m = n - i ∧ i ≤ n ∧ Iv i H, ⟨n, by simp, Nat.zero_le _, [], [], ho.1, by rw [ho.2]; exact fun _ _ h => h, rfl, .nil, fun j e h => by simp at h⟩, ?_⟩
  rintro i m H2 ⟨rfl, hle, acc, es, iv2, e2, hlen, dqs, hR⟩
  have w2 := w (G.own D (.lst acc)) H2 (fun _ i => i.1) e2 iv2
  by_cases hlt : i < n
  · refine .inr ⟨(w2.1 i hlt).1, fun H => i + 1 ≤ n ∧ Iv (i + 1) H, fun H' h' => ⟨n - (i + 1), by omega, rfl, h'⟩, fun x H3 hy => ?_⟩
    obtain ⟨iv3, l3, d, pd, dq⟩ := (w2.1 i hlt).2 x H3 hy
    have ev3 : EnvOk K (G.own D (.lst acc)) H3 σ Γ := (ev.le l1).own fun c u h => l3 c u (e2 c u h)
    refine hg i (G.own D (.lst acc)) (L2.wipe σ vs) H3 x d (ev3.wipe vs) iv3 pd dq _ fun σ2 hl2 hs2 ev4 => ⟨wipe_eq hl2 hs2, ?_⟩
    refine he i d pd (G.own D (.lst acc)) σ2 H3 ev4 iv3 _ fun y e H4 iv4 l4 r4 dq4 => ⟨acc, Fr.own_at iv4, ?_, hlt, acc ++ [y], es ++ [e], ?_⟩
    · rw [hlen, sizeLine_eq]; omega
    · have st := Fr.own_set (o' := .lst (acc ++ [y])) iv4
      refine ⟨st.1, fun c u h => ?_, by simp [hlen], ?_, fun j z hz => ?_⟩
      · show (G.own D (.lst (acc ++ [y]))).view _ c = _
        rw [st.2]
        exact l4 c u (l3 c u (e2 c u h))
      · show DqAll K ((G.own D (.lst (acc ++ [y]))).view _) _ _
        rw [st.2]
        exact ((dqs.ex l3).ex l4).append (.cons dq4 .nil)
      · by_cases hj : j < es.length
        · rw [List.getElem?_append_left hj] at hz
          exact hR j z hz
        · have hel : es.length = i := by rw [← dqs.length]; exact hlen
          rw [List.getElem?_append_right (by omega)] at hz
          have : j - es.length = 0 := by
            have := (List.getElem?_eq_some_iff.mp hz).1
            simp at this
            omega
          rw [this] at hz
          simp at hz
          subst hz
          have hji : j = i := by omega
          subst hji
          exact ⟨d, pd, r4⟩
  · obtain rfl : i = n := by omega
    refine .inl ⟨w2.2, q (.ref D) (.list es) H2 iv2.1 (l1.trans (Fr.own_le (Fr.blank hD) e2)) ⟨es, rfl, by rw [← dqs.length, hlen]; exact hnn, hR⟩ (.lst (.inl (.inl iv2.2)) (dqs.ex Fr.own_sub))⟩
theorem tg_name {j : Nat} {P : PyData → Prop} (hj : j < Γ.length) : TgOk K (gName j) [j] Γ P (fun d => Γ.set j (.dat d)) := fun G σ H x d ev iv pd dq Q q =>
  q (σ.set j (some x)) (by rw [List.length_set]) (fun i hi => by rw [List.getElem?_set_ne (by intro e; exact hi (by simp [e]))]) (ev.set hj dq)
theorem TgOk.more {P : PyData → Prop} {us : List Nat} (h : TgOk K g vs Γ P N) (hs : ∀ i ∈ vs, i ∈ us) : TgOk K g us Γ P N := fun G σ H x d ev iv pd dq Q q => h G σ H x d ev iv pd dq Q fun σ2 a b c => q σ2 a (fun i hi => b i fun z => hi (hs i z)) c
end
end L2

set_option Elab.async false
set_option linter.all false
set_option maxRecDepth 100000
set_option maxHeartbeats 4000000
namespace L2
open PySem PySem.Spec PyProof.Rows
open Evl (Ex)
/-- for x in e, e a list or a tuple -/
def iSeq (K : PySem.W.Frag) (tl : TE) : TI := fun σ H R => tl σ H fun x H1 => ∃ a, x = .ref a ∧ (((∃ xs, SqL K H1 a xs) ∧ R (Itl K a) H1) ∨ ((∃ xs, SqT K H1 a xs) ∧ R (Itt K a) H1))
theorem pi_seq {X : Cx} {tg l : Expr} {tl : TE} (h : PE X l tl) : PI X tg l (iSeq X.K tl) := by
  refine ⟨fun pins s σ H R I q => thn (h.run pins s σ H _ I q) fun v s1 ⟨x, H1, I1, r1, a, ex, q1⟩ => ?_⟩
  subst ex
  obtain rfl : v = Value.ref a := r1
  rcases q1 with ⟨⟨xs, hq⟩, q1⟩ | ⟨⟨xs, hq⟩, q1⟩
  · obtain ⟨its, rv, p, hz⟩ := I1.list hq
    exact wpAny_pyIter_list p.isList (pi_one (tk := s1.toks) I1 _ (turn_list a s1.heap.objs.size) ⟨_, Heap.get?_push_size _ rfl, rfl, rfl⟩ q1)
  · obtain ⟨its, rv, p, hz⟩ := I1.tuple hq
    exact wpAny_pyIter_tuple p (pi_one (tk := s1.toks) I1 _ (turn_tuple a s1.heap.objs.size) ⟨_, Heap.get?_push_size _ rfl, rfl, rfl⟩ q1)
section
variable {K : PySem.W.Frag} {Γ : List Sl} {te tb tc tl : TE} {ta : TA} {wi : TI} {g : TG} {P P1 P2 : PyData → Prop} {PS : List Sl → Prop}
theorem e0_seq {ds : List PyData} (h : EvD K tl Γ (fun d => d = .list ds ∨ d = .tuple ds)) : EvI0 K (iSeq K tl) Γ (· = ds.length) (fun i d => ds[i]? = some d) := fun G σ H ev iv R q =>
  h G σ H ev iv _ fun v d H1 iv1 l1 pd dq => by
    rcases pd with rfl | rfl
    · cases dq with
      | lst hs ha =>
        refine ⟨_, rfl, .inl ⟨⟨_, Fr.upL hs⟩, q ds.length _ H1 rfl iv1 l1 fun G' H2 e iv2 => ⟨fun i hi => ?_, _, Fr.upL (exL e hs), by rw [ha.length] <;> exact Nat.le_refl _⟩⟩⟩
        obtain ⟨x, hx, dx⟩ := ha.get' (List.getElem?_eq_getElem hi)
        refine ⟨⟨_, x, Fr.upL (exL e hs), hx⟩, fun y H3 ⟨e3, hy⟩ => ?_⟩
        subst e3
        have := hy _ (Fr.upL (exL e hs))
        rw [hx] at this
        cases this
        exact ⟨iv2, .refl, _, List.getElem?_eq_getElem hi, dx.ex e⟩
    · cases dq with
      | tup hs ha =>
        refine ⟨_, rfl, .inr ⟨⟨_, Fr.upT hs⟩, q ds.length _ H1 rfl iv1 l1 fun G' H2 e iv2 => ⟨fun i hi => ?_, _, Fr.upT (exT e hs), by rw [ha.length] <;> exact Nat.le_refl _⟩⟩⟩
        obtain ⟨x, hx, dx⟩ := ha.get' (List.getElem?_eq_getElem hi)
        refine ⟨⟨_, x, Fr.upT (exT e hs), hx⟩, fun y H3 ⟨e3, hy⟩ => ?_⟩
        subst e3
        have := hy _ (Fr.upT (exT e hs))
        rw [hx] at this
        cases this
        exact ⟨iv2, .refl, _, List.getElem?_eq_getElem hi, dx.ex e⟩
theorem ei_seq {ds : List PyData} (h : EvD K tl Γ (fun d => d = .list ds ∨ d = .tuple ds)) : EvI K (iSeq K tl) Γ (· = ds.length) (fun i d => ds[i]? = some d) := (e0_seq h).toI
theorem e0_str {x : Str} (h : EvD K te Γ (· = .str x)) : EvI0 K (iStr te) Γ (· = x.cps.size) (fun i d => ∃ c, x.cps[i]? = some c ∧ d = .str ⟨#[c]⟩) := fun G σ H ev iv R q =>
  h G σ H ev iv _ fun v d H1 iv1 l1 pd dq => by
    subst pd
    cases dq
    refine ⟨x, rfl, q _ _ H1 rfl iv1 l1 fun G' H2 e iv2 => ⟨fun i hi => ⟨hi, fun y H3 ⟨e3, c, hc, ey⟩ => ?_⟩, Nat.le_refl _⟩⟩
    subst e3; subst ey
    exact ⟨iv2, .refl, _, ⟨c, hc, rfl⟩, .str _⟩
theorem ei_str {x : Str} (h : EvD K te Γ (· = .str x)) : EvI K (iStr te) Γ (· = x.cps.size) (fun i d => ∃ c, x.cps[i]? = some c ∧ d = .str ⟨#[c]⟩) := (e0_str h).toI
theorem e0_range1 {Nn : Nat → Prop} (h : EvS K ta Γ (fun ss => ∃ m : Nat, Nn m ∧ ss = [.dat (.int m)])) (hb : ∀ m, Nn m → m < 100000) : EvI0 K (iRng1 ta) Γ Nn (fun i d => d = .int i) := fun G σ H ev iv R q =>
  h G σ H ev iv _ fun vs ss H1 iv1 l1 ⟨m, hm, ess⟩ dqs => by
    subst ess
    cases dqs with
    | cons h1 t1 =>
      cases t1
      cases h1
      have := hb m hm
      refine ⟨m, rfl, by omega, by omega, ?_⟩
      rw [Int.toNat_natCast]
      refine q m _ H1 hm iv1 l1 fun G' H2 e iv2 => ⟨fun i hi => ⟨hi, fun y H3 ⟨e3, ey⟩ => ?_⟩, Nat.le_refl _⟩
      subst e3; subst ey
      rw [Int.zero_add]
      exact ⟨iv2, .refl, _, rfl, .int _⟩
theorem ei_range1 {Nn : Nat → Prop} (h : EvS K ta Γ (fun ss => ∃ m : Nat, Nn m ∧ ss = [.dat (.int m)])) (hb : ∀ m, Nn m → m < 100000) : EvI K (iRng1 ta) Γ Nn (fun i d => d = .int i) := (e0_range1 h hb).toI
theorem ev_opC {P1 P2 : Int → Prop} {f : Int → Int → V} {g' : Int → Int → PyData} (hg : ∀ i j H, Dq K H (f i j) (g' i j)) (h1 : EvD K te Γ (fun d => ∃ n, d = .int n ∧ P1 n)) (h2 : EvD K tb Γ (fun d => ∃ n, d = .int n ∧ P2 n)) :
    EvD K (tOp (rI0 f) te tb) Γ (fun d => ∃ i j, P1 i ∧ P2 j ∧ d = g' i j) := fun G σ H e i Q q =>
  h1 G σ H e i _ fun v d H1 i1 l1 ⟨n, p1, p1'⟩ dq => h2 G σ H1 (e.le l1) i1 _ fun v2 d2 H2 i2 l2 ⟨m, p2, p2'⟩ dq2 => by
    subst p1; subst p2
    cases dq; cases dq2
    exact ⟨n, m, rfl, rfl, q _ _ H2 i2 (l1.trans l2) ⟨n, m, p1', p2', rfl⟩ (hg n m _)⟩
theorem ev_is {n : Int} (h : EvD K te Γ (· = .int n)) : EvD K te Γ (fun d => ∃ m, d = .int m ∧ m = n) := h.imp fun d e => ⟨n, e, rfl⟩
/-- a <= x <= b -/
theorem ev_chainLe {a x b : Int} (h1 : EvD K te Γ (· = .int a)) (h2 : EvD K tb Γ (· = .int x)) (h3 : EvD K tc Γ (· = .int b)) :
    EvD K (tChain (rI0 fun i j => V.bl (decide (i ≤ j))) (rI0 fun i j => V.bl (decide (i ≤ j))) te tb tc) Γ (· = .bool (decide (a ≤ x) && decide (x ≤ b))) := fun G σ H e i Q q =>
  h1 G σ H e i _ fun v d H1 i1 l1 p1 dq => h2 G σ H1 (e.le l1) i1 _ fun v2 d2 H2 i2 l2 p2 dq2 => by
    subst p1; subst p2
    cases dq; cases dq2
    refine ⟨a, x, rfl, rfl, _, rfl, ?_⟩
    by_cases c : a ≤ x
    · rw [if_pos (decide_eq_true c)]
      refine h3 G σ H2 (e.le (l1.trans l2)) i2 _ fun v3 d3 H3 i3 l3 p3 dq3 => ?_
      subst p3
      cases dq3
      exact ⟨x, b, rfl, rfl, q _ _ H3 i3 ((l1.trans l2).trans l3) (by rw [decide_eq_true c]; rfl) (.bl _)⟩
    · rw [if_neg (by simp [c])]
      exact q _ _ H2 i2 (l1.trans l2) (by rw [decide_eq_false c]; rfl) (.bl _)
/-- the name of a value's class -/
def tyD : PyData → String
  | .none => "NoneType" | .bool _ => "bool" | .int _ => "int" | .str _ => "str" | .list _ => "list" | .tuple _ => "tuple" | .dict _ => "dict"
theorem dq_ty {H : Hp} {v : V} {d : PyData} (h : Dq K H v d) : TyX K H v (.type (tyD d)) := by
  have L : ∀ {a xs}, SqL K H a xs → TyX K H (.ref a) (.type "list") := fun h => by
    rcases h with (h | ⟨o, h⟩) | ⟨o, its, n, h1, h2, _⟩
    · exact .base (.lst h)
    · exact .base (.frz h)
    · exact .kList h1 h2
  have T : ∀ {a xs}, SqT K H a xs → TyX K H (.ref a) (.type "tuple") := fun h => by
    rcases h with (h | ⟨o, h⟩) | ⟨o, its, n, h1, h2, _⟩
    · exact .base (.tup h)
    · exact .fTuple h
    · exact .kTuple h1 h2
  cases h with
  | non => exact .base .non
  | bl b => exact .base (.bl b)
  | int i => exact .base (.int i)
  | str x => exact .base (.str x)
  | lst hs _ => exact L hs
  | tup hs _ => exact T hs
  | dic hd _ => exact .base (.dK hd)
/-- isinstance(x, c) -/
theorem ev_isi {d : PyData} {c : String} {b : Bool} (h : EvD K te Γ (· = d)) (hb : kitB (tyD d) c = some b) : EvD K (tCB (rIsi K) (tCons te (tCons (tC (.ty c)) tNil))) Γ (· = .bool b) := fun G σ H e i Q q =>
  h G σ H e i _ fun v d' H1 i1 l1 p1 dq => by
    subst p1
    exact ⟨v, .ty c, _, _, b, rfl, .ty c, dq_ty (Fr.up dq), kit_ty hb, q _ _ H1 i1 l1 rfl (.bl b)⟩
theorem ev_isi2 {d : PyData} {c c2 : String} {b : Bool} (h : EvD K te Γ (· = d)) (hb : PySem.W.kitAny K (.type (tyD d)) [.type c, .type c2] = some b) : EvD K (tCB (rIsiT K) (tCons te (tCons (tTup (tCons (tC (.ty c)) (tCons (tC (.ty c2)) tNil))) tNil))) Γ (· = .bool b) := fun G σ H e i Q q =>
  h G σ H e i _ fun v d' H1 i1 l1 p1 dq => by
    subst p1
    refine ⟨by show 2 ≤ sizeLine; decide, fun p hp => ?_⟩
    obtain ⟨i2, l2, h2⟩ := Fr.new (o := HO.tup [.ty c, .ty c2]) i1 hp
    exact ⟨v, p, [.ty c, .ty c2], _, _, b, rfl, upd_same, .cons (.ty c) (.cons (.ty c2) .nil), dq_ty (Fr.up (dq.ex l2)), hb, q _ _ _ i2 (l1.trans l2) rfl (.bl b)⟩
theorem ev_len {ds : List PyData} (h : EvD K te Γ (fun d => d = .list ds ∨ d = .tuple ds)) : EvD K (tCB (fun xs H Q => ∃ p ys, xs = [V.ref p] ∧ (SqL K H p ys ∨ SqT K H p ys) ∧ Q (V.int (ys.length : Nat)) H) (tCons te tNil)) Γ (· = .int ds.length) := fun G σ H e i Q q =>
  h G σ H e i _ fun v d' H1 i1 l1 p1 dq => by
    rcases p1 with rfl | rfl
    · cases dq with
      | lst hs ha => exact ⟨_, _, rfl, .inl (Fr.upL hs), q _ _ H1 i1 l1 (by rw [ha.length]) (.int _)⟩
    · cases dq with
      | tup hs ha => exact ⟨_, _, rfl, .inr (Fr.upT hs), q _ _ H1 i1 l1 (by rw [ha.length]) (.int _)⟩
theorem ev_lenS {x : Str} (h : EvD K te Γ (· = .str x)) (hx : x.length ≤ 100000) : EvD K (tCB (fun xs H Q => ∃ z, xs = [V.str z] ∧ z.length ≤ sizeLine ∧ Q (V.int (z.length : Nat)) H) (tCons te tNil)) Γ (· = .int x.length) := fun G σ H e i Q q =>
  h G σ H e i _ fun v d' H1 i1 l1 p1 dq => by
    subst p1
    cases dq
    exact ⟨x, rfl, by rw [sizeLine_eq]; omega, q _ _ H1 i1 l1 rfl (.int _)⟩
theorem bools_of {H : Hp} : ∀ {xs : List V} {es : List PyData}, DqAll K H xs es → (∀ e ∈ es, ∃ b, e = .bool b) → ∃ bs : List Bool, xs = bs.map V.bl ∧ es = bs.map PyData.bool
  | _, _, .nil, _ => ⟨[], rfl, rfl⟩
  | _, _, .cons h t, hb => by
    obtain ⟨b, rfl⟩ := hb _ List.mem_cons_self
    obtain ⟨bs, e1, e2⟩ := bools_of t fun e he => hb e (List.mem_cons_of_mem _ he)
    cases h
    exact ⟨b :: bs, by rw [e1]; rfl, by rw [e2]; rfl⟩
/-- all([..]) -/
theorem ev_all {bs : List Bool} (h : EvD K te Γ (· = .list (bs.map PyData.bool))) : EvD K (tCB (rAll K) (tCons te tNil)) Γ (· = .bool (bs.all id)) := fun G σ H e i Q q =>
  h G σ H e i _ fun v d' H1 i1 l1 p1 dq => by
    subst p1
    cases dq with
    | lst hs ha =>
      obtain ⟨cs, e1, e2⟩ := bools_of ha fun e he => let ⟨b, _, e2⟩ := List.mem_map.mp he; ⟨b, e2.symm⟩
      have : cs = bs := by
        have := e2
        exact (List.map_inj_right (f := PyData.bool) (fun a b h => by injection h)).mp this.symm
      subst this
      subst e1
      exact ⟨_, cs, rfl, Fr.upL hs, q _ _ H1 i1 l1 rfl (.bl _)⟩
/-- a comprehension whose things are told by a function -/
theorem ev_lcF {ds : List PyData} {f : PyData → PyData} {vs : List Nat} {N : PyData → List Sl} (hn : ds.length < 100000) (hi : EvD K tl Γ (fun d => d = .list ds ∨ d = .tuple ds)) (hg : TgOk K g vs (wipeΓ Γ vs) (· ∈ ds) N) (he : ∀ d, d ∈ ds → EvD K te (N d) (· = f d)) :
    EvD K (tLc (iSeq K tl) g tYes te vs) Γ (· = .list (ds.map f)) := by
  refine (ev_lc (R := fun _ d e => e = f d) (fun n e => by rw [e]; exact hn) (ei_seq hi) (fun i G σ H x d ev iv pd => hg G σ H x d ev iv (List.mem_of_getElem? pd)) fun i d pd => he d (List.mem_of_getElem? pd)).imp ?_
  rintro _ ⟨es, rfl, hl, hR⟩
  refine congrArg PyData.list (List.ext_getElem? fun i => ?_)
  rw [List.getElem?_map]
  by_cases hlt : i < es.length
  · obtain ⟨d, h1, h2⟩ := hR i _ (List.getElem?_eq_getElem hlt)
    rw [h1, List.getElem?_eq_getElem hlt, h2]
    rfl
  · rw [List.getElem?_eq_none (by omega), List.getElem?_eq_none (by omega)]
    rfl
theorem ev_allF {ds : List PyData} {f : PyData → Bool} {vs : List Nat} {N : PyData → List Sl} (hn : ds.length < 100000) (hi : EvD K tl Γ (fun d => d = .list ds ∨ d = .tuple ds)) (hg : TgOk K g vs (wipeΓ Γ vs) (· ∈ ds) N) (he : ∀ d, d ∈ ds → EvD K te (N d) (· = .bool (f d))) :
    EvD K (tCB (rAll K) (tCons (tLc (iSeq K tl) g tYes te vs) tNil)) Γ (· = .bool (ds.all f)) := by
  refine (ev_all (bs := ds.map f) ((ev_lcF (f := fun d => .bool (f d)) hn hi hg he).imp fun d e => by rw [e, List.map_map]; rfl)).imp fun d e => ?_
  rw [e, List.all_map]
  rfl
def datsOf : List Sl → List PyData
  | .dat d :: r => d :: datsOf r
  | _ => []
theorem args_dats {G : Fr} {H : Hp} : ∀ {vs : List V} {ds : List PyData}, ArgsOk K G H vs (ds.map .dat) → DqAll K (G.view H) vs ds
  | _, [], .nil => .nil
  | _, _ :: _, .cons h t => .cons h (args_dats t)
/-- arguments that are data -/
def EvL' (K : PySem.W.Frag) (ta : TA) (Γ : List Sl) (P : List PyData → Prop) : Prop := EvS K ta Γ fun ss => ∃ ds, ss = ds.map .dat ∧ P ds
theorem el_nil : EvL' K tNil Γ (· = []) := fun G σ H e i Q q => q [] [] H i .refl ⟨[], rfl, rfl⟩ .nil
theorem el_cons {PL : List PyData → Prop} (h : EvD K te Γ P) (t : EvL' K ta Γ PL) : EvL' K (tCons te ta) Γ (fun ds => ∃ d r, ds = d :: r ∧ P d ∧ PL r) := fun G σ H e i Q q =>
  es_cons h t G σ H e i Q fun vs ss H' i' l' ⟨d, r, e1, p1, ds, e2, p2⟩ dqs => q vs ss H' i' l' ⟨d :: ds, by rw [e1, e2]; rfl, d, ds, rfl, p1, p2⟩ dqs
theorem ev_tup {PL : List PyData → Prop} (h : EvL' K ta Γ PL) (hn : ∀ ds, PL ds → ds.length ≤ 100000) : EvD K (tTup ta) Γ (fun d => ∃ ds, d = .tuple ds ∧ PL ds) := fun G σ H e i Q q =>
  h G σ H e i _ fun vs ss H1 i1 l1 ⟨ds, e1, p1⟩ dqs => by
    subst e1
    have dqs := args_dats dqs
    refine ⟨by rw [dqs.length, sizeLine_eq]; have := hn ds p1; omega, fun p hp => ?_⟩
    obtain ⟨i2, l2, h2⟩ := Fr.new (o := HO.tup vs) i1 hp
    exact q _ _ _ i2 (l1.trans l2) ⟨ds, rfl, p1⟩ (.tup (.inl (.inl h2)) (dqs.ex l2))
theorem ev_lst {PL : List PyData → Prop} (h : EvL' K ta Γ PL) (hn : ∀ ds, PL ds → ds.length ≤ 100000) : EvD K (tLst ta) Γ (fun d => ∃ ds, d = .list ds ∧ PL ds) := fun G σ H e i Q q =>
  h G σ H e i _ fun vs ss H1 i1 l1 ⟨ds, e1, p1⟩ dqs => by
    subst e1
    have dqs := args_dats dqs
    refine ⟨by rw [dqs.length, sizeLine_eq]; have := hn ds p1; omega, fun p hp => ?_⟩
    obtain ⟨i2, l2, h2⟩ := Fr.new (o := HO.lst vs) i1 hp
    exact q _ _ _ i2 (l1.trans l2) ⟨ds, rfl, p1⟩ (.lst (.inl (.inl h2)) (dqs.ex l2))
theorem ev_ixT {ds : List PyData} {n : Nat} {d : PyData} (h : EvD K te Γ (· = .tuple ds)) (h2 : EvD K tb Γ (· = .int n)) (hd : ds[n]? = some d) : EvD K (tOp (rIxT K) te tb) Γ (· = d) := fun G σ H e i Q q =>
  h G σ H e i _ fun v d1 H1 i1 l1 p1 dq => h2 G σ H1 (e.le l1) i1 _ fun v2 d2 H2 i2 l2 p2 dq2 => by
    subst p1; subst p2
    cases dq2
    cases dq with
    | tup hs ha =>
      obtain ⟨x, hx, dx⟩ := ha.get' hd
      exact ⟨_, _, _, x, rfl, rfl, Fr.upT (exT l2 hs), atI_nat hx, q _ _ H2 i2 (l1.trans l2) rfl (dx.ex l2)⟩
theorem ev_ixL {ds : List PyData} {n : Nat} {d : PyData} (h : EvD K te Γ (· = .list ds)) (h2 : EvD K tb Γ (· = .int n)) (hd : ds[n]? = some d) : EvD K (tOp (rIxL K) te tb) Γ (· = d) := fun G σ H e i Q q =>
  h G σ H e i _ fun v d1 H1 i1 l1 p1 dq => h2 G σ H1 (e.le l1) i1 _ fun v2 d2 H2 i2 l2 p2 dq2 => by
    subst p1; subst p2
    cases dq2
    cases dq with
    | lst hs ha =>
      obtain ⟨x, hx, dx⟩ := ha.get' hd
      exact ⟨_, _, _, x, rfl, rfl, Fr.upL (exL l2 hs), atI_nat hx, q _ _ H2 i2 (l1.trans l2) rfl (dx.ex l2)⟩
/-- tuple(x) -/
theorem ev_tupleOf {ds : List PyData} (h : EvD K te Γ (fun d => d = .list ds ∨ d = .tuple ds)) : EvD K (tThen te (kTup K)) Γ (· = .tuple ds) := fun G σ H e i Q q =>
  h G σ H e i _ fun v d1 H1 i1 l1 p1 dq => by
    rcases p1 with rfl | rfl
    · cases dq with
      | lst hs ha =>
        refine .inl ⟨_, _, rfl, Fr.upL hs, fun p hp => ?_⟩
        obtain ⟨i2, l2, h2⟩ := Fr.new (o := HO.tup _) i1 hp
        exact q _ _ _ i2 (l1.trans l2) rfl (.tup (.inl (.inl h2)) (ha.ex l2))
    · cases dq with
      | tup hs ha => exact .inr ⟨_, _, rfl, Fr.upT hs, q _ _ H1 i1 l1 rfl (.tup hs ha)⟩
theorem el_list {ds : List PyData} (h : EvD K te Γ (· = .list ds)) : EvD K te Γ (fun d => d = .list ds ∨ d = .tuple ds) := h.imp fun d e => .inl e
theorem el_tuple {ds : List PyData} (h : EvD K te Γ (· = .tuple ds)) : EvD K te Γ (fun d => d = .list ds ∨ d = .tuple ds) := h.imp fun d e => .inr e
theorem argsOf {G : Fr} {H : Hp} : ∀ {vs : List V} {ds : List PyData}, DqAll K (G.view H) vs ds → ArgsOk K G H vs (ds.map .dat)
  | _, _, .nil => .nil
  | _, _, .cons h t => .cons h (argsOf t)
/-- the promise of a def whose answer is told by its data -/
def spD (K : PySem.W.Frag) (pre : List PyData → Prop) (f : List PyData → PyData) : Sp := fun vs H Q _ => ∃ (G : Fr) (ds : List PyData), G.inv H ∧ DqAll K (G.view H) vs ds ∧ pre ds ∧ ∀ v H', G.inv H' → G.le H H' → Dq K (G.view H') v (f ds) → Q v H'
theorem elc {d : PyData} {ds : List PyData} (h : EvD K te Γ (· = d)) (t : EvL' K ta Γ (· = ds)) : EvL' K (tCons te ta) Γ (· = d :: ds) := fun G σ H e i Q q =>
  el_cons h t G σ H e i Q fun vs ss H' i' l' ⟨es, e1, d', r, e2, e3, e4⟩ dqs => q vs ss H' i' l' ⟨es, e1, by rw [e2, e3, e4]⟩ dqs
theorem ev_callD {pre : List PyData → Prop} {f : List PyData → PyData} {E : XK} {ds : List PyData} (h : EvL' K ta Γ (· = ds)) (hp : pre ds) : EvD K (tCall (spD K pre f) [] E ta) Γ (· = f ds) := fun G σ H e i Q q =>
  h G σ H e i _ fun vs ss H1 i1 l1 ⟨es, e1, e2⟩ dqs => by
    subst e2; subst e1
    rw [List.append_nil]
    exact ⟨G, es, i1, args_dats dqs, hp, fun v H' i' l' dq => q v _ H' i' (l1.trans l') rfl dq⟩
theorem ev_call1 {pre : List PyData → Prop} {f : List PyData → PyData} {E : XK} {d : PyData} (ds : List PyData) (h : EvL' K ta Γ (· = ds)) (hp : pre ds) (he : f ds = d) : EvD K (tCall (spD K pre f) [] E ta) Γ (· = d) := he ▸ ev_callD h hp
theorem ev_b {b c : Bool} (h : EvD K te Γ (· = .bool b)) (e : b = c) : EvD K te Γ (· = .bool c) := e ▸ h
theorem ev_eq {d e : PyData} (h : EvD K te Γ (· = d)) (he : d = e) : EvD K te Γ (· = e) := he ▸ h
theorem ev_notB {b : Bool} (h : EvD K te Γ (· = .bool b)) : EvD K (tNotV te) Γ (· = .bool (!b)) := (ev_not (f := fun _ _ => True) h fun d e => ⟨b, e⟩).imp fun d ⟨c, e1, e2⟩ => by
  injection e1 with e1
  rw [e2, e1]
theorem ev_opI1 {a b : Int} {c : Int → Int → Prop} {f : Int → Int → V} {g' : Int → Int → PyData} (hg : ∀ i j H, Dq K H (f i j) (g' i j)) (h1 : EvD K te Γ (· = .int a)) (h2 : EvD K tb Γ (· = .int b)) (hc : c a b) : EvD K (tOp (rI c f) te tb) Γ (· = g' a b) :=
  (ev_opI hg (ev_is h1) (ev_is h2) fun i j e1 e2 => by rw [e1, e2]; exact hc).imp fun d ⟨i, j, e1, e2, e3⟩ => by rw [e3, e1, e2]
theorem ev_opC1 {a b : Int} {f : Int → Int → V} {g' : Int → Int → PyData} (hg : ∀ i j H, Dq K H (f i j) (g' i j)) (h1 : EvD K te Γ (· = .int a)) (h2 : EvD K tb Γ (· = .int b)) : EvD K (tOp (rI0 f) te tb) Γ (· = g' a b) :=
  (ev_opC hg (ev_is h1) (ev_is h2)).imp fun d ⟨i, j, e1, e2, e3⟩ => by rw [e3, e1, e2]
theorem ev_neg {a : Int} (h : EvD K te Γ (· = .int a)) : EvD K (tUn (rU fun i => V.int (-i)) te) Γ (· = .int (-a)) := fun G σ H e i Q q =>
  h G σ H e i _ fun v d H1 i1 l1 p1 dq => by
    subst p1
    cases dq
    exact ⟨a, rfl, q _ _ H1 i1 l1 rfl (.int _)⟩
/-- a body that is one expression -/
theorem done {G : Fr} {H : Hp} {vs : List V} {ds : List PyData} {Q : VK} {d : PyData} (n : Nat) (h : EvD K te (ds.map .dat ++ List.replicate n .any) (· = d)) (iv : G.inv H) (a : DqAll K (G.view H) vs ds) (k : ∀ v H', G.inv H' → G.le H H' → Dq K (G.view H') v d → Q v H') : te (vs.map some ++ List.replicate n none) H Q :=
  h G _ H (envOk_of n (argsOf a)) iv Q fun v e H' i' l' p' dq => k v H' i' l' (p' ▸ dq)
theorem doneR {G : Fr} {H : Hp} {vs : List V} {ds : List PyData} {D : Ends} {d : PyData} {N : List Str} (n : Nat) (hs : L2.start N vs = vs.map some ++ List.replicate n none) (h : EvD K te (ds.map .dat ++ List.replicate n .any) (· = d)) (iv : G.inv H) (a : DqAll K (G.view H) vs ds) (k : ∀ v H', G.inv H' → G.le H H' → Dq K (G.view H') v d → D.rt v H') : tRet te D (L2.start N vs) H := by
  rw [hs]
  exact done n h iv a k
theorem envStart {G : Fr} {H : Hp} {vs : List V} {ds : List PyData} {N : List Str} (n : Nat) (hs : L2.start N vs = vs.map some ++ List.replicate n none) (a : DqAll K (G.view H) vs ds) : EnvOk K G H (L2.start N vs) (ds.map .dat ++ List.replicate n .any) := by
  rw [hs]
  exact envOk_of n (argsOf a)
theorem len1 {H : Hp} {vs : List V} {ds : List PyData} {ps : List Str} (a : DqAll K H vs ds) (h : ds.length = ps.length) : vs.length = ps.length := a.length.trans h
end
end L2

set_option Elab.async false
set_option linter.all false
set_option maxRecDepth 100000
set_option maxHeartbeats 4000000
namespace L2
open PySem PySem.Spec PyProof.Rows
open Evl (Ex)
/-- a dict of texts -/
def dictD (m : List (Str × PyData)) : PyData := .dict (m.map fun p => (.str p.1, p.2))
section
variable {K : PySem.W.Frag} {Γ : List Sl} {te tb tc tl td ty : TE} {ta : TA} {wi : TI} {g : TG}
theorem kD_str {k : Key} {s : Str} (h : kD k = .str s) : k = .inr s := by
  cases k with
  | inl i => cases h
  | inr t => injection h with h; rw [h]
theorem kvq_get {H : Hp} (s : Str) : ∀ {kvs : List (Key × V)} {m : List (Str × PyData)}, DqKv K H kvs (m.map fun p => (.str p.1, p.2)) → (m.lookup s = none → valV kvs (.inr s) = none) ∧ ∀ d, m.lookup s = some d → ∃ v, valV kvs (.inr s) = some v ∧ Dq K H v d
  | [], [], .nil => ⟨fun _ => rfl, fun d h => by cases h⟩
  | (k, v) :: kvs, (t, d) :: m, h => by
    generalize hd : (List.map (fun p : Str × PyData => (PyData.str p.1, p.2)) ((t, d) :: m)) = z at h
    cases h with
    | cons h1 h2 =>
      rw [List.map_cons] at hd
      injection hd with e1 e2
      injection e1 with e3 e4
      simp only at e3 e4
      subst e4
      subst e2
      have hk := kD_str e3.symm
      subst hk
      have ih := kvq_get s h2
      unfold valV
      rw [List.lookup_cons, List.find?_cons]
      by_cases e : s = t
      · subst e
        have e5 : (s == s) = true := beq_self_eq_true s
        have e6 : decide ((Sum.inr s : Key) = Sum.inr s) = true := decide_eq_true rfl
        rw [e5]
        refine ⟨fun z => (by cases z), fun d' hd' => ⟨v, ?_, by cases hd'; exact h1⟩⟩
        simp only [e6]
        rfl
      · have e5 : (s == t) = false := beq_eq_false_iff_ne.mpr e
        have e6 : decide ((Sum.inr t : Key) = Sum.inr s) = false := decide_eq_false fun z => e (by injection z with z; exact z.symm)
        rw [e5]
        simp only [e6]
        exact ih
theorem ev_din {s : Str} {m : List (Str × PyData)} (h : EvD K ty Γ (· = .str s)) (h2 : EvD K td Γ (· = dictD m)) : EvD K (tDIn ty td) Γ (· = .bool (m.lookup s).isSome) := fun G σ H e i Q q =>
  h G σ H e i _ fun v d1 H1 i1 l1 p1 dq => h2 G σ H1 (e.le l1) i1 _ fun v2 d2 H2 i2 l2 p2 dq2 => by
    subst p1; subst p2
    cases dq
    generalize hz : dictD m = z at dq2
    cases dq2 <;> first | (unfold dictD at hz; cases hz; done) | skip
    rename_i a kvs ks hd hk
    unfold dictD at hz
    injection hz with hz
    subst hz
    have kg := kvq_get s hk
    refine ⟨a, _, rfl, DGet.k (k := Sum.inr s) (G.sub hd), q _ _ H2 i2 (l1.trans l2) ?_ (.bl _)⟩
    cases e : m.lookup s with
    | none => rw [kg.1 e]; rfl
    | some d => obtain ⟨x, hx, _⟩ := kg.2 d e; rw [hx]; rfl
theorem ev_dget {s : Str} {m : List (Str × PyData)} {d : PyData} (h : EvD K td Γ (· = dictD m)) (h2 : EvD K ty Γ (· = .str s)) (hm : m.lookup s = some d) : EvD K (tDGet td ty) Γ (· = d) := fun G σ H e i Q q =>
  h G σ H e i _ fun v d1 H1 i1 l1 p1 dq => h2 G σ H1 (e.le l1) i1 _ fun v2 d2 H2 i2 l2 p2 dq2 => by
    subst p1; subst p2
    cases dq2
    generalize hz : dictD m = z at dq
    cases dq <;> first | (unfold dictD at hz; cases hz; done) | skip
    rename_i a kvs ks hd hk
    unfold dictD at hz
    injection hz with hz
    subst hz
    obtain ⟨x, hx, dx⟩ := (kvq_get s hk).2 d hm
    have hd2 := l2 _ _ hd
    exact ⟨a, x, rfl, by have := DGet.k (k := Sum.inr s) (G.sub hd2); rw [hx] at this; exact this, q _ _ H2 i2 (l1.trans l2) rfl (dx.ex l2)⟩
/-- sign in a text -/
theorem ev_inStr {s t : Str} (h : EvD K te Γ (· = .str s)) (h2 : EvD K tb Γ (· = .str t)) : EvD K (tOp (fun x y H Q => ∃ i j, x = V.str i ∧ y = V.str j ∧ Q (V.bl (!(Builtin.Str.occurrences j i 0 j.length 1).isEmpty)) H) te tb) Γ (· = .bool (!(Builtin.Str.occurrences t s 0 t.length 1).isEmpty)) := fun G σ H e i Q q =>
  h G σ H e i _ fun v d1 H1 i1 l1 p1 dq => h2 G σ H1 (e.le l1) i1 _ fun v2 d2 H2 i2 l2 p2 dq2 => by
    subst p1; subst p2
    cases dq; cases dq2
    exact ⟨s, t, rfl, rfl, q _ _ H2 i2 (l1.trans l2) rfl (.bl _)⟩
theorem ev_lcS {x : Str} {f : Str → Bool} {vs : List Nat} {N : PyData → List Sl} (hn : x.cps.size < 100000) (hi : EvD K tl Γ (· = .str x)) (hg : TgOk K g vs (wipeΓ Γ vs) (fun d => ∃ c, d = .str ⟨#[c]⟩) N) (he : ∀ c, EvD K te (N (.str ⟨#[c]⟩)) (· = .bool (f ⟨#[c]⟩))) :
    EvD K (tCB (rAll K) (tCons (tLc (iStr tl) g tYes te vs) tNil)) Γ (· = .bool (x.cps.toList.all fun c => f ⟨#[c]⟩)) := by
  have h := ev_lc (R := fun _ d e => ∃ c, d = .str ⟨#[c]⟩ ∧ e = .bool (f ⟨#[c]⟩)) (fun n e => by rw [e]; exact hn) (ei_str hi) (fun i G σ H y d ev iv ⟨c, _, e⟩ => hg G σ H y d ev iv ⟨c, e⟩) fun i d ⟨c, hc, e⟩ => by
    subst e
    exact (he c).imp fun d e => ⟨c, rfl, e⟩
  refine (ev_all (bs := x.cps.toList.map fun c => f ⟨#[c]⟩) (h.imp ?_)).imp fun d e => ?_
  · rintro _ ⟨es, rfl, hl, hR⟩
    refine congrArg PyData.list (List.ext_getElem? fun i => ?_)
    rw [List.map_map, List.getElem?_map]
    by_cases hlt : i < es.length
    · obtain ⟨d, ⟨c, h1, h2⟩, c', h3, h4⟩ := hR i _ (List.getElem?_eq_getElem hlt)
      rw [h2] at h3
      have : c = c' := by
        injection h3 with h3
        injection h3 with h3
        simpa using h3
      subst this
      rw [show x.cps.toList[i]? = some c by rw [Array.getElem?_toList]; exact h1, List.getElem?_eq_getElem hlt, h4]
      rfl
    · rw [List.getElem?_eq_none (by omega), List.getElem?_eq_none (by rw [Array.length_toList]; omega)]
      rfl
  · rw [e, List.all_map]
    rfl
end
end L2

set_option Elab.async false
set_option linter.all false
set_option maxRecDepth 100000
set_option maxHeartbeats 4000000
namespace L2
open PySem PySem.Spec PyProof.Rows
open Evl (Ex)
/-- a block that returns d -/
def Rets (K : PySem.W.Frag) (ts : TS) (Γ : List Sl) (P : PyData → Prop) : Prop := ∀ (G : Fr) (σ : L2.St) (H : Hp) (D : Ends), EnvOk K G H σ Γ → G.inv H → (∀ v d H', G.inv H' → G.le H H' → P d → Dq K (G.view H') v d → D.rt v H') → ts D σ H
section
variable {K : PySem.W.Frag} {Γ Γ' : List Sl} {te tb tc tl td ty : TE} {ta : TA} {wi : TI} {g : TG} {gs : TGs} {ts tu ts2 : TS} {tt : TT} {P P' : PyData → Prop} {PL : List PyData → Prop}
theorem rs_ret (h : EvD K te Γ P) : Rets K (tRet te) Γ P := fun G σ H D ev iv k => h G σ H ev iv _ k
theorem rs_if (b : Bool) (h : EvB K tt Γ (· = b)) (h1 : b = true → Rets K ts Γ P) (h2 : b = false → Rets K tu Γ P) : Rets K (tSeq (tIfS tt ts tNext) tu) Γ P := fun G σ H D ev iv k =>
  h G σ H ev iv _ fun c H1 iv1 l1 e => by
    subst e
    cases c with
    | true => exact h1 rfl G σ H1 _ (ev.le l1) iv1 fun v d H2 iv2 l2 p dq => k v d H2 iv2 (l1.trans l2) p dq
    | false => exact h2 rfl G σ H1 _ (ev.le l1) iv1 fun v d H2 iv2 l2 p dq => k v d H2 iv2 (l1.trans l2) p dq
theorem rs_set {i : Nat} (hi : i < Γ.length) (h : EvD K te Γ P') (h2 : ∀ d, P' d → Rets K tu (Γ.set i (.dat d)) P) : Rets K (tSeq (tAsg te (gName i)) tu) Γ P := fun G σ H D ev iv k =>
  h G σ H ev iv _ fun v d H1 iv1 l1 p dq => h2 d p G _ H1 _ ((ev.le l1).set hi dq) iv1 fun v d H2 iv2 l2 p dq => k v d H2 iv2 (l1.trans l2) p dq
theorem rs_asg {vs : List Nat} {N : PyData → List Sl} (h : EvD K te Γ P') (hg : TgOk K g vs Γ P' N) (h2 : ∀ d, P' d → Rets K tu (N d) P) : Rets K (tSeq (tAsg te g) tu) Γ P := fun G σ H D ev iv k =>
  h G σ H ev iv _ fun v d H1 iv1 l1 p dq => hg G σ H1 v d (ev.le l1) iv1 p dq _ fun σ2 _ _ ev2 => h2 d p G σ2 H1 _ ev2 iv1 fun v d H2 iv2 l2 p dq => k v d H2 iv2 (l1.trans l2) p dq
theorem Rets.imp (h : Rets K ts Γ P) (hp : ∀ d, P d → P' d) : Rets K ts Γ P' := fun G σ H D ev iv k => h G σ H D ev iv fun v d H' i l p dq => k v d H' i l (hp d p) dq
theorem doneS {G : Fr} {H : Hp} {vs : List V} {ds : List PyData} {D : Ends} {d : PyData} {N : List Str} (n : Nat) (hs : L2.start N vs = vs.map some ++ List.replicate n none) (h : Rets K ts (ds.map .dat ++ List.replicate n .any) (· = d)) (iv : G.inv H) (a : DqAll K (G.view H) vs ds) (k : ∀ v H', G.inv H' → G.le H H' → Dq K (G.view H') v d → D.rt v H') : ts D (L2.start N vs) H :=
  h G _ H D (envStart n hs a) iv fun v e H' i l p dq => k v H' i l (p ▸ dq)
theorem tgs_nil : TgsOk K gNil [] Γ (· = []) (fun _ => Γ) := fun G σ H xs ds ev iv pd dq Q q => by
  subst pd
  cases dq
  exact ⟨rfl, q σ rfl (fun _ _ => rfl) ev⟩
theorem tgs_cons {us vs : List Nat} {d : PyData} {ds : List PyData} {N : PyData → List Sl} {N2 : List PyData → List Sl} (h : TgOk K g us Γ (· = d) N) (h2 : TgsOk K gs vs (N d) (· = ds) N2) : TgsOk K (gCons g gs) (us ++ vs) Γ (· = d :: ds) (fun _ => N2 ds) := fun G σ H xs es ev iv pd dq Q q => by
  subst pd
  cases dq with
  | cons h1 t1 =>
    refine ⟨_, _, rfl, h G σ H _ d ev iv rfl h1 _ fun σ2 a b c => h2 G σ2 H _ ds c iv rfl t1 _ fun σ3 a3 b3 c3 => q σ3 (a3.trans a) (fun i hi => ?_) c3⟩
    rw [b3 i fun z => hi (List.mem_append_right _ z), b i fun z => hi (List.mem_append_left _ z)]
theorem tg_tup {n : Nat} {vs : List Nat} {ds : List PyData} {N : List PyData → List Sl} (hn : ds.length = n) (h : TgsOk K gs vs Γ (· = ds) N) : TgOk K (gTup K n gs) vs Γ (· = .tuple ds) (fun _ => N ds) := fun G σ H x d ev iv pd dq Q q => by
  subst pd
  cases dq with
  | tup hs ha => exact ⟨_, _, rfl, Fr.upT hs, ha.length.trans hn, h G σ H _ ds ev iv rfl ha Q q⟩
theorem tg_name1 {j : Nat} {d : PyData} (hj : j < Γ.length) : TgOk K (gName j) [j] Γ (· = d) (fun _ => Γ.set j (.dat d)) := fun G σ H x e ev iv pd dq Q q => by
  subst pd
  exact tg_name (P := fun _ => True) hj G σ H x e ev iv trivial dq Q q
/-- zip of a tuple and a list of the same length -/
theorem e0_zipM {ds es : List PyData} (h : EvL' K ta Γ (· = [.tuple ds, .list es])) (hl : ds.length = es.length) : EvI0 K (iZipM K ta) Γ (· = ds.length) (fun i d => ∃ a b, ds[i]? = some a ∧ es[i]? = some b ∧ d = .tuple [a, b]) := fun G σ H ev iv R q =>
  h G σ H ev iv _ fun vs ss H1 iv1 l1 ⟨zs, e1, e2⟩ dqs => by
    subst e2; subst e1
    have dqs := args_dats dqs
    cases dqs with
    | cons h1 t1 =>
      cases t1 with
      | cons h2 t2 =>
        cases t2
        cases h1 with
        | tup hs ha =>
          cases h2 with
          | lst hs2 ha2 =>
            refine ⟨_, _, _, _, rfl, Fr.upT hs, Fr.upL hs2, q ds.length _ H1 rfl iv1 l1 fun G' H2 e iv2 => ⟨fun i hi => ?_, _, _, Fr.upT (exT e hs), Fr.upL (exL e hs2), ha.length, ha2.length.trans hl.symm⟩⟩
            obtain ⟨x, hx, dx⟩ := ha.get' (List.getElem?_eq_getElem hi)
            obtain ⟨y, hy, dy⟩ := ha2.get' (List.getElem?_eq_getElem (by omega : i < es.length))
            refine ⟨⟨_, _, x, y, Fr.upT (exT e hs), Fr.upL (exL e hs2), by rw [ha.length, ha2.length, hl], hx, hy⟩, fun v H3 ⟨T, x', y', e1, hT, e2, hx', hy'⟩ => ?_⟩
            subst e1; subst e2
            have := hx' _ (Fr.upT (exT e hs))
            rw [hx] at this
            cases this
            have := hy' _ (Fr.upL (exL e hs2))
            rw [hy] at this
            cases this
            obtain ⟨i3, l3, h3⟩ := Fr.new (o := HO.tup [x, y]) iv2 hT
            exact ⟨i3, l3, _, ⟨_, _, List.getElem?_eq_getElem hi, List.getElem?_eq_getElem (by omega), rfl⟩, .tup (.inl (.inl h3)) (.cons ((dx.ex e).ex l3) (.cons ((dy.ex e).ex l3) .nil))⟩
theorem ei_zipM {ds es : List PyData} (h : EvL' K ta Γ (· = [.tuple ds, .list es])) (hl : ds.length = es.length) : EvI K (iZipM K ta) Γ (· = ds.length) (fun i d => ∃ a b, ds[i]? = some a ∧ es[i]? = some b ∧ d = .tuple [a, b]) := (e0_zipM h hl).toI
/-- targets of two and three names -/
def NP (Γ : List Sl) (j k : Nat) : PyData → List Sl
  | .tuple [a, b] => (Γ.set j (.dat a)).set k (.dat b)
  | _ => Γ
def NT (Γ : List Sl) (j k l : Nat) : PyData → List Sl
  | .tuple [a, b, c] => ((Γ.set j (.dat a)).set k (.dat b)).set l (.dat c)
  | _ => Γ
theorem tg_pair {j k : Nat} (hj : j < Γ.length) (hk : k < Γ.length) {Pq : PyData → PyData → Prop} : TgOk K (gTup K 2 (gCons (gName j) (gCons (gName k) gNil))) [j, k] Γ (fun d => ∃ a b, d = .tuple [a, b] ∧ Pq a b) (NP Γ j k) := fun G σ H x d ev iv ⟨a, b, e, _⟩ dq Q q => by
  subst e
  exact tg_tup (ds := [a, b]) rfl (tgs_cons (tg_name1 hj) (tgs_cons (tg_name1 (by rw [List.length_set]; exact hk)) tgs_nil)) G σ H x _ ev iv rfl dq Q q
theorem tg_triple {j k l : Nat} (hj : j < Γ.length) (hk : k < Γ.length) (hl : l < Γ.length) {Pq : PyData → Prop} : TgOk K (gTup K 3 (gCons (gName j) (gCons (gName k) (gCons (gName l) gNil)))) [j, k, l] Γ (fun d => ∃ a b c, d = .tuple [a, b, c] ∧ Pq (.tuple [a, b, c])) (NT Γ j k l) := fun G σ H x d ev iv ⟨a, b, c, e, _⟩ dq Q q => by
  subst e
  exact tg_tup (ds := [a, b, c]) rfl (tgs_cons (tg_name1 hj) (tgs_cons (tg_name1 (by rw [List.length_set]; exact hk)) (tgs_cons (tg_name1 (by rw [List.length_set, List.length_set]; exact hl)) tgs_nil))) G σ H x _ ev iv rfl dq Q q
/-- all([f(x, y) for x, y in zip(t, l)]) -/
theorem ev_allZ {ds es : List PyData} {f : PyData → PyData → Bool} {j k : Nat} (hn : ds.length < 100000) (h : EvL' K ta Γ (· = [.tuple ds, .list es])) (hl : ds.length = es.length) (hj : j < (wipeΓ Γ [j, k]).length) (hk : k < (wipeΓ Γ [j, k]).length)
    (he : ∀ a b, b ∈ es → EvD K te (((wipeΓ Γ [j, k]).set j (.dat a)).set k (.dat b)) (· = .bool (f a b))) :
    EvD K (tCB (rAll K) (tCons (tLc (iZipM K ta) (gTup K 2 (gCons (gName j) (gCons (gName k) gNil))) tYes te [j, k]) tNil)) Γ (· = .bool ((ds.zip es).all fun q => f q.1 q.2)) := by
  have hh := ev_lc (te := te) (g := gTup K 2 (gCons (gName j) (gCons (gName k) gNil))) (vs := [j, k]) (R := fun _ d e => ∀ a b, d = .tuple [a, b] → e = .bool (f a b)) (fun n e => by rw [e]; exact hn) (ei_zipM h hl)
    (fun i G σ H y d ev iv ⟨a, b, h1, h2, h3⟩ => tg_pair (Pq := fun _ _ => True) hj hk G σ H y d ev iv ⟨a, b, h3, trivial⟩) (fun i d ⟨a, b, h1, h2, h3⟩ => by
      subst h3
      exact (he a b (List.mem_of_getElem? h2)).imp fun e he a' b' q => by
        injection q with q
        injection q with q1 q2
        injection q2 with q2
        rw [he, q1, q2])
  refine (ev_all (bs := (ds.zip es).map fun q => f q.1 q.2) (hh.imp ?_)).imp fun d e => ?_
  · rintro _ ⟨zs, rfl, hlz, hR⟩
    refine congrArg PyData.list (List.ext_getElem? fun i => ?_)
    rw [List.map_map, List.getElem?_map]
    by_cases hlt : i < zs.length
    · obtain ⟨d, ⟨a, b, h1, h2, h3⟩, h4⟩ := hR i _ (List.getElem?_eq_getElem hlt)
      rw [List.getElem?_eq_getElem hlt, h4 a b h3, show (ds.zip es)[i]? = some (a, b) from List.getElem?_zip_eq_some.mpr ⟨h1, h2⟩]
      rfl
    · rw [List.getElem?_eq_none (by omega), List.getElem?_eq_none (by rw [List.length_zip]; omega)]
      rfl
  · rw [e, List.all_map]
    rfl
theorem ev_tupE (ds : List PyData) (h : EvL' K ta Γ (· = ds)) (hn : ds.length ≤ 100000 := by exact Nat.le_of_ble_eq_true rfl) : EvD K (tTup ta) Γ (· = .tuple ds) :=
  (ev_tup h fun es e => by rw [e]; exact hn).imp fun d ⟨es, e1, e2⟩ => by rw [e1, e2]
theorem ev_lstE (ds : List PyData) (h : EvL' K ta Γ (· = ds)) (hn : ds.length ≤ 100000 := by exact Nat.le_of_ble_eq_true rfl) : EvD K (tLst ta) Γ (· = .list ds) :=
  (ev_lst h fun es e => by rw [e]; exact hn).imp fun d ⟨es, e1, e2⟩ => by rw [e1, e2]
end
end L2

set_option Elab.async false
set_option linter.all false
set_option maxRecDepth 100000
set_option maxHeartbeats 4000000
namespace L2
open PySem PySem.Spec PyProof.Rows
open Evl (Ex)
section
variable {K : PySem.W.Frag} {Γ Γ' : List Sl} {te tb tc tl td ty tv : TE} {ta : TA} {wi : TI} {g : TG} {gs : TGs} {ts tu ts2 : TS} {tt : TT} {P P' : PyData → Prop} {PL : List PyData → Prop}
/-! ### dicts that are kept aside -/
theorem ev_dinO {s : Str} {m : List (Str × PyData)} {i : Nat} (h : EvD K ty Γ (· = .str s)) (hi : Γ[i]? = some (.odic m)) : EvD K (tDIn ty (tVar i)) Γ (· = .bool (m.lookup s).isSome) := fun G σ H e iv Q q =>
  h G σ H e iv _ fun v d1 H1 i1 l1 p1 dq => by
    subst p1
    cases dq
    rcases (e.le l1).2 i _ hi with z | ⟨x, hx, a, kvs, ex, h1, h2⟩
    · cases z
    · subst ex
      have kg := kvq_get s h2
      refine ⟨_, hx, a, _, rfl, DGet.k (k := Sum.inr s) (h1 H1 i1), q _ _ H1 i1 l1 ?_ (.bl _)⟩
      cases e : m.lookup s with
      | none => rw [kg.1 e]; rfl
      | some d => obtain ⟨x, hx, _⟩ := kg.2 d e; rw [hx]; rfl
theorem ev_dgetF {s : Str} {m : List (Str × PyData)} {i : Nat} {d : PyData} (hi : Γ[i]? = some (.fdic m)) (h : EvD K ty Γ (· = .str s)) (hm : m.lookup s = some d) : EvD K (tDGet (tVar i) ty) Γ (· = d) := fun G σ H e iv Q q => by
  rcases e.2 i _ hi with z | ⟨x, hx, a, o, kvs, ex, h1, h2⟩
  · cases z
  · subst ex
    refine ⟨_, hx, h G σ H e iv _ fun v d1 H1 i1 l1 p1 dq => ?_⟩
    subst p1
    cases dq
    obtain ⟨x, hx, dx⟩ := (kvq_get s (h2.ex l1)).2 d hm
    refine ⟨a, x, rfl, .inl ⟨kvs, .inr s, .inr ⟨o, h1 H1 i1⟩, rfl, hx.symm⟩, q _ _ H1 i1 l1 rfl dx⟩
theorem DqKv.keys {H : Hp} : ∀ {kvs : List (Key × V)} {m : List (Str × PyData)}, DqKv K H kvs (m.map fun p => (.str p.1, p.2)) → kvs.length = m.length ∧ ∀ (i : Nat) (k : Key) (v : V), kvs[i]? = some (k, v) → ∃ p : Str × PyData, m[i]? = some p ∧ k = Sum.inr p.1
  | [], [], .nil => ⟨rfl, fun i k v h => by simp at h⟩
  | (k, v) :: kvs, (t, d) :: m, h => by
    generalize hd : (List.map (fun p : Str × PyData => (PyData.str p.1, p.2)) ((t, d) :: m)) = z at h
    cases h with
    | cons h1 h2 =>
      rw [List.map_cons] at hd
      injection hd with e1 e2
      injection e1 with e3 e4
      simp only at e3 e4
      subst e4
      subst e2
      have hk := kD_str e3.symm
      subst hk
      have ih := DqKv.keys h2
      refine ⟨congrArg (· + 1) ih.1, fun i k' v' h => ?_⟩
      cases i with
      | zero =>
        simp at h
        exact ⟨_, rfl, h.1.symm⟩
      | succ i => exact ih.2 i k' v' (by simpa using h)
theorem ei_keys {m : List (Str × PyData)} {i : Nat} (hi : Γ[i]? = some (.fdic m)) : EvI K (iKeys (tVar i)) Γ (· = m.length) (fun j d => ∃ p, m[j]? = some p ∧ d = .str p.1) := fun G σ H e iv R q => by
  rcases e.2 i _ hi with z | ⟨x, hx, a, o, kvs, ex, h1, h2⟩
  · cases z
  · subst ex
    have hk := DqKv.keys h2
    refine ⟨_, hx, a, o, rfl, .inl ⟨kvs, h1 H iv, q m.length _ H rfl iv .refl fun G' H2 hG e2 iv2 => ⟨fun j hj => ⟨⟨h1 H2 (hG H2 iv2), by rw [hk.1]; exact hj⟩, fun y H3 ⟨e3, k, v, hkv, ey⟩ => ?_⟩, h1 H2 (hG H2 iv2), by rw [hk.1] <;> exact Nat.le_refl _⟩⟩⟩
    obtain ⟨p, hp, rfl⟩ := hk.2 j k v hkv
    subst e3; subst ey
    exact ⟨iv2, .refl, _, ⟨p, hp, rfl⟩, .str _⟩
end
end L2

set_option Elab.async false
set_option linter.all false
set_option maxRecDepth 100000
set_option maxHeartbeats 4000000
namespace L2
open PySem PySem.Spec PyProof.Rows
open Evl (Ex)
/-- a block that ends by found[s] = v, found being kept aside as kvs at d -/
def Puts (K : PySem.W.Frag) (tb : TS) (Γ : List Sl) (j : Nat) (s : Str) (P : PyData → Prop) (Γ' : List Sl) : Prop := ∀ (G : Fr) (σ : L2.St) (H : Hp) (D : Ends) (d : Addr) (kvs : List (Key × V)), EnvOk K G H σ Γ → G.inv H → σ[j]? = some (some (.ref d)) → (∀ H', G.inv H' → H' d = some (.dK kvs)) → kvs.length < 1000 →
  (∀ σ' H' v e, G.inv H' → G.le H H' → EnvOk K G H' σ' Γ' → σ'[j]? = some (some (.ref d)) → P e → Dq K (G.view H') v e → D.nx σ' (upd H' d (.dK (putK kvs (.inr s) v)))) → tb D σ H
section
variable {K : PySem.W.Frag} {Γ Γ' : List Sl} {te tb tc tl td ty tv : TE} {ta : TA} {wi : TI} {g : TG} {gs : TGs} {ts tu ts2 : TS} {tt : TT} {P P' : PyData → Prop} {PL : List PyData → Prop} {j : Nat} {s : Str}
theorem pt_put (hv : EvD K tv Γ P) (hk : EvD K ty Γ (· = .str s)) : Puts K (sDPut (tVar j) ty tv) Γ j s P Γ := fun G σ H D d kvs ev iv hj hd hl k =>
  hv G σ H ev iv _ fun v e H1 i1 l1 p1 dq => ⟨_, hj, hk G σ H1 (ev.le l1) i1 _ fun v2 e2 H2 i2 l2 p2 dq2 => by
    subst p2
    cases dq2
    exact ⟨d, _, rfl, .inl ⟨kvs, .inr s, hd H2 i2, rfl, by rw [sizeLine_eq]; omega, rfl⟩, k σ H2 v e i2 (l1.trans l2) (ev.le (l1.trans l2)) hj p1 (dq.ex l2)⟩⟩
theorem pt_if (h : EvB K tt Γ (· = false)) (h2 : Puts K tu Γ j s P Γ') : Puts K (tSeq (tIfS tt ts tNext) tu) Γ j s P Γ' := fun G σ H D d kvs ev iv hj hd hl k =>
  h G σ H ev iv _ fun b H1 i1 l1 e => by
    subst e
    exact h2 G σ H1 _ d kvs (ev.le l1) i1 hj hd hl fun σ' H' v e i' l' => k σ' H' v e i' (l1.trans l')
theorem pt_set {i : Nat} {d' : PyData} (hi : i < Γ.length) (hij : i ≠ j) (h : EvD K te Γ (· = d')) (h2 : Puts K tu (Γ.set i (.dat d')) j s P Γ') : Puts K (tSeq (tAsg te (gName i)) tu) Γ j s P Γ' := fun G σ H D d kvs ev iv hj hd hl k =>
  h G σ H ev iv _ fun v e H1 i1 l1 p1 dq => by
    subst p1
    exact h2 G _ H1 _ d kvs ((ev.le l1).set hi dq) i1 (by rw [List.getElem?_set_ne hij]; exact hj) hd hl fun σ' H' v e i' l' => k σ' H' v e i' (l1.trans l')
theorem pt_asg {vs : List Nat} {d' : PyData} {N : PyData → List Sl} (hij : j ∉ vs) (h : EvD K te Γ (· = d')) (hg : TgOk K g vs Γ (· = d') N) (h2 : Puts K tu (N d') j s P Γ') : Puts K (tSeq (tAsg te g) tu) Γ j s P Γ' := fun G σ H D d kvs ev iv hj hd hl k =>
  h G σ H ev iv _ fun v e H1 i1 l1 p1 dq => hg G σ H1 v e (ev.le l1) i1 p1 dq _ fun σ2 _ hs ev2 => by
    subst p1
    exact h2 G σ2 H1 _ d kvs ev2 i1 (by rw [hs j hij]; exact hj) hd hl fun σ' H' v e i' l' => k σ' H' v e i' (l1.trans l')
/-- places that are no longer asked -/
theorem EnvOk.weak {G : Fr} {H : Hp} {σ : L2.St} (h : EnvOk K G H σ Γ) (hl : Γ.length = Γ'.length) (hw : ∀ (i : Nat) (s : Sl), Γ'[i]? = some s → s = .any ∨ Γ[i]? = some s) : EnvOk K G H σ Γ' := ⟨h.1.trans hl, fun i s hs => by
  rcases hw i s hs with e | e
  · exact .inl e
  · exact h.2 i s e⟩
theorem putK_fresh {kvs : List (Key × V)} {m : List (Str × PyData)} {H : Hp} {s : Str} {v : V} (h : DqKv K H kvs (m.map fun p => (.str p.1, p.2))) (hn : m.lookup s = none) : putK kvs (.inr s) v = kvs ++ [(.inr s, v)] := by
  have h0 := (kvq_get s h).1 hn
  unfold putK
  rw [if_neg]
  intro z
  unfold valV at h0
  rw [Option.map_eq_none_iff, List.find?_eq_none] at h0
  obtain ⟨x, hx, e⟩ := List.any_eq_true.mp z
  exact h0 x hx e
theorem DqKv.append {H : Hp} {kvs : List (Key × V)} {ks : List (PyData × PyData)} {k : Key} {v : V} {d : PyData} (h : DqKv K H kvs ks) (hv : Dq K H v d) : DqKv K H (kvs ++ [(k, v)]) (ks ++ [(kD k, d)]) := by
  induction kvs generalizing ks with
  | nil => cases h; exact .cons hv .nil
  | cons a kvs ih =>
    cases h with
    | cons h1 h2 => exact .cons h1 (ih h2)
/-- a loop that fills a dict: at the i-th turn the i-th pair of m, whose names are all different -/
theorem loop_put {Γl : List (Str × PyData) → List Sl} {vs : List Nat} {m : List (Str × PyData)} {Pi : Nat → PyData → Prop} {N : Nat → PyData → List Sl} {Ne : Nat → PyData → List Sl} (hm : m.length ≤ 100)
    (hj : ∀ m', (Γl m')[j]? = some (.odic m')) (hnew : ∀ i p, m[i]? = some p → (m.take i).lookup p.1 = none)
    (hjv : j ∉ vs) (hi : EvI0 K wi (Γl []) (· = m.length) Pi)
    (hg : ∀ i, TgOk K g vs (Γl (m.take i)) (Pi i) (N i))
    (hb : ∀ i e p, Pi i e → m[i]? = some p → Puts K tu (N i e) j p.1 (· = p.2) (Ne i e))
    (hw : ∀ (i : Nat) e m', Pi i e → (Γl m').length = (Ne i e).length ∧ ∀ (k : Nat) s, k ≠ j → (Γl m')[k]? = some s → s = .any ∨ (Ne i e)[k]? = some s)
    (hdat : ∀ m' (q : Nat) s, q ≠ j → (Γl m')[q]? = some s → s = .any ∨ ∃ z, s = .dat z)
    {G : Fr} {σ : L2.St} {H : Hp} {D : Ends} {d : Addr} (ev : EnvOk K (G.own d (.dK [])) H σ (Γl [])) (iv : (G.own d (.dK [])).inv H) (hd : σ[j]? = some (some (.ref d)))
    (k : ∀ σ' H' kvs, (G.own d (.dK kvs)).inv H' → Ex ((G.own d (.dK [])).view H) ((G.own d (.dK kvs)).view H') → EnvOk K (G.own d (.dK kvs)) H' σ' (Γl m) → σ'[j]? = some (some (.ref d)) → DqKv K ((G.own d (.dK kvs)).view H') kvs (m.map fun p => (.str p.1, p.2)) → D.nx σ' H') :
    tFor wi g tu D σ H := by
  refine hi (G.own d (.dK [])) σ H ev iv _ fun n J H1 hn iv1 l1 w => ?_
  subst hn
  let Iv : Nat → L2.St → Hp → Prop := fun i σ' H' => ∃ kvs : List (Key × V), (G.own d (.dK kvs)).inv H' ∧ Ex ((G.own d (.dK [])).view H1) ((G.own d (.dK kvs)).view H') ∧ EnvOk K (G.own d (.dK kvs)) H' σ' (Γl (m.take i)) ∧ σ'[j]? = some (some (.ref d)) ∧ DqKv K ((G.own d (.dK kvs)).view H') kvs ((m.take i).map fun p => (.str p.1, p.2))
  refine ⟨fun i c σ' H' => c = m.length - i ∧ i ≤ m.length ∧ Iv i σ' H', ⟨m.length, by simp, Nat.zero_le _, [], iv1, fun _ _ h => h, by rw [List.take_zero]; exact ev.le l1, hd, .nil⟩, ?_⟩
  rintro i c σ2 H2 ⟨rfl, hle, kvs, iv2, e2, ev2, hd2, dk2⟩
  have w2 := w (G.own d (.dK kvs)) H2 e2 iv2
  by_cases hlt : i < m.length
  · refine .inr ⟨(w2.1 i hlt).1, fun σ' H' => i + 1 ≤ m.length ∧ Iv (i + 1) σ' H', fun σ' H' h' => ⟨m.length - (i + 1), by omega, rfl, h'⟩, fun x H3 hy => ?_⟩
    obtain ⟨iv3, l3, e, pe, dq⟩ := (w2.1 i hlt).2 x H3 hy
    have hp := List.getElem?_eq_getElem hlt
    have hkl := DqKv.keys dk2
    refine hg i (G.own d (.dK kvs)) σ2 H3 x e (ev2.le l3) iv3 pe dq _ fun σ3 _ hs3 ev3 => ?_
    refine hb i e _ pe hp (G.own d (.dK kvs)) σ3 H3 _ d kvs ev3 iv3 (by rw [hs3 j hjv]; exact hd2) (fun H' i' => Fr.own_at i') (by rw [hkl.1, List.length_take]; omega) fun σ4 H4 v f iv4 l4 ev4 hj4 pf dq4 => ⟨hlt, putK kvs (.inr m[i].1) v, ?_⟩
    subst pf
    have st := Fr.own_set (o' := .dK (putK kvs (.inr m[i].1) v)) iv4
    have hpk : putK kvs (.inr m[i].1) v = kvs ++ [(.inr m[i].1, v)] := putK_fresh dk2 (hnew i _ hp)
    have dk4 : DqKv K ((G.own d (.dK kvs)).view H4) (putK kvs (.inr m[i].1) v) ((m.take (i + 1)).map fun p => (.str p.1, p.2)) := by
      rw [hpk, List.take_add_one, hp, List.map_append]
      exact ((dk2.ex l3).ex l4).append dq4
    have hv : (G.own d (.dK (putK kvs (.inr m[i].1) v))).view (upd H4 d (.dK (putK kvs (.inr m[i].1) v))) = (G.own d (.dK kvs)).view H4 := st.2
    refine ⟨st.1, fun c u h => ?_, ?_, hj4, by rw [hv]; exact dk4⟩
    · rw [hv]
      exact l4 c u (l3 c u (e2 c u h))
    · have hwi := hw i e (m.take (i + 1)) pe
      refine ⟨ev4.1.trans hwi.1.symm, fun q s hs => ?_⟩
      by_cases hq : q = j
      · subst hq
        rw [hj] at hs
        cases hs
        exact .inr ⟨_, hj4, d, putK kvs (.inr m[i].1) v, rfl, fun H' i' => Fr.own_at i', by rw [hv]; exact dk4⟩
      · rcases hwi.2 q s hq hs with e5 | e5
        · exact .inl e5
        · rcases ev4.2 q s e5 with e6 | ⟨x6, h6, s6⟩
          · exact .inl e6
          · rcases hdat _ q s hq hs with e7 | ⟨z, e7⟩
            · exact .inl e7
            · subst e7
              exact .inr ⟨x6, h6, Dq.ex (fun c u h => by rw [hv]; exact h) s6⟩
  · obtain rfl : i = m.length := by omega
    rw [List.take_length] at ev2 dk2
    exact .inl ⟨w2.2, k σ2 H2 kvs iv2 (fun c u h => e2 c u (l1 c u h)) ev2 hd2 dk2⟩
end
end L2

set_option Elab.async false
set_option linter.all false
set_option maxRecDepth 100000
set_option maxHeartbeats 4000000
namespace L2
open PySem PySem.Spec PyProof.Rows
open Evl (Ex)
section
variable {K : PySem.W.Frag} {Γ Γ' : List Sl} {te tb tc tl td ty tk tv : TE} {ta : TA} {wi : TI} {g : TG} {gs : TGs} {ts tu ts2 : TS} {tt : TT} {P P' : PyData → Prop} {PL : List PyData → Prop} {j : Nat} {s : Str}
theorem e0_enum {ds : List PyData} (h : EvL' K ta Γ (fun zs => zs = [.list ds] ∨ zs = [.tuple ds])) : EvI0 K (iEnumA K ta) Γ (· = ds.length) (fun i d => ∃ a, ds[i]? = some a ∧ d = .tuple [.int i, a]) := fun G σ H ev iv R q =>
  h G σ H ev iv _ fun vs ss H1 iv1 l1 ⟨zs, e1, e2⟩ dqs => by
    subst e1
    have dqs := args_dats dqs
    rcases e2 with e2 | e2 <;> subst e2
    · cases dqs with
      | cons h1 t1 =>
        cases t1
        cases h1 with
        | lst hs ha =>
          refine ⟨_, _, rfl, .inl ⟨Fr.upL hs, q ds.length _ H1 rfl iv1 l1 fun G' H2 e iv2 => ⟨fun i hi => ?_, _, Fr.upL (exL e hs), by rw [ha.length] <;> exact Nat.le_refl _⟩⟩⟩
          obtain ⟨x, hx, dx⟩ := ha.get' (List.getElem?_eq_getElem hi)
          refine ⟨⟨_, x, Fr.upL (exL e hs), hx⟩, fun v H3 ⟨T, x', e1, hT, e2, hx'⟩ => ?_⟩
          subst e1; subst e2
          have := hx' _ (Fr.upL (exL e hs))
          rw [hx] at this
          cases this
          obtain ⟨i3, l3, h3⟩ := Fr.new (o := HO.tup [.int (i : Nat), x]) iv2 hT
          exact ⟨i3, l3, _, ⟨_, List.getElem?_eq_getElem hi, rfl⟩, .tup (.inl (.inl h3)) (.cons (.int _) (.cons ((dx.ex e).ex l3) .nil))⟩
    · cases dqs with
      | cons h1 t1 =>
        cases t1
        cases h1 with
        | tup hs ha =>
          refine ⟨_, _, rfl, .inr ⟨Fr.upT hs, q ds.length _ H1 rfl iv1 l1 fun G' H2 e iv2 => ⟨fun i hi => ?_, _, Fr.upT (exT e hs), by rw [ha.length] <;> exact Nat.le_refl _⟩⟩⟩
          obtain ⟨x, hx, dx⟩ := ha.get' (List.getElem?_eq_getElem hi)
          refine ⟨⟨_, x, Fr.upT (exT e hs), hx⟩, fun v H3 ⟨T, x', e1, hT, e2, hx'⟩ => ?_⟩
          subst e1; subst e2
          have := hx' _ (Fr.upT (exT e hs))
          rw [hx] at this
          cases this
          obtain ⟨i3, l3, h3⟩ := Fr.new (o := HO.tup [.int (i : Nat), x]) iv2 hT
          exact ⟨i3, l3, _, ⟨_, List.getElem?_eq_getElem hi, rfl⟩, .tup (.inl (.inl h3)) (.cons (.int _) (.cons ((dx.ex e).ex l3) .nil))⟩
/-- {k: v for x in xs}, the names all different -/
theorem ev_dc {m : List (Str × PyData)} {vs : List Nat} {Pi : Nat → PyData → Prop} {N : PyData → List Sl} (hm : m.length ≤ 1000) (hnew : ∀ i p, m[i]? = some p → (m.take i).lookup p.1 = none) (hi : EvI0 K wi Γ (· = m.length) Pi) (hg : ∀ i, TgOk K g vs (wipeΓ Γ vs) (Pi i) N)
    (hk : ∀ i d p, Pi i d → m[i]? = some p → EvD K tk (N d) (· = .str p.1)) (hv : ∀ i d p, Pi i d → m[i]? = some p → EvD K tv (N d) (· = p.2)) :
    EvD K (tDc wi g tYes tk tv vs) Γ (· = dictD m) := fun G σ H ev iv Q q => by
  refine hi G σ H ev iv _ fun n J H1 hn iv1 l1 w D hD => ?_
  subst hn
  have ho := Fr.own_new (G := G) (o := HO.dK []) iv1 hD
  let Iv : Nat → Hp → Prop := fun i H => ∃ (kvs : List (Key × V)), (G.own D (.dK kvs)).inv H ∧ Ex (G.view H1) ((G.own D (.dK kvs)).view H) ∧ DqKv K ((G.own D (.dK kvs)).view H) kvs ((m.take i).map fun p => (.str p.1, p.2))
  refine ⟨fun i c H => c = m.length - i ∧ i ≤ m.length ∧ Iv i H, ⟨m.length, by simp, Nat.zero_le _, [], ho.1, by rw [ho.2]; exact fun _ _ h => h, .nil⟩, ?_⟩
  rintro i c H2 ⟨rfl, hle, kvs, iv2, e2, dk2⟩
  have w2 := w (G.own D (.dK kvs)) H2 e2 iv2
  by_cases hlt : i < m.length
  · refine .inr ⟨(w2.1 i hlt).1, fun H => i + 1 ≤ m.length ∧ Iv (i + 1) H, fun H' h' => ⟨m.length - (i + 1), by omega, rfl, h'⟩, fun x H3 hy => ?_⟩
    obtain ⟨iv3, l3, d, pd, dq⟩ := (w2.1 i hlt).2 x H3 hy
    have hp := List.getElem?_eq_getElem hlt
    have ev3 : EnvOk K (G.own D (.dK kvs)) H3 σ Γ := (ev.le l1).own fun c u h => l3 c u (e2 c u h)
    refine hg i (G.own D (.dK kvs)) (L2.wipe σ vs) H3 x d (ev3.wipe vs) iv3 pd dq _ fun σ2 hl2 hs2 ev4 => ⟨wipe_eq hl2 hs2, ?_⟩
    refine hk i d _ pd hp (G.own D (.dK kvs)) σ2 H3 ev4 iv3 _ fun y e H4 iv4 l4 r4 dq4 => hv i d _ pd hp (G.own D (.dK kvs)) σ2 H4 (ev4.le l4) iv4 _ fun z f H5 iv5 l5 r5 dq5 => ?_
    subst r4; subst r5
    cases dq4
    refine ⟨kvs, .inr m[i].1, rfl, Fr.own_at iv5, by rw [(DqKv.keys dk2).1, List.length_take, sizeLine_eq]; omega, hlt, putK kvs (.inr m[i].1) z, ?_⟩
    have st := Fr.own_set (o' := .dK (putK kvs (.inr m[i].1) z)) iv5
    have hvw : (G.own D (.dK (putK kvs (.inr m[i].1) z))).view (upd H5 D (.dK (putK kvs (.inr m[i].1) z))) = (G.own D (.dK kvs)).view H5 := st.2
    refine ⟨st.1, fun c u h => ?_, ?_⟩
    · rw [hvw]
      exact l5 c u (l4 c u (l3 c u (e2 c u h)))
    · rw [hvw, putK_fresh dk2 (hnew i _ hp), List.take_add_one, hp, List.map_append]
      exact (((dk2.ex l3).ex l4).ex l5).append dq5
  · obtain rfl : i = m.length := by omega
    rw [List.take_length] at dk2
    exact .inl ⟨w2.2, q (.ref D) _ H2 iv2.1 (l1.trans (Fr.own_le (Fr.blank hD) e2)) rfl (.dic iv2.2 (dk2.ex Fr.own_sub))⟩
/-- len(set(t)) == len(t), t a tuple of texts -/
theorem strs_of {H : Hp} : ∀ {vs : List V} {xs : List Str}, DqAll K H vs (xs.map .str) → vs = xs.map V.str
  | [], [], .nil => rfl
  | _ :: _, _ :: _, .cons h t => by
    cases h
    rw [strs_of t]
    rfl
theorem ev_setLen {xs : List Str} (hn : xs.length ≤ 1000) (h : EvD K te Γ (· = .tuple (xs.map .str))) (h2 : EvD K tb Γ (· = .int xs.length)) : EvD K (tOp rEq (tLenSetT K te) tb) Γ (· = .bool (decide xs.Nodup)) := fun G σ H e iv Q q =>
  h G σ H e iv _ fun v d1 H1 i1 l1 p1 dq => by
    subst p1
    cases dq with
    | tup hs ha =>
      have := strs_of ha
      subst this
      refine ⟨_, xs, rfl, Fr.upT hs, hn, fun c c1 c2 => h2 G σ H1 (e.le l1) i1 _ fun v2 d2 H2 i2 l2 p2 dq2 => ?_⟩
      subst p2
      cases dq2
      refine ⟨rfl, q _ _ H2 i2 (l1.trans l2) ?_ (.bl _)⟩
      refine congrArg PyData.bool (decide_eq_decide.mpr ?_)
      rw [← c2]
      constructor
      · intro z
        injection z with z
        exact Int.ofNat.inj z
      · intro z
        rw [z]
end
end L2

set_option Elab.async false
set_option linter.all false
set_option maxRecDepth 100000
set_option maxHeartbeats 4000000
namespace L2
open PySem PySem.Spec PyProof.Rows
open Evl (Ex)
section
variable {K : PySem.W.Frag} {Γ Γ' : List Sl} {te tb tc tl td ty tk tv : TE} {ta : TA} {wi : TI} {g : TG} {gs : TGs} {ts tu ts2 : TS} {tt : TT} {P P' : PyData → Prop} {PL : List PyData → Prop} {j : Nat} {s : Str}
/-- from one object aside to another one at the same place -/
theorem EnvOk.swap {G : Fr} {H H' : Hp} {σ : L2.St} {l : Addr} {o o' : HO} {s : Sl} {v : V} (h : EnvOk K (G.own l o) H σ Γ) (e : Ex ((G.own l o).view H) ((G.own l o').view H')) (hl : Γ.length = Γ'.length) (hd : ∀ (q : Nat) s, q ≠ j → Γ'[q]? = some s → s = .any ∨ ∃ z, s = .dat z ∧ Γ[q]? = some s)
    (hj : σ[j]? = some (some v)) (hs : Γ'[j]? = some s) (hv : SlOk K (G.own l o') H' v s) : EnvOk K (G.own l o') H' σ Γ' := ⟨h.1.trans hl, fun q t ht => by
  by_cases e2 : q = j
  · subst e2
    rw [hs] at ht
    cases ht
    exact .inr ⟨v, hj, hv⟩
  · rcases hd q t e2 ht with e3 | ⟨z, e3, e4⟩
    · exact .inl e3
    · rcases h.2 q t e4 with e5 | ⟨x, h5, s5⟩
      · exact .inl e5
      · subst e3
        exact .inr ⟨x, h5, Dq.ex e s5⟩⟩
/-- found = {}; a loop that fills it; a tuple made of it -/
theorem rs_build {vs : List Nat} {m : List (Str × PyData)} {Pi : Nat → PyData → Prop} {N : Nat → PyData → List Sl} {Ne : Nat → PyData → List Sl} {es : List PyData} (hm : m.length ≤ 100) (hjl : j < Γ.length)
    (hΓ : ∀ (q : Nat) s, q ≠ j → Γ[q]? = some s → s = .any ∨ ∃ z, s = .dat z) (hnew : ∀ i p, m[i]? = some p → (m.take i).lookup p.1 = none) (hjv : j ∉ vs)
    (hi : EvI0 K wi (Γ.set j (.odic [])) (· = m.length) Pi)
    (hg : ∀ i, TgOk K g vs (Γ.set j (.odic (m.take i))) (Pi i) (N i))
    (hb : ∀ i e p, Pi i e → m[i]? = some p → Puts K tu (N i e) j p.1 (· = p.2) (Ne i e))
    (hw : ∀ (i : Nat) e, Pi i e → Γ.length = (Ne i e).length ∧ ∀ (k : Nat) s, k ≠ j → Γ[k]? = some s → s = .any ∨ (Ne i e)[k]? = some s)
    (hc : EvD K tc (Γ.set j (.fdic m)) (· = .list es)) :
    Rets K (tSeq (tAsg tDNewK (gName j)) (tSeq (tFor wi g tu) (tRet (tThen (tLockE tc) (kTup K))))) Γ (· = .tuple es) := fun G σ H D ev iv k p hp => by
  have hgv : G.view H p = none := Fr.blank hp
  obtain ⟨iv1, vw1⟩ := Fr.own_new (G := G) (o := HO.dK []) iv hp
  have set_ne : ∀ {s : Sl} {q : Nat} {t : Sl}, q ≠ j → (Γ.set j s)[q]? = some t → Γ[q]? = some t := fun h e => by rwa [List.getElem?_set_ne (fun z => h z.symm)] at e
  have set_j : ∀ {s : Sl}, (Γ.set j s)[j]? = some s := List.getElem?_set_self hjl
  have hj1 : (σ.set j (some (.ref p)))[j]? = some (some (.ref p)) := List.getElem?_set_self (by rw [ev.1]; exact hjl)
  have ev1 : EnvOk K (G.own p (.dK [])) (upd H p (.dK [])) (σ.set j (some (.ref p))) (Γ.set j (.odic [])) :=
    (ev.own (l := p) (o := .dK []) (H' := upd H p (.dK [])) (by rw [vw1]; exact fun _ _ h => h)).set hjl ⟨p, [], rfl, fun H' i => Fr.own_at i, .nil⟩
  refine loop_put (Γl := fun m' => Γ.set j (.odic m')) hm (fun m' => set_j) hnew hjv hi hg hb (fun i e m' pe => ?_) (fun m' q s hq hs => hΓ q s hq (set_ne hq hs)) ev1 iv1 hj1 ?_
  · have h := hw i e pe
    exact ⟨by rw [List.length_set]; exact h.1, fun k s hk hs => h.2 k s hk (set_ne hk hs)⟩
  · intro σ' H' kvs iv2 e2 ev2 hj2 dk2
    refine ⟨p, .dK kvs, Fr.own_at iv2, trivial, fun od => ?_⟩
    have st := Fr.own_set (o' := .frz od (.dK kvs)) iv2
    have evf : EnvOk K (G.own p (.frz od (.dK kvs))) (upd H' p (.frz od (.dK kvs))) σ' (Γ.set j (.fdic m)) := by
      refine EnvOk.swap (j := j) (s := .fdic m) (v := .ref p) ev2 (by rw [st.2]; exact fun _ _ h => h) (by rw [List.length_set, List.length_set]) (fun q s hq hs => ?_) hj2 set_j ⟨p, od, kvs, rfl, fun H' i => Fr.own_at i, by rw [st.2]; exact dk2⟩
      rcases hΓ q s hq (set_ne hq hs) with e | ⟨z, e⟩
      · exact .inl e
      · exact .inr ⟨z, e, by rw [List.getElem?_set_ne (fun z => hq z.symm)]; exact set_ne hq hs⟩
    refine hc (G.own p (.frz od (.dK kvs))) σ' _ evf st.1 _ fun v d H3 iv3 l3 pd dq => ⟨Fr.own_at iv3, ?_⟩
    subst pd
    have st3 := Fr.own_set (o' := .dK kvs) iv3
    cases dq with
    | @lst aa xx _ hs ha =>
      have hs3 : SqL K ((G.own p (.dK kvs)).view (upd H3 p (.dK kvs))) aa xx := by rw [st3.2]; exact hs
      refine .inl ⟨aa, xx, rfl, Fr.upL hs3, fun q hq => ?_⟩
      obtain ⟨iv4, l4, h4⟩ := Fr.new (o := HO.tup xx) st3.1 hq
      have ha4 := ha.ex fun c u h => l4 c u (by rw [st3.2]; exact h)
      refine k _ _ _ iv4.1 (Fr.own_le (l := p) (o := .dK kvs) hgv fun c u h => l4 c u (by rw [st3.2]; exact l3 c u (by rw [st.2]; exact e2 c u (by rw [vw1]; exact h)))) rfl (.tup (.inl (.inl (Fr.own_sub _ _ h4))) (ha4.ex Fr.own_sub))
theorem ev_lcI {vs : List Nat} {Pi : Nat → PyData → Prop} {N : PyData → List Sl} {es : List PyData} (hn : es.length < 100000) (hi : EvI K wi Γ (· = es.length) Pi) (hg : ∀ i, TgOk K g vs (wipeΓ Γ vs) (Pi i) N) (he : ∀ i d e, Pi i d → es[i]? = some e → EvD K te (N d) (· = e)) :
    EvD K (tLc wi g tYes te vs) Γ (· = .list es) := by
  have hi' : EvI K wi Γ (· = es.length) (fun i d => i < es.length ∧ Pi i d) := fun G σ H ev iv R q => hi G σ H ev iv R fun n J H' hn i' l' w => q n J H' hn i' l' fun G' H2 hG e2 i2 => by
    subst hn
    have w2 := w G' H2 hG e2 i2
    refine ⟨fun i h => ⟨(w2.1 i h).1, fun x H3 hy => ?_⟩, w2.2⟩
    obtain ⟨a, b, d, pd, dq⟩ := (w2.1 i h).2 x H3 hy
    exact ⟨a, b, d, ⟨h, pd⟩, dq⟩
  refine (ev_lc (R := fun i d e => ∀ x, es[i]? = some x → e = x) (fun n e => by rw [e]; exact hn) hi' (fun i G σ H x d ev iv pd => hg i G σ H x d ev iv pd.2) fun i d pd => ?_).imp ?_
  · exact (he i d es[i] pd.2 (List.getElem?_eq_getElem pd.1)).imp fun e h y hy => by
      rw [List.getElem?_eq_getElem pd.1] at hy
      cases hy
      exact h
  · rintro _ ⟨zs, rfl, hl, hR⟩
    refine congrArg PyData.list (List.ext_getElem? fun i => ?_)
    by_cases hlt : i < zs.length
    · obtain ⟨d, _, h2⟩ := hR i _ (List.getElem?_eq_getElem hlt)
      have hx : es[i]? = some es[i] := List.getElem?_eq_getElem (by omega)
      rw [hx, List.getElem?_eq_getElem hlt, h2 _ hx]
    · rw [List.getElem?_eq_none (by omega), List.getElem?_eq_none (by omega)]
theorem EvL'.imp {PL PL' : List PyData → Prop} (h : EvL' K ta Γ PL) (hp : ∀ ds, PL ds → PL' ds) : EvL' K ta Γ PL' := fun G σ H e i Q q => h G σ H e i Q fun vs ss H' i' l' ⟨zs, e1, e2⟩ dqs => q vs ss H' i' l' ⟨zs, e1, hp zs e2⟩ dqs
theorem Puts.weak {Γ2 : List Sl} (h : Puts K tu Γ j s P Γ') (hl : Γ'.length = Γ2.length) (hw : ∀ (i : Nat) (t : Sl), Γ2[i]? = some t → t = .any ∨ Γ'[i]? = some t) : Puts K tu Γ j s P Γ2 := fun G σ H D d kvs ev iv hj hd hk k =>
  h G σ H D d kvs ev iv hj hd hk fun σ' H' v e i' l' ev' => k σ' H' v e i' l' (EnvOk.weak ev' hl hw)
end
end L2

set_option Elab.async false
set_option linter.all false
set_option maxRecDepth 100000
set_option maxHeartbeats 4000000
namespace L2
open PySem PySem.Spec PyProof.Rows
open Evl (Ex)
/-! ### data that is compared: whole numbers, texts, tuples, at most n deep -/
def okD : Nat → PyData → Bool
  | _, .int _ => true
  | _, .str s => PyData.strOk s
  | 0, _ => false
  | n + 1, .tuple xs => xs.all (okD n)
  | _, _ => false
theorem okD_lay : ∀ (n : Nat) (d : PyData), okD n d = true → d.canLay0 = true ∧ d.depth ≤ n
  | n, .int i, _ => ⟨by simp only [PyData.canLay0], by simp only [PyData.depth]; omega⟩
  | n, .str s, h => ⟨by simp only [PyData.canLay0]; cases n <;> exact h, by simp only [PyData.depth]; omega⟩
  | 0, .tuple xs, h => by cases h
  | 0, .list xs, h => by cases h
  | 0, .dict xs, h => by cases h
  | 0, .none, h => by cases h
  | 0, .bool b, h => by cases h
  | n + 1, .list xs, h => by cases h
  | n + 1, .dict xs, h => by cases h
  | n + 1, .none, h => by cases h
  | n + 1, .bool b, h => by cases h
  | n + 1, .tuple xs, h => by
    have h : xs.all (okD n) = true := h
    have key : ∀ ys : List PyData, ys.all (okD n) = true → PyData.canLayAll0 ys = true ∧ PyData.depthAll ys ≤ n := by
      intro ys
      induction ys with
      | nil => exact fun _ => ⟨by simp only [PyData.canLayAll0], by simp only [PyData.depthAll]; omega⟩
      | cons y ys ih =>
        intro hy
        rw [List.all_cons, Bool.and_eq_true] at hy
        have h1 := okD_lay n y hy.1
        have h2 := ih hy.2
        exact ⟨by simp only [PyData.canLayAll0]; rw [h1.1, h2.1]; rfl, by simp only [PyData.depthAll]; omega⟩
    have k := key xs h
    exact ⟨by simp only [PyData.canLay0]; exact k.1, by simp only [PyData.depth]; omega⟩
theorem okD_shaped {n : Nat} {d : PyData} (h : okD n d = true) (hn : n ≤ 64) : SeqAt.shaped d = true := by
  have k := okD_lay n d h
  show (d.canLay0 && decide (d.depth ≤ 64)) = true
  rw [k.1, decide_eq_true (Nat.le_trans k.2 hn)]
  rfl
theorem okD_eqv : ∀ (n : Nat) (d e : PyData), okD n d = true → okD n e = true → PyData.eqv d e = true → d = e
  | n, .int a, .int b, _, _, h => by simp only [PyData.eqv] at h; rw [beq_iff_eq.mp h]
  | n, .str a, .str b, _, _, h => by simp only [PyData.eqv] at h; rw [beq_iff_eq.mp h]
  | n, .int a, .str b, _, _, h => by simp only [PyData.eqv] at h; cases h
  | n, .int a, .tuple b, _, _, h => by simp only [PyData.eqv] at h; cases h
  | n, .str a, .int b, _, _, h => by simp only [PyData.eqv] at h; cases h
  | n, .str a, .tuple b, _, _, h => by simp only [PyData.eqv] at h; cases h
  | n, .tuple a, .int b, _, _, h => by simp only [PyData.eqv] at h; cases h
  | n, .tuple a, .str b, _, _, h => by simp only [PyData.eqv] at h; cases h
  | n + 1, .tuple xs, .tuple ys, hx, hy, h => by
    have hx : xs.all (okD n) = true := hx
    have hy : ys.all (okD n) = true := hy
    simp only [PyData.eqv] at h
    have key : ∀ xs ys : List PyData, xs.all (okD n) = true → ys.all (okD n) = true → PyData.eqvAll xs ys = true → xs = ys := by
      intro xs
      induction xs with
      | nil =>
        intro ys _ _ h
        cases ys with
        | nil => rfl
        | cons y ys => simp only [PyData.eqvAll] at h; cases h
      | cons x xs ih =>
        intro ys hx hy h
        cases ys with
        | nil => simp only [PyData.eqvAll] at h; cases h
        | cons y ys =>
          rw [List.all_cons, Bool.and_eq_true] at hx hy
          simp only [PyData.eqvAll, Bool.and_eq_true] at h
          rw [okD_eqv n x y hx.1 hy.1 h.1, ih ys hx.2 hy.2 h.2]
    rw [key xs ys hx hy h]
  | n, .none, _, h, _, _ => by cases n <;> cases h
  | n, .bool b, _, h, _, _ => by cases n <;> cases h
  | n, .list b, _, h, _, _ => by cases n <;> cases h
  | n, .dict b, _, h, _, _ => by cases n <;> cases h
  | n, _, .none, _, h, _ => by cases n <;> cases h
  | n, _, .bool b, _, h, _ => by cases n <;> cases h
  | n, _, .list b, _, h, _ => by cases n <;> cases h
  | n, _, .dict b, _, h, _ => by cases n <;> cases h
  | 0, .tuple a, _, h, _, _ => by cases h
/-- whether two such things are equal -/
theorem eqv_iff {n : Nat} {d e : PyData} (h1 : okD n d = true) (h2 : okD n e = true) : PyData.eqv d e = true ↔ d = e :=
  ⟨okD_eqv n d e h1 h2, fun z => by rw [← z]; exact SeqAt.eqv_refl d (okD_lay n d h1).1⟩
section
variable {K : PySem.W.Frag}
theorem dq_dp {H : Hp} (n : Nat) : ∀ {v : V} {d : PyData}, okD n d = true → Dq K H v d → Dp K H v d := by
  induction n with
  | zero =>
    intro v d h q
    cases q with
    | int i => exact .int i
    | str s => exact .str s
    | _ => cases h
  | succ n ih =>
    intro v d h q
    cases q with
    | int i => exact .int i
    | str s => exact .str s
    | @tup a xs ds hs ha =>
      have h : ds.all (okD n) = true := h
      have key : ∀ (xs : List V) (ds : List PyData), ds.all (okD n) = true → DqAll K H xs ds → DpAll K H xs ds := by
        intro xs
        induction xs with
        | nil => intro ds _ a; cases a; exact .nil
        | cons x xs ih2 =>
          intro ds hd a
          cases a with
          | cons h1 t1 =>
            rw [List.all_cons, Bool.and_eq_true] at hd
            exact .cons (ih hd.1 h1) (ih2 _ hd.2 t1)
      exact .tup hs (key xs ds h ha)
    | _ => cases h
variable {Γ : List Sl} {te tb : TE} {ta : TA}
/-- d == e -/
theorem ev_eqD {n : Nat} (hn : n ≤ 64) {d e : PyData} (h1 : okD n d = true) (h2 : okD n e = true) (ha : EvD K te Γ (· = d)) (hb : EvD K tb Γ (· = e)) : EvD K (tOp (rEqD K) te tb) Γ (· = .bool (PyData.eqv d e)) := fun G σ H ev iv Q q =>
  ha G σ H ev iv _ fun v d1 H1 i1 l1 p1 dq => hb G σ H1 (ev.le l1) i1 _ fun v2 d2 H2 i2 l2 p2 dq2 => by
    subst p1; subst p2
    exact ⟨d1, d2, dq_dp n h1 (Fr.up (dq.ex l2)), dq_dp n h2 (Fr.up dq2), okD_shaped h1 hn, okD_shaped h2 hn, q _ _ H2 i2 (l1.trans l2) rfl (.bl _)⟩
theorem ev_neD {n : Nat} (hn : n ≤ 64) {d e : PyData} (h1 : okD n d = true) (h2 : okD n e = true) (ha : EvD K te Γ (· = d)) (hb : EvD K tb Γ (· = e)) : EvD K (tOp (rNeD K) te tb) Γ (· = .bool (!PyData.eqv d e)) := fun G σ H ev iv Q q =>
  ha G σ H ev iv _ fun v d1 H1 i1 l1 p1 dq => hb G σ H1 (ev.le l1) i1 _ fun v2 d2 H2 i2 l2 p2 dq2 => by
    subst p1; subst p2
    exact ⟨d1, d2, dq_dp n h1 (Fr.up (dq.ex l2)), dq_dp n h2 (Fr.up dq2), okD_shaped h1 hn, okD_shaped h2 hn, q _ _ H2 i2 (l1.trans l2) rfl (.bl _)⟩
/-! ### objects of a class -/
theorem DqFs.lookup {H : Hp} {f : Str} {d : PyData} : ∀ {vs : List (Str × V)} {ds : List (Str × PyData)}, DqFs K H vs ds → ds.lookup f = some d → ∃ v, vs.lookup f = some v ∧ Dq K H v d
  | _, _, .nil, h => by cases h
  | (g, v) :: vs, (_, e) :: ds, .cons h1 t1, h => by
    rw [List.lookup_cons] at h ⊢
    by_cases z : (f == g) = true
    · rw [z] at h ⊢
      cases h
      exact ⟨v, rfl, h1⟩
    · have z : (f == g) = false := by simpa using z
      rw [z] at h ⊢
      exact t1.lookup h
theorem DqFs.append {H : Hp} {f : Str} {v : V} {d : PyData} : ∀ {vs : List (Str × V)} {ds : List (Str × PyData)}, DqFs K H vs ds → Dq K H v d → DqFs K H (vs ++ [(f, v)]) (ds ++ [(f, d)])
  | _, _, .nil, h => .cons h .nil
  | _, _, .cons h1 t1, h => .cons h1 (t1.append h)
/-- o.f of an object -/
theorem ev_fld {i : Nat} {C : Addr} {fs : List (Str × PyData)} {f : Str} {d : PyData} (hc : Cls K C) (hf : NoAttr K C f) (hi : Γ[i]? = some (.ins C fs)) (hd : fs.lookup f = some d) : EvD K (tFld K (tVar i) f) Γ (· = d) := fun G σ H ev iv Q q => by
  rcases ev.2 i _ hi with z | ⟨x, hx, a, dx, vs, ex, h1, h2⟩
  · cases z
  · subst ex
    obtain ⟨v, hv, dv⟩ := h2.lookup hd
    exact ⟨_, hx, a, C, dx, vs, v, rfl, G.sub h1, hc, hf, hv, q v d H iv .refl rfl dv⟩
/-- an argument that is any place -/
theorem es_slot {i : Nat} {s : Sl} {PS : List Sl → Prop} (hs : s ≠ .any) (h : Γ[i]? = some s) (t : EvS K ta Γ PS) : EvS K (tCons (tVar i) ta) Γ (fun ss => ∃ r, ss = s :: r ∧ PS r) := fun G σ H e i' Q q => by
  rcases e.2 i _ h with z | ⟨v, a, b⟩
  · exact absurd z hs
  · exact ⟨v, a, t G σ H e i' _ fun vs ss H2 i2 l2 p2 dqs => q (v :: vs) (s :: ss) H2 i2 l2 ⟨ss, rfl, p2⟩ (.cons (b.le l2) dqs)⟩
/-- an expression that is an object -/
def EvV (K : PySem.W.Frag) (te : TE) (Γ : List Sl) (s : Sl) : Prop := ∀ (G : Fr) (σ : L2.St) (H : Hp), EnvOk K G H σ Γ → G.inv H → ∀ Q : VK, (∀ v H', G.inv H' → G.le H H' → SlOk K G H' v s → Q v H') → te σ H Q
/-- what an __init__ promises: the object, of no attributes yet, kept aside -/
def spInit (K : PySem.W.Frag) (C : Addr) (pre : List PyData → Prop) (fields : List PyData → List (Str × PyData)) : Sp := fun vs H Q _ => ∃ (G : Fr) (x dx : Addr) (ws : List V) (ds : List PyData), vs = .ref x :: ws ∧ (G.own x (.ins C dx [])).inv H ∧ DqAll K ((G.own x (.ins C dx [])).view H) ws ds ∧ pre ds ∧
  ∀ H' us, (G.own x (.ins C dx us)).inv H' → Ex ((G.own x (.ins C dx [])).view H) ((G.own x (.ins C dx us)).view H') → DqFs K ((G.own x (.ins C dx us)).view H') us (fields ds) → Q .non H'
theorem ev_make {C : Addr} {pre : List PyData → Prop} {fields : List PyData → List (Str × PyData)} {E : XK} (ds : List PyData) (h : EvL' K ta Γ (· = ds)) (hp : pre ds) : EvV K (tMake C (spInit K C pre fields) [] E ta) Γ (.ins C (fields ds)) := fun G σ H ev iv Q q =>
  h G σ H ev iv _ fun vs ss H1 i1 l1 ⟨es, e1, e2⟩ dqs x dx hx hdx hne => by
    subst e2; subst e1
    have dqs := args_dats dqs
    obtain ⟨i2, l2, _⟩ := Fr.new (o := HO.own x) i1 hdx
    have hx2 : upd H1 dx (HO.own x) x = none := by rw [upd_ne (Ne.symm hne)]; exact hx
    obtain ⟨i3, v3⟩ := Fr.own_new (G := G) (o := HO.ins C dx []) i2 hx2
    rw [List.append_nil]
    refine ⟨G, x, dx, vs, es, rfl, i3, by rw [v3]; exact dqs.ex l2, hp, fun H' us i' e' f' => ⟨rfl, q (.ref x) H' i'.1 ?_ ⟨x, dx, us, rfl, i'.2, f'.ex Fr.own_sub⟩⟩⟩
    refine (l1.trans l2).trans fun c u hc => (hide_some (e' c u ?_)).2
    rw [v3]
    exact hc
end
end L2

set_option Elab.async false
set_option linter.all false
set_option maxRecDepth 100000
set_option maxHeartbeats 4000000
namespace L2
open PySem PySem.Spec PyProof.Rows
open Evl (Ex)
/-- a block of an __init__: the attributes ahead of it and behind it -/
def Inits (K : PySem.W.Frag) (C : Addr) (ts : TS) (Γ : List Sl) (j : Nat) (f0 f1 : List (Str × PyData)) : Prop := ∀ (G : Fr) (σ : L2.St) (H : Hp) (D : Ends) (x dx : Addr) (vs : List (Str × V)), EnvOk K (G.own x (.ins C dx vs)) H σ Γ → (G.own x (.ins C dx vs)).inv H → σ[j]? = some (some (.ref x)) → DqFs K ((G.own x (.ins C dx vs)).view H) vs f0 →
  (∀ σ' H' us, (G.own x (.ins C dx us)).inv H' → Ex ((G.own x (.ins C dx vs)).view H) ((G.own x (.ins C dx us)).view H') → DqFs K ((G.own x (.ins C dx us)).view H') us f1 → D.nx σ' H') → ts D σ H
section
variable {K : PySem.W.Frag} {C : Addr} {Γ : List Sl} {te tb : TE} {ta : TA} {P P1 P2 : PyData → Prop} {tu ts : TS} {tt : TT} {j : Nat} {f0 f1 : List (Str × PyData)}
theorem in_if (h : EvB K tt Γ (· = false)) (h2 : Inits K C tu Γ j f0 f1) : Inits K C (tSeq (tIfS tt ts tNext) tu) Γ j f0 f1 := fun G σ H D x dx vs ev iv hj hf k =>
  h _ σ H ev iv _ fun b H1 i1 l1 e => by
    subst e
    exact h2 G σ H1 _ x dx vs (ev.le l1) i1 hj (hf.ex l1) fun σ' H' us i' e' => k σ' H' us i' fun c u h => e' c u (l1 c u h)
theorem in_set {i : Nat} {d : PyData} (hi : i < Γ.length) (hij : i ≠ j) (h : EvD K te Γ (· = d)) (h2 : Inits K C tu (Γ.set i (.dat d)) j f0 f1) : Inits K C (tSeq (tAsg te (gName i)) tu) Γ j f0 f1 := fun G σ H D x dx vs ev iv hj hf k =>
  h _ σ H ev iv _ fun v e H1 i1 l1 p1 dq => by
    subst p1
    exact h2 G _ H1 _ x dx vs ((ev.le l1).set hi dq) i1 (by rw [List.getElem?_set_ne hij]; exact hj) (hf.ex l1) fun σ' H' us i' e' => k σ' H' us i' fun c u h => e' c u (l1 c u h)
theorem putF_new {f : Str} {v : V} : ∀ {vs : List (Str × V)}, vs.lookup f = none → putF f v vs = vs ++ [(f, v)]
  | [], _ => rfl
  | (g, u) :: vs, h => by
    rw [List.lookup_cons] at h
    have hg : (f == g) = false := by
      cases z : (f == g) with
      | false => rfl
      | true => rw [z] at h; cases h
    rw [hg] at h
    have hne : ¬ g = f := fun z => by rw [z, beq_self_eq_true] at hg; cases hg
    unfold putF
    first
      | rw [if_neg hne, putF_new h]; rfl
      | (rw [if_neg (by simpa using hne), putF_new h]; rfl)
      | (simp only [hne, if_false]; rw [putF_new h]; rfl)
theorem DqFs.none {H : Hp} {f : Str} : ∀ {vs : List (Str × V)} {ds : List (Str × PyData)}, DqFs K H vs ds → ds.lookup f = Option.none → vs.lookup f = Option.none ∧ vs.length = ds.length
  | _, _, .nil, _ => ⟨rfl, rfl⟩
  | (g, v) :: vs, (_, e) :: ds, .cons h1 t1, h => by
    rw [List.lookup_cons] at h ⊢
    cases z : (f == g) with
    | true => rw [z] at h; cases h
    | false =>
      rw [z] at h
      have := t1.none h
      exact ⟨this.1, congrArg (· + 1) this.2⟩
theorem fld_step {i : Nat} {f : Str} {d : PyData} (hc : Cls K C) (hn : NoAttr K C f) (hi : Γ[i]? = some (.dat d)) (hnew : f0.lookup f = none) (hlen : f0.length < 100) (hΓ : ∀ (q : Nat) s, q ≠ j → Γ[q]? = some s → s = .any ∨ ∃ z, s = .dat z) (hjΓ : Γ[j]? = some .any)
    {G : Fr} {σ : L2.St} {H : Hp} {D : Ends} {x dx : Addr} {vs : List (Str × V)} (ev : EnvOk K (G.own x (.ins C dx vs)) H σ Γ) (iv : (G.own x (.ins C dx vs)).inv H) (hj : σ[j]? = some (some (.ref x))) (hf : DqFs K ((G.own x (.ins C dx vs)).view H) vs f0)
    (k : ∀ us, EnvOk K (G.own x (.ins C dx us)) (upd H x (.ins C dx us)) σ Γ → (G.own x (.ins C dx us)).inv (upd H x (.ins C dx us)) → (G.own x (.ins C dx us)).view (upd H x (.ins C dx us)) = (G.own x (.ins C dx vs)).view H → DqFs K ((G.own x (.ins C dx us)).view (upd H x (.ins C dx us))) us (f0 ++ [(f, d)]) → D.nx σ (upd H x (.ins C dx us))) :
    sFld K (tVar j) (tVar i) f D σ H := by
  rcases ev.2 i _ hi with z | ⟨v, hv, dv⟩
  · cases z
  have hn2 := hf.none hnew
  refine ⟨v, hv, _, hj, x, C, dx, vs, rfl, Fr.own_at iv, hc, hn, by omega, ?_⟩
  rw [putF_new hn2.1]
  have st := Fr.own_set (o' := .ins C dx (vs ++ [(f, v)])) iv
  refine k _ (EnvOk.swap (j := j) (s := .any) (v := .ref x) ev (by rw [st.2]; exact fun _ _ h => h) rfl (fun q s hq hs => ?_) hj hjΓ trivial) st.1 st.2 (by rw [st.2]; exact hf.append dv)
  rcases hΓ q s hq hs with e | ⟨z, e⟩
  · exact .inl e
  · exact .inr ⟨z, e, hs⟩
theorem in_fld {i : Nat} {f : Str} {d : PyData} (hc : Cls K C) (hn : NoAttr K C f) (hi : Γ[i]? = some (.dat d)) (hnew : f0.lookup f = none) (hlen : f0.length < 100) (hΓ : ∀ (q : Nat) s, q ≠ j → Γ[q]? = some s → s = .any ∨ ∃ z, s = .dat z) (hjΓ : Γ[j]? = some .any)
    (h2 : Inits K C tu Γ j (f0 ++ [(f, d)]) f1) : Inits K C (tSeq (sFld K (tVar j) (tVar i) f) tu) Γ j f0 f1 := fun G σ H D x dx vs ev iv hj hf k =>
  fld_step hc hn hi hnew hlen hΓ hjΓ ev iv hj hf fun us ev' iv' vw' hf' => h2 G σ _ _ x dx us ev' iv' hj hf' fun σ' H' us' i' e' => k σ' H' us' i' fun c u h => e' c u (by rw [vw']; exact h)
theorem in_last {i : Nat} {f : Str} {d : PyData} (hc : Cls K C) (hn : NoAttr K C f) (hi : Γ[i]? = some (.dat d)) (hnew : f0.lookup f = none) (hlen : f0.length < 100) (hΓ : ∀ (q : Nat) s, q ≠ j → Γ[q]? = some s → s = .any ∨ ∃ z, s = .dat z) (hjΓ : Γ[j]? = some .any) :
    Inits K C (sFld K (tVar j) (tVar i) f) Γ j f0 (f0 ++ [(f, d)]) := fun G σ H D x dx vs ev iv hj hf k =>
  fld_step hc hn hi hnew hlen hΓ hjΓ ev iv hj hf fun us ev' iv' vw' hf' => k σ _ us iv' (by rw [vw']; exact fun _ _ h => h) hf'
/-- l[i] at some place -/
theorem ev_ixLW {ds : List PyData} (h : EvD K te Γ (· = .list ds)) (h2 : EvD K tb Γ (fun d => ∃ n : Nat, d = .int n ∧ n < ds.length)) : EvD K (tOp (rIxL K) te tb) Γ (· ∈ ds) := fun G σ H e i Q q =>
  h G σ H e i _ fun v d1 H1 i1 l1 p1 dq => h2 G σ H1 (e.le l1) i1 _ fun v2 d2 H2 i2 l2 ⟨n, p2, p3⟩ dq2 => by
    subst p1; subst p2
    cases dq2
    cases dq with
    | lst hs ha =>
      obtain ⟨x, hx, dx⟩ := ha.get' (List.getElem?_eq_getElem p3)
      exact ⟨_, _, _, x, rfl, rfl, Fr.upL (exL l2 hs), atI_nat hx, q _ _ H2 i2 (l1.trans l2) (List.getElem_mem p3) (dx.ex l2)⟩
/-- int(n) -/
theorem ev_int1 (h : EvD K te Γ (fun d => ∃ n, d = .int n ∧ P (.int n))) : EvD K (tCB (fun xs H Q => (∃ i, xs = [V.int i] ∧ Q (V.int i) H) ∨ ∃ k, xs = [V.bl k] ∧ Q (V.int (if k = true then 1 else 0)) H) (tCons te tNil)) Γ (fun d => ∃ n, d = .int n ∧ P (.int n)) := fun G σ H e i Q q =>
  h G σ H e i _ fun v d1 H1 i1 l1 ⟨n, p1, p2⟩ dq => by
    subst p1
    cases dq
    exact .inl ⟨n, rfl, q _ _ H1 i1 l1 ⟨n, rfl, p2⟩ (.int _)⟩
theorem ev_intB {b : Bool} (h : EvD K te Γ (· = .bool b)) : EvD K (tCB (fun xs H Q => (∃ i, xs = [V.int i] ∧ Q (V.int i) H) ∨ ∃ k, xs = [V.bl k] ∧ Q (V.int (if k = true then 1 else 0)) H) (tCons te tNil)) Γ (· = .int (if b = true then 1 else 0)) := fun G σ H e i Q q =>
  h G σ H e i _ fun v d1 H1 i1 l1 p1 dq => by
    subst p1
    cases dq
    exact .inr ⟨b, rfl, q _ _ H1 i1 l1 rfl (.int _)⟩
theorem el_consP {PL : List PyData → Prop} (h : EvD K te Γ P) (t : EvL' K ta Γ PL) : EvL' K (tCons te ta) Γ (fun ds => ∃ d r, ds = d :: r ∧ P d ∧ PL r) := el_cons h t
end
end L2

set_option Elab.async false
set_option linter.all false
set_option maxRecDepth 100000
set_option maxHeartbeats 4000000
/-! Lists that are filled by append, kept aside. -/
namespace L2
open PySem PySem.Spec PyProof.Rows
open Evl (Ex)
theorem IsW.ne {G : Fr} {a l : Addr} {q : Int} {o : HO} {H : Hp} (w : IsW (G.own l o) a q) (iv : (G.own l o).inv H) : a ≠ l := fun e => by
  obtain ⟨p, r, h⟩ := w.at_ iv
  have h1 := Fr.own_at (w.put (p := 0) (r := r) iv).1
  have h2 := Fr.own_at (w.put (p := 1) (r := r) iv).1
  rw [← e, upd_same] at h1 h2
  have h3 := h1.trans h2.symm
  injection h3 with h3
  injection h3 with h3
  injection h3 with h3
  injection h3 with h3
  exact absurd h3 (by decide)
/-- the well, another object aside -/
theorem IsW.swap {G : Fr} {a l : Addr} {q : Int} {o o' : HO} (w : IsW (G.own l o) a q) : IsW (G.own l o') a q := by
  have X : ∀ {H : Hp}, (G.own l o').inv H → (G.own l o).inv (upd H l o) ∧ (G.own l o).view (upd H l o) = (G.own l o').view H := fun iv => Fr.own_set (o := o') (o' := o) iv
  have ne : ∀ {H : Hp}, (G.own l o').inv H → a ≠ l := fun iv => w.ne (X iv).1
  refine ⟨fun {H} iv => ?_, w.hid, fun {H p r} iv => ?_⟩
  · obtain ⟨p, r, h⟩ := w.at_ (X iv).1
    rw [upd_ne (ne iv)] at h
    exact ⟨p, r, h⟩
  · have st := w.put (p := p) (r := r) (X iv).1
    have st2 := Fr.own_set (o' := o') st.1
    have e : upd (upd (upd H l o) a (.lst [.int p, .int q, .int r])) l o' = upd H a (.lst [.int p, .int q, .int r]) := by
      funext c
      by_cases h1 : c = l
      · subst h1
        rw [upd_same, upd_ne (Ne.symm (ne iv)), Fr.own_at iv]
      · rw [upd_ne h1]
        by_cases h2 : c = a
        · subst h2; rw [upd_same, upd_same]
        · rw [upd_ne h2, upd_ne h1, upd_ne h2]
    rw [e] at st2
    exact ⟨st2.1, st2.2.trans (st.2.trans (X iv).2)⟩
/-- what may stand in another place while a list is filled -/
def okS : Sl → Bool
  | .any => true
  | .dat _ => true
  | .well => true
  | .ins _ _ => true
  | .sem _ => true
  | _ => false
section
variable {K : PySem.W.Frag} {Γ Γ' Γ2 : List Sl} {te tb : TE} {ta : TA} {P P1 P2 : PyData → Prop} {tu ts : TS} {tt : TT} {wi : TI} {g : TG} {j : Nat} {ds : List PyData}
theorem SlOk.swap {G : Fr} {H H' : Hp} {l : Addr} {o o' : HO} {s : Sl} {v : V} (hs : okS s = true) (h : SlOk K (G.own l o) H v s) (e : Ex ((G.own l o).view H) ((G.own l o').view H')) : SlOk K (G.own l o') H' v s := by
  cases s with
  | any => trivial
  | dat d => exact Dq.ex e h
  | well => obtain ⟨a, q, e1, w⟩ := h; exact ⟨a, q, e1, w.swap⟩
  | ins C fs => obtain ⟨a, dx, vs, e1, e2, e3⟩ := h; exact ⟨a, dx, vs, e1, e _ _ e2, e3.ex e⟩
  | sem p => exact fun H2 e2 => h H2 fun b o hb => e2 b o (e b o hb)
  | _ => cases hs
theorem EnvOk.swapS {G : Fr} {H H' : Hp} {σ : L2.St} {l : Addr} {o o' : HO} {s : Sl} {v : V} (h : EnvOk K (G.own l o) H σ Γ) (e : Ex ((G.own l o).view H) ((G.own l o').view H')) (hl : Γ.length = Γ'.length) (hd : ∀ (q : Nat) s, q ≠ j → Γ'[q]? = some s → s = .any ∨ (okS s = true ∧ Γ[q]? = some s))
    (hj : σ[j]? = some (some v)) (hs : Γ'[j]? = some s) (hv : SlOk K (G.own l o') H' v s) : EnvOk K (G.own l o') H' σ Γ' := ⟨h.1.trans hl, fun q t ht => by
  by_cases e2 : q = j
  · subst e2
    rw [hs] at ht
    cases ht
    exact .inr ⟨v, hj, hv⟩
  · rcases hd q t e2 ht with e3 | ⟨e3, e4⟩
    · exact .inl e3
    · rcases h.2 q t e4 with e5 | ⟨x, h5, s5⟩
      · exact .inl e5
      · exact .inr ⟨x, h5, s5.swap e3 e⟩⟩
/-- all places but j may be kept -/
def Keep (Γ : List Sl) (j : Nat) : Prop := ∀ (q : Nat) s, q ≠ j → Γ[q]? = some s → okS s = true
/-- a block that may append to the list of place j -/
def Apps (K : PySem.W.Frag) (ts : TS) (Γ : List Sl) (j : Nat) (ds : List PyData) (N : List PyData → List Sl → Prop) : Prop := ∀ (G : Fr) (σ : L2.St) (H : Hp) (D : Ends) (l : Addr) (vs : List V), EnvOk K (G.own l (.lst vs)) H σ Γ → (G.own l (.lst vs)).inv H → σ[j]? = some (some (.ref l)) → DqAll K ((G.own l (.lst vs)).view H) vs ds →
  (∀ σ' H' us es Γ', (G.own l (.lst us)).inv H' → Ex ((G.own l (.lst vs)).view H) ((G.own l (.lst us)).view H') → EnvOk K (G.own l (.lst us)) H' σ' Γ' → σ'[j]? = some (some (.ref l)) → DqAll K ((G.own l (.lst us)).view H') us es → N es Γ' → D.nx σ' H') → ts D σ H
/-- a block that returns, the list of place j being kept aside -/
def RetL (K : PySem.W.Frag) (ts : TS) (Γ : List Sl) (j : Nat) (ds : List PyData) (P : PyData → Prop) : Prop := ∀ (G : Fr) (σ : L2.St) (H : Hp) (D : Ends) (l : Addr) (vs : List V), EnvOk K (G.own l (.lst vs)) H σ Γ → (G.own l (.lst vs)).inv H → σ[j]? = some (some (.ref l)) → DqAll K ((G.own l (.lst vs)).view H) vs ds →
  (∀ v d H', G.inv H' → Ex ((G.own l (.lst vs)).view H) (G.view H') → P d → Dq K (G.view H') v d → D.rt v H') → ts D σ H
variable {N : List PyData → List Sl → Prop}
theorem ap_set {i : Nat} (hi : i < Γ.length) (hij : i ≠ j) (h : EvD K te Γ P) (h2 : ∀ d, P d → Apps K tu (Γ.set i (.dat d)) j ds N) : Apps K (tSeq (tAsg te (gName i)) tu) Γ j ds N := fun G σ H D l vs ev iv hj hd k =>
  h _ σ H ev iv _ fun v d H1 i1 l1 p1 dq => h2 d p1 G _ H1 _ l vs ((ev.le l1).set hi dq) i1 (by rw [List.getElem?_set_ne hij]; exact hj) (hd.ex l1) fun σ' H' us es Γ' i' e' => k σ' H' us es Γ' i' fun c u h => e' c u (l1 c u h)
theorem ap_seq {N2 : List PyData → List Sl → Prop} (h : Apps K ts Γ j ds N2) (h2 : ∀ es Γ', N2 es Γ' → Apps K tu Γ' j es N) : Apps K (tSeq ts tu) Γ j ds N := fun G σ H D l vs ev iv hj hd k =>
  h G σ H _ l vs ev iv hj hd fun σ' H' us es Γ' i' e' ev' hj' hd' n' => h2 es Γ' n' G σ' H' _ l us ev' i' hj' hd' fun σ2 H2 us2 es2 Γ2 i2 e2 => k σ2 H2 us2 es2 Γ2 i2 fun c u h => e2 c u (e' c u h)
theorem ap_if {b : Bool} (h : EvB K tt Γ (· = b)) (h1 : b = true → Apps K ts Γ j ds N) (h2 : b = false → Apps K tu Γ j ds N) : Apps K (tIfS tt ts tu) Γ j ds N := fun G σ H D l vs ev iv hj hd k =>
  h _ σ H ev iv _ fun c H1 i1 l1 e => by
    subst e
    have go : ∀ {t : TS}, Apps K t Γ j ds N → t D σ H1 := fun h => h G σ H1 D l vs (ev.le l1) i1 hj (hd.ex l1) fun σ' H' us es Γ' i' e' => k σ' H' us es Γ' i' fun c u h => e' c u (l1 c u h)
    cases c with
    | true => exact go (h1 rfl)
    | false => exact go (h2 rfl)
theorem ap_next (hn : N ds Γ) : Apps K tNext Γ j ds N := fun G σ H D l vs ev iv hj hd k => k σ H vs ds Γ iv (fun _ _ h => h) ev hj hd hn
/-- found.append(e) -/
theorem ap_app (hk : Keep Γ j) (hjl : j < Γ.length) (hlen : ds.length < 1000) (h : EvD K te Γ P) (hn : ∀ e, P e → N (ds ++ [e]) (Γ.set j (.olst (ds ++ [e])))) : Apps K (tDrop (tBM K "list" rAppend (tVar j) (tCons te tNil))) Γ j ds N := fun G σ H D l vs ev iv hj hd k =>
  ⟨_, hj, .inl ⟨rfl, _, SqL.of (Fr.own_at iv)⟩, h _ σ H ev iv _ fun v e H1 i1 l1 p1 dq => by
    have hlv : vs.length < 1000 := by rw [hd.length]; exact hlen
    refine ⟨l, vs, v, rfl, rfl, Fr.own_at i1, by rw [sizeLine_eq]; omega, ?_⟩
    have st := Fr.own_set (o' := .lst (vs ++ [v])) i1
    have da : DqAll K ((G.own l (.lst (vs ++ [v]))).view (upd H1 l (.lst (vs ++ [v])))) (vs ++ [v]) (ds ++ [e]) := by
      rw [st.2]
      exact (hd.ex l1).append (.cons dq .nil)
    refine k σ _ (vs ++ [v]) (ds ++ [e]) _ st.1 (by rw [st.2]; exact l1) (EnvOk.swapS (j := j) (s := .olst (ds ++ [e])) (v := .ref l) (ev.le l1) (by rw [st.2]; exact fun _ _ h => h) (by rw [List.length_set]) (fun q s hq hs => ?_) hj (List.getElem?_set_self hjl) ⟨l, vs ++ [v], rfl, fun H' i => Fr.own_at i, da⟩) hj da (hn e p1)
    rw [List.getElem?_set_ne (fun z => hq z.symm)] at hs
    exact .inr ⟨hk q s hq hs, hs⟩⟩
theorem Apps.imp {N2 : List PyData → List Sl → Prop} (h : Apps K ts Γ j ds N) (hn : ∀ es Γ', N es Γ' → N2 es Γ') : Apps K ts Γ j ds N2 := fun G σ H D l vs ev iv hj hd k => h G σ H D l vs ev iv hj hd fun σ' H' us es Γ' i' e' ev' hj' hd' n' => k σ' H' us es Γ' i' e' ev' hj' hd' (hn es Γ' n')
/-- a loop of such turns: I i holds of the list ahead of the i-th turn -/
theorem ap_for {Γl : List PyData → List Sl} {vs : List Nat} {Nn : Nat → Prop} {Pi : Nat → PyData → Prop} {Nt : Nat → List PyData → PyData → List Sl} {I : Nat → List PyData → Prop} (hjv : j ∉ vs) (hjs : ∀ es, (Γl es)[j]? = some (.olst es)) (hkeep : ∀ es, Keep (Γl es) j)
    (hi : EvI0 K wi (Γl ds) Nn Pi) (h0 : I 0 ds) (hg : ∀ i es, I i es → TgOk K g vs (Γl es) (Pi i) (Nt i es))
    (hb : ∀ n i es d, Nn n → i < n → I i es → Pi i d → Apps K tu (Nt i es d) j es fun es' Γ' => I (i + 1) es' ∧ (Γl es').length = Γ'.length ∧ ∀ (q : Nat) s, q ≠ j → (Γl es')[q]? = some s → s = .any ∨ Γ'[q]? = some s)
    (hn : ∀ n es, Nn n → I n es → N es (Γl es)) : Apps K (tFor wi g tu) (Γl ds) j ds N := fun G σ H D l vs0 ev iv hj hd k => by
  refine hi (G.own l (.lst vs0)) σ H ev iv _ fun n J H1 hnn iv1 l1 w => ?_
  let Iv : Nat → L2.St → Hp → Prop := fun i σ' H' => ∃ us es, (G.own l (.lst us)).inv H' ∧ Ex ((G.own l (.lst vs0)).view H1) ((G.own l (.lst us)).view H') ∧ EnvOk K (G.own l (.lst us)) H' σ' (Γl es) ∧ σ'[j]? = some (some (.ref l)) ∧ DqAll K ((G.own l (.lst us)).view H') us es ∧ I i es
  refine ⟨fun i c σ' H' => c = n - i ∧ i ≤ n ∧ Iv i σ' H', ⟨n, by simp, Nat.zero_le _, vs0, ds, iv1, fun _ _ h => h, ev.le l1, hj, hd.ex l1, h0⟩, ?_⟩
  rintro i c σ2 H2 ⟨rfl, hle, us, es, iv2, e2, ev2, hj2, hd2, ii⟩
  have w2 := w (G.own l (.lst us)) H2 e2 iv2
  by_cases hlt : i < n
  · refine .inr ⟨(w2.1 i hlt).1, fun σ' H' => i + 1 ≤ n ∧ Iv (i + 1) σ' H', fun σ' H' h' => ⟨n - (i + 1), by omega, rfl, h'⟩, fun x H3 hy => ?_⟩
    obtain ⟨iv3, l3, d, pd, dq⟩ := (w2.1 i hlt).2 x H3 hy
    refine hg i es ii (G.own l (.lst us)) σ2 H3 x d (ev2.le l3) iv3 pd dq _ fun σ3 _ hs3 ev3 => ?_
    refine hb n i es d hnn hlt ii pd G σ3 H3 _ l us ev3 iv3 (by rw [hs3 j hjv]; exact hj2) (hd2.ex l3) fun σ4 H4 us4 es4 Γ4 iv4 e4 ev4 hj4 hd4 n4 => ⟨hlt, us4, es4, iv4, fun c u h => e4 c u (l3 c u (e2 c u h)), ⟨ev4.1.trans n4.2.1.symm, fun q s hs => ?_⟩, hj4, hd4, n4.1⟩
    by_cases hq : q = j
    · subst hq
      rw [hjs] at hs
      cases hs
      exact .inr ⟨_, hj4, l, us4, rfl, fun H' i' => Fr.own_at i', hd4⟩
    · rcases n4.2.2 q s hq hs with e5 | e5
      · exact .inl e5
      · exact ev4.2 q s e5
  · obtain rfl : i = n := by omega
    exact .inl ⟨w2.2, k σ2 H2 us es _ iv2 (fun c u h => e2 c u (l1 c u h)) ev2 hj2 hd2 (hn i es hnn ii)⟩
/-! ### blocks that return -/
theorem rl_seq (h : Apps K ts Γ j ds N) (h2 : ∀ es Γ', N es Γ' → RetL K tu Γ' j es P) : RetL K (tSeq ts tu) Γ j ds P := fun G σ H D l vs ev iv hj hd k =>
  h G σ H _ l vs ev iv hj hd fun σ' H' us es Γ' i' e' ev' hj' hd' n' => h2 es Γ' n' G σ' H' D l us ev' i' hj' hd' fun v d H2 i2 e2 => k v d H2 i2 fun c u h => e2 c u (e' c u h)
/-- return e -/
theorem rl_ret (h : EvD K te Γ P) : RetL K (tRet te) Γ j ds P := fun G σ H D l vs ev iv hj hd k =>
  h _ σ H ev iv _ fun v d H1 i1 l1 p1 dq => k v d H1 i1.1 (fun c u h => (hide_some (l1 c u h)).2) p1 (dq.ex Fr.own_sub)
/-- return found -/
theorem rl_retL : RetL K (tRet (tVar j)) Γ j ds (· = .list ds) := fun G σ H D l vs ev iv hj hd k =>
  ⟨_, hj, k _ _ H iv.1 Fr.own_sub rfl (.lst (.inl (.inl iv.2)) (hd.ex Fr.own_sub))⟩
/-- found = []; .. -/
theorem rs_newL (hjl : j < Γ.length) (hkeep : Keep Γ j) (h : RetL K tu (Γ.set j (.olst [])) j [] P) : Rets K (tSeq (tAsg (tLst tNil) (gName j)) tu) Γ P := fun G σ H D ev iv k =>
  ⟨Nat.zero_le _, fun p hp => by
    obtain ⟨iv1, vw1⟩ := Fr.own_new (G := G) (o := HO.lst []) iv hp
    refine h G _ _ D p [] ((ev.own (l := p) (o := .lst []) (H' := upd H p (.lst [])) (by rw [vw1]; exact fun _ _ h => h)).set hjl ⟨p, [], rfl, fun H' i => Fr.own_at i, .nil⟩) iv1 (List.getElem?_set_self (by rw [ev.1]; exact hjl)) .nil fun v d H' i' e' => k v d H' i' ?_
    rw [vw1] at e'
    exact e'⟩
/-- tuple(found) within an expression -/
theorem ev_tupleO {i : Nat} (h : Γ[i]? = some (.olst ds)) : EvD K (tThen (tVar i) (kTup K)) Γ (· = .tuple ds) := fun G σ H ev iv Q q => by
  rcases ev.2 i _ h with z | ⟨v, hv, a, vs, e1, e2, e3⟩
  · cases z
  · subst e1
    refine ⟨_, hv, .inl ⟨a, vs, rfl, SqL.of (e2 H iv), fun p hp => ?_⟩⟩
    obtain ⟨i2, l2, h2⟩ := Fr.new (o := HO.tup vs) iv hp
    exact q _ _ _ i2 l2 rfl (.tup (.inl (.inl h2)) (e3.ex l2))
theorem ev_lenO {i : Nat} (h : Γ[i]? = some (.olst ds)) : EvD K (tCB (fun xs H Q => ∃ p ys, xs = [V.ref p] ∧ (SqL K H p ys ∨ SqT K H p ys) ∧ Q (V.int (ys.length : Nat)) H) (tCons (tVar i) tNil)) Γ (· = .int ds.length) := fun G σ H ev iv Q q => by
  rcases ev.2 i _ h with z | ⟨v, hv, a, vs, e1, e2, e3⟩
  · cases z
  · subst e1
    exact ⟨_, hv, a, vs, rfl, .inl (SqL.of (e2 H iv)), q _ _ H iv .refl (by rw [e3.length]) (.int _)⟩
theorem ev_tupleP {Q : List PyData → Prop} (h : EvD K te Γ (fun d => ∃ es, d = .list es ∧ Q es)) : EvD K (tThen te (kTup K)) Γ (fun d => ∃ es, d = .tuple es ∧ Q es) := fun G σ H e i Qv q =>
  h G σ H e i _ fun v d1 H1 i1 l1 ⟨es, p1, p2⟩ dq => by
    subst p1
    cases dq with
    | lst hs ha =>
      refine .inl ⟨_, _, rfl, Fr.upL hs, fun p hp => ?_⟩
      obtain ⟨i2, l2, h2⟩ := Fr.new (o := HO.tup _) i1 hp
      exact q _ _ _ i2 (l1.trans l2) ⟨es, rfl, p2⟩ (.tup (.inl (.inl h2)) (ha.ex l2))
/-- three things in a tuple -/
theorem ev_tup3 {ta' : TA} {te1 te2 te3 : TE} {P1 P2 P3 : PyData → Prop} (h1 : EvD K te1 Γ P1) (h2 : EvD K te2 Γ P2) (h3 : EvD K te3 Γ P3) : EvD K (tTup (tCons te1 (tCons te2 (tCons te3 tNil)))) Γ (fun d => ∃ a b c, d = .tuple [a, b, c] ∧ P1 a ∧ P2 b ∧ P3 c) :=
  (ev_tup (el_cons h1 (el_cons h2 (el_cons h3 el_nil))) fun ds ⟨a, r, e, _, b, r2, e2, _, c, r3, e3, _, e4⟩ => by rw [e, e2, e3, e4]; exact Nat.le_of_ble_eq_true rfl).imp fun d ⟨ds, e0, a, r, e, p1, b, r2, e2, p2, c, r3, e3, p3, e4⟩ => ⟨a, b, c, by rw [e0, e, e2, e3, e4], p1, p2, p3⟩
/-! ### dict(pairs) -/
theorem pairsQ_of {H : Hp} : ∀ {xs : List V} {m : List (Str × PyData)}, DqAll K H xs (m.map fun p => .tuple [.str p.1, p.2]) → ∃ (ps : List Addr) (kvs : List (Key × V)), xs = ps.map V.ref ∧ Paired (fun p kv => SqT K H p [kV kv.fst, kv.snd]) ps kvs ∧ DqKv K H kvs (m.map fun p => (.str p.1, p.2)) ∧ kvs.map (·.1) = m.map fun p => (Sum.inr p.1 : Key)
  | [], [], .nil => ⟨[], [], rfl, .nil, .nil, rfl⟩
  | x :: xs, (s, d) :: m, h => by
    rw [List.map_cons] at h
    cases h with
    | cons h1 t1 =>
      obtain ⟨ps, kvs, e1, e2, e3, e4⟩ := pairsQ_of t1
      cases h1 with
      | @tup a ys _ hs ha =>
        cases ha with
        | cons a1 t2 =>
          cases t2 with
          | cons a2 t3 =>
            cases t3
            cases a1
            exact ⟨a :: ps, (.inr s, _) :: kvs, by rw [e1]; rfl, .cons hs e2, .cons (k := .inr s) a2 e3, by rw [List.map_cons, List.map_cons, e4]⟩
theorem paired_mono {α β : Type} {R S : α → β → Prop} (h : ∀ a b, R a b → S a b) : ∀ {xs : List α} {ys : List β}, Paired R xs ys → Paired S xs ys
  | _, _, .nil => .nil
  | _, _, .cons a t => .cons (h _ _ a) (paired_mono h t)
theorem putK_fresh' {kvs : List (Key × V)} {k : Key} {v : V} (h : k ∉ kvs.map (·.1)) : putK kvs k v = kvs ++ [(k, v)] := by
  unfold putK
  rw [if_neg]
  intro z
  obtain ⟨x, hx, e⟩ := List.any_eq_true.mp z
  exact h (List.mem_map.mpr ⟨x, hx, of_decide_eq_true e⟩)
theorem mergeK_new : ∀ (kvs acc : List (Key × V)), ((acc ++ kvs).map (·.1)).Nodup → mergeK acc kvs = acc ++ kvs
  | [], acc, _ => by rw [List.append_nil]; rfl
  | (k, v) :: kvs, acc, h => by
    have h1 : k ∉ acc.map (·.1) := fun z => by
      rw [List.map_append, List.nodup_append] at h
      exact h.2.2 k z k (by simp) rfl
    show mergeK (putK acc k v) kvs = _
    rw [putK_fresh' h1, mergeK_new kvs (acc ++ [(k, v)]) (by rw [List.append_assoc]; exact h), List.append_assoc]
    rfl
theorem ev_dict {m : List (Str × PyData)} (hn : (m.map (·.1)).Nodup) (h : EvD K te Γ (· = .list (m.map fun p => .tuple [.str p.1, p.2]))) :
    EvD K (tCB (fun xs H Q => ∃ a ps kvs, xs = [V.ref a] ∧ SqL K H a (List.map V.ref ps) ∧ Paired (fun p kv => SqT K H p [kV kv.fst, kv.snd]) ps kvs ∧ ∀ (p : Addr), H p = none → Q (V.ref p) (upd H p (HO.dK (mergeK [] kvs)))) (tCons te tNil)) Γ (· = dictD m) := fun G σ H e i Q q =>
  h G σ H e i _ fun v d1 H1 i1 l1 p1 dq => by
    subst p1
    cases dq with
    | @lst a xs _ hs ha =>
      obtain ⟨ps, kvs, e1, e2, e3, e4⟩ := pairsQ_of ha
      subst e1
      refine ⟨a, ps, kvs, rfl, Fr.upL hs, ?_, fun p hp => ?_⟩
      · exact paired_mono (fun _ _ h => Fr.upT h) e2
      · have hm : mergeK [] kvs = kvs := by
          rw [mergeK_new kvs [] ?_]
          · rfl
          · rw [List.nil_append, e4]
            have : (m.map fun p => (Sum.inr p.1 : Key)) = (m.map (·.1)).map Sum.inr := by rw [List.map_map]; rfl
            rw [this]
            exact List.Pairwise.map _ (fun a b h e => h (by injection e)) hn
        rw [hm]
        obtain ⟨i2, l2, h2⟩ := Fr.new (o := HO.dK kvs) i1 hp
        exact q _ _ _ i2 (l1.trans l2) rfl (.dic h2 (e3.ex l2))
end
end L2

set_option Elab.async false
set_option linter.all false
set_option maxRecDepth 100000
set_option maxHeartbeats 4000000
/-! Slices, sums of lists and of tuples. -/
namespace L2
open PySem PySem.Spec PyProof.Rows
open Evl (Ex)
def cutQ (ds : List PyData) (lo hi : Option Int) : List PyData := List.take (HT.sIx ds.length ds.length hi - HT.sIx ds.length 0 lo) (List.drop (HT.sIx ds.length 0 lo) ds)
/-- the part of a slice ahead of the colon, or behind it -/
def EvO (K : PySem.W.Frag) (to : TO) (Γ : List Sl) (o : Option Int) : Prop := ∀ (G : Fr) (σ : L2.St) (H : Hp), EnvOk K G H σ Γ → G.inv H → ∀ Q : Option Int → Hp → Prop, (∀ H', G.inv H' → G.le H H' → Q o H') → to σ H Q
section
variable {K : PySem.W.Frag} {Γ : List Sl} {te tb : TE} {tl th : TO} {lo hi : Option Int} {ds es : List PyData}
theorem eo_none : EvO K tNoPart Γ none := fun G σ H ev iv Q q => q H iv .refl
theorem eo_some {n : Int} (h : EvD K te Γ (· = .int n)) : EvO K (tPart te) Γ (some n) := fun G σ H ev iv Q q => h G σ H ev iv _ fun v d H1 i1 l1 p1 dq => by
  subst p1
  cases dq
  exact ⟨n, rfl, q H1 i1 l1⟩
theorem DqAll.cut {H : Hp} {xs : List V} {ds : List PyData} (h : DqAll K H xs ds) : DqAll K H (cutV xs lo hi) (cutQ ds lo hi) := by
  unfold cutV cutQ
  rw [h.length]
  exact (h.drop _).take _
theorem ev_slL (h : EvD K te Γ (· = .list ds)) (h1 : EvO K tl Γ lo) (h2 : EvO K th Γ hi) : EvD K (tSl (rSlL K) te tl th) Γ (· = .list (cutQ ds lo hi)) := fun G σ H e i Q q =>
  h G σ H e i _ fun v d1 H1 i1 l1 p1 dq => h1 G σ H1 (e.le l1) i1 _ fun H2 i2 l2 => h2 G σ H2 (e.le (l1.trans l2)) i2 _ fun H3 i3 l3 => by
    subst p1
    cases dq with
    | @lst a xs _ hs ha =>
      refine ⟨a, xs, rfl, Fr.upL (exL l3 (exL l2 hs)), fun p hp => ?_⟩
      obtain ⟨i4, l4, h4⟩ := Fr.new (o := HO.lst (cutV xs lo hi)) i3 hp
      exact q _ _ _ i4 (((l1.trans l2).trans l3).trans l4) rfl (.lst (.inl (.inl h4)) (((ha.cut.ex l2).ex l3).ex l4))
theorem cutQ_all (h1 : HT.sIx ds.length 0 lo = 0) (h2 : HT.sIx ds.length ds.length hi = ds.length) : cutQ ds lo hi = ds := by
  unfold cutQ
  rw [h1, h2]
  simp
theorem ev_slT (h : EvD K te Γ (· = .tuple ds)) (h1 : EvO K tl Γ lo) (h2 : EvO K th Γ hi) : EvD K (tSl (rSlA K) te tl th) Γ (· = .tuple (cutQ ds lo hi)) := fun G σ H e i Q q =>
  h G σ H e i _ fun v d1 H1 i1 l1 p1 dq => h1 G σ H1 (e.le l1) i1 _ fun H2 i2 l2 => h2 G σ H2 (e.le (l1.trans l2)) i2 _ fun H3 i3 l3 => by
    subst p1
    cases dq with
    | @tup a xs _ hs ha =>
      refine ⟨a, xs, rfl, Fr.upT (exT l3 (exT l2 hs)), fun c => ?_, fun _ p hp => ?_⟩
      · rw [ha.length] at c
        exact q _ _ _ i3 ((l1.trans l2).trans l3) rfl (by rw [cutQ_all c.1 c.2]; exact .tup (exT l3 (exT l2 hs)) ((ha.ex l2).ex l3))
      · obtain ⟨i4, l4, h4⟩ := Fr.new (o := HO.tup (cutV xs lo hi)) i3 hp
        exact q _ _ _ i4 (((l1.trans l2).trans l3).trans l4) rfl (.tup (.inl (.inl h4)) (((ha.cut.ex l2).ex l3).ex l4))
/-- t + u -/
theorem ev_catT (hn : ds.length + es.length ≤ 100000) (h : EvD K te Γ (· = .tuple ds)) (h2 : EvD K tb Γ (· = .tuple es)) : EvD K (tOp (rCatA K) te tb) Γ (· = .tuple (ds ++ es)) := fun G σ H e i Q q =>
  h G σ H e i _ fun v d1 H1 i1 l1 p1 dq => h2 G σ H1 (e.le l1) i1 _ fun v2 d2 H2 i2 l2 p2 dq2 => by
    subst p1; subst p2
    cases dq with
    | @tup a xs _ hs ha =>
      cases dq2 with
      | @tup b ys _ ks ka =>
        refine ⟨a, b, xs, ys, rfl, rfl, Fr.upT (exT l2 hs), Fr.upT ks, by rw [ha.length, ka.length, sizeLine_eq]; omega, fun c => ?_, fun _ c => ?_, fun _ _ p hp => ?_⟩
        · subst c
          cases ha
          exact q _ _ _ i2 (l1.trans l2) rfl (.tup ks ka)
        · subst c
          cases ka
          exact q _ _ _ i2 (l1.trans l2) rfl (by rw [List.append_nil]; exact .tup (exT l2 hs) (ha.ex l2))
        · obtain ⟨i4, l4, h4⟩ := Fr.new (o := HO.tup (xs ++ ys)) i2 hp
          exact q _ _ _ i4 ((l1.trans l2).trans l4) rfl (.tup (.inl (.inl h4)) (((ha.ex l2).append ka).ex l4))
/-- l + m -/
theorem ev_catL (hn : ds.length + es.length ≤ 100000) (h : EvD K te Γ (· = .list ds)) (h2 : EvD K tb Γ (· = .list es)) : EvD K (tOp (rCatS K) te tb) Γ (· = .list (ds ++ es)) := fun G σ H e i Q q =>
  h G σ H e i _ fun v d1 H1 i1 l1 p1 dq => h2 G σ H1 (e.le l1) i1 _ fun v2 d2 H2 i2 l2 p2 dq2 => by
    subst p1; subst p2
    cases dq with
    | @lst a xs _ hs ha =>
      cases dq2 with
      | @lst b ys _ ks ka =>
        refine ⟨a, b, xs, ys, rfl, rfl, Fr.upL (exL l2 hs), Fr.upL ks, by rw [ha.length, ka.length, sizeLine_eq]; omega, fun p hp => ?_⟩
        obtain ⟨i4, l4, h4⟩ := Fr.new (o := HO.lst (xs ++ ys)) i2 hp
        exact q _ _ _ i4 ((l1.trans l2).trans l4) rfl (.lst (.inl (.inl h4)) (((ha.ex l2).append ka).ex l4))
/-- (d,) * n -/
theorem ev_rep1 {d : PyData} {n : Nat} (hn : n ≤ 1000) (h : EvD K te Γ (· = .tuple [d])) (h2 : EvD K tb Γ (· = .int n)) : EvD K (tOp (rRepA K) te tb) Γ (· = .tuple (List.replicate n d)) := fun G σ H e i Q q =>
  h G σ H e i _ fun v d1 H1 i1 l1 p1 dq => h2 G σ H1 (e.le l1) i1 _ fun v2 d2 H2 i2 l2 p2 dq2 => by
    subst p1; subst p2
    cases dq2
    cases dq with
    | @tup a xs _ hs ha =>
      have hl := ha.length
      match xs, hl, ha with
      | [x], _, ha =>
        have hx : Dq K (G.view H2) x d := by
          cases ha with
          | cons h1 _ => exact h1.ex l2
        have hr : ∀ (k : Nat) {H' : Hp}, Dq K H' x d → DqAll K H' (List.replicate k [x]).flatten (List.replicate k d) := fun k {H'} hx => by
          induction k with
          | zero => exact .nil
          | succ k ih => exact .cons hx ih
        refine ⟨a, n, [x], rfl, rfl, Fr.upT (exT l2 hs), by simp, hn, by simp, fun e1 => ?_, fun e1 p hp => ?_⟩
        · subst e1
          exact q _ _ _ i2 (l1.trans l2) rfl (.tup (exT l2 hs) (.cons hx .nil))
        · obtain ⟨i4, l4, h4⟩ := Fr.new (o := HO.tup (List.replicate n [x]).flatten) i2 hp
          exact q _ _ _ i4 ((l1.trans l2).trans l4) rfl (.tup (.inl (.inl h4)) (hr n (hx.ex l4)))
theorem rs_ifP {ts tu : TS} {tt : TT} {Pb : Bool → Prop} {P : PyData → Prop} (h : EvB K tt Γ Pb) (h1 : Pb true → Rets K ts Γ P) (h2 : Pb false → Rets K tu Γ P) : Rets K (tSeq (tIfS tt ts tNext) tu) Γ P := fun G σ H D ev iv k =>
  h G σ H ev iv _ fun c H1 iv1 l1 e => by
    cases c with
    | true => exact h1 e G σ H1 _ (ev.le l1) iv1 fun v d H2 iv2 l2 p dq => k v d H2 iv2 (l1.trans l2) p dq
    | false => exact h2 e G σ H1 _ (ev.le l1) iv1 fun v d H2 iv2 l2 p dq => k v d H2 iv2 (l1.trans l2) p dq
theorem cutQ_take {n : Nat} (h : n ≤ ds.length) : cutQ ds none (some (n : Int)) = ds.take n := by
  unfold cutQ HT.sIx
  have h1 : ¬ ((n : Int) < 0) := by omega
  simp only [h1, if_false, Int.toNat_natCast, List.drop_zero, Nat.sub_zero]
  rw [Nat.min_eq_left h]
theorem cutQ_drop {n : Nat} (h : n ≤ ds.length) : cutQ ds (some (n : Int)) none = ds.drop n := by
  unfold cutQ HT.sIx
  have h1 : ¬ ((n : Int) < 0) := by omega
  simp only [h1, if_false, Int.toNat_natCast]
  rw [Nat.min_eq_left h, List.take_of_length_le]
  rw [List.length_drop]
  exact Nat.le_refl _
end
end L2

set_option Elab.async false
set_option linter.all false
set_option maxRecDepth 100000
set_option maxHeartbeats 4000000
/-! Two lists that are kept aside until a call has taken them. -/
namespace L2
open PySem PySem.Spec PyProof.Rows
open Evl (Ex)
/-! ### data without lists -/
mutual
def noL : PyData → Bool
  | .list _ => false
  | .dict _ => false
  | .tuple ds => noLs ds
  | _ => true
def noLs : List PyData → Bool
  | [] => true
  | d :: ds => noL d && noLs ds
end
theorem noLs_all : ∀ {ds : List PyData}, (∀ d ∈ ds, noL d = true) → noLs ds = true
  | [], _ => rfl
  | d :: ds, h => by
    rw [noLs, h d List.mem_cons_self, noLs_all fun e he => h e (List.mem_cons_of_mem _ he)]
    rfl
section
variable {K : PySem.W.Frag} {H : Hp} {l : Addr} {xs ys : List V}
theorem sqT_updL {a : Addr} {zs : List V} (hl : H l = some (.lst xs)) (h : SqT K H a zs) : SqT K (upd H l (.lst ys)) a zs := by
  rcases h with (h | ⟨o, h⟩) | h
  · refine .inl (.inl ?_)
    rw [upd_ne (by rintro rfl; rw [hl] at h; cases h)]
    exact h
  · refine .inl (.inr ⟨o, ?_⟩)
    rw [upd_ne (by rintro rfl; rw [hl] at h; cases h)]
    exact h
  · exact .inr h
mutual
theorem Dq.updL (hl : H l = some (.lst xs)) : ∀ {v : V} {d : PyData}, Dq K H v d → noL d = true → Dq K (upd H l (.lst ys)) v d
  | _, _, .non, _ => .non
  | _, _, .bl b, _ => .bl b
  | _, _, .int i, _ => .int i
  | _, _, .str x, _ => .str x
  | _, _, .lst _ _, n => by rw [noL] at n; cases n
  | _, _, .tup h t, n => .tup (sqT_updL hl h) (DqAll.updL hl t (by rw [noL] at n; exact n))
  | _, _, .dic _ _, n => by rw [noL] at n; cases n
theorem DqAll.updL (hl : H l = some (.lst xs)) : ∀ {vs : List V} {ds : List PyData}, DqAll K H vs ds → noLs ds = true → DqAll K (upd H l (.lst ys)) vs ds
  | _, _, .nil, _ => .nil
  | _, _, .cons h t, n => by
    rw [noLs, Bool.and_eq_true] at n
    exact .cons (Dq.updL hl h n.1) (DqAll.updL hl t n.2)
end
theorem DqFs.updL (hl : H l = some (.lst xs)) : ∀ {vs : List (Str × V)} {ds : List (Str × PyData)}, DqFs K H vs ds → (∀ x ∈ ds, noL x.2 = true) → DqFs K (upd H l (.lst ys)) vs ds
  | _, _, .nil, _ => .nil
  | _, _, .cons h t, n => .cons (h.updL hl (n _ List.mem_cons_self)) (t.updL hl fun x hx => n x (List.mem_cons_of_mem _ hx))
end
section
variable {K : PySem.W.Frag} {Γ Γ' : List Sl} {te tb tl : TE} {ta : TA} {wi : TI} {g : TG} {tu ts : TS} {tt : TT} {P P' : PyData → Prop} {PL : List PyData → Prop} {i j : Nat} {as ds : List PyData}
/-- an expression that makes a new list -/
def EvN (K : PySem.W.Frag) (te : TE) (Γ : List Sl) (P : List PyData → Prop) : Prop := ∀ (G : Fr) (σ : L2.St) (H : Hp), EnvOk K G H σ Γ → G.inv H → ∀ Q : VK, (∀ l vs ds H', (G.own l (.lst vs)).inv H' → Ex (G.view H) ((G.own l (.lst vs)).view H') → P ds → DqAll K ((G.own l (.lst vs)).view H') vs ds → Q (.ref l) H') → te σ H Q
/-- a comprehension -/
theorem en_lc {Nn : Nat → Prop} {vs : List Nat} {Pi : Nat → PyData → Prop} {N : PyData → List Sl} {R : Nat → PyData → PyData → Prop} (hn : ∀ n, Nn n → n < 100000) (hi : EvI K wi Γ Nn Pi) (hg : ∀ i, TgOk K g vs (wipeΓ Γ vs) (Pi i) N) (he : ∀ i d, Pi i d → EvD K te (N d) (R i d)) :
    EvN K (tLc wi g tYes te vs) Γ (fun es => Nn es.length ∧ ∀ i e, es[i]? = some e → ∃ d, Pi i d ∧ R i d e) := fun G σ H ev iv Q q => by
  refine hi G σ H ev iv _ fun n J H1 hnn iv1 l1 w D hD => ?_
  have hn := hn n hnn
  have ho := Fr.own_new (G := G) (o := HO.lst []) iv1 hD
  let Iv : Nat → Hp → Prop := fun i H => ∃ (acc : List V) (es : List PyData), (G.own D (.lst acc)).inv H ∧ Ex (G.view H1) ((G.own D (.lst acc)).view H) ∧ acc.length = i ∧ DqAll K ((G.own D (.lst acc)).view H) acc es ∧ ∀ j e, es[j]? = some e → ∃ d, Pi j d ∧ R j d e
  refine ⟨fun i m H => m = n - i ∧ i ≤ n ∧ Iv i H, ⟨n, by simp, Nat.zero_le _, [], [], ho.1, by rw [ho.2]; exact fun _ _ h => h, rfl, .nil, fun j e h => by simp at h⟩, ?_⟩
  rintro i m H2 ⟨rfl, hle, acc, es, iv2, e2, hlen, dqs, hR⟩
  have w2 := w (G.own D (.lst acc)) H2 (fun _ i => i.1) e2 iv2
  by_cases hlt : i < n
  · refine .inr ⟨(w2.1 i hlt).1, fun H => i + 1 ≤ n ∧ Iv (i + 1) H, fun H' h' => ⟨n - (i + 1), by omega, rfl, h'⟩, fun x H3 hy => ?_⟩
    obtain ⟨iv3, l3, d, pd, dq⟩ := (w2.1 i hlt).2 x H3 hy
    have ev3 : EnvOk K (G.own D (.lst acc)) H3 σ Γ := (ev.le l1).own fun c u h => l3 c u (e2 c u h)
    refine hg i (G.own D (.lst acc)) (L2.wipe σ vs) H3 x d (ev3.wipe vs) iv3 pd dq _ fun σ2 hl2 hs2 ev4 => ⟨wipe_eq hl2 hs2, ?_⟩
    refine he i d pd (G.own D (.lst acc)) σ2 H3 ev4 iv3 _ fun y e H4 iv4 l4 r4 dq4 => ⟨acc, Fr.own_at iv4, ?_, hlt, acc ++ [y], es ++ [e], ?_⟩
    · rw [hlen, sizeLine_eq]; omega
    · have st := Fr.own_set (o' := .lst (acc ++ [y])) iv4
      refine ⟨st.1, fun c u h => ?_, by simp [hlen], ?_, fun j z hz => ?_⟩
      · show (G.own D (.lst (acc ++ [y]))).view _ c = _
        rw [st.2]
        exact l4 c u (l3 c u (e2 c u h))
      · show DqAll K ((G.own D (.lst (acc ++ [y]))).view _) _ _
        rw [st.2]
        exact ((dqs.ex l3).ex l4).append (.cons dq4 .nil)
      · by_cases hj : j < es.length
        · rw [List.getElem?_append_left hj] at hz
          exact hR j z hz
        · have hel : es.length = i := by rw [← dqs.length]; exact hlen
          rw [List.getElem?_append_right (by omega)] at hz
          have : j - es.length = 0 := by
            have := (List.getElem?_eq_some_iff.mp hz).1
            simp at this
            omega
          rw [this] at hz
          simp at hz
          subst hz
          have hji : j = i := by omega
          subst hji
          exact ⟨d, pd, r4⟩
  · obtain rfl : i = n := by omega
    exact .inl ⟨w2.2, q D acc es H2 iv2 (fun c u h => e2 c u (l1 c u h)) ⟨by rw [← dqs.length, hlen]; exact hnn, hR⟩ dqs⟩
/-- list(xs) -/
theorem en_listOf {ds : List PyData} (h : EvL' K ta Γ (fun zs => zs = [.list ds] ∨ zs = [.tuple ds])) : EvN K (tCB (fun xs H Q => ∃ p ys, xs = [.ref p] ∧ (SqL K H p ys ∨ SqT K H p ys) ∧ ∀ l, H l = none → Q (.ref l) (upd H l (.lst ys))) ta) Γ (· = ds) := fun G σ H ev iv Q q =>
  h G σ H ev iv _ fun vs ss H1 iv1 l1 ⟨zs, e1, e2⟩ dqs => by
    subst e1
    have fin : ∀ {xs : List V}, DqAll K (G.view H1) xs ds → ∀ p, H1 p = none → Q (.ref p) (upd H1 p (.lst xs)) := fun {xs} ha p hp => by
      obtain ⟨i3, v3⟩ := Fr.own_new (G := G) (o := HO.lst xs) iv1 hp
      exact q p xs ds _ i3 (by rw [v3]; exact l1) rfl (by rw [v3]; exact ha)
    rcases e2 with e2 | e2
    · subst e2
      have dqs := args_dats dqs
      cases dqs with
      | cons h1 t1 =>
        cases t1
        cases h1 with
        | @lst a xs _ hs ha => exact ⟨a, xs, rfl, .inl (Fr.upL hs), fin ha⟩
    · subst e2
      have dqs := args_dats dqs
      cases dqs with
      | cons h1 t1 =>
        cases t1
        cases h1 with
        | @tup a xs _ hs ha => exact ⟨a, xs, rfl, .inr (Fr.upT hs), fin ha⟩
/-- two lists aside -/
abbrev own2 (G : Fr) (l : Addr) (vs : List V) (m : Addr) (us : List V) : Fr := (G.own l (.lst vs)).own m (.lst us)
/-- a block that returns, the lists of the places i and j being kept aside, the well in place 0 -/
def RetM (K : PySem.W.Frag) (ts : TS) (Γ : List Sl) (i : Nat) (as : List PyData) (j : Nat) (ds : List PyData) (P : PyData → Prop) : Prop := ∀ (G : Fr) (σ : L2.St) (H : Hp) (D : Ends) (l : Addr) (vs : List V) (m : Addr) (us : List V),
  EnvOk K (own2 G l vs m us) H σ Γ → (own2 G l vs m us).inv H → (∃ a q, σ[0]? = some (some (.ref a)) ∧ IsW G a q) → σ[i]? = some (some (.ref l)) → DqAll K ((own2 G l vs m us).view H) vs as → σ[j]? = some (some (.ref m)) → DqAll K ((own2 G l vs m us).view H) us ds →
  (∀ v d H', G.inv H' → Ex ((own2 G l vs m us).view H) (G.view H') → P d → Dq K (G.view H') v d → D.rt v H') → ts D σ H
theorem rm_set {q : Nat} (hq : q < Γ.length) (h0 : q ≠ 0) (hi : q ≠ i) (hj : q ≠ j) (h : EvD K te Γ P') (h2 : ∀ d, P' d → RetM K tu (Γ.set q (.dat d)) i as j ds P) : RetM K (tSeq (tAsg te (gName q)) tu) Γ i as j ds P := fun G σ H D l vs m us ev iv ⟨a, r, e0, w0⟩ e1 d1 e2 d2 k =>
  h _ σ H ev iv _ fun v d H1 i1 l1 p1 dq => h2 d p1 G _ H1 D l vs m us ((ev.le l1).set hq dq) i1 ⟨a, r, by rw [List.getElem?_set_ne h0]; exact e0, w0⟩ (by rw [List.getElem?_set_ne hi]; exact e1) (d1.ex l1) (by rw [List.getElem?_set_ne hj]; exact e2) (d2.ex l1) fun v d H' i' e' => k v d H' i' fun c u h => e' c u (l1 c u h)
theorem rm_if (h : EvB K tt Γ (· = false)) (h2 : RetM K tu Γ i as j ds P) : RetM K (tSeq (tIfS tt ts tNext) tu) Γ i as j ds P := fun G σ H D l vs m us ev iv e0 e1 d1 e2 d2 k =>
  h _ σ H ev iv _ fun c H1 i1 l1 e => by
    subst e
    exact h2 G σ H1 D l vs m us (ev.le l1) i1 e0 e1 (d1.ex l1) e2 (d2.ex l1) fun v d H' i' e' => k v d H' i' fun c u h => e' c u (l1 c u h)
/-- for x in xs: found.append(e) -/
theorem rm_for {n : Nat} {vs0 : List Nat} {Pi : Nat → PyData → Prop} {Nt : PyData → List Sl} {I : Nat → List PyData → Prop} (h0v : 0 ∉ vs0) (hiv : i ∉ vs0) (hjv : j ∉ vs0) (hΓj : Γ[j]? = some .any) (hk : ∀ (q : Nat) s, Γ[q]? = some s → okS s = true)
    (hi : EvI0 K wi Γ (· = n) Pi) (hg : ∀ q, TgOk K g vs0 Γ (Pi q) Nt) (hw : ∀ d, (Nt d).length = Γ.length ∧ ∀ (k : Nat) s, Γ[k]? = some s → s = .any ∨ (Nt d)[k]? = some s)
    (hI : I 0 ds) (hlen : ∀ q es, I q es → es.length < 1000) (he : ∀ q es d, q < n → I q es → Pi q d → EvD K te (Nt d) (fun e => I (q + 1) (es ++ [e])))
    (h2 : ∀ es, I n es → RetM K tu Γ i as j es P) : RetM K (tSeq (tFor wi g (tDrop (tBM K "list" rAppend (tVar j) (tCons te tNil)))) tu) Γ i as j ds P := fun G σ H D l vs m us ev iv ⟨aw, qw, ew, ww⟩ e1 d1 e2 d2 k => by
  refine hi (own2 G l vs m us) σ H ev iv _ fun n' J H1 hn iv1 l1 w => ?_
  subst hn
  let Iv : Nat → L2.St → Hp → Prop := fun c σ' H' => ∃ us' es, (own2 G l vs m us').inv H' ∧ Ex ((own2 G l vs m us).view H1) ((own2 G l vs m us').view H') ∧ EnvOk K (own2 G l vs m us') H' σ' Γ ∧ σ'[0]? = σ[0]? ∧ σ'[i]? = σ[i]? ∧ σ'[j]? = σ[j]? ∧ DqAll K ((own2 G l vs m us').view H') vs as ∧ DqAll K ((own2 G l vs m us').view H') us' es ∧ I c es
  refine ⟨fun c r σ' H' => r = n' - c ∧ c ≤ n' ∧ Iv c σ' H', ⟨n', by simp, Nat.zero_le _, us, ds, iv1, fun _ _ h => h, ev.le l1, rfl, rfl, rfl, d1.ex l1, d2.ex l1, hI⟩, ?_⟩
  rintro c r σ2 H2 ⟨rfl, hle, us', es, iv2, e2', ev2, s0, si, sj, da, dd, ii⟩
  have w2 := w (own2 G l vs m us') H2 e2' iv2
  by_cases hlt : c < n'
  · refine .inr ⟨(w2.1 c hlt).1, fun σ' H' => c + 1 ≤ n' ∧ Iv (c + 1) σ' H', fun σ' H' h' => ⟨n' - (c + 1), by omega, rfl, h'⟩, fun x H3 hy => ?_⟩
    obtain ⟨iv3, l3, d, pd, dq⟩ := (w2.1 c hlt).2 x H3 hy
    refine hg c (own2 G l vs m us') σ2 H3 x d (ev2.le l3) iv3 pd dq _ fun σ3 _ hs3 ev3 => ?_
    have sj3 : σ3[j]? = some (some (.ref m)) := by rw [hs3 j hjv, sj]; exact e2
    refine ⟨_, sj3, .inl ⟨rfl, _, SqL.of (Fr.own_at iv3)⟩, he c es d hlt ii pd _ σ3 H3 ev3 iv3 _ fun v e H4 i4 l4 p4 dq4 => ?_⟩
    have hlv : us'.length < 1000 := by rw [dd.length]; exact hlen c es ii
    refine ⟨m, us', v, rfl, rfl, Fr.own_at i4, by rw [sizeLine_eq]; omega, ?_⟩
    have st := Fr.own_set (o' := .lst (us' ++ [v])) i4
    refine ⟨hlt, us' ++ [v], es ++ [e], st.1, ?_, ?_, by rw [hs3 0 h0v, s0], by rw [hs3 i hiv, si], by rw [hs3 j hjv, sj], ?_, ?_, p4⟩
    · rw [st.2]
      exact fun c u h => l4 c u (l3 c u (e2' c u h))
    · refine EnvOk.swapS (j := j) (s := .any) (v := .ref m) (ev3.le l4) (by rw [st.2]; exact fun _ _ h => h) (hw d).1 (fun q s hq hs => ?_) sj3 hΓj trivial
      exact ((hw d).2 q s hs).imp id fun z => ⟨hk q s hs, z⟩
    · rw [st.2]
      exact (da.ex l3).ex l4
    · rw [st.2]
      exact ((dd.ex l3).ex l4).append (.cons dq4 .nil)
  · obtain rfl : c = n' := by omega
    exact .inl ⟨w2.2, h2 es ii G σ2 H2 D l vs m us' ev2 iv2 ⟨aw, qw, s0.trans ew, ww⟩ (si.trans e1) da (sj.trans e2) dd fun v d H' i' e' => k v d H' i' fun c u h => e' c u (e2' c u (l1 c u h))⟩
/-- x, y = e, [], e being a new list -/
theorem rm_par (h0 : Γ[0]? = some .well) (hi0 : i ≠ 0) (hj0 : j ≠ 0) (hij : i ≠ j) (hi : i < Γ.length) (hj : j < Γ.length) (h : EvN K te Γ PL) (h2 : ∀ as, PL as → RetM K tu ((Γ.set i .any).set j .any) i as j [] P) :
    Rets K (tSeq (tPar i j (tCons te (tCons (tLst tNil) tNil))) tu) Γ P := fun G σ H D ev iv k =>
  h G σ H ev iv _ fun l vs ds H1 i1 x1 p1 dqs => ⟨Nat.zero_le _, fun p hp => by
    refine ⟨_, _, rfl, ?_⟩
    obtain ⟨i2, v2⟩ := Fr.own_new (G := G.own l (.lst vs)) (o := HO.lst []) i1 hp
    have ev2 : EnvOk K (own2 G l vs p []) (upd H1 p (.lst [])) σ Γ := (ev.own x1).own (by rw [v2]; exact fun _ _ h => h)
    obtain ⟨v0, hv0, a, q, e0, w0⟩ := (ev.2 0 _ h0).resolve_left nofun
    subst e0
    refine h2 ds p1 G _ _ D l vs p [] ((ev2.set (v := .ref l) (s := .any) hi trivial).set (v := .ref p) (s := .any) (by rw [List.length_set]; exact hj) trivial) i2 ⟨a, q, ?_, w0⟩ ?_ (by rw [v2]; exact dqs) ?_ .nil fun v d H' i' e' => k v d H' i' ?_
    · rw [List.getElem?_set_ne hj0, List.getElem?_set_ne hi0]; exact hv0
    · rw [List.getElem?_set_ne (Ne.symm hij), List.getElem?_set_self (by rw [ev.1]; exact hi)]
    · rw [List.getElem?_set_self (by rw [List.length_set, ev.1]; exact hj)]
    · rw [v2] at e'
      exact fun c u h => e' c u (x1 c u h)⟩
/-- s = list(..); o = C(.., s, ..); x.clear(); y.clear(); s.append(None) -/
theorem rm_fin {tls tmk : TE} {q q2 : Nat} {bs : List PyData} {C : Addr} {fs : List (Str × PyData)} {Γd : List Sl} (hΓq : q < Γ.length) (hΓq2 : q2 < Γ.length) (hi0 : i ≠ 0) (hj0 : j ≠ 0) (hq0 : q ≠ 0) (hq20 : q2 ≠ 0) (hij : i ≠ j) (hqi : q ≠ i) (hqj : q ≠ j) (hq2i : q2 ≠ i) (hq2j : q2 ≠ j) (hqq : q2 ≠ q)
    (hs : EvN K tls Γ (· = bs)) (hb : bs.length < 1000) (hlen : Γ.length = Γd.length)
    (hd : ∀ (k : Nat) s, Γd[k]? = some s → s = .any ∨ (k = i ∧ s = .dat (.list as)) ∨ (k = j ∧ s = .dat (.list ds)) ∨ (k = q ∧ s = .dat (.list bs)) ∨ (k ≠ q ∧ ∃ d, s = .dat d ∧ Γ[k]? = some s))
    (hm : EvV K tmk Γd (.ins C fs)) (hf : ∀ x ∈ fs, noL x.2 = true) (hlen2 : Γ.length = Γ'.length)
    (hd2 : ∀ (k : Nat) s, Γ'[k]? = some s → s = .any ∨ (k = 0 ∧ s = .well) ∨ (k = q2 ∧ s = .ins C fs) ∨ (k ≠ q ∧ k ≠ q2 ∧ ∃ d, s = .dat d ∧ Γ[k]? = some s)) (h2 : Rets K tu Γ' P) :
    RetM K (tSeq (tAsg tls (gName q)) (tSeq (tAsg tmk (gName q2)) (tSeq (tDrop (tBM0 K "list" rClear (tVar i))) (tSeq (tDrop (tBM0 K "list" rClear (tVar j))) (tSeq (tDrop (tBM K "list" rAppend (tVar q) (tCons (tC .non) tNil))) tu))))) Γ i as j ds P :=
  fun G σ H D l vs m us ev iv ⟨aw, qw, ew, ww⟩ e1 d1 e2 d2 k => by
  refine hs (own2 G l vs m us) σ H ev iv _ fun p ws bs' H1 i3 x3 eb db => ?_
  subst eb
  -- the three lists as G sees them
  have gl : G.view H1 l = some (.lst vs) := i3.1.1.2
  have gm' := hide_some i3.1.2
  have gm : G.view H1 m = some (.lst us) := gm'.2
  have gp' := hide_some i3.2
  have gp'' := hide_some gp'.2
  have gp : G.view H1 p = some (.lst ws) := gp''.2
  have nml : m ≠ l := gm'.1
  have npm : p ≠ m := gp'.1
  have npl : p ≠ l := gp''.1
  have gi1 : G.inv H1 := i3.1.1.1
  have x4 : Ex (((own2 G l vs m us).own p (.lst ws)).view H1) (G.view H1) := fun c u h => (hide_some (hide_some (hide_some h).2).2).2
  have x5 : Ex ((own2 G l vs m us).view H) (G.view H1) := fun c u h => x4 c u (x3 c u h)
  have ld1 : Dq K (G.view H1) (.ref l) (.list as) := .lst (.inl (.inl gl)) (d1.ex x5)
  have ld2 : Dq K (G.view H1) (.ref m) (.list ds) := .lst (.inl (.inl gm)) (d2.ex x5)
  have ld3 : Dq K (G.view H1) (.ref p) (.list bs') := .lst (.inl (.inl gp)) (db.ex x4)
  have hsl : σ.length = Γ.length := ev.1
  have ev1 : EnvOk K G H1 (σ.set q (some (.ref p))) Γd := ⟨by rw [List.length_set, hsl, hlen], fun c s hc => by
    rcases hd c s hc with e | ⟨rfl, e⟩ | ⟨rfl, e⟩ | ⟨rfl, e⟩ | ⟨hcq, d, e, hg⟩
    · exact .inl e
    · subst e
      exact .inr ⟨_, by rw [List.getElem?_set_ne hqi]; exact e1, ld1⟩
    · subst e
      exact .inr ⟨_, by rw [List.getElem?_set_ne hqj]; exact e2, ld2⟩
    · subst e
      exact .inr ⟨_, List.getElem?_set_self (by rw [hsl]; exact hΓq), ld3⟩
    · subst e
      obtain ⟨v, hv, hdq⟩ := (ev.2 c _ hg).resolve_left nofun
      exact .inr ⟨v, by rw [List.getElem?_set_ne (Ne.symm hcq)]; exact hv, Dq.ex x5 hdq⟩⟩
  refine hm G _ H1 ev1 gi1 _ fun v H2 i2 l2 sv => ?_
  obtain ⟨a, dx, zs, e3, ga, dfs⟩ := sv
  subst e3
  have s1 : ∀ c, c ≠ q → c ≠ q2 → ((σ.set q (some (.ref p))).set q2 (some (.ref a)))[c]? = σ[c]? := fun c h1 h2 => by rw [List.getElem?_set_ne (Ne.symm h2), List.getElem?_set_ne (Ne.symm h1)]
  have hl2 := l2 _ _ gl
  have hm2 := l2 _ _ gm
  have hp2 := l2 _ _ gp
  obtain ⟨i5, v5⟩ := G.put (o := .lst []) i2 (.inr ⟨_, hl2⟩)
  have hm3 : G.view (upd H2 l (.lst [])) m = some (.lst us) := by rw [v5, upd_ne nml]; exact hm2
  have hp3 : G.view (upd H2 l (.lst [])) p = some (.lst ws) := by rw [v5, upd_ne npl]; exact hp2
  obtain ⟨i6, v6⟩ := G.put (o := .lst []) i5 (.inr ⟨_, hm3⟩)
  have hp4 : G.view (upd (upd H2 l (.lst [])) m (.lst [])) p = some (.lst ws) := by rw [v6, upd_ne npm]; exact hp3
  obtain ⟨i7, v7⟩ := G.put (o := .lst (ws ++ [.non])) i6 (.inr ⟨_, hp4⟩)
  have x7 : Ex ((own2 G l vs m us).view H) (G.view (upd (upd (upd H2 l (.lst [])) m (.lst [])) p (.lst (ws ++ [.non])))) := fun c u h => by
    have h1 := hide_some (x3 c u h)
    have h3 := hide_some h1.2
    have h4 := hide_some h3.2
    rw [v7, upd_ne h1.1, v6, upd_ne h3.1, v5, upd_ne h4.1]
    exact l2 c u h4.2
  have ga7 : G.view (upd (upd (upd H2 l (.lst [])) m (.lst [])) p (.lst (ws ++ [.non]))) a = some (.ins C dx zs) := by
    rw [v7, upd_ne (by rintro rfl; rw [ga] at hp2; cases hp2), v6, upd_ne (by rintro rfl; rw [ga] at hm2; cases hm2), v5, upd_ne (by rintro rfl; rw [ga] at hl2; cases hl2)]
    exact ga
  have df7 : DqFs K (G.view (upd (upd (upd H2 l (.lst [])) m (.lst [])) p (.lst (ws ++ [.non])))) zs fs := by
    rw [v7]
    refine DqFs.updL hp4 ?_ hf
    rw [v6]
    refine DqFs.updL hm3 ?_ hf
    rw [v5]
    exact DqFs.updL hl2 dfs hf
  refine ⟨_, (s1 i (Ne.symm hqi) (Ne.symm hq2i)).trans e1, .inl ⟨rfl, _, SqL.of (G.sub hl2)⟩, l, vs, rfl, rfl, G.sub hl2, ?_⟩
  refine ⟨_, (s1 j (Ne.symm hqj) (Ne.symm hq2j)).trans e2, .inl ⟨rfl, _, SqL.of (G.sub hm3)⟩, m, us, rfl, rfl, G.sub hm3, ?_⟩
  refine ⟨_, (show ((σ.set q (some (.ref p))).set q2 (some (.ref a)))[q]? = some (some (.ref p)) from by rw [List.getElem?_set_ne hqq, List.getElem?_set_self (by rw [hsl]; exact hΓq)]), .inl ⟨rfl, _, SqL.of (G.sub hp4)⟩, p, ws, .non, rfl, rfl, G.sub hp4, by rw [sizeLine_eq, db.length]; omega, ?_⟩
  refine h2 G _ _ D ⟨by rw [List.length_set, List.length_set, hsl, hlen2], fun c s hc => ?_⟩ i7 fun v d H' i' l' => k v d H' i' fun c u h => l' c u (x7 c u h)
  rcases hd2 c s hc with e | ⟨rfl, e⟩ | ⟨rfl, e⟩ | ⟨hcq, hcq2, d, e, hg⟩
  · exact .inl e
  · subst e
    exact .inr ⟨_, (s1 0 (Ne.symm hq0) (Ne.symm hq20)).trans ew, aw, qw, rfl, ww⟩
  · subst e
    exact .inr ⟨.ref a, List.getElem?_set_self (by rw [List.length_set, hsl]; exact hΓq2), a, dx, zs, rfl, ga7, df7⟩
  · subst e
    obtain ⟨v, hv, hdq⟩ := (ev.2 c _ hg).resolve_left nofun
    exact .inr ⟨v, (s1 c hcq hcq2).trans hv, Dq.ex x7 hdq⟩
end
end L2

set_option Elab.async false
set_option linter.all false
set_option maxRecDepth 100000
set_option maxHeartbeats 4000000
/-! Blocks and defs that may raise one class of two fields. -/
namespace L2
open PySem PySem.Spec PyProof.Rows
open Evl (Ex)
/-- what the __init__ of such a class does -/
def spI2 (C : Addr) (f g : Str) : Sp := fun vs H Q _ => ∃ (a : Addr) (x y : V), vs = [.ref a, x, y] ∧ H a = some (exo a C none) ∧ ∀ dx, H dx = none → dx ≠ a → Q .non (upd (upd (upd H dx (exd dx [(f, x)])) a (exo a C (some dx))) dx (exd dx [(g, y), (f, x)]))
/-- the ways out: the class at C, its fields data -/
def ExR (K : PySem.W.Frag) (G : Fr) (C : Addr) (E : XK) (f g : Str) (PX : PyData → PyData → Prop) (H : Hp) : Prop := ∀ (dx : Addr) (H' : Hp) (x y : V) (p i : PyData), G.inv H' → G.le H H' → PX p i → Dq K (G.view H') x p → Dq K (G.view H') y i → G.view H' dx = some (.xd [(g, y), (f, x)]) → E (.ref C) (some dx) H'
theorem ExR.le {K : PySem.W.Frag} {G : Fr} {C : Addr} {E : XK} {f g : Str} {PX PY : PyData → PyData → Prop} {H H1 : Hp} (h : ExR K G C E f g PX H) (l : G.le H H1) (hp : ∀ p i, PY p i → PX p i) : ExR K G C E f g PY H1 := fun dx H' x y p i a b c d e z => h dx H' x y p i a (l.trans b) (hp p i c) d e z
/-- one more object aside -/
theorem ExR.own {K : PySem.W.Frag} {G : Fr} {C : Addr} {E : XK} {f g : Str} {PX : PyData → PyData → Prop} {H H1 : Hp} {l : Addr} {o : HO} (h : ExR K G C E f g PX H) (e : Ex (G.view H) ((G.own l o).view H1)) : ExR K (G.own l o) C E f g PX H1 := fun dx H' x y p i a b c d z w =>
  h dx H' x y p i a.1 (fun k u hk => (hide_some (b k u (e k u hk))).2) c (d.ex Fr.own_sub) (z.ex Fr.own_sub) (hide_some w).2
/-- a block that returns or raises -/
def RetX (K : PySem.W.Frag) (C : Addr) (E : XK) (f g : Str) (ts : TS) (Γ : List Sl) (P : PyData → Prop) (PX : PyData → PyData → Prop) : Prop := ∀ (G : Fr) (σ : L2.St) (H : Hp) (D : Ends), EnvOk K G H σ Γ → G.inv H → (∀ v d H', G.inv H' → G.le H H' → P d → Dq K (G.view H') v d → D.rt v H') → ExR K G C E f g PX H → ts D σ H
/-- what a def answers: a value, or the two fields of what it raises -/
abbrev Res := Sum PyData (PyData × PyData)
/-- the promise of a def that may raise -/
def spX (K : PySem.W.Frag) (C : Addr) (f g : Str) (pre : List PyData → Res → Prop) : Sp := fun vs H Q E => ∃ (G : Fr) (ds : List PyData) (r : Res), G.inv H ∧ DqAll K (G.view H) vs ds ∧ pre ds r ∧
  (∀ v d H', G.inv H' → G.le H H' → r = .inl d → Dq K (G.view H') v d → Q v H') ∧ ExR K G C E f g (fun p i => r = .inr (p, i)) H
section
variable {K : PySem.W.Frag} {C : Addr} {E : XK} {f g' : Str} {Γ Γ' : List Sl} {te tb tv tc : TE} {ta : TA} {wi : TI} {g : TG} {tu ts : TS} {tt : TT} {P P' : PyData → Prop} {PX PY : PyData → PyData → Prop} {PL : List PyData → Prop} {j : Nat}
theorem RetX.of (h : Rets K ts Γ P) : RetX K C E f g' ts Γ P PX := fun G σ H D ev iv k _ => h G σ H D ev iv k
theorem RetX.imp (h : RetX K C E f g' ts Γ P' PY) (hp : ∀ d, P' d → P d) (hx : ∀ p i, PY p i → PX p i) : RetX K C E f g' ts Γ P PX := fun G σ H D ev iv k kx => h G σ H D ev iv (fun v d H' i' l' p' => k v d H' i' l' (hp d p')) (kx.le .refl hx)
theorem rx_if (b : Bool) (h : EvB K tt Γ (· = b)) (h1 : b = true → RetX K C E f g' ts Γ P PX) (h2 : b = false → RetX K C E f g' tu Γ P PX) : RetX K C E f g' (tSeq (tIfS tt ts tNext) tu) Γ P PX := fun G σ H D ev iv k kx =>
  h G σ H ev iv _ fun c H1 iv1 l1 e => by
    subst e
    cases c with
    | true => exact h1 rfl G σ H1 _ (ev.le l1) iv1 (fun v d H2 iv2 l2 p dq => k v d H2 iv2 (l1.trans l2) p dq) (kx.le l1 fun _ _ h => h)
    | false => exact h2 rfl G σ H1 _ (ev.le l1) iv1 (fun v d H2 iv2 l2 p dq => k v d H2 iv2 (l1.trans l2) p dq) (kx.le l1 fun _ _ h => h)
theorem rx_set {i : Nat} (hi : i < Γ.length) (h : EvD K te Γ P') (h2 : ∀ d, P' d → RetX K C E f g' tu (Γ.set i (.dat d)) P PX) : RetX K C E f g' (tSeq (tAsg te (gName i)) tu) Γ P PX := fun G σ H D ev iv k kx =>
  h G σ H ev iv _ fun v d H1 iv1 l1 p dq => h2 d p G _ H1 _ ((ev.le l1).set hi dq) iv1 (fun v d H2 iv2 l2 p dq => k v d H2 iv2 (l1.trans l2) p dq) (kx.le l1 fun _ _ h => h)
/-- raise C(p, i) -/
theorem rx_raise (h : EvL' K ta Γ (fun ds => ∃ p i, ds = [p, i] ∧ PX p i)) : RetX K C E f g' (fun _ σ H => tMkO C (spI2 C f g') [] ta σ H fun cls d H' => E cls d H') Γ P PX := fun G σ H D ev iv k kx =>
  h G σ H ev iv _ fun vs ss H1 i1 l1 ⟨ds, e1, p, i, e2, px⟩ dqs => by
    subst e1
    subst e2
    have dqs := args_dats dqs
    cases dqs with
    | @cons x _ _ _ q1 t1 =>
      cases t1 with
      | @cons y _ _ _ q2 t2 =>
        cases t2
        refine ⟨by show 2 ≤ 1000; decide, fun a ha => ⟨a, x, y, rfl, upd_same, fun dx hdx hne => ⟨rfl, dx, [(g', y), (f, x)], by rw [upd_ne (Ne.symm hne)]; exact upd_same, upd_same, by rwa [upd_ne hne] at hdx, ?_⟩⟩⟩
        have hdx1 : H1 dx = none := by rwa [upd_ne hne] at hdx
        have e : upd (del (upd (upd (upd (upd H1 a (exo a C none)) dx (exd dx [(f, x)])) a (exo a C (some dx))) dx (exd dx [(g', y), (f, x)])) a) dx (.xd [(g', y), (f, x)]) = upd H1 dx (.xd [(g', y), (f, x)]) := by
          funext b
          by_cases hb : b = dx
          · subst hb; rw [upd_same, upd_same]
          · rw [upd_ne hb, upd_ne hb]
            by_cases hb2 : b = a
            · subst hb2; rw [del_same, ha]
            · rw [del_ne hb2, upd_ne hb, upd_ne hb2, upd_ne hb, upd_ne hb2]
        show E _ _ _
        rw [e]
        obtain ⟨i2, l2, v2⟩ := Fr.new (o := .xd [(g', y), (f, x)]) i1 hdx1
        exact kx dx _ x y p i i2 (l1.trans l2) px (q1.ex l2) (q2.ex l2) v2
/-- x = f(..), f may raise -/
theorem rx_call {i : Nat} {pre : List PyData → Res → Prop} (ds : List PyData) (r : Res) (hi : i < Γ.length) (h : EvL' K ta Γ (· = ds)) (hp : pre ds r) (hx : ∀ p i, r = .inr (p, i) → PX p i) (h2 : ∀ d, r = .inl d → RetX K C E f g' tu (Γ.set i (.dat d)) P PX) :
    RetX K C E f g' (tSeq (tAsg (tCall (spX K C f g' pre) [] E ta) (gName i)) tu) Γ P PX := fun G σ H D ev iv k kx =>
  h G σ H ev iv _ fun vs ss H1 i1 l1 ⟨es, e1, e2⟩ dqs => by
    subst e1
    subst e2
    rw [List.append_nil]
    refine ⟨G, es, r, i1, args_dats dqs, hp, fun v d H2 i2 l2 pv dq => ?_, kx.le l1 hx⟩
    exact h2 d pv G _ H2 _ ((ev.le (l1.trans l2)).set hi dq) i2 (fun v d H3 i3 l3 p dq => k v d H3 i3 ((l1.trans l2).trans l3) p dq) (kx.le (l1.trans l2) fun _ _ h => h)
/-- the start of a def that may raise -/
theorem doneX {G : Fr} {H : Hp} {vs : List V} {ds : List PyData} {D : Ends} {N : List Str} (n : Nat) (hs : L2.start N vs = vs.map some ++ List.replicate n none) (h : RetX K C E f g' ts (ds.map .dat ++ List.replicate n .any) P PX) (iv : G.inv H) (a : DqAll K (G.view H) vs ds)
    (k : ∀ v d H', G.inv H' → G.le H H' → P d → Dq K (G.view H') v d → D.rt v H') (kx : ExR K G C E f g' PX H) : ts D (L2.start N vs) H := h G _ H D (envStart n hs a) iv k kx
/-- found = {}; a loop that fills it and raises behind m's pairs -/
theorem rx_buildBad {vs : List Nat} {n : Nat} {m : List (Str × PyData)} {Pi : Nat → PyData → Prop} {N : Nat → PyData → List Sl} {Ne : Nat → PyData → List Sl} (hm : m.length ≤ 100) (hmn : m.length < n) (hjl : j < Γ.length)
    (hΓ : ∀ (q : Nat) s, q ≠ j → Γ[q]? = some s → s = .any ∨ ∃ z, s = .dat z) (hnew : ∀ i p, m[i]? = some p → (m.take i).lookup p.1 = none) (hjv : j ∉ vs)
    (hi : EvI0 K wi (Γ.set j (.odic [])) (· = n) Pi)
    (hg : ∀ i, TgOk K g vs (Γ.set j (.odic (m.take i))) (Pi i) (N i))
    (hb : ∀ i e p, Pi i e → m[i]? = some p → Puts K tu (N i e) j p.1 (· = p.2) (Ne i e))
    (hw : ∀ (i : Nat) e, Pi i e → Γ.length = (Ne i e).length ∧ ∀ (k : Nat) s, k ≠ j → Γ[k]? = some s → s = .any ∨ (Ne i e)[k]? = some s)
    (hx : ∀ e, Pi m.length e → RetX K C E f g' tu (N m.length e) (fun _ => False) PX) :
    RetX K C E f g' (tSeq (tAsg tDNewK (gName j)) (tSeq (tFor wi g tu) ts)) Γ P PX := fun G σ H D ev iv k kx p hp => by
  have hgv : G.view H p = none := Fr.blank hp
  obtain ⟨iv1, vw1⟩ := Fr.own_new (G := G) (o := HO.dK []) iv hp
  have set_ne : ∀ {s : Sl} {q : Nat} {t : Sl}, q ≠ j → (Γ.set j s)[q]? = some t → Γ[q]? = some t := fun h e => by rwa [List.getElem?_set_ne (fun z => h z.symm)] at e
  have set_j : ∀ {s : Sl}, (Γ.set j s)[j]? = some s := List.getElem?_set_self hjl
  have hj1 : (σ.set j (some (.ref p)))[j]? = some (some (.ref p)) := List.getElem?_set_self (by rw [ev.1]; exact hjl)
  have ev1 : EnvOk K (G.own p (.dK [])) (upd H p (.dK [])) (σ.set j (some (.ref p))) (Γ.set j (.odic [])) :=
    (ev.own (l := p) (o := .dK []) (H' := upd H p (.dK [])) (by rw [vw1]; exact fun _ _ h => h)).set hjl ⟨p, [], rfl, fun H' i => Fr.own_at i, .nil⟩
  refine hi (G.own p (.dK [])) _ _ ev1 iv1 _ fun n' J H1 hn iv2 l1 w => ?_
  subst hn
  have l01 : Ex (G.view H) ((G.own p (.dK [])).view H1) := fun c u h => l1 c u (by rw [vw1]; exact h)
  let Iv : Nat → L2.St → Hp → Prop := fun i σ' H' => ∃ kvs : List (Key × V), (G.own p (.dK kvs)).inv H' ∧ Ex ((G.own p (.dK [])).view H1) ((G.own p (.dK kvs)).view H') ∧ EnvOk K (G.own p (.dK kvs)) H' σ' (Γ.set j (.odic (m.take i))) ∧ σ'[j]? = some (some (.ref p)) ∧ DqKv K ((G.own p (.dK kvs)).view H') kvs ((m.take i).map fun p => (.str p.1, p.2))
  refine ⟨fun i c σ' H' => c = m.length - i ∧ i ≤ m.length ∧ Iv i σ' H', ⟨m.length, by simp, Nat.zero_le _, [], iv2, fun _ _ h => h, by rw [List.take_zero]; exact ev1.le l1, hj1, .nil⟩, ?_⟩
  rintro i c σ2 H2 ⟨rfl, hle, kvs, iv3, e2, ev2, hd2, dk2⟩
  have w2 := w (G.own p (.dK kvs)) H2 e2 iv3
  have hlt' : i < n' := by omega
  by_cases hlt : i < m.length
  · refine .inr ⟨(w2.1 i hlt').1, fun σ' H' => i + 1 ≤ m.length ∧ Iv (i + 1) σ' H', fun σ' H' h' => ⟨m.length - (i + 1), by omega, rfl, h'⟩, fun x H3 hy => ?_⟩
    obtain ⟨iv4, l3, e, pe, dq⟩ := (w2.1 i hlt').2 x H3 hy
    have hp' := List.getElem?_eq_getElem hlt
    have hkl := DqKv.keys dk2
    refine hg i (G.own p (.dK kvs)) σ2 H3 x e (ev2.le l3) iv4 pe dq _ fun σ3 _ hs3 ev3 => ?_
    refine hb i e _ pe hp' (G.own p (.dK kvs)) σ3 H3 _ p kvs ev3 iv4 (by rw [hs3 j hjv]; exact hd2) (fun H' i' => Fr.own_at i') (by rw [hkl.1, List.length_take]; omega) fun σ4 H4 v ff iv5 l4 ev4 hj4 pf dq4 => ⟨hlt, putK kvs (.inr m[i].1) v, ?_⟩
    subst pf
    have st := Fr.own_set (o' := .dK (putK kvs (.inr m[i].1) v)) iv5
    have hpk : putK kvs (.inr m[i].1) v = kvs ++ [(.inr m[i].1, v)] := putK_fresh dk2 (hnew i _ hp')
    have dk4 : DqKv K ((G.own p (.dK kvs)).view H4) (putK kvs (.inr m[i].1) v) ((m.take (i + 1)).map fun p => (.str p.1, p.2)) := by
      rw [hpk, List.take_add_one, hp', List.map_append]
      exact ((dk2.ex l3).ex l4).append dq4
    have hwi := hw i e pe
    refine ⟨st.1, fun c u h => by rw [st.2]; exact l4 c u (l3 c u (e2 c u h)), ?_, hj4, by rw [st.2]; exact dk4⟩
    refine EnvOk.swap (j := j) (s := .odic (m.take (i + 1))) (v := .ref p) (ev4.weak (Γ' := Γ.set j .any) (by rw [List.length_set]; exact hwi.1.symm) fun q s hs => ?_) (by rw [st.2]; exact fun _ _ h => h) (by rw [List.length_set, List.length_set]) (fun q s hq hs => ?_) hj4 set_j ⟨p, _, rfl, fun H' i' => Fr.own_at i', by rw [st.2]; exact dk4⟩
    · by_cases hq : q = j
      · subst hq
        rw [set_j] at hs
        exact .inl (Option.some.inj hs).symm
      · exact hwi.2 q s hq (set_ne hq hs)
    · rcases hΓ q s hq (set_ne hq hs) with e6 | ⟨z, e6⟩
      · exact .inl e6
      · exact .inr ⟨z, e6, by rw [List.getElem?_set_ne (fun z => hq z.symm)]; exact set_ne hq hs⟩
  · obtain rfl : i = m.length := by omega
    refine .inr ⟨(w2.1 _ hlt').1, fun _ _ => False, fun _ _ h => h.elim, fun x H3 hy => ?_⟩
    obtain ⟨iv4, l3, e, pe, dq⟩ := (w2.1 _ hlt').2 x H3 hy
    refine hg _ (G.own p (.dK kvs)) σ2 H3 x e (ev2.le l3) iv4 pe dq _ fun σ3 _ hs3 ev3 => ?_
    exact hx e pe (G.own p (.dK kvs)) σ3 H3 _ ev3 iv4 (fun v d H' _ _ h => h.elim) (kx.own fun c u h => l3 c u (e2 c u (l01 c u h)))
end
end L2

set_option Elab.async false
set_option linter.all false
set_option maxRecDepth 100000
set_option maxHeartbeats 4000000
/-! Promises told by a relation; __init__s that may raise; objects made where a try waits. -/
namespace L2
open PySem PySem.Spec PyProof.Rows
open Evl (Ex)
/-- a promise told by a relation -/
def spP (K : PySem.W.Frag) (pre : List PyData → PyData → Prop) : Sp := fun vs H Q _ => ∃ (G : Fr) (ds : List PyData) (d : PyData), G.inv H ∧ DqAll K (G.view H) vs ds ∧ pre ds d ∧ ∀ v H', G.inv H' → G.le H H' → Dq K (G.view H') v d → Q v H'
section
variable {K : PySem.W.Frag} {Γ Γ' : List Sl} {te tb tv tc : TE} {ta : TA} {wi : TI} {g : TG} {tu ts : TS} {tt : TT} {P P' : PyData → Prop} {j : Nat}
theorem ev_callP {pre : List PyData → PyData → Prop} {E : XK} {d : PyData} (ds : List PyData) (h : EvL' K ta Γ (· = ds)) (hp : pre ds d) : EvD K (tCall (spP K pre) [] E ta) Γ (· = d) := fun G σ H e i Q q =>
  h G σ H e i _ fun vs ss H1 i1 l1 ⟨es, e1, e2⟩ dqs => by
    subst e2; subst e1
    rw [List.append_nil]
    exact ⟨G, es, d, i1, args_dats dqs, hp, fun v H' i' l' dq => q v _ H' i' (l1.trans l') rfl dq⟩
/-- a comprehension whose test is true for the first time at q: the first item -/
theorem ev_lcFirst {n q : Nat} {vs : List Nat} {Pi : Nat → PyData → Prop} {N : PyData → List Sl} (hq : q < n) (hn : n < 100000) (hi : EvI0 K wi Γ (· = n) Pi) (hg : ∀ i, TgOk K g vs (wipeΓ Γ vs) (Pi i) N)
    (h0 : ∀ i d, i < q → Pi i d → EvB K tt (N d) (· = false)) (h1 : ∀ d, Pi q d → EvB K tt (N d) (· = true)) (h2 : ∀ i d, q < i → Pi i d → EvB K tt (N d) (fun _ => True)) (he : ∀ i d, Pi i d → EvD K te (N d) (· = .int (i : Nat))) :
    EvD K (tLc wi g tt te vs) Γ (fun d => ∃ es, d = .list (.int (q : Nat) :: es)) := fun G σ H ev iv Q k => by
  refine hi G σ H ev iv _ fun n' J H1 hn' iv1 l1 w D hD => ?_
  subst hn'
  have ho := Fr.own_new (G := G) (o := HO.lst []) iv1 hD
  let Iv : Nat → Hp → Prop := fun i H => ∃ (acc : List V) (es : List PyData), (G.own D (.lst acc)).inv H ∧ Ex (G.view H1) ((G.own D (.lst acc)).view H) ∧ acc.length ≤ i ∧ DqAll K ((G.own D (.lst acc)).view H) acc es ∧ (i ≤ q → es = []) ∧ (q < i → ∃ tl, es = .int (q : Nat) :: tl)
  refine ⟨fun i m H => m = n' - i ∧ i ≤ n' ∧ Iv i H, ⟨n', by simp, Nat.zero_le _, [], [], ho.1, by rw [ho.2]; exact fun _ _ h => h, Nat.le_refl _, .nil, fun _ => rfl, fun h => absurd h (by omega)⟩, ?_⟩
  rintro i m H2 ⟨rfl, hle, acc, es, iv2, e2, hlen, dqs, p0, p1⟩
  have w2 := w (G.own D (.lst acc)) H2 e2 iv2
  by_cases hlt : i < n'
  · refine .inr ⟨(w2.1 i hlt).1, fun H => i + 1 ≤ n' ∧ Iv (i + 1) H, fun H' h' => ⟨n' - (i + 1), by omega, rfl, h'⟩, fun x H3 hy => ?_⟩
    obtain ⟨iv3, l3, d, pd, dq⟩ := (w2.1 i hlt).2 x H3 hy
    have ev3 : EnvOk K (G.own D (.lst acc)) H3 σ Γ := (ev.le l1).own fun c u h => l3 c u (e2 c u h)
    refine hg i (G.own D (.lst acc)) (L2.wipe σ vs) H3 x d (ev3.wipe vs) iv3 pd dq _ fun σ2 hl2 hs2 ev4 => ⟨wipe_eq hl2 hs2, ?_⟩
    -- a turn that keeps nothing, a turn that keeps the index
    have no : ∀ {H4 : Hp}, (G.own D (.lst acc)).inv H4 → (G.own D (.lst acc)).le H3 H4 → (i + 1 ≤ q → es = []) → (q < i + 1 → ∃ tl, es = .int (q : Nat) :: tl) → i + 1 ≤ n' ∧ Iv (i + 1) H4 := fun i4 l4 a b => ⟨hlt, acc, es, i4, fun c u h => l4 c u (l3 c u (e2 c u h)), by omega, (dqs.ex l3).ex l4, a, b⟩
    have yes : ∀ {H4 : Hp}, (G.own D (.lst acc)).inv H4 → (G.own D (.lst acc)).le H3 H4 → EnvOk K (G.own D (.lst acc)) H4 σ2 (N d) → (q < i + 1) → (q < i ∨ i = q) → te σ2 H4 fun y H5 => ∃ acc', H5 D = some (.lst acc') ∧ acc'.length < sizeLine ∧ (i + 1 ≤ n' ∧ Iv (i + 1) (upd H5 D (.lst (acc' ++ [y])))) := fun {H4} i4 l4 ev4' hqi hc => by
      refine he i d pd (G.own D (.lst acc)) σ2 H4 ev4' i4 _ fun y e H5 i5 l5 r5 dq5 => ⟨acc, Fr.own_at i5, by rw [sizeLine_eq]; omega, hlt, acc ++ [y], es ++ [e], ?_⟩
      have st := Fr.own_set (o' := .lst (acc ++ [y])) i5
      refine ⟨st.1, fun c u h => ?_, by rw [List.length_append]; show acc.length + 1 ≤ i + 1; omega, ?_, fun h => absurd h (by omega), fun _ => ?_⟩
      · rw [st.2]
        exact l5 c u (l4 c u (l3 c u (e2 c u h)))
      · rw [st.2]
        exact (((dqs.ex l3).ex l4).ex l5).append (.cons dq5 .nil)
      · subst r5
        rcases hc with hc | hc
        · obtain ⟨tl, e6⟩ := p1 hc
          exact ⟨tl ++ [.int (i : Nat)], by rw [e6]; rfl⟩
        · exact ⟨[], by rw [p0 (by omega), hc]; rfl⟩
    by_cases c1 : i < q
    · refine h0 i d c1 pd (G.own D (.lst acc)) σ2 H3 ev4 iv3 _ fun b H4 i4 l4 eb => ?_
      subst eb
      rw [if_neg (by decide)]
      exact no i4 l4 (fun _ => p0 (by omega)) fun h => absurd h (by omega)
    · by_cases c2 : i = q
      · subst c2
        refine h1 d pd (G.own D (.lst acc)) σ2 H3 ev4 iv3 _ fun b H4 i4 l4 eb => ?_
        subst eb
        rw [if_pos rfl]
        exact yes i4 l4 (ev4.le l4) (by omega) (.inr rfl)
      · refine h2 i d (by omega) pd (G.own D (.lst acc)) σ2 H3 ev4 iv3 _ fun b H4 i4 l4 _ => ?_
        cases b with
        | true =>
          rw [if_pos rfl]
          exact yes i4 l4 (ev4.le l4) (by omega) (.inl (by omega))
        | false =>
          rw [if_neg (by decide)]
          exact no i4 l4 (fun h => absurd h (by omega)) fun _ => p1 (by omega)
  · obtain rfl : i = n' := by omega
    obtain ⟨tl, e6⟩ := p1 hq
    exact .inl ⟨w2.2, k (.ref D) (.list es) H2 iv2.1 (l1.trans (Fr.own_le (Fr.blank hD) e2)) ⟨tl, by rw [e6]⟩ (.lst (.inl (.inl iv2.2)) (dqs.ex Fr.own_sub))⟩
/-- the truth of a list that is not empty -/
theorem eb_tru1 {e : PyData} {es : List PyData} (h : EvD K te Γ (· = .list (e :: es))) : EvB K (fun σ H Q => te σ H fun x H' => ∃ k, TruV K x H' k ∧ Q k H') Γ (· = true) := fun G σ H e i Q q =>
  h G σ H e i _ fun v d H1 i1 l1 p1 dq => by
    subst p1
    cases dq with
    | lst hs ha =>
      cases ha
      exact ⟨true, .inl ⟨_, Fr.upL hs, rfl⟩, q true H1 i1 l1 rfl⟩
theorem ev_ifT (h : EvB K tt Γ (· = true)) (hv : EvD K te Γ P) : EvD K (tIf tt te tv) Γ P := fun G σ H e i Q q => h G σ H e i _ fun b H1 i1 l1 eb => by
  subst eb
  rw [if_pos rfl]
  exact hv G σ H1 (e.le l1) i1 Q fun v d H2 i2 l2 => q v d H2 i2 (l1.trans l2)
theorem eb_notNi {n : Int} (h : EvD K te Γ (· = .int n)) : EvB K (tTest (tOp (fun x y H Q => y = .non ∧ Q (.bl (!decide (x = .non))) H) te (tC .non))) Γ (· = true) := fun G σ H e i Q q =>
  h G σ H e i _ fun v d H1 i1 l1 p1 dq => by
    subst p1
    cases dq
    exact ⟨rfl, _, rfl, q _ H1 i1 l1 (by simp)⟩
end
/-! ### an __init__ that may raise -/
def InitX (K : PySem.W.Frag) (C Cx : Addr) (E : XK) (f g : Str) (ts : TS) (Γ : List Sl) (j : Nat) (PG : Prop) (PX : PyData → PyData → Prop) : Prop := ∀ (G : Fr) (σ : L2.St) (H : Hp) (D : Ends) (x dx : Addr), EnvOk K (G.own x (.ins C dx [])) H σ Γ → (G.own x (.ins C dx [])).inv H → σ[j]? = some (some (.ref x)) →
  (∀ σ' H' us, (G.own x (.ins C dx us)).inv H' → Ex ((G.own x (.ins C dx [])).view H) ((G.own x (.ins C dx us)).view H') → PG → D.nx σ' H') → ExR K (G.own x (.ins C dx [])) Cx E f g PX H → ts D σ H
def spInitX (K : PySem.W.Frag) (C Cx : Addr) (f g : Str) (pre : List PyData → Res → Prop) : Sp := fun vs H Q E => ∃ (G : Fr) (x dx : Addr) (ws : List V) (ds : List PyData) (r : Res), vs = .ref x :: ws ∧ (G.own x (.ins C dx [])).inv H ∧ DqAll K ((G.own x (.ins C dx [])).view H) ws ds ∧ pre ds r ∧
  (∀ H' us, (G.own x (.ins C dx us)).inv H' → Ex ((G.own x (.ins C dx [])).view H) ((G.own x (.ins C dx us)).view H') → (∃ d, r = .inl d) → Q .non H') ∧ ExR K (G.own x (.ins C dx [])) Cx E f g (fun p i => r = .inr (p, i)) H
section
variable {K : PySem.W.Frag} {C Cx : Addr} {E : XK} {f g' : Str} {Γ Γ' : List Sl} {te tb tv tc : TE} {ta : TA} {tu ts : TS} {tt : TT} {P P' : PyData → Prop} {PX : PyData → PyData → Prop} {PG : Prop} {j : Nat}
theorem ix_of {f1 : List (Str × PyData)} (hg : PG) (h : Inits K C ts Γ j [] f1) : InitX K C Cx E f g' ts Γ j PG PX := fun G σ H D x dx ev iv hj k _ => h G σ H D x dx [] ev iv hj .nil fun σ' H' us i' e' _ => k σ' H' us i' e' hg
theorem ix_if (b : Bool) (h : EvB K tt Γ (· = b)) (h1 : b = true → RetX K Cx E f g' ts Γ (fun _ => False) PX) (h2 : b = false → InitX K C Cx E f g' tu Γ j PG PX) : InitX K C Cx E f g' (tSeq (tIfS tt ts tNext) tu) Γ j PG PX := fun G σ H D x dx ev iv hj k kx =>
  h _ σ H ev iv _ fun c H1 i1 l1 e => by
    subst e
    cases c with
    | true => exact h1 rfl _ σ H1 _ (ev.le l1) i1 (fun v d H' _ _ h => h.elim) (kx.le l1 fun _ _ h => h)
    | false => exact h2 rfl G σ H1 _ x dx (ev.le l1) i1 hj (fun σ' H' us i' e' => k σ' H' us i' fun c u h => e' c u (l1 c u h)) (kx.le l1 fun _ _ h => h)
theorem ix_set {i : Nat} {d : PyData} (hi : i < Γ.length) (hij : i ≠ j) (h : EvD K te Γ (· = d)) (h2 : InitX K C Cx E f g' tu (Γ.set i (.dat d)) j PG PX) : InitX K C Cx E f g' (tSeq (tAsg te (gName i)) tu) Γ j PG PX := fun G σ H D x dx ev iv hj k kx =>
  h _ σ H ev iv _ fun v e H1 i1 l1 p1 dq => by
    subst p1
    exact h2 G _ H1 _ x dx ((ev.le l1).set hi dq) i1 (by rw [List.getElem?_set_ne hij]; exact hj) (fun σ' H' us i' e' => k σ' H' us i' fun c u h => e' c u (l1 c u h)) (kx.le l1 fun _ _ h => h)
theorem ix_call {i : Nat} {pre : List PyData → Res → Prop} (ds : List PyData) (r : Res) (hi : i < Γ.length) (hij : i ≠ j) (h : EvL' K ta Γ (· = ds)) (hp : pre ds r) (hx : ∀ p i, r = .inr (p, i) → PX p i) (h2 : ∀ d, r = .inl d → InitX K C Cx E f g' tu (Γ.set i (.dat d)) j PG PX) :
    InitX K C Cx E f g' (tSeq (tAsg (tCall (spX K Cx f g' pre) [] E ta) (gName i)) tu) Γ j PG PX := fun G σ H D x dx ev iv hj k kx =>
  h _ σ H ev iv _ fun vs ss H1 i1 l1 ⟨es, e1, e2⟩ dqs => by
    subst e1
    subst e2
    rw [List.append_nil]
    refine ⟨_, es, r, i1, args_dats dqs, hp, fun v d H2 i2 l2 pv dq => ?_, kx.le l1 hx⟩
    exact h2 d pv G _ H2 _ x dx ((ev.le (l1.trans l2)).set hi dq) i2 (by rw [List.getElem?_set_ne hij]; exact hj) (fun σ' H' us i' e' => k σ' H' us i' fun c u h => e' c u ((l1.trans l2) c u h)) (kx.le (l1.trans l2) fun _ _ h => h)
end
/-! ### an object is made where the way out depends on the places -/
section
variable {X : Cx} {CX : CXT} {k : Nat} {f C : Addr} {fd : FuncData} {ps : List Str} {sp : Sp} {E : St → XK} {x : Str} {p pos : Pos} {e : Expr} {es : List Expr} {t : TA}
def tMakeS (C : Addr) (sp : Sp) (E : St → XK) (t : TA) : TE := fun σ H Q => t σ H fun vs H1 => ∀ x dx, H1 x = none → H1 dx = none → dx ≠ x → sp (.ref x :: vs) (upd (upd H1 dx (.own x)) x (.ins C dx [])) (fun v H2 => v = .non ∧ Q (.ref x) H2) (E σ)
theorem run_makeS {pins : List (Addr × Obj)} {σ : St} {H : Hp} {s : Shared} {Q : VK} {us : List Value} {vs : List V} (M : Mk X.K C f) (F : FnOk X.prog X.w X.K X.mg X.base CX k f fd ps sp) (hr : Room (k + 1) X.A) (hb : Binds X.K fd ps [])
    (hx : PassesAt CX X σ (E σ)) (I : Inv X pins σ H s) (r : Vals vs us)
    (h : ∀ x dx, H x = none → H dx = none → dx ≠ x → sp (.ref x :: vs) (upd (upd H dx (.own x)) x (.ins C dx [])) (fun v H2 => v = .non ∧ Q (.ref x) H2) (E σ)) :
    wpAny (model X.prog X.w) X.A (call (.ref C) us) (EP X pins σ Q) X.xe s := by
  have hq := h (s.heap.objs.size + 1) s.heap.objs.size (I.hok.fresh (Nat.le_succ _)) (I.hok.fresh (Nat.le_refl _)) (Nat.ne_of_lt (Nat.lt_succ_self _))
  have I2 := Inv.made (C := C) I
  have r2 : Vals (V.ref (s.heap.objs.size + 1) :: vs) (Value.ref (s.heap.objs.size + 1) :: us) := .cons rfl r
  have hl : (Value.ref (s.heap.objs.size + 1) :: us).length = ps.length := by
    have e := r2.length
    rw [F.len _ _ _ _ hq] at e
    exact e.symm
  have hb2 := hb _ (Value.ref (s.heap.objs.size + 1) :: us) I2.kIn (by rw [List.append_nil]; exact hl)
  rw [List.append_nil] at hb2
  refine wpAny_call (make_map (f := f) I.kIn M.makes M.init (beq_iff_eq.mp M.fn) (codeAny_mono (F.run _ X.stack _ _ ⟨Value.ref (s.heap.objs.size + 1) :: us, []⟩ (Value.ref (s.heap.objs.size + 1) :: us) _ _ (E σ) (hr.make C us [])
    (I2.env0.make C us []) hb2 r2 hq) fun r s' hq' => ?_))
  cases r with
  | error e => exact hx pins _ _ e s' I2 hq'
  | ok fl =>
    cases fl with
    | ret u =>
      obtain ⟨v, H', I3, rv, ev, q3⟩ := I2.after hq'
      subst ev
      exact ⟨rv, ⟨V.ref (s.heap.objs.size + 1), H', I3, rfl, q3⟩⟩
    | next => exact False.elim hq'
    | brk => exact False.elim hq'
    | cont => exact False.elim hq'
theorem pe_makeS (M : Mk X.K C f) (F : FnOk X.prog X.w X.K X.mg X.base CX k f fd ps sp) (hr : Room (k + 1) X.A) (hg : Gl X x) (hm : X.mg x = some (.ref C)) (hb : Binds X.K fd ps []) (hx : ∀ σ, PassesAt CX X σ (E σ))
    (ha : PA X (e :: es) t) (hdb : (x == ("__debug__" : Str)) = false := by decide) (he : starEach (e :: es) X.env = (false, eval e X.env) :: starEach es X.env := by rfl) (hpl : (backTo pos (starEach es X.env)).any (·.1) = false := by rfl) :
    PE X (.Call (.Name x p) (e :: es) [] pos) (tMakeS C sp E t) := by
  refine ⟨fun pins s σ H Q I h => ?_⟩
  refine wpAny_Call_Name_kw (ld_glob I hg hm ?_ hdb)
  refine PySem.W.callWith_K (h₀ := X.base) I.ok.mod.kin M.kp (thn (ha.run pos pins s σ H _ I h) fun us s1 ⟨vs, H1, I1, r, q⟩ => ⟨I1.kIn, ?_⟩) he hpl
  exact run_makeS M F hr hb (hx σ) I1 r q
end
end L2

set_option Elab.async false
set_option linter.all false
set_option maxRecDepth 100000
set_option maxHeartbeats 4000000
/-! Lists times numbers, empty dicts, lists against the empty list. -/
namespace L2
open PySem PySem.Spec PyProof.Rows
open Evl (Ex)
section
variable {K : PySem.W.Frag} {Γ Γ' : List Sl} {te tb tv tc : TE} {ta : TA} {wi : TI} {g : TG} {tu ts : TS} {tt : TT} {P P' : PyData → Prop} {j : Nat} {Γ2 : List Sl}
theorem ev_dnew : EvD K tDNewK Γ (· = .dict []) := fun G σ H e i Q q p hp => by
  obtain ⟨i2, l2, h2⟩ := Fr.new (o := HO.dK []) i hp
  exact q _ _ _ i2 l2 rfl (.dic h2 .nil)
theorem en_lst {ds : List PyData} (h : EvL' K ta Γ (· = ds)) (hn : ds.length ≤ 100000 := by exact Nat.le_of_ble_eq_true rfl) : EvN K (tLst ta) Γ (· = ds) := fun G σ H ev iv Q q =>
  h G σ H ev iv _ fun vs ss H1 i1 l1 ⟨es, e1, e2⟩ dqs => by
    subst e1
    subst e2
    have dqs := args_dats dqs
    refine ⟨by rw [dqs.length, sizeLine_eq]; omega, fun p hp => ?_⟩
    obtain ⟨i3, v3⟩ := Fr.own_new (G := G) (o := HO.lst vs) i1 hp
    exact q p vs es _ i3 (by rw [v3]; exact l1) rfl (by rw [v3]; exact dqs)
theorem flat_rep {α : Type} (x : α) : ∀ n : Nat, (List.replicate n [x]).flatten = List.replicate n x
  | 0 => rfl
  | n + 1 => by rw [List.replicate_succ, List.flatten_cons, flat_rep x n, List.replicate_succ]; rfl
theorem dq_rep {H : Hp} {v : V} {d : PyData} (h : Dq K H v d) : ∀ n : Nat, DqAll K H (List.replicate n v) (List.replicate n d)
  | 0 => .nil
  | n + 1 => .cons h (dq_rep h n)
/-- [d] * n -/
theorem ev_repN {d : PyData} {n : Nat} (hn : n ≤ 1000) (h : EvN K te Γ (· = [d])) (h2 : EvD K tb Γ (· = .int n)) : EvD K (tOp rRep te tb) Γ (· = .list (List.replicate n d)) := fun G σ H ev iv Q q =>
  h G σ H ev iv _ fun l vs ds H1 i1 x1 p1 dqs => by
    subst p1
    cases dqs with
    | @cons v _ _ _ dq t =>
      cases t
      refine h2 _ σ H1 (ev.own x1) i1 _ fun v2 d2 H2 i2 l2 p2 dq2 => ?_
      subst p2
      cases dq2
      refine ⟨l, n, [v], rfl, rfl, Fr.own_at i2, by omega, by omega, by rw [sizeLine_eq]; simp only [List.length_singleton, Int.toNat_natCast]; omega, fun p hp => ?_⟩
      rw [Int.toNat_natCast, flat_rep]
      obtain ⟨i3, l3, h3⟩ := Fr.new (o := HO.lst (List.replicate n v)) i2 hp
      refine q _ _ _ i3.1 (fun c u hc => (hide_some (l3 c u (l2 c u (x1 c u hc)))).2) rfl (.lst (.inl (.inl (hide_some h3).2)) (dq_rep (((dq.ex l2).ex l3).ex Fr.own_sub) n))
/-- a list that is compared with the empty one -/
theorem eb_neNil {n : Nat} {ds : List PyData} (hn : n < 64) (ha : EvD K te Γ (· = .list ds)) (ho : ∀ e ∈ ds, okD n e = true) : EvB K (tTest (tOp (rNeD K) te (tLst tNil))) Γ (· = !ds.isEmpty) := fun G σ H ev iv Q q =>
  ha G σ H ev iv _ fun v d1 H1 i1 l1 p1 dq => by
    subst p1
    cases dq with
    | @lst a vs _ hs e3 =>
      refine ⟨Nat.zero_le _, fun p hp => ?_⟩
      obtain ⟨i2, l2, h2⟩ := Fr.new (o := HO.lst []) i1 hp
      have hd : DqAll K (upd H1 p (HO.lst [])) vs ds := (e3.ex l2).ex fun _ _ => G.sub
      have key : ∀ (xs : List V) (ds : List PyData), (∀ e ∈ ds, okD n e = true) → DqAll K (upd H1 p (HO.lst [])) xs ds → DpAll K (upd H1 p (HO.lst [])) xs ds := by
        intro xs
        induction xs with
        | nil => intro ds _ a; cases a; exact .nil
        | cons x xs ih =>
          intro ds hd a
          cases a with
          | cons h1 t1 => exact .cons (dq_dp n (hd _ List.mem_cons_self) h1) (ih _ (fun e he => hd e (List.mem_cons_of_mem _ he)) t1)
      have lay : ∀ ys : List PyData, (∀ e ∈ ys, okD n e = true) → PyData.canLayAll0 ys = true ∧ PyData.depthAll ys ≤ n := by
        intro ys
        induction ys with
        | nil => exact fun _ => ⟨by simp only [PyData.canLayAll0], by simp only [PyData.depthAll]; omega⟩
        | cons y ys ih =>
          intro hy
          have h1 := okD_lay n y (hy y List.mem_cons_self)
          have h2 := ih fun e he => hy e (List.mem_cons_of_mem _ he)
          exact ⟨by simp only [PyData.canLayAll0]; rw [h1.1, h2.1]; rfl, by simp only [PyData.depthAll]; omega⟩
      have sh : SeqAt.shaped (.list ds) = true := by
        have l := lay ds ho
        show (PyData.canLay0 (.list ds) && decide (PyData.depth (.list ds) ≤ 64)) = true
        have q1 : PyData.canLay0 (.list ds) = true := by simp only [PyData.canLay0]; exact l.1
        have q2 : PyData.depth (.list ds) ≤ 64 := by simp only [PyData.depth]; omega
        rw [q1, decide_eq_true q2]
        rfl
      refine ⟨.list ds, .list [], .lst (Fr.upL (exL l2 hs)) (key vs ds ho hd), .lst (SqL.of upd_same) .nil, sh, by decide, _, rfl, q _ _ i2 (l1.trans l2) ?_⟩
      cases ds with
      | nil => rfl
      | cons d ds => simp only [PyData.eqv, PyData.eqvAll]; rfl
theorem el1L {ds : List PyData} (h : EvD K te Γ (· = .list ds)) : EvL' K (tCons te tNil) Γ (fun zs => zs = [.list ds] ∨ zs = [.tuple ds]) := (elc h el_nil).imp fun zs e => .inl e
theorem el1T {ds : List PyData} (h : EvD K te Γ (· = .tuple ds)) : EvL' K (tCons te tNil) Γ (fun zs => zs = [.list ds] ∨ zs = [.tuple ds]) := (elc h el_nil).imp fun zs e => .inr e
theorem ev_listOf {ds : List PyData} (h : EvL' K ta Γ (fun zs => zs = [.list ds] ∨ zs = [.tuple ds])) : EvD K (tCB (fun xs H Q => ∃ p ys, xs = [.ref p] ∧ (SqL K H p ys ∨ SqT K H p ys) ∧ ∀ l, H l = none → Q (.ref l) (upd H l (.lst ys))) ta) Γ (· = .list ds) := fun G σ H ev iv Q q =>
  h G σ H ev iv _ fun vs ss H1 iv1 l1 ⟨zs, e1, e2⟩ dqs => by
    subst e1
    rcases e2 with e2 | e2
    · subst e2
      have dqs := args_dats dqs
      cases dqs with
      | cons h1 t1 =>
        cases t1
        cases h1 with
        | @lst a xs _ hs ha =>
          refine ⟨a, xs, rfl, .inl (Fr.upL hs), fun p hp => ?_⟩
          obtain ⟨i3, l3, h3⟩ := Fr.new (o := HO.lst xs) iv1 hp
          exact q _ _ _ i3 (l1.trans l3) rfl (.lst (.inl (.inl h3)) (ha.ex l3))
    · subst e2
      have dqs := args_dats dqs
      cases dqs with
      | cons h1 t1 =>
        cases t1
        cases h1 with
        | @tup a xs _ hs ha =>
          refine ⟨a, xs, rfl, .inr (Fr.upT hs), fun p hp => ?_⟩
          obtain ⟨i3, l3, h3⟩ := Fr.new (o := HO.lst xs) iv1 hp
          exact q _ _ _ i3 (l1.trans l3) rfl (.lst (.inl (.inl h3)) (ha.ex l3))
/-- a promise of slots, told by a ghost -/
def spS (K : PySem.W.Frag) {γ : Type} (pre : γ → List Sl → Prop) (post : γ → PyData → Prop) : Sp := fun vs H Q _ => ∃ (G : Fr) (ss : List Sl) (c : γ), G.inv H ∧ ArgsOk K G H vs ss ∧ pre c ss ∧ ∀ v d H', G.inv H' → G.le H H' → post c d → Dq K (G.view H') v d → Q v H'
theorem ev_callG {γ : Type} {pre : γ → List Sl → Prop} {post : γ → PyData → Prop} {PS : List Sl → Prop} {E : XK} (c : γ) (h : EvS K ta Γ PS) (hp : ∀ ss, PS ss → pre c ss) : EvD K (tCall (spS K pre post) [] E ta) Γ (post c) := fun G σ H e i Q q =>
  h G σ H e i _ fun vs ss H1 i1 l1 p1 as => by
    rw [List.append_nil]
    exact ⟨G, ss, c, i1, as, hp ss p1, fun v d H' i' l' p' dq => q v d H' i' (l1.trans l') p' dq⟩
/-- a block that goes through: the places behind it -/
def Thru (K : PySem.W.Frag) (ts : TS) (Γ Γ' : List Sl) : Prop := ∀ (G : Fr) (σ : L2.St) (H : Hp) (D : Ends), EnvOk K G H σ Γ → G.inv H → (∀ σ' H', G.inv H' → G.le H H' → EnvOk K G H' σ' Γ' → D.nx σ' H') → ts D σ H
theorem th_next : Thru K tNext Γ Γ := fun G σ H D ev iv k => k σ H iv .refl ev
theorem th_seq (h : Thru K ts Γ Γ') (h2 : Thru K tu Γ' Γ2) : Thru K (tSeq ts tu) Γ Γ2 := fun G σ H D ev iv k =>
  h G σ H _ ev iv fun σ' H' i' l' ev' => h2 G σ' H' _ ev' i' fun σ2 H2 i2 l2 => k σ2 H2 i2 (l'.trans l2)
theorem th_set {i : Nat} {d : PyData} (hi : i < Γ.length) (h : EvD K te Γ (· = d)) : Thru K (tAsg te (gName i)) Γ (Γ.set i (.dat d)) := fun G σ H D ev iv k =>
  h G σ H ev iv _ fun v e H1 i1 l1 p1 dq => by
    subst p1
    exact k _ H1 i1 l1 ((ev.le l1).set hi dq)
theorem th_setV {i : Nat} {s : Sl} (hi : i < Γ.length) (h : EvV K te Γ s) : Thru K (tAsg te (gName i)) Γ (Γ.set i s) := fun G σ H D ev iv k =>
  h G σ H ev iv _ fun v H1 i1 l1 hs => k _ H1 i1 l1 ((ev.le l1).set hi hs)
theorem th_if {b : Bool} (h : EvB K tt Γ (· = b)) (h1 : b = true → Thru K ts Γ Γ') (h2 : b = false → Thru K tu Γ Γ') : Thru K (tIfS tt ts tu) Γ Γ' := fun G σ H D ev iv k =>
  h G σ H ev iv _ fun c H1 i1 l1 e => by
    subst e
    cases c with
    | true => exact h1 rfl G σ H1 D (ev.le l1) i1 fun σ' H' i' l' => k σ' H' i' (l1.trans l')
    | false => exact h2 rfl G σ H1 D (ev.le l1) i1 fun σ' H' i' l' => k σ' H' i' (l1.trans l')
theorem th_weak (h : Thru K ts Γ Γ') (hl : Γ'.length = Γ2.length) (hw : ∀ (i : Nat) s, Γ2[i]? = some s → s = .any ∨ Γ'[i]? = some s) : Thru K ts Γ Γ2 := fun G σ H D ev iv k => h G σ H D ev iv fun σ' H' i' l' ev' => k σ' H' i' l' (ev'.weak hl hw)
/-- a loop whose turns go through -/
theorem th_for {n : Nat} {vs : List Nat} {Pi : Nat → PyData → Prop} {N : Nat → PyData → List Sl} (hi : EvI0 K wi Γ (· = n) Pi) (hg : ∀ i, TgOk K g vs Γ (Pi i) (N i)) (hb : ∀ i e, i < n → Pi i e → Thru K ts (N i e) Γ) : Thru K (tFor wi g ts) Γ Γ := fun G σ H D ev iv k => by
  refine hi G σ H ev iv _ fun n' J H1 hn iv1 l1 w => ?_
  subst hn
  refine ⟨fun i c σ' H' => c = n' - i ∧ i ≤ n' ∧ G.inv H' ∧ G.le H1 H' ∧ EnvOk K G H' σ' Γ, ⟨n', by simp, Nat.zero_le _, iv1, .refl, ev.le l1⟩, ?_⟩
  rintro i c σ2 H2 ⟨rfl, hle, iv2, l2, ev2⟩
  have w2 := w G H2 l2 iv2
  by_cases hlt : i < n'
  · refine .inr ⟨(w2.1 i hlt).1, fun σ' H' => i + 1 ≤ n' ∧ G.inv H' ∧ G.le H1 H' ∧ EnvOk K G H' σ' Γ, fun σ' H' h' => ⟨n' - (i + 1), by omega, rfl, h'⟩, fun x H3 hy => ?_⟩
    obtain ⟨iv3, l3, e, pe, dq⟩ := (w2.1 i hlt).2 x H3 hy
    exact hg i G σ2 H3 x e (ev2.le l3) iv3 pe dq _ fun σ3 _ _ ev3 => hb i e hlt pe G σ3 H3 _ ev3 iv3 fun σ4 H4 i4 l4 ev4 => ⟨hlt, i4, (l2.trans l3).trans l4, ev4⟩
  · obtain rfl : i = n' := by omega
    exact .inl ⟨w2.2, k σ2 H2 iv2 (l1.trans l2) ev2⟩
theorem rs_thru (h : Thru K ts Γ Γ') (h2 : Rets K tu Γ' P) : Rets K (tSeq ts tu) Γ P := fun G σ H D ev iv k =>
  h G σ H _ ev iv fun σ' H' i' l' ev' => h2 G σ' H' D ev' i' fun v d H2 i2 l2 => k v d H2 i2 (l'.trans l2)
/-- the object of a place -/
theorem ev_varV {i : Nat} {s : Sl} (hs : s ≠ .any) (h : Γ[i]? = some s) : EvV K (tVar i) Γ s := fun G σ H e iv Q q => by
  rcases e.2 i _ h with z | ⟨v, a, b⟩
  · exact absurd z hs
  · exact ⟨v, a, q v H iv .refl b⟩
theorem th_nil : Thru K tNext Γ Γ := fun G σ H D ev iv k => k σ H iv .refl ev
theorem Thru.weak (h : Thru K ts Γ Γ') (hl : Γ'.length = Γ2.length) (hw : ∀ (i : Nat) (s : Sl), Γ2[i]? = some s → s = .any ∨ Γ'[i]? = some s) : Thru K ts Γ Γ2 := fun G σ H D ev iv k =>
  h G σ H D ev iv fun σ' H' i' l' ev' => k σ' H' i' l' (EnvOk.weak ev' hl hw)
end
end L2

set_option Elab.async false
set_option linter.all false
set_option maxRecDepth 100000
set_option maxHeartbeats 4000000
/-! A text of one sign times a number; parts of expressions that are told by a predicate. -/
namespace L2
open PySem PySem.Spec PyProof.Rows
open Evl (Ex)
theorem foldl_size (a : Array Nat) : ∀ (n : Nat) (b : Array Nat), ((List.replicate n a).foldl (· ++ ·) b).size = b.size + n * a.size
  | 0, b => by simp
  | n + 1, b => by
    rw [List.replicate_succ, List.foldl_cons, foldl_size a n, Array.size_append, Nat.succ_mul]
    omega
def repS (z : Str) (k : Nat) : Str := ⟨(List.replicate k z.cps).foldl (· ++ ·) #[]⟩
theorem repS_len {z : Str} {k : Nat} (hz : z.length = 1) : (repS z k).length = k := by
  show ((List.replicate k z.cps).foldl (· ++ ·) #[]).size = k
  rw [foldl_size]
  have hz : z.cps.size = 1 := hz
  rw [hz]
  simp
def rRepS : R2 := fun x y H Q => ∃ (z : Str) (k : Nat), x = .str z ∧ y = .int k ∧ z.length = 1 ∧ 2 ≤ k ∧ k ≤ 1000 ∧ Q (.str (repS z k)) H
section
variable {X : Cx}
theorem op_repS : OpR X (binaryOp .Mult) rRepS := by
  intro pins s σ H x y v u Q I rx ry h
  obtain ⟨z, k, rfl, rfl, hz, k1, k2, q⟩ := h
  obtain ⟨t, rfl⟩ := rx
  obtain ⟨t', rfl⟩ := ry
  have hn : ¬ ((k : Nat) : Int) < 1 := by omega
  refine PySem.P.mul_str ?_ (fun _ _ => ?_) (fun _ _ => ?_) ?_
  · rw [decide_eq_false (by omega), decide_eq_false (by omega)]
    rfl
  · rw [hz]
    have : (1 : Int) ≤ (2 ^ 63 - 1) / ((k : Nat) : Int) := Int.le_ediv_of_mul_le (by omega) (by omega)
    omega
  · rw [hz]
    show decide (_ > sizeLine) = false
    refine decide_eq_false ?_
    rw [sizeLine_eq, Int.toNat_natCast]
    omega
  · rw [if_neg hn]
    have c : ¬ (((k : Nat) : Int) == 1 || z.length == 0) = true := by
      rw [hz]
      intro c
      have c : (((k : Nat) : Int) == 1) = true := by simpa using c
      have := eq_of_beq c
      omega
    rw [if_neg c, Int.toNat_natCast]
    refine ⟨?_, .str _, _, I.tok _, ⟨_, rfl⟩, q⟩
    have := repS_len (k := k) hz
    show (repS z k).length ≤ sizeLine
    rw [this, sizeLine_eq]
    omega
end
section
variable {K : PySem.W.Frag} {Γ Γ' : List Sl} {te tb : TE} {ta : TA} {wi : TI} {g : TG} {tu ts : TS} {tt : TT} {P P' : PyData → Prop} {Q1 : List PyData → Prop} {ds fs : List PyData} {lo hi : Option Int} {tl th : TO}
/-- '1' * n -/
theorem ev_repS {z : Str} {k : Nat} (hz : z.length = 1) (k1 : 2 ≤ k) (k2 : k ≤ 1000) (h : EvD K te Γ (· = .str z)) (h2 : EvD K tb Γ (· = .int k)) : EvD K (tOp rRepS te tb) Γ (· = .str (repS z k)) := fun G σ H e i Q q =>
  h G σ H e i _ fun v d1 H1 i1 l1 p1 dq => h2 G σ H1 (e.le l1) i1 _ fun v2 d2 H2 i2 l2 p2 dq2 => by
    subst p1; subst p2
    cases dq; cases dq2
    exact ⟨z, k, rfl, rfl, hz, k1, k2, q _ _ H2 i2 (l1.trans l2) rfl (.str _)⟩
/-- l + m, m told by a predicate -/
theorem ev_catLP (h : EvD K te Γ (· = .list ds)) (h2 : EvD K tb Γ (fun d => ∃ es, d = .list es ∧ Q1 es)) (hn : ∀ es, Q1 es → ds.length + es.length ≤ 100000) : EvD K (tOp (rCatS K) te tb) Γ (fun d => ∃ es, d = .list (ds ++ es) ∧ Q1 es) := fun G σ H e i Q q =>
  h G σ H e i _ fun v d1 H1 i1 l1 p1 dq => h2 G σ H1 (e.le l1) i1 _ fun v2 d2 H2 i2 l2 ⟨es, p2, pe⟩ dq2 => by
    subst p1; subst p2
    cases dq with
    | @lst a xs _ hs ha =>
      cases dq2 with
      | @lst b ys _ ks ka =>
        refine ⟨a, b, xs, ys, rfl, rfl, Fr.upL (exL l2 hs), Fr.upL ks, by have := hn es pe; rw [ha.length, ka.length, sizeLine_eq]; omega, fun p hp => ?_⟩
        obtain ⟨i4, l4, h4⟩ := Fr.new (o := HO.lst (xs ++ ys)) i2 hp
        exact q _ _ _ i4 ((l1.trans l2).trans l4) ⟨es, rfl, pe⟩ (.lst (.inl (.inl h4)) (((ha.ex l2).append ka).ex l4))
/-- l + m, l told by a predicate -/
theorem ev_catPL (h : EvD K te Γ (fun d => ∃ es, d = .list es ∧ Q1 es)) (h2 : EvD K tb Γ (· = .list fs)) (hn : ∀ es, Q1 es → es.length + fs.length ≤ 100000) : EvD K (tOp (rCatS K) te tb) Γ (fun d => ∃ es, d = .list (es ++ fs) ∧ Q1 es) := fun G σ H e i Q q =>
  h G σ H e i _ fun v d1 H1 i1 l1 ⟨es, p1, pe⟩ dq => h2 G σ H1 (e.le l1) i1 _ fun v2 d2 H2 i2 l2 p2 dq2 => by
    subst p1; subst p2
    cases dq with
    | @lst a xs _ hs ha =>
      cases dq2 with
      | @lst b ys _ ks ka =>
        refine ⟨a, b, xs, ys, rfl, rfl, Fr.upL (exL l2 hs), Fr.upL ks, by have := hn es pe; rw [ha.length, ka.length, sizeLine_eq]; omega, fun p hp => ?_⟩
        obtain ⟨i4, l4, h4⟩ := Fr.new (o := HO.lst (xs ++ ys)) i2 hp
        exact q _ _ _ i4 ((l1.trans l2).trans l4) ⟨es, rfl, pe⟩ (.lst (.inl (.inl h4)) (((ha.ex l2).append ka).ex l4))
theorem ev_slLP (h : EvD K te Γ (fun d => ∃ es, d = .list es ∧ Q1 es)) (h1 : EvO K tl Γ lo) (h2 : EvO K th Γ hi) : EvD K (tSl (rSlL K) te tl th) Γ (fun d => ∃ es, d = .list (cutQ es lo hi) ∧ Q1 es) := fun G σ H e i Q q =>
  h G σ H e i _ fun v d H1 i1 l1 ⟨es, p1, pe⟩ dq => by
    subst p1
    cases dq with
    | @lst a xs _ hs ha =>
      refine h1 G σ H1 (e.le l1) i1 _ fun H2 i2 l2 => h2 G σ H2 (e.le (l1.trans l2)) i2 _ fun H3 i3 l3 => ?_
      refine ⟨a, xs, rfl, Fr.upL (exL (l2.trans l3) hs), fun p hp => ?_⟩
      obtain ⟨i4, l4, h4⟩ := Fr.new (o := HO.lst (cutV xs lo hi)) i3 hp
      refine q _ _ _ i4 (((l1.trans l2).trans l3).trans l4) ⟨es, rfl, pe⟩ (.lst (.inl (.inl h4)) ?_)
      have ha' := ((ha.ex l2).ex l3).ex l4
      unfold cutV cutQ
      rw [← ha.length]
      exact (ha'.drop _).take _
theorem cutQ_head (ds : List PyData) (n : Nat) : cutQ ds none (some (n : Int)) = ds.take n := by
  by_cases h : n ≤ ds.length
  · exact cutQ_take h
  · have h0 : HT.sIx ds.length 0 none = 0 := rfl
    unfold cutQ
    rw [h0, List.drop_zero, Nat.sub_zero, List.take_of_length_le (l := ds) (i := n) (by omega)]
    refine List.take_of_length_le ?_
    unfold HT.sIx
    simp only
    split <;> omega
theorem th_setP {i : Nat} (hi : i < Γ.length) (h : EvD K te Γ P) (h2 : ∀ d, P d → Thru K tu (Γ.set i (.dat d)) Γ') : Thru K (tSeq (tAsg te (gName i)) tu) Γ Γ' := fun G σ H D ev iv k =>
  h G σ H ev iv _ fun v d H1 i1 l1 p dq => h2 d p G _ H1 D ((ev.le l1).set hi dq) i1 fun σ' H' i' l' => k σ' H' i' (l1.trans l')
theorem rs_weak (h : Rets K ts Γ' P) (hl : Γ.length = Γ'.length) (hw : ∀ (i : Nat) s, Γ'[i]? = some s → s = .any ∨ Γ[i]? = some s) : Rets K ts Γ P := fun G σ H D ev iv k => h G σ H D (ev.weak hl hw) iv k
theorem rs_parP {i j : Nat} {PL : List PyData → Prop} {Q2 : PyData → PyData → Prop} (hi : i < Γ.length) (hj : j < Γ.length) (h : EvL' K ta Γ PL) (hp : ∀ ds, PL ds → ∃ a b, ds = [a, b] ∧ Q2 a b) (h2 : ∀ a b, Q2 a b → Rets K tu ((Γ.set i (.dat a)).set j (.dat b)) P) : Rets K (tSeq (tPar i j ta) tu) Γ P := fun G σ H D ev iv k =>
  h G σ H ev iv _ fun vs ss H1 i1 l1 ⟨ds, e1, e2⟩ dqs => by
    obtain ⟨a, b, e3, pq⟩ := hp ds e2
    subst e3; subst e1
    have dqs := args_dats dqs
    cases dqs with
    | cons h1 t1 =>
      cases t1 with
      | cons h3 t3 =>
        cases t3
        exact ⟨_, _, rfl, h2 a b pq G _ H1 _ (((ev.le l1).set (s := .dat a) hi h1).set (s := .dat b) (by rw [List.length_set]; exact hj) h3) i1 fun v d H' i' l' => k v d H' i' (l1.trans l')⟩
end
end L2

set_option Elab.async false
set_option linter.all false
set_option maxRecDepth 100000
set_option maxHeartbeats 4000000
/-! Lists that are read while they are filled; numbers that are added up; more of zip. -/
namespace L2
open PySem PySem.Spec PyProof.Rows
open Evl (Ex)
section
variable {K : PySem.W.Frag} {Γ Γ' Γ2 : List Sl} {te tb tc tl : TE} {ta : TA} {P P' P1 P2 : PyData → Prop} {tu ts : TS} {tt : TT} {wi : TI} {g : TG} {i j : Nat} {ds es : List PyData} {N : List PyData → List Sl → Prop}
theorem th_forI {Γl : Nat → List Sl} {n : Nat} {vs : List Nat} {Pi : Nat → PyData → Prop} {N : Nat → PyData → List Sl} (hi : EvI0 K wi (Γl 0) (· = n) Pi) (hg : ∀ i, TgOk K g vs (Γl i) (Pi i) (N i)) (hb : ∀ i e, i < n → Pi i e → Thru K ts (N i e) (Γl (i + 1))) : Thru K (tFor wi g ts) (Γl 0) (Γl n) := fun G σ H D ev iv k => by
  refine hi G σ H ev iv _ fun n' J H1 hn iv1 l1 w => ?_
  subst hn
  refine ⟨fun i c σ' H' => c = n' - i ∧ i ≤ n' ∧ G.inv H' ∧ G.le H1 H' ∧ EnvOk K G H' σ' (Γl i), ⟨n', by simp, Nat.zero_le _, iv1, .refl, ev.le l1⟩, ?_⟩
  rintro i c σ2 H2 ⟨rfl, hle, iv2, l2, ev2⟩
  have w2 := w G H2 l2 iv2
  by_cases hlt : i < n'
  · refine .inr ⟨(w2.1 i hlt).1, fun σ' H' => i + 1 ≤ n' ∧ G.inv H' ∧ G.le H1 H' ∧ EnvOk K G H' σ' (Γl (i + 1)), fun σ' H' h' => ⟨n' - (i + 1), by omega, rfl, h'⟩, fun x H3 hy => ?_⟩
    obtain ⟨iv3, l3, e, pe, dq⟩ := (w2.1 i hlt).2 x H3 hy
    exact hg i G σ2 H3 x e (ev2.le l3) iv3 pe dq _ fun σ3 _ _ ev3 => hb i e hlt pe G σ3 H3 _ ev3 iv3 fun σ4 H4 i4 l4 ev4 => ⟨hlt, i4, (l2.trans l3).trans l4, ev4⟩
  · obtain rfl : i = n' := by omega
    exact .inl ⟨w2.2, k σ2 H2 iv2 (l1.trans l2) ev2⟩
/-- x op= e of ints -/
theorem th_aug {f : Int → Int → Int} {a b : Int} (hi : i < Γ.length) (hs : Γ[i]? = some (.dat (.int a))) (h : EvD K te Γ (· = .int b)) : Thru K (tAug i te (ipI f)) Γ (Γ.set i (.dat (.int (f a b)))) := fun G σ H D ev iv k => by
  rcases ev.2 i _ hs with z | ⟨v, hv, dv⟩
  · cases z
  · have dv : Dq K (G.view H) v (.int a) := dv
    cases dv
    refine ⟨_, hv, h G σ H ev iv _ fun v2 d2 H2 i2 l2 p2 dq => ?_⟩
    subst p2
    cases dq
    exact ⟨_, _, rfl, rfl, k _ H2 i2 l2 ((ev.le l2).set hi (show Dq K _ _ _ from .int _))⟩
theorem th_drop (h : EvD K te Γ P) : Thru K (tDrop te) Γ Γ := fun G σ H D ev iv k => h G σ H ev iv _ fun v d H1 i1 l1 p1 dq => k σ H1 i1 l1 (ev.le l1)
theorem ev_sum {ns : List Int} (h : EvD K te Γ (· = .list (ns.map .int))) : EvD K (tCB (rSum K) (tCons te tNil)) Γ (· = .int ns.sum) := fun G σ H e iv Q q =>
  h G σ H e iv _ fun v d H1 i1 l1 p1 dq => by
    subst p1
    cases dq with
    | lst hs ha =>
      have key : ∀ {vs : List V} {ns : List Int}, DqAll K (G.view H1) vs (ns.map .int) → vs = ns.map V.int := by
        intro vs ns
        induction ns generalizing vs with
        | nil => intro h; cases h; rfl
        | cons n ns ih =>
          intro h
          cases h with
          | cons a t =>
            cases a
            rw [ih t]
            rfl
      have := key ha
      subst this
      exact ⟨_, ns, rfl, Fr.upL hs, q _ _ H1 i1 l1 rfl (.int _)⟩
theorem dq_atI {H : Hp} {vs : List V} {m : Int} {d : PyData} (h : DqAll K H vs ds) (hd : atI ds m = some d) : ∃ v, atI vs m = some v ∧ Dq K H v d := by
  unfold atI at hd ⊢
  rw [h.length]
  cases hx : ixN ds.length m with
  | none => rw [hx] at hd; cases hd
  | some q =>
    rw [hx] at hd
    exact h.get' hd
theorem ev_ixLm {m : Int} {d : PyData} (h : EvD K te Γ (· = .list ds)) (h2 : EvD K tb Γ (· = .int m)) (hd : atI ds m = some d) : EvD K (tOp (rIxL K) te tb) Γ (· = d) := fun G σ H e i Q q =>
  h G σ H e i _ fun v d1 H1 i1 l1 p1 dq => h2 G σ H1 (e.le l1) i1 _ fun v2 d2 H2 i2 l2 p2 dq2 => by
    subst p1; subst p2
    cases dq2
    cases dq with
    | lst hs ha =>
      obtain ⟨x, hx, dx⟩ := dq_atI ha hd
      exact ⟨_, _, _, x, rfl, rfl, Fr.upL (exL l2 hs), hx, q _ _ H2 i2 (l1.trans l2) rfl (dx.ex l2)⟩
/-- an item of a list that is kept aside -/
theorem ev_ixO {m : Int} {d : PyData} (h : Γ[i]? = some (.olst ds)) (h2 : EvD K tb Γ (· = .int m)) (hd : atI ds m = some d) : EvD K (tOp (rIxL K) (tVar i) tb) Γ (· = d) := fun G σ H ev iv Q q => by
  rcases ev.2 i _ h with z | ⟨v, hv, a, vs, e1, e2, e3⟩
  · cases z
  · subst e1
    refine ⟨_, hv, h2 G σ H ev iv _ fun v2 d2 H2 i2 l2 p2 dq2 => ?_⟩
    subst p2
    cases dq2
    obtain ⟨x, hx, dx⟩ := dq_atI e3 hd
    exact ⟨_, _, _, x, rfl, rfl, SqL.of (e2 H2 i2), hx, q _ _ H2 i2 l2 rfl (dx.ex l2)⟩
theorem atI_at {α : Type} {xs : List α} {n : Nat} {v : α} (h : xs[n]? = some v) : atI xs (n : Int) = some v := atI_nat h
theorem atI_end {α : Type} {xs : List α} {n : Nat} {v : α} (hn : xs.length = n + 1) (h : xs[n]? = some v) : atI xs (-1) = some v := by
  obtain ⟨hl, he⟩ := List.getElem?_eq_some_iff.mp h
  have e : xs = xs.dropLast ++ [v] := by
    have hne : xs ≠ [] := fun z => by subst z; cases hn
    have h1 := (List.dropLast_concat_getLast hne).symm
    have h2 : xs.getLast hne = v := by
      rw [List.getLast_eq_getElem, ← he]
      congr 1
      omega
    rw [h2] at h1
    exact h1
  rw [e]
  exact atI_last _ _
def KeepD (Γ : List Sl) (j : Nat) : Prop := ∀ (q : Nat) s, q ≠ j → Γ[q]? = some s → s = .any ∨ (∃ d, s = .dat d) ∨ ∃ C fs, s = .ins C fs
theorem KeepD.keep (h : KeepD Γ j) : Keep Γ j := fun q s hq hs => by
  rcases h q s hq hs with rfl | ⟨d, rfl⟩ | ⟨C, fs, rfl⟩ <;> rfl
theorem EnvOk.out {G : Fr} {H : Hp} {σ : L2.St} {l : Addr} {vs : List V} (ev : EnvOk K (G.own l (.lst vs)) H σ Γ) (iv : (G.own l (.lst vs)).inv H) (hj : σ[j]? = some (some (.ref l))) (hd : DqAll K ((G.own l (.lst vs)).view H) vs ds) (hk : KeepD Γ j) : EnvOk K G H σ (Γ.set j (.dat (.list ds))) := by
  refine ⟨by rw [List.length_set]; exact ev.1, fun q s hs => ?_⟩
  by_cases e : q = j
  · subst e
    by_cases hl : q < Γ.length
    · rw [List.getElem?_set_self hl] at hs
      cases hs
      exact .inr ⟨_, hj, .lst (SqL.of iv.2) (hd.ex Fr.own_sub)⟩
    · rw [List.getElem?_eq_none (by rw [List.length_set]; omega)] at hs
      cases hs
  · rw [List.getElem?_set_ne (Ne.symm e)] at hs
    rcases ev.2 q s hs with z | ⟨v, h1, h2⟩
    · exact .inl z
    · rcases hk q s e hs with rfl | ⟨d, rfl⟩ | ⟨C, fs, rfl⟩
      · exact .inl rfl
      · exact .inr ⟨v, h1, Dq.ex Fr.own_sub h2⟩
      · obtain ⟨a, dx, us, e1, e2, e3⟩ := h2
        exact .inr ⟨v, h1, a, dx, us, e1, Fr.own_sub _ _ e2, e3.ex Fr.own_sub⟩
/-- a test that may look at the list that is filled -/
theorem ap_ifV {b : Bool} (hk : KeepD Γ j) (h : EvB K tt (Γ.set j (.dat (.list ds))) (· = b)) (h1 : b = true → Apps K ts Γ j ds N) (h2 : b = false → Apps K tu Γ j ds N) : Apps K (tIfS tt ts tu) Γ j ds N := fun G σ H D l vs ev iv hj hd k =>
  h G σ H (ev.out iv hj hd hk) iv.1 _ fun c H1 i1 l1 e => by
    subst e
    have lo : (G.own l (.lst vs)).le H H1 := fun c u h => by
      obtain ⟨a1, a2⟩ := hide_some h
      show hide (G.view H1) l c = some u
      rw [hide_ne a1]
      exact l1 c u a2
    have io : (G.own l (.lst vs)).inv H1 := ⟨i1, l1 _ _ iv.2⟩
    have go : ∀ {t : TS}, Apps K t Γ j ds N → t D σ H1 := fun h => h G σ H1 D l vs (ev.le lo) io hj (hd.ex lo) fun σ' H' us es Γ' i' e' => k σ' H' us es Γ' i' fun c u h => e' c u (lo c u h)
    cases c with
    | true => exact go (h1 rfl)
    | false => exact go (h2 rfl)
/-- zip(l, t) -/
theorem e0_zipN {ds es : List PyData} (h : EvL' K ta Γ (· = [.list ds, .tuple es])) (hl : ds.length = es.length) : EvI0 K (iZipN K ta) Γ (· = ds.length) (fun i d => ∃ a b, ds[i]? = some a ∧ es[i]? = some b ∧ d = .tuple [a, b]) := fun G σ H ev iv R q =>
  h G σ H ev iv _ fun vs ss H1 iv1 l1 ⟨zs, e1, e2⟩ dqs => by
    subst e2; subst e1
    have dqs := args_dats dqs
    cases dqs with
    | cons h1 t1 =>
      cases t1 with
      | cons h2 t2 =>
        cases t2
        cases h1 with
        | lst hs ha =>
          cases h2 with
          | tup hs2 ha2 =>
            refine ⟨_, _, _, _, rfl, Fr.upL hs, Fr.upT hs2, q ds.length _ H1 rfl iv1 l1 fun G' H2 e iv2 => ⟨fun i hi => ?_, _, _, Fr.upL (exL e hs), Fr.upT (exT e hs2), ha.length, ha2.length.trans hl.symm⟩⟩
            obtain ⟨x, hx, dx⟩ := ha.get' (List.getElem?_eq_getElem hi)
            obtain ⟨y, hy, dy⟩ := ha2.get' (List.getElem?_eq_getElem (by omega : i < es.length))
            refine ⟨⟨_, _, x, y, Fr.upL (exL e hs), Fr.upT (exT e hs2), by rw [ha.length, ha2.length, hl], hx, hy⟩, fun v H3 ⟨T, x', y', e1, hT, e2, hx', hy'⟩ => ?_⟩
            subst e1; subst e2
            have := hx' _ (Fr.upL (exL e hs))
            rw [hx] at this
            cases this
            have := hy' _ (Fr.upT (exT e hs2))
            rw [hy] at this
            cases this
            obtain ⟨i3, l3, h3⟩ := Fr.new (o := HO.tup [x, y]) iv2 hT
            exact ⟨i3, l3, _, ⟨_, _, List.getElem?_eq_getElem hi, List.getElem?_eq_getElem (by omega), rfl⟩, .tup (.inl (.inl h3)) (.cons ((dx.ex e).ex l3) (.cons ((dy.ex e).ex l3) .nil))⟩
/-- zip of two tuples -/
theorem e0_zipT {ds es : List PyData} (h : EvL' K ta Γ (· = [.tuple ds, .tuple es])) (hl : ds.length = es.length) : EvI0 K (RZ.iZipA K ta) Γ (· = ds.length) (fun i d => ∃ a b, ds[i]? = some a ∧ es[i]? = some b ∧ d = .tuple [a, b]) := fun G σ H ev iv R q =>
  h G σ H ev iv _ fun vs ss H1 iv1 l1 ⟨zs, e1, e2⟩ dqs => by
    subst e2; subst e1
    have dqs := args_dats dqs
    cases dqs with
    | cons h1 t1 =>
      cases t1 with
      | cons h2 t2 =>
        cases t2
        cases h1 with
        | tup hs ha =>
          cases h2 with
          | tup hs2 ha2 =>
            refine ⟨_, _, _, _, rfl, .inr ⟨Fr.upT hs, Fr.upT hs2, q ds.length _ H1 rfl iv1 l1 fun G' H2 e iv2 => ⟨fun i hi => ?_, _, _, Fr.upT (exT e hs), Fr.upT (exT e hs2), .inl (by rw [ha.length]; exact Nat.le_refl _)⟩⟩⟩
            obtain ⟨x, hx, dx⟩ := ha.get' (List.getElem?_eq_getElem hi)
            obtain ⟨y, hy, dy⟩ := ha2.get' (List.getElem?_eq_getElem (by omega : i < es.length))
            refine ⟨⟨_, _, x, y, Fr.upT (exT e hs), Fr.upT (exT e hs2), hx, hy⟩, fun v H3 ⟨T, x', y', e1, hT, e2, hx', hy'⟩ => ?_⟩
            subst e1; subst e2
            have := hx' _ (Fr.upT (exT e hs))
            rw [hx] at this
            cases this
            have := hy' _ (Fr.upT (exT e hs2))
            rw [hy] at this
            cases this
            obtain ⟨i3, l3, h3⟩ := Fr.new (o := HO.tup [x, y]) iv2 hT
            exact ⟨i3, l3, _, ⟨_, _, List.getElem?_eq_getElem hi, List.getElem?_eq_getElem (by omega), rfl⟩, .tup (.inl (.inl h3)) (.cons ((dx.ex e).ex l3) (.cons ((dy.ex e).ex l3) .nil))⟩
theorem ev_neInt {a b : Int} (h : EvD K te Γ (· = .int a)) (h2 : EvD K tb Γ (· = .int b)) : EvD K (tOp rNe te tb) Γ (· = .bool (!decide (a = b))) := fun G σ H ev iv Q q =>
  h G σ H ev iv _ fun v d H1 i1 l1 p1 dq => h2 G σ H1 (ev.le l1) i1 _ fun v2 d2 H2 i2 l2 p2 dq2 => by
    subst p1; subst p2
    cases dq; cases dq2
    have e : decide (V.int a = V.int b) = decide (a = b) := by simp
    exact ⟨rfl, q _ _ H2 i2 (l1.trans l2) (by rw [e]) (.bl _)⟩
theorem ev_eqStr {a b : Str} (h : EvD K te Γ (· = .str a)) (h2 : EvD K tb Γ (· = .str b)) : EvD K (tOp rEq te tb) Γ (· = .bool (decide (a = b))) := fun G σ H ev iv Q q =>
  h G σ H ev iv _ fun v d H1 i1 l1 p1 dq => h2 G σ H1 (ev.le l1) i1 _ fun v2 d2 H2 i2 l2 p2 dq2 => by
    subst p1; subst p2
    cases dq; cases dq2
    have e : decide (V.str a = V.str b) = decide (a = b) := by simp
    exact ⟨rfl, q _ _ H2 i2 (l1.trans l2) (by rw [e]) (.bl _)⟩
theorem ev_neS {a b : Str} (h : EvD K te Γ (· = .str a)) (h2 : EvD K tb Γ (· = .str b)) : EvD K (tOp rNe te tb) Γ (· = .bool (!decide (a = b))) := fun G σ H ev iv Q q =>
  h G σ H ev iv _ fun v d H1 i1 l1 p1 dq => h2 G σ H1 (ev.le l1) i1 _ fun v2 d2 H2 i2 l2 p2 dq2 => by
    subst p1; subst p2
    cases dq; cases dq2
    have e : decide (V.str a = V.str b) = decide (a = b) := by simp
    exact ⟨rfl, q _ _ H2 i2 (l1.trans l2) (by rw [e]) (.bl _)⟩
/-- the slots Γ2 say less than Γ -/
def W (Γ Γ2 : List Sl) : Prop := Γ.length = Γ2.length ∧ ∀ (i : Nat) s, Γ2[i]? = some s → s = .any ∨ Γ[i]? = some s
theorem W.nil : W [] [] := ⟨rfl, fun i s h => by simp at h⟩
theorem W.eq {s : Sl} (h : W Γ Γ2) : W (s :: Γ) (s :: Γ2) := ⟨congrArg (· + 1) h.1, fun i t ht => by
  cases i with
  | zero => exact .inr ht
  | succ i => exact h.2 i t ht⟩
theorem W.any {s : Sl} (h : W Γ Γ2) : W (s :: Γ) (.any :: Γ2) := ⟨congrArg (· + 1) h.1, fun i t ht => by
  cases i with
  | zero => cases ht; exact .inl rfl
  | succ i => exact h.2 i t ht⟩
theorem th_w (h : Thru K ts Γ Γ') (w : W Γ' Γ2) : Thru K ts Γ Γ2 := Thru.weak h w.1 w.2
theorem rs_w (h : Rets K ts Γ' P) (w : W Γ Γ') : Rets K ts Γ P := rs_weak h w.1 w.2
theorem take_snoc {α : Type} {xs : List α} {i : Nat} {x : α} (h : xs[i]? = some x) : xs.take (i + 1) = xs.take i ++ [x] := by
  rw [List.take_succ, h]; rfl
def isP : Sl → Bool
  | .any => true
  | .dat _ => true
  | .ins _ _ => true
  | _ => false
def kB : List Sl → Nat → Bool
  | [], _ => true
  | _ :: Γ, 0 => Γ.all isP
  | s :: Γ, j + 1 => isP s && kB Γ j
theorem isP_or {s : Sl} (h : isP s = true) : s = .any ∨ (∃ d, s = .dat d) ∨ ∃ C fs, s = .ins C fs := by
  cases s with
  | any => exact .inl rfl
  | dat d => exact .inr (.inl ⟨d, rfl⟩)
  | ins C fs => exact .inr (.inr ⟨C, fs, rfl⟩)
  | _ => cases h
theorem keepD_of : ∀ {Γ : List Sl} {j : Nat}, kB Γ j = true → KeepD Γ j
  | [], _, _ => fun q s hq h => by simp at h
  | s :: Γ, 0, h => fun q t hq ht => by
    cases q with
    | zero => exact absurd rfl hq
    | succ q => exact isP_or (List.all_eq_true.mp h t (List.mem_of_getElem? (i := q) (by simpa using ht)))
  | s :: Γ, j + 1, h => fun q t hq ht => by
    have h : (isP s && kB Γ j) = true := h
    rw [Bool.and_eq_true] at h
    cases q with
    | zero => cases ht; exact isP_or h.1
    | succ q => exact keepD_of h.2 q t (fun e => hq (congrArg (· + 1) e)) (by simpa using ht)
end
end L2

set_option Elab.async false
set_option linter.all false
set_option maxRecDepth 100000
set_option maxHeartbeats 4000000
/-! Defs that may raise one class of one field, from slots. -/
namespace L2
open PySem PySem.Spec PyProof.Rows
open Evl (Ex)
/-- what the __init__ of such a class does -/
def spI1 (C : Addr) (f : Str) : Sp := fun vs H Q _ => ∃ (a : Addr) (x : V), vs = [.ref a, x] ∧ H a = some (exo a C none) ∧ ∀ dx, H dx = none → dx ≠ a → Q .non (upd (upd H dx (exd dx [(f, x)])) a (exo a C (some dx)))
def ExR1 (K : PySem.W.Frag) (G : Fr) (C : Addr) (E : XK) (f : Str) (PX : PyData → Prop) (H : Hp) : Prop := ∀ (dx : Addr) (H' : Hp) (x : V) (p : PyData), G.inv H' → G.le H H' → PX p → Dq K (G.view H') x p → G.view H' dx = some (.xd [(f, x)]) → E (.ref C) (some dx) H'
theorem ExR1.le {K : PySem.W.Frag} {G : Fr} {C : Addr} {E : XK} {f : Str} {PX PY : PyData → Prop} {H H1 : Hp} (h : ExR1 K G C E f PX H) (l : G.le H H1) (hp : ∀ p, PY p → PX p) : ExR1 K G C E f PY H1 := fun dx H' x p a b c d z => h dx H' x p a (l.trans b) (hp p c) d z
def RetX1 (K : PySem.W.Frag) (C : Addr) (E : XK) (f : Str) (ts : TS) (Γ : List Sl) (P : PyData → Prop) (PX : PyData → Prop) : Prop := ∀ (G : Fr) (σ : L2.St) (H : Hp) (D : Ends), EnvOk K G H σ Γ → G.inv H → (∀ v d H', G.inv H' → G.le H H' → P d → Dq K (G.view H') v d → D.rt v H') → ExR1 K G C E f PX H → ts D σ H
abbrev Res1 := Sum PyData PyData
/-- the promise of a def that may raise -/
def spY (K : PySem.W.Frag) (C : Addr) (f : Str) {γ : Type} (pre : γ → List Sl → Prop) (post : γ → Res1) : Sp := fun vs H Q E => ∃ (G : Fr) (ss : List Sl) (c : γ), G.inv H ∧ ArgsOk K G H vs ss ∧ pre c ss ∧
  (∀ v d H', G.inv H' → G.le H H' → post c = .inl d → Dq K (G.view H') v d → Q v H') ∧ ExR1 K G C E f (fun p => post c = .inr p) H
section
variable {K : PySem.W.Frag} {C : Addr} {E : XK} {f : Str} {Γ Γ' : List Sl} {te tb tv tc : TE} {ta : TA} {wi : TI} {g : TG} {tu ts : TS} {tt : TT} {P P' : PyData → Prop} {PX PY : PyData → Prop} {PL : List PyData → Prop} {j : Nat}
theorem RetX1.of (h : Rets K ts Γ P) : RetX1 K C E f ts Γ P PX := fun G σ H D ev iv k _ => h G σ H D ev iv k
theorem rx1_if (b : Bool) (h : EvB K tt Γ (· = b)) (h1 : b = true → RetX1 K C E f ts Γ P PX) (h2 : b = false → RetX1 K C E f tu Γ P PX) : RetX1 K C E f (tSeq (tIfS tt ts tNext) tu) Γ P PX := fun G σ H D ev iv k kx =>
  h G σ H ev iv _ fun c H1 iv1 l1 e => by
    subst e
    cases c with
    | true => exact h1 rfl G σ H1 _ (ev.le l1) iv1 (fun v d H2 iv2 l2 p dq => k v d H2 iv2 (l1.trans l2) p dq) (kx.le l1 fun _ h => h)
    | false => exact h2 rfl G σ H1 _ (ev.le l1) iv1 (fun v d H2 iv2 l2 p dq => k v d H2 iv2 (l1.trans l2) p dq) (kx.le l1 fun _ h => h)
theorem rx1_set {i : Nat} (hi : i < Γ.length) (h : EvD K te Γ P') (h2 : ∀ d, P' d → RetX1 K C E f tu (Γ.set i (.dat d)) P PX) : RetX1 K C E f (tSeq (tAsg te (gName i)) tu) Γ P PX := fun G σ H D ev iv k kx =>
  h G σ H ev iv _ fun v d H1 iv1 l1 p dq => h2 d p G _ H1 _ ((ev.le l1).set hi dq) iv1 (fun v d H2 iv2 l2 p dq => k v d H2 iv2 (l1.trans l2) p dq) (kx.le l1 fun _ h => h)
/-- raise C(p) -/
theorem rx1_raise (h : EvL' K ta Γ (fun ds => ∃ p, ds = [p] ∧ PX p)) : RetX1 K C E f (fun _ σ H => tMkO C (spI1 C f) [] ta σ H fun cls d H' => E cls d H') Γ P PX := fun G σ H D ev iv k kx =>
  h G σ H ev iv _ fun vs ss H1 i1 l1 ⟨ds, e1, p, e2, px⟩ dqs => by
    subst e1
    subst e2
    have dqs := args_dats dqs
    cases dqs with
    | @cons x _ _ _ q1 t1 =>
      cases t1
      refine ⟨by show 1 ≤ 1000; decide, fun a ha => ⟨a, x, rfl, upd_same, fun dx hdx hne => ⟨rfl, dx, [(f, x)], upd_same, by rw [upd_ne hne]; exact upd_same, by rwa [upd_ne hne] at hdx, ?_⟩⟩⟩
      have hdx1 : H1 dx = none := by rwa [upd_ne hne] at hdx
      have e : upd (del (upd (upd (upd H1 a (exo a C none)) dx (exd dx [(f, x)])) a (exo a C (some dx))) a) dx (.xd [(f, x)]) = upd H1 dx (.xd [(f, x)]) := by
        funext b
        by_cases hb : b = dx
        · subst hb; rw [upd_same, upd_same]
        · rw [upd_ne hb, upd_ne hb]
          by_cases hb2 : b = a
          · subst hb2; rw [del_same, ha]
          · rw [del_ne hb2, upd_ne hb2, upd_ne hb, upd_ne hb2]
      show E _ _ _
      rw [e]
      obtain ⟨i2, l2, v2⟩ := Fr.new (o := .xd [(f, x)]) i1 hdx1
      exact kx dx _ x p i2 (l1.trans l2) px (q1.ex l2) v2
theorem doneY {G : Fr} {H : Hp} {vs : List V} {ss : List Sl} {D : Ends} {N : List Str} (n : Nat) (hs : L2.start N vs = vs.map some ++ List.replicate n none) (h : RetX1 K C E f ts (ss ++ List.replicate n .any) P PX) (iv : G.inv H) (a : ArgsOk K G H vs ss)
    (k : ∀ v d H', G.inv H' → G.le H H' → P d → Dq K (G.view H') v d → D.rt v H') (kx : ExR1 K G C E f PX H) : ts D (L2.start N vs) H := by
  rw [hs]
  exact h G _ H D (envOk_of n a) iv k kx
end
end L2

set_option Elab.async false
set_option linter.all false
set_option maxRecDepth 100000
set_option maxHeartbeats 4000000
/-! Inner loops while a list is filled. -/
namespace L2
open PySem PySem.Spec PyProof.Rows
open Evl (Ex)
section
variable {K : PySem.W.Frag} {Γ Γ' Γ2 : List Sl} {te tb tc tl : TE} {ta : TA} {P P' P1 P2 : PyData → Prop} {tu ts : TS} {tt : TT} {wi : TI} {g : TG} {i j : Nat} {ds es : List PyData} {N : List PyData → List Sl → Prop}
theorem W.trans {A B C : List Sl} (h : W A B) (h2 : W B C) : W A C := ⟨h.1.trans h2.1, fun i s hs => by
  rcases h2.2 i s hs with e | e
  · exact .inl e
  · exact h.2 i s e⟩
theorem ap_weak (h : Apps K ts Γ' j ds N) (w : W Γ Γ') : Apps K ts Γ j ds N := fun G σ H D l vs ev iv hj hd k => h G σ H D l vs (ev.weak w.1 w.2) iv hj hd k
theorem ap_to {ΓE : List Sl} (h : Apps K ts Γ j ds (fun es' Γ' => es' = ds ∧ W Γ' ΓE)) (h2 : Apps K tu ΓE j ds N) : Apps K (tSeq ts tu) Γ j ds N :=
  ap_seq h fun es' Γ' ⟨e1, w⟩ => by subst e1; exact ap_weak h2 w
theorem ap_set1 (hi : i < Γ.length) (hij : i ≠ j) (h : EvD K te Γ P) (hn : ∀ d, P d → N ds (Γ.set i (.dat d))) : Apps K (tAsg te (gName i)) Γ j ds N := fun G σ H D l vs ev iv hj hd k =>
  h _ σ H ev iv _ fun v d H1 i1 l1 p1 dq => k _ H1 vs ds _ i1 l1 ((ev.le l1).set (s := .dat d) hi dq) (by rw [List.getElem?_set_ne hij]; exact hj) (hd.ex l1) (hn d p1)
theorem ap_forI {Γl : Nat → List Sl} {vs : List Nat} {n : Nat} {Pi : Nat → PyData → Prop} {Nt : Nat → PyData → List Sl} (hjv : j ∉ vs) (hjs : ∀ i, (Γl i)[j]? = some (.olst ds))
    (hi : EvI0 K wi (Γl 0) (· = n) Pi) (hg : ∀ i, TgOk K g vs (Γl i) (Pi i) (Nt i))
    (hb : ∀ i d, i < n → Pi i d → Apps K tu (Nt i d) j ds fun es' Γ' => es' = ds ∧ W Γ' (Γl (i + 1))) : Apps K (tFor wi g tu) (Γl 0) j ds fun es' Γ' => es' = ds ∧ W Γ' (Γl n) := fun G σ H D l vs0 ev iv hj hd k => by
  refine hi (G.own l (.lst vs0)) σ H ev iv _ fun n' J H1 hnn iv1 l1 w => ?_
  subst hnn
  let Iv : Nat → L2.St → Hp → Prop := fun i σ' H' => ∃ us, (G.own l (.lst us)).inv H' ∧ Ex ((G.own l (.lst vs0)).view H1) ((G.own l (.lst us)).view H') ∧ EnvOk K (G.own l (.lst us)) H' σ' (Γl i) ∧ σ'[j]? = some (some (.ref l)) ∧ DqAll K ((G.own l (.lst us)).view H') us ds
  refine ⟨fun i c σ' H' => c = n' - i ∧ i ≤ n' ∧ Iv i σ' H', ⟨n', by simp, Nat.zero_le _, vs0, iv1, fun _ _ h => h, ev.le l1, hj, hd.ex l1⟩, ?_⟩
  rintro i c σ2 H2 ⟨rfl, hle, us, iv2, e2, ev2, hj2, hd2⟩
  have w2 := w (G.own l (.lst us)) H2 e2 iv2
  by_cases hlt : i < n'
  · refine .inr ⟨(w2.1 i hlt).1, fun σ' H' => i + 1 ≤ n' ∧ Iv (i + 1) σ' H', fun σ' H' h' => ⟨n' - (i + 1), by omega, rfl, h'⟩, fun x H3 hy => ?_⟩
    obtain ⟨iv3, l3, d, pd, dq⟩ := (w2.1 i hlt).2 x H3 hy
    refine hg i (G.own l (.lst us)) σ2 H3 x d (ev2.le l3) iv3 pd dq _ fun σ3 _ hs3 ev3 => ?_
    refine hb i d hlt pd G σ3 H3 _ l us ev3 iv3 (by rw [hs3 j hjv]; exact hj2) (hd2.ex l3) fun σ4 H4 us4 es4 Γ4 iv4 e4 ev4 hj4 hd4 ⟨n4, w4⟩ => ?_
    subst n4
    exact ⟨hlt, us4, iv4, fun c u h => e4 c u (l3 c u (e2 c u h)), ev4.weak w4.1 w4.2, hj4, hd4⟩
  · obtain rfl : i = n' := by omega
    exact .inl ⟨w2.2, k σ2 H2 us ds _ iv2 (fun c u h => e2 c u (l1 c u h)) ev2 hj2 hd2 ⟨rfl, rfl, fun _ _ h => .inr h⟩⟩
theorem ev_ge {a b : Int} (h : EvD K te Γ (· = .int a)) (h2 : EvD K tb Γ (· = .int b)) : EvD K (tOp (rI0 fun i j => .bl (decide (j ≤ i))) te tb) Γ (· = .bool (decide (b ≤ a))) := ev_opC1 (g' := fun i j => .bool (decide (j ≤ i))) (fun _ _ _ => .bl _) h h2
theorem ev_intOf {a : Int} (h : EvD K te Γ (· = .int a)) : EvD K (tCB (fun xs H Q => (∃ i, xs = [V.int i] ∧ Q (V.int i) H) ∨ ∃ k, xs = [V.bl k] ∧ Q (V.int (if k = true then 1 else 0)) H) (tCons te tNil)) Γ (· = .int a) :=
  (ev_int1 (P := fun d => d = .int a) (h.imp fun d e => ⟨a, e, rfl⟩)).imp fun d ⟨n, e1, e2⟩ => by rw [e1, e2]
/-- x, found = e, [], by a tuple -/
theorem rs_asgL {a : PyData} (hi : i < Γ.length) (hij : i ≠ j) (hjl : j < Γ.length) (h : EvD K te Γ (· = a)) (h2 : RetL K tu ((Γ.set i (.dat a)).set j (.olst [])) j [] P) : Rets K (tSeq (tAsg (tTup (tCons te (tCons (tLst tNil) tNil))) (gTup K 2 (gCons (gName i) (gCons (gName j) gNil)))) tu) Γ P := fun G σ H D ev iv k =>
  h G σ H ev iv _ fun v d H1 i1 l1 p1 dq => ⟨Nat.zero_le _, fun p hp => ⟨by show 2 ≤ sizeLine; decide, fun t ht => by
    subst p1
    obtain ⟨iv1, vw1⟩ := Fr.own_new (G := G) (o := HO.lst []) i1 hp
    obtain ⟨iv2, l2, v2⟩ := Fr.new (G := G.own p (.lst [])) (o := .tup [v, .ref p]) iv1 ht
    have ev1 : EnvOk K G H1 (σ.set i (some v)) (Γ.set i (.dat d)) := (ev.le l1).set (s := .dat d) hi dq
    have ev2 := (ev1.own (l := p) (o := .lst []) (H' := upd H1 p (.lst [])) (by rw [vw1]; exact fun _ _ h => h)).set (i := j) (s := .olst []) (v := .ref p) (by rw [List.length_set]; exact hjl) ⟨p, [], rfl, fun H' i => Fr.own_at i, .nil⟩
    refine ⟨t, [v, .ref p], rfl, .inl (.inl upd_same), rfl, v, [.ref p], rfl, .ref p, [], rfl, rfl, ?_⟩
    refine h2 G _ _ D p [] (ev2.le l2) iv2 (List.getElem?_set_self (by rw [List.length_set, ev.1]; exact hjl)) .nil fun v' d' H' i' e' => k v' d' H' i' ?_
    exact fun c u h => e' c u (l2 c u (by rw [vw1]; exact l1 c u h))⟩⟩
end
end L2

set_option Elab.async false
set_option linter.all false
set_option maxRecDepth 100000
set_option maxHeartbeats 4000000
/-! Blocks that leave some places alone (S). -/
namespace L2
open PySem PySem.Spec PyProof.Rows
open Evl (Ex)
def Su (S : List Nat) (σ σ' : L2.St) : Prop := ∀ q ∈ S, σ'[q]? = σ[q]?
theorem Su.refl {S : List Nat} {σ : L2.St} : Su S σ σ := fun _ _ => rfl
theorem Su.trans {S : List Nat} {σ σ1 σ2 : L2.St} (h : Su S σ σ1) (h2 : Su S σ1 σ2) : Su S σ σ2 := fun q hq => (h2 q hq).trans (h q hq)
theorem Su.set {S : List Nat} {σ : L2.St} {i : Nat} {v : Option V} (h : i ∉ S) : Su S σ (σ.set i v) := fun q hq => List.getElem?_set_ne fun (e : i = q) => h (by rw [e]; exact hq)
theorem Su.tg {S vs : List Nat} {σ σ' : L2.St} (h : ∀ i, i ∉ vs → σ'[i]? = σ[i]?) (hv : ∀ v ∈ vs, v ∉ S) : Su S σ σ' := fun q hq => h q fun z => hv q z hq
def ThruU (K : PySem.W.Frag) (S : List Nat) (ts : TS) (Γ : List Sl) (M : List Sl → Prop) : Prop := ∀ (G : Fr) (σ : L2.St) (H : Hp) (D : Ends), EnvOk K G H σ Γ → G.inv H → (∀ σ' H' Γ', G.inv H' → G.le H H' → EnvOk K G H' σ' Γ' → M Γ' → Su S σ σ' → D.nx σ' H') → ts D σ H
def AppsU (K : PySem.W.Frag) (S : List Nat) (ts : TS) (Γ : List Sl) (j : Nat) (ds : List PyData) (N : List PyData → List Sl → Prop) : Prop := ∀ (G : Fr) (σ : L2.St) (H : Hp) (D : Ends) (l : Addr) (vs : List V), EnvOk K (G.own l (.lst vs)) H σ Γ → (G.own l (.lst vs)).inv H → σ[j]? = some (some (.ref l)) → DqAll K ((G.own l (.lst vs)).view H) vs ds →
  (∀ σ' H' us es Γ', (G.own l (.lst us)).inv H' → Ex ((G.own l (.lst vs)).view H) ((G.own l (.lst us)).view H') → EnvOk K (G.own l (.lst us)) H' σ' Γ' → σ'[j]? = some (some (.ref l)) → DqAll K ((G.own l (.lst us)).view H') us es → N es Γ' → Su S σ σ' → D.nx σ' H') → ts D σ H
section
variable {K : PySem.W.Frag} {S : List Nat} {Γ Γ' Γ2 : List Sl} {te tb tc tl : TE} {ta : TA} {P P' P1 P2 : PyData → Prop} {tu ts : TS} {tt : TT} {wi : TI} {g : TG} {i j : Nat} {ds es : List PyData} {N : List PyData → List Sl → Prop}
theorem tu_next {M : List Sl → Prop} (hm : M Γ) : ThruU K S tNext Γ M := fun G σ H D ev iv k => k σ H Γ iv .refl ev hm .refl
theorem tu_weak {M : List Sl → Prop} (h : ThruU K S ts Γ' M) (w : W Γ Γ') : ThruU K S ts Γ M := fun G σ H D ev iv k => h G σ H D (ev.weak w.1 w.2) iv k
theorem tu_seq {M M2 : List Sl → Prop} (h : ThruU K S ts Γ M2) (h2 : ∀ Γ', M2 Γ' → ThruU K S tu Γ' M) : ThruU K S (tSeq ts tu) Γ M := fun G σ H D ev iv k =>
  h G σ H _ ev iv fun σ' H' Γ' i' l' ev' m' s' => h2 Γ' m' G σ' H' D ev' i' fun σ2 H2 Γ2 i2 l2 ev2 m2 s2 => k σ2 H2 Γ2 i2 (l'.trans l2) ev2 m2 (s'.trans s2)
theorem tu_set1 {M : List Sl → Prop} (hi : i < Γ.length) (hS : i ∉ S) (h : EvD K te Γ P) (hm : ∀ d, P d → M (Γ.set i (.dat d))) : ThruU K S (tAsg te (gName i)) Γ M := fun G σ H D ev iv k =>
  h G σ H ev iv _ fun v d H1 i1 l1 p dq => k _ H1 _ i1 l1 ((ev.le l1).set (s := .dat d) hi dq) (hm d p) (Su.set hS)
theorem tu_setP {M : List Sl → Prop} (hi : i < Γ.length) (hS : i ∉ S) (h : EvD K te Γ P) (h2 : ∀ d, P d → ThruU K S tu (Γ.set i (.dat d)) M) : ThruU K S (tSeq (tAsg te (gName i)) tu) Γ M := fun G σ H D ev iv k =>
  h G σ H ev iv _ fun v d H1 i1 l1 p dq => h2 d p G _ H1 D ((ev.le l1).set hi dq) i1 fun σ' H' Γ' i' l' ev' m' s' => k σ' H' Γ' i' (l1.trans l') ev' m' ((Su.set hS).trans s')
theorem tu_asg1 {M : List Sl → Prop} {vs : List Nat} {N : PyData → List Sl} (hv : ∀ v ∈ vs, v ∉ S) (h : EvD K te Γ P) (hg : TgOk K g vs Γ P N) (hm : ∀ d, P d → M (N d)) : ThruU K S (tAsg te g) Γ M := fun G σ H D ev iv k =>
  h G σ H ev iv _ fun v d H1 i1 l1 p dq => hg G σ H1 v d (ev.le l1) i1 p dq _ fun σ2 _ hs ev2 => k σ2 H1 _ i1 l1 ev2 (hm d p) (Su.tg hs hv)
theorem tu_if {M : List Sl → Prop} {b : Bool} (h : EvB K tt Γ (· = b)) (h1 : b = true → ThruU K S ts Γ M) (h2 : b = false → ThruU K S tu Γ M) : ThruU K S (tIfS tt ts tu) Γ M := fun G σ H D ev iv k =>
  h G σ H ev iv _ fun c H1 i1 l1 e => by
    subst e
    cases c with
    | true => exact h1 rfl G σ H1 D (ev.le l1) i1 fun σ' H' Γ' i' l' => k σ' H' Γ' i' (l1.trans l')
    | false => exact h2 rfl G σ H1 D (ev.le l1) i1 fun σ' H' Γ' i' l' => k σ' H' Γ' i' (l1.trans l')
theorem au_seq {N2 : List PyData → List Sl → Prop} (h : AppsU K S ts Γ j ds N2) (h2 : ∀ es Γ', N2 es Γ' → AppsU K S tu Γ' j es N) : AppsU K S (tSeq ts tu) Γ j ds N := fun G σ H D l vs ev iv hj hd k =>
  h G σ H _ l vs ev iv hj hd fun σ' H' us es Γ' i' e' ev' hj' hd' n' s' => h2 es Γ' n' G σ' H' _ l us ev' i' hj' hd' fun σ2 H2 us2 es2 Γ2 i2 e2 ev2 hj2 hd2 n2 s2 => k σ2 H2 us2 es2 Γ2 i2 (fun c u h => e2 c u (e' c u h)) ev2 hj2 hd2 n2 (s'.trans s2)
theorem au_set {i : Nat} (hi : i < Γ.length) (hij : i ≠ j) (hS : i ∉ S) (h : EvD K te Γ P) (h2 : ∀ d, P d → AppsU K S tu (Γ.set i (.dat d)) j ds N) : AppsU K S (tSeq (tAsg te (gName i)) tu) Γ j ds N := fun G σ H D l vs ev iv hj hd k =>
  h _ σ H ev iv _ fun v d H1 i1 l1 p1 dq => h2 d p1 G _ H1 _ l vs ((ev.le l1).set hi dq) i1 (by rw [List.getElem?_set_ne hij]; exact hj) (hd.ex l1) fun σ' H' us es Γ' i' e' ev' hj' hd' n' s' => k σ' H' us es Γ' i' (fun c u h => e' c u (l1 c u h)) ev' hj' hd' n' ((Su.set hS).trans s')
/-- an append leaves all places alone -/
theorem au_app (hk : Keep Γ j) (hjl : j < Γ.length) (hlen : ds.length < 1000) (h : EvD K te Γ P) (hn : ∀ e, P e → N (ds ++ [e]) (Γ.set j (.olst (ds ++ [e])))) : AppsU K S (tDrop (tBM K "list" rAppend (tVar j) (tCons te tNil))) Γ j ds N := fun G σ H D l vs ev iv hj hd k =>
  ⟨_, hj, .inl ⟨rfl, _, SqL.of (Fr.own_at iv)⟩, h _ σ H ev iv _ fun v e H1 i1 l1 p1 dq => by
    have hlv : vs.length < 1000 := by rw [hd.length]; exact hlen
    refine ⟨l, vs, v, rfl, rfl, Fr.own_at i1, by rw [sizeLine_eq]; omega, ?_⟩
    have st := Fr.own_set (o' := .lst (vs ++ [v])) i1
    have da : DqAll K ((G.own l (.lst (vs ++ [v]))).view (upd H1 l (.lst (vs ++ [v])))) (vs ++ [v]) (ds ++ [e]) := by
      rw [st.2]
      exact (hd.ex l1).append (.cons dq .nil)
    refine k σ _ (vs ++ [v]) (ds ++ [e]) _ st.1 (by rw [st.2]; exact l1) (EnvOk.swapS (j := j) (s := .olst (ds ++ [e])) (v := .ref l) (ev.le l1) (by rw [st.2]; exact fun _ _ h => h) (by rw [List.length_set]) (fun q s hq hs => ?_) hj (List.getElem?_set_self hjl) ⟨l, vs ++ [v], rfl, fun H' i => Fr.own_at i, da⟩) hj da (hn e p1) .refl
    rw [List.getElem?_set_ne (fun z => hq z.symm)] at hs
    exact .inr ⟨hk q s hq hs, hs⟩⟩
theorem au_for {Γl : List PyData → List Sl} {vs : List Nat} {Nn : Nat → Prop} {Pi : Nat → PyData → Prop} {Nt : Nat → List PyData → PyData → List Sl} {I : Nat → List PyData → Prop} (hjv : j ∉ vs) (hv : ∀ v ∈ vs, v ∉ S) (hjs : ∀ es, (Γl es)[j]? = some (.olst es))
    (hi : EvI0 K wi (Γl ds) Nn Pi) (h0 : I 0 ds) (hg : ∀ i es, I i es → TgOk K g vs (Γl es) (Pi i) (Nt i es))
    (hb : ∀ n i es d, Nn n → i < n → I i es → Pi i d → AppsU K S tu (Nt i es d) j es fun es' Γ' => I (i + 1) es' ∧ (Γl es').length = Γ'.length ∧ ∀ (q : Nat) s, q ≠ j → (Γl es')[q]? = some s → s = .any ∨ Γ'[q]? = some s)
    (hn : ∀ n es, Nn n → I n es → N es (Γl es)) : AppsU K S (tFor wi g tu) (Γl ds) j ds N := fun G σ H D l vs0 ev iv hj hd k => by
  refine hi (G.own l (.lst vs0)) σ H ev iv _ fun n J H1 hnn iv1 l1 w => ?_
  let Iv : Nat → L2.St → Hp → Prop := fun i σ' H' => ∃ us es, (G.own l (.lst us)).inv H' ∧ Ex ((G.own l (.lst vs0)).view H1) ((G.own l (.lst us)).view H') ∧ EnvOk K (G.own l (.lst us)) H' σ' (Γl es) ∧ σ'[j]? = some (some (.ref l)) ∧ DqAll K ((G.own l (.lst us)).view H') us es ∧ I i es ∧ Su S σ σ'
  refine ⟨fun i c σ' H' => c = n - i ∧ i ≤ n ∧ Iv i σ' H', ⟨n, by simp, Nat.zero_le _, vs0, ds, iv1, fun _ _ h => h, ev.le l1, hj, hd.ex l1, h0, .refl⟩, ?_⟩
  rintro i c σ2 H2 ⟨rfl, hle, us, es, iv2, e2, ev2, hj2, hd2, ii, s2⟩
  have w2 := w (G.own l (.lst us)) H2 e2 iv2
  by_cases hlt : i < n
  · refine .inr ⟨(w2.1 i hlt).1, fun σ' H' => i + 1 ≤ n ∧ Iv (i + 1) σ' H', fun σ' H' h' => ⟨n - (i + 1), by omega, rfl, h'⟩, fun x H3 hy => ?_⟩
    obtain ⟨iv3, l3, d, pd, dq⟩ := (w2.1 i hlt).2 x H3 hy
    refine hg i es ii (G.own l (.lst us)) σ2 H3 x d (ev2.le l3) iv3 pd dq _ fun σ3 _ hs3 ev3 => ?_
    refine hb n i es d hnn hlt ii pd G σ3 H3 _ l us ev3 iv3 (by rw [hs3 j hjv]; exact hj2) (hd2.ex l3) fun σ4 H4 us4 es4 Γ4 iv4 e4 ev4 hj4 hd4 n4 s4 => ⟨hlt, us4, es4, iv4, fun c u h => e4 c u (l3 c u (e2 c u h)), ⟨ev4.1.trans n4.2.1.symm, fun q s hs => ?_⟩, hj4, hd4, n4.1, (s2.trans (Su.tg hs3 hv)).trans s4⟩
    by_cases hq : q = j
    · subst hq
      rw [hjs] at hs
      cases hs
      exact .inr ⟨_, hj4, l, us4, rfl, fun H' i' => Fr.own_at i', hd4⟩
    · rcases n4.2.2 q s hq hs with e5 | e5
      · exact .inl e5
      · exact ev4.2 q s e5
  · obtain rfl : i = n := by omega
    exact .inl ⟨w2.2, k σ2 H2 us es _ iv2 (fun c u h => e2 c u (l1 c u h)) ev2 hj2 hd2 (hn i es hnn ii) s2⟩
theorem EnvOk.put {G : Fr} {H : Hp} {σ : L2.St} {v : V} {s : Sl} (h : EnvOk K G H σ Γ) (hv : σ[i]? = some (some v)) (hs : SlOk K G H v s) : EnvOk K G H σ (Γ.set i s) := ⟨by rw [List.length_set]; exact h.1, fun q t ht => by
  by_cases e : q = i
  · subst e
    by_cases hl : q < Γ.length
    · rw [List.getElem?_set_self hl] at ht
      cases ht
      exact .inr ⟨v, hv, hs⟩
    · rw [List.getElem?_eq_none (by rw [List.length_set]; omega)] at ht
      cases ht
  · rw [List.getElem?_set_ne (Ne.symm e)] at ht
    exact h.2 q t ht⟩
/-- found = []; a loop that fills it; from then on it is data; the well in place 0 -/
theorem tu_build {M : List Sl → Prop} {Γe : List PyData → List Sl} (hjl : j < Γ.length) (hkeep : Keep Γ j) (hjS : j ∉ S) (h0S : 0 ∈ S) (h0 : Γ[0]? = some .well) (h : AppsU K S ts (Γ.set j (.olst [])) j [] N) (hN : ∀ es Γ', N es Γ' → W Γ' (Γe es) ∧ KeepD (Γe es) j ∧ 0 < (Γe es).length)
    (h2 : ∀ es Γ', N es Γ' → ThruU K S tu (((Γe es).set j (.dat (.list es))).set 0 .well) M) : ThruU K S (tSeq (tAsg (tLst tNil) (gName j)) (tSeq ts tu)) Γ M := fun G σ H D ev iv k =>
  ⟨Nat.zero_le _, fun p hp => by
    obtain ⟨iv1, vw1⟩ := Fr.own_new (G := G) (o := HO.lst []) iv hp
    rcases ev.2 0 _ h0 with z | ⟨v0, hv0, a, q, e0, w0⟩
    · cases z
    · have hσ : (σ.set j (some (.ref p)))[j]? = some (some (.ref p)) := List.getElem?_set_self (by rw [ev.1]; exact hjl)
      refine h G _ _ _ p [] ((ev.own (l := p) (o := .lst []) (H' := upd H p (.lst [])) (by rw [vw1]; exact fun _ _ h => h)).set (s := .olst []) hjl ⟨p, [], rfl, fun H' i => Fr.own_at i, .nil⟩) iv1 hσ .nil fun σ' H' us es Γ' i' e' ev' hj' hd' n' s' => ?_
      obtain ⟨w, kd, hl⟩ := hN es Γ' n'
      have evo := (ev'.weak w.1 w.2).out i' hj' hd' kd
      have hs0 : σ'[0]? = σ[0]? := (s' 0 h0S).trans (Su.set hjS 0 h0S)
      have ev2 := evo.put (i := 0) (v := v0) (s := .well) (by rw [hs0]; exact hv0) ⟨a, q, e0, w0⟩
      have le : G.le H H' := fun c u hc => (hide_some (e' c u (by rw [vw1]; exact hc))).2
      exact h2 es Γ' n' G σ' H' D ev2 i'.1 fun σ2 H2 Γ3 i2 l2 ev3 m3 s3 => k σ2 H2 Γ3 i2 (le.trans l2) ev3 m3 (((Su.set hjS).trans s').trans s3)⟩
end
end L2

set_option Elab.async false
set_option linter.all false
set_option maxRecDepth 100000
set_option maxHeartbeats 4000000
/-! A turn while two lists are kept aside. -/
namespace L2
open PySem PySem.Spec PyProof.Rows
open Evl (Ex)
section
variable {K : PySem.W.Frag} {H : Hp} {l : Addr} {xs : List V}
theorem sqT_hide {a : Addr} {zs : List V} (hl : H l = some (.lst xs)) (h : SqT K H a zs) : SqT K (hide H l) a zs := by
  rcases h with h | h
  · refine .inl ?_
    have ne : a ≠ l := fun e => by
      subst e
      rcases h with h | ⟨o, h⟩
      · rw [hl] at h; cases h
      · rw [hl] at h; cases h
    rcases h with h | ⟨o, h⟩
    · exact .inl (by rw [hide_ne ne]; exact h)
    · exact .inr ⟨o, by rw [hide_ne ne]; exact h⟩
  · exact .inr h
mutual
theorem Dq.hide (hl : H l = some (.lst xs)) : ∀ {v : V} {d : PyData}, Dq K H v d → noL d = true → Dq K (hide H l) v d
  | _, _, .non, _ => .non
  | _, _, .bl b, _ => .bl b
  | _, _, .int i, _ => .int i
  | _, _, .str x, _ => .str x
  | _, _, .lst _ _, n => by rw [noL] at n; cases n
  | _, _, .tup h t, n => .tup (sqT_hide hl h) (DqAll.hide hl t (by rw [noL] at n; exact n))
  | _, _, .dic _ _, n => by rw [noL] at n; cases n
theorem DqAll.hide (hl : H l = some (.lst xs)) : ∀ {vs : List V} {ds : List PyData}, DqAll K H vs ds → noLs ds = true → DqAll K (hide H l) vs ds
  | _, _, .nil, _ => .nil
  | _, _, .cons h t, n => by
    rw [noLs, Bool.and_eq_true] at n
    exact .cons (Dq.hide hl h n.1) (DqAll.hide hl t n.2)
end
end
theorem Fr.eq {A B : Fr} (hv : A.view = B.view) (hi : A.inv = B.inv) : A = B := by
  cases A
  cases B
  cases hv
  cases hi
  rfl
theorem hide_comm {V : Hp} {l m : Addr} : hide (hide V l) m = hide (hide V m) l := by
  funext b
  unfold hide
  by_cases h1 : b = m <;> by_cases h2 : b = l <;> simp [h1, h2]
theorem own_comm {G : Fr} {l m : Addr} {o u : HO} : (G.own l o).own m u = (G.own m u).own l o := by
  refine Fr.eq (funext fun H => hide_comm) (funext fun H => propext ⟨fun ⟨⟨a, b⟩, c⟩ => ?_, fun ⟨⟨a, b⟩, c⟩ => ?_⟩)
  · obtain ⟨d, e⟩ := hide_some c
    exact ⟨⟨a, e⟩, (hide_ne (Ne.symm d)).trans b⟩
  · obtain ⟨d, e⟩ := hide_some c
    exact ⟨⟨a, e⟩, (hide_ne (Ne.symm d)).trans b⟩
def WellAt (G : Fr) (σ : L2.St) : Prop := ∃ a q, σ[0]? = some (some (.ref a)) ∧ IsW G a q
/-- a block while the lists of the places i and j are kept aside; the well in place 0 -/
def Two (K : PySem.W.Frag) (i j : Nat) (ts : TS) (Γ : List Sl) (as ds : List PyData) (N : List PyData → List PyData → List Sl → Prop) : Prop := ∀ (G : Fr) (σ : L2.St) (H : Hp) (D : Ends) (l : Addr) (us : List V) (m : Addr) (vs : List V),
  EnvOk K (own2 G l us m vs) H σ Γ → (own2 G l us m vs).inv H → WellAt G σ → σ[i]? = some (some (.ref l)) → DqAll K ((own2 G l us m vs).view H) us as → σ[j]? = some (some (.ref m)) → DqAll K ((own2 G l us m vs).view H) vs ds →
  (∀ σ' H' us' vs' as' ds' Γ', (own2 G l us' m vs').inv H' → Ex ((own2 G l us m vs).view H) ((own2 G l us' m vs').view H') → EnvOk K (own2 G l us' m vs') H' σ' Γ' → WellAt G σ' → σ'[i]? = some (some (.ref l)) → DqAll K ((own2 G l us' m vs').view H') us' as' → σ'[j]? = some (some (.ref m)) → DqAll K ((own2 G l us' m vs').view H') vs' ds' → N as' ds' Γ' → D.nx σ' H') → ts D σ H
section
variable {K : PySem.W.Frag} {S : List Nat} {Γ Γ' Γ1 Γ2 : List Sl} {te tb : TE} {ta : TA} {P : PyData → Prop} {tu ts : TS} {tt : TT} {wi : TI} {g : TG} {i j : Nat} {as ds : List PyData} {N : List PyData → List PyData → List Sl → Prop}
/-- the slots as the bare frame has them -/
abbrev outΓ (Γ : List Sl) (i : Nat) (as : List PyData) (j : Nat) (ds : List PyData) : List Sl := ((Γ.set j (.dat (.list ds))).set i (.dat (.list as))).set 0 .well
theorem KeepD.set {d : PyData} (h : KeepD Γ j) (hi : ∀ s, Γ[j]? = some s → s = .any) : KeepD (Γ.set j (.dat d)) i := fun q s hq hs => by
  by_cases e : q = j
  · subst e
    by_cases hl : q < Γ.length
    · rw [List.getElem?_set_self hl] at hs
      cases hs
      exact .inr (.inl ⟨_, rfl⟩)
    · rw [List.getElem?_eq_none (by rw [List.length_set]; omega)] at hs
      cases hs
  · rw [List.getElem?_set_ne (Ne.symm e)] at hs
    exact h q s e hs
theorem out2 {G : Fr} {σ : L2.St} {H : Hp} {l m : Addr} {us vs : List V} (hk : KeepD Γ j) (hj0 : ∀ s, Γ[j]? = some s → s = .any) (ev : EnvOk K (own2 G l us m vs) H σ Γ) (iv : (own2 G l us m vs).inv H) (hw : WellAt G σ) (hi : σ[i]? = some (some (.ref l))) (hd : DqAll K ((own2 G l us m vs).view H) us as) (hj : σ[j]? = some (some (.ref m))) (hd2 : DqAll K ((own2 G l us m vs).view H) vs ds) :
    EnvOk K G H σ (outΓ Γ i as j ds) := by
  have e1 := ev.out iv hj hd2 hk
  have e2 := e1.out iv.1 hi (hd.ex Fr.own_sub) (hk.set hj0)
  obtain ⟨a, q, h1, h2⟩ := hw
  exact e2.put (i := 0) (v := .ref a) (s := .well) h1 ⟨a, q, rfl, h2⟩
theorem le2 {G : Fr} {H H' : Hp} {l m : Addr} {us vs : List V} (h : G.le H H') : Ex ((own2 G l us m vs).view H) ((own2 G l us m vs).view H') := fun c u hc => by
  obtain ⟨a1, a2⟩ := hide_some hc
  obtain ⟨b1, b2⟩ := hide_some a2
  show hide (hide (G.view H') l) m c = some u
  rw [hide_ne a1, hide_ne b1]
  exact h c u b2
theorem inv2 {G : Fr} {H H' : Hp} {l m : Addr} {us vs : List V} (h : (own2 G l us m vs).inv H) (i : G.inv H') (le : G.le H H') : (own2 G l us m vs).inv H' := by
  obtain ⟨⟨_, b⟩, c⟩ := h
  obtain ⟨d, e⟩ := hide_some c
  exact ⟨⟨i, le _ _ b⟩, (hide_ne d).trans (le _ _ e)⟩
theorem back2 {G : Fr} {σ σ' : L2.St} {H H' : Hp} {l m : Addr} {us vs : List V} (ev : EnvOk K (own2 G l us m vs) H σ Γ) (iv : (own2 G l us m vs).inv H) (i' : G.inv H') (le : G.le H H') (ev' : EnvOk K G H' σ' Γ1) (s : Su S σ σ') (hl : Γ1.length = Γ2.length)
    (hw : ∀ (q : Nat) t, Γ2[q]? = some t → t = .any ∨ (∃ d, t = .dat d ∧ noL d = true ∧ Γ1[q]? = some t) ∨ (q ∈ S ∧ ∃ d, t = .dat d ∧ Γ[q]? = some t)) : EnvOk K (own2 G l us m vs) H' σ' Γ2 := by
  have iv2 := inv2 iv i' le
  refine ⟨ev'.1.trans hl, fun q t ht => ?_⟩
  rcases hw q t ht with e | ⟨d, e, hn, h1⟩ | ⟨hq, d, e, h1⟩
  · exact .inl e
  · subst e
    rcases ev'.2 q _ h1 with z | ⟨v, hv, dv⟩
    · exact .inl z
    · have dv : Dq K (G.view H') v d := dv
      exact .inr ⟨v, hv, (Dq.hide iv2.2 (Dq.hide iv2.1.2 dv hn) hn : Dq K _ v d)⟩
  · subst e
    rcases ev.2 q _ h1 with z | ⟨v, hv, dv⟩
    · exact .inl z
    · exact .inr ⟨v, (s q hq).trans hv, (Dq.ex (le2 le) dv : Dq K _ v d)⟩
/-- inner work -/
theorem two_step {M : List Sl → Prop} (h0S : 0 ∈ S) (hiS : i ∈ S) (hjS : j ∈ S) (hk : KeepD Γ j) (hj0 : ∀ s, Γ[j]? = some s → s = .any) (h : ThruU K S ts (outΓ Γ i as j ds) M)
    (h2 : ∀ Γ1, M Γ1 → ∃ Γ2, Γ1.length = Γ2.length ∧ (∀ (q : Nat) t, Γ2[q]? = some t → t = .any ∨ (∃ d, t = .dat d ∧ noL d = true ∧ Γ1[q]? = some t) ∨ (q ∈ S ∧ ∃ d, t = .dat d ∧ Γ[q]? = some t)) ∧ Two K i j tu Γ2 as ds N) : Two K i j (tSeq ts tu) Γ as ds N := fun G σ H D l us m vs ev iv hwl hi hd hj hd2 k =>
  h G σ H _ (out2 hk hj0 ev iv hwl hi hd hj hd2) iv.1.1 fun σ' H' Γ1 i' le ev' m' s => by
    obtain ⟨Γ2, hl, hw, h3⟩ := h2 Γ1 m'
    exact h3 G σ' H' D l us m vs (back2 ev iv i' le ev' s hl hw) (inv2 iv i' le) (by obtain ⟨a, q, h1, h3⟩ := hwl; exact ⟨a, q, (s 0 h0S).trans h1, h3⟩) ((s i hiS).trans hi) (hd.ex (le2 le)) ((s j hjS).trans hj) (hd2.ex (le2 le)) fun σ2 H2 us2 vs2 as2 ds2 Γ3 i2 e2 => k σ2 H2 us2 vs2 as2 ds2 Γ3 i2 fun c u hc => e2 c u (le2 le c u hc)
theorem two_if {b : Bool} (hk : KeepD Γ j) (hj0 : ∀ s, Γ[j]? = some s → s = .any) (h : EvB K tt (outΓ Γ i as j ds) (· = b)) (h1 : b = true → Two K i j ts Γ as ds N) (h2 : b = false → Two K i j tu Γ as ds N) : Two K i j (tIfS tt ts tu) Γ as ds N := fun G σ H D l us m vs ev iv hwl hi hd hj hd2 k =>
  h G σ H (out2 hk hj0 ev iv hwl hi hd hj hd2) iv.1.1 _ fun c H1 i1 l1 e => by
    subst e
    have go : ∀ {t : TS}, Two K i j t Γ as ds N → t D σ H1 := fun h => h G σ H1 D l us m vs (ev.le (G := own2 G l us m vs) (le2 l1)) (inv2 iv i1 l1) hwl hi (hd.ex (le2 l1)) hj (hd2.ex (le2 l1)) fun σ2 H2 us2 vs2 as2 ds2 Γ3 i2 e2 => k σ2 H2 us2 vs2 as2 ds2 Γ3 i2 fun c u hc => e2 c u (le2 l1 c u hc)
    cases c with
    | true => exact go (h1 rfl)
    | false => exact go (h2 rfl)
theorem two_next (hn : N as ds Γ) : Two K i j tNext Γ as ds N := fun G σ H D l us m vs ev iv hwl hi hd hj hd2 k => k σ H us vs as ds Γ iv (fun _ _ h => h) ev hwl hi hd hj hd2 hn
theorem two_seq {N2 : List PyData → List PyData → List Sl → Prop} (h : Two K i j ts Γ as ds N2) (h2 : ∀ as' ds' Γ', N2 as' ds' Γ' → Two K i j tu Γ' as' ds' N) : Two K i j (tSeq ts tu) Γ as ds N := fun G σ H D l us m vs ev iv hwl hi hd hj hd2 k =>
  h G σ H _ l us m vs ev iv hwl hi hd hj hd2 fun σ' H' us' vs' as' ds' Γ' i' e' ev' w' hi' hd' hj' hd2' n' => h2 as' ds' Γ' n' G σ' H' D l us' m vs' ev' i' w' hi' hd' hj' hd2' fun σ2 H2 us2 vs2 as2 ds2 Γ3 i2 e2 => k σ2 H2 us2 vs2 as2 ds2 Γ3 i2 fun c u hc => e2 c u (e' c u hc)
/-- an append to the second list -/
theorem two_appJ (hk : Keep Γ j) (hjl : j < Γ.length) (hj0 : Γ[j]? = some .any) (hlen : ds.length < 1000) (h : EvD K te Γ P) (hn : ∀ e, P e → N as (ds ++ [e]) Γ) : Two K i j (tDrop (tBM K "list" rAppend (tVar j) (tCons te tNil))) Γ as ds N := fun G σ H D l us m vs ev iv hwl hi hd hj hd2 k =>
  au_app (S := [0, i]) (N := fun es Γ' => ∃ e, P e ∧ es = ds ++ [e] ∧ Γ' = Γ.set j (.olst (ds ++ [e]))) hk hjl hlen h (fun e he => ⟨e, he, rfl, rfl⟩) (G.own l (.lst us)) σ H D m vs ev iv hj hd2 fun σ' H' us' es Γ' i' e' ev' hj' hd' ⟨e, he, e1, e2⟩ s => by
    subst e1
    subst e2
    refine k σ' H' us us' as _ Γ i' e' (ev'.weak (by rw [List.length_set]) fun q t ht => ?_) ?_ ((s i (by simp)).trans hi) (hd.ex e') hj' hd' (hn e he)
    · by_cases hq : q = j
      · subst hq; rw [hj0] at ht; exact .inl (Option.some.inj ht).symm
      · exact .inr (by rw [List.getElem?_set_ne (Ne.symm hq)]; exact ht)
    · obtain ⟨a, q, h1, h3⟩ := hwl
      exact ⟨a, q, (s 0 (by simp)).trans h1, h3⟩
theorem two_sym (h : Two K j i ts Γ ds as fun d a Γ' => N a d Γ') : Two K i j ts Γ as ds N := fun G σ H D l us m vs ev iv hwl hi hd hj hd2 k => by
  have e0 : ∀ {us vs}, own2 G l us m vs = own2 G m vs l us := own_comm
  rw [e0] at ev iv hd hd2
  refine h G σ H D m vs l us ev iv hwl hj hd2 hi hd fun σ' H' us' vs' as' ds' Γ' i' e' ev' w' hi' hd' hj' hd2' n' => ?_
  rw [← e0] at i' ev' hd' hd2'
  exact k σ' H' vs' us' ds' as' Γ' i' (by rw [e0, e0]; exact e') ev' w' hj' hd2' hi' hd' n'
theorem two_appI (hk : Keep Γ i) (hil : i < Γ.length) (hi0 : Γ[i]? = some .any) (hlen : as.length < 1000) (h : EvD K te Γ P) (hn : ∀ e, P e → N (as ++ [e]) ds Γ) : Two K i j (tDrop (tBM K "list" rAppend (tVar i) (tCons te tNil))) Γ as ds N := two_sym (two_appJ hk hil hi0 hlen h hn)
theorem two_for {vs0 : List Nat} {n : Nat} {Pi : Nat → PyData → Prop} {Nt : Nat → PyData → List Sl} {I : Nat → List PyData → List PyData → Prop} (h0v : 0 ∉ vs0) (hiv : i ∉ vs0) (hjv : j ∉ vs0) (hi : EvI0 K wi Γ (· = n) Pi) (hg : ∀ q, TgOk K g vs0 Γ (Pi q) (Nt q)) (h0 : I 0 as ds)
    (hb : ∀ q as ds d, q < n → I q as ds → Pi q d → Two K i j tu (Nt q d) as ds fun as' ds' Γ' => I (q + 1) as' ds' ∧ W Γ' Γ) : Two K i j (tFor wi g tu) Γ as ds fun as' ds' Γ' => I n as' ds' ∧ Γ' = Γ := fun G σ H D l us0 m vs0' ev iv hwl hil hd hjm hd2 k => by
  refine hi (own2 G l us0 m vs0') σ H ev iv _ fun n' J H1 hnn iv1 l1 w => ?_
  subst hnn
  let Iv : Nat → L2.St → Hp → Prop := fun q σ' H' => ∃ us vs as ds, (own2 G l us m vs).inv H' ∧ Ex ((own2 G l us0 m vs0').view H1) ((own2 G l us m vs).view H') ∧ EnvOk K (own2 G l us m vs) H' σ' Γ ∧ WellAt G σ' ∧ σ'[i]? = some (some (.ref l)) ∧ DqAll K ((own2 G l us m vs).view H') us as ∧ σ'[j]? = some (some (.ref m)) ∧ DqAll K ((own2 G l us m vs).view H') vs ds ∧ I q as ds
  refine ⟨fun q c σ' H' => c = n' - q ∧ q ≤ n' ∧ Iv q σ' H', ⟨n', by simp, Nat.zero_le _, us0, vs0', as, ds, iv1, fun _ _ h => h, ev.le l1, hwl, hil, hd.ex l1, hjm, hd2.ex l1, h0⟩, ?_⟩
  rintro q c σ2 H2 ⟨rfl, hle, us, vs, as2, ds2, iv2, e2, ev2, hw2, hi2, hd2', hj2, hd3, ii⟩
  have w2 := w (own2 G l us m vs) H2 e2 iv2
  by_cases hlt : q < n'
  · refine .inr ⟨(w2.1 q hlt).1, fun σ' H' => q + 1 ≤ n' ∧ Iv (q + 1) σ' H', fun σ' H' h' => ⟨n' - (q + 1), by omega, rfl, h'⟩, fun x H3 hy => ?_⟩
    obtain ⟨iv3, l3, d, pd, dq⟩ := (w2.1 q hlt).2 x H3 hy
    refine hg q (own2 G l us m vs) σ2 H3 x d (ev2.le l3) iv3 pd dq _ fun σ3 _ hs3 ev3 => ?_
    refine hb q as2 ds2 d hlt ii pd G σ3 H3 _ l us m vs ev3 iv3 (by obtain ⟨a, r, h1, h3⟩ := hw2; exact ⟨a, r, (hs3 0 h0v).trans h1, h3⟩) (by rw [hs3 i hiv]; exact hi2) (hd2'.ex l3) (by rw [hs3 j hjv]; exact hj2) (hd3.ex l3) fun σ4 H4 us4 vs4 as4 ds4 Γ4 iv4 e4 ev4 w4 hi4 hd4 hj4 hd5 n4 => ?_
    exact ⟨hlt, us4, vs4, as4, ds4, iv4, fun c u h => e4 c u (l3 c u (e2 c u h)), ev4.weak n4.2.1 n4.2.2, w4, hi4, hd4, hj4, hd5, n4.1⟩
  · obtain rfl : q = n' := by omega
    exact .inl ⟨w2.2, k σ2 H2 us vs as2 ds2 _ iv2 (fun c u h => e2 c u (l1 c u h)) ev2 hw2 hi2 hd2' hj2 hd3 ⟨ii, rfl⟩⟩
/-- inner work, then an append to the first list of what is read in the bare frame -/
theorem two_stepApp {M : List Sl → Prop} {P : List Sl → PyData → Prop} (hij : i ≠ j) (h0S : 0 ∈ S) (hiS : i ∈ S) (hjS : j ∈ S) (hk : KeepD Γ j) (hj0 : ∀ s, Γ[j]? = some s → s = .any) (hlen : as.length < 1000) (h : ThruU K S ts (outΓ Γ i as j ds) M)
    (he : ∀ Γ1, M Γ1 → EvD K te Γ1 fun d => P Γ1 d ∧ noL d = true)
    (h2 : ∀ Γ1 d, M Γ1 → P Γ1 d → ∃ Γ2, Γ1.length = Γ2.length ∧ (∀ (q : Nat) t, Γ2[q]? = some t → t = .any ∨ (∃ d, t = .dat d ∧ noL d = true ∧ Γ1[q]? = some t) ∨ (q ∈ S ∧ ∃ d, t = .dat d ∧ Γ[q]? = some t)) ∧ Two K i j tu Γ2 (as ++ [d]) ds N) :
    Two K i j (tSeq ts (tSeq (tDrop (tBM K "list" rAppend (tVar i) (tCons te tNil))) tu)) Γ as ds N := fun G σ H D l us m vs ev iv hwl hi hd hj hd2 k =>
  h G σ H _ (out2 hk hj0 ev iv hwl hi hd hj hd2) iv.1.1 fun σ' H' Γ1 i' le ev' m' s => by
    have iv1 := inv2 iv i' le
    refine ⟨_, (s i hiS).trans hi, .inl ⟨rfl, _, SqL.of (G.sub iv1.1.2)⟩, he Γ1 m' G σ' H' ev' i' _ fun v d H1 i1 l1 ⟨pd, nd⟩ dq => ?_⟩
    obtain ⟨Γ2, hl, hw, h3⟩ := h2 Γ1 d m' pd
    have le1 := le.trans l1
    have iv2 := inv2 iv i1 le1
    have hlv : us.length < 1000 := by rw [hd.length]; exact hlen
    refine ⟨l, us, v, rfl, rfl, G.sub iv2.1.2, by rw [sizeLine_eq]; omega, ?_⟩
    have ev2 := back2 ev iv i1 le1 (ev'.le l1) s hl hw
    have dv : Dq K ((own2 G l us m vs).view H1) v d := Dq.hide iv2.2 (Dq.hide iv2.1.2 dq nd) nd
    have iv3 : ((G.own m (.lst vs)).own l (.lst us)).inv H1 := by rw [← own_comm]; exact iv2
    have st := Fr.own_set (o' := .lst (us ++ [v])) iv3
    have ivn : (own2 G l (us ++ [v]) m vs).inv (upd H1 l (.lst (us ++ [v]))) := by
      show ((G.own l (.lst (us ++ [v]))).own m (.lst vs)).inv _
      rw [own_comm]
      exact st.1
    have vwn : (own2 G l (us ++ [v]) m vs).view (upd H1 l (.lst (us ++ [v]))) = (own2 G l us m vs).view H1 := by
      show ((G.own l (.lst (us ++ [v]))).own m (.lst vs)).view _ = ((G.own l (.lst us)).own m (.lst vs)).view H1
      rw [own_comm, own_comm (l := l) (o := .lst us)]
      exact st.2
    have evn : EnvOk K (own2 G l (us ++ [v]) m vs) (upd H1 l (.lst (us ++ [v]))) σ' Γ2 := ⟨ev2.1, fun q t ht => by
      rcases hw q t ht with e | ⟨d', e, _⟩ | ⟨_, d', e, _⟩
      · exact .inl e
      · subst e
        rcases ev2.2 q _ ht with z | ⟨x, hx, dx⟩
        · exact .inl z
        · exact .inr ⟨x, hx, (show Dq K ((own2 G l (us ++ [v]) m vs).view _) x d' by rw [vwn]; exact dx)⟩
      · subst e
        rcases ev2.2 q _ ht with z | ⟨x, hx, dx⟩
        · exact .inl z
        · exact .inr ⟨x, hx, (show Dq K ((own2 G l (us ++ [v]) m vs).view _) x d' by rw [vwn]; exact dx)⟩⟩
    refine h3 G σ' _ D l (us ++ [v]) m vs evn ivn (by obtain ⟨a, q, h1, h4⟩ := hwl; exact ⟨a, q, (s 0 h0S).trans h1, h4⟩) ((s i hiS).trans hi) (by rw [vwn]; exact (hd.ex (le2 le1)).append (.cons dv .nil)) ((s j hjS).trans hj) (by rw [vwn]; exact hd2.ex (le2 le1)) fun σ2 H2 us2 vs2 as2 ds2 Γ3 i2 e2 => k σ2 H2 us2 vs2 as2 ds2 Γ3 i2 fun c u hc => e2 c u (by rw [vwn]; exact le2 le1 c u hc)
end
end L2

set_option Elab.async false
set_option linter.all false
set_option maxRecDepth 100000
set_option maxHeartbeats 4000000
/-! Comprehensions with a filter; names in a list of names; two new lists. -/
namespace L2
open PySem PySem.Spec PyProof.Rows
open Evl (Ex)
section
variable {K : PySem.W.Frag} {Γ Γ' : List Sl} {te tb tl : TE} {tt : TT} {ta : TA} {wi : TI} {g : TG} {P : PyData → Prop} {tu ts : TS} {i j : Nat}
theorem ev_lcB {n : Nat} {vs : List Nat} {Pi : Nat → PyData → Prop} {N : PyData → List Sl} {b : Nat → Bool} {f : Nat → PyData} (hn : n < 100000) (hi : EvI0 K wi Γ (· = n) Pi) (hg : ∀ i, TgOk K g vs (wipeΓ Γ vs) (Pi i) N)
    (ht : ∀ i d, i < n → Pi i d → EvB K tt (N d) (· = b i)) (he : ∀ i d, i < n → Pi i d → b i = true → EvD K te (N d) (· = f i)) :
    EvD K (tLc wi g tt te vs) Γ (· = .list (((List.range n).filter b).map f)) := fun G σ H ev iv Q k => by
  refine hi G σ H ev iv _ fun n' J H1 hn' iv1 l1 w D hD => ?_
  subst hn'
  have ho := Fr.own_new (G := G) (o := HO.lst []) iv1 hD
  let Iv : Nat → Hp → Prop := fun i H => ∃ (acc : List V), (G.own D (.lst acc)).inv H ∧ Ex (G.view H1) ((G.own D (.lst acc)).view H) ∧ acc.length ≤ i ∧ DqAll K ((G.own D (.lst acc)).view H) acc (((List.range i).filter b).map f)
  refine ⟨fun i m H => m = n' - i ∧ i ≤ n' ∧ Iv i H, ⟨n', by simp, Nat.zero_le _, [], ho.1, by rw [ho.2]; exact fun _ _ h => h, Nat.le_refl _, .nil⟩, ?_⟩
  rintro i m H2 ⟨rfl, hle, acc, iv2, e2, hlen, dqs⟩
  have w2 := w (G.own D (.lst acc)) H2 e2 iv2
  by_cases hlt : i < n'
  · refine .inr ⟨(w2.1 i hlt).1, fun H => i + 1 ≤ n' ∧ Iv (i + 1) H, fun H' h' => ⟨n' - (i + 1), by omega, rfl, h'⟩, fun x H3 hy => ?_⟩
    obtain ⟨iv3, l3, d, pd, dq⟩ := (w2.1 i hlt).2 x H3 hy
    have ev3 : EnvOk K (G.own D (.lst acc)) H3 σ Γ := (ev.le l1).own fun c u h => l3 c u (e2 c u h)
    refine hg i (G.own D (.lst acc)) (L2.wipe σ vs) H3 x d (ev3.wipe vs) iv3 pd dq _ fun σ2 hl2 hs2 ev4 => ⟨wipe_eq hl2 hs2, ?_⟩
    refine ht i d hlt pd (G.own D (.lst acc)) σ2 H3 ev4 iv3 _ fun c H4 i4 l4 ec => ?_
    have hr : ∀ c, b i = c → ((List.range (i + 1)).filter b).map f = ((List.range i).filter b).map f ++ (if c = true then [f i] else []) := fun c hc => by
      rw [List.range_succ, List.filter_append, List.map_append]
      congr 1
      rw [List.filter_cons, hc]
      cases c <;> rfl
    cases c with
    | false =>
      rw [if_neg (by decide)]
      refine ⟨hlt, acc, i4, fun c u h => l4 c u (l3 c u (e2 c u h)), by omega, ?_⟩
      rw [hr false ec.symm, if_neg (by decide), List.append_nil]
      exact (dqs.ex l3).ex l4
    | true =>
      rw [if_pos rfl]
      refine he i d hlt pd ec.symm (G.own D (.lst acc)) σ2 H4 (ev4.le l4) i4 _ fun y e H5 i5 l5 r5 dq5 => ⟨acc, Fr.own_at i5, by rw [sizeLine_eq]; omega, hlt, acc ++ [y], ?_⟩
      have st := Fr.own_set (o' := .lst (acc ++ [y])) i5
      subst r5
      refine ⟨st.1, fun c u h => ?_, by rw [List.length_append]; show acc.length + 1 ≤ i + 1; omega, ?_⟩
      · rw [st.2]
        exact l5 c u (l4 c u (l3 c u (e2 c u h)))
      · rw [st.2, hr true ec.symm, if_pos rfl]
        exact (((dqs.ex l3).ex l4).ex l5).append (.cons dq5 .nil)
  · obtain rfl : i = n' := by omega
    exact .inl ⟨w2.2, k (.ref D) _ H2 iv2.1 (l1.trans (Fr.own_le (Fr.blank hD) e2)) rfl (.lst (.inl (.inl iv2.2)) (dqs.ex Fr.own_sub))⟩
theorem eqV_str (x s : Str) : eqV (V.str x) (V.str s) = decide (s = x) := by
  unfold eqV
  by_cases e : s = x
  · subst e; simp
  · have e' : ¬ x = s := fun z => e z.symm
    simp [e, e']
theorem inV_strs (s : Str) : ∀ xs : List Str, inV (V.str s) (xs.map V.str) = decide (s ∈ xs)
  | [] => rfl
  | x :: xs => by
    have ih := inV_strs s xs
    unfold inV at ih ⊢
    rw [List.map_cons, List.any_cons, ih, eqV_str]
    by_cases e : s = x <;> simp [e]
/-- x not in names -/
theorem eb_notIn {s : Str} {xs : List Str} (h : EvD K te Γ (· = .str s)) (h2 : EvD K tb Γ (· = .list (xs.map .str))) : EvB K (tTest (tOp (rIn K true) te tb)) Γ (· = !decide (s ∈ xs)) := fun G σ H e i Q q =>
  h G σ H e i _ fun v d H1 i1 l1 p1 dq => h2 G σ H1 (e.le l1) i1 _ fun v2 d2 H2 i2 l2 p2 dq2 => by
    subst p1; subst p2
    cases dq
    cases dq2 with
    | lst hs ha =>
      have hx := strs_of ha
      subst hx
      have hf : (xs.map V.str).all flatV = true := by
        rw [List.all_map]
        exact List.all_eq_true.mpr fun _ _ => rfl
      have hin := inV_strs s xs
      refine ⟨_, _, rfl, .inl (Fr.upL hs), rfl, hf, ?_⟩
      refine ⟨_, rfl, ?_⟩
      exact q _ H2 i2 (l1.trans l2) (by simp [hin])
/-- x, y = [], []; ..; return (x, y) -/
theorem rs_two {N : List PyData → List PyData → List Sl → Prop} (h0 : Γ[0]? = some .well) (hi : i < Γ.length) (hj : j < Γ.length) (hij : i ≠ j) (hi0 : i ≠ 0) (hj0 : j ≠ 0) (h : Two K i j ts (((Γ.set i .any).set j .any).set 0 .any) [] [] N) (hN : ∀ as ds Γ', N as ds Γ' → P (.tuple [.list as, .list ds])) :
    Rets K (tSeq (tAsg (tTup (tCons (tLst tNil) (tCons (tLst tNil) tNil))) (gTup K 2 (gCons (gName i) (gCons (gName j) gNil)))) (tSeq ts (tRet (tTup (tCons (tVar i) (tCons (tVar j) tNil)))))) Γ P := fun G σ H D ev iv k =>
  ⟨Nat.zero_le _, fun p hp => ⟨Nat.zero_le _, fun r hr => ⟨by show 2 ≤ sizeLine; decide, fun t ht => by
    obtain ⟨iv1, vw1⟩ := Fr.own_new (G := G) (o := HO.lst []) iv hp
    obtain ⟨iv2, vw2⟩ := Fr.own_new (G := G.own p (.lst [])) (o := HO.lst []) iv1 hr
    obtain ⟨iv3, l3, v3⟩ := Fr.new (G := own2 G p [] r []) (o := .tup [.ref p, .ref r]) iv2 ht
    have base : Ex (G.view H) ((own2 G p [] r []).view (upd (upd (upd H p (HO.lst [])) r (HO.lst [])) t (.tup [.ref p, .ref r]))) := fun c u hc => l3 c u (by rw [vw2, vw1]; exact hc)
    rcases ev.2 0 _ h0 with z | ⟨v0, hv0, a, q, e0, w0⟩
    · cases z
    · subst e0
      refine ⟨t, [.ref p, .ref r], rfl, .inl (.inl upd_same), rfl, .ref p, [.ref r], rfl, .ref r, [], rfl, rfl, ?_⟩
      have hσi : ((σ.set i (some (.ref p))).set j (some (.ref r)))[i]? = some (some (.ref p)) := by
        rw [List.getElem?_set_ne (Ne.symm hij)]
        exact List.getElem?_set_self (by rw [ev.1]; exact hi)
      have hσj : ((σ.set i (some (.ref p))).set j (some (.ref r)))[j]? = some (some (.ref r)) := List.getElem?_set_self (by rw [List.length_set, ev.1]; exact hj)
      have hσ0 : ((σ.set i (some (.ref p))).set j (some (.ref r)))[0]? = some (some (.ref a)) := by
        rw [List.getElem?_set_ne hj0, List.getElem?_set_ne hi0]
        exact hv0
      have ev2 : EnvOk K (own2 G p [] r []) (upd (upd (upd H p (HO.lst [])) r (HO.lst [])) t (.tup [.ref p, .ref r])) ((σ.set i (some (.ref p))).set j (some (.ref r))) (((Γ.set i .any).set j .any).set 0 .any) := by
        refine ⟨by simp [ev.1], fun q s hs => ?_⟩
        by_cases q0 : q = 0
        · subst q0
          rw [List.getElem?_set_self (by rw [List.length_set, List.length_set]; omega)] at hs
          exact .inl (Option.some.inj hs).symm
        rw [List.getElem?_set_ne (Ne.symm q0)] at hs
        by_cases qj : q = j
        · subst qj
          rw [List.getElem?_set_self (by rw [List.length_set]; omega)] at hs
          exact .inl (Option.some.inj hs).symm
        rw [List.getElem?_set_ne (Ne.symm qj)] at hs
        by_cases qi : q = i
        · subst qi
          rw [List.getElem?_set_self hi] at hs
          exact .inl (Option.some.inj hs).symm
        rw [List.getElem?_set_ne (Ne.symm qi)] at hs
        rw [List.getElem?_set_ne (Ne.symm qj), List.getElem?_set_ne (Ne.symm qi)]
        exact ((ev.own (l := p) (o := .lst []) (H' := upd H p (.lst [])) (by rw [vw1]; exact fun _ _ h => h)).own (l := r) (o := .lst []) (H' := upd (upd (upd H p (HO.lst [])) r (HO.lst [])) t (.tup [.ref p, .ref r])) (by intro c u hc; exact l3 c u (by rw [vw2]; exact hc))).2 q s hs
      refine h G _ _ _ p [] r [] ev2 iv3 ⟨a, q, hσ0, w0⟩ hσi .nil hσj .nil fun σ' H' us vs as ds Γ' i' e' _ _ hi' hd' hj' hd2' n' => ?_
      refine ⟨_, hi', _, hj', by show 2 ≤ sizeLine; decide, fun x hx => ?_⟩
      have g1 : G.view H' p = some (.lst us) := i'.1.2
      have g2 : G.view H' r = some (.lst vs) := (hide_some i'.2).2
      obtain ⟨i4, l4, v4⟩ := Fr.new (G := G) (o := .tup [.ref p, .ref r]) i'.1.1 hx
      have sub : Ex ((own2 G p us r vs).view H') (G.view H') := fun c u hc => (hide_some (hide_some hc).2).2
      exact k _ _ _ i4 (fun c u hc => l4 c u (sub c u (e' c u (base c u hc)))) (hN as ds Γ' n') (.tup (.inl (.inl v4)) (.cons (.lst (SqL.of (l4 _ _ g1)) ((hd'.ex sub).ex l4)) (.cons (.lst (SqL.of (l4 _ _ g2)) ((hd2'.ex sub).ex l4)) .nil)))⟩⟩⟩
end
end L2

set_option Elab.async false
set_option linter.all false
set_option maxRecDepth 100000
set_option maxHeartbeats 4000000
/-! Lists compared; defs whose list is new, and may be changed by the caller. -/
namespace L2
open PySem PySem.Spec PyProof.Rows
open Evl (Ex)
section
variable {K : PySem.W.Frag} {Γ Γ' Γ2 : List Sl} {te tb tl : TE} {tt : TT} {ta : TA} {wi : TI} {g : TG} {P : PyData → Prop} {PN : List PyData → Prop} {tu ts : TS} {i j : Nat} {ds es : List PyData}
theorem dp_list {H : Hp} {n : Nat} : ∀ {xs : List V} {ds : List PyData}, (∀ e ∈ ds, okD n e = true) → DqAll K H xs ds → DpAll K H xs ds
  | _, _, _, .nil => .nil
  | _, _, hd, .cons h t => .cons (dq_dp n (hd _ List.mem_cons_self) h) (dp_list (fun e he => hd e (List.mem_cons_of_mem _ he)) t)
theorem lay_list {n : Nat} : ∀ ys : List PyData, (∀ e ∈ ys, okD n e = true) → PyData.canLayAll0 ys = true ∧ PyData.depthAll ys ≤ n
  | [], _ => ⟨by simp only [PyData.canLayAll0], by simp only [PyData.depthAll]; omega⟩
  | y :: ys, hy => by
    have h1 := okD_lay n y (hy y List.mem_cons_self)
    have h2 := lay_list ys fun e he => hy e (List.mem_cons_of_mem _ he)
    exact ⟨by simp only [PyData.canLayAll0]; rw [h1.1, h2.1]; rfl, by simp only [PyData.depthAll]; omega⟩
theorem shaped_list {n : Nat} (hn : n < 64) {ds : List PyData} (h : ∀ e ∈ ds, okD n e = true) : SeqAt.shaped (.list ds) = true := by
  have l := lay_list ds h
  show (PyData.canLay0 (.list ds) && decide (PyData.depth (.list ds) ≤ 64)) = true
  have q1 : PyData.canLay0 (.list ds) = true := by simp only [PyData.canLay0]; exact l.1
  have q2 : PyData.depth (.list ds) ≤ 64 := by simp only [PyData.depth]; omega
  rw [q1, decide_eq_true q2]
  rfl
/-- != of two lists of flat data -/
theorem ev_neL {n : Nat} (hn : n < 64) (h1 : ∀ e ∈ ds, okD n e = true) (h2 : ∀ e ∈ es, okD n e = true) (ha : EvD K te Γ (· = .list ds)) (hb : EvD K tb Γ (· = .list es)) : EvD K (tOp (rNeD K) te tb) Γ (· = .bool (!PyData.eqv (.list ds) (.list es))) := fun G σ H ev iv Q q =>
  ha G σ H ev iv _ fun v d1 H1 i1 l1 p1 dq => hb G σ H1 (ev.le l1) i1 _ fun v2 d2 H2 i2 l2 p2 dq2 => by
    subst p1; subst p2
    cases dq with
    | lst hs e3 =>
      cases dq2 with
      | lst hs2 e4 =>
        exact ⟨.list ds, .list es, .lst (Fr.upL (exL l2 hs)) (dp_list h1 ((e3.ex l2).ex fun _ _ => G.sub)), .lst (Fr.upL hs2) (dp_list h2 (e4.ex fun _ _ => G.sub)), shaped_list hn h1, shaped_list hn h2, q _ _ H2 i2 (l1.trans l2) rfl (.bl _)⟩
theorem eqv_list {n : Nat} : ∀ {ds : List PyData}, (∀ e ∈ ds, okD n e = true) → PyData.eqv (.list ds) (.list ds) = true := fun {ds} h => by
  have key : ∀ ds : List PyData, (∀ e ∈ ds, okD n e = true) → PyData.eqvAll ds ds = true := by
    intro ds
    induction ds with
    | nil => intro _; simp only [PyData.eqvAll]
    | cons d ds ih =>
      intro h
      have h1 := h d List.mem_cons_self
      simp only [PyData.eqvAll]
      rw [(eqv_iff h1 h1).mpr rfl, ih fun e he => h e (List.mem_cons_of_mem _ he)]
      rfl
  simp only [PyData.eqv]
  exact key ds h
/-- a block that returns a new list, or raises one field, or returns a text -/
def RetN (K : PySem.W.Frag) (ts : TS) (Γ : List Sl) (PN : List PyData → Prop) : Prop := ∀ (G : Fr) (σ : L2.St) (H : Hp) (D : Ends), EnvOk K G H σ Γ → G.inv H →
  (∀ l vs ds H', (G.own l (.lst vs)).inv H' → Ex (G.view H) ((G.own l (.lst vs)).view H') → PN ds → DqAll K ((G.own l (.lst vs)).view H') vs ds → D.rt (.ref l) H') → ts D σ H
theorem rn_ret (h : EvN K te Γ PN) : RetN K (tRet te) Γ PN := fun G σ H D ev iv k => h G σ H ev iv _ k
theorem rn_set (hi : i < Γ.length) (h : EvD K te Γ P) (h2 : ∀ d, P d → RetN K tu (Γ.set i (.dat d)) PN) : RetN K (tSeq (tAsg te (gName i)) tu) Γ PN := fun G σ H D ev iv k =>
  h G σ H ev iv _ fun v d H1 i1 l1 p dq => h2 d p G _ H1 D ((ev.le l1).set (s := .dat d) hi dq) i1 fun l vs ds H2 i2 e2 => k l vs ds H2 i2 fun c u hc => e2 c u (l1 c u hc)
abbrev ResN := Sum (List PyData) PyData
/-- the promise of a def that gives a new list, or raises one field -/
def spZ (K : PySem.W.Frag) (C : Addr) (f : Str) {γ : Type} (pre : γ → List Sl → Prop) (post : γ → ResN) : Sp := fun vs H Q E => ∃ (G : Fr) (ss : List Sl) (c : γ), G.inv H ∧ ArgsOk K G H vs ss ∧ pre c ss ∧
  (∀ l us ds H', (G.own l (.lst us)).inv H' → Ex (G.view H) ((G.own l (.lst us)).view H') → post c = .inl ds → DqAll K ((G.own l (.lst us)).view H') us ds → Q (.ref l) H') ∧ ExR1 K G C E f (fun p => post c = .inr p) H
/-- the promise of a def that gives a new list, or other data -/
def spM (K : PySem.W.Frag) {γ : Type} (pre : γ → List Sl → Prop) (post : γ → ResN) : Sp := fun vs H Q _ => ∃ (G : Fr) (ss : List Sl) (c : γ), G.inv H ∧ ArgsOk K G H vs ss ∧ pre c ss ∧
  (∀ l us ds H', (G.own l (.lst us)).inv H' → Ex (G.view H) ((G.own l (.lst us)).view H') → post c = .inl ds → DqAll K ((G.own l (.lst us)).view H') us ds → Q (.ref l) H') ∧
  (∀ v d H', G.inv H' → G.le H H' → post c = .inr d → Dq K (G.view H') v d → Q v H')
def RetNX (K : PySem.W.Frag) (C : Addr) (E : XK) (f : Str) (ts : TS) (Γ : List Sl) (PN : List PyData → Prop) (PX : PyData → Prop) : Prop := ∀ (G : Fr) (σ : L2.St) (H : Hp) (D : Ends), EnvOk K G H σ Γ → G.inv H →
  (∀ l vs ds H', (G.own l (.lst vs)).inv H' → Ex (G.view H) ((G.own l (.lst vs)).view H') → PN ds → DqAll K ((G.own l (.lst vs)).view H') vs ds → D.rt (.ref l) H') → ExR1 K G C E f PX H → ts D σ H
variable {C : Addr} {E : XK} {f : Str} {PX : PyData → Prop}
theorem RetNX.of (h : RetN K ts Γ PN) : RetNX K C E f ts Γ PN PX := fun G σ H D ev iv k _ => h G σ H D ev iv k
theorem rnx_set (hi : i < Γ.length) (h : EvD K te Γ P) (h2 : ∀ d, P d → RetNX K C E f tu (Γ.set i (.dat d)) PN PX) : RetNX K C E f (tSeq (tAsg te (gName i)) tu) Γ PN PX := fun G σ H D ev iv k kx =>
  h G σ H ev iv _ fun v d H1 i1 l1 p dq => h2 d p G _ H1 D ((ev.le l1).set (s := .dat d) hi dq) i1 (fun l vs ds H2 i2 e2 => k l vs ds H2 i2 fun c u hc => e2 c u (l1 c u hc)) (kx.le l1 fun _ h => h)
theorem rnx_if (b : Bool) (h : EvB K tt Γ (· = b)) (h1 : b = true → RetX1 K C E f ts Γ (fun _ => False) PX) (h2 : b = false → RetNX K C E f tu Γ PN PX) : RetNX K C E f (tSeq (tIfS tt ts tNext) tu) Γ PN PX := fun G σ H D ev iv k kx =>
  h G σ H ev iv _ fun c H1 i1 l1 e => by
    subst e
    cases c with
    | true => exact h1 rfl G σ H1 _ (ev.le l1) i1 (fun v d H2 _ _ p => p.elim) (kx.le l1 fun _ h => h)
    | false => exact h2 rfl G σ H1 D (ev.le l1) i1 (fun l vs ds H2 i2 e2 => k l vs ds H2 i2 fun c u hc => e2 c u (l1 c u hc)) (kx.le l1 fun _ h => h)
theorem doneNX {G : Fr} {H : Hp} {vs : List V} {ss : List Sl} {D : Ends} {N : List Str} (n : Nat) (hs : L2.start N vs = vs.map some ++ List.replicate n none) (h : RetNX K C E f ts (ss ++ List.replicate n .any) PN PX) (iv : G.inv H) (a : ArgsOk K G H vs ss)
    (k : ∀ l us ds H', (G.own l (.lst us)).inv H' → Ex (G.view H) ((G.own l (.lst us)).view H') → PN ds → DqAll K ((G.own l (.lst us)).view H') us ds → D.rt (.ref l) H') (kx : ExR1 K G C E f PX H) : ts D (L2.start N vs) H := by
  rw [hs]
  exact h G _ H D (envOk_of n a) iv k kx
/-- x = f(..), the new list kept aside from then on; what stands behind it leaves it in the end -/
theorem th_callM {γ : Type} {pre : γ → List Sl → Prop} {post : γ → ResN} {PS : List Sl → Prop} {Ex0 : XK} (c : γ) (hi : i < Γ.length) (h : EvS K ta Γ PS) (hp : ∀ ss, PS ss → pre c ss)
    (h1 : ∀ ds, post c = .inl ds → Apps K tu (Γ.set i (.olst ds)) i ds fun _ Γ1 => KeepD (Γ1.set i .any) Γ1.length ∧ W (Γ1.set i .any) Γ2) (h2 : ∀ d, post c = .inr d → Thru K tu (Γ.set i (.dat d)) Γ2) :
    Thru K (tSeq (tAsg (tCall (spM K pre post) [] Ex0 ta) (gName i)) tu) Γ Γ2 := fun G σ H D ev iv k =>
  h G σ H ev iv _ fun vs ss H1 i1 l1 ps a => by
    rw [List.append_nil]
    refine ⟨G, ss, c, i1, a, hp ss ps, fun l us ds H2 i2 e2 pd dq => ?_, fun v d H2 i2 l2 pd dq => ?_⟩
    · have ev2 : EnvOk K (G.own l (.lst us)) H2 σ Γ := (ev.le l1).own e2
      refine h1 ds pd G _ H2 D l us (ev2.set (s := .olst ds) (v := .ref l) hi ⟨l, us, rfl, fun H' i => Fr.own_at i, dq⟩) i2 (List.getElem?_set_self (by rw [ev.1]; exact hi)) dq fun σ' H' us' es Γ1 i' e' ev' hj' hd' ⟨kd, w⟩ => ?_
      have le : G.le H H' := fun c u hc => (hide_some (e' c u (e2 c u (l1 c u hc)))).2
      refine k σ' H' i'.1 le ?_
      have ev3 : EnvOk K (G.own l (.lst us')) H' σ' (Γ1.set i .any) := ev'.weak (by rw [List.length_set]) fun q s hs => by
        by_cases e : q = i
        · subst e
          by_cases hl : q < Γ1.length
          · rw [List.getElem?_set_self hl] at hs
            exact .inl (Option.some.inj hs).symm
          · rw [List.getElem?_eq_none (by rw [List.length_set]; omega)] at hs
            cases hs
        · rw [List.getElem?_set_ne (Ne.symm e)] at hs
          exact .inr hs
      have ev4 : EnvOk K G H' σ' (Γ1.set i .any) := ⟨ev3.1, fun q s hs => by
        have hq : q < (Γ1.set i .any).length := (List.getElem?_eq_some_iff.mp hs).1
        rw [List.length_set] at hq
        rcases ev3.2 q s hs with z | ⟨v, h1, h2⟩
        · exact .inl z
        · rcases kd q s (by omega) hs with rfl | ⟨d, rfl⟩ | ⟨C, fs, rfl⟩
          · exact .inl rfl
          · exact .inr ⟨v, h1, Dq.ex Fr.own_sub h2⟩
          · obtain ⟨a, dx, us, e1, e2, e3⟩ := h2
            exact .inr ⟨v, h1, a, dx, us, e1, Fr.own_sub _ _ e2, e3.ex Fr.own_sub⟩⟩
      exact ev4.weak w.1 w.2
    · exact h2 d pd G _ H2 D ((ev.le (l1.trans l2)).set (s := .dat d) hi dq) i2 fun σ' H' i' l' => k σ' H' i' ((l1.trans l2).trans l')
end
end L2

set_option Elab.async false
set_option linter.all false
set_option maxRecDepth 100000
set_option maxHeartbeats 4000000
/-! Blocks over places that own their lists: any number of them. -/
namespace L2
open PySem PySem.Spec PyProof.Rows
open Evl (Ex)
def OS.nil : OS := fun _ => none
def OS.put (S : OS) (l : Addr) (o : HO) : OS := fun b => if b = l then some o else S b
def OS.drop (S : OS) (l : Addr) : OS := fun b => if b = l then none else S b
theorem OS.put_same {S : OS} {l : Addr} {o : HO} : S.put l o l = some o := if_pos rfl
theorem OS.put_ne {S : OS} {l b : Addr} {o : HO} (h : b ≠ l) : S.put l o b = S b := if_neg h
theorem OS.drop_same {S : OS} {l : Addr} : S.drop l l = none := if_pos rfl
theorem OS.drop_ne {S : OS} {l b : Addr} (h : b ≠ l) : S.drop l b = S b := if_neg h
theorem owns_nil {G : Fr} : G.owns OS.nil = G := Fr.eq (funext fun H => funext fun b => hideS_none (S := OS.nil) rfl) (funext fun H => propext ⟨fun h => h.1, fun h => ⟨h, fun b o e => by cases e⟩⟩)
theorem owns_own {G : Fr} {S : OS} {l : Addr} {o : HO} (hS : S l = none) : (G.owns S).own l o = G.owns (S.put l o) := by
  refine Fr.eq (funext fun H => funext fun b => ?_) (funext fun H => propext ⟨fun ⟨⟨i, h⟩, e⟩ => ⟨i, fun b u hb => ?_⟩, fun ⟨i, h⟩ => ⟨⟨i, fun b u hb => ?_⟩, ?_⟩⟩)
  · show hide (hideS (G.view H) S) l b = hideS (G.view H) (S.put l o) b
    by_cases e : b = l
    · subst e
      rw [hide_same]
      unfold hideS
      rw [OS.put_same]
      rfl
    · rw [hide_ne e]
      unfold hideS
      rw [OS.put_ne e]
  · by_cases e2 : b = l
    · subst e2
      rw [OS.put_same] at hb
      cases hb
      exact (hideS_some e).2
    · rw [OS.put_ne e2] at hb
      exact h b u hb
  · refine h b u ?_
    rw [OS.put_ne (fun e2 => by rw [e2, hS] at hb; cases hb)]
    exact hb
  · show hideS (G.view H) S l = some o
    rw [hideS_none hS]
    exact h l o OS.put_same
theorem owns_set {G : Fr} {S : OS} {H : Hp} {l : Addr} {o o' : HO} (i : (G.owns S).inv H) (hl : S l = some o) : (G.owns (S.put l o')).inv (upd H l o') ∧ (G.owns (S.put l o')).view (upd H l o') = (G.owns S).view H := by
  obtain ⟨a, b⟩ := G.put (o := o') i.1 (.inr ⟨_, i.2 l o hl⟩)
  refine ⟨⟨a, fun c u hc => ?_⟩, funext fun c => ?_⟩
  · rw [b]
    by_cases e : c = l
    · subst e
      rw [OS.put_same] at hc
      cases hc
      exact upd_same
    · rw [OS.put_ne e] at hc
      rw [upd_ne e]
      exact i.2 c u hc
  · show hideS (G.view _) (S.put l o') c = hideS (G.view H) S c
    rw [b]
    by_cases e : c = l
    · subst e
      unfold hideS
      rw [OS.put_same, hl]
      rfl
    · unfold hideS
      rw [OS.put_ne e, upd_ne e]
theorem owns_at {G : Fr} {S : OS} {H : Hp} {l : Addr} {o : HO} (i : (G.owns S).inv H) (hl : S l = some o) : H l = some o := G.sub (i.2 l o hl)
theorem owns_sub {G : Fr} {S : OS} {H : Hp} : Ex ((G.owns S).view H) (G.view H) := fun c u e => (hideS_some e).2
theorem owns_drop {G : Fr} {S : OS} {H : Hp} {l : Addr} : Ex ((G.owns S).view H) ((G.owns (S.drop l)).view H) := fun c u e => by
  obtain ⟨h1, h2⟩ := hideS_some e
  show hideS (G.view H) (S.drop l) c = _
  rw [hideS_none, h2]
  by_cases z : c = l
  · rw [z]; exact OS.drop_same
  · rw [OS.drop_ne z]; exact h1
theorem IsW.owns {G : Fr} {a : Addr} {q : Int} {S : OS} (w : IsW G a q) : IsW (G.owns S) a q where
  at_ := fun i => w.at_ i.1
  hid := fun H => by
    show hideS (G.view H) S a = none
    unfold hideS
    rw [w.hid H]
    split <;> rfl
  put := fun {H p r} i => by
    obtain ⟨a1, b1⟩ := w.put (p := p) (r := r) i.1
    refine ⟨⟨a1, fun b o e => by rw [b1]; exact i.2 b o e⟩, ?_⟩
    show hideS (G.view _) S = hideS (G.view _) S
    rw [b1]
/-- a place that owns what it holds -/
def isO : Sl → Bool
  | .olst _ => true
  | .odic _ => true
  | _ => false
def SlB (K : PySem.W.Frag) (G : Fr) (S : OS) (H : Hp) (v : V) : Sl → Prop
  | .any => True
  | .dat d => Dq K ((G.owns S).view H) v d
  | .well => ∃ a q, v = .ref a ∧ IsW G a q
  | .odic m => ∃ a kvs, v = .ref a ∧ S a = some (.dK kvs) ∧ DqKv K ((G.owns S).view H) kvs (m.map fun p => (.str p.1, p.2))
  | .fdic _ => False
  | .ins C fs => ∃ a dx vs, v = .ref a ∧ (G.owns S).view H a = some (.ins C dx vs) ∧ DqFs K ((G.owns S).view H) vs fs
  | .olst ds => ∃ a vs, v = .ref a ∧ S a = some (.lst vs) ∧ DqAll K ((G.owns S).view H) vs ds
  | .sem p => ∀ H', Ex ((G.owns S).view H) H' → p H' v
  | .frm p => ∀ G' H', SubF G G' → Ex ((G.owns S).view H) (G'.view H') → p G' H' v
/-- only lists and dicts are owned -/
def okH : HO → Bool
  | .lst _ => true
  | .dK _ => true
  | _ => false
def OS.ok (S : OS) : Prop := ∀ b o, S b = some o → okH o = true
theorem OS.ok.put {S : OS} {l : Addr} {o : HO} (h : S.ok) (ho : okH o = true) : (S.put l o).ok := fun b u hb => by
  by_cases e : b = l
  · rw [e, OS.put_same] at hb; cases hb; exact ho
  · rw [OS.put_ne e] at hb; exact h b u hb
theorem OS.ok.drop {S : OS} {l : Addr} (h : S.ok) : (S.drop l).ok := fun b u hb => by
  by_cases e : b = l
  · rw [e, OS.drop_same] at hb; cases hb
  · rw [OS.drop_ne e] at hb; exact h b u hb
structure EnvB (K : PySem.W.Frag) (G : Fr) (S : OS) (H : Hp) (σ : L2.St) (Γ : List Sl) : Prop where
  ok : S.ok
  inv : (G.owns S).inv H
  len : σ.length = Γ.length
  sl : ∀ (i : Nat) (s : Sl), Γ[i]? = some s → s = .any ∨ ∃ v, σ[i]? = some (some v) ∧ SlB K G S H v s
  ne : ∀ (i j : Nat) (s t : Sl) (a : Addr), i ≠ j → Γ[i]? = some s → Γ[j]? = some t → isO s = true → isO t = true → σ[i]? = some (some (.ref a)) → σ[j]? = some (some (.ref a)) → False
/-- all that is owned is data again -/
def relSl : Sl → Sl
  | .olst ds => .dat (.list ds)
  | .odic m => .dat (dictD m)
  | s => s
def rel (Γ : List Sl) : List Sl := Γ.map relSl
theorem rel_len (Γ : List Sl) : (rel Γ).length = Γ.length := List.length_map _
section
variable {K : PySem.W.Frag} {G : Fr} {S S' : OS} {H H' : Hp} {σ σ' : L2.St} {Γ Γ' : List Sl}
theorem SlB.ex {v : V} {s : Sl} (h : SlB K G S H v s) (e : Ex ((G.owns S).view H) ((G.owns S).view H')) : SlB K G S H' v s := by
  cases s with
  | any => trivial
  | dat d => exact Dq.ex e h
  | well => exact h
  | odic m => obtain ⟨a, k, e1, e2, e3⟩ := h; exact ⟨a, k, e1, e2, e3.ex e⟩
  | fdic m => exact h
  | ins C fs => obtain ⟨a, dx, vs, e1, e2, e3⟩ := h; exact ⟨a, dx, vs, e1, e _ _ e2, e3.ex e⟩
  | sem p => exact fun H2 e2 => h H2 fun b o hb => e2 b o (e b o hb)
  | frm p => exact fun G2 H2 s2 e2 => h G2 H2 s2 fun b o hb => e2 b o (e b o hb)
  | olst ds => obtain ⟨a, vs, e1, e2, e3⟩ := h; exact ⟨a, vs, e1, e2, e3.ex e⟩
theorem EnvB.in (h : EnvB K G S H σ Γ) : EnvOk K (G.owns S) H σ Γ := ⟨h.len, fun i s hs => (h.sl i s hs).imp id fun ⟨v, hv, q⟩ => ⟨v, hv, by
  cases s with
  | any => trivial
  | dat d => exact q
  | well => obtain ⟨a, p, e1, w⟩ := q; exact ⟨a, p, e1, w.owns⟩
  | odic m => obtain ⟨a, k, e1, e2, e3⟩ := q; exact ⟨a, k, e1, fun H' i => owns_at i e2, e3⟩
  | fdic m => cases q
  | ins C fs => exact q
  | sem p => exact q
  | frm p => exact fun G2 H2 s2 e2 => q G2 H2 (SubF.trans (.owns .refl) s2) e2
  | olst ds => obtain ⟨a, vs, e1, e2, e3⟩ := q; exact ⟨a, vs, e1, fun H' i => owns_at i e2, e3⟩⟩⟩
theorem rel_get {i : Nat} {t : Sl} (h : (rel Γ)[i]? = some t) : ∃ s, Γ[i]? = some s ∧ t = relSl s := by
  unfold rel at h
  rw [List.getElem?_map] at h
  obtain ⟨s, h1, h2⟩ := Option.map_eq_some_iff.mp h
  exact ⟨s, h1, h2.symm⟩
theorem EnvB.out (h : EnvB K G S H σ Γ) : EnvOk K G H σ (rel Γ) := ⟨h.len.trans (rel_len Γ).symm, fun i t ht => by
  obtain ⟨s, hs, rfl⟩ := rel_get ht
  rcases h.sl i s hs with e | ⟨v, hv, q⟩
  · subst e; exact .inl rfl
  · refine .inr ⟨v, hv, ?_⟩
    cases s with
    | any => trivial
    | dat d => exact Dq.ex owns_sub q
    | well => exact q
    | odic m =>
      obtain ⟨a, k, e1, e2, e3⟩ := q
      subst e1
      exact .dic (h.inv.2 _ _ e2) (e3.ex owns_sub)
    | fdic m => cases q
    | ins C fs => obtain ⟨a, dx, vs, e1, e2, e3⟩ := q; exact ⟨a, dx, vs, e1, owns_sub _ _ e2, e3.ex owns_sub⟩
    | sem p => exact fun H2 e2 => q H2 fun b o hb => e2 b o (owns_sub b o hb)
    | frm p => exact fun G2 H2 s2 e2 => q G2 H2 s2 fun b o hb => e2 b o (owns_sub b o hb)
    | olst ds =>
      obtain ⟨a, vs, e1, e2, e3⟩ := q
      subst e1
      exact .lst (.inl (.inl (h.inv.2 _ _ e2))) (e3.ex owns_sub)⟩
theorem EnvB.le1 (h : EnvB K G S H σ Γ) (i : (G.owns S).inv H') (e : (G.owns S).le H H') : EnvB K G S H' σ Γ := ⟨h.ok, i, h.len, fun i s hs => (h.sl i s hs).imp id fun ⟨v, hv, q⟩ => ⟨v, hv, q.ex e⟩, h.ne⟩
theorem le_rel (h : (G.owns S).inv H) (e : G.le H H') : (G.owns S).le H H' := fun c u hc => by
  obtain ⟨h1, h2⟩ := hideS_some hc
  show hideS (G.view H') S c = _
  rw [hideS_none h1]
  exact e c u h2
theorem inv_rel (h : (G.owns S).inv H) (i : G.inv H') (e : G.le H H') : (G.owns S).inv H' := ⟨i, fun b o hb => e b o (h.2 b o hb)⟩
theorem EnvB.le0 (h : EnvB K G S H σ Γ) (i : G.inv H') (e : G.le H H') : EnvB K G S H' σ Γ := h.le1 (inv_rel h.inv i e) (le_rel h.inv e)
theorem EnvB.weak (h : EnvB K G S H σ Γ) (w : W Γ Γ') : EnvB K G S H σ Γ' := ⟨h.ok, h.inv, h.len.trans w.1, fun i s hs => by
  rcases w.2 i s hs with e | e
  · exact .inl e
  · exact h.sl i s e, fun i j s t a hij hi hj o1 o2 => by
  rcases w.2 i s hi with e | e
  · subst e; cases o1
  · rcases w.2 j t hj with e2 | e2
    · subst e2; cases o2
    · exact h.ne i j s t a hij e e2 o1 o2⟩
theorem EnvB.set {i : Nat} {v : V} {s : Sl} (h : EnvB K G S H σ Γ) (hi : i < Γ.length) (ho : isO s = false) (hv : SlB K G S H v s) : EnvB K G S H (σ.set i (some v)) (Γ.set i s) := ⟨h.ok, h.inv, by rw [List.length_set, List.length_set]; exact h.len, fun j t hj => by
  by_cases e : i = j
  · subst e
    rw [List.getElem?_set_self hi] at hj
    cases hj
    exact .inr ⟨v, List.getElem?_set_self (by rw [h.len]; exact hi), hv⟩
  · rw [List.getElem?_set_ne e] at hj ⊢
    exact h.sl j t hj, fun p q s' t' a hpq hp hq o1 o2 => by
  by_cases e : i = p
  · subst e
    rw [List.getElem?_set_self hi] at hp
    cases hp
    rw [ho] at o1; cases o1
  · by_cases e2 : i = q
    · subst e2
      rw [List.getElem?_set_self hi] at hq
      cases hq
      rw [ho] at o2; cases o2
    · rw [List.getElem?_set_ne e] at hp ⊢
      rw [List.getElem?_set_ne e2] at hq ⊢
      exact h.ne p q s' t' a hpq hp hq o1 o2⟩
/-- what is seen stays when the owned object changes or one more is owned -/
theorem SlB.put {l : Addr} {o : HO} {v : V} {s : Sl} (h : SlB K G S H v s) (e : Ex ((G.owns S).view H) ((G.owns (S.put l o)).view H')) (hl : isO s = true → v ≠ .ref l) : SlB K G (S.put l o) H' v s := by
  cases s with
  | any => trivial
  | dat d => exact Dq.ex e h
  | well => exact h
  | odic m => obtain ⟨a, k, e1, e2, e3⟩ := h; exact ⟨a, k, e1, by rw [OS.put_ne (fun z => hl rfl (by rw [e1, z]))]; exact e2, e3.ex e⟩
  | fdic m => exact h
  | ins C fs => obtain ⟨a, dx, vs, e1, e2, e3⟩ := h; exact ⟨a, dx, vs, e1, e _ _ e2, e3.ex e⟩
  | sem p => exact fun H2 e2 => h H2 fun b o hb => e2 b o (e b o hb)
  | frm p => exact fun G2 H2 s2 e2 => h G2 H2 s2 fun b o hb => e2 b o (e b o hb)
  | olst ds => obtain ⟨a, vs, e1, e2, e3⟩ := h; exact ⟨a, vs, e1, by rw [OS.put_ne (fun z => hl rfl (by rw [e1, z]))]; exact e2, e3.ex e⟩
/-- an object of its own is put into a place -/
theorem EnvB.putNew {i : Nat} {l : Addr} {o : HO} {s : Sl} (h : EnvB K G S H σ Γ) (hi : i < Γ.length) (hl : S l = none) (ho : okH o = true) (iv : (G.owns (S.put l o)).inv H') (e : Ex ((G.owns S).view H) ((G.owns (S.put l o)).view H')) (hv : SlB K G (S.put l o) H' (.ref l) s) : EnvB K G (S.put l o) H' (σ.set i (some (.ref l))) (Γ.set i s) := by
  have own_ne : ∀ {q : Nat} {t : Sl} {v : V}, Γ[q]? = some t → isO t = true → σ[q]? = some (some v) → v ≠ .ref l := fun {q t v} hq ho hv => by
    rcases h.sl q t hq with z | ⟨v', h1, h2⟩
    · subst z; cases ho
    · rw [hv] at h1
      cases h1
      intro z
      subst z
      cases t with
      | olst ds => obtain ⟨a, vs, e1, e2, _⟩ := h2; cases e1; rw [hl] at e2; cases e2
      | odic m => obtain ⟨a, vs, e1, e2, _⟩ := h2; cases e1; rw [hl] at e2; cases e2
      | any => cases ho
      | dat d => cases ho
      | well => cases ho
      | fdic m => cases ho
      | ins C fs => cases ho
      | sem p => cases ho
      | frm p => cases ho
  refine ⟨h.ok.put ho, iv, by rw [List.length_set, List.length_set]; exact h.len, fun j t hj => ?_, fun p q s' t' a hpq hp hq o1 o2 => ?_⟩
  · by_cases z : i = j
    · subst z
      rw [List.getElem?_set_self hi] at hj
      cases hj
      exact .inr ⟨_, List.getElem?_set_self (by rw [h.len]; exact hi), hv⟩
    · rw [List.getElem?_set_ne z] at hj ⊢
      rcases h.sl j t hj with z2 | ⟨v, h1, h2⟩
      · exact .inl z2
      · exact .inr ⟨v, h1, h2.put e fun ho => own_ne hj ho h1⟩
  · by_cases z : i = p
    · subst z
      rw [List.getElem?_set_self (by rw [h.len]; exact hi)]
      intro ea
      rw [List.getElem?_set_ne hpq] at hq ⊢
      intro eb
      injection ea with ea
      injection ea with ea
      rw [← ea] at eb
      exact own_ne hq o2 eb rfl
    · by_cases z2 : i = q
      · subst z2
        rw [List.getElem?_set_self (by rw [h.len]; exact hi)]
        rw [List.getElem?_set_ne z] at hp ⊢
        intro eb ea
        injection ea with ea
        injection ea with ea
        rw [← ea] at eb
        exact own_ne hp o1 eb rfl
      · rw [List.getElem?_set_ne z] at hp ⊢
        rw [List.getElem?_set_ne z2] at hq ⊢
        exact h.ne p q s' t' a hpq hp hq o1 o2
/-- the object that a place owns changes -/
theorem EnvB.change {i : Nat} {l : Addr} {o : HO} {s s' : Sl} (h : EnvB K G S H σ Γ) (hi : Γ[i]? = some s) (ho : isO s = true) (hs : σ[i]? = some (some (.ref l))) (iv : (G.owns (S.put l o)).inv H') (e : Ex ((G.owns S).view H) ((G.owns (S.put l o)).view H')) (hv : SlB K G (S.put l o) H' (.ref l) s') (ho' : isO s' = true) (hok : okH o = true) : EnvB K G (S.put l o) H' σ (Γ.set i s') := by
  have hil : i < Γ.length := (List.getElem?_eq_some_iff.mp hi).1
  refine ⟨h.ok.put hok, iv, by rw [List.length_set]; exact h.len, fun j t hj => ?_, fun p q s1 t1 a hpq hp hq o1 o2 => ?_⟩
  · by_cases z : i = j
    · subst z
      rw [List.getElem?_set_self hil] at hj
      cases hj
      exact .inr ⟨_, hs, hv⟩
    · rw [List.getElem?_set_ne z] at hj
      rcases h.sl j t hj with z2 | ⟨v, h1, h2⟩
      · exact .inl z2
      · exact .inr ⟨v, h1, h2.put e fun ho2 z3 => h.ne i j s t l z hi hj ho ho2 hs (by rw [h1, z3])⟩
  · by_cases z : i = p
    · subst z
      rw [List.getElem?_set_ne hpq] at hq
      exact h.ne i q s t1 a hpq hi hq ho o2
    · rw [List.getElem?_set_ne z] at hp
      by_cases z2 : i = q
      · subst z2
        exact h.ne p i s1 s a hpq hp hi o1 ho
      · rw [List.getElem?_set_ne z2] at hq
        exact h.ne p q s1 t1 a hpq hp hq o1 o2
/-- a place gives back what it owned: it is data from now on -/
theorem EnvB.free {i : Nat} {ds : List PyData} (h : EnvB K G S H σ Γ) (hi : Γ[i]? = some (.olst ds)) : ∃ S', EnvB K G S' H σ (Γ.set i (.dat (.list ds))) ∧ Ex ((G.owns S).view H) ((G.owns S').view H) := by
  have hil : i < Γ.length := (List.getElem?_eq_some_iff.mp hi).1
  rcases h.sl i _ hi with z | ⟨v, hv, a, vs, e1, e2, e3⟩
  · cases z
  subst e1
  have ex : Ex ((G.owns S).view H) ((G.owns (S.drop a)).view H) := owns_drop
  have iv : (G.owns (S.drop a)).inv H := ⟨h.inv.1, fun b o hb => h.inv.2 b o (by
    by_cases z : b = a
    · rw [z, OS.drop_same] at hb; cases hb
    · rw [OS.drop_ne z] at hb; exact hb)⟩
  have va : (G.owns (S.drop a)).view H a = some (.lst vs) := by
    show hideS (G.view H) (S.drop a) a = _
    rw [hideS_none OS.drop_same]
    exact h.inv.2 _ _ e2
  refine ⟨S.drop a, ⟨h.ok.drop, iv, by rw [List.length_set]; exact h.len, fun j t hj => ?_, fun p q s1 t1 b hpq hp hq o1 o2 => ?_⟩, ex⟩
  · by_cases z : i = j
    · subst z
      rw [List.getElem?_set_self hil] at hj
      cases hj
      exact .inr ⟨_, hv, .lst (.inl (.inl va)) (e3.ex ex)⟩
    · rw [List.getElem?_set_ne z] at hj
      rcases h.sl j t hj with z2 | ⟨v, h1, h2⟩
      · exact .inl z2
      · refine .inr ⟨v, h1, ?_⟩
        have ne : isO t = true → v ≠ .ref a := fun ho z3 => h.ne i j _ t a z hi hj rfl ho hv (by rw [h1, z3])
        cases t with
        | any => trivial
        | dat d => exact Dq.ex ex h2
        | well => exact h2
        | odic m => obtain ⟨c, k, f1, f2, f3⟩ := h2; exact ⟨c, k, f1, by rw [OS.drop_ne (fun z => ne rfl (by rw [f1, z]))]; exact f2, f3.ex ex⟩
        | fdic m => exact h2
        | ins C fs => obtain ⟨c, dx, us, f1, f2, f3⟩ := h2; exact ⟨c, dx, us, f1, ex _ _ f2, f3.ex ex⟩
        | sem p => exact fun H2 e2 => h2 H2 fun b o hb => e2 b o (ex b o hb)
        | frm p => exact fun G2 H2 s2 e2 => h2 G2 H2 s2 fun b o hb => e2 b o (ex b o hb)
        | olst es => obtain ⟨c, us, f1, f2, f3⟩ := h2; exact ⟨c, us, f1, by rw [OS.drop_ne (fun z => ne rfl (by rw [f1, z]))]; exact f2, f3.ex ex⟩
  · by_cases z : i = p
    · subst z
      rw [List.getElem?_set_self hil] at hp
      cases hp
      cases o1
    · rw [List.getElem?_set_ne z] at hp
      by_cases z2 : i = q
      · subst z2
        rw [List.getElem?_set_self hil] at hq
        cases hq
        cases o2
      · rw [List.getElem?_set_ne z2] at hq
        exact h.ne p q s1 t1 b hpq hp hq o1 o2
end
/-- what is given back: a value, or a new tuple of values; a value may be a list that nobody else holds -/
inductive Rv where
  | one (s : Sl) | tup (ss : List Sl)
structure ArgsB (K : PySem.W.Frag) (G : Fr) (S : OS) (H : Hp) (vs : List V) (ss : List Sl) : Prop where
  len : vs.length = ss.length
  sl : ∀ (i : Nat) (s : Sl), ss[i]? = some s → ∃ v, vs[i]? = some v ∧ SlB K G S H v s
  ne : ∀ (i j : Nat) (s t : Sl) (v : V), i ≠ j → ss[i]? = some s → ss[j]? = some t → isO s = true → isO t = true → vs[i]? = some v → vs[j]? = some v → False
def RvOk (K : PySem.W.Frag) (G : Fr) (S : OS) (H : Hp) (v : V) : Rv → Prop
  | .one s => SlB K G S H v s
  | .tup ss => ∃ a vs, v = .ref a ∧ SqT K ((G.owns S).view H) a vs ∧ ArgsB K G S H vs ss
/-- a block: what it asks ahead, what holds behind it, what it returns, what holds where it breaks off -/
def Bk (K : PySem.W.Frag) (ts : TS) (Γ : List Sl) (M : List Sl → Prop) (R : Rv → Prop) (B C : List Sl → Prop) : Prop := ∀ (G : Fr) (S : OS) (σ : L2.St) (H : Hp) (D : Ends), EnvB K G S H σ Γ →
  (∀ σ' H' S' Γ', Ex ((G.owns S).view H) ((G.owns S').view H') → EnvB K G S' H' σ' Γ' → M Γ' → D.nx σ' H') →
  (∀ v r H' S', Ex ((G.owns S).view H) ((G.owns S').view H') → S'.ok → (G.owns S').inv H' → R r → RvOk K G S' H' v r → D.rt v H') →
  (∀ σ' H' S' Γ', Ex ((G.owns S).view H) ((G.owns S').view H') → EnvB K G S' H' σ' Γ' → B Γ' → D.bk σ' H') →
  (∀ σ' H' S' Γ', Ex ((G.owns S).view H) ((G.owns S').view H') → EnvB K G S' H' σ' Γ' → C Γ' → D.ct σ' H') → ts D σ H
def NoB : List Sl → Prop := fun _ => False
section
variable {K : PySem.W.Frag} {Γ Γ' Γ2 : List Sl} {ts tu : TS} {tt : TT} {te tb : TE} {ta : TA} {wi : TI} {g : TG} {M M' B C B' C' : List Sl → Prop} {R R' : Rv → Prop} {P : PyData → Prop} {i j : Nat}
theorem Bk.imp (h : Bk K ts Γ M' R' B' C') (hm : ∀ Γ', M' Γ' → M Γ') (hr : ∀ r, R' r → R r) (hb : ∀ Γ', B' Γ' → B Γ') (hc : ∀ Γ', C' Γ' → C Γ') : Bk K ts Γ M R B C := fun G S σ H D ev k1 k2 k3 k4 =>
  h G S σ H D ev (fun σ' H' S' Γ' e ev' m => k1 σ' H' S' Γ' e ev' (hm _ m)) (fun v r H' S' e o i' r' => k2 v r H' S' e o i' (hr _ r')) (fun σ' H' S' Γ' e ev' m => k3 σ' H' S' Γ' e ev' (hb _ m)) (fun σ' H' S' Γ' e ev' m => k4 σ' H' S' Γ' e ev' (hc _ m))
theorem Bk.impM (h : Bk K ts Γ M' R B C) (hm : ∀ Γ', M' Γ' → M Γ') : Bk K ts Γ M R B C := h.imp hm (fun _ x => x) (fun _ x => x) (fun _ x => x)
theorem b_w (w : W Γ Γ') (h : Bk K ts Γ' M R B C) : Bk K ts Γ M R B C := fun G S σ H D ev => h G S σ H D (ev.weak w)
theorem b_next (hm : M Γ) : Bk K tNext Γ M R B C := fun G S σ H D ev k1 k2 k3 k4 => k1 σ H S Γ (fun _ _ h => h) ev hm
theorem b_nextW (w : W Γ Γ') (hm : M Γ') : Bk K tNext Γ M R B C := b_w w (b_next hm)
theorem b_break (hm : B Γ) : Bk K tBreak Γ M R B C := fun G S σ H D ev k1 k2 k3 k4 => k3 σ H S Γ (fun _ _ h => h) ev hm
theorem b_cont (hm : C Γ) : Bk K tCont Γ M R B C := fun G S σ H D ev k1 k2 k3 k4 => k4 σ H S Γ (fun _ _ h => h) ev hm
theorem ext {a b c : Hp} (h : Ex a b) (h2 : Ex b c) : Ex a c := fun x u e => h2 x u (h x u e)
theorem b_seq (h : Bk K ts Γ M' R B C) (h2 : ∀ Γ', M' Γ' → Bk K tu Γ' M R B C) : Bk K (tSeq ts tu) Γ M R B C := fun G S σ H D ev k1 k2 k3 k4 =>
  h G S σ H { D with nx := tu D } ev (fun σ1 H1 S1 Γ1 e1 ev1 m1 => h2 Γ1 m1 G S1 σ1 H1 D ev1 (fun σ' H' S' Γ' e => k1 σ' H' S' Γ' (ext e1 e)) (fun v r H' S' e => k2 v r H' S' (ext e1 e)) (fun σ' H' S' Γ' e => k3 σ' H' S' Γ' (ext e1 e)) (fun σ' H' S' Γ' e => k4 σ' H' S' Γ' (ext e1 e))) k2 k3 k4
/-- go on with the state that is told -/
theorem b_to (h : Bk K ts Γ (fun Γ' => W Γ' Γ2) R B C) (h2 : Bk K tu Γ2 M R B C) : Bk K (tSeq ts tu) Γ M R B C := b_seq h fun Γ' w => b_w w h2
/-- name = e, nothing that is owned being handed on -/
theorem b_set1 (hi : i < Γ.length) (h : EvD K te Γ P) (hm : ∀ d, P d → M (Γ.set i (.dat d))) : Bk K (tAsg te (gName i)) Γ M R B C := fun G S σ H D ev k1 k2 k3 k4 =>
  h (G.owns S) σ H ev.in ev.inv _ fun v d H1 i1 l1 p1 dq => k1 _ H1 S _ l1 ((ev.le1 i1 l1).set (s := .dat d) hi rfl dq) (hm d p1)
theorem b_set (hi : i < Γ.length) (h : EvD K te Γ P) (h2 : ∀ d, P d → Bk K tu (Γ.set i (.dat d)) M R B C) : Bk K (tSeq (tAsg te (gName i)) tu) Γ M R B C := b_seq (M' := fun Γ' => ∃ d, P d ∧ Γ' = Γ.set i (.dat d)) (b_set1 hi h fun d p => ⟨d, p, rfl⟩) fun Γ' ⟨d, p, e⟩ => by rw [e]; exact h2 d p
theorem sqT_hideS {G : Fr} {S : OS} {H : Hp} (ok : S.ok) (iv : (G.owns S).inv H) {a : Addr} {zs : List V} (h : SqT K (G.view H) a zs) : SqT K ((G.owns S).view H) a zs := by
  cases e : S a with
  | none =>
    rcases h with (h | ⟨o, h⟩) | h
    · exact .inl (.inl (by show hideS _ _ _ = _; rw [hideS_none e]; exact h))
    · exact .inl (.inr ⟨o, by show hideS _ _ _ = _; rw [hideS_none e]; exact h⟩)
    · exact .inr h
  | some u =>
    have hv := iv.2 a _ e
    have ho := ok a u e
    rcases h with (h | ⟨o, h⟩) | h
    · rw [hv] at h; cases h; cases ho
    · rw [hv] at h; cases h; cases ho
    · exact .inr h
mutual
theorem Dq.hideS {G : Fr} {S : OS} {H : Hp} (ok : S.ok) (iv : (G.owns S).inv H) : ∀ {v : V} {d : PyData}, Dq K (G.view H) v d → noL d = true → Dq K ((G.owns S).view H) v d
  | _, _, .non, _ => .non
  | _, _, .bl b, _ => .bl b
  | _, _, .int i, _ => .int i
  | _, _, .str x, _ => .str x
  | _, _, .lst _ _, n => by rw [noL] at n; cases n
  | _, _, .tup h t, n => .tup (sqT_hideS ok iv h) (DqAll.hideS ok iv t (by rw [noL] at n; exact n))
  | _, _, .dic _ _, n => by rw [noL] at n; cases n
theorem DqAll.hideS {G : Fr} {S : OS} {H : Hp} (ok : S.ok) (iv : (G.owns S).inv H) : ∀ {vs : List V} {ds : List PyData}, DqAll K (G.view H) vs ds → noLs ds = true → DqAll K ((G.owns S).view H) vs ds
  | _, _, .nil, _ => .nil
  | _, _, .cons h t, n => by
    rw [noLs, Bool.and_eq_true] at n
    exact .cons (Dq.hideS ok iv h n.1) (DqAll.hideS ok iv t n.2)
end
/-- name = e, where all that is owned may be read: what comes out holds no list -/
theorem b_setR1 (hi : i < Γ.length) (h : EvD K te (rel Γ) P) (hm : ∀ d, P d → noL d = true ∧ M (Γ.set i (.dat d))) : Bk K (tAsg te (gName i)) Γ M R B C := fun G S σ H D ev k1 k2 k3 k4 =>
  h G σ H ev.out ev.inv.1 _ fun v d H1 i1 l1 p1 dq => k1 _ H1 S _ (le_rel ev.inv l1) ((ev.le0 i1 l1).set (s := .dat d) hi rfl (dq.hideS ev.ok (inv_rel ev.inv i1 l1) (hm d p1).1)) (hm d p1).2
theorem b_setR (hi : i < Γ.length) (h : EvD K te (rel Γ) P) (hn : ∀ d, P d → noL d = true) (h2 : ∀ d, P d → Bk K tu (Γ.set i (.dat d)) M R B C) : Bk K (tSeq (tAsg te (gName i)) tu) Γ M R B C := b_seq (M' := fun Γ' => ∃ d, P d ∧ Γ' = Γ.set i (.dat d)) (b_setR1 hi h fun d p => ⟨hn d p, d, p, rfl⟩) fun Γ' ⟨d, p, e⟩ => by rw [e]; exact h2 d p
/-- an object with fields is made -/
theorem b_setV {s : Sl} (hi : i < Γ.length) (ho : isP s = true) (h : EvV K te Γ s) (hm : M (Γ.set i s)) : Bk K (tAsg te (gName i)) Γ M R B C := fun G S σ H D ev k1 k2 k3 k4 =>
  h (G.owns S) σ H ev.in ev.inv _ fun v H1 i1 l1 sv => k1 _ H1 S _ l1 ((ev.le1 i1 l1).set hi (by cases s <;> first | rfl | cases ho) (by cases s <;> first | exact sv | cases ho)) hm
/-- name = a new list, nothing that is owned being handed on -/
theorem b_setN1 {PN : List PyData → Prop} (hi : i < Γ.length) (h : EvN K te Γ PN) (hm : ∀ ds, PN ds → M (Γ.set i (.olst ds))) : Bk K (tAsg te (gName i)) Γ M R B C := fun G S σ H D ev k1 k2 k3 k4 =>
  h (G.owns S) σ H ev.in ev.inv _ fun l vs ds H1 i1 l1 p1 dq => by
    have hl : S l = none := by
      cases e : S l with
      | none => rfl
      | some o =>
        have z : hideS (G.view H1) S l = some (.lst vs) := i1.2
        unfold L2.hideS at z
        rw [e] at z; cases z
    rw [owns_own hl] at i1 l1 dq
    exact k1 _ H1 _ _ l1 (ev.putNew (s := .olst ds) hi hl rfl i1 l1 ⟨l, vs, rfl, OS.put_same, dq⟩) (hm ds p1)
theorem b_setN {PN : List PyData → Prop} (hi : i < Γ.length) (h : EvN K te Γ PN) (h2 : ∀ ds, PN ds → Bk K tu (Γ.set i (.olst ds)) M R B C) : Bk K (tSeq (tAsg te (gName i)) tu) Γ M R B C := b_seq (M' := fun Γ' => ∃ d, PN d ∧ Γ' = Γ.set i (.olst d)) (b_setN1 hi h fun d p => ⟨d, p, rfl⟩) fun Γ' ⟨d, p, e⟩ => by rw [e]; exact h2 d p
/-- name = a new list, where all that is owned may be read -/
theorem b_setNR1 {PN : List PyData → Prop} (hi : i < Γ.length) (h : EvN K te (rel Γ) PN) (hm : ∀ ds, PN ds → noLs ds = true ∧ M (Γ.set i (.olst ds))) : Bk K (tAsg te (gName i)) Γ M R B C := fun G S σ H D ev k1 k2 k3 k4 =>
  h G σ H ev.out ev.inv.1 _ fun l vs ds H1 i1 l1 p1 dq => by
    have gl : G.le H H1 := fun c u hc => (hide_some (l1 c u hc)).2
    have hl : S l = none := by
      cases e : S l with
      | none => rfl
      | some o => exact absurd rfl (hide_some (l1 l o (ev.inv.2 l o e))).1
    have iv1 := inv_rel ev.inv i1.1 gl
    have iv2 : (G.owns (S.put l (.lst vs))).inv H1 := by rw [← owns_own hl]; exact ⟨iv1, by show hideS (G.view H1) S l = _; rw [hideS_none hl]; exact i1.2⟩
    have l2 : Ex ((G.owns S).view H) ((G.owns (S.put l (.lst vs))).view H1) := fun c u hc => by
      obtain ⟨h1, h2⟩ := hideS_some hc
      obtain ⟨h3, h4⟩ := hide_some (l1 c u h2)
      show hideS (G.view H1) (S.put l _) c = _
      rw [hideS_none (by rw [OS.put_ne h3]; exact h1)]
      exact h4
    have dq2 := DqAll.hideS (ev.ok.put (l := l) (o := .lst vs) rfl) iv2 (dq.ex Fr.own_sub) (hm ds p1).1
    exact k1 _ H1 _ _ l2 (ev.putNew (s := .olst ds) hi hl rfl iv2 l2 ⟨l, vs, rfl, OS.put_same, dq2⟩) (hm ds p1).2
theorem b_setNR {PN : List PyData → Prop} (hi : i < Γ.length) (h : EvN K te (rel Γ) PN) (hn : ∀ ds, PN ds → noLs ds = true) (h2 : ∀ ds, PN ds → Bk K tu (Γ.set i (.olst ds)) M R B C) : Bk K (tSeq (tAsg te (gName i)) tu) Γ M R B C := b_seq (M' := fun Γ' => ∃ d, PN d ∧ Γ' = Γ.set i (.olst d)) (b_setNR1 hi h fun d p => ⟨hn d p, d, p, rfl⟩) fun Γ' ⟨d, p, e⟩ => by rw [e]; exact h2 d p
/-- a test: all that is owned may be read -/
theorem b_ifP {Pb : Bool → Prop} (h : EvB K tt (rel Γ) Pb) (h1 : Pb true → Bk K ts Γ M R B C) (h2 : Pb false → Bk K tu Γ M R B C) : Bk K (tIfS tt ts tu) Γ M R B C := fun G S σ H D ev k1 k2 k3 k4 =>
  h G σ H ev.out ev.inv.1 _ fun b H1 i1 l1 pb => by
    have ev1 := ev.le0 i1 l1
    have lr := le_rel ev.inv l1
    have go : ∀ {t : TS}, Bk K t Γ M R B C → t D σ H1 := fun h => h G S σ H1 D ev1 (fun σ' H' S' Γ' e => k1 σ' H' S' Γ' (L2.ext lr e)) (fun v r H' S' e => k2 v r H' S' (L2.ext lr e)) (fun σ' H' S' Γ' e => k3 σ' H' S' Γ' (L2.ext lr e)) (fun σ' H' S' Γ' e => k4 σ' H' S' Γ' (L2.ext lr e))
    cases b with
    | true => exact go (h1 pb)
    | false => exact go (h2 pb)
theorem b_if {b : Bool} (h : EvB K tt (rel Γ) (· = b)) (h1 : b = true → Bk K ts Γ M R B C) (h2 : b = false → Bk K tu Γ M R B C) : Bk K (tIfS tt ts tu) Γ M R B C := b_ifP h (fun e => h1 e.symm) fun e => h2 e.symm
/-- a statement that is an expression -/
theorem b_drop (h : EvD K te (rel Γ) P) (hm : M Γ) : Bk K (tDrop te) Γ M R B C := fun G S σ H D ev k1 k2 k3 k4 =>
  h G σ H ev.out ev.inv.1 _ fun v d H1 i1 l1 p1 dq => k1 σ H1 S Γ (le_rel ev.inv l1) (ev.le0 i1 l1) hm
/-- found.append(e) -/
theorem b_app {ds : List PyData} (hj : Γ[j]? = some (.olst ds)) (hlen : ds.length < 100000) (h : EvD K te Γ P) (hm : ∀ e, P e → M (Γ.set j (.olst (ds ++ [e])))) : Bk K (tDrop (tBM K "list" rAppend (tVar j) (tCons te tNil))) Γ M R B C := fun G S σ H D ev k1 k2 k3 k4 => by
  rcases ev.sl j _ hj with z | ⟨v, hv, a, vs, e1, e2, e3⟩
  · cases z
  subst e1
  refine ⟨_, hv, .inl ⟨rfl, _, SqL.of (owns_at ev.inv e2)⟩, h (G.owns S) σ H ev.in ev.inv _ fun x e H1 i1 l1 p1 dq => ?_⟩
  refine ⟨a, vs, x, rfl, rfl, owns_at i1 e2, by rw [sizeLine_eq, e3.length]; omega, ?_⟩
  have st := owns_set (o' := .lst (vs ++ [x])) i1 e2
  have le : Ex ((G.owns S).view H) ((G.owns (S.put a (.lst (vs ++ [x])))).view (upd H1 a (.lst (vs ++ [x])))) := by rw [st.2]; exact l1
  exact k1 σ _ _ _ le (ev.change (s' := .olst (ds ++ [e])) hj rfl hv st.1 le ⟨a, _, rfl, OS.put_same, (e3.ex le).append (.cons (by rw [st.2]; exact dq) .nil)⟩ rfl rfl) (hm e p1)
theorem b_appR {ds : List PyData} (hj : Γ[j]? = some (.olst ds)) (hlen : ds.length < 100000) (h : EvD K te (rel Γ) P) (hm : ∀ e, P e → noL e = true ∧ M (Γ.set j (.olst (ds ++ [e])))) : Bk K (tDrop (tBM K "list" rAppend (tVar j) (tCons te tNil))) Γ M R B C := fun G S σ H D ev k1 k2 k3 k4 => by
  rcases ev.sl j _ hj with z | ⟨v, hv, a, vs, e1, e2, e3⟩
  · cases z
  subst e1
  refine ⟨_, hv, .inl ⟨rfl, _, SqL.of (owns_at ev.inv e2)⟩, h G σ H ev.out ev.inv.1 _ fun x e H1 i1 l1 p1 dq => ?_⟩
  have i1' := inv_rel ev.inv i1 l1
  have l1' := le_rel ev.inv l1
  refine ⟨a, vs, x, rfl, rfl, owns_at i1' e2, by rw [sizeLine_eq, e3.length]; omega, ?_⟩
  have st := owns_set (o' := .lst (vs ++ [x])) i1' e2
  have le : Ex ((G.owns S).view H) ((G.owns (S.put a (.lst (vs ++ [x])))).view (upd H1 a (.lst (vs ++ [x])))) := by rw [st.2]; exact l1'
  exact k1 σ _ _ _ le (ev.change (s' := .olst (ds ++ [e])) hj rfl hv st.1 le ⟨a, _, rfl, OS.put_same, (e3.ex le).append (.cons (by rw [st.2]; exact dq.hideS ev.ok i1' (hm e p1).1) .nil)⟩ rfl rfl) (hm e p1).2
theorem DqAll.setAt {H : Hp} {v : V} {d : PyData} : ∀ {vs : List V} {ds : List PyData} (n : Nat), DqAll K H vs ds → Dq K H v d → DqAll K H (vs.set n v) (ds.set n d)
  | _, _, _, .nil, _ => .nil
  | _, _, 0, .cons _ t, h => .cons h t
  | _, _, n + 1, .cons a t, h => .cons a (t.setAt n h)
/-- found[i] = e -/
theorem b_setIx {ds : List PyData} {k : Int} {n : Nat} (hj : Γ[j]? = some (.olst ds)) (h : EvD K te Γ P) (h2 : EvD K tb Γ (· = .int k)) (hk : ixN ds.length k = some n) (hm : ∀ e, P e → M (Γ.set j (.olst (ds.set n e)))) : Bk K (tAsg te (gSub (tVar j) tb rSetL)) Γ M R B C := fun G S σ H D ev k1 k2 k3 k4 => by
  rcases ev.sl j _ hj with z | ⟨v, hv, a, vs, e1, e2, e3⟩
  · cases z
  subst e1
  refine h (G.owns S) σ H ev.in ev.inv _ fun x e H1 i1 l1 p1 dq => ⟨_, hv, h2 (G.owns S) σ H1 (ev.le1 i1 l1).in i1 _ fun y d H2 i2 l2 p2 dq2 => ?_⟩
  subst p2
  cases dq2
  refine ⟨a, vs, k, n, rfl, rfl, owns_at i2 e2, by rw [e3.length]; exact hk, ?_⟩
  have st := owns_set (o' := .lst (vs.set n x)) i2 e2
  have le : Ex ((G.owns S).view H) ((G.owns (S.put a (.lst (vs.set n x)))).view (upd H2 a (.lst (vs.set n x)))) := by rw [st.2]; exact L2.ext l1 l2
  exact k1 σ _ _ _ le (ev.change (s' := .olst (ds.set n e)) hj rfl hv st.1 le ⟨a, _, rfl, OS.put_same, (e3.ex le).setAt n (by rw [st.2]; exact dq.ex l2)⟩ rfl rfl) (hm e p1)
/-- found[i] op= e, whole numbers -/
theorem b_augIx {ds : List PyData} {k x y : Int} {n : Nat} {f : Int → Int → Int} (hj : Γ[j]? = some (.olst ds)) (h2 : EvD K tb (rel Γ) (· = .int k)) (hk : ixN ds.length k = some n) (hx : atI ds k = some (.int x)) (h : EvD K te (rel Γ) (· = .int y)) (hm : M (Γ.set j (.olst (ds.set n (.int (f x y)))))) :
    Bk K (tAugS (tVar j) tb te (rIxL K) (ipI f) rSetL) Γ M R B C := fun G S σ H D ev k1 k2 k3 k4 => by
  rcases ev.sl j _ hj with z | ⟨v, hv, a, vs, e1, e2, e3⟩
  · cases z
  subst e1
  refine ⟨_, hv, h2 G σ H ev.out ev.inv.1 _ fun yv d H1 i1 l1 p1 dq => ?_⟩
  subst p1
  cases dq
  have iv1 := inv_rel ev.inv i1 l1
  obtain ⟨w, hw, hwd⟩ := dq_atI (e3.ex (le_rel ev.inv l1)) hx
  cases hwd
  refine ⟨a, vs, k, .int x, rfl, rfl, SqL.of (owns_at iv1 e2), hw, h G σ H1 (ev.le0 i1 l1).out i1 _ fun zv d2 H2 i2 l2 p2 dq2 => ?_⟩
  subst p2
  cases dq2
  have iv2 := inv_rel iv1 i2 l2
  refine ⟨x, y, rfl, rfl, a, vs, k, n, rfl, rfl, owns_at iv2 e2, by rw [e3.length]; exact hk, ?_⟩
  have st := owns_set (o' := .lst (vs.set n (.int (f x y)))) iv2 e2
  have le : Ex ((G.owns S).view H) ((G.owns (S.put a (.lst (vs.set n (.int (f x y)))))).view (upd H2 a (.lst (vs.set n (.int (f x y)))))) := by rw [st.2]; exact L2.ext (le_rel ev.inv l1) (le_rel iv1 l2)
  exact k1 σ _ _ _ le (ev.change (s' := .olst (ds.set n (.int (f x y)))) hj rfl hv st.1 le ⟨a, _, rfl, OS.put_same, (e3.ex le).setAt n (.int _)⟩ rfl rfl) hm
/-- name op= e, whole numbers -/
theorem b_aug {f : Int → Int → Int} {x y : Int} (hi : i < Γ.length) (hs : Γ[i]? = some (.dat (.int x))) (h : EvD K te (rel Γ) (· = .int y)) (hm : M (Γ.set i (.dat (.int (f x y))))) : Bk K (tAug i te (ipI f)) Γ M R B C := fun G S σ H D ev k1 k2 k3 k4 => by
  rcases ev.sl i _ hs with z | ⟨v, hv, q⟩
  · cases z
  cases q
  exact ⟨_, hv, h G σ H ev.out ev.inv.1 _ fun yv d H1 i1 l1 p1 dq => by
    subst p1
    cases dq
    exact ⟨x, y, rfl, rfl, k1 _ H1 S _ (le_rel ev.inv l1) ((ev.le0 i1 l1).set (s := .dat (.int (f x y))) hi rfl (.int _)) hm⟩⟩
theorem isP_isO {s : Sl} (h : isP s = true) : isO s = false := by
  cases s <;> first | rfl | cases h
/-- targets: names -/
def TgB (K : PySem.W.Frag) (g : TG) (Γ : List Sl) (P : PyData → Prop) (N : PyData → List Sl) : Prop := ∀ (G : Fr) (S : OS) (σ : L2.St) (H : Hp) (x : V) (d : PyData), EnvB K G S H σ Γ → P d → Dq K ((G.owns S).view H) x d → ∀ Q : L2.St → Hp → Prop, (∀ σ2, EnvB K G S H σ2 (N d) → Q σ2 H) → g x σ H Q
theorem TgOk.toB {vs : List Nat} {N : PyData → List Sl} (h : TgOk K g vs Γ P N) (hl : ∀ d, P d → (N d).length = Γ.length) (hn : ∀ d, P d → ∀ q, q ∉ vs → (N d)[q]? = Γ[q]?) (hv : ∀ d, P d → ∀ q ∈ vs, ∀ s, (N d)[q]? = some s → isP s = true) : TgB K g Γ P N := fun G S σ H x d ev pd dq Q q =>
  h (G.owns S) σ H x d ev.in ev.inv pd dq Q fun σ2 l2 s2 ev2 => q σ2 ⟨ev.ok, ev.inv, by rw [l2, ev.len, hl d pd], fun i s hs => by
    by_cases e : i ∈ vs
    · have hp := hv d pd i e s hs
      rcases ev2.2 i s hs with z | ⟨v, h1, h2⟩
      · exact .inl z
      · exact .inr ⟨v, h1, by cases s <;> first | exact h2 | cases hp⟩
    · rw [hn d pd i e] at hs
      rw [s2 i e]
      exact ev.sl i s hs, fun i j s t a hij hi hj o1 o2 => by
    by_cases e : i ∈ vs
    · have hp := hv d pd i e s hi
      rw [isP_isO hp] at o1; cases o1
    · by_cases e2 : j ∈ vs
      · have hp := hv d pd j e2 t hj
        rw [isP_isO hp] at o2; cases o2
      · rw [hn d pd i e] at hi
        rw [hn d pd j e2] at hj
        rw [s2 i e, s2 j e2]
        exact ev.ne i j s t a hij hi hj o1 o2⟩
end
end L2

set_option Elab.async false
set_option linter.all false
set_option maxRecDepth 100000
set_option maxHeartbeats 4000000
/-! Blocks: targets, loops, what is returned, calls. -/
namespace L2
open PySem PySem.Spec PyProof.Rows
open Evl (Ex)
def gNs : List Nat → TGs
  | [] => gNil
  | j :: js => gCons (gName j) (gNs js)
def setSs : List Sl → List Nat → List Sl → List Sl
  | Γ, j :: js, s :: ss => setSs (Γ.set j s) js ss
  | Γ, _, _ => Γ
theorem setSs_len : ∀ (js : List Nat) (ss Γ : List Sl), (setSs Γ js ss).length = Γ.length
  | [], ss, Γ => by cases ss <;> rfl
  | j :: js, [], Γ => rfl
  | j :: js, s :: ss, Γ => by rw [setSs, setSs_len js ss, List.length_set]
def unT : PyData → List PyData
  | .tuple ds => ds
  | _ => []
section
variable {K : PySem.W.Frag} {G : Fr} {S S' : OS} {H H' : Hp} {σ σ' : L2.St} {Γ Γ' Γ2 : List Sl} {ts tu : TS} {tt : TT} {te tb : TE} {ta : TA} {wi : TI} {g : TG} {M M' B C B' C' : List Sl → Prop} {R R' : Rv → Prop} {P P' : PyData → Prop} {i j : Nat}
/-- a value that no place owns yet -/
def Fresh (σ : L2.St) (Γ : List Sl) (v : V) : Prop := ∀ (q : Nat) (t : Sl), Γ[q]? = some t → isO t = true → σ[q]? ≠ some (some v)
theorem EnvB.setO {v : V} {s : Sl} (h : EnvB K G S H σ Γ) (hi : i < Γ.length) (hv : SlB K G S H v s) (hf : isO s = true → Fresh σ Γ v) : EnvB K G S H (σ.set i (some v)) (Γ.set i s) := ⟨h.ok, h.inv, by rw [List.length_set, List.length_set]; exact h.len, fun j t hj => by
  by_cases e : i = j
  · subst e
    rw [List.getElem?_set_self hi] at hj
    cases hj
    exact .inr ⟨v, List.getElem?_set_self (by rw [h.len]; exact hi), hv⟩
  · rw [List.getElem?_set_ne e] at hj ⊢
    exact h.sl j t hj, fun p q s' t' a hpq hp hq o1 o2 => by
  by_cases e : i = p
  · subst e
    rw [List.getElem?_set_self hi] at hp
    cases hp
    rw [List.getElem?_set_ne hpq] at hq ⊢
    rw [List.getElem?_set_self (by rw [h.len]; exact hi)]
    intro ea eb
    injection ea with ea
    injection ea with ea
    rw [← ea] at eb
    exact hf o1 q t' hq o2 eb
  · by_cases e2 : i = q
    · subst e2
      rw [List.getElem?_set_self hi] at hq
      cases hq
      rw [List.getElem?_set_ne e] at hp ⊢
      rw [List.getElem?_set_self (by rw [h.len]; exact hi)]
      intro eb ea
      injection ea with ea
      injection ea with ea
      rw [← ea] at eb
      exact hf o2 p s' hp o1 eb
    · rw [List.getElem?_set_ne e] at hp ⊢
      rw [List.getElem?_set_ne e2] at hq ⊢
      exact h.ne p q s' t' a hpq hp hq o1 o2⟩
theorem Fresh.set {v w : V} {s : Sl} (h : Fresh σ Γ v) (hi : i < Γ.length) (hl : σ.length = Γ.length) (hn : isO s = true → w ≠ v) : Fresh (σ.set i (some w)) (Γ.set i s) v := fun q t hq ho => by
  by_cases e : i = q
  · subst e
    rw [List.getElem?_set_self hi] at hq
    cases hq
    rw [List.getElem?_set_self (by rw [hl]; exact hi)]
    intro z
    injection z with z
    injection z with z
    exact hn ho z
  · rw [List.getElem?_set_ne e] at hq ⊢
    exact h q t hq ho
theorem gNs_run : ∀ (js : List Nat) (ss : List Sl) (xs : List V) (σ : L2.St) (Γ : List Sl), EnvB K G S H σ Γ → (∀ j ∈ js, j < Γ.length) → js.length = ss.length → ArgsB K G S H xs ss → (∀ (i : Nat) s v, ss[i]? = some s → isO s = true → xs[i]? = some v → Fresh σ Γ v) → ∀ Q : L2.St → Hp → Prop, (∀ σ2, EnvB K G S H σ2 (setSs Γ js ss) → Q σ2 H) → gNs js xs σ H Q
  | [], [], xs, σ, Γ, ev, _, _, a, _, Q, q => by
    have := a.len
    cases xs with
    | nil => exact ⟨rfl, q σ ev⟩
    | cons _ _ => cases this
  | [], s :: ss, xs, σ, Γ, ev, _, hl, a, _, Q, q => nomatch hl
  | j :: js, [], xs, σ, Γ, ev, _, hl, a, _, Q, q => nomatch hl
  | j :: js, s :: ss, xs, σ, Γ, ev, hj, hl, a, hf, Q, q => by
    have al := a.len
    cases xs with
    | nil => cases al
    | cons x xs =>
      refine ⟨x, xs, rfl, ?_⟩
      obtain ⟨v, hv, hs⟩ := a.sl 0 s rfl
      have hv : x = v := Option.some.inj hv
      subst hv
      have hj0 := hj j List.mem_cons_self
      refine gNs_run js ss xs _ (Γ.set j s) (ev.setO hj0 hs fun ho => hf 0 s x rfl ho rfl) (fun k hk => by rw [List.length_set]; exact hj k (List.mem_cons_of_mem _ hk)) (Nat.succ.inj hl) ⟨Nat.succ.inj al, fun i t ht => a.sl (i + 1) t ht, fun i k s1 t1 v1 hik h1 h2 => a.ne (i + 1) (k + 1) s1 t1 v1 (fun z => hik (Nat.succ.inj z)) h1 h2⟩ (fun i t v ht ho hv => ?_) Q q
      refine (hf (i + 1) t v ht ho hv).set hj0 ev.len fun ho2 z => ?_
      subst z
      exact a.ne 0 (i + 1) s t x (by omega) rfl ht ho2 ho rfl hv
theorem argsB_dat : ∀ {vs : List V} {ds : List PyData}, DqAll K ((G.owns S).view H) vs ds → ArgsB K G S H vs (ds.map .dat) := fun {vs ds} h => ⟨by rw [List.length_map]; exact h.length, fun i s hs => by
  rw [List.getElem?_map] at hs
  obtain ⟨d, h1, h2⟩ := Option.map_eq_some_iff.mp hs
  subst h2
  obtain ⟨v, hv, dq⟩ := h.get' h1
  exact ⟨v, hv, dq⟩, fun i j s t v hij h1 h2 o1 => by
  rw [List.getElem?_map] at h1
  obtain ⟨d, _, e⟩ := Option.map_eq_some_iff.mp h1
  subst e
  cases o1⟩
theorem tgb_name (hj : j < Γ.length) : TgB K (gName j) Γ P (fun d => Γ.set j (.dat d)) := fun G S σ H x d ev pd dq Q q => q _ (ev.set (s := .dat d) hj rfl dq)
theorem tgb_tup {n : Nat} (js : List Nat) (hj : ∀ j ∈ js, j < Γ.length) (hn : n = js.length := by rfl) : TgB K (gTup K n (gNs js)) Γ (fun d => ∃ ds : List PyData, d = .tuple ds ∧ ds.length = n) (fun d => setSs Γ js ((unT d).map .dat)) := fun G S σ H x d ev ⟨ds, e, hl⟩ dq Q q => by
  subst e
  cases dq with
  | tup hs ha => exact ⟨_, _, rfl, Fr.upT hs, ha.length.trans hl, gNs_run js _ _ σ Γ ev hj (by show js.length = (ds.map Sl.dat).length; rw [List.length_map, hl, hn]) (argsB_dat ha) (fun i s v h1 o1 => by
      have h1 : (ds.map Sl.dat)[i]? = some s := h1
      rw [List.getElem?_map] at h1
      obtain ⟨d, _, e⟩ := Option.map_eq_some_iff.mp h1
      subst e
      cases o1) Q q⟩
theorem TgB.impP {N : PyData → List Sl} (h : TgB K g Γ P N) (hp : ∀ d, P' d → P d) : TgB K g Γ P' N := fun G S σ H x d ev pd => h G S σ H x d ev (hp d pd)
theorem b_asg1 {N : PyData → List Sl} (h : EvD K te Γ P) (hg : TgB K g Γ P N) (hm : ∀ d, P d → M (N d)) : Bk K (tAsg te g) Γ M R B C := fun G S σ H D ev k1 k2 k3 k4 =>
  h (G.owns S) σ H ev.in ev.inv _ fun v d H1 i1 l1 p1 dq => hg G S σ H1 v d (ev.le1 i1 l1) p1 dq _ fun σ2 ev2 => k1 σ2 H1 S _ l1 ev2 (hm d p1)
theorem b_asg {N : PyData → List Sl} (h : EvD K te Γ P) (hg : TgB K g Γ P N) (h2 : ∀ d, P d → Bk K tu (N d) M R B C) : Bk K (tSeq (tAsg te g) tu) Γ M R B C := b_seq (M' := fun Γ' => ∃ d, P d ∧ Γ' = N d) (b_asg1 h hg fun d p => ⟨d, p, rfl⟩) fun Γ' ⟨d, p, e⟩ => by rw [e]; exact h2 d p
theorem b_asgR1 {N : PyData → List Sl} (h : EvD K te (rel Γ) P) (hn : ∀ d, P d → noL d = true) (hg : TgB K g Γ P N) (hm : ∀ d, P d → M (N d)) : Bk K (tAsg te g) Γ M R B C := fun G S σ H D ev k1 k2 k3 k4 =>
  h G σ H ev.out ev.inv.1 _ fun v d H1 i1 l1 p1 dq => hg G S σ H1 v d (ev.le0 i1 l1) p1 (dq.hideS ev.ok (inv_rel ev.inv i1 l1) (hn d p1)) _ fun σ2 ev2 => k1 σ2 H1 S _ (le_rel ev.inv l1) ev2 (hm d p1)
/-! ### loops -/
theorem b_forP {I : Nat → List Sl → Prop} {Nn : Nat → Prop} {Pi : Nat → PyData → Prop} {N : Nat → List Sl → PyData → List Sl} (hi : EvI0 K wi Γ Nn Pi) (h0 : I 0 Γ) (hg : ∀ n i Γ', Nn n → i < n → I i Γ' → TgB K g Γ' (Pi i) (N i Γ'))
    (hb : ∀ n i Γ' d, Nn n → i < n → I i Γ' → Pi i d → Bk K tu (N i Γ' d) (fun Γ2 => ∃ Γ3, W Γ2 Γ3 ∧ I (i + 1) Γ3) R M (fun Γ2 => ∃ Γ3, W Γ2 Γ3 ∧ I (i + 1) Γ3)) (hn : ∀ n Γ', Nn n → I n Γ' → M Γ') : Bk K (tFor wi g tu) Γ M R B C := fun G S σ H D ev k1 k2 k3 k4 => by
  refine hi (G.owns S) σ H ev.in ev.inv _ fun n' J H1 e1 iv1 l1 w => ?_
  let Iv : Nat → L2.St → Hp → Prop := fun i σ' H' => ∃ S' Γ', Ex ((G.owns S).view H1) ((G.owns S').view H') ∧ EnvB K G S' H' σ' Γ' ∧ I i Γ'
  refine ⟨fun i c σ' H' => c = n' - i ∧ i ≤ n' ∧ Iv i σ' H', ⟨n', by simp, Nat.zero_le _, S, Γ, fun _ _ h => h, ev.le1 iv1 l1, h0⟩, ?_⟩
  rintro i c σ2 H2 ⟨rfl, hle, S2, Γ2, e2, ev2, ii⟩
  have w2 := w (G.owns S2) H2 e2 ev2.inv
  by_cases hlt : i < n'
  · refine .inr ⟨(w2.1 i hlt).1, fun σ' H' => i + 1 ≤ n' ∧ Iv (i + 1) σ' H', fun σ' H' h' => ⟨n' - (i + 1), by omega, rfl, h'⟩, fun x H3 hy => ?_⟩
    obtain ⟨iv3, l3, d, pd, dq⟩ := (w2.1 i hlt).2 x H3 hy
    refine hg n' i Γ2 e1 hlt ii G S2 σ2 H3 x d (ev2.le1 iv3 l3) pd dq _ fun σ3 ev3 => ?_
    have en : Ex ((G.owns S).view H1) ((G.owns S2).view H3) := L2.ext e2 l3
    have go : ∀ σ' H' S' Γ', Ex ((G.owns S2).view H3) ((G.owns S').view H') → EnvB K G S' H' σ' Γ' → (∃ Γ3, W Γ' Γ3 ∧ I (i + 1) Γ3) → i + 1 ≤ n' ∧ Iv (i + 1) σ' H' := fun σ' H' S' Γ' e' ev' ⟨Γ3, w3, i3⟩ => ⟨hlt, S', Γ3, L2.ext en e', ev'.weak w3, i3⟩
    exact hb n' i Γ2 d e1 hlt ii pd G S2 σ3 H3 _ ev3 go (fun v r H' S' e' => k2 v r H' S' (L2.ext l1 (L2.ext en e'))) (fun σ' H' S' Γ' e' ev' m => k1 σ' H' S' Γ' (L2.ext l1 (L2.ext en e')) ev' m) go
  · obtain rfl : i = n' := by omega
    exact .inl ⟨w2.2, k1 σ2 H2 S2 Γ2 (L2.ext l1 e2) ev2 (hn _ Γ2 e1 ii)⟩
theorem b_for {I : Nat → List Sl → Prop} {n : Nat} {Pi : Nat → PyData → Prop} {N : Nat → List Sl → PyData → List Sl} (hi : EvI0 K wi Γ (· = n) Pi) (h0 : I 0 Γ) (hg : ∀ i Γ', i < n → I i Γ' → TgB K g Γ' (Pi i) (N i Γ'))
    (hb : ∀ i Γ' d, i < n → I i Γ' → Pi i d → Bk K tu (N i Γ' d) (fun Γ2 => ∃ Γ3, W Γ2 Γ3 ∧ I (i + 1) Γ3) R M (fun Γ2 => ∃ Γ3, W Γ2 Γ3 ∧ I (i + 1) Γ3)) (hn : ∀ Γ', I n Γ' → M Γ') : Bk K (tFor wi g tu) Γ M R B C :=
  b_forP hi h0 (fun m i Γ' e => by subst e; exact hg i Γ') (fun m i Γ' d e => by subst e; exact hb i Γ' d) fun m Γ' e => by subst e; exact hn Γ'
/-- what a loop over whole numbers walks: it looks at nothing -/
def WalkN (J : It) (n : Nat) (f : Nat → Int) : Prop := ∀ H : Hp, (∀ i, i < n → J.go i H ∧ ∀ x H', J.yld i H x H' → H' = H ∧ x = V.int (f i)) ∧ J.stop n H
def EvR (K : PySem.W.Frag) (wi : TI) (Γ : List Sl) (n : Nat) (f : Nat → Int) : Prop := ∀ (G : Fr) (σ : L2.St) (H : Hp), EnvOk K G H σ Γ → G.inv H → ∀ R : It → Hp → Prop, (∀ J H', G.inv H' → G.le H H' → WalkN J n f → R J H') → wi σ H R
theorem er_range1 {n : Nat} (hn : n < 2 ^ 62) (h : EvL' K ta Γ (· = [.int n])) : EvR K (iRng1 ta) Γ n fun i => (i : Nat) := fun G σ H ev iv R q =>
  h G σ H ev iv _ fun vs ss H1 iv1 l1 ⟨zs, e1, e2⟩ dqs => by
    subst e2; subst e1
    have dqs := args_dats dqs
    cases dqs with
    | cons h1 t1 =>
      cases t1
      cases h1
      refine ⟨n, rfl, by omega, by omega, q _ H1 iv1 l1 ?_⟩
      rw [Int.toNat_natCast]
      exact fun H2 => ⟨fun i hi => ⟨hi, fun x H3 ⟨e3, ex⟩ => ⟨e3, by rw [ex]; exact congrArg V.int (Int.zero_add _)⟩⟩, Nat.le_refl _⟩
theorem er_range2 {a b : Int} (h : EvL' K ta Γ (· = [.int a, .int b])) (ha : -(2 ^ 62) ≤ a) (ha' : a < 2 ^ 62) (hb : -(2 ^ 62) ≤ b) (hb' : b < 2 ^ 62) : EvR K (iRng2 ta) Γ (b - a).toNat fun i => a + (i : Nat) := fun G σ H ev iv R q =>
  h G σ H ev iv _ fun vs ss H1 iv1 l1 ⟨zs, e1, e2⟩ dqs => by
    subst e2; subst e1
    have dqs := args_dats dqs
    cases dqs with
    | cons h1 t1 =>
      cases t1 with
      | cons h2 t2 =>
        cases t2
        cases h1; cases h2
        exact ⟨a, b, rfl, ⟨ha, ha', hb, hb'⟩, q _ H1 iv1 l1 fun H2 => ⟨fun i hi => ⟨hi, fun x H3 ⟨e3, ex⟩ => ⟨e3, ex⟩⟩, Nat.le_refl _⟩⟩
/-- range(a, b, -1) -/
theorem er_down {a b : Int} (h : EvL' K ta Γ (· = [.int a, .int b, .int (-1)])) (ha : -(2 ^ 62) ≤ a) (ha' : a < 2 ^ 62) (hb : -(2 ^ 62) ≤ b) (hb' : b < 2 ^ 62) : EvR K (iRng3 ta) Γ (a - b).toNat fun i => a - (i : Nat) := fun G σ H ev iv R q =>
  h G σ H ev iv _ fun vs ss H1 iv1 l1 ⟨zs, e1, e2⟩ dqs => by
    subst e2; subst e1
    have dqs := args_dats dqs
    cases dqs with
    | cons h1 t1 =>
      cases t1 with
      | cons h2 t2 =>
        cases t2 with
        | cons h3 t3 =>
          cases t3
          cases h1; cases h2; cases h3
          refine ⟨a, b, -1, (a - b).toNat, rfl, RgC.neg ha ha' hb hb', q _ H1 iv1 l1 fun H2 => ⟨fun i hi => ⟨hi, fun x H3 ⟨e3, ex⟩ => ⟨e3, ?_⟩⟩, Nat.le_refl _⟩⟩
          rw [ex]
          exact congrArg V.int (by show a + (i : Nat) * (-1) = a - (i : Nat); omega)
theorem b_forN {I : Nat → List Sl → Prop} {n : Nat} {f : Nat → Int} {N : Nat → List Sl → PyData → List Sl} (hi : EvR K wi (rel Γ) n f) (h0 : I 0 Γ) (hg : ∀ i Γ', i < n → I i Γ' → TgB K g Γ' (· = .int (f i)) (N i Γ'))
    (hb : ∀ i Γ', i < n → I i Γ' → Bk K tu (N i Γ' (.int (f i))) (fun Γ2 => ∃ Γ3, W Γ2 Γ3 ∧ I (i + 1) Γ3) R M (fun Γ2 => ∃ Γ3, W Γ2 Γ3 ∧ I (i + 1) Γ3)) (hn : ∀ Γ', I n Γ' → M Γ') : Bk K (tFor wi g tu) Γ M R B C := fun G S σ H D ev k1 k2 k3 k4 => by
  refine hi G σ H ev.out ev.inv.1 _ fun J H1 iv1 l1 w => ?_
  have l1' := le_rel ev.inv l1
  let Iv : Nat → L2.St → Hp → Prop := fun i σ' H' => ∃ S' Γ', Ex ((G.owns S).view H1) ((G.owns S').view H') ∧ EnvB K G S' H' σ' Γ' ∧ I i Γ'
  refine ⟨fun i c σ' H' => c = n - i ∧ i ≤ n ∧ Iv i σ' H', ⟨n, by simp, Nat.zero_le _, S, Γ, fun _ _ h => h, ev.le0 iv1 l1, h0⟩, ?_⟩
  rintro i c σ2 H2 ⟨rfl, hle, S2, Γ2, e2, ev2, ii⟩
  have w2 := w H2
  by_cases hlt : i < n
  · refine .inr ⟨(w2.1 i hlt).1, fun σ' H' => i + 1 ≤ n ∧ Iv (i + 1) σ' H', fun σ' H' h' => ⟨n - (i + 1), by omega, rfl, h'⟩, fun x H3 hy => ?_⟩
    obtain ⟨e3, ex⟩ := (w2.1 i hlt).2 x H3 hy
    subst e3; subst ex
    refine hg i Γ2 hlt ii G S2 σ2 H3 _ _ ev2 rfl (.int _) _ fun σ3 ev3 => ?_
    have go : ∀ σ' H' S' Γ', Ex ((G.owns S2).view H3) ((G.owns S').view H') → EnvB K G S' H' σ' Γ' → (∃ Γ3, W Γ' Γ3 ∧ I (i + 1) Γ3) → i + 1 ≤ n ∧ Iv (i + 1) σ' H' := fun σ' H' S' Γ' e' ev' ⟨Γ3, w3, i3⟩ => ⟨hlt, S', Γ3, L2.ext e2 e', ev'.weak w3, i3⟩
    exact hb i Γ2 hlt ii G S2 σ3 H3 _ ev3 go (fun v r H' S' e' => k2 v r H' S' (L2.ext l1' (L2.ext e2 e'))) (fun σ' H' S' Γ' e' ev' m => k1 σ' H' S' Γ' (L2.ext l1' (L2.ext e2 e')) ev' m) go
  · obtain rfl : i = n := by omega
    exact .inl ⟨w2.2, k1 σ2 H2 S2 Γ2 (L2.ext l1' e2) ev2 (hn Γ2 ii)⟩
/-! ### what is returned -/
theorem b_ret (h : EvD K te Γ P) (hr : ∀ d, P d → R (.one (.dat d))) : Bk K (tRet te) Γ M R B C := fun G S σ H D ev k1 k2 k3 k4 =>
  h (G.owns S) σ H ev.in ev.inv _ fun v d H1 i1 l1 p1 dq => k2 v (.one (.dat d)) H1 S l1 ev.ok i1 (hr d p1) dq
theorem OS.nil_ok : OS.nil.ok := fun b o e => nomatch e
/-- all that is owned may be read, and handed on -/
theorem b_retR (h : EvD K te (rel Γ) P) (hr : ∀ d, P d → R (.one (.dat d))) : Bk K (tRet te) Γ M R B C := fun G S σ H D ev k1 k2 k3 k4 =>
  h G σ H ev.out ev.inv.1 _ fun v d H1 i1 l1 p1 dq => k2 v (.one (.dat d)) H1 OS.nil (by rw [owns_nil]; exact L2.ext owns_sub l1) OS.nil_ok (by rw [owns_nil]; exact i1) (hr d p1) (by show Dq K ((G.owns OS.nil).view H1) v d; rw [owns_nil]; exact dq)
theorem b_retO {ds : List PyData} (hj : Γ[j]? = some (.olst ds)) (hr : R (.one (.olst ds))) : Bk K (tRet (tVar j)) Γ M R B C := fun G S σ H D ev k1 k2 k3 k4 => by
  rcases ev.sl j _ hj with z | ⟨v, hv, q⟩
  · cases z
  exact ⟨v, hv, k2 v (.one (.olst ds)) H S (fun _ _ h => h) ev.ok ev.inv hr q⟩
theorem b_retN {PN : List PyData → Prop} (h : EvN K te Γ PN) (hr : ∀ ds, PN ds → R (.one (.olst ds))) : Bk K (tRet te) Γ M R B C := fun G S σ H D ev k1 k2 k3 k4 =>
  h (G.owns S) σ H ev.in ev.inv _ fun l vs ds H1 i1 l1 p1 dq => by
    have hl : S l = none := by
      cases e : S l with
      | none => rfl
      | some o =>
        have z : hideS (G.view H1) S l = some (.lst vs) := i1.2
        unfold L2.hideS at z
        rw [e] at z; cases z
    rw [owns_own hl] at i1 l1 dq
    exact k2 _ (.one (.olst ds)) H1 _ l1 (ev.ok.put rfl) i1 (hr ds p1) ⟨l, vs, rfl, OS.put_same, dq⟩
/-- values for a tuple: places that own what they hold, and data -/
def EvA (K : PySem.W.Frag) (ta : TA) (Γ : List Sl) (js : List Nat) (P : List Sl → Prop) : Prop := ∀ (G : Fr) (S : OS) (σ : L2.St) (H : Hp), EnvB K G S H σ Γ → ∀ Q : List V → Hp → Prop, (∀ vs ss H', (G.owns S).inv H' → (G.owns S).le H H' → P ss → ArgsB K G S H' vs ss → (∀ (i : Nat) s v, ss[i]? = some s → isO s = true → vs[i]? = some v → ∃ j ∈ js, σ[j]? = some (some v) ∧ ∃ t, Γ[j]? = some t ∧ isO t = true) → Q vs H') → ta σ H Q
theorem ea_nil : EvA K tNil Γ [] (· = []) := fun G S σ H ev Q q => q [] [] H ev.inv .refl rfl ⟨rfl, fun i s h => by simp at h, fun i j s t v _ h => by simp at h⟩ (fun i s v h => by simp at h)
theorem ea_dat {js : List Nat} {PS : List Sl → Prop} (h : EvD K te Γ P) (t : EvA K ta Γ js PS) : EvA K (tCons te ta) Γ js (fun ss => ∃ d r, ss = .dat d :: r ∧ P d ∧ PS r) := fun G S σ H ev Q q =>
  h (G.owns S) σ H ev.in ev.inv _ fun v d H1 i1 l1 p1 dq => t G S σ H1 (ev.le1 i1 l1) _ fun vs ss H2 i2 l2 p2 a own => by
    refine q (v :: vs) (.dat d :: ss) H2 i2 (l1.trans l2) ⟨d, ss, rfl, p1, p2⟩ ⟨congrArg (· + 1) a.len, fun i s hs => ?_, fun i j s t w hij h1 h2 o1 o2 => ?_⟩ fun i s w h1 o1 => ?_
    · cases i with
      | zero => simp at hs; subst hs; exact ⟨v, rfl, dq.ex l2⟩
      | succ i => exact a.sl i s (by simpa using hs)
    · cases i with
      | zero => simp at h1; subst h1; cases o1
      | succ i =>
        cases j with
        | zero => simp at h2; subst h2; cases o2
        | succ j => simpa using a.ne i j s t w (fun z => hij (congrArg (· + 1) z)) (by simpa using h1) (by simpa using h2) o1 o2
    · cases i with
      | zero => simp at h1; subst h1; cases o1
      | succ i => simpa using own i s w (by simpa using h1) o1
theorem ea_own {js : List Nat} {s0 : Sl} {PS : List Sl → Prop} (hj : Γ[j]? = some s0) (ho : isO s0 = true) (hn : j ∉ js) (t : EvA K ta Γ js PS) : EvA K (tCons (tVar j) ta) Γ (j :: js) (fun ss => ∃ r, ss = s0 :: r ∧ PS r) := fun G S σ H ev Q q => by
  rcases ev.sl j _ hj with z | ⟨v, hv, sv⟩
  · subst z; cases ho
  refine ⟨v, hv, t G S σ H ev _ fun vs ss H2 i2 l2 p2 a own => ?_⟩
  have vr : ∃ b, v = .ref b := by
    cases s0 with
    | olst ds => obtain ⟨b, _, e, _⟩ := sv; exact ⟨b, e⟩
    | odic m => obtain ⟨b, _, e, _⟩ := sv; exact ⟨b, e⟩
    | any => cases ho
    | dat d => cases ho
    | well => cases ho
    | fdic m => cases ho
    | ins C fs => cases ho
    | sem p => cases ho
    | frm p => cases ho
  obtain ⟨b, rfl⟩ := vr
  have key : ∀ (i : Nat) s, ss[i]? = some s → isO s = true → vs[i]? = some (.ref b) → False := fun i s h1 o1 h2 => by
    obtain ⟨k, hk, hk2, t1, ht1, ot1⟩ := own i s _ h1 o1 h2
    exact ev.ne j k s0 t1 b (fun z => hn (z ▸ hk)) hj ht1 ho ot1 hv hk2
  refine q (.ref b :: vs) (s0 :: ss) H2 i2 l2 ⟨ss, rfl, p2⟩ ⟨congrArg (· + 1) a.len, fun i s hs => ?_, fun i k s t w hik h1 h2 o1 o2 => ?_⟩ fun i s w h1 o1 => ?_
  · cases i with
    | zero => simp at hs; subst hs; exact ⟨_, rfl, sv.ex l2⟩
    | succ i => exact a.sl i s (by simpa using hs)
  · cases i with
    | zero =>
      cases k with
      | zero => exact absurd rfl hik
      | succ k =>
        simp only [List.getElem?_cons_zero, List.getElem?_cons_succ] at *
        intro e1 e2
        cases e1
        exact key k t h2 o2 e2
    | succ i =>
      cases k with
      | zero =>
        simp only [List.getElem?_cons_zero, List.getElem?_cons_succ] at *
        intro e1 e2
        cases e2
        exact key i s h1 o1 e1
      | succ k => simpa using a.ne i k s t w (fun z => hik (congrArg (· + 1) z)) (by simpa using h1) (by simpa using h2) o1 o2
  · cases i with
    | zero =>
      simp only [List.getElem?_cons_zero] at *
      intro e1
      cases e1
      exact ⟨j, List.mem_cons_self, hv, s0, hj, ho⟩
    | succ i =>
      intro e1
      obtain ⟨k, hk, r⟩ := own i s w (by simpa using h1) o1 (by simpa using e1)
      exact ⟨k, List.mem_cons_of_mem _ hk, r⟩
/-- return (a, b, ..) -/
theorem b_retT {js : List Nat} {PS : List Sl → Prop} (h : EvA K ta Γ js PS) (hl : ∀ ss, PS ss → ss.length ≤ 1000) (hr : ∀ ss, PS ss → R (.tup ss)) : Bk K (tRet (tTup ta)) Γ M R B C := fun G S σ H D ev k1 k2 k3 k4 =>
  h G S σ H ev _ fun vs ss H1 i1 l1 p1 a _ => ⟨by rw [a.len, sizeLine_eq]; have := hl ss p1; omega, fun p hp => by
    obtain ⟨i2, l2, v2⟩ := Fr.new (G := G.owns S) (o := HO.tup vs) i1 hp
    exact k2 _ (.tup ss) _ S (L2.ext l1 l2) ev.ok i2 (hr ss p1) ⟨p, vs, rfl, .inl (.inl v2), ⟨a.len, fun i s hs => (a.sl i s hs).imp fun v ⟨e, z⟩ => ⟨e, z.ex l2⟩, a.ne⟩⟩⟩
/-! ### promises and calls -/
def spB (K : PySem.W.Frag) {γ : Type} (pre : γ → List Sl → Prop) (post : γ → Rv → Prop) : Sp := fun vs H Q _ => ∃ (G : Fr) (ss : List Sl) (c : γ), G.inv H ∧ ArgsOk K G H vs ss ∧ pre c ss ∧ ∀ v r H' S', S'.ok → (G.owns S').inv H' → Ex (G.view H) ((G.owns S').view H') → post c r → RvOk K G S' H' v r → Q v H'
def isA : Sl → Bool
  | .any => true
  | .dat _ => true
  | .well => true
  | .ins _ _ => true
  | .sem _ => true
  | .frm _ => true
  | _ => false
theorem isA_isO {s : Sl} (h : isA s = true) : isO s = false := by
  cases s <;> first | rfl | cases h
theorem envStartB {vs : List V} {ss : List Sl} (n : Nat) (ha : ss.all isA = true) (iv : G.inv H) (a : ArgsOk K G H vs ss) : EnvB K G OS.nil H (vs.map some ++ List.replicate n none) (ss ++ List.replicate n .any) := by
  have e := envOk_of n a
  have hA : ∀ (i : Nat) s, (ss ++ List.replicate n Sl.any)[i]? = some s → isA s = true := fun i s hs => by
    rcases List.mem_append.mp (List.mem_of_getElem? hs) with m | m
    · exact List.all_eq_true.mp ha s m
    · rw [List.eq_of_mem_replicate m]; rfl
  have sl : ∀ (i : Nat) s, (ss ++ List.replicate n Sl.any)[i]? = some s → s = .any ∨ ∃ v, (vs.map some ++ List.replicate n none)[i]? = some (some v) ∧ SlB K G OS.nil H v s := fun i s hs => by
    rcases e.2 i s hs with z | ⟨v, hv, q⟩
    · exact .inl z
    have hs' := hA i s hs
    refine .inr ⟨v, hv, ?_⟩
    cases s with
    | any => trivial
    | dat d => show Dq K ((G.owns OS.nil).view H) v d; rw [owns_nil]; exact q
    | well => exact q
    | ins C fs => show ∃ a dx vs, v = .ref a ∧ (G.owns OS.nil).view H a = some (.ins C dx vs) ∧ DqFs K ((G.owns OS.nil).view H) vs fs; rw [owns_nil]; exact q
    | sem p => show ∀ H', Ex ((G.owns OS.nil).view H) H' → p H' v; rw [owns_nil]; exact q
    | frm p => show ∀ G' H', SubF G G' → Ex ((G.owns OS.nil).view H) (G'.view H') → p G' H' v; rw [owns_nil]; exact q
    | odic m => cases hs'
    | fdic m => cases hs'
    | olst m => cases hs'
  exact ⟨OS.nil_ok, by rw [owns_nil]; exact iv, e.1, sl, fun i j s t b _ hi _ o1 => by
    rw [isA_isO (hA i s hi)] at o1; cases o1⟩
/-- a def's body -/
theorem doneB {vs : List V} {ss : List Sl} {D : Ends} {N : List Str} (n : Nat) (hs : L2.start N vs = vs.map some ++ List.replicate n none) (ha : ss.all isA = true) (h : Bk K ts (ss ++ List.replicate n .any) NoB R NoB NoB) (iv : G.inv H) (a : ArgsOk K G H vs ss)
    (k : ∀ v r H' S', S'.ok → (G.owns S').inv H' → Ex (G.view H) ((G.owns S').view H') → R r → RvOk K G S' H' v r → D.rt v H') : ts D (L2.start N vs) H := by
  rw [hs]
  exact h G OS.nil _ H D (envStartB n ha iv a) (fun _ _ _ _ _ _ m => m.elim) (fun v r H' S' e o i' r' q => k v r H' S' o i' (by rw [owns_nil] at e; exact e) r' q) (fun _ _ _ _ _ _ m => m.elim) (fun _ _ _ _ _ _ m => m.elim)
/-- a def that returns data -/
def RD (P : PyData → Prop) : Rv → Prop := fun r => ∃ d, r = .one (.dat d) ∧ P d
theorem doneBD {vs : List V} {ss : List Sl} {D : Ends} {N : List Str} (n : Nat) (hs : L2.start N vs = vs.map some ++ List.replicate n none) (ha : ss.all isA = true) (h : Bk K ts (ss ++ List.replicate n .any) NoB (RD P) NoB NoB) (iv : G.inv H) (a : ArgsOk K G H vs ss)
    (k : ∀ v d H', G.inv H' → G.le H H' → P d → Dq K (G.view H') v d → D.rt v H') : ts D (L2.start N vs) H := doneB n hs ha h iv a fun v r H' S' o i' e ⟨d, e2, p⟩ q => by
  subst e2
  exact k v d H' i'.1 (L2.ext e owns_sub) p (Dq.ex owns_sub q)
/-- an expression that answers something of its own -/
def EvO2 (K : PySem.W.Frag) (te : TE) (Γ : List Sl) (PR : Rv → Prop) : Prop := ∀ (G : Fr) (σ : L2.St) (H : Hp), EnvOk K G H σ Γ → G.inv H → ∀ Q : VK, (∀ v r H' S', S'.ok → (G.owns S').inv H' → Ex (G.view H) ((G.owns S').view H') → PR r → RvOk K G S' H' v r → Q v H') → te σ H Q
theorem ev_callB {γ : Type} {pre : γ → List Sl → Prop} {post : γ → Rv → Prop} {PS : List Sl → Prop} {E : XK} (c : γ) (h : EvS K ta Γ PS) (hp : ∀ ss, PS ss → pre c ss) : EvO2 K (tCall (spB K pre post) [] E ta) Γ (post c) := fun G σ H e i Q q =>
  h G σ H e i _ fun vs ss H1 i1 l1 p1 as => by
    rw [List.append_nil]
    exact ⟨G, ss, c, i1, as, hp ss p1, fun v r H' S' o i' l' p' z => q v r H' S' o i' (L2.ext l1 l') p' z⟩
/-- all that comes back is data: then it is an expression like any other -/
theorem ev_callBD {γ : Type} {pre : γ → List Sl → Prop} {post : γ → Rv → Prop} {PS : List Sl → Prop} {E : XK} (c : γ) (h : EvS K ta Γ PS) (hp : ∀ ss, PS ss → pre c ss) (hd : ∀ r, post c r → ∃ ds, r = .one (.olst ds) ∧ P (.list ds)) : EvD K (tCall (spB K pre post) [] E ta) Γ P := fun G σ H e i Q q =>
  ev_callB c h hp G σ H e i Q fun v r H' S' o i' l' p' z => by
    obtain ⟨ds, e1, p⟩ := hd r p'
    subst e1
    obtain ⟨a, vs, e2, e3, e4⟩ := z
    subst e2
    exact q _ _ H' i'.1 (L2.ext l' owns_sub) p (.lst (.inl (.inl (i'.2 _ _ e3))) (e4.ex owns_sub))
end
end L2

set_option Elab.async false
set_option linter.all false
set_option maxRecDepth 100000
set_option maxHeartbeats 4000000
/-! Blocks: several new things at once. -/
namespace L2
open PySem PySem.Spec PyProof.Rows
open Evl (Ex)
def OS.un (S S2 : OS) : OS := fun b => match S b with
  | some o => some o
  | none => S2 b
theorem OS.un_none {S S2 : OS} {b : Addr} (h : S b = none) : S.un S2 b = S2 b := by unfold OS.un; rw [h]
theorem OS.un_some {S S2 : OS} {b : Addr} {o : HO} (h : S b = some o) : S.un S2 b = some o := by unfold OS.un; rw [h]
theorem OS.ok.un {S S2 : OS} (h : S.ok) (h2 : S2.ok) : (S.un S2).ok := fun b o hb => by
  cases e : S b with
  | some u => rw [OS.un_some e] at hb; cases hb; exact h b _ e
  | none => rw [OS.un_none e] at hb; exact h2 b o hb
theorem owns_un {G : Fr} {S S2 : OS} (hd : ∀ b o, S2 b = some o → S b = none) : (G.owns S).owns S2 = G.owns (S.un S2) := by
  refine Fr.eq (funext fun H => funext fun b => ?_) (funext fun H => propext ⟨fun ⟨⟨i, h⟩, e⟩ => ⟨i, fun b u hb => ?_⟩, fun ⟨i, h⟩ => ⟨⟨i, fun b u hb => h b u (OS.un_some hb)⟩, fun b u hb => ?_⟩⟩)
  · show hideS (hideS (G.view H) S) S2 b = hideS (G.view H) (S.un S2) b
    unfold hideS
    cases e : S b with
    | some u => rw [OS.un_some e]; simp
    | none => rw [OS.un_none e]; cases S2 b <;> rfl
  · cases e2 : S b with
    | some o => rw [OS.un_some e2] at hb; cases hb; exact h b _ e2
    | none => rw [OS.un_none e2] at hb; exact (hideS_some (e b u hb)).2
  · show hideS (G.view H) S b = some u
    rw [hideS_none (hd b u hb)]
    exact h b u (by rw [OS.un_none (hd b u hb)]; exact hb)
theorem disj_of {G : Fr} {S S2 : OS} {H : Hp} (i : ((G.owns S).owns S2).inv H) : ∀ b o, S2 b = some o → S b = none := fun b o hb => (hideS_some (i.2 b o hb)).1
/-- what may come back from a call -/
def okR : Sl → Bool
  | .any => true
  | .dat _ => true
  | .ins _ _ => true
  | .sem _ => true
  | .olst _ => true
  | .odic _ => true
  | _ => false
section
variable {K : PySem.W.Frag} {G : Fr} {S S' S2 : OS} {H H' : Hp} {σ σ' : L2.St} {Γ Γ' Γ2 : List Sl} {ts tu : TS} {tt : TT} {te tb : TE} {ta : TA} {wi : TI} {g : TG} {M M' B C B' C' : List Sl → Prop} {R R' : Rv → Prop} {P P' : PyData → Prop} {i j : Nat}
theorem SlB.lift {v : V} {s : Sl} (h : SlB K (G.owns S) S2 H v s) (hr : okR s = true) (hd : ∀ b o, S2 b = some o → S b = none) : SlB K G (S.un S2) H v s := by
  have e := owns_un (G := G) hd
  cases s with
  | any => trivial
  | dat d => show Dq K _ v d; rw [← e]; exact h
  | well => cases hr
  | odic m => obtain ⟨a, k, e1, e2, e3⟩ := h; exact ⟨a, k, e1, by rw [OS.un_none (hd _ _ e2)]; exact e2, by rw [← e]; exact e3⟩
  | fdic m => exact h
  | ins C fs => obtain ⟨a, dx, vs, e1, e2, e3⟩ := h; exact ⟨a, dx, vs, e1, by rw [← e]; exact e2, by rw [← e]; exact e3⟩
  | sem p => show ∀ H', _ → p H' v; rw [← e]; exact h
  | frm p => cases hr
  | olst ds => obtain ⟨a, vs, e1, e2, e3⟩ := h; exact ⟨a, vs, e1, by rw [OS.un_none (hd _ _ e2)]; exact e2, by rw [← e]; exact e3⟩
theorem SlB.un {v : V} {s : Sl} (h : SlB K G S H v s) (e : Ex ((G.owns S).view H) ((G.owns (S.un S2)).view H')) : SlB K G (S.un S2) H' v s := by
  cases s with
  | any => trivial
  | dat d => exact Dq.ex e h
  | well => exact h
  | odic m => obtain ⟨a, k, e1, e2, e3⟩ := h; exact ⟨a, k, e1, OS.un_some e2, e3.ex e⟩
  | fdic m => exact h
  | ins C fs => obtain ⟨a, dx, vs, e1, e2, e3⟩ := h; exact ⟨a, dx, vs, e1, e _ _ e2, e3.ex e⟩
  | sem p => exact fun H2 e2 => h H2 fun b o hb => e2 b o (e b o hb)
  | frm p => exact fun G2 H2 s2 e2 => h G2 H2 s2 fun b o hb => e2 b o (e b o hb)
  | olst ds => obtain ⟨a, vs, e1, e2, e3⟩ := h; exact ⟨a, vs, e1, OS.un_some e2, e3.ex e⟩
theorem EnvB.grow (h : EnvB K G S H σ Γ) (o2 : S2.ok) (i : ((G.owns S).owns S2).inv H') (e : Ex ((G.owns S).view H) (((G.owns S).owns S2).view H')) : EnvB K G (S.un S2) H' σ Γ ∧ Ex ((G.owns S).view H) ((G.owns (S.un S2)).view H') := by
  have hd := disj_of i
  rw [owns_un hd] at i e
  exact ⟨⟨h.ok.un o2, i, h.len, fun i s hs => (h.sl i s hs).imp id fun ⟨v, hv, q⟩ => ⟨v, hv, q.un e⟩, h.ne⟩, e⟩
theorem owned_ref {v : V} {s : Sl} (h : SlB K G S H v s) (ho : isO s = true) : ∃ a o, v = .ref a ∧ S a = some o := by
  cases s with
  | olst ds => obtain ⟨a, vs, e, e2, _⟩ := h; exact ⟨a, _, e, e2⟩
  | odic m => obtain ⟨a, kvs, e, e2, _⟩ := h; exact ⟨a, _, e, e2⟩
  | any => cases ho
  | dat d => cases ho
  | well => cases ho
  | fdic m => cases ho
  | ins C fs => cases ho
  | sem p => cases ho
  | frm p => cases ho
theorem EnvB.fresh (h : EnvB K G S H σ Γ) {a : Addr} (ha : S a = none) : Fresh σ Γ (.ref a) := fun q t hq ho hv => by
  rcases h.sl q t hq with z | ⟨v, h1, h2⟩
  · subst z; cases ho
  · obtain ⟨b, o, e1, e2⟩ := owned_ref h2 ho
    rw [hv] at h1
    cases h1
    cases e1
    rw [ha] at e2; cases e2
/-- name = something of its own -/
theorem b_setO1 {PR : Rv → Prop} (hi : i < Γ.length) (h : EvO2 K te Γ PR) (hm : ∀ r, PR r → ∃ s, r = .one s ∧ okR s = true ∧ M (Γ.set i s)) : Bk K (tAsg te (gName i)) Γ M R B C := fun G S σ H D ev k1 k2 k3 k4 =>
  h (G.owns S) σ H ev.in ev.inv _ fun v r H1 S2 o2 i1 l1 p1 q => by
    obtain ⟨s, e, hr, hm⟩ := hm r p1
    subst e
    have hd := disj_of i1
    obtain ⟨ev1, l2⟩ := ev.grow o2 i1 l1
    have q : SlB K (G.owns S) S2 H1 v s := q
    refine k1 _ H1 _ _ l2 (ev1.setO hi (q.lift hr hd) fun ho => ?_) hm
    obtain ⟨a, o, e1, e2⟩ := owned_ref q ho
    subst e1
    exact ev.fresh (hd _ _ e2)
theorem b_setO {PR : Rv → Prop} (hi : i < Γ.length) (h : EvO2 K te Γ PR) (hm : ∀ r, PR r → ∃ s, r = .one s ∧ okR s = true ∧ Bk K tu (Γ.set i s) M R B C) : Bk K (tSeq (tAsg te (gName i)) tu) Γ M R B C := b_seq (M' := fun Γ' => Bk K tu Γ' M R B C) (b_setO1 hi h hm) fun Γ' h => h
/-- a, b, .. = a call that gives several things of their own -/
theorem b_asgT1 {PR : Rv → Prop} {n : Nat} (js : List Nat) (hj : ∀ j ∈ js, j < Γ.length) (h : EvO2 K te Γ PR) (hm : ∀ r, PR r → ∃ ss, r = .tup ss ∧ ss.length = n ∧ ss.all okR = true ∧ M (setSs Γ js ss)) (hn : n = js.length := by rfl) : Bk K (tAsg te (gTup K n (gNs js))) Γ M R B C := fun G S σ H D ev k1 k2 k3 k4 =>
  h (G.owns S) σ H ev.in ev.inv _ fun v r H1 S2 o2 i1 l1 p1 q => by
    obtain ⟨ss, e, hl, hr, hm⟩ := hm r p1
    subst e
    have hd := disj_of i1
    obtain ⟨ev1, l2⟩ := ev.grow o2 i1 l1
    obtain ⟨a, vs, e1, sq, ab⟩ := q
    subst e1
    have ab : ArgsB K (G.owns S) S2 H1 vs ss := ab
    refine ⟨a, vs, rfl, exT (fun _ _ h => G.sub (owns_sub _ _ (owns_sub _ _ h))) sq, ab.len.trans hl, gNs_run js ss vs σ Γ ev1 hj (by rw [hl, hn]) ⟨ab.len, fun i s hs => (ab.sl i s hs).imp fun v ⟨h1, h2⟩ => ⟨h1, h2.lift (List.all_eq_true.mp hr s (List.mem_of_getElem? hs)) hd⟩, ab.ne⟩ (fun i s v hs ho hv => ?_) _ fun σ2 ev2 => k1 σ2 H1 _ _ l2 ev2 hm⟩
    obtain ⟨v', h1, h2⟩ := ab.sl i s hs
    rw [hv] at h1
    cases h1
    obtain ⟨b, o, e1, e2⟩ := owned_ref h2 ho
    subst e1
    exact ev.fresh (hd _ _ e2)
theorem b_asgT {PR : Rv → Prop} {n : Nat} (js : List Nat) (hj : ∀ j ∈ js, j < Γ.length) (h : EvO2 K te Γ PR) (hm : ∀ r, PR r → ∃ ss, r = .tup ss ∧ ss.length = n ∧ ss.all okR = true ∧ Bk K tu (setSs Γ js ss) M R B C) (hn : n = js.length := by rfl) : Bk K (tSeq (tAsg te (gTup K n (gNs js))) tu) Γ M R B C := b_seq (M' := fun Γ' => Bk K tu Γ' M R B C) (b_asgT1 js hj h hm hn) fun Γ' h => h
/-! ### several values, some of their own -/
theorem eo_dat (h : EvD K te Γ P) : EvO2 K te Γ (fun r => ∃ d, r = .one (.dat d) ∧ P d) := fun G σ H ev iv Q q =>
  h G σ H ev iv _ fun v d H1 i1 l1 p1 dq => q v (.one (.dat d)) H1 OS.nil OS.nil_ok (by rw [owns_nil]; exact i1) (by rw [owns_nil]; exact l1) ⟨d, rfl, p1⟩ (by show Dq K ((G.owns OS.nil).view H1) v d; rw [owns_nil]; exact dq)
theorem own_put {G : Fr} {l : Addr} {o : HO} : G.own l o = G.owns (OS.nil.put l o) := by
  have := owns_own (G := G) (S := OS.nil) (l := l) (o := o) rfl
  rw [owns_nil] at this
  exact this
theorem eo_new {PN : List PyData → Prop} (h : EvN K te Γ PN) : EvO2 K te Γ (fun r => ∃ ds, r = .one (.olst ds) ∧ PN ds) := fun G σ H ev iv Q q =>
  h G σ H ev iv _ fun l vs ds H1 i1 l1 p1 dq => by
    rw [own_put] at i1 l1 dq
    exact q _ (.one (.olst ds)) H1 _ (OS.nil_ok.put rfl) i1 l1 ⟨ds, rfl, p1⟩ ⟨l, vs, rfl, OS.put_same, dq⟩
def EvT (K : PySem.W.Frag) (ta : TA) (Γ : List Sl) (PS : List Sl → Prop) : Prop := ∀ (G : Fr) (σ : L2.St) (H : Hp), EnvOk K G H σ Γ → G.inv H → ∀ Q : List V → Hp → Prop, (∀ vs ss H' S', S'.ok → (G.owns S').inv H' → Ex (G.view H) ((G.owns S').view H') → PS ss → ss.all okR = true → ArgsB K G S' H' vs ss → Q vs H') → ta σ H Q
theorem et_nil : EvT K tNil Γ (· = []) := fun G σ H ev iv Q q => q [] [] H OS.nil OS.nil_ok (by rw [owns_nil]; exact iv) (by rw [owns_nil]; exact fun _ _ h => h) rfl rfl ⟨rfl, fun i s h => by simp at h, fun i j s t v _ h => by simp at h⟩
theorem et_cons {PR : Rv → Prop} {Ps : Sl → Prop} {PS : List Sl → Prop} (h : EvO2 K te Γ PR) (hr : ∀ r, PR r → ∃ s, r = .one s ∧ okR s = true ∧ Ps s) (t : EvT K ta Γ PS) : EvT K (tCons te ta) Γ (fun ss => ∃ s r, ss = s :: r ∧ Ps s ∧ PS r) := fun G σ H ev iv Q q =>
  h G σ H ev iv _ fun v r H1 S1 o1 i1 l1 p1 q1 => by
    obtain ⟨s, e, hk, ps⟩ := hr r p1
    subst e
    have evo : EnvOk K (G.owns S1) H1 σ Γ := ⟨ev.1, fun i s hs => (ev.2 i s hs).imp id fun ⟨v, hv, z⟩ => ⟨v, hv, by
      cases s with
      | any => trivial
      | dat d => exact Dq.ex l1 z
      | well => obtain ⟨a, p, e1, w⟩ := z; exact ⟨a, p, e1, w.owns⟩
      | odic m => obtain ⟨a, k, e1, e2, e3⟩ := z; exact ⟨a, k, e1, fun H' i => e2 H' i.1, e3.ex l1⟩
      | fdic m => obtain ⟨a, o, k, e1, e2, e3⟩ := z; exact ⟨a, o, k, e1, fun H' i => e2 H' i.1, e3.ex l1⟩
      | ins C fs => obtain ⟨a, dx, vs, e1, e2, e3⟩ := z; exact ⟨a, dx, vs, e1, l1 _ _ e2, e3.ex l1⟩
      | sem p => exact fun H2 e2 => z H2 fun b o hb => e2 b o (l1 b o hb)
      | frm p => exact fun G2 H2 s2 e2 => z G2 H2 (SubF.trans (.owns .refl) s2) fun b o hb => e2 b o (l1 b o hb)
      | olst ds => obtain ⟨a, vs, e1, e2, e3⟩ := z; exact ⟨a, vs, e1, fun H' i => e2 H' i.1, e3.ex l1⟩⟩⟩
    refine t (G.owns S1) σ H1 evo i1 _ fun vs ss H2 S2 o2 i2 l2 p2 hk2 a => ?_
    have hd := disj_of i2
    have e := owns_un (G := G) hd
    have l3 : Ex ((G.owns S1).view H1) ((G.owns (S1.un S2)).view H2) := by rw [← e]; exact l2
    have q1 : SlB K G S1 H1 v s := q1
    refine q (v :: vs) (s :: ss) H2 (S1.un S2) (o1.un o2) (by rw [← e]; exact i2) (L2.ext l1 l3) ⟨s, ss, rfl, ps, p2⟩ (by rw [List.all_cons, hk, hk2]; rfl) ⟨congrArg (· + 1) a.len, fun i t ht => ?_, fun i j s1 t1 w hij h1 h2 ho1 ho2 => ?_⟩
    · cases i with
      | zero => simp at ht; subst ht; exact ⟨v, rfl, q1.un l3⟩
      | succ i =>
        have ht : ss[i]? = some t := by simpa using ht
        obtain ⟨w, h1, h2⟩ := a.sl i t ht
        exact ⟨w, by simpa using h1, h2.lift (List.all_eq_true.mp hk2 t (List.mem_of_getElem? ht)) hd⟩
    · have key : ∀ (i : Nat) t, ss[i]? = some t → isO t = true → isO s = true → vs[i]? = some v → False := fun i t h1 o1 o2 h2 => by
        obtain ⟨b, o, e1, e2⟩ := owned_ref q1 o2
        obtain ⟨w, h3, h4⟩ := a.sl i t h1
        rw [h2] at h3
        cases h3
        obtain ⟨c, u, e3, e4⟩ := owned_ref h4 o1
        rw [e1] at e3
        cases e3
        have := hd _ _ e4
        rw [e2] at this; cases this
      cases i with
      | zero =>
        cases j with
        | zero => exact absurd rfl hij
        | succ j =>
          simp only [List.getElem?_cons_zero, List.getElem?_cons_succ] at *
          intro e1 e2
          cases e1
          cases h1
          exact key j t1 h2 ho2 ho1 e2
      | succ i =>
        cases j with
        | zero =>
          simp only [List.getElem?_cons_zero, List.getElem?_cons_succ] at *
          intro e1 e2
          cases e2
          cases h2
          exact key i s1 h1 ho1 ho2 e1
        | succ j => simpa using a.ne i j s1 t1 w (fun z => hij (congrArg (· + 1) z)) (by simpa using h1) (by simpa using h2) ho1 ho2
theorem et_dat {PS : List Sl → Prop} (h : EvD K te Γ P) (t : EvT K ta Γ PS) : EvT K (tCons te ta) Γ (fun ss => ∃ s r, ss = s :: r ∧ (∃ d, s = .dat d ∧ P d) ∧ PS r) := et_cons (eo_dat h) (fun r ⟨d, e, p⟩ => ⟨.dat d, e, rfl, d, rfl, p⟩) t
theorem et_new {PN : List PyData → Prop} {PS : List Sl → Prop} (h : EvN K te Γ PN) (t : EvT K ta Γ PS) : EvT K (tCons te ta) Γ (fun ss => ∃ s r, ss = s :: r ∧ (∃ ds, s = .olst ds ∧ PN ds) ∧ PS r) := et_cons (eo_new h) (fun r ⟨d, e, p⟩ => ⟨.olst d, e, rfl, d, rfl, p⟩) t
theorem eo_tup {PS : List Sl → Prop} (h : EvT K ta Γ PS) (hl : ∀ ss, PS ss → ss.length ≤ 1000) : EvO2 K (tTup ta) Γ (fun r => ∃ ss, r = .tup ss ∧ PS ss ∧ ss.all okR = true) := fun G σ H ev iv Q q =>
  h G σ H ev iv _ fun vs ss H1 S1 o1 i1 l1 p1 hk a => ⟨by rw [a.len, sizeLine_eq]; have := hl ss p1; omega, fun p hp => by
    obtain ⟨i2, l2, v2⟩ := Fr.new (G := G.owns S1) (o := HO.tup vs) i1 hp
    exact q _ (.tup ss) _ S1 o1 i2 (L2.ext l1 l2) ⟨ss, rfl, p1, hk⟩ ⟨p, vs, rfl, .inl (.inl v2), ⟨a.len, fun i s hs => (a.sl i s hs).imp fun v ⟨e, z⟩ => ⟨e, z.ex l2⟩, a.ne⟩⟩⟩
/-- a, b = x, y -/
theorem b_par1 {PS : List Sl → Prop} (hi : i < Γ.length) (hj : j < Γ.length) (h : EvT K ta Γ PS) (hm : ∀ ss, PS ss → ∃ s t, ss = [s, t] ∧ M ((Γ.set i s).set j t)) : Bk K (tPar i j ta) Γ M R B C := fun G S σ H D ev k1 k2 k3 k4 =>
  h (G.owns S) σ H ev.in ev.inv _ fun vs ss H1 S2 o2 i1 l1 p1 hk ab => by
    obtain ⟨s, t, e, hm⟩ := hm ss p1
    subst e
    have hd := disj_of i1
    obtain ⟨ev1, l2⟩ := ev.grow o2 i1 l1
    rw [List.all_cons, List.all_cons, Bool.and_eq_true, Bool.and_eq_true] at hk
    obtain ⟨v, hv, hs⟩ := ab.sl 0 s rfl
    obtain ⟨w, hw, ht⟩ := ab.sl 1 t rfl
    have hl := ab.len
    obtain ⟨v', w', rfl⟩ := (by match vs, hl with | [v', w'], _ => exact ⟨v', w', rfl⟩ : ∃ v' w', vs = [v', w'])
    cases hv
    cases hw
    have fr : ∀ {x : V} {u : Sl}, SlB K (G.owns S) S2 H1 x u → isO u = true → Fresh σ Γ x := fun hx ho => by
      obtain ⟨b, o, e1, e2⟩ := owned_ref hx ho
      subst e1
      exact ev.fresh (hd _ _ e2)
    refine ⟨_, _, rfl, k1 _ H1 _ _ l2 ((ev1.setO hi (hs.lift hk.1 hd) fun ho => fr hs ho).setO (by rw [List.length_set]; exact hj) (ht.lift hk.2.1 hd) fun ho => (fr ht ho).set hi ev1.len fun ho2 z => ?_) hm⟩
    subst z
    exact ab.ne 0 1 s t _ (by decide) rfl rfl ho2 ho rfl rfl
theorem b_par {PS : List Sl → Prop} (hi : i < Γ.length) (hj : j < Γ.length) (h : EvT K ta Γ PS) (hm : ∀ ss, PS ss → ∃ s t, ss = [s, t] ∧ Bk K tu ((Γ.set i s).set j t) M R B C) : Bk K (tSeq (tPar i j ta) tu) Γ M R B C := b_seq (M' := fun Γ' => Bk K tu Γ' M R B C) (b_par1 hi hj h hm) fun Γ' h => h
end
end L2

set_option Elab.async false
set_option linter.all false
set_option maxRecDepth 100000
set_option maxHeartbeats 4000000
/-! Items of lists and tuples alike; new lists by repetition. -/
namespace L2
open PySem PySem.Spec PyProof.Rows
open Evl (Ex)
section
variable {K : PySem.W.Frag} {Γ Γ' : List Sl} {te tb tc : TE} {ta : TA} {P : PyData → Prop} {ds : List PyData}
theorem ev_ixQ {m : Int} {d : PyData} (h : EvD K te Γ (fun d => d = .list ds ∨ d = .tuple ds)) (h2 : EvD K tb Γ (· = .int m)) (hd : atI ds m = some d) : EvD K (tOp (rIx K) te tb) Γ (· = d) := fun G σ H e i Q q =>
  h G σ H e i _ fun v d1 H1 i1 l1 p1 dq => h2 G σ H1 (e.le l1) i1 _ fun v2 d2 H2 i2 l2 p2 dq2 => by
    subst p2
    cases dq2
    rcases p1 with p1 | p1
    · subst p1
      cases dq with
      | lst hs ha =>
        obtain ⟨w, hw, dw⟩ := dq_atI ha hd
        exact .inl ⟨_, _, m, w, rfl, rfl, Fr.upL (exL l2 hs), hw, q w d H2 i2 (l1.trans l2) rfl (dw.ex l2)⟩
    · subst p1
      cases dq with
      | tup hs ha =>
        obtain ⟨w, hw, dw⟩ := dq_atI ha hd
        exact .inr (.inl ⟨_, _, m, w, rfl, rfl, Fr.upT (exT l2 hs), hw, q w d H2 i2 (l1.trans l2) rfl (dw.ex l2)⟩)
theorem ev_ixTm {m : Int} {d : PyData} (h : EvD K te Γ (· = .tuple ds)) (h2 : EvD K tb Γ (· = .int m)) (hd : atI ds m = some d) : EvD K (tOp (rIxT K) te tb) Γ (· = d) := fun G σ H e i Q q =>
  h G σ H e i _ fun v d1 H1 i1 l1 p1 dq => h2 G σ H1 (e.le l1) i1 _ fun v2 d2 H2 i2 l2 p2 dq2 => by
    subst p1; subst p2
    cases dq2
    cases dq with
    | tup hs ha =>
      obtain ⟨w, hw, dw⟩ := dq_atI ha hd
      exact ⟨_, _, m, w, rfl, rfl, Fr.upT (exT l2 hs), hw, q w d H2 i2 (l1.trans l2) rfl (dw.ex l2)⟩
theorem ev_eqI {a b : Int} (h : EvD K te Γ (· = .int a)) (h2 : EvD K tb Γ (· = .int b)) : EvD K (tOp rEq te tb) Γ (· = .bool (decide (a = b))) := fun G σ H ev iv Q q =>
  h G σ H ev iv _ fun v d H1 i1 l1 p1 dq => h2 G σ H1 (ev.le l1) i1 _ fun v2 d2 H2 i2 l2 p2 dq2 => by
    subst p1; subst p2
    cases dq; cases dq2
    have e : decide (V.int a = V.int b) = decide (a = b) := by simp
    exact ⟨rfl, q _ _ H2 i2 (l1.trans l2) (by rw [e]) (.bl _)⟩
theorem ev_tup2 {a b : PyData} (h : EvD K te Γ (· = a)) (h2 : EvD K tb Γ (· = b)) : EvD K (tTup (tCons te (tCons tb tNil))) Γ (· = .tuple [a, b]) := (ev_tup (elc h (elc h2 el_nil)) (fun ds e => by rw [e]; show 2 ≤ 100000; omega)).imp fun d ⟨ds, e1, e2⟩ => by rw [e1, e2]
theorem ev_tup3' {a b c : PyData} (h : EvD K te Γ (· = a)) (h2 : EvD K tb Γ (· = b)) (h3 : EvD K tc Γ (· = c)) : EvD K (tTup (tCons te (tCons tb (tCons tc tNil)))) Γ (· = .tuple [a, b, c]) := (ev_tup (elc h (elc h2 (elc h3 el_nil))) (fun ds e => by rw [e]; show 3 ≤ 100000; omega)).imp fun d ⟨ds, e1, e2⟩ => by rw [e1, e2]
/-- range(n) -/
theorem e0_rangeL {n : Nat} (hn : n < 100000) (h : EvL' K ta Γ (· = [.int (n : Nat)])) : EvI0 K (iRng1 ta) Γ (· = n) (fun i d => d = .int i) := e0_range1 (Nn := (· = n)) (fun G σ H e i Q q => h G σ H e i Q fun vs ss H' i' l' ⟨zs, e1, e2⟩ a => q vs ss H' i' l' ⟨n, rfl, by rw [e1, e2]; rfl⟩ a) fun m e => by omega
/-- range(a, b) -/
theorem e0_rangeAB {a b : Nat} (ha : a < 100000) (hb : b < 100000) (h : EvL' K ta Γ (· = [.int a, .int b])) : EvI0 K (iRng2 ta) Γ (· = b - a) (fun i d => d = .int ((a + i : Nat) : Int)) := fun G σ H ev iv R q =>
  h G σ H ev iv _ fun vs ss H1 iv1 l1 ⟨zs, e1, e2⟩ dqs => by
    subst e2; subst e1
    have dqs := args_dats dqs
    cases dqs with
    | cons h1 t1 =>
      cases t1 with
      | cons h2 t2 =>
        cases t2
        cases h1
        cases h2
        · refine ⟨(a : Nat), (b : Nat), rfl, ⟨by omega, by omega, by omega, by omega⟩, ?_⟩
          rw [show ((b : Int) - (a : Int)).toNat = b - a by omega]
          refine q (b - a) _ H1 rfl iv1 l1 fun G' H2 e iv2 => ⟨fun i hi => ⟨hi, fun y H3 ⟨e3, ey⟩ => ?_⟩, Nat.le_refl _⟩
          subst e3; subst ey
          exact ⟨iv2, .refl, _, rfl, by rw [show ((a : Nat) : Int) + (i : Nat) = ((a + i : Nat) : Int) by omega]; exact .int _⟩
/-- [d] * n, a list of its own -/
theorem en_repN {d : PyData} {n : Nat} (hn : n ≤ 1000) (h : EvN K te Γ (· = [d])) (h2 : EvD K tb Γ (· = .int n)) : EvN K (tOp rRep te tb) Γ (· = List.replicate n d) := fun G σ H ev iv Q q =>
  h G σ H ev iv _ fun l vs ds H1 i1 l1 e1 dq => by
    subst e1
    cases dq with
    | @cons v _ _ _ dq t =>
      cases t
      refine h2 _ σ H1 (ev.own l1) i1 _ fun v2 d2 H2 i2 l2 p2 dq2 => ?_
      subst p2
      cases dq2
      refine ⟨l, n, [v], rfl, rfl, Fr.own_at i2, by omega, by omega, by rw [sizeLine_eq]; simp only [List.length_singleton, Int.toNat_natCast]; omega, fun p hp => ?_⟩
      rw [Int.toNat_natCast, flat_rep]
      obtain ⟨i3, v3⟩ := Fr.own_new (G := G.own l (.lst [v])) (o := HO.lst (List.replicate n v)) i2 hp
      rw [own_comm] at i3 v3
      have ex : Ex ((G.own l (.lst [v])).view H2) ((G.own p (.lst (List.replicate n v))).view (upd H2 p (.lst (List.replicate n v)))) := by rw [← v3]; exact Fr.own_sub
      exact q p _ _ _ i3.1 (fun c u hc => ex c u (l2 c u (l1 c u hc))) rfl (dq_rep ((dq.ex l2).ex ex) n)
end
end L2

set_option Elab.async false
set_option linter.all false
set_option maxRecDepth 100000
set_option maxHeartbeats 4000000
/-! Places that are told by a meaning of their own: a tuple that is plain, an object one of whose fields is such a tuple. -/
namespace L2
open PySem PySem.Spec PyProof.Rows
open Evl (Ex)
/-- a plain tuple of the data ds -/
def PTup (K : PySem.W.Frag) (ds : List PyData) (H : Hp) (v : V) : Prop := ∃ a o vs, v = .ref a ∧ H a = some (.frz o (.tup vs)) ∧ o.dict = none ∧ DqAll K H vs ds
/-- an object whose field f is a plain tuple of the data ds -/
def InsP (K : PySem.W.Frag) (C : Addr) (fs : List (Str × PyData)) (f : Str) (ds : List PyData) (H : Hp) (v : V) : Prop := ∃ a dx vs, v = .ref a ∧ H a = some (.ins C dx vs) ∧ DqFs K H vs fs ∧ ∃ u, vs.lookup f = some u ∧ PTup K ds H u
def EvP (K : PySem.W.Frag) (te : TE) (Γ : List Sl) (ds : List PyData) : Prop := ∀ (G : Fr) (σ : L2.St) (H : Hp), EnvOk K G H σ Γ → G.inv H → ∀ Q : VK, (∀ v H', G.inv H' → G.le H H' → PTup K ds (G.view H') v → Q v H') → te σ H Q
def RetsP (K : PySem.W.Frag) (ts : TS) (Γ : List Sl) (ds : List PyData) : Prop := ∀ (G : Fr) (σ : L2.St) (H : Hp) (D : Ends), EnvOk K G H σ Γ → G.inv H → (∀ v H', G.inv H' → G.le H H' → PTup K ds (G.view H') v → D.rt v H') → ts D σ H
/-- a def that answers a plain tuple -/
def spPl (K : PySem.W.Frag) (pre : List PyData → Prop) (f : List PyData → List PyData) : Sp := fun vs H Q _ => ∃ (G : Fr) (ds : List PyData), G.inv H ∧ DqAll K (G.view H) vs ds ∧ pre ds ∧ ∀ v H', G.inv H' → G.le H H' → PTup K (f ds) (G.view H') v → Q v H'
section
variable {K : PySem.W.Frag} {Γ Γ' : List Sl} {te tb tc : TE} {ta : TA} {tt : TT} {ts tu : TS} {wi : TI} {g : TG} {i j : Nat} {ds : List PyData} {C : Addr} {f0 f1 : List (Str × PyData)} {P : PyData → Prop}
theorem PTup.ex {H H' : Hp} {v : V} (e : Ex H H') (h : PTup K ds H v) : PTup K ds H' v := let ⟨a, o, vs, e1, e2, e3, e4⟩ := h; ⟨a, o, vs, e1, e _ _ e2, e3, e4.ex e⟩
theorem PTup.dq {H : Hp} {v : V} (h : PTup K ds H v) : Dq K H v (.tuple ds) := by
  obtain ⟨a, o, vs, e1, e2, e3, e4⟩ := h
  subst e1
  exact .tup (.inl (.inr ⟨o, e2⟩)) e4
theorem PTup.sl {G : Fr} {H : Hp} {v : V} (h : PTup K ds (G.view H) v) : SlOk K G H v (.sem (PTup K ds)) := fun H' e => h.ex e
theorem ev_varP (h : Γ[i]? = some (.sem (PTup K ds))) : EvD K (tVar i) Γ (· = .tuple ds) := fun G σ H e i' Q q => by
  rcases e.2 i _ h with z | ⟨v, a, b⟩
  · cases z
  · exact ⟨v, a, q v _ H i' .refl rfl (b _ (Ex.refl _)).dq⟩
theorem ep_call {pre : List PyData → Prop} {f : List PyData → List PyData} {E : XK} (es : List PyData) (h : EvL' K ta Γ (· = es)) (hp : pre es) : EvP K (tCall (spPl K pre f) [] E ta) Γ (f es) := fun G σ H e i Q q =>
  h G σ H e i _ fun vs ss H1 i1 l1 ⟨zs, e1, e2⟩ dqs => by
    subst e2; subst e1
    rw [List.append_nil]
    exact ⟨G, zs, i1, args_dats dqs, hp, fun v H' i2 l2 z => q v H' i2 (l1.trans l2) z⟩
theorem EvP.cast {es : List PyData} (h : EvP K te Γ es) (e : es = ds) : EvP K te Γ ds := e ▸ h
theorem rp_if (h : EvB K tt Γ (· = false)) (h2 : RetsP K tu Γ ds) : RetsP K (tSeq (tIfS tt ts tNext) tu) Γ ds := fun G σ H D ev iv k =>
  h G σ H ev iv _ fun c H1 iv1 l1 e => by
    subst e
    exact h2 G σ H1 _ (ev.le l1) iv1 fun v H2 iv2 l2 p => k v H2 iv2 (l1.trans l2) p
theorem rp_build {vs : List Nat} {m : List (Str × PyData)} {Pi : Nat → PyData → Prop} {N : Nat → PyData → List Sl} {Ne : Nat → PyData → List Sl} {es : List PyData} (hm : m.length ≤ 100) (hjl : j < Γ.length)
    (hΓ : ∀ (q : Nat) s, q ≠ j → Γ[q]? = some s → s = .any ∨ ∃ z, s = .dat z) (hnew : ∀ i p, m[i]? = some p → (m.take i).lookup p.1 = none) (hjv : j ∉ vs)
    (hi : EvI0 K wi (Γ.set j (.odic [])) (· = m.length) Pi)
    (hg : ∀ i, TgOk K g vs (Γ.set j (.odic (m.take i))) (Pi i) (N i))
    (hb : ∀ i e p, Pi i e → m[i]? = some p → Puts K tu (N i e) j p.1 (· = p.2) (Ne i e))
    (hw : ∀ (i : Nat) e, Pi i e → Γ.length = (Ne i e).length ∧ ∀ (k : Nat) s, k ≠ j → Γ[k]? = some s → s = .any ∨ (Ne i e)[k]? = some s)
    (hc : EvD K tc (Γ.set j (.fdic m)) (· = .list es)) :
    RetsP K (tSeq (tAsg tDNewK (gName j)) (tSeq (tFor wi g tu) (tRet (tThen (tLockE tc) (kTupF K))))) Γ es := fun G σ H D ev iv k p hp => by
  have hgv : G.view H p = none := Fr.blank hp
  obtain ⟨iv1, vw1⟩ := Fr.own_new (G := G) (o := HO.dK []) iv hp
  have set_ne : ∀ {s : Sl} {q : Nat} {t : Sl}, q ≠ j → (Γ.set j s)[q]? = some t → Γ[q]? = some t := fun h e => by rwa [List.getElem?_set_ne (fun z => h z.symm)] at e
  have set_j : ∀ {s : Sl}, (Γ.set j s)[j]? = some s := List.getElem?_set_self hjl
  have hj1 : (σ.set j (some (.ref p)))[j]? = some (some (.ref p)) := List.getElem?_set_self (by rw [ev.1]; exact hjl)
  have ev1 : EnvOk K (G.own p (.dK [])) (upd H p (.dK [])) (σ.set j (some (.ref p))) (Γ.set j (.odic [])) :=
    (ev.own (l := p) (o := .dK []) (H' := upd H p (.dK [])) (by rw [vw1]; exact fun _ _ h => h)).set hjl ⟨p, [], rfl, fun H' i => Fr.own_at i, .nil⟩
  refine loop_put (Γl := fun m' => Γ.set j (.odic m')) hm (fun m' => set_j) hnew hjv hi hg hb (fun i e m' pe => ?_) (fun m' q s hq hs => hΓ q s hq (set_ne hq hs)) ev1 iv1 hj1 ?_
  · have h := hw i e pe
    exact ⟨by rw [List.length_set]; exact h.1, fun k s hk hs => h.2 k s hk (set_ne hk hs)⟩
  · intro σ' H' kvs iv2 e2 ev2 hj2 dk2
    refine ⟨p, .dK kvs, Fr.own_at iv2, trivial, fun od => ?_⟩
    have st := Fr.own_set (o' := .frz od (.dK kvs)) iv2
    have evf : EnvOk K (G.own p (.frz od (.dK kvs))) (upd H' p (.frz od (.dK kvs))) σ' (Γ.set j (.fdic m)) := by
      refine EnvOk.swap (j := j) (s := .fdic m) (v := .ref p) ev2 (by rw [st.2]; exact fun _ _ h => h) (by rw [List.length_set, List.length_set]) (fun q s hq hs => ?_) hj2 set_j ⟨p, od, kvs, rfl, fun H' i => Fr.own_at i, by rw [st.2]; exact dk2⟩
      rcases hΓ q s hq (set_ne hq hs) with e | ⟨z, e⟩
      · exact .inl e
      · exact .inr ⟨z, e, by rw [List.getElem?_set_ne (fun z => hq z.symm)]; exact set_ne hq hs⟩
    refine hc (G.own p (.frz od (.dK kvs))) σ' _ evf st.1 _ fun v d H3 iv3 l3 pd dq => ⟨Fr.own_at iv3, ?_⟩
    subst pd
    have st3 := Fr.own_set (o' := .dK kvs) iv3
    cases dq with
    | @lst aa xx _ hs ha =>
      have hs3 : SqL K ((G.own p (.dK kvs)).view (upd H3 p (.dK kvs))) aa xx := by rw [st3.2]; exact hs
      refine ⟨aa, xx, rfl, Fr.upL hs3, fun q o hq ho => ?_⟩
      obtain ⟨iv4, l4, h4⟩ := Fr.new (o := HO.frz o (HO.tup xx)) st3.1 hq
      have ha4 := ha.ex fun c u h => l4 c u (by rw [st3.2]; exact h)
      refine k _ _ iv4.1 (Fr.own_le (l := p) (o := .dK kvs) hgv fun c u h => l4 c u (by rw [st3.2]; exact l3 c u (by rw [st.2]; exact e2 c u (by rw [vw1]; exact h)))) ⟨_, o, _, rfl, Fr.own_sub _ _ h4, ho, ha4.ex Fr.own_sub⟩
theorem doneSP {G : Fr} {H : Hp} {vs : List V} {es : List PyData} {D : Ends} {N : List Str} (n : Nat) (hs : L2.start N vs = vs.map some ++ List.replicate n none) (h : RetsP K ts (es.map .dat ++ List.replicate n .any) ds) (iv : G.inv H) (a : DqAll K (G.view H) vs es)
    (k : ∀ v H', G.inv H' → G.le H H' → PTup K ds (G.view H') v → D.rt v H') : ts D (L2.start N vs) H :=
  h G _ H D (envStart n hs a) iv k
/-! ### an __init__ one of whose fields is such a tuple -/
def Zf (K : PySem.W.Frag) (z : Option (Str × List PyData)) (H : Hp) (vs : List (Str × V)) : Prop := ∀ f ds, z = some (f, ds) → ∃ u, vs.lookup f = some u ∧ PTup K ds H u
theorem Zf.ex {z : Option (Str × List PyData)} {H H' : Hp} {vs : List (Str × V)} (e : Ex H H') (h : Zf K z H vs) : Zf K z H' vs := fun f ds q => let ⟨u, h1, h2⟩ := h f ds q; ⟨u, h1, h2.ex e⟩
theorem lookup_app {f g : Str} {u v : V} : ∀ {vs : List (Str × V)}, vs.lookup f = some u → (vs ++ [(g, v)]).lookup f = some u
  | [], h => by cases h
  | (e, w) :: vs, h => by
    rw [List.cons_append, List.lookup_cons] at *
    cases z : (f == e) with
    | true => rw [z] at h; exact h
    | false => rw [z] at h; exact lookup_app h
theorem lookup_last {f : Str} {v : V} : ∀ {vs : List (Str × V)}, vs.lookup f = none → (vs ++ [(f, v)]).lookup f = some v
  | [], h => by rw [List.nil_append, List.lookup_cons, beq_self_eq_true]
  | (e, w) :: vs, h => by
    rw [List.cons_append, List.lookup_cons] at *
    cases z : (f == e) with
    | true => rw [z] at h; cases h
    | false => rw [z] at h; exact lookup_last h
def Inits2 (K : PySem.W.Frag) (C : Addr) (ts : TS) (Γ : List Sl) (j : Nat) (f0 : List (Str × PyData)) (z0 : Option (Str × List PyData)) (f1 : List (Str × PyData)) (z1 : Option (Str × List PyData)) : Prop := ∀ (G : Fr) (σ : L2.St) (H : Hp) (D : Ends) (x dx : Addr) (vs : List (Str × V)), EnvOk K (G.own x (.ins C dx vs)) H σ Γ → (G.own x (.ins C dx vs)).inv H → σ[j]? = some (some (.ref x)) → DqFs K ((G.own x (.ins C dx vs)).view H) vs f0 → Zf K z0 ((G.own x (.ins C dx vs)).view H) vs →
  (∀ σ' H' us, (G.own x (.ins C dx us)).inv H' → Ex ((G.own x (.ins C dx vs)).view H) ((G.own x (.ins C dx us)).view H') → DqFs K ((G.own x (.ins C dx us)).view H') us f1 → Zf K z1 ((G.own x (.ins C dx us)).view H') us → D.nx σ' H') → ts D σ H
variable {z0 z1 : Option (Str × List PyData)}
theorem i2_if (h : EvB K tt Γ (· = false)) (h2 : Inits2 K C tu Γ j f0 z0 f1 z1) : Inits2 K C (tSeq (tIfS tt ts tNext) tu) Γ j f0 z0 f1 z1 := fun G σ H D x dx vs ev iv hj hf hz k =>
  h _ σ H ev iv _ fun b H1 i1 l1 e => by
    subst e
    exact h2 G σ H1 _ x dx vs (ev.le l1) i1 hj (hf.ex l1) (hz.ex l1) fun σ' H' us i' e' => k σ' H' us i' fun c u h => e' c u (l1 c u h)
theorem i2_set {d : PyData} (hi : i < Γ.length) (hij : i ≠ j) (h : EvD K te Γ (· = d)) (h2 : Inits2 K C tu (Γ.set i (.dat d)) j f0 z0 f1 z1) : Inits2 K C (tSeq (tAsg te (gName i)) tu) Γ j f0 z0 f1 z1 := fun G σ H D x dx vs ev iv hj hf hz k =>
  h _ σ H ev iv _ fun v e H1 i1 l1 p1 dq => by
    subst p1
    exact h2 G _ H1 _ x dx vs ((ev.le l1).set hi dq) i1 (by rw [List.getElem?_set_ne hij]; exact hj) (hf.ex l1) (hz.ex l1) fun σ' H' us i' e' => k σ' H' us i' fun c u h => e' c u (l1 c u h)
theorem i2_setP (hi : i < Γ.length) (hij : i ≠ j) (h : EvP K te Γ ds) (h2 : Inits2 K C tu (Γ.set i (.sem (PTup K ds))) j f0 z0 f1 z1) : Inits2 K C (tSeq (tAsg te (gName i)) tu) Γ j f0 z0 f1 z1 := fun G σ H D x dx vs ev iv hj hf hz k =>
  h _ σ H ev iv _ fun v H1 i1 l1 p1 => h2 G _ H1 _ x dx vs ((ev.le l1).set hi p1.sl) i1 (by rw [List.getElem?_set_ne hij]; exact hj) (hf.ex l1) (hz.ex l1) fun σ' H' us i' e' => k σ' H' us i' fun c u h => e' c u (l1 c u h)
theorem fld_step2 {f : Str} {d : PyData} {s : Sl} (hc : Cls K C) (hn : NoAttr K C f) (hi : Γ[i]? = some s) (hs : s = .dat d ∨ ∃ es, s = .sem (PTup K es) ∧ d = .tuple es) (hnew : f0.lookup f = none) (hlen : f0.length < 100) (hΓ : ∀ (q : Nat) s, q ≠ j → Γ[q]? = some s → okS s = true) (hjΓ : Γ[j]? = some .any)
    {G : Fr} {σ : L2.St} {H : Hp} {D : Ends} {x dx : Addr} {vs : List (Str × V)} (ev : EnvOk K (G.own x (.ins C dx vs)) H σ Γ) (iv : (G.own x (.ins C dx vs)).inv H) (hj : σ[j]? = some (some (.ref x))) (hf : DqFs K ((G.own x (.ins C dx vs)).view H) vs f0)
    (k : ∀ v, vs.lookup f = none → SlOk K (G.own x (.ins C dx vs)) H v s → EnvOk K (G.own x (.ins C dx (vs ++ [(f, v)]))) (upd H x (.ins C dx (vs ++ [(f, v)]))) σ Γ → (G.own x (.ins C dx (vs ++ [(f, v)]))).inv (upd H x (.ins C dx (vs ++ [(f, v)]))) → (G.own x (.ins C dx (vs ++ [(f, v)]))).view (upd H x (.ins C dx (vs ++ [(f, v)]))) = (G.own x (.ins C dx vs)).view H → DqFs K ((G.own x (.ins C dx (vs ++ [(f, v)]))).view (upd H x (.ins C dx (vs ++ [(f, v)])))) (vs ++ [(f, v)]) (f0 ++ [(f, d)]) → D.nx σ (upd H x (.ins C dx (vs ++ [(f, v)])))) :
    sFld K (tVar j) (tVar i) f D σ H := by
  have ne : s ≠ .any := fun z => by
    rcases hs with h | ⟨es, h, _⟩
    · rw [z] at h; cases h
    · rw [z] at h; cases h
  rcases ev.2 i _ hi with z | ⟨v, hv, sv⟩
  · exact absurd z ne
  have dv : Dq K ((G.own x (.ins C dx vs)).view H) v d := by
    rcases hs with h | ⟨es, h, e⟩
    · subst h; exact sv
    · subst h; subst e; exact (sv _ (Ex.refl _)).dq
  have hn2 := hf.none hnew
  refine ⟨v, hv, _, hj, x, C, dx, vs, rfl, Fr.own_at iv, hc, hn, by omega, ?_⟩
  rw [putF_new hn2.1]
  have st := Fr.own_set (o' := .ins C dx (vs ++ [(f, v)])) iv
  refine k v hn2.1 sv (EnvOk.swapS (j := j) (s := .any) (v := .ref x) ev (by rw [st.2]; exact fun _ _ h => h) rfl (fun q s hq hs => .inr ⟨hΓ q s hq hs, hs⟩) hj hjΓ trivial) st.1 st.2 (by rw [st.2]; exact hf.append dv)
theorem i2_fld {f : Str} {d : PyData} (hc : Cls K C) (hn : NoAttr K C f) (hi : Γ[i]? = some (.dat d)) (hnew : f0.lookup f = none) (hlen : f0.length < 100) (hΓ : ∀ (q : Nat) s, q ≠ j → Γ[q]? = some s → okS s = true) (hjΓ : Γ[j]? = some .any)
    (h2 : Inits2 K C tu Γ j (f0 ++ [(f, d)]) z0 f1 z1) : Inits2 K C (tSeq (sFld K (tVar j) (tVar i) f) tu) Γ j f0 z0 f1 z1 := fun G σ H D x dx vs ev iv hj hf hz k =>
  fld_step2 hc hn hi (.inl rfl) hnew hlen hΓ hjΓ ev iv hj hf fun v hno sv ev' iv' vw' hf' => h2 G σ _ _ x dx _ ev' iv' hj hf' (fun g es q => by
    obtain ⟨u, h1, h3⟩ := hz g es q
    exact ⟨u, lookup_app h1, by rw [vw']; exact h3⟩) fun σ' H' us' i' e' => k σ' H' us' i' fun c u h => e' c u (by rw [vw']; exact h)
theorem i2_fldP {f : Str} (hc : Cls K C) (hn : NoAttr K C f) (hi : Γ[i]? = some (.sem (PTup K ds))) (hnew : f0.lookup f = none) (hlen : f0.length < 100) (hΓ : ∀ (q : Nat) s, q ≠ j → Γ[q]? = some s → okS s = true) (hjΓ : Γ[j]? = some .any)
    (h2 : Inits2 K C tu Γ j (f0 ++ [(f, .tuple ds)]) (some (f, ds)) f1 z1) : Inits2 K C (tSeq (sFld K (tVar j) (tVar i) f) tu) Γ j f0 z0 f1 z1 := fun G σ H D x dx vs ev iv hj hf hz k =>
  fld_step2 hc hn hi (.inr ⟨ds, rfl, rfl⟩) hnew hlen hΓ hjΓ ev iv hj hf fun v hno sv ev' iv' vw' hf' => h2 G σ _ _ x dx _ ev' iv' hj hf' (fun g es q => by
    cases q
    exact ⟨v, lookup_last hno, by rw [vw']; exact sv _ (Ex.refl _)⟩) fun σ' H' us' i' e' => k σ' H' us' i' fun c u h => e' c u (by rw [vw']; exact h)
theorem i2_last {f : Str} {d : PyData} (hc : Cls K C) (hn : NoAttr K C f) (hi : Γ[i]? = some (.dat d)) (hnew : f0.lookup f = none) (hlen : f0.length < 100) (hΓ : ∀ (q : Nat) s, q ≠ j → Γ[q]? = some s → okS s = true) (hjΓ : Γ[j]? = some .any) :
    Inits2 K C (sFld K (tVar j) (tVar i) f) Γ j f0 z0 (f0 ++ [(f, d)]) z0 := fun G σ H D x dx vs ev iv hj hf hz k =>
  fld_step2 hc hn hi (.inl rfl) hnew hlen hΓ hjΓ ev iv hj hf fun v hno sv ev' iv' vw' hf' => k σ _ _ iv' (by rw [vw']; exact fun _ _ h => h) hf' fun g es q => by
    obtain ⟨u, h1, h3⟩ := hz g es q
    exact ⟨u, lookup_app h1, by rw [vw']; exact h3⟩
/-- what such an __init__ promises -/
def spInitP (K : PySem.W.Frag) (C : Addr) (pre : List PyData → Prop) (fields : List PyData → List (Str × PyData)) (f : Str) (g : List PyData → List PyData) : Sp := fun vs H Q _ => ∃ (G : Fr) (x dx : Addr) (ws : List V) (ds : List PyData), vs = .ref x :: ws ∧ (G.own x (.ins C dx [])).inv H ∧ DqAll K ((G.own x (.ins C dx [])).view H) ws ds ∧ pre ds ∧
  ∀ H' us, (G.own x (.ins C dx us)).inv H' → Ex ((G.own x (.ins C dx [])).view H) ((G.own x (.ins C dx us)).view H') → DqFs K ((G.own x (.ins C dx us)).view H') us (fields ds) → Zf K (some (f, g ds)) ((G.own x (.ins C dx us)).view H') us → Q .non H'
theorem ev_makeP {pre : List PyData → Prop} {fields : List PyData → List (Str × PyData)} {f : Str} {g : List PyData → List PyData} {E : XK} (ds : List PyData) (h : EvL' K ta Γ (· = ds)) (hp : pre ds) : EvV K (tMake C (spInitP K C pre fields f g) [] E ta) Γ (.sem (InsP K C (fields ds) f (g ds))) := fun G σ H ev iv Q q =>
  h G σ H ev iv _ fun vs ss H1 i1 l1 ⟨es, e1, e2⟩ dqs x dx hx hdx hne => by
    subst e2; subst e1
    have dqs := args_dats dqs
    obtain ⟨i2, l2, _⟩ := Fr.new (o := HO.own x) i1 hdx
    have hx2 : upd H1 dx (HO.own x) x = none := by rw [upd_ne (Ne.symm hne)]; exact hx
    obtain ⟨i3, v3⟩ := Fr.own_new (G := G) (o := HO.ins C dx []) i2 hx2
    rw [List.append_nil]
    refine ⟨G, x, dx, vs, es, rfl, i3, by rw [v3]; exact dqs.ex l2, hp, fun H' us i' e' f' z' => ⟨rfl, q (.ref x) H' i'.1 ?_ fun H2 e2 => ⟨x, dx, us, rfl, e2 _ _ i'.2, (f'.ex Fr.own_sub).ex e2, ?_⟩⟩⟩
    · refine (l1.trans l2).trans fun c u hc => (hide_some (e' c u ?_)).2
      rw [v3]
      exact hc
    · obtain ⟨u, h1, h2⟩ := z' _ _ rfl
      exact ⟨u, h1, (h2.ex Fr.own_sub).ex e2⟩
/-- such an object is an object -/
theorem InsP.ins {G : Fr} {H : Hp} {v : V} {fs : List (Str × PyData)} {f : Str} (h : SlOk K G H v (.sem (InsP K C fs f ds))) : SlOk K G H v (.ins C fs) := let ⟨a, dx, vs, e1, e2, e3, _⟩ := h _ (Ex.refl _); ⟨a, dx, vs, e1, e2, e3⟩
theorem es_lower {fs : List (Str × PyData)} {f : Str} {PS : List Sl → Prop} (h : Γ[i]? = some (.sem (InsP K C fs f ds))) (t : EvS K ta Γ PS) : EvS K (tCons (tVar i) ta) Γ (fun ss => ∃ r, ss = .ins C fs :: r ∧ PS r) := fun G σ H e i' Q q => by
  rcases e.2 i _ h with z | ⟨v, a, b⟩
  · cases z
  · exact ⟨v, a, t G σ H e i' _ fun vs ss H2 i2 l2 p2 dqs => q (v :: vs) (.ins C fs :: ss) H2 i2 l2 ⟨ss, rfl, p2⟩ (.cons ((InsP.ins b).le l2) dqs)⟩
/-- dict(o.f) of such an object's plain tuple of pairs -/
theorem ev_dictP {fs : List (Str × PyData)} {f : Str} {m : List (Str × PyData)} (hc : Cls K C) (hf : NoAttr K C f) (hi : Γ[i]? = some (.sem (InsP K C fs f (m.map fun p => .tuple [.str p.1, p.2])))) (hn : (m.map (·.1)).Nodup) :
    EvD K (tCB (rDictT K) (tCons (tFld K (tVar i) f) tNil)) Γ (· = dictD m) := fun G σ H ev iv Q q => by
  rcases ev.2 i _ hi with z | ⟨x, hx, b⟩
  · cases z
  obtain ⟨a, dx, vs, ex, h1, h2, u, hu, c, o, xs, e1, e2, e3, e4⟩ := b _ (Ex.refl _)
  subst ex
  subst e1
  refine ⟨_, hx, a, C, dx, vs, _, rfl, G.sub h1, hc, hf, hu, ?_⟩
  obtain ⟨ps, kvs, f1, f2, f3, f4⟩ := pairsQ_of e4
  subst f1
  refine ⟨c, o, ps, kvs, rfl, G.sub e2, e3, paired_mono (fun _ _ h => Fr.upT h) f2, fun p hp => ?_⟩
  have hm : mergeK [] kvs = kvs := by
    rw [mergeK_new kvs [] ?_]
    · rfl
    · rw [List.nil_append, f4]
      have : (m.map fun p => (Sum.inr p.1 : Key)) = (m.map (·.1)).map Sum.inr := by rw [List.map_map]; rfl
      rw [this]
      exact List.Pairwise.map _ (fun a b h e => h (by injection e)) hn
  rw [hm]
  obtain ⟨i2, l2, g2⟩ := Fr.new (o := HO.dK kvs) iv hp
  exact q _ _ _ i2 l2 rfl (.dic g2 (f3.ex l2))
/-- [e for .. in ..], a new list of known items -/
theorem en_lcI {vs : List Nat} {Pi : Nat → PyData → Prop} {N : PyData → List Sl} {es : List PyData} (hn : es.length < 100000) (hi : EvI K wi Γ (· = es.length) Pi) (hg : ∀ i, TgOk K g vs (wipeΓ Γ vs) (Pi i) N) (he : ∀ i d e, Pi i d → es[i]? = some e → EvD K te (N d) (· = e)) :
    EvN K (tLc wi g tYes te vs) Γ (· = es) := by
  have hi' : EvI K wi Γ (· = es.length) (fun i d => i < es.length ∧ Pi i d) := fun G σ H ev iv R q => hi G σ H ev iv R fun n J H' hn i' l' w => q n J H' hn i' l' fun G' H2 hG e2 i2 => by
    subst hn
    have w2 := w G' H2 hG e2 i2
    refine ⟨fun i h => ⟨(w2.1 i h).1, fun x H3 hy => ?_⟩, w2.2⟩
    obtain ⟨a, b, d, pd, dq⟩ := (w2.1 i h).2 x H3 hy
    exact ⟨a, b, d, ⟨h, pd⟩, dq⟩
  have key := en_lc (R := fun i d e => ∀ x, es[i]? = some x → e = x) (fun n e => by rw [e]; exact hn) hi' (fun i G σ H x d ev iv pd => hg i G σ H x d ev iv pd.2) fun i d pd => (he i d es[i] pd.2 (List.getElem?_eq_getElem pd.1)).imp fun e h y hy => by
    rw [List.getElem?_eq_getElem pd.1] at hy
    cases hy
    exact h
  exact fun G σ H ev iv Q q => key G σ H ev iv Q fun l vs ds H' i' l' ⟨hl, hR⟩ dqs => q l vs ds H' i' l' (List.ext_getElem? fun i => by
    by_cases hlt : i < ds.length
    · obtain ⟨d, _, h2⟩ := hR i _ (List.getElem?_eq_getElem hlt)
      have hx : es[i]? = some es[i] := List.getElem?_eq_getElem (by omega)
      rw [hx, List.getElem?_eq_getElem hlt, h2 _ hx]
    · rw [List.getElem?_eq_none (by omega), List.getElem?_eq_none (by omega)]) dqs
/-- in a block that owns: such an object is an object from now on -/
theorem b_lower {M B C' : List Sl → Prop} {R : Rv → Prop} {fs : List (Str × PyData)} {f : Str} (hi : Γ[i]? = some (.sem (InsP K C fs f ds))) (h : Bk K ts (Γ.set i (.ins C fs)) M R B C') : Bk K ts Γ M R B C' := fun G S σ H D ev k1 k2 k3 k4 => by
  have hil : i < Γ.length := (List.getElem?_eq_some_iff.mp hi).1
  refine h G S σ H D ⟨ev.ok, ev.inv, by rw [List.length_set]; exact ev.len, fun j t hj => ?_, fun p q s t a hpq hp hq o1 o2 => ?_⟩ k1 k2 k3 k4
  · by_cases z : i = j
    · subst z
      rw [List.getElem?_set_self hil] at hj
      cases hj
      rcases ev.sl i _ hi with z | ⟨v, hv, b⟩
      · cases z
      · obtain ⟨a, dx, vs, e1, e2, e3, _⟩ := b _ (Ex.refl _)
        exact .inr ⟨v, hv, a, dx, vs, e1, e2, e3⟩
    · rw [List.getElem?_set_ne z] at hj
      exact ev.sl j t hj
  · have hp' : Γ[p]? = some s := by
      by_cases z : i = p
      · subst z
        rw [List.getElem?_set_self hil] at hp
        cases hp
        cases o1
      · rwa [List.getElem?_set_ne z] at hp
    have hq' : Γ[q]? = some t := by
      by_cases z : i = q
      · subst z
        rw [List.getElem?_set_self hil] at hq
        cases hq
        cases o2
      · rwa [List.getElem?_set_ne z] at hq
    exact ev.ne p q s t a hpq hp' hq' o1 o2
end
end L2

set_option Elab.async false
set_option linter.all false
set_option maxRecDepth 100000
set_option maxHeartbeats 4000000
/-! Blocks over places that own lists, which may raise one class of two fields: what is owned is given back. -/
namespace L2
open PySem PySem.Spec PyProof.Rows
open Evl (Ex)
def ExB (K : PySem.W.Frag) (G : Fr) (S : OS) (H : Hp) (Cx : Addr) (E : XK) (f g : Str) (PX : PyData → PyData → Prop) : Prop := ∀ (dx : Addr) (H' : Hp) (x y : V) (p i : PyData), G.inv H' → Ex ((G.owns S).view H) (G.view H') → PX p i → Dq K (G.view H') x p → Dq K (G.view H') y i → G.view H' dx = some (.xd [(g, y), (f, x)]) → E (.ref Cx) (some dx) H'
theorem ExB.le {K : PySem.W.Frag} {G : Fr} {S S' : OS} {H H' : Hp} {Cx : Addr} {E : XK} {f g : Str} {PX PY : PyData → PyData → Prop} (h : ExB K G S H Cx E f g PX) (e : Ex ((G.owns S).view H) ((G.owns S').view H')) (hp : ∀ p i, PY p i → PX p i) : ExB K G S' H' Cx E f g PY := fun dx H2 x y p i a l c => h dx H2 x y p i a (L2.ext e l) (hp p i c)
def BkX (K : PySem.W.Frag) (Cx : Addr) (E : XK) (f g : Str) (ts : TS) (Γ : List Sl) (M : List Sl → Prop) (R : Rv → Prop) (B C : List Sl → Prop) (PX : PyData → PyData → Prop) : Prop := ∀ (G : Fr) (S : OS) (σ : L2.St) (H : Hp) (D : Ends), EnvB K G S H σ Γ →
  (∀ σ' H' S' Γ', Ex ((G.owns S).view H) ((G.owns S').view H') → EnvB K G S' H' σ' Γ' → M Γ' → D.nx σ' H') →
  (∀ v r H' S', Ex ((G.owns S).view H) ((G.owns S').view H') → S'.ok → (G.owns S').inv H' → R r → RvOk K G S' H' v r → D.rt v H') →
  (∀ σ' H' S' Γ', Ex ((G.owns S).view H) ((G.owns S').view H') → EnvB K G S' H' σ' Γ' → B Γ' → D.bk σ' H') →
  (∀ σ' H' S' Γ', Ex ((G.owns S).view H) ((G.owns S').view H') → EnvB K G S' H' σ' Γ' → C Γ' → D.ct σ' H') → ExB K G S H Cx E f g PX → ts D σ H
section
variable {K : PySem.W.Frag} {Cx : Addr} {E : XK} {f g' : Str} {Γ Γ' Γ2 : List Sl} {ts tu : TS} {tt : TT} {te tb : TE} {ta : TA} {wi : TI} {g : TG} {M M' B C : List Sl → Prop} {R R' : Rv → Prop} {P : PyData → Prop} {PX PY : PyData → PyData → Prop} {i j : Nat}
theorem bx_of (h : Bk K ts Γ M R B C) : BkX K Cx E f g' ts Γ M R B C PX := fun G S σ H D ev k1 k2 k3 k4 _ => h G S σ H D ev k1 k2 k3 k4
theorem bx_seq (h : BkX K Cx E f g' ts Γ M' R B C PX) (h2 : ∀ Γ', M' Γ' → BkX K Cx E f g' tu Γ' M R B C PX) : BkX K Cx E f g' (tSeq ts tu) Γ M R B C PX := fun G S σ H D ev k1 k2 k3 k4 kx =>
  h G S σ H { D with nx := tu D } ev (fun σ1 H1 S1 Γ1 e1 ev1 m1 => h2 Γ1 m1 G S1 σ1 H1 D ev1 (fun σ' H' S' Γ' e => k1 σ' H' S' Γ' (L2.ext e1 e)) (fun v r H' S' e => k2 v r H' S' (L2.ext e1 e)) (fun σ' H' S' Γ' e => k3 σ' H' S' Γ' (L2.ext e1 e)) (fun σ' H' S' Γ' e => k4 σ' H' S' Γ' (L2.ext e1 e)) (kx.le e1 fun _ _ h => h)) k2 k3 k4 kx
theorem bx_w (w : W Γ Γ') (h : BkX K Cx E f g' ts Γ' M R B C PX) : BkX K Cx E f g' ts Γ M R B C PX := fun G S σ H D ev => h G S σ H D (ev.weak w)
theorem bx_if {b : Bool} (h : EvB K tt (rel Γ) (· = b)) (h1 : b = true → BkX K Cx E f g' ts Γ M R B C PX) (h2 : b = false → BkX K Cx E f g' tu Γ M R B C PX) : BkX K Cx E f g' (tIfS tt ts tu) Γ M R B C PX := fun G S σ H D ev k1 k2 k3 k4 kx =>
  h G σ H ev.out ev.inv.1 _ fun c H1 i1 l1 pb => by
    subst pb
    have ev1 := ev.le0 i1 l1
    have lr := le_rel ev.inv l1
    have go : ∀ {t : TS}, BkX K Cx E f g' t Γ M R B C PX → t D σ H1 := fun h => h G S σ H1 D ev1 (fun σ' H' S' Γ' e => k1 σ' H' S' Γ' (L2.ext lr e)) (fun v r H' S' e => k2 v r H' S' (L2.ext lr e)) (fun σ' H' S' Γ' e => k3 σ' H' S' Γ' (L2.ext lr e)) (fun σ' H' S' Γ' e => k4 σ' H' S' Γ' (L2.ext lr e)) (kx.le lr fun _ _ h => h)
    cases c with
    | true => exact go (h1 rfl)
    | false => exact go (h2 rfl)
/-- raise C(p, i) -/
theorem bx_raise (h : EvL' K ta (rel Γ) (fun ds => ∃ p i, ds = [p, i] ∧ PX p i)) : BkX K Cx E f g' (fun _ σ H => tMkO Cx (spI2 Cx f g') [] ta σ H fun cls d H' => E cls d H') Γ M R B C PX := fun G S σ H D ev k1 k2 k3 k4 kx =>
  h G σ H ev.out ev.inv.1 _ fun vs ss H1 i1 l1 ⟨ds, e1, p, i, e2, px⟩ dqs => by
    subst e1
    subst e2
    have dqs := args_dats dqs
    cases dqs with
    | @cons x _ _ _ q1 t1 =>
      cases t1 with
      | @cons y _ _ _ q2 t2 =>
        cases t2
        refine ⟨by show 2 ≤ 1000; decide, fun a ha => ⟨a, x, y, rfl, upd_same, fun dx hdx hne => ⟨rfl, dx, [(g', y), (f, x)], by rw [upd_ne (Ne.symm hne)]; exact upd_same, upd_same, by rwa [upd_ne hne] at hdx, ?_⟩⟩⟩
        have hdx1 : H1 dx = none := by rwa [upd_ne hne] at hdx
        have e : upd (del (upd (upd (upd (upd H1 a (exo a Cx none)) dx (exd dx [(f, x)])) a (exo a Cx (some dx))) dx (exd dx [(g', y), (f, x)])) a) dx (.xd [(g', y), (f, x)]) = upd H1 dx (.xd [(g', y), (f, x)]) := by
          funext b
          by_cases hb : b = dx
          · subst hb; rw [upd_same, upd_same]
          · rw [upd_ne hb, upd_ne hb]
            by_cases hb2 : b = a
            · subst hb2; rw [del_same, ha]
            · rw [del_ne hb2, upd_ne hb, upd_ne hb2, upd_ne hb, upd_ne hb2]
        show E _ _ _
        rw [e]
        obtain ⟨i2, l2, v2⟩ := Fr.new (o := .xd [(g', y), (f, x)]) i1 hdx1
        exact kx dx _ x y p i i2 (L2.ext owns_sub (L2.ext l1 l2)) px (q1.ex l2) (q2.ex l2) v2
/-- x = f(..), f may raise -/
theorem bx_call {pre : List PyData → Res → Prop} (ds : List PyData) (r : Res) (hi : i < Γ.length) (h : EvL' K ta Γ (· = ds)) (hp : pre ds r) (hx : ∀ p i, r = .inr (p, i) → PX p i) (h2 : ∀ d, r = .inl d → M (Γ.set i (.dat d))) :
    BkX K Cx E f g' (tAsg (tCall (spX K Cx f g' pre) [] E ta) (gName i)) Γ M R B C PX := fun G S σ H D ev k1 k2 k3 k4 kx =>
  h (G.owns S) σ H ev.in ev.inv _ fun vs ss H1 i1 l1 ⟨es, e1, e2⟩ dqs => by
    subst e1
    subst e2
    rw [List.append_nil]
    refine ⟨G.owns S, es, r, i1, args_dats dqs, hp, fun v d H2 i2 l2 pv dq => ?_, fun dx H2 x y p i a l c d1 d2 z => kx dx H2 x y p i a.1 (L2.ext l1 (L2.ext l owns_sub)) (hx p i c) (d1.ex owns_sub) (d2.ex owns_sub) (owns_sub _ _ z)⟩
    exact k1 _ H2 S _ (L2.ext l1 l2) ((ev.le1 i2 (L2.ext l1 l2)).set (s := .dat d) hi rfl dq) (h2 d pv)
theorem bx_for {I : Nat → List Sl → Prop} {n : Nat} {Pi : Nat → PyData → Prop} {N : Nat → List Sl → PyData → List Sl} (hi : EvI0 K wi Γ (· = n) Pi) (h0 : I 0 Γ) (hg : ∀ i Γ', i < n → I i Γ' → TgB K g Γ' (Pi i) (N i Γ'))
    (hb : ∀ i Γ' d, i < n → I i Γ' → Pi i d → BkX K Cx E f g' tu (N i Γ' d) (fun Γ2 => ∃ Γ3, W Γ2 Γ3 ∧ I (i + 1) Γ3) R M (fun Γ2 => ∃ Γ3, W Γ2 Γ3 ∧ I (i + 1) Γ3) PX) (hn : ∀ Γ', I n Γ' → M Γ') : BkX K Cx E f g' (tFor wi g tu) Γ M R B C PX := fun G S σ H D ev k1 k2 k3 k4 kx => by
  refine hi (G.owns S) σ H ev.in ev.inv _ fun n' J H1 e1 iv1 l1 w => ?_
  subst e1
  let Iv : Nat → L2.St → Hp → Prop := fun i σ' H' => ∃ S' Γ', Ex ((G.owns S).view H1) ((G.owns S').view H') ∧ EnvB K G S' H' σ' Γ' ∧ I i Γ'
  refine ⟨fun i c σ' H' => c = n' - i ∧ i ≤ n' ∧ Iv i σ' H', ⟨n', by simp, Nat.zero_le _, S, Γ, fun _ _ h => h, ev.le1 iv1 l1, h0⟩, ?_⟩
  rintro i c σ2 H2 ⟨rfl, hle, S2, Γ2, e2, ev2, ii⟩
  have w2 := w (G.owns S2) H2 e2 ev2.inv
  by_cases hlt : i < n'
  · refine .inr ⟨(w2.1 i hlt).1, fun σ' H' => i + 1 ≤ n' ∧ Iv (i + 1) σ' H', fun σ' H' h' => ⟨n' - (i + 1), by omega, rfl, h'⟩, fun x H3 hy => ?_⟩
    obtain ⟨iv3, l3, d, pd, dq⟩ := (w2.1 i hlt).2 x H3 hy
    refine hg i Γ2 hlt ii G S2 σ2 H3 x d (ev2.le1 iv3 l3) pd dq _ fun σ3 ev3 => ?_
    have en : Ex ((G.owns S).view H1) ((G.owns S2).view H3) := L2.ext e2 l3
    have go : ∀ σ' H' S' Γ', Ex ((G.owns S2).view H3) ((G.owns S').view H') → EnvB K G S' H' σ' Γ' → (∃ Γ3, W Γ' Γ3 ∧ I (i + 1) Γ3) → i + 1 ≤ n' ∧ Iv (i + 1) σ' H' := fun σ' H' S' Γ' e' ev' ⟨Γ3, w3, i3⟩ => ⟨hlt, S', Γ3, L2.ext en e', ev'.weak w3, i3⟩
    exact hb i Γ2 d hlt ii pd G S2 σ3 H3 _ ev3 go (fun v r H' S' e' => k2 v r H' S' (L2.ext l1 (L2.ext en e'))) (fun σ' H' S' Γ' e' ev' m => k1 σ' H' S' Γ' (L2.ext l1 (L2.ext en e')) ev' m) go (kx.le (L2.ext l1 en) fun _ _ h => h)
  · obtain rfl : i = n' := by omega
    exact .inl ⟨w2.2, k1 σ2 H2 S2 Γ2 (L2.ext l1 e2) ev2 (hn Γ2 ii)⟩
theorem isA_dats (ds : List PyData) : (ds.map Sl.dat).all isA = true := List.all_eq_true.mpr fun s h => by
  obtain ⟨d, _, e⟩ := List.mem_map.mp h
  subst e
  rfl
theorem doneBX {G : Fr} {H : Hp} {vs : List V} {ds : List PyData} {D : Ends} {N : List Str} (n : Nat) (hs : L2.start N vs = vs.map some ++ List.replicate n none) (h : BkX K Cx E f g' ts (ds.map .dat ++ List.replicate n .any) NoB (RD P) NoB NoB PX) (iv : G.inv H) (a : DqAll K (G.view H) vs ds)
    (k : ∀ v d H', G.inv H' → G.le H H' → P d → Dq K (G.view H') v d → D.rt v H') (kx : ExR K G Cx E f g' PX H) : ts D (L2.start N vs) H := by
  rw [hs]
  refine h G OS.nil _ H D (envStartB n (isA_dats ds) iv (argsOf a)) (fun _ _ _ _ _ _ m => m.elim) (fun v r H' S' e o i' ⟨d, e2, p⟩ q => ?_) (fun _ _ _ _ _ _ m => m.elim) (fun _ _ _ _ _ _ m => m.elim) fun dx H' x y p i a l c d1 d2 z => kx dx H' x y p i a (by rw [owns_nil] at l; exact l) c d1 d2 z
  subst e2
  rw [owns_nil] at e
  exact k v d H' i'.1 (L2.ext e owns_sub) p (Dq.ex owns_sub q)
end
end L2

set_option Elab.async false
set_option linter.all false
set_option maxRecDepth 100000
set_option maxHeartbeats 4000000
/-! An __init__ that may raise, its fields told where it does not; a def that does not raise at good arguments. -/
namespace L2
open PySem PySem.Spec PyProof.Rows
open Evl (Ex)
/-- what such an __init__ answers: fields, or the two fields of what it raises -/
abbrev ResF := Sum (List (Str × PyData)) (PyData × PyData)
def InitXF (K : PySem.W.Frag) (C Cx : Addr) (E : XK) (f g : Str) (ts : TS) (Γ : List Sl) (j : Nat) (PF : List (Str × PyData) → Prop) (PX : PyData → PyData → Prop) : Prop := ∀ (G : Fr) (σ : L2.St) (H : Hp) (D : Ends) (x dx : Addr), EnvOk K (G.own x (.ins C dx [])) H σ Γ → (G.own x (.ins C dx [])).inv H → σ[j]? = some (some (.ref x)) →
  (∀ σ' H' us fs, (G.own x (.ins C dx us)).inv H' → Ex ((G.own x (.ins C dx [])).view H) ((G.own x (.ins C dx us)).view H') → PF fs → DqFs K ((G.own x (.ins C dx us)).view H') us fs → D.nx σ' H') → ExR K (G.own x (.ins C dx [])) Cx E f g PX H → ts D σ H
def spInitXF (K : PySem.W.Frag) (C Cx : Addr) (f g : Str) (pre : List PyData → ResF → Prop) : Sp := fun vs H Q E => ∃ (G : Fr) (x dx : Addr) (ws : List V) (ds : List PyData) (r : ResF), vs = .ref x :: ws ∧ (G.own x (.ins C dx [])).inv H ∧ DqAll K ((G.own x (.ins C dx [])).view H) ws ds ∧ pre ds r ∧
  (∀ H' us fs, (G.own x (.ins C dx us)).inv H' → Ex ((G.own x (.ins C dx [])).view H) ((G.own x (.ins C dx us)).view H') → r = .inl fs → DqFs K ((G.own x (.ins C dx us)).view H') us fs → Q .non H') ∧ ExR K (G.own x (.ins C dx [])) Cx E f g (fun p i => r = .inr (p, i)) H
section
variable {K : PySem.W.Frag} {C Cx : Addr} {E : XK} {f g' : Str} {Γ Γ' : List Sl} {te tb tv tc : TE} {ta : TA} {tu ts : TS} {tt : TT} {P P' : PyData → Prop} {PX : PyData → PyData → Prop} {PF : List (Str × PyData) → Prop} {j : Nat}
theorem if_of {f1 : List (Str × PyData)} (hg : PF f1) (h : Inits K C ts Γ j [] f1) : InitXF K C Cx E f g' ts Γ j PF PX := fun G σ H D x dx ev iv hj k _ => h G σ H D x dx [] ev iv hj .nil fun σ' H' us i' e' q => k σ' H' us _ i' e' hg q
theorem if_if (b : Bool) (h : EvB K tt Γ (· = b)) (h1 : b = true → RetX K Cx E f g' ts Γ (fun _ => False) PX) (h2 : b = false → InitXF K C Cx E f g' tu Γ j PF PX) : InitXF K C Cx E f g' (tSeq (tIfS tt ts tNext) tu) Γ j PF PX := fun G σ H D x dx ev iv hj k kx =>
  h _ σ H ev iv _ fun c H1 i1 l1 e => by
    subst e
    cases c with
    | true => exact h1 rfl _ σ H1 _ (ev.le l1) i1 (fun v d H' _ _ h => h.elim) (kx.le l1 fun _ _ h => h)
    | false => exact h2 rfl G σ H1 _ x dx (ev.le l1) i1 hj (fun σ' H' us fs i' e' => k σ' H' us fs i' fun c u h => e' c u (l1 c u h)) (kx.le l1 fun _ _ h => h)
theorem if_call {i : Nat} {pre : List PyData → Res → Prop} (ds : List PyData) (r : Res) (hi : i < Γ.length) (hij : i ≠ j) (h : EvL' K ta Γ (· = ds)) (hp : pre ds r) (hx : ∀ p i, r = .inr (p, i) → PX p i) (h2 : ∀ d, r = .inl d → InitXF K C Cx E f g' tu (Γ.set i (.dat d)) j PF PX) :
    InitXF K C Cx E f g' (tSeq (tAsg (tCall (spX K Cx f g' pre) [] E ta) (gName i)) tu) Γ j PF PX := fun G σ H D x dx ev iv hj k kx =>
  h _ σ H ev iv _ fun vs ss H1 i1 l1 ⟨es, e1, e2⟩ dqs => by
    subst e1
    subst e2
    rw [List.append_nil]
    refine ⟨_, es, r, i1, args_dats dqs, hp, fun v d H2 i2 l2 pv dq => ?_, kx.le l1 hx⟩
    exact h2 d pv G _ H2 _ x dx ((ev.le (l1.trans l2)).set hi dq) i2 (by rw [List.getElem?_set_ne hij]; exact hj) (fun σ' H' us fs i' e' => k σ' H' us fs i' fun c u h => e' c u ((l1.trans l2) c u h)) (kx.le (l1.trans l2) fun _ _ h => h)
end
theorem codeX_no {P : Program} {w : World} {outer : List Env} {H : Hp} {s : Shared} {u : Value} {s' : Shared} (h : L2.CX P w outer H s E0 u s') : False := by
  obtain ⟨a, B, H', cls, d, h⟩ := h
  exact h.2.2.2.2.2.2.2
/-- where no way out is asked for, nothing is raised -/
theorem FnOk.noX {P : Program} {w : World} {K : PySem.W.Frag} {mg : Str → Option Value} {base : Heap} {k : Nat} {f : Addr} {fd : FuncData} {ps : List Str} {sp sp0 : Sp} (F : FnOk P w K mg base (L2.CX P w) k f fd ps sp) (hs : ∀ vs H Q E, sp0 vs H Q E → sp vs H Q E0) : FnOk P w K mg base CX0 k f fd ps sp0 :=
  ⟨fun vs H Q E q => F.len vs H Q E0 (hs vs H Q E q), fun A outer s H args us vs Q E hr env b v q => codeAny_mono (F.run A outer s H args us vs Q E0 hr env b v (hs vs H Q E q)) fun r s' z => by
    rcases r with e | fl
    · exact (codeX_no z).elim
    · cases fl <;> exact z⟩
theorem exr_no {K : PySem.W.Frag} {G : Fr} {C : Addr} {E : XK} {f g : Str} {PX : PyData → PyData → Prop} {H : Hp} (h : ∀ p i, ¬ PX p i) : ExR K G C E f g PX H := fun dx H' x y p i _ _ c => (h p i c).elim
/-- the answer alone, of a def that may raise elsewhere -/
theorem FnOk.good {P : Program} {w : World} {K : PySem.W.Frag} {mg : Str → Option Value} {base : Heap} {k : Nat} {fa : Addr} {fd : FuncData} {ps : List Str} {Cx : Addr} {f g : Str} {pre : List PyData → Res → Prop} (pre0 : List PyData → Prop) (fn : List PyData → PyData) (F : FnOk P w K mg base (L2.CX P w) k fa fd ps (spX K Cx f g pre)) (h : ∀ ds, pre0 ds → pre ds (.inl (fn ds))) :
    FnOk P w K mg base CX0 k fa fd ps (spD K pre0 fn) := F.noX fun vs H Q E ⟨G, ds, iv, a, hp, q⟩ => ⟨G, ds, .inl (fn ds), iv, a, h ds hp, fun v d H' i l e dq => q v H' i l (by cases e; exact dq), exr_no fun p i z => nomatch z⟩
/-- the object alone, of an __init__ that may raise elsewhere -/
theorem FnOk.goodI {P : Program} {w : World} {K : PySem.W.Frag} {mg : Str → Option Value} {base : Heap} {k : Nat} {fa : Addr} {fd : FuncData} {ps : List Str} {C Cx : Addr} {f g : Str} {pre : List PyData → ResF → Prop} (pre0 : List PyData → Prop) (fields : List PyData → List (Str × PyData)) (F : FnOk P w K mg base (L2.CX P w) k fa fd ps (spInitXF K C Cx f g pre)) (h : ∀ ds, pre0 ds → pre ds (.inl (fields ds))) :
    FnOk P w K mg base CX0 k fa fd ps (spInit K C pre0 fields) := F.noX fun vs H Q E ⟨G, x, dx, ws, ds, e, iv, a, hp, q⟩ => ⟨G, x, dx, ws, ds, .inl (fields ds), e, iv, a, h ds hp, fun H' us fs i l e dq => q H' us i l (by cases e; exact dq), exr_no fun p i z => nomatch z⟩
/-- whether it raises alone -/
theorem FnOk.rais {P : Program} {w : World} {K : PySem.W.Frag} {mg : Str → Option Value} {base : Heap} {k : Nat} {fa : Addr} {fd : FuncData} {ps : List Str} {C Cx : Addr} {f g : Str} {pre : List PyData → ResF → Prop} (pre0 : List PyData → Res → Prop) (F : FnOk P w K mg base (L2.CX P w) k fa fd ps (spInitXF K C Cx f g pre)) (h : ∀ ds r, pre0 ds r → (∃ fs d, r = .inl d ∧ pre ds (.inl fs)) ∨ ∃ p, r = .inr p ∧ pre ds (.inr p)) :
    FnOk P w K mg base (L2.CX P w) k fa fd ps (spInitX K C Cx f g pre0) := F.imp fun vs H Q E ⟨G, x, dx, ws, ds, r, e, iv, a, hp, q, qx⟩ => by
  rcases h ds r hp with ⟨fs, d, e1, e2⟩ | ⟨p, e1, e2⟩
  · subst e1
    exact ⟨G, x, dx, ws, ds, .inl fs, e, iv, a, e2, fun H' us fs i l _ _ => q H' us i l ⟨d, rfl⟩, exr_no fun p i z => nomatch z⟩
  · subst e1
    exact ⟨G, x, dx, ws, ds, .inr p, e, iv, a, e2, ⟨fun H' us fs i l z _ => (by cases z), fun dx' H' x' y p' i' a' l' c => qx dx' H' x' y p' i' a' l' (by cases c; rfl)⟩⟩
end L2

set_option Elab.async false
set_option linter.all false
set_option maxRecDepth 100000
set_option maxHeartbeats 4000000
/-! Blocks and expressions that raise classes of any kind, told by their fields. -/
namespace L2
open PySem PySem.Spec PyProof.Rows
open Evl (Ex)
/-- what is raised: the class, its fields -/
abbrev PXs := Addr → List (Str × PyData) → Prop
def ExGr (K : PySem.W.Frag) (G : Fr) (E : XK) (PX : PXs) (H : Hp) : Prop := ∀ (C dx : Addr) (H' : Hp) (xs : List (Str × V)) (fs : List (Str × PyData)), G.inv H' → G.le H H' → PX C fs → DqFs K (G.view H') xs fs → G.view H' dx = some (.xd xs) → E (.ref C) (some dx) H'
def ExG (K : PySem.W.Frag) (G : Fr) (S : OS) (H : Hp) (E : XK) (PX : PXs) : Prop := ∀ (C dx : Addr) (H' : Hp) (xs : List (Str × V)) (fs : List (Str × PyData)), G.inv H' → Ex ((G.owns S).view H) (G.view H') → PX C fs → DqFs K (G.view H') xs fs → G.view H' dx = some (.xd xs) → E (.ref C) (some dx) H'
section
variable {K : PySem.W.Frag} {G : Fr} {S S' : OS} {H H' : Hp} {E : XK} {PX PY : PXs}
theorem ExGr.le (h : ExGr K G E PX H) (l : G.le H H') (hp : ∀ C fs, PY C fs → PX C fs) : ExGr K G E PY H' := fun C dx H2 xs fs a b c d e => h C dx H2 xs fs a (l.trans b) (hp C fs c) d e
theorem ExG.le (h : ExG K G S H E PX) (e : Ex ((G.owns S).view H) ((G.owns S').view H')) (hp : ∀ C fs, PY C fs → PX C fs) : ExG K G S' H' E PY := fun C dx H2 xs fs a l c d z => h C dx H2 xs fs a (L2.ext e l) (hp C fs c) d z
theorem ExG.out (h : ExG K G S H E PX) : ExGr K G E PX H := fun C dx H2 xs fs a l c d z => h C dx H2 xs fs a (L2.ext owns_sub l) c d z
theorem ExG.in (h : ExG K G S H E PX) : ExGr K (G.owns S) E PX H := fun C dx H2 xs fs a l c d z => h C dx H2 xs fs a.1 (L2.ext l owns_sub) c (d.ex owns_sub) (owns_sub _ _ z)
theorem ExGr.no (h : ∀ C fs, ¬ PX C fs) : ExGr K G E PX H := fun C dx H2 xs fs _ _ c => (h C fs c).elim
end
/-- an expression that answers or raises -/
def EvG (K : PySem.W.Frag) (E : XK) (te : TE) (Γ : List Sl) (P : PyData → Prop) (PX : PXs) : Prop := ∀ (G : Fr) (σ : L2.St) (H : Hp), EnvOk K G H σ Γ → G.inv H → ∀ Q : VK, (∀ v d H', G.inv H' → G.le H H' → P d → Dq K (G.view H') v d → Q v H') → ExGr K G E PX H → te σ H Q
def BkG (K : PySem.W.Frag) (E : XK) (ts : TS) (Γ : List Sl) (M : List Sl → Prop) (R : Rv → Prop) (B C : List Sl → Prop) (PX : PXs) : Prop := ∀ (G : Fr) (S : OS) (σ : L2.St) (H : Hp) (D : Ends), EnvB K G S H σ Γ →
  (∀ σ' H' S' Γ', Ex ((G.owns S).view H) ((G.owns S').view H') → EnvB K G S' H' σ' Γ' → M Γ' → D.nx σ' H') →
  (∀ v r H' S', Ex ((G.owns S).view H) ((G.owns S').view H') → S'.ok → (G.owns S').inv H' → R r → RvOk K G S' H' v r → D.rt v H') →
  (∀ σ' H' S' Γ', Ex ((G.owns S).view H) ((G.owns S').view H') → EnvB K G S' H' σ' Γ' → B Γ' → D.bk σ' H') →
  (∀ σ' H' S' Γ', Ex ((G.owns S).view H) ((G.owns S').view H') → EnvB K G S' H' σ' Γ' → C Γ' → D.ct σ' H') → ExG K G S H E PX → ts D σ H
/-- the promise of a def that may raise -/
def spRz (K : PySem.W.Frag) {γ : Type} (pre : γ → List Sl → Prop) (post : γ → PyData → Prop) (px : γ → PXs) : Sp := fun vs H Q E => ∃ (G : Fr) (ss : List Sl) (c : γ), G.inv H ∧ ArgsOk K G H vs ss ∧ pre c ss ∧ (∀ v d H', G.inv H' → G.le H H' → post c d → Dq K (G.view H') v d → Q v H') ∧ ExGr K G E (px c) H
section
variable {K : PySem.W.Frag} {E : XK} {Γ Γ' Γ2 : List Sl} {ts tu : TS} {tt : TT} {te tb : TE} {ta : TA} {wi : TI} {g : TG} {M M' B C : List Sl → Prop} {R R' : Rv → Prop} {P P' : PyData → Prop} {PX PY : PXs} {PS : List Sl → Prop} {i j : Nat}
theorem eg_of (h : EvD K te Γ P) : EvG K E te Γ P PX := fun G σ H ev iv Q q _ => h G σ H ev iv Q q
theorem EvG.imp (h : EvG K E te Γ P PX) (hp : ∀ d, P d → P' d) (hx : ∀ C fs, PX C fs → PY C fs) : EvG K E te Γ P' PY := fun G σ H ev iv Q q kx => h G σ H ev iv Q (fun v d H' i l p => q v d H' i l (hp d p)) (kx.le .refl hx)
theorem eg_call {γ : Type} {pre : γ → List Sl → Prop} {post : γ → PyData → Prop} {px : γ → PXs} (c : γ) (h : EvS K ta Γ PS) (hp : ∀ ss, PS ss → pre c ss) : EvG K E (tCall (spRz K pre post px) [] E ta) Γ (post c) (px c) := fun G σ H ev iv Q q kx =>
  h G σ H ev iv _ fun vs ss H1 i1 l1 p1 dqs => by
    rw [List.append_nil]
    exact ⟨G, ss, c, i1, dqs, hp ss p1, fun v d H' i' l' => q v d H' i' (l1.trans l'), kx.le l1 fun _ _ h => h⟩
theorem eg_ixL {m : Int} {ds : List PyData} {d : PyData} (h : EvG K E te Γ (· = .list ds) PX) (h2 : EvD K tb Γ (· = .int m)) (hd : atI ds m = some d) : EvG K E (tOp (rIxL K) te tb) Γ (· = d) PX := fun G σ H ev iv Q q kx =>
  h G σ H ev iv _ (fun v d1 H1 i1 l1 p1 dq => by
    subst p1
    refine h2 G σ H1 (ev.le l1) i1 _ fun v2 d2 H2 i2 l2 p2 dq2 => ?_
    subst p2
    cases dq2
    cases dq.ex l2 with
    | lst hs ha =>
      obtain ⟨w, hw, hwd⟩ := dq_atI ha hd
      exact ⟨_, _, _, _, rfl, rfl, Fr.upL hs, hw, q w d H2 i2 (l1.trans l2) rfl hwd⟩) kx
theorem eg_ixT {m : Int} {ds : List PyData} {d : PyData} (h : EvG K E te Γ (· = .tuple ds) PX) (h2 : EvD K tb Γ (· = .int m)) (hd : atI ds m = some d) : EvG K E (tOp (rIxT K) te tb) Γ (· = d) PX := fun G σ H ev iv Q q kx =>
  h G σ H ev iv _ (fun v d1 H1 i1 l1 p1 dq => by
    subst p1
    refine h2 G σ H1 (ev.le l1) i1 _ fun v2 d2 H2 i2 l2 p2 dq2 => ?_
    subst p2
    cases dq2
    cases dq.ex l2 with
    | tup hs ha =>
      obtain ⟨w, hw, hwd⟩ := dq_atI ha hd
      exact ⟨_, _, _, _, rfl, rfl, Fr.upT hs, hw, q w d H2 i2 (l1.trans l2) rfl hwd⟩) kx
theorem bg_of (h : Bk K ts Γ M R B C) : BkG K E ts Γ M R B C PX := fun G S σ H D ev k1 k2 k3 k4 _ => h G S σ H D ev k1 k2 k3 k4
theorem bg_seq (h : BkG K E ts Γ M' R B C PX) (h2 : ∀ Γ', M' Γ' → BkG K E tu Γ' M R B C PX) : BkG K E (tSeq ts tu) Γ M R B C PX := fun G S σ H D ev k1 k2 k3 k4 kx =>
  h G S σ H { D with nx := tu D } ev (fun σ1 H1 S1 Γ1 e1 ev1 m1 => h2 Γ1 m1 G S1 σ1 H1 D ev1 (fun σ' H' S' Γ' e => k1 σ' H' S' Γ' (L2.ext e1 e)) (fun v r H' S' e => k2 v r H' S' (L2.ext e1 e)) (fun σ' H' S' Γ' e => k3 σ' H' S' Γ' (L2.ext e1 e)) (fun σ' H' S' Γ' e => k4 σ' H' S' Γ' (L2.ext e1 e)) (kx.le e1 fun _ _ h => h)) k2 k3 k4 kx
theorem BkG.imp (h : BkG K E ts Γ M' R' B C PY) (hm : ∀ Γ', M' Γ' → M Γ') (hr : ∀ r, R' r → R r) (hx : ∀ C fs, PY C fs → PX C fs) : BkG K E ts Γ M R B C PX := fun G S σ H D ev k1 k2 k3 k4 kx => h G S σ H D ev (fun σ' H' S' Γ' e ev' m => k1 σ' H' S' Γ' e ev' (hm Γ' m)) (fun v r H' S' e o i p => k2 v r H' S' e o i (hr r p)) k3 k4 (kx.le (fun _ _ h => h) hx)
theorem bg_w (w : W Γ Γ') (h : BkG K E ts Γ' M R B C PX) : BkG K E ts Γ M R B C PX := fun G S σ H D ev => h G S σ H D (ev.weak w)
theorem bg_to (h : BkG K E ts Γ (fun Γ' => W Γ' Γ2) R B C PX) (h2 : BkG K E tu Γ2 M R B C PX) : BkG K E (tSeq ts tu) Γ M R B C PX := bg_seq h fun Γ' w => bg_w w h2
theorem bg_if {b : Bool} (h : EvB K tt (rel Γ) (· = b)) (h1 : b = true → BkG K E ts Γ M R B C PX) (h2 : b = false → BkG K E tu Γ M R B C PX) : BkG K E (tIfS tt ts tu) Γ M R B C PX := fun G S σ H D ev k1 k2 k3 k4 kx =>
  h G σ H ev.out ev.inv.1 _ fun c H1 i1 l1 pb => by
    subst pb
    have ev1 := ev.le0 i1 l1
    have lr := le_rel ev.inv l1
    have go : ∀ {t : TS}, BkG K E t Γ M R B C PX → t D σ H1 := fun h => h G S σ H1 D ev1 (fun σ' H' S' Γ' e => k1 σ' H' S' Γ' (L2.ext lr e)) (fun v r H' S' e => k2 v r H' S' (L2.ext lr e)) (fun σ' H' S' Γ' e => k3 σ' H' S' Γ' (L2.ext lr e)) (fun σ' H' S' Γ' e => k4 σ' H' S' Γ' (L2.ext lr e)) (kx.le lr fun _ _ h => h)
    cases c with
    | true => exact go (h1 rfl)
    | false => exact go (h2 rfl)
/-- a test that is false: what stands behind is passed by -/
theorem bg_pass (h : EvB K tt (rel Γ) (· = false)) (h2 : BkG K E tu Γ M R B C PX) : BkG K E (tSeq (tIfS tt ts tNext) tu) Γ M R B C PX := bg_seq (M' := (· = Γ)) (bg_if h (fun e => nomatch e) fun _ => bg_of (b_next rfl)) fun Γ' e => by rw [e]; exact h2
/-- raise C(p) -/
theorem bg_raise1 {Cx : Addr} {f : Str} (h : EvL' K ta (rel Γ) (fun ds => ∃ p, ds = [p] ∧ PX Cx [(f, p)])) : BkG K E (fun _ σ H => tMkO Cx (spI1 Cx f) [] ta σ H fun cls d H' => E cls d H') Γ M R B C PX := fun G S σ H D ev k1 k2 k3 k4 kx =>
  h G σ H ev.out ev.inv.1 _ fun vs ss H1 i1 l1 ⟨ds, e1, p, e2, px⟩ dqs => by
    subst e1
    subst e2
    have dqs := args_dats dqs
    cases dqs with
    | @cons x _ _ _ q1 t1 =>
      cases t1
      refine ⟨by show 1 ≤ 1000; decide, fun a ha => ⟨a, x, rfl, upd_same, fun dx hdx hne => ⟨rfl, dx, [(f, x)], upd_same, by rw [upd_ne hne]; exact upd_same, by rwa [upd_ne hne] at hdx, ?_⟩⟩⟩
      have hdx1 : H1 dx = none := by rwa [upd_ne hne] at hdx
      have e : upd (del (upd (upd (upd H1 a (exo a Cx none)) dx (exd dx [(f, x)])) a (exo a Cx (some dx))) a) dx (.xd [(f, x)]) = upd H1 dx (.xd [(f, x)]) := by
        funext b
        by_cases hb : b = dx
        · subst hb; rw [upd_same, upd_same]
        · rw [upd_ne hb, upd_ne hb]
          by_cases hb2 : b = a
          · subst hb2; rw [del_same, ha]
          · rw [del_ne hb2, upd_ne hb2, upd_ne hb, upd_ne hb2]
      show E _ _ _
      rw [e]
      obtain ⟨i2, l2, v2⟩ := Fr.new (o := .xd [(f, x)]) i1 hdx1
      exact kx Cx dx _ [(f, x)] [(f, p)] i2 (L2.ext owns_sub (L2.ext l1 l2)) px (.cons (q1.ex l2) .nil) v2
/-- raise C(p, i) -/
theorem bg_raise2 {Cx : Addr} {f g' : Str} (h : EvL' K ta (rel Γ) (fun ds => ∃ p i, ds = [p, i] ∧ PX Cx [(g', i), (f, p)])) : BkG K E (fun _ σ H => tMkO Cx (spI2 Cx f g') [] ta σ H fun cls d H' => E cls d H') Γ M R B C PX := fun G S σ H D ev k1 k2 k3 k4 kx =>
  bx_raise (K := K) (M := M) (R := R) (B := B) (C := C) (PX := fun p i => PX Cx [(g', i), (f, p)]) h G S σ H D ev k1 k2 k3 k4 fun dx H' x y p i a l c d1 d2 z => kx Cx dx H' _ _ a l c (.cons d2 (.cons d1 .nil)) z
/-- name = e, e may raise -/
theorem bg_set1 (hi : i < Γ.length) (h : EvG K E te Γ P PX) (hm : ∀ d, P d → M (Γ.set i (.dat d))) : BkG K E (tAsg te (gName i)) Γ M R B C PX := fun G S σ H D ev k1 k2 k3 k4 kx =>
  h (G.owns S) σ H ev.in ev.inv _ (fun v d H1 i1 l1 p1 dq => k1 _ H1 S _ l1 ((ev.le1 i1 l1).set (s := .dat d) hi rfl dq) (hm d p1)) kx.in
theorem bg_set (hi : i < Γ.length) (h : EvG K E te Γ P PX) (h2 : ∀ d, P d → BkG K E tu (Γ.set i (.dat d)) M R B C PX) : BkG K E (tSeq (tAsg te (gName i)) tu) Γ M R B C PX := bg_seq (M' := fun Γ' => ∃ d, P d ∧ Γ' = Γ.set i (.dat d)) (bg_set1 hi h fun d p => ⟨d, p, rfl⟩) fun Γ' ⟨d, p, e⟩ => by rw [e]; exact h2 d p
theorem bg_setD (hi : i < Γ.length) (h : EvD K te Γ P) (h2 : ∀ d, P d → BkG K E tu (Γ.set i (.dat d)) M R B C PX) : BkG K E (tSeq (tAsg te (gName i)) tu) Γ M R B C PX := bg_set hi (eg_of h) h2
/-- a, b = e, e may raise -/
theorem bg_asg {N : PyData → List Sl} (h : EvG K E te Γ P PX) (hg : TgB K g Γ P N) (h2 : ∀ d, P d → BkG K E tu (N d) M R B C PX) : BkG K E (tSeq (tAsg te g) tu) Γ M R B C PX := bg_seq (M' := fun Γ' => ∃ d, P d ∧ Γ' = N d) (fun G S σ H D ev k1 k2 k3 k4 kx =>
  h (G.owns S) σ H ev.in ev.inv _ (fun v d H1 i1 l1 p1 dq => hg G S σ H1 v d (ev.le1 i1 l1) p1 dq _ fun σ2 ev2 => k1 σ2 H1 S _ l1 ev2 ⟨d, p1, rfl⟩) kx.in) fun Γ' ⟨d, p, e⟩ => by rw [e]; exact h2 d p
/-- a statement that is an expression, which may raise -/
theorem bg_drop1 (h : EvG K E te (rel Γ) P PX) (hm : (∃ d, P d) → M Γ) : BkG K E (tDrop te) Γ M R B C PX := fun G S σ H D ev k1 k2 k3 k4 kx =>
  h G σ H ev.out ev.inv.1 _ (fun v d H1 i1 l1 p1 dq => k1 σ H1 S Γ (le_rel ev.inv l1) (ev.le0 i1 l1) (hm ⟨d, p1⟩)) kx.out
theorem bg_drop (h : EvG K E te (rel Γ) P PX) (h2 : (∃ d, P d) → BkG K E tu Γ M R B C PX) : BkG K E (tSeq (tDrop te) tu) Γ M R B C PX := bg_seq (M' := fun Γ' => Γ' = Γ ∧ ∃ d, P d) (bg_drop1 h fun e => ⟨rfl, e⟩) fun Γ' ⟨e, p⟩ => by rw [e]; exact h2 p
/-- return e, all that is owned may be read -/
theorem bg_ret (h : EvG K E te (rel Γ) P PX) (hr : ∀ d, P d → R (.one (.dat d))) : BkG K E (tRet te) Γ M R B C PX := fun G S σ H D ev k1 k2 k3 k4 kx =>
  h G σ H ev.out ev.inv.1 _ (fun v d H1 i1 l1 p1 dq => k2 v (.one (.dat d)) H1 OS.nil (by rw [owns_nil]; exact L2.ext owns_sub l1) OS.nil_ok (by rw [owns_nil]; exact i1) (hr d p1) (by show Dq K ((G.owns OS.nil).view H1) v d; rw [owns_nil]; exact dq)) kx.out
theorem bg_for {I : Nat → List Sl → Prop} {n : Nat} {Pi : Nat → PyData → Prop} {N : Nat → List Sl → PyData → List Sl} (hi : EvI0 K wi Γ (· = n) Pi) (h0 : I 0 Γ) (hg : ∀ i Γ', i < n → I i Γ' → TgB K g Γ' (Pi i) (N i Γ'))
    (hb : ∀ i Γ' d, i < n → I i Γ' → Pi i d → BkG K E tu (N i Γ' d) (fun Γ2 => ∃ Γ3, W Γ2 Γ3 ∧ I (i + 1) Γ3) R M (fun Γ2 => ∃ Γ3, W Γ2 Γ3 ∧ I (i + 1) Γ3) PX) (hn : ∀ Γ', I n Γ' → M Γ') : BkG K E (tFor wi g tu) Γ M R B C PX := fun G S σ H D ev k1 k2 k3 k4 kx => by
  refine hi (G.owns S) σ H ev.in ev.inv _ fun n' J H1 e1 iv1 l1 w => ?_
  subst e1
  let Iv : Nat → L2.St → Hp → Prop := fun i σ' H' => ∃ S' Γ', Ex ((G.owns S).view H1) ((G.owns S').view H') ∧ EnvB K G S' H' σ' Γ' ∧ I i Γ'
  refine ⟨fun i c σ' H' => c = n' - i ∧ i ≤ n' ∧ Iv i σ' H', ⟨n', by simp, Nat.zero_le _, S, Γ, fun _ _ h => h, ev.le1 iv1 l1, h0⟩, ?_⟩
  rintro i c σ2 H2 ⟨rfl, hle, S2, Γ2, e2, ev2, ii⟩
  have w2 := w (G.owns S2) H2 e2 ev2.inv
  by_cases hlt : i < n'
  · refine .inr ⟨(w2.1 i hlt).1, fun σ' H' => i + 1 ≤ n' ∧ Iv (i + 1) σ' H', fun σ' H' h' => ⟨n' - (i + 1), by omega, rfl, h'⟩, fun x H3 hy => ?_⟩
    obtain ⟨iv3, l3, d, pd, dq⟩ := (w2.1 i hlt).2 x H3 hy
    refine hg i Γ2 hlt ii G S2 σ2 H3 x d (ev2.le1 iv3 l3) pd dq _ fun σ3 ev3 => ?_
    have en : Ex ((G.owns S).view H1) ((G.owns S2).view H3) := L2.ext e2 l3
    have go : ∀ σ' H' S' Γ', Ex ((G.owns S2).view H3) ((G.owns S').view H') → EnvB K G S' H' σ' Γ' → (∃ Γ3, W Γ' Γ3 ∧ I (i + 1) Γ3) → i + 1 ≤ n' ∧ Iv (i + 1) σ' H' := fun σ' H' S' Γ' e' ev' ⟨Γ3, w3, i3⟩ => ⟨hlt, S', Γ3, L2.ext en e', ev'.weak w3, i3⟩
    exact hb i Γ2 d hlt ii pd G S2 σ3 H3 _ ev3 go (fun v r H' S' e' => k2 v r H' S' (L2.ext l1 (L2.ext en e'))) (fun σ' H' S' Γ' e' ev' m => k1 σ' H' S' Γ' (L2.ext l1 (L2.ext en e')) ev' m) go (kx.le (L2.ext l1 en) fun _ _ h => h)
  · obtain rfl : i = n' := by omega
    exact .inl ⟨w2.2, k1 σ2 H2 S2 Γ2 (L2.ext l1 e2) ev2 (hn Γ2 ii)⟩
theorem doneBG {G : Fr} {H : Hp} {vs : List V} {ss : List Sl} {D : Ends} {N : List Str} (n : Nat) (hs : L2.start N vs = vs.map some ++ List.replicate n none) (ha : ss.all isA = true) (h : BkG K E ts (ss ++ List.replicate n .any) NoB (RD P) NoB NoB PX) (iv : G.inv H) (a : ArgsOk K G H vs ss)
    (k : ∀ v d H', G.inv H' → G.le H H' → P d → Dq K (G.view H') v d → D.rt v H') (kx : ExGr K G E PX H) : ts D (L2.start N vs) H := by
  rw [hs]
  refine h G OS.nil _ H D (envStartB n ha iv a) (fun _ _ _ _ _ _ m => m.elim) (fun v r H' S' e o i' ⟨d, e2, p⟩ q => ?_) (fun _ _ _ _ _ _ m => m.elim) (fun _ _ _ _ _ _ m => m.elim) fun C dx H' xs fs a l c d z => kx C dx H' xs fs a (by rw [owns_nil] at l; exact l) c d z
  subst e2
  rw [owns_nil] at e
  exact k v d H' i'.1 (L2.ext e owns_sub) p (Dq.ex owns_sub q)
end
/-- the answer alone, of a def that may raise elsewhere -/
theorem FnOk.goodM {P : Program} {w : World} {K : PySem.W.Frag} {mg : Str → Option Value} {base : Heap} {k : Nat} {fa : Addr} {fd : FuncData} {ps : List Str} {γ δ : Type} {pre : γ → List Sl → Prop} {post : γ → PyData → Prop} {px : γ → PXs} (pre0 : δ → List Sl → Prop) (post0 : δ → PyData → Prop) (F : FnOk P w K mg base (L2.CX P w) k fa fd ps (spRz K pre post px)) (h : ∀ c ss, pre0 c ss → ∃ c', pre c' ss ∧ (∀ d, post c' d → post0 c d) ∧ ∀ C fs, ¬ px c' C fs) :
    FnOk P w K mg base CX0 k fa fd ps (spS K pre0 post0) := F.noX fun vs H Q E ⟨G, ss, c, iv, a, hp, q⟩ => by
  obtain ⟨c', h1, h2, h3⟩ := h c ss hp
  exact ⟨G, ss, c', iv, a, h1, fun v d H' i l e dq => q v d H' i l (h2 d e) dq, ExGr.no h3⟩
end L2

set_option Elab.async false
set_option linter.all false
set_option maxRecDepth 100000
set_option maxHeartbeats 4000000
/-! Tables of code objects kept aside; a lambda handed to a def; frames told by a place. -/
namespace L2
open PySem PySem.Spec PyProof.Rows LamX
open Evl (Ex)
/-- the tables of T and the code objects that they tell -/
def HidT (T : List (Addr × Str)) (H : Hp) (b : Addr) : Prop := ∃ p ∈ T, b = p.1 ∨ ∃ ps pos, H p.1 = some (.tbl ps) ∧ codeAmong pos ps.toList = some (.ref b)
/-- from H to H1 some lambdas were made -/
structure Tgo (T : List (Addr × Str)) (H H1 : Hp) : Prop where
  keep : ∀ b o, H b = some o → b ∉ T.map (·.1) → H1 b = some o
  tabs : Tabs T H1
  new : ∀ b, HidT T H1 b → HidT T H b ∨ H b = none
theorem HidT.head {T : List (Addr × Str)} {H : Hp} {b : Addr} (h : b ∈ T.map (·.1)) : HidT T H b := by
  obtain ⟨p, hp, e⟩ := List.mem_map.mp h
  exact ⟨p, hp, .inl e.symm⟩
theorem hidT_there {T : List (Addr × Str)} {H : Hp} (hT : Tabs T H) {b : Addr} (h : HidT T H b) : H b ≠ none := by
  obtain ⟨p, hp, e | ⟨ps, pos, e1, e2⟩⟩ := h
  · obtain ⟨ps, h1, _⟩ := hT p hp
    rw [e, h1]
    exact fun z => nomatch z
  · obtain ⟨ps', h1, _, h3⟩ := hT p hp
    rw [h1] at e1
    cases e1
    obtain ⟨c, e3, e4⟩ := h3 pos _ e2
    cases e3
    rw [e4]
    exact fun z => nomatch z
/-- an object is written that no table tells -/
theorem Tgo.upd {T : List (Addr × Str)} {H : Hp} (hT : Tabs T H) {p : Addr} {o : HO} (hp : ¬ HidT T H p) : Tabs T (upd H p o) ∧ ∀ b, HidT T (L2.upd H p o) b ↔ HidT T H b := by
  have nP : ∀ q ∈ T, q.1 ≠ p := fun q hq z => hp ⟨q, hq, .inl z.symm⟩
  have key : ∀ q ∈ T, L2.upd H p o q.1 = H q.1 := fun q hq => upd_ne (nP q hq)
  refine ⟨fun q hq => ?_, fun b => ⟨fun ⟨q, hq, e⟩ => ⟨q, hq, e.imp id fun ⟨ps, pos, e1, e2⟩ => ⟨ps, pos, by rw [← key q hq]; exact e1, e2⟩⟩, fun ⟨q, hq, e⟩ => ⟨q, hq, e.imp id fun ⟨ps, pos, e1, e2⟩ => ⟨ps, pos, by rw [key q hq]; exact e1, e2⟩⟩⟩⟩
  obtain ⟨ps, h1, h2, h3⟩ := hT q hq
  refine ⟨ps, by rw [key q hq]; exact h1, h2, fun pos cv hc => ?_⟩
  obtain ⟨c, e1, e2⟩ := h3 pos cv hc
  refine ⟨c, e1, ?_⟩
  rw [upd_ne fun z => hp ⟨q, hq, .inr ⟨ps, pos, h1, by rw [← z, ← e1]; exact hc⟩⟩]
  exact e2
open Classical in
/-- the frame that keeps the tables of T aside -/
noncomputable def Fr.tb (T : List (Addr × Str)) : Fr where
  view := fun H b => if HidT T H b then none else H b
  inv := fun H => Tabs T H
  sub := fun {H b o} h => by
    by_cases z : HidT T H b
    · rw [if_pos z] at h; cases h
    · rw [if_neg z] at h; exact h
  put := fun {H p o} i h => by
    have hp : ¬ HidT T H p := by
      rcases h with h | ⟨u, h⟩
      · exact fun z => hidT_there i z h
      · exact fun z => by rw [if_pos z] at h; cases h
    obtain ⟨a, b⟩ := Tgo.upd (o := o) i hp
    refine ⟨a, funext fun c => ?_⟩
    by_cases e : c = p
    · subst e
      rw [upd_same, if_neg (fun z => hp ((b c).mp z)), upd_same]
    · rw [upd_ne e, upd_ne e]
      by_cases z : HidT T H c
      · rw [if_pos z, if_pos ((b c).mpr z)]
      · rw [if_neg z, if_neg (fun y => z ((b c).mp y))]
/-- a frame that keeps these tables aside -/
structure IsT (G : Fr) (T : List (Addr × Str)) : Prop where
  at_ : ∀ {H : Hp}, G.inv H → Tabs T H
  mov : ∀ {H H1 : Hp}, G.inv H → Tgo T H H1 → G.inv H1 ∧ G.le H H1
open Classical in
theorem Fr.isT {T : List (Addr × Str)} : IsT (Fr.tb T) T where
  at_ := fun i => i
  mov := fun {H H1} i g => ⟨g.tabs, fun b o h => by
    have hb : ¬ HidT T H b := fun z => by
      have h : (if HidT T H b then none else H b) = some o := h
      rw [if_pos z] at h; cases h
    have h : (if HidT T H b then none else H b) = some o := h
    rw [if_neg hb] at h
    have h1 := g.keep b o h fun z => hb (HidT.head z)
    show (if HidT T H1 b then none else H1 b) = some o
    rw [if_neg fun z => ?_]
    · exact h1
    · rcases g.new b z with y | y
      · exact hb y
      · rw [h] at y; cases y⟩
theorem IsT.own {G : Fr} {T : List (Addr × Str)} {l : Addr} {o : HO} (t : IsT G T) : IsT (G.own l o) T where
  at_ := fun i => t.at_ i.1
  mov := fun {H H1} i g => by
    obtain ⟨a, b⟩ := t.mov i.1 g
    refine ⟨⟨a, b _ _ i.2⟩, fun c u h => ?_⟩
    obtain ⟨h1, h2⟩ := hide_some h
    show hide (G.view H1) l c = some u
    rw [hide_ne h1]
    exact b _ _ h2
theorem IsT.owns {G : Fr} {T : List (Addr × Str)} {S : OS} (t : IsT G T) : IsT (G.owns S) T where
  at_ := fun i => t.at_ i.1
  mov := fun {H H1} i g => by
    obtain ⟨a, b⟩ := t.mov i.1 g
    refine ⟨⟨a, fun c o h => b _ _ (i.2 c o h)⟩, fun c u h => ?_⟩
    obtain ⟨h1, h2⟩ := hideS_some h
    show hideS (G.view H1) S c = some u
    rw [hideS_none h1]
    exact b _ _ h2
theorem IsT.sub {G G' : Fr} {T : List (Addr × Str)} (t : IsT G T) (s : SubF G G') : IsT G' T := by
  induction s with
  | refl => exact t
  | own _ ih => exact ih.own
  | owns _ ih => exact ih.owns
theorem IsW.sub {G G' : Fr} {a : Addr} {q : Int} (w : IsW G a q) (s : SubF G G') : IsW G' a q := by
  induction s with
  | refl => exact w
  | own _ ih => exact ih.own
  | owns _ ih => exact ih.owns
/-- a well within a frame -/
def Fr.wl (G : Fr) (a : Addr) (q : Int) : Fr where
  view := fun H => hide (G.view H) a
  inv := fun H => G.inv H ∧ ∃ p r : Int, G.view H a = some (.lst [.int p, .int q, .int r])
  sub := fun h => G.sub (hide_some h).2
  put := fun {H p o} i h => by
    obtain ⟨i1, p1, r1, i2⟩ := i
    have hp : p ≠ a := by
      rcases h with h | ⟨x, h⟩
      · intro e
        have z := G.sub i2
        rw [← e, h] at z
        cases z
      · exact (hide_some h).1
    obtain ⟨c, d⟩ := G.put (o := o) i1 (h.imp id fun ⟨x, e⟩ => ⟨x, (hide_some e).2⟩)
    refine ⟨⟨c, p1, r1, by rw [d, upd_ne (Ne.symm hp)]; exact i2⟩, ?_⟩
    show hide (G.view _) a = _
    rw [d, hide_upd hp]
theorem Fr.isWl {G : Fr} {a : Addr} {q : Int} : IsW (Fr.wl G a q) a q where
  at_ := fun i => i.2.imp fun _ ⟨r, h⟩ => ⟨r, G.sub h⟩
  hid := fun _ => hide_same
  put := fun {H p r} i => by
    obtain ⟨i1, p1, r1, i2⟩ := i
    obtain ⟨c, d⟩ := G.put (o := .lst [.int p, .int q, .int r]) i1 (.inr ⟨_, i2⟩)
    refine ⟨⟨c, p, r, by rw [d]; exact upd_same⟩, ?_⟩
    show hide (G.view _) a = hide (G.view _) a
    rw [d, hide_upd_same]
theorem IsT.wl {G : Fr} {T : List (Addr × Str)} {a : Addr} {q : Int} (t : IsT G T) : IsT (Fr.wl G a q) T where
  at_ := fun i => t.at_ i.1
  mov := fun {H H1} i g => by
    obtain ⟨i1, p1, r1, i2⟩ := i
    obtain ⟨c, d⟩ := t.mov i1 g
    refine ⟨⟨c, p1, r1, d _ _ i2⟩, fun b u h => ?_⟩
    obtain ⟨h1, h2⟩ := hide_some h
    show hide (G.view H1) a b = some u
    rw [hide_ne h1]
    exact d _ _ h2
/-- the well's place, where the frame keeps tables aside, too -/
def wellT (T : List (Addr × Str)) : Sl := .frm fun G _ v => (∃ a q, v = .ref a ∧ IsW G a q) ∧ IsT G T
/-- a place that holds s, where the frame keeps tables aside -/
def slT (K : PySem.W.Frag) (T : List (Addr × Str)) (s : Sl) : Sl := .frm fun G H v => SlOk K G H v s ∧ IsT G T
section
variable {K : PySem.W.Frag} {G : Fr} {H : Hp} {Γ : List Sl} {ta : TA} {PS : List Sl → Prop} {T : List (Addr × Str)} {i : Nat}
theorem wellT_ok {v : V} {a : Addr} {q : Int} (h : v = .ref a) (w : IsW G a q) (t : IsT G T) : SlOk K G H v (wellT T) := fun G' H' s _ => ⟨⟨a, q, h, w.sub s⟩, t.sub s⟩
theorem es_wellT (h : Γ[i]? = some (wellT T)) (t : EvS K ta Γ PS) : EvS K (tCons (tVar i) ta) Γ (fun ss => ∃ r, ss = .well :: r ∧ PS r) := fun G σ H e i' Q q => by
  rcases e.2 i _ h with z | ⟨v, a, b⟩
  · cases z
  · exact ⟨v, a, t G σ H e i' _ fun vs ss H2 i2 l2 p2 dqs => q (v :: vs) (.well :: ss) H2 i2 l2 ⟨ss, rfl, p2⟩ (.cons (b G H .refl fun _ _ h => h).1 dqs)⟩
/-- what is asked of a frame by the place that holds its tables -/
theorem EnvOk.isT {σ : L2.St} {p : Fr → Hp → V → Prop} (e : EnvOk K G H σ Γ) (h : Γ[i]? = some (.frm p)) (hp : ∀ v, p G H v → IsT G T) : IsT G T := by
  rcases e.2 i _ h with z | ⟨v, a, b⟩
  · cases z
  · exact hp v (b G H .refl fun _ _ h => h)
end
/-! ### a lambda is made -/
section
variable {X : Cx} {pins : List (Addr × Obj)} {σ : L2.St} {H : Hp} {s : Shared}
theorem lam_new {T : List (Addr × Str)} {c P : Addr} {pa : Arguments} {bd : Expr} {sc : Scope} {at_ : Pos} {E Q : Value → Shared → Prop} (J : Inv X pins σ H s) (tb : TabB X.base X.mg c P) (hc : X.env.code = .ref c) (mem : (P, X.env.qual ++ "<lambda>") ∈ T)
    (one : ∀ p ∈ T, p.1 = P → p.2 = X.env.qual ++ "<lambda>") (hT : Tabs T H) (hd : defaultsOf pa X.env = ([], [])) (hfr : ∀ y ∈ sc.names, y.2 = .free → ∃ c, X.env.cells.lookup y.1 = some c)
    (on : ∀ (f c' : Addr) (pm ctv : Value) (H1 : Hp) (s' : Shared), Inv X pins σ H1 s' → Tgo T H H1 → s'.heap.get? f = some (PySem.W.kla_obj "<lambda>" (X.env.qual ++ "<lambda>") pa bd sc (cloFrom X.env.cells sc.names []) pm c' ctv) → H1 f = none → f ∉ frs X.stack → H1 c' = some (CodeO c' (X.env.qual ++ "<lambda>")) → Q (.ref f) s') :
    wpAny (model X.prog X.w) X.A (eval (.Lambda pa bd sc at_) X.env) Q E s := by
  obtain ⟨ps, hP, tri, told⟩ := hT _ mem
  have hPm : P ∈ T.map (·.1) := List.mem_map.mpr ⟨_, mem, rfl⟩
  have hPs : s.heap.get? P = some { cls := .none, data := .fields ps } := J.hok P _ hP
  have out : ∀ f, s.heap.objs.size ≤ f → f ∉ frs X.stack := fun f hf z => (List.mem_cons.mp (J.stkSub _ z)).elim (fun e => absurd (Nat.lt_of_lt_of_le J.lt hf) (by rw [← e]; exact Nat.lt_irrefl _)) (J.nofs hf)
  refine PySem.W.kla_eval hd ?_
  cases fd : codeAmong at_ ps.toList with
  | some cv =>
    obtain ⟨c', e, hco⟩ := told at_ cv fd
    subst e
    refine PySem.W.kla_makeFunctionHit (mg := X.mg) (c := c) (P := P) (ps := ps) (closure_ok hfr) J.ok.glob (J.mod.glob.keeps J.bk) hc (tb.code.keeps J.bk) hPs tri fd (tb.bm.keeps J.bk) fun ctv h' tk keep big => ?_
    have J1 : Inv X pins σ H { s with heap := h'.push (PySem.W.kla_obj "<lambda>" (X.env.qual ++ "<lambda>") pa bd sc (cloFrom X.env.cells sc.names []) ((X.mg "__name__").getD .none) c' ctv), toks := tk } := J.kept fun b o e => Heap.get?_push_of_some _ (keep b o e)
    exact on _ c' ((X.mg "__name__").getD .none) ctv H _ J1 ⟨fun _ _ h _ => h, hT, fun b h => .inl h⟩ (Heap.get?_push_size _ rfl) (J.hok.fresh big) (out _ big) hco
  | none =>
    refine PySem.W.kla_makeFunction (mg := X.mg) (c := c) (P := P) (ps := ps) (closure_ok hfr) J.ok.glob (J.mod.glob.keeps J.bk) hc (tb.code.keeps J.bk) hPs tri fd tb.gP (tb.bm.keeps J.bk) fun c' ctv h' tk keep lo hi ⟨c2, oc, vs, t, e2, hoc, hda, hv⟩ htb => ?_
    cases e2
    have big : s.heap.objs.size ≤ h'.objs.size := Nat.le_trans lo (Nat.le_of_lt hi)
    have free : H c' = none := J.hok.fresh lo
    let more : Array Value := #[rawInt at_.line, rawInt at_.col, .ref c']
    let H1 : Hp := L2.upd (L2.upd H P (.tbl (ps ++ more))) c' (CodeO c' (X.env.qual ++ "<lambda>"))
    have J1 : Inv X pins σ H1 { s with heap := h'.push (PySem.W.kla_obj "<lambda>" (X.env.qual ++ "<lambda>") pa bd sc (cloFrom X.env.cells sc.names []) ((X.mg "__name__").getD .none) c' ctv), toks := tk } :=
      inv_table (more := more) J hP (fun b o hb e => Heap.get?_push_of_some _ (keep b o hb e)) (Heap.get?_push_of_some _ htb) lo ⟨oc, vs, t, Heap.get?_push_of_some _ hoc, hda, hv⟩
    have at1 : ∀ b, b ≠ P → b ≠ c' → H1 b = H b := fun b h1 h2 => by show L2.upd _ _ _ b = _; rw [upd_ne h2, upd_ne h1]
    have ne' : ∀ b o, H b = some o → b ≠ c' := fun b o e => ne_of_none e free
    have hP1 : H1 P = some (.tbl (ps ++ more)) := by show L2.upd _ _ _ P = _; rw [upd_ne (ne' _ _ hP), upd_same]
    have app : (ps ++ more).toList = ps.toList ++ [rawInt at_.line, rawInt at_.col, .ref c'] := by simp [more]
    have there : ∀ {p' : Pos} {cv : Value}, codeAmong p' (ps ++ more).toList = some cv → codeAmong p' ps.toList = some cv ∨ cv = .ref c' := fun h => among_app _ tri (by rw [← app]; exact h)
    have codeK : ∀ b q, H b = some (CodeO b q) → H1 b = some (CodeO b q) := fun b q e => (at1 b (fun z => codeO_ne ps (Option.some.inj (e.symm.trans (by rw [z]; exact hP)))) (ne' b _ e)).trans e
    have go : Tgo T H H1 := ⟨fun b o e nb => by rw [at1 b (fun z => nb (z ▸ hPm)) (ne' b o e)]; exact e, fun p hp => ?_, fun b ⟨p, hp, hb⟩ => ?_⟩
    · refine on _ c' ((X.mg "__name__").getD .none) ctv H1 _ J1 go (Heap.get?_push_size _ rfl) ?_ (out _ big) upd_same
      have ltP := Heap.lt_size hPs
      rw [at1 _ (Nat.ne_of_gt (Nat.lt_of_lt_of_le ltP big)) (Nat.ne_of_gt hi)]
      exact J.hok.fresh big
    · by_cases hb : p.1 = P
      · refine ⟨ps ++ more, by rw [hb]; exact hP1, by rw [app]; exact PySem.TriplesOk_snoc _ _ _ _ tri, fun p' cv hcv => ?_⟩
        rw [one p hp hb]
        rcases there hcv with z | z
        · obtain ⟨c0, e1, e2⟩ := told p' cv z
          exact ⟨c0, e1, codeK _ _ e2⟩
        · exact ⟨c', z, upd_same⟩
      · obtain ⟨qs, a1, a2, a3⟩ := hT p hp
        refine ⟨qs, by rw [at1 _ hb (ne' _ _ a1)]; exact a1, a2, fun p' cv hcv => ?_⟩
        obtain ⟨c0, e1, e2⟩ := a3 p' cv hcv
        exact ⟨c0, e1, codeK _ _ e2⟩
    · rcases hb with e | ⟨qs, p', e1, e2⟩
      · exact .inl ⟨p, hp, .inl e⟩
      · by_cases z : p.1 = P
        · rw [z, hP1] at e1
          cases e1
          rcases there e2 with y | y
          · exact .inl ⟨p, hp, .inr ⟨ps, p', by rw [z]; exact hP, y⟩⟩
          · cases y
            exact .inr free
        · obtain ⟨qs', a1, _⟩ := hT p hp
          rw [at1 _ z (ne' _ _ a1)] at e1
          exact .inl ⟨p, hp, .inr ⟨qs, p', e1, e2⟩⟩
end
/-- what a def makes of a lambda that is handed to it -/
def tLamT (T : List (Addr × Str)) (TT : (XK → Hp → VK → Prop) → Hp → VK → Prop) (t : XK → TE) : TE := fun σ H Q => Tabs T H ∧ ∀ H1, Tgo T H H1 → TT (fun E H' Q' => t E σ H' Q') H1 Q
section
variable {X : Cx}
/-- x(lambda: body), x a def of one argument -/
theorem pe_lamT {T : List (Addr × Str)} {TT : (XK → Hp → VK → Prop) → Hp → VK → Prop} {x a : Str} {g c P : Addr} {k : Nat} {pg : Arguments} {bg : List Stmt} {sg : Scope} {dV kV doc pm cdv ct oc : Value} {an od : Option Addr} {osl : Array (Option Value)} {Ng : List Str} {pa : Arguments} {bd : Expr} {sc : Scope} {t : XK → TE} {p lpos pos : Pos}
    (hg : Gl X x) (hm : X.mg x = some (.ref g)) (hk : PySem.W.keepIn X.K (.ref g) = true) (lk : X.K.lookup g = some ⟨oc, od, .func (PySem.W.fnOf x x pg bg sg dV kV doc pm an cdv ct), osl⟩) (hcg : PySem.W.codeIn X.K cdv x = true)
    (hb : L2.Binds X.K (PySem.W.fnOf x x pg bg sg dV kV doc pm an cdv ct) [a] []) (Sg : FnScope Ng [a] sg) (hNg : Ng[0]? = some a) (hva : Vis sg a) (hG : GivesTo X Ng x sg g cdv bg a (X.env.qual ++ "<lambda>") TT) (tb : TabB X.base X.mg c P) (hcode : X.env.code = .ref c)
    (mem : (P, X.env.qual ++ "<lambda>") ∈ T) (one : ∀ p ∈ T, p.1 = P → p.2 = X.env.qual ++ "<lambda>") (hr : Room (k + 2) X.A) (L : LamS X.env.scope sc) (hd0 : defaultsOf pa X.env = ([], []))
    (hbind : ∀ (q : Str) (cl : List (Str × Addr)) (pm cv ctv : Value), bindArgs (PySem.W.kla_fn "<lambda>" q pa bd sc cl pm cv ctv) ⟨[], []⟩ = pure [])
    (hbody : ∀ (A : Around) (outer : List Env) (s : Shared) (H : Hp) (E : XK) (f c' : Addr), Room k (A.deeper (lamEnv X sc s.heap.objs.size f c')) → PE (lamCx X A outer s H E sc f c') bd (t E))
    (hdb : (x == ("__debug__" : Str)) = false := by decide) (hd : (a == ("__debug__" : Str)) = false := by decide) (hcd : (a == ("__classdict__" : Str)) = false := by decide) :
    PE X (.Call (.Name x p) [.Lambda pa bd sc lpos] [] pos) (tLamT T TT t) := by
  refine ⟨fun pins s σ H Q I ⟨hT, h⟩ => wpAny_Call_Name_kw (ld_glob I hg hm (PySem.W.callWith_K (h₀ := X.base) I.ok.mod.kin hk ?_ (by rfl) (by rfl)) hdb)⟩
  show wpAny _ _ (spliced ((false, eval (.Lambda pa bd sc lpos) X.env) :: backTo pos (starEach [] X.env))) _ _ s
  refine Calls.spliced_cons (lam_new I tb hcode mem one hT hd0 (L.has I.ok) fun f c' _ _ H1 s1 I1 go of fresh nf hco => Calls.spliced_nil ⟨I1.kIn, ?_⟩)
  refine wpAny_call (codeAny_mono (run_ofS (CX := C8.CX0) (E := C8.E0) (Q := Q) (N := Ng) (ps := [a]) (us := [.ref f]) (vs := [.ref f]) lk hcg Sg hr I1.env0 (hb s1 [.ref f] I1.kIn rfl) (.cons rfl .nil) rfl fun hr2 => ?_) fun r s2 hq => ?_)
  · obtain ⟨t2, h1, h2⟩ := hG f c' s1 H1 Q (fun E H' Q' => t E σ H' Q') (fun W pn xe E p1 p2 tk hW => pe_act (i := 0) I1 L of fresh nf (hbind _ _ _ _ _) tk hW hr2 (fun A outer s H hr3 => hbody A outer s H E f c' hr3) hNg hva hd hcd) hco (h H1 go)
    exact ⟨t2, h1.nox, h2⟩
  · match r, hq with
    | .ok (.ret u), hq => exact I1.after hq
    | .ok .next, hq => exact hq.elim
    | .ok .brk, hq => exact hq.elim
    | .ok .cont, hq => exact hq.elim
    | .error e, hq => exact (show False from hq).elim
end
end L2

set_option Elab.async false
set_option linter.all false
set_option maxRecDepth 100000
set_option maxHeartbeats 4000000
/-! Several except clauses, each with or without a name. -/
namespace L2
open PySem PySem.Spec PyProof.Rows
/-- a clause: its class, the place of its name if it has one, what it does -/
abbrev Clause := Value × Option Nat × (Addr → Value → Option Addr → TS)
/-- the ways out of a clause: its name goes -/
def endsAs (D : Ends) : Option Nat → Ends
  | none => D
  | some i => { nx := fun σ H => D.nx (σ.set i none) H, rt := D.rt, bk := fun σ H => D.bk (σ.set i none) H, ct := fun σ H => D.ct (σ.set i none) H }
def setAs (σ : L2.St) (a : Addr) : Option Nat → L2.St
  | none => σ
  | some i => σ.set i (some (.ref a))
/-- what is wished of what the body raises: the clauses in turn -/
def wClauses (K : PySem.W.Frag) (Wout : WX) (D : Ends) : List Clause → WX
  | [] => Wout
  | (c, o, ts) :: rest => fun cls d σ H => ∃ b, PySem.W.exmOne K cls c = some b ∧ (b = true → ∀ a, H a = none → ts a cls d (endsAs D o) (setAs σ a o) H) ∧ (b = false → wClauses K Wout D rest cls d σ H)
inductive ClausesOk (X : Cx) : List ExceptHandler → List Clause → Prop
  | nil : ClausesOk X [] []
  | plain {x : Str} {c : Value} {ts : Addr → Value → Option Addr → TS} {b : Stmt} {bs : List Stmt} {p q : Pos} {hs : List ExceptHandler} {l : List Clause} (nm : Names X x c)
      (su : ∀ (a : Addr) (oe : Obj) (cls : Value) (d : Option Addr) (pn : List (Addr × Obj)), Zc cls d oe → (∃ vs, oe.data = .fields vs) → PSs (X.suite a ((a, oe) :: pn)) (b :: bs) (ts a cls d)) (r : ClausesOk X hs l) :
      ClausesOk X (.ExceptHandler (some (.Name x p)) none (b :: bs) q :: hs) ((c, none, ts) :: l)
  | named {x n : Str} {i : Nat} {c : Value} {ts : Addr → Value → Option Addr → TS} {b : Stmt} {bs : List Stmt} {p q : Pos} {hs : List ExceptHandler} {l : List Clause} (nd : X.N.Nodup) (at_ : X.N[i]? = some n) (lo : X.env.kindOf n = some .local) (nm : Names X x c)
      (su : ∀ (a : Addr) (oe : Obj) (cls : Value) (d : Option Addr) (pn : List (Addr × Obj)), Zc cls d oe → (∃ vs, oe.data = .fields vs) → PSs (X.suite a ((a, oe) :: pn)) (b :: bs) (ts a cls d)) (r : ClausesOk X hs l) :
      ClausesOk X (.ExceptHandler (some (.Name x p)) (some n) (b :: bs) q :: hs) ((c, some i, ts) :: l)
/-- what an exception has brought to where the try stands: the state ahead of it, its own object still in flight -/
structure Caught (X : Cx) (pins : List (Addr × Obj)) (σ : L2.St) (H : Hp) (cls : Value) (d : Option Addr) (a : Addr) (B : Heap) (sI s : Shared) : Prop where
  inv : Inv X pins σ H sI
  gr : ∀ b o, sI.heap.get? b = some o → b ∉ frs X.stack → B.get? b = some o
  up : sI.heap.UpToSlots s.heap
  fl : HandSPX.FlyingZ B (X.env :: X.outer) a (Zc cls d) s.heap
  na : H a = none
  os : s.os = sI.os
  ag : AllBare s.gens
section
variable {X : Cx} {pins : List (Addr × Obj)} {σ : L2.St} {H : Hp} {cls : Value} {d : Option Addr} {a : Addr} {B : Heap} {sI s : Shared}
theorem Caught.notL (c : Caught X pins σ H cls d a B sI s) (hf : X.env.frame = some X.env.locals) : a ≠ X.env.locals ∧ a ∉ X.fs := by
  obtain ⟨oe, vs, he, _, hd⟩ := c.fl.there
  have nf : a ∉ frs (X.env :: X.outer) := fun hm => by
    obtain ⟨_, o2, e2, hn⟩ := c.fl.2.2.1.mem hm
    rw [he] at e2
    cases e2
    exact hn _ hd
  refine ⟨fun z => nf (List.mem_filterMap.mpr ⟨X.env, List.mem_cons_self, by rw [hf, z]⟩), fun hm => ?_⟩
  obtain ⟨e, h1, h2⟩ := List.mem_filterMap.mp hm
  exact nf (List.mem_filterMap.mpr ⟨e, List.mem_cons_of_mem _ h1, h2⟩)
theorem Caught.here (c : Caught X pins σ H cls d a B sI s) : Inv X pins σ H s := c.inv.landed c.gr c.fl.1 c.up c.os c.ag
theorem Caught.on (c : Caught X pins σ H cls d a B sI s) {h : Heap} (f : HandSPX.FlyingZ B (X.env :: X.outer) a (Zc cls d) h) (u : s.heap.UpToSlots h) : Caught X pins σ H cls d a B sI { s with heap := h } := ⟨c.inv, c.gr, c.up.trans u, f, c.na, c.os, c.ag⟩
/-- within a clause: the exception's object is pinned -/
theorem Caught.suite (c : Caught X pins σ H cls d a B sI s) (hf : X.env.frame = some X.env.locals) : ∃ oe, Zc cls d oe ∧ (∃ vs, oe.data = .fields vs) ∧ s.heap.get? a = some oe ∧ Inv (X.suite a ((a, oe) :: (X.pn ++ pins))) [] σ H s := by
  obtain ⟨oe, vs, he, hz, hd⟩ := c.fl.there
  exact ⟨oe, hz, ⟨vs, hd⟩, he, c.here.suite he hd c.na (c.notL hf).1 (c.notL hf).2⟩
/-- a clause's suite has ended -/
theorem suite_ends {oe : Obj} {D : Ends} {f : Flow} {s6 : Shared} (ok : X.Ok) (h : SP (X.suite a ((a, oe) :: (X.pn ++ pins))) [] D f s6) : SP X pins D f s6 := by
  match f, h with
  | .next, ⟨σ6, H6, J, q⟩ => exact ⟨σ6, H6, J.unsuite ok, q⟩
  | .brk, ⟨σ6, H6, J, q⟩ => exact ⟨σ6, H6, J.unsuite ok, q⟩
  | .cont, ⟨σ6, H6, J, q⟩ => exact ⟨σ6, H6, J.unsuite ok, q⟩
  | .ret u, ⟨v6, σ6, H6, J, r, q⟩ => exact ⟨v6, σ6, H6, J.unsuite ok, r, q⟩
/-- .. and its name goes -/
theorem name_goes {oe : Obj} {D : Ends} {f : Flow} {s6 : Shared} {i : Nat} {n : Str} {pos : Pos} (ok : X.Ok) (nd : X.N.Nodup) (at_ : X.N[i]? = some n) (lo : X.env.kindOf n = some .local) (h : SP (X.suite a ((a, oe) :: (X.pn ++ pins))) [] (endsAs D (some i)) f s6) :
    wpAny (model X.prog X.w) X.A (do bindName X.env n .none; unbindBehindTheSuite X.env n pos) (fun _ s7 => SP X pins D f s7) X.xe s6 := by
  match f, suite_ends ok h with
  | .next, ⟨σ6, H6, J, q⟩ => exact gone_ok J nd at_ lo fun s7 J7 => ⟨_, H6, J7, q⟩
  | .brk, ⟨σ6, H6, J, q⟩ => exact gone_ok J nd at_ lo fun s7 J7 => ⟨_, H6, J7, q⟩
  | .cont, ⟨σ6, H6, J, q⟩ => exact gone_ok J nd at_ lo fun s7 J7 => ⟨_, H6, J7, q⟩
  | .ret u, ⟨v6, σ6, H6, J, r, q⟩ => exact gone_ok J nd at_ lo fun s7 J7 => ⟨v6, _, H6, J7, r, q⟩
theorem clauses_run {D : Ends} {Wout : WX} (hs : X.stack = X.env :: X.outer) (hf : X.env.frame = some X.env.locals) (tk : Takes X Wout) {hl : List ExceptHandler} {l : List Clause} (k : ClausesOk X hl l) (c : Caught X pins σ H cls d a B sI s) (w : wClauses X.K Wout D l cls d σ H) :
    wpAny (model X.prog X.w) X.A (handleBy (.ref a) X.env hl) (SP X pins D) X.xe s := by
  have ok := c.inv.ok
  have ask : ∀ {x : Str} {cv : Value} {p : Pos} {Q E : Value → Shared → Prop}, Names X x cv → Q cv s → wpAny (model X.prog X.w) (X.A.mark (some (.ref a))) (eval (.Name x p) X.env) Q E s := fun {x cv p Q E} nm q => by
    obtain ⟨oe, _, _, _, S⟩ := c.suite hf
    obtain ⟨hg, hdbg, hm | ⟨hm, hv, hnn⟩⟩ := nm
    · exact ld_glob (X := X.suite a ((a, oe) :: (X.pn ++ pins))) S hg hm q hdbg
    · exact ld_blt (X := X.suite a ((a, oe) :: (X.pn ++ pins))) S hg hm hv q hnn hdbg
  have looks : PySem.W.Looks (model X.prog X.w) s.heap (typeOf (.ref a)) cls := fun A Q E s2 keep q => by
    obtain ⟨oe, hz, _, he, _⟩ := c.suite hf
    exact wpAny_typeOf_ref (keep _ _ he) (by rw [hz.1]; exact q)
  induction k with
  | nil =>
    refine wpAny_handleBy_nil ?_
    obtain ⟨_, _, _, oe, vs, T, oT, ts', he, hz, hd, h1, hr⟩ := c.fl
    unfold PySem.passOn
    refine wpAny_bind (wpAny_field he hd h1 ?_)
    rw [if_neg (show ¬ ((Value.ref T == Value.none) = true) from by simp)]
    have out : wpAny (model X.prog X.w) X.A (setFlight (.ref a) X.env.frame) (fun _ s4 => wpAny (model X.prog X.w) X.A (throw (.ref a) : Sem Flow) (SP X pins D) X.xe s4) X.xe s := by
      rw [hf]
      exact HandSPX.setFlight_upZ c.fl fun h4 held u4 => wpAny_throw (tk _ _ ⟨a, B, sI, pins, σ, H, cls, d, rfl, c.inv, c.gr, c.up.trans u4, .inr (.inr (by rw [hs]; exact held)), c.na, c.os, c.ag, w⟩)
    first
      | exact wpAny_bind (wpAny_pure (wpAny_bind out))
      | exact wpAny_bind out
  | @plain x cv ts b bs p q hs2 l2 nm su r ih =>
    obtain ⟨yes, e1, wy, wn⟩ := w
    refine wpAny_handleBy_cons (codeAny_handlers_test (ask nm ((PySem.W.exm_one (M := model X.prog X.w) c.here.kIn looks e1).here ?_))) (fun z => nomatch z)
    cases yes with
    | false => exact ih (wn rfl)
    | true =>
      refine codeAny_handlers_suite (HandSPX.lands_againZ c.fl fun h4 f4 u4 => ?_)
      obtain ⟨oe, hz, hd, _, S⟩ := (c.on f4 u4).suite hf
      exact wpAny_mono ((su a oe cls d (X.pn ++ pins) hz hd).run [] _ _ H _ S (wy rfl a c.na)) (fun f s6 h6 => suite_ends ok h6) (fun _ _ z => z.elim)
  | @named x n i cv ts b bs p q hs2 l2 nd at_ lo nm su r ih =>
    obtain ⟨yes, e1, wy, wn⟩ := w
    refine wpAny_handleBy_cons (codeAny_handlers_test (ask nm ((PySem.W.exm_one (M := model X.prog X.w) c.here.kIn looks e1).here ?_))) (fun z => nomatch z)
    cases yes with
    | false => exact ih (wn rfl)
    | true =>
      refine codeAny_handlers_suite_as (HandSPX.lands_againZ c.fl fun h4 f4 u4 => ?_)
      obtain ⟨oe, hz, hd, _, S⟩ := (c.on f4 u4).suite hf
      refine store_ok (X := X.suite a ((a, oe) :: (X.pn ++ pins))) (v := .ref a) S nd at_ (.inl lo) rfl (fun s5 S5 => ?_) (.inr lo)
      exact wpAny_mono ((su a oe cls d (X.pn ++ pins) hz hd).run [] s5 _ H _ S5 (wy rfl a c.na)) (fun f s6 h6 => name_goes ok nd at_ lo h6) (fun _ _ z => z.elim)
end
section
variable {X : Cx} {body : List Stmt} {h₀ : ExceptHandler} {hs : List ExceptHandler} {l : List Clause} {pos : Pos} {tb : WX → TS} {Wout : WX}
/-- try: body / except .. as ..: .. -/
theorem ps_try_clauses (st : X.stack = X.env :: X.outer) (hf : X.env.frame = some X.env.locals) (tk : Takes X Wout)
    (hb : ∀ (W : WX) (pn : List (Addr × Obj)) (xe : Value → Shared → Prop), Takes (X.tr pn xe) W → PassesOwn (model X.prog X.w) X.A X.env xe → PSs (X.tr pn xe) body (tb W)) (hh : ClausesOk X (h₀ :: hs) l) :
    PS X (.Try body (h₀ :: hs) [] [] pos) (fun D σ H => tb (wClauses X.K Wout D l) D σ H) := by
  refine ⟨fun pins s σ H D I h => wpAny_Try_except (wpAny_mono ((hb (wClauses X.K Wout D l) (X.pn ++ pins) (fun e s1 => wpAny (model X.prog X.w) X.A (noteFrame e X.env) (fun _ s2 => wpAny (model X.prog X.w) X.A (setFlight e none) (fun _ s3 => wpAny (model X.prog X.w) X.A (handleBy e X.env (h₀ :: hs)) (SP X pins D) X.xe s3) X.xe s2) X.xe s1) (fun u s' xx => ?_) PassesOwn.looking).run [] s σ H D (I.toTry _) h) (fun f s1 h1 => ?_) fun e s1 he => he)⟩
  · obtain ⟨a, B, sI, pins', σ', H', cls, d, rfl, J', gr, up, sky, na, os, ag, w⟩ := xx
    rw [show (X.tr (X.pn ++ pins) _).stack = X.env :: X.outer from st] at sky
    refine Sky.land Zc.steady (by rw [I.ok.frames, st]) hf sky fun h3 f3 u3 => ?_
    exact clauses_run (s := { s' with heap := h3 }) st hf tk hh ⟨J'.ofTry I.ok, gr, up.trans u3, f3, na, os, ag⟩ w
  · match f, h1 with
    | .next, ⟨σ', H', J', q⟩ => exact wpAny_execs_nil ⟨σ', H', J'.ofTry I.ok, q⟩
    | .brk, ⟨σ', H', J', q⟩ => exact ⟨σ', H', J'.ofTry I.ok, q⟩
    | .cont, ⟨σ', H', J', q⟩ => exact ⟨σ', H', J'.ofTry I.ok, q⟩
    | .ret u, ⟨v, σ', H', J', r, q⟩ => exact ⟨v, σ', H', J'.ofTry I.ok, r, q⟩
end
end L2

set_option Elab.async false
set_option linter.all false
set_option maxRecDepth 100000
set_option maxHeartbeats 4000000
/-! Defs that make lambdas: their code objects are told; the end of a law with such defs. -/
namespace L2
open PySem PySem.Spec PyProof.Rows LamX
/-- a def of the text whose code object is at c -/
structure FunC (K : PySem.W.Frag) (x qual : Str) (st : Stmt) (f : Addr) (fd : FuncData) (c : Addr) : Prop where
  ex : ∃ (oc : Value) (od : Option Addr) (kV doc pm : Value) (an : Option Addr) (ct : Value) (osl : Array (Option Value)),
    fd = PySem.W.fnOf x qual (defArgs st) (defBody st) (defScope st) .none kV doc pm an (.ref c) ct ∧ K.lookup f = some ⟨oc, od, .func fd, osl⟩ ∧ PySem.W.codeIn K (.ref c) qual = true
  kp : PySem.W.keepIn K (.ref f) = true
theorem FunC.of {K : PySem.W.Frag} {x qual : Str} {st : Stmt} {f c : Addr} {oc : Value} {od an : Option Addr} {osl : Array (Option Value)} {kV doc pm ct : Value} (l : K.lookup f = some ⟨oc, od, .func (PySem.W.fnOf x qual (defArgs st) (defBody st) (defScope st) .none kV doc pm an (.ref c) ct), osl⟩)
    (h : PySem.W.codeIn K (.ref c) qual = true) (k : PySem.W.keepIn K (.ref f) = true) : FunC K x qual st f (PySem.W.fnOf x qual (defArgs st) (defBody st) (defScope st) .none kV doc pm an (.ref c) ct) c := ⟨⟨oc, od, kV, doc, pm, an, ct, osl, rfl, l, h⟩, k⟩
theorem FunC.toFun {K : PySem.W.Frag} {x qual : Str} {st : Stmt} {f c : Addr} {fd : FuncData} (F : FunC K x qual st f fd c) : Fun K x qual st f fd := by
  obtain ⟨oc, od, kV, doc, pm, an, ct, osl, e, l, h⟩ := F.ex
  exact ⟨⟨oc, od, kV, doc, pm, an, .ref c, ct, osl, e, l, h⟩, F.kp⟩
theorem FunC.ok {P : Program} {w : World} {K : PySem.W.Frag} {mg : Str → Option Value} {base : Heap} {x qual : Str} {st : Stmt} {f c : Addr} {fd : FuncData} {N ps : List Str} {k : Nat} {sp : Sp} (F : FunC K x qual st f fd c) (S : FnScope N ps (defScope st)) (len : ∀ vs H Q E, sp vs H Q E → vs.length = ps.length)
    (body : ∀ (A : Around) (outer : List Env) (s : Shared) (H : Hp) (vs : List V) (Q : VK) (E : XK), Room k (A.deeper (envOfC qual (defScope st) s.heap.objs.size f (.ref c))) → sp vs H Q E →
      ∃ t, PSs (cxOf CX0 P w K mg base N qual (defScope st) f (.ref c) A outer s H E).nox (defBody st) t ∧ t { nx := fun _ H' => Q .non H', rt := Q } (start N vs) H) : FnOk P w K mg base CX0 (k + 1) f fd ps sp := by
  obtain ⟨oc, od, kV, doc, pm, an, ct, osl, rfl, l, h⟩ := F.ex
  exact fn_of l h S len fun A outer s H vs Q E hr hsp => (body A outer s H vs Q E hr hsp).imp fun t ⟨h1, h2⟩ => ⟨h1.nox, h2⟩
/-- x(lambda: body), x a def of the text -/
theorem pe_lamD {X : Cx} {T : List (Addr × Str)} {TT : (XK → Hp → VK → Prop) → Hp → VK → Prop} {x a : Str} {st : Stmt} {g c P : Addr} {fd : FuncData} {k : Nat} {Ng : List Str} {pa : Arguments} {bd : Expr} {sc : Scope} {t : XK → TE} {p lpos pos : Pos}
    (F : Fun X.K x x st g fd) (hg : Gl X x) (hm : X.mg x = some (.ref g)) (hb : L2.Binds X.K fd [a] []) (Sg : FnScope Ng [a] (defScope st)) (hNg : Ng[0]? = some a) (hva : Vis (defScope st) a) (hG : ∀ cdv, GivesTo X Ng x (defScope st) g cdv (defBody st) a (X.env.qual ++ "<lambda>") TT) (tb : TabB X.base X.mg c P) (hcode : X.env.code = .ref c)
    (mem : (P, X.env.qual ++ "<lambda>") ∈ T) (one : ∀ p ∈ T, p.1 = P → p.2 = X.env.qual ++ "<lambda>") (hr : Room (k + 2) X.A) (L : LamS X.env.scope sc) (hd0 : defaultsOf pa X.env = ([], []))
    (hbind : ∀ (q : Str) (cl : List (Str × Addr)) (pm cv ctv : Value), bindArgs (PySem.W.kla_fn "<lambda>" q pa bd sc cl pm cv ctv) ⟨[], []⟩ = pure [])
    (hbody : ∀ (A : Around) (outer : List Env) (s : Shared) (H : Hp) (E : XK) (f c' : Addr), Room k (A.deeper (lamEnv X sc s.heap.objs.size f c')) → PE (lamCx X A outer s H E sc f c') bd (t E))
    (hdb : (x == ("__debug__" : Str)) = false := by decide) (hd : (a == ("__debug__" : Str)) = false := by decide) (hcd : (a == ("__classdict__" : Str)) = false := by decide) :
    PE X (.Call (.Name x p) [.Lambda pa bd sc lpos] [] pos) (tLamT T TT t) := by
  obtain ⟨oc, od, kV, doc, pm, an, cdv, ct, osl, rfl, l, h⟩ := F.ex
  exact pe_lamT hg hm F.kp l h hb Sg hNg hva (hG cdv) tb hcode mem one hr L hd0 hbind hbody hdb hd hcd
/-- what is taken is taken of states of the right size -/
theorem takes_len {X : Cx} {W : WX} (tk : Takes X W) : Takes X (fun cls d σ H => σ.length = X.N.length → W cls d σ H) := fun u s' ⟨a, B, sI, pins, σ, H, cls, d, e, I, gr, up, sky, na, os, ag, w⟩ => tk u s' ⟨a, B, sI, pins, σ, H, cls, d, e, I, gr, up, sky, na, os, ag, w I.len⟩
/-! ### found = None; try: ask() / except C as e: found = (tag, e.f) ..; return found -/
/-- what is made of what is raised: class, tag, field -/
def ERz (hs : List (Addr × Str × Str)) (Q : VK) : XK := fun cls d H' => ∃ (C dx : Addr) (tag f : Str) (x : V) (xs : List (Str × V)), cls = .ref C ∧ d = some dx ∧ (C, tag, f) ∈ hs ∧ H' dx = some (.xd xs) ∧ xs.lookup f = some x ∧ ∀ p, H' p = none → Q (.ref p) (upd H' p (.tup [.str tag, x]))
def TRz (hs : List (Addr × Str × Str)) : (XK → Hp → VK → Prop) → Hp → VK → Prop := fun tl H Q => tl (ERz hs Q) H fun _ H' => Q .non H'
theorem walk_ofL {l : PySem.W.OpenLaw} {n k : Nat} {q : Program} {loose : List Str} {XP : (Str → Option Value) → Heap → Prop} {YP : World → Heap → Prop} {d : DefRec} {K : Params → PySem.W.Frag} {CX : World → CXT} {x : Str}
    (hn : l.most = some n) (hn2 : n ≤ sizeLine) (hdf : d.params.defaults = []) (hr : Room k callerA) (hY : ∀ (w : World) (h : Heap), YP w h → (K w.params).In h)
    (F : ∀ (w : World) (mg : Str → Option Value) (fa : Addr) (h : Heap), (K w.params).In h → h.Ns mainGlobals mg → mg d.name = some (.ref fa) →
      (∀ (y : Str) (c P : Addr) (e : DefRec), (recsOf q).find? (fun r => r.name == y) = some e → PySem.W.tabIn (K w.params) y = some (c, P) → PySem.W.CodeHd h c P ∧ h.get? P = some { cls := .none, data := .fields #[] }) → LawAtS l w (K w.params) (CX w) k n x mg fa h)
    (hCX : ∀ (w : World) (H : Hp) (s : Shared) (e : Value) (s' : Shared), CX w [] H s (fun _ _ _ => False) e s' → False) :
    PySem.W.WalkO q loose XP YP l.row.toRowW d [] (fun f vs => PySem.call f vs) :=
  Att.attach_callB hn hdf fun w s₀ s₁ mg mb fa o pm cd doc a vs ns G Y ho hd hcd hmg hobj hints hlen hbits hg => by
    have X := hY w _ Y
    obtain ⟨fd, cs, sp, hT, nT, C, hb, hsp, hF⟩ := F w mg fa _ X G.T.g hmg fun y c P e he ht => PySem.W.tab_of G.T X he ht
    exact law_callTs X G.T.g G.T.b G.T.builtins G.T.nolimit hg hT nT C G.T.bmain hobj hints (Nat.le_trans hlen hn2) hr hF hb (fun H hH hS => hsp H a ns hlen hbits hH hS) fun H e s' => hCX w H s₁ e s'
end L2

set_option Elab.async false
set_option linter.all false
set_option maxRecDepth 100000
set_option maxHeartbeats 4000000
/-! A lambda handed to a def that tells what it raises; good and bad arguments of one def together. -/
namespace L2
open PySem PySem.Spec PyProof.Rows LamX
open Evl (Ex)
theorem DqFs.get {K : PySem.W.Frag} {H : Hp} {f : Str} {d : PyData} : ∀ {vs : List (Str × V)} {ds : List (Str × PyData)}, DqFs K H vs ds → ds.lookup f = some d → ∃ v, vs.lookup f = some v ∧ Dq K H v d
  | _, _, .nil, h => nomatch h
  | _, _, @DqFs.cons _ _ g v e vs ds h t, hl => by
    rw [List.lookup_cons] at hl ⊢
    split at hl
    · cases hl
      exact ⟨v, rfl, h⟩
    · exact t.get hl
section
variable {K : PySem.W.Frag} {Γ : List Sl} {te tb : TE} {ta : TA} {PS : List Sl → Prop} {T : List (Addr × Str)} {i : Nat} {P R : PyData → Prop} {PX : PXs} {E : XK}
theorem es_slT {s : Sl} (h : Γ[i]? = some (slT K T s)) (t : EvS K ta Γ PS) : EvS K (tCons (tVar i) ta) Γ (fun ss => ∃ r, ss = s :: r ∧ PS r) := fun G σ H e i' Q q => by
  rcases e.2 i _ h with z | ⟨v, a, b⟩
  · cases z
  · exact ⟨v, a, t G σ H e i' _ fun vs ss H2 i2 l2 p2 dqs => q (v :: vs) (s :: ss) H2 i2 l2 ⟨ss, rfl, p2⟩ (.cons ((b G H .refl fun _ _ h => h).1.le l2) dqs)⟩
/-- f(lambda: e), f telling what e raises -/
theorem ev_lamT {hs : List (Addr × Str × Str)} {t : XK → TE} {p : Fr → Hp → V → Prop} (hi : Γ[i]? = some (.frm p)) (hp : ∀ G H v, p G H v → IsT G T) (h : ∀ E, EvG K E (t E) Γ P PX) (hn : (∃ d, P d) → R .none)
    (hx : ∀ C fs, PX C fs → ∃ tag f d, (C, tag, f) ∈ hs ∧ fs.lookup f = some d ∧ R (.tuple [.str tag, d])) : EvD K (tLamT T (TRz hs) t) Γ R := fun G σ H ev iv Q q => by
  have it : IsT G T := ev.isT hi fun v z => hp G H v z
  refine ⟨it.at_ iv, fun H1 go => ?_⟩
  obtain ⟨iv1, l1⟩ := it.mov iv go
  refine h (ERz hs Q) G σ H1 (ev.le l1) iv1 _ (fun v d H' i' l p' dq => q .non .none H' i' (l1.trans l) (hn ⟨d, p'⟩) .non) fun C dx H' xs fs i' l px dq hd => ?_
  obtain ⟨tag, f, d, hm, hf, hr⟩ := hx C fs px
  obtain ⟨x, hx1, hx2⟩ := dq.get hf
  refine ⟨C, dx, tag, f, x, xs, rfl, rfl, hm, G.sub hd, hx1, fun a ha => ?_⟩
  obtain ⟨i2, l2, v2⟩ := Fr.new (G := G) (o := HO.tup [.str tag, x]) i' ha
  exact q (.ref a) _ _ i2 ((l1.trans l).trans l2) hr (.tup (.inl (.inl v2)) (.cons (.str _) (.cons (hx2.ex l2) .nil)))
/-- a call that may raise, told by its data -/
theorem eg_callD {γ : Type} {pre : γ → List Sl → Prop} {post : γ → PyData → Prop} {px : γ → PXs} {PS : List Sl → Prop} (c : γ) (h : EvS K ta Γ PS) (hp : ∀ ss, PS ss → pre c ss) (h1 : ∀ d, post c d → P d) (h2 : ∀ C fs, px c C fs → PX C fs) : EvG K E (tCall (spRz K pre post px) [] E ta) Γ P PX := (eg_call c h hp).imp h1 h2
end
/-- good arguments are told by one promise, bad ones by another -/
theorem FnOk.both {P : Program} {w : World} {K : PySem.W.Frag} {mg : Str → Option Value} {base : Heap} {k : Nat} {fa : Addr} {fd : FuncData} {ps : List Str} {γ γ1 : Type} {sp0 : Sp} {pre1 : γ1 → List Sl → Prop} {post1 : γ1 → PyData → Prop} {px1 : γ1 → PXs} {pre : γ → List Sl → Prop} {post : γ → PyData → Prop} {px : γ → PXs}
    (F0 : FnOk P w K mg base CX0 k fa fd ps sp0) (FX : FnOk P w K mg base (L2.CX P w) k fa fd ps (spRz K pre1 post1 px1))
    (h : ∀ c ss, pre c ss → (∀ (G : Fr) vs H Q E, G.inv H → ArgsOk K G H vs ss → (∀ v d H', G.inv H' → G.le H H' → post c d → Dq K (G.view H') v d → Q v H') → sp0 vs H Q E) ∨ ∃ c1, pre1 c1 ss ∧ (∀ d, post1 c1 d → post c d) ∧ ∀ D fs, px1 c1 D fs → px c D fs) :
    FnOk P w K mg base (L2.CX P w) k fa fd ps (spRz K pre post px) :=
  ⟨fun vs H Q E ⟨G, ss, c, iv, a, hp, q, qx⟩ => by
    rcases h c ss hp with z | ⟨c1, h1, h2, h3⟩
    · exact F0.len vs H Q E (z G vs H Q E iv a q)
    · exact FX.len vs H Q E ⟨G, ss, c1, iv, a, h1, fun v d H' i l p => q v d H' i l (h2 d p), qx.le .refl h3⟩,
  fun A outer s H args us vs Q E hr env b v ⟨G, ss, c, iv, a, hp, q, qx⟩ => by
    rcases h c ss hp with z | ⟨c1, h1, h2, h3⟩
    · refine codeAny_mono (F0.run A outer s H args us vs Q E hr env b v (z G vs H Q E iv a q)) fun r s' y => ?_
      rcases r with e | fl
      · exact (show False from y).elim
      · cases fl <;> exact y
    · exact FX.run A outer s H args us vs Q E hr env b v ⟨G, ss, c1, iv, a, h1, fun v d H' i l p => q v d H' i l (h2 d p), qx.le .refl h3⟩⟩
end L2

set_option Elab.async false
set_option linter.all false
set_option maxRecDepth 100000
set_option maxHeartbeats 4000000
/-! Comparisons of data with None, truths and lists within; lists of any things against the empty one; repetitions. -/
namespace L2
open PySem PySem.Spec PyProof.Rows
open Evl (Ex)
/-- data that is compared: all but dicts, at most n deep -/
def okE : Nat → PyData → Bool
  | _, .none => true
  | _, .bool _ => true
  | _, .int _ => true
  | _, .str s => PyData.strOk s
  | n + 1, .tuple xs => xs.all (okE n)
  | n + 1, .list xs => xs.all (okE n)
  | _, _ => false
theorem okE_lay : ∀ (n : Nat) (d : PyData), okE n d = true → d.canLay0 = true ∧ d.depth ≤ n
  | n, .none, _ => ⟨by simp only [PyData.canLay0], by simp only [PyData.depth]; omega⟩
  | n, .bool b, _ => ⟨by simp only [PyData.canLay0], by simp only [PyData.depth]; omega⟩
  | n, .int i, _ => ⟨by simp only [PyData.canLay0], by simp only [PyData.depth]; omega⟩
  | n, .str s, h => ⟨by simp only [PyData.canLay0]; cases n <;> exact h, by simp only [PyData.depth]; omega⟩
  | 0, .tuple xs, h => by cases h
  | 0, .list xs, h => by cases h
  | 0, .dict xs, h => by cases h
  | n + 1, .dict xs, h => by cases h
  | n + 1, .tuple xs, h => by
    have h : xs.all (okE n) = true := h
    have key : ∀ ys : List PyData, ys.all (okE n) = true → PyData.canLayAll0 ys = true ∧ PyData.depthAll ys ≤ n := by
      intro ys
      induction ys with
      | nil => exact fun _ => ⟨by simp only [PyData.canLayAll0], by simp only [PyData.depthAll]; omega⟩
      | cons y ys ih =>
        intro hy
        rw [List.all_cons, Bool.and_eq_true] at hy
        have h1 := okE_lay n y hy.1
        have h2 := ih hy.2
        exact ⟨by simp only [PyData.canLayAll0]; rw [h1.1, h2.1]; rfl, by simp only [PyData.depthAll]; omega⟩
    have k := key xs h
    exact ⟨by simp only [PyData.canLay0]; exact k.1, by simp only [PyData.depth]; omega⟩
  | n + 1, .list xs, h => by
    have h : xs.all (okE n) = true := h
    have key : ∀ ys : List PyData, ys.all (okE n) = true → PyData.canLayAll0 ys = true ∧ PyData.depthAll ys ≤ n := by
      intro ys
      induction ys with
      | nil => exact fun _ => ⟨by simp only [PyData.canLayAll0], by simp only [PyData.depthAll]; omega⟩
      | cons y ys ih =>
        intro hy
        rw [List.all_cons, Bool.and_eq_true] at hy
        have h1 := okE_lay n y hy.1
        have h2 := ih hy.2
        exact ⟨by simp only [PyData.canLayAll0]; rw [h1.1, h2.1]; rfl, by simp only [PyData.depthAll]; omega⟩
    have k := key xs h
    exact ⟨by simp only [PyData.canLay0]; exact k.1, by simp only [PyData.depth]; omega⟩
theorem okE_shaped {n : Nat} {d : PyData} (h : okE n d = true) (hn : n ≤ 64) : SeqAt.shaped d = true := by
  have k := okE_lay n d h
  show (d.canLay0 && decide (d.depth ≤ 64)) = true
  rw [k.1, decide_eq_true (Nat.le_trans k.2 hn)]
  rfl
def rNeAny (K : PySem.W.Frag) : R2 := fun x y H Q => rNeD K x y H Q ∨ ∃ (a b : Addr) (xs ys : List V), x = .ref a ∧ y = .ref b ∧ SqL K H a xs ∧ SqL K H b ys ∧ xs.length ≠ ys.length ∧ Q (.bl true) H
section
variable {X : Cx}
theorem isList_of {h : Heap} {a : Addr} {its : Array Value} (p : PlainL h a its) : h.IsList a its := by
  obtain ⟨o, n, h1, h2, h3, h4⟩ := p
  first
    | exact ⟨o, h1, h2, n, h4⟩
    | exact ⟨o, h1, h2, n, h3⟩
/-- xs != ys: deep data, or lists of unlike lengths -/
theorem op_neAny (hu : X.A.units + 64 < cLine) : OpR X (compareOp .NotEq) (rNeAny X.K) := by
  intro pins s σ H x y v u Q I rx ry h
  rcases h with h | ⟨a, b, xs, ys, rfl, rfl, ha, hb, hl, q⟩
  · exact op_neD hu pins s σ H x y v u Q I rx ry h
  · obtain rfl : v = Value.ref a := rx
    obtain rfl : u = Value.ref b := ry
    obtain ⟨its, r1, p1, _⟩ := I.list ha
    obtain ⟨jts, r2, p2, _⟩ := I.list hb
    refine SeqAt.RcNeAt.lists_lengths (isList_of p1) (isList_of p2) ?_ (Nat.lt_of_le_of_lt (Nat.le_add_right _ _) hu) X.prog X.w _ _ ⟨.bl true, H, I, rfl, q⟩
    have e1 := r1.length
    have e2 := r2.length
    simp only [List.size_toArray, bne_iff_ne, ne_eq]
    omega
end
section
variable {K : PySem.W.Frag} {Γ : List Sl} {te tb tl th : TE} {ta : TA}
theorem dq_dpE {H : Hp} (n : Nat) : ∀ {v : V} {d : PyData}, okE n d = true → Dq K H v d → Dp K H v d := by
  induction n with
  | zero =>
    intro v d h q
    cases q with
    | non => exact .non
    | bl b => exact .bl b
    | int i => exact .int i
    | str s => exact .str s
    | _ => cases h
  | succ n ih =>
    have key : ∀ (xs : List V) (ds : List PyData), ds.all (okE n) = true → DqAll K H xs ds → DpAll K H xs ds := by
      intro xs
      induction xs with
      | nil => intro ds _ a; cases a; exact .nil
      | cons x xs ih2 =>
        intro ds hd a
        cases a with
        | cons h1 t1 =>
          rw [List.all_cons, Bool.and_eq_true] at hd
          exact .cons (ih hd.1 h1) (ih2 _ hd.2 t1)
    intro v d h q
    cases q with
    | non => exact .non
    | bl b => exact .bl b
    | int i => exact .int i
    | str s => exact .str s
    | @tup a xs ds hs ha => exact .tup hs (key xs ds h ha)
    | @lst a xs ds hs ha => exact .lst hs (key xs ds h ha)
    | dic _ _ => cases h
theorem ev_eqE {n : Nat} (hn : n ≤ 64) {d e : PyData} (h1 : okE n d = true) (h2 : okE n e = true) (ha : EvD K te Γ (· = d)) (hb : EvD K tb Γ (· = e)) : EvD K (tOp (rEqD K) te tb) Γ (· = .bool (PyData.eqv d e)) := fun G σ H ev iv Q q =>
  ha G σ H ev iv _ fun v d1 H1 i1 l1 p1 dq => hb G σ H1 (ev.le l1) i1 _ fun v2 d2 H2 i2 l2 p2 dq2 => by
    subst p1; subst p2
    exact ⟨d1, d2, dq_dpE n h1 (Fr.up (dq.ex l2)), dq_dpE n h2 (Fr.up dq2), okE_shaped h1 hn, okE_shaped h2 hn, q _ _ H2 i2 (l1.trans l2) rfl (.bl _)⟩
theorem ev_neE {n : Nat} (hn : n ≤ 64) {d e : PyData} (h1 : okE n d = true) (h2 : okE n e = true) (ha : EvD K te Γ (· = d)) (hb : EvD K tb Γ (· = e)) : EvD K (tOp (rNeD K) te tb) Γ (· = .bool (!PyData.eqv d e)) := fun G σ H ev iv Q q =>
  ha G σ H ev iv _ fun v d1 H1 i1 l1 p1 dq => hb G σ H1 (ev.le l1) i1 _ fun v2 d2 H2 i2 l2 p2 dq2 => by
    subst p1; subst p2
    exact ⟨d1, d2, dq_dpE n h1 (Fr.up (dq.ex l2)), dq_dpE n h2 (Fr.up dq2), okE_shaped h1 hn, okE_shaped h2 hn, q _ _ H2 i2 (l1.trans l2) rfl (.bl _)⟩
/-- two values of one data -/
theorem eb_neSameE {n : Nat} {d : PyData} (hn : n ≤ 64) (h : okE n d = true) (ha : EvD K te Γ (· = d)) (hb : EvD K tb Γ (· = d)) : EvB K (tTest (tOp (rNeD K) te tb)) Γ (· = false) := eb_test (ev_eq (ev_neE hn h h ha hb) (by rw [SeqAt.eqv_refl d (okE_lay n d h).1]; rfl))
theorem ev_eqSameE {n : Nat} {d : PyData} (hn : n ≤ 64) (h : okE n d = true) (ha : EvD K te Γ (· = d)) (hb : EvD K tb Γ (· = d)) : EvD K (tOp (rEqD K) te tb) Γ (· = .bool true) := ev_eq (ev_eqE hn h h ha hb) (by rw [SeqAt.eqv_refl d (okE_lay n d h).1])
/-- a list of any things against the empty one -/
theorem eb_neNilAny {ds : List PyData} (ha : EvD K te Γ (· = .list ds)) : EvB K (tTest (tOp (rNeAny K) te (tLst tNil))) Γ (· = !ds.isEmpty) := fun G σ H ev iv Q q =>
  ha G σ H ev iv _ fun v d1 H1 i1 l1 p1 dq => by
    subst p1
    cases dq with
    | @lst a vs _ hs e3 =>
      refine ⟨Nat.zero_le _, fun p hp => ?_⟩
      obtain ⟨i2, l2, h2⟩ := Fr.new (o := HO.lst []) i1 hp
      have hn : SqL K (upd H1 p (HO.lst [])) p [] := SqL.of (by exact upd_same)
      cases ds with
      | nil =>
        cases e3
        exact .inl ⟨.list [], .list [], .lst (Fr.upL (exL l2 hs)) .nil, .lst hn .nil, rfl, rfl, _, rfl, q _ _ i2 (l1.trans l2) rfl⟩
      | cons e es =>
        have hl := e3.length
        exact .inr ⟨a, p, vs, [], rfl, rfl, Fr.upL (exL l2 hs), hn, by rw [hl]; simp, _, rfl, q _ _ i2 (l1.trans l2) rfl⟩
/-- l[a:b], a list of its own -/
theorem en_slL {ds : List PyData} {to1 to2 : TO} {lo hi : Option Int} (h : EvD K te Γ (· = .list ds)) (h1 : EvO K to1 Γ lo) (h2 : EvO K to2 Γ hi) : EvN K (tSl (rSlL K) te to1 to2) Γ (· = cutQ ds lo hi) := fun G σ H e i Q q =>
  h G σ H e i _ fun v d1 H1 i1 l1 p1 dq => h1 G σ H1 (e.le l1) i1 _ fun H2 i2 l2 => h2 G σ H2 (e.le (l1.trans l2)) i2 _ fun H3 i3 l3 => by
    subst p1
    cases dq with
    | @lst a xs _ hs ha =>
      refine ⟨a, xs, rfl, Fr.upL (exL l3 (exL l2 hs)), fun p hp => ?_⟩
      obtain ⟨i4, v4⟩ := Fr.own_new (G := G) (o := HO.lst (cutV xs lo hi)) i3 hp
      exact q p _ _ _ i4 (by rw [v4]; exact (l1.trans l2).trans l3) rfl (by rw [v4]; exact (ha.cut.ex l2).ex l3)
theorem dq_flat {H : Hp} {vs : List V} {ds : List PyData} (h : DqAll K H vs ds) : ∀ n : Nat, DqAll K H (List.replicate n vs).flatten (List.replicate n ds).flatten
  | 0 => .nil
  | n + 1 => by
    rw [List.replicate_succ, List.replicate_succ, List.flatten_cons, List.flatten_cons]
    exact h.append (dq_flat h n)
theorem flat_len {α : Type} (xs : List α) : ∀ n : Nat, (List.replicate n xs).flatten.length = n * xs.length
  | 0 => by simp
  | n + 1 => by rw [List.replicate_succ, List.flatten_cons, List.length_append, flat_len xs n, Nat.succ_mul]; omega
/-- l * n, l a list of its own -/
theorem ev_repL {ds : List PyData} {n : Nat} (hn : ds.length * n ≤ 100000) (hk : n ≤ 100000) (h : EvN K te Γ (· = ds)) (h2 : EvD K tb Γ (· = .int n)) : EvD K (tOp rRep te tb) Γ (· = .list (List.replicate n ds).flatten) := fun G σ H ev iv Q q =>
  h G σ H ev iv _ fun l vs ds' H1 i1 x1 p1 dqs => by
    subst p1
    refine h2 _ σ H1 (ev.own x1) i1 _ fun v2 d2 H2 i2 l2 p2 dq2 => ?_
    subst p2
    cases dq2
    refine ⟨l, n, vs, rfl, rfl, Fr.own_at i2, by omega, by omega, by rw [sizeLine_eq, dqs.length]; simp only [Int.toNat_natCast]; omega, fun p hp => ?_⟩
    rw [Int.toNat_natCast]
    obtain ⟨i3, l3, h3⟩ := Fr.new (o := HO.lst (List.replicate n vs).flatten) i2 hp
    exact q _ _ _ i3.1 (fun c u hc => (hide_some (l3 c u (l2 c u (x1 c u hc)))).2) rfl (.lst (.inl (.inl (hide_some h3).2)) ((((dq_flat dqs n).ex l2).ex l3).ex Fr.own_sub))
end
end L2

set_option Elab.async false
set_option linter.all false
set_option maxRecDepth 100000
set_option maxHeartbeats 4000000
/-! Lists of any things that equal the empty one; the first place of an int in a list. -/
namespace L2
open PySem PySem.Spec PyProof.Rows
open Evl (Ex)
def rEqAny (K : PySem.W.Frag) : R2 := fun x y H Q => rEqD K x y H Q ∨ ∃ (a b : Addr) (xs ys : List V), x = .ref a ∧ y = .ref b ∧ SqL K H a xs ∧ SqL K H b ys ∧ xs.length ≠ ys.length ∧ Q (.bl false) H
section
variable {X : Cx}
/-- xs == ys: deep data, or lists of unlike lengths -/
theorem op_eqAny (hu : X.A.units + 64 < cLine) : OpR X (compareOp .Eq) (rEqAny X.K) := by
  intro pins s σ H x y v u Q I rx ry h
  rcases h with h | ⟨a, b, xs, ys, rfl, rfl, ha, hb, hl, q⟩
  · exact op_eqD hu pins s σ H x y v u Q I rx ry h
  · obtain rfl : v = Value.ref a := rx
    obtain rfl : u = Value.ref b := ry
    obtain ⟨its, r1, p1, _⟩ := I.list ha
    obtain ⟨jts, r2, p2, _⟩ := I.list hb
    refine SeqAt.RcAt.lists_lengths (isList_of p1) (isList_of p2) ?_ (Nat.lt_of_le_of_lt (Nat.le_add_right _ _) hu) X.prog X.w _ _ ⟨.bl false, H, I, rfl, q⟩
    have e1 := r1.length
    have e2 := r2.length
    simp only [List.size_toArray, bne_iff_ne, ne_eq]
    omega
end
section
variable {K : PySem.W.Frag} {Γ : List Sl} {te tb tl th : TE} {ta : TA}
/-- a list of any things against the empty one -/
theorem eb_eqNilAny {ds : List PyData} (ha : EvD K te Γ (· = .list ds)) : EvB K (tTest (tOp (rEqAny K) te (tLst tNil))) Γ (· = ds.isEmpty) := fun G σ H ev iv Q q =>
  ha G σ H ev iv _ fun v d1 H1 i1 l1 p1 dq => by
    subst p1
    cases dq with
    | @lst a vs _ hs e3 =>
      refine ⟨Nat.zero_le _, fun p hp => ?_⟩
      obtain ⟨i2, l2, h2⟩ := Fr.new (o := HO.lst []) i1 hp
      have hn : SqL K (upd H1 p (HO.lst [])) p [] := SqL.of (by exact upd_same)
      cases ds with
      | nil =>
        cases e3
        exact .inl ⟨.list [], .list [], .lst (Fr.upL (exL l2 hs)) .nil, .lst hn .nil, rfl, rfl, _, rfl, q _ _ i2 (l1.trans l2) rfl⟩
      | cons e es =>
        have hl := e3.length
        exact .inr ⟨a, p, vs, [], rfl, rfl, Fr.upL (exL l2 hs), hn, by rw [hl]; simp, _, rfl, q _ _ i2 (l1.trans l2) rfl⟩
theorem dq_ints {H : Hp} : ∀ (ns : List Int) (vs : List V), DqAll K H vs (ns.map .int) → vs = ns.map .int
  | [], vs, a => by cases a; rfl
  | n :: ns, vs, a => by
    cases a with
    | cons h t => cases h; rw [dq_ints ns _ t]; rfl
/-- l.index(x), ints -/
theorem ev_indexI {ns : List Int} {n : Int} {j : Nat} (h : EvD K te Γ (· = .list (ns.map .int))) (h2 : EvD K tb Γ (· = .int n)) (hj : ns[j]? = some n) (hno : ∀ m, m < j → ns[m]? ≠ some n) : EvD K (tBM K "list" (rIndex K) te (tCons tb tNil)) Γ (· = .int (j : Nat)) := fun G σ H e i Q q =>
  h G σ H e i _ fun v d1 H1 i1 l1 p1 dq => by
    subst p1
    cases dq with
    | @lst a vs _ hs ha =>
      refine ⟨.inl ⟨rfl, vs, Fr.upL hs⟩, h2 G σ H1 (e.le l1) i1 _ fun v2 d2 H2 i2 l2 p2 dq2 => ?_⟩
      subst p2
      cases dq2
      have e1 := dq_ints ns vs ha
      subst e1
      refine ⟨a, _, .int n, j, .int n, rfl, rfl, Fr.upL (exL l2 hs), rfl, ?_, by rw [List.getElem?_map, hj]; rfl, by show decide (n = n) = true; exact decide_eq_true rfl, fun m z' hm hz => ?_, q _ _ H2 i2 (l1.trans l2) rfl (.int _)⟩
      · rw [List.all_eq_true]
        intro x hx
        obtain ⟨y, _, rfl⟩ := List.mem_map.mp hx
        rfl
      · rw [List.getElem?_map] at hz
        cases hk : ns[m]? with
        | none => rw [hk] at hz; cases hz
        | some k =>
          rw [hk] at hz
          cases hz
          show decide (k = n) = false
          exact decide_eq_false fun z => hno m hm (by rw [hk, z])
end
end L2

set_option Elab.async false
set_option linter.all false
set_option maxRecDepth 100000
set_option maxHeartbeats 4000000
/-! Texts: cut, joined, told of numbers and read back. -/
namespace L2
open PySem PySem.Spec PyProof.Rows TL
open Evl (Ex)
section
variable {K : PySem.W.Frag} {Γ : List Sl} {te tb : TE} {ta : TA}
def strsD (xs : List Str) : List PyData := xs.map .str
abbrev rSplit : V → List V → Hp → VK → Prop := fun x xs H Q => ∃ a b, x = .str a ∧ xs = [.str b] ∧ (b.length == 0) = false ∧ a.length + 2 ≤ sizeLine ∧ rNewStrs (Txt.split a b) H Q
abbrev rJoin (K : PySem.W.Frag) : V → List V → Hp → VK → Prop := fun x xs H Q => ∃ a p, ∃ ys : List Str, x = .str a ∧ xs = [.ref p] ∧ (SqL K H p (ys.map V.str) ∨ SqT K H p (ys.map V.str)) ∧ (ys.map (·.length)).sum + ys.length * a.length ≤ 16777216 ∧ Q (.str (Txt.join a ys)) H
abbrev rStarts : V → List V → Hp → VK → Prop := fun x xs H Q => ∃ a b, x = .str a ∧ xs = [.str b] ∧ Q (.bl (Txt.startswith a b)) H
abbrev rInSign : R2 := fun x y H Q => ∃ (c : Nat) (z : Str), x = .str ⟨#[c]⟩ ∧ y = .str z ∧ Q (.bl (decide (c ∈ z.cps.toList))) H
theorem dq_strsV {H : Hp} : ∀ xs : List Str, DqAll K H (xs.map V.str) (strsD xs)
  | [] => .nil
  | x :: xs => .cons (.str x) (dq_strsV xs)
theorem strs_ofD {H : Hp} {xs : List Str} {vs : List V} (h : DqAll K H vs (strsD xs)) : vs = xs.map V.str := strs_of h
/-- a.split(b) -/
theorem ev_split {a b : Str} (hb : (b.length == 0) = false) (ha : a.length + 2 ≤ 16777216) (h : EvD K te Γ (· = .str a)) (h2 : EvD K tb Γ (· = .str b)) : EvD K (tM1 rSplit te tb) Γ (· = .list (strsD (Txt.split a b))) := fun G σ H e i Q q =>
  h G σ H e i _ fun v d1 H1 i1 l1 p1 dq => by
    subst p1
    cases dq
    refine ⟨⟨a, rfl⟩, h2 G σ H1 (e.le l1) i1 _ fun v2 d2 H2 i2 l2 p2 dq2 => ?_⟩
    subst p2
    cases dq2
    refine ⟨a, b, rfl, rfl, hb, by rw [sizeLine_eq]; exact ha, fun p hp => ?_⟩
    obtain ⟨i3, l3, h3⟩ := Fr.new (o := HO.lst ((Txt.split a b).map V.str)) i2 hp
    exact q _ _ _ i3 ((l1.trans l2).trans l3) rfl (.lst (.inl (.inl h3)) (dq_strsV _))
/-- a.join(l) -/
theorem ev_join {a : Str} {xs : List Str} (hz : (xs.map (·.length)).sum + xs.length * a.length ≤ 16777216) (h : EvD K te Γ (· = .str a)) (h2 : EvD K tb Γ (fun d => d = .list (strsD xs) ∨ d = .tuple (strsD xs))) : EvD K (tM1 (rJoin K) te tb) Γ (· = .str (Txt.join a xs)) := fun G σ H e i Q q =>
  h G σ H e i _ fun v d1 H1 i1 l1 p1 dq => by
    subst p1
    cases dq
    refine ⟨⟨a, rfl⟩, h2 G σ H1 (e.le l1) i1 _ fun v2 d2 H2 i2 l2 p2 dq2 => ?_⟩
    rcases p2 with p2 | p2
    · subst p2
      cases dq2 with
      | @lst b vs _ hs hd =>
        have e1 := strs_ofD hd
        subst e1
        exact ⟨a, b, xs, rfl, rfl, .inl (Fr.upL hs), hz, q _ _ _ i2 (l1.trans l2) rfl (.str _)⟩
    · subst p2
      cases dq2 with
      | @tup b vs _ hs hd =>
        have e1 := strs_ofD hd
        subst e1
        exact ⟨a, b, xs, rfl, rfl, .inr (Fr.upT hs), hz, q _ _ _ i2 (l1.trans l2) rfl (.str _)⟩
theorem ev_starts {a b : Str} (h : EvD K te Γ (· = .str a)) (h2 : EvD K tb Γ (· = .str b)) : EvD K (tM1 rStarts te tb) Γ (· = .bool (Txt.startswith a b)) := fun G σ H e i Q q =>
  h G σ H e i _ fun v d1 H1 i1 l1 p1 dq => by
    subst p1
    cases dq
    refine ⟨⟨a, rfl⟩, h2 G σ H1 (e.le l1) i1 _ fun v2 d2 H2 i2 l2 p2 dq2 => ?_⟩
    subst p2
    cases dq2
    exact ⟨a, b, rfl, rfl, q _ _ _ i2 (l1.trans l2) rfl (.bl _)⟩
/-- str(i) -/
theorem ev_strOf {i : Int} (hz : i.natAbs.log2 < 1920) (h : EvD K te Γ (· = .int i)) : EvD K (tCB (fun xs H Q => ∃ i, xs = [.int i] ∧ i.natAbs.log2 < 1920 ∧ Q (.str (toString i)) H) (tCons te tNil)) Γ (· = .str (Str.ofString (toString i))) := fun G σ H e iv Q q =>
  h G σ H e iv _ fun v d1 H1 i1 l1 p1 dq => by
    subst p1
    cases dq
    exact ⟨i, rfl, hz, q _ _ _ i1 l1 rfl (.str _)⟩
/-- int(s) -/
theorem ev_intStr {a : Str} {n : Int} (hn : PySem.intText? a = some n) (hl : a.length ≤ 640) (h : EvD K te Γ (· = .str a)) : EvD K (tCB (fun xs H Q => ∃ a n, xs = [.str a] ∧ PySem.intText? a = some n ∧ a.length ≤ 640 ∧ Q (.int n) H) (tCons te tNil)) Γ (· = .int n) := fun G σ H e iv Q q =>
  h G σ H e iv _ fun v d1 H1 i1 l1 p1 dq => by
    subst p1
    cases dq
    exact ⟨a, n, rfl, hn, hl, q _ _ _ i1 l1 rfl (.int _)⟩
/-- a + b, texts -/
theorem ev_addStr {a b : Str} (hz : a.length + b.length ≤ 16777216) (h : EvD K te Γ (· = .str a)) (h2 : EvD K tb Γ (· = .str b)) : EvD K (tOp (fun x y H Q => ∃ i j, x = .str i ∧ y = .str j ∧ i.length + j.length ≤ sizeLine ∧ Q (.str (i ++ j)) H) te tb) Γ (· = .str (a ++ b)) := fun G σ H e i Q q =>
  h G σ H e i _ fun v d1 H1 i1 l1 p1 dq => h2 G σ H1 (e.le l1) i1 _ fun v2 d2 H2 i2 l2 p2 dq2 => by
    subst p1; subst p2
    cases dq; cases dq2
    exact ⟨a, b, rfl, rfl, by rw [sizeLine_eq]; exact hz, q _ _ _ i2 (l1.trans l2) rfl (.str _)⟩
theorem ev_inSign {c : Nat} {z : Str} (h : EvD K te Γ (· = .str ⟨#[c]⟩)) (h2 : EvD K tb Γ (· = .str z)) : EvD K (tOp rInSign te tb) Γ (· = .bool (decide (c ∈ tl z))) := fun G σ H e i Q q =>
  h G σ H e i _ fun v d1 H1 i1 l1 p1 dq => h2 G σ H1 (e.le l1) i1 _ fun v2 d2 H2 i2 l2 p2 dq2 => by
    subst p1; subst p2
    cases dq; cases dq2
    exact ⟨c, z, rfl, rfl, q _ _ _ i2 (l1.trans l2) rfl (.bl _)⟩
/-- s in l, texts -/
theorem ev_inStrs {s : Str} {xs : List Str} (h : EvD K te Γ (· = .str s)) (h2 : EvD K tb Γ (· = .list (strsD xs))) : EvD K (tOp (rIn K false) te tb) Γ (· = .bool (decide (s ∈ xs))) := fun G σ H e i Q q =>
  h G σ H e i _ fun v d H1 i1 l1 p1 dq => h2 G σ H1 (e.le l1) i1 _ fun v2 d2 H2 i2 l2 p2 dq2 => by
    subst p1; subst p2
    cases dq
    cases dq2 with
    | lst hs ha =>
      have hx := strs_ofD ha
      subst hx
      have hf : (xs.map V.str).all flatV = true := by
        rw [List.all_map]
        exact List.all_eq_true.mpr fun _ _ => rfl
      refine ⟨_, _, rfl, .inl (Fr.upL hs), rfl, hf, ?_⟩
      rw [if_neg (by decide), inV_strs]
      exact q _ _ H2 i2 (l1.trans l2) rfl (.bl _)
/-- l.index(s), texts -/
theorem ev_indexS {xs : List Str} {s : Str} {j : Nat} (h : EvD K te Γ (· = .list (strsD xs))) (h2 : EvD K tb Γ (· = .str s)) (hj : xs[j]? = some s) (hno : ∀ m, m < j → xs[m]? ≠ some s) : EvD K (tBM K "list" (rIndex K) te (tCons tb tNil)) Γ (· = .int (j : Nat)) := fun G σ H e i Q q =>
  h G σ H e i _ fun v d1 H1 i1 l1 p1 dq => by
    subst p1
    cases dq with
    | @lst a vs _ hs ha =>
      refine ⟨.inl ⟨rfl, vs, Fr.upL hs⟩, h2 G σ H1 (e.le l1) i1 _ fun v2 d2 H2 i2 l2 p2 dq2 => ?_⟩
      subst p2
      cases dq2
      have e1 := strs_ofD ha
      subst e1
      refine ⟨a, _, .str s, j, .str s, rfl, rfl, Fr.upL (exL l2 hs), rfl, ?_, by rw [List.getElem?_map, hj]; rfl, by rw [eqV_str]; exact decide_eq_true rfl, fun m z' hm hz => ?_, q _ _ H2 i2 (l1.trans l2) rfl (.int _)⟩
      · rw [List.all_eq_true]
        intro x hx
        obtain ⟨y, _, rfl⟩ := List.mem_map.mp hx
        rfl
      · rw [List.getElem?_map] at hz
        cases hk : xs[m]? with
        | none => rw [hk] at hz; cases hz
        | some k =>
          rw [hk] at hz
          cases hz
          rw [eqV_str]
          exact decide_eq_false fun z => hno m hm (by rw [hk, z])
/-- s[lo:hi], a text -/
theorem ev_slS {z : Str} {to1 to2 : TO} {lo hi : Option Int} (hz : z.length ≤ 16777216) (h : EvD K te Γ (· = .str z)) (h1 : EvO K to1 Γ lo) (h2 : EvO K to2 Γ hi) : EvD K (tSl rSlS te to1 to2) Γ (· = .str (cutS z lo hi)) := fun G σ H e i Q q =>
  h G σ H e i _ fun v d H1 i1 l1 p1 dq => h1 G σ H1 (e.le l1) i1 _ fun H2 i2 l2 => h2 G σ H2 (e.le (l1.trans l2)) i2 _ fun H3 i3 l3 => by
    subst p1
    cases dq
    exact ⟨z, rfl, by rw [sizeLine_eq]; exact hz, q _ _ _ i3 ((l1.trans l2).trans l3) rfl (.str _)⟩
/-- s[i], a sign -/
theorem ev_ixS {z : Str} {i : Int} {c : Nat} (hz : z.length ≤ 16777216) (hc : atI (tl z) i = some c) (h : EvD K te Γ (· = .str z)) (h2 : EvD K tb Γ (· = .int i)) : EvD K (tOp rIxS te tb) Γ (· = .str ⟨#[c]⟩) := fun G σ H e iv Q q =>
  h G σ H e iv _ fun v d1 H1 i1 l1 p1 dq => h2 G σ H1 (e.le l1) i1 _ fun v2 d2 H2 i2 l2 p2 dq2 => by
    subst p1; subst p2
    cases dq; cases dq2
    exact ⟨z, i, c, rfl, rfl, by rw [sizeLine_eq]; exact hz, hc, q _ _ _ i2 (l1.trans l2) rfl (.str _)⟩
/-- x is None -/
def isNonD : PyData → Bool
  | .none => true
  | _ => false
theorem ev_isNon {d : PyData} (h : EvD K te Γ (· = d)) : EvD K (tOp (fun x y H Q => y = .non ∧ Q (.bl (decide (x = .non))) H) te (tC .non)) Γ (· = .bool (isNonD d)) := fun G σ H e i Q q =>
  h G σ H e i _ fun v d1 H1 i1 l1 p1 dq => by
    subst p1
    refine ⟨rfl, q _ _ _ i1 l1 rfl ?_⟩
    have : decide (v = V.non) = isNonD d1 := by cases dq <;> first | rfl | exact decide_eq_false fun z => nomatch z
    rw [this]
    exact .bl _
/-- x or y, values that are truths -/
theorem ev_or {b1 b2 : Bool} (h : EvD K te Γ (· = .bool b1)) (h2 : b1 = false → EvD K tb Γ (· = .bool b2)) : EvD K (tOrV te tb) Γ (· = .bool (b1 || b2)) := fun G σ H e i Q q =>
  h G σ H e i _ fun v d1 H1 i1 l1 p1 dq => by
    subst p1
    cases dq
    refine ⟨b1, rfl, ?_⟩
    cases b1 with
    | true => exact q _ _ H1 i1 l1 rfl (.bl _)
    | false => exact h2 rfl G σ H1 (e.le l1) i1 _ fun v2 d2 H2 i2 l2 p2 dq2 => q v2 d2 H2 i2 (l1.trans l2) p2 dq2
theorem ev_ifE {tt : TT} {tv : TE} {b : Bool} {P : PyData → Prop} (h : EvB K tt Γ (· = b)) (h1 : b = true → EvD K te Γ P) (h2 : b = false → EvD K tv Γ P) : EvD K (tIf tt te tv) Γ P := by
  cases b with
  | true => exact ev_ifT h (h1 rfl)
  | false =>
    refine fun G σ H e i Q q => h G σ H e i _ fun b H1 i1 l1 eb => ?_
    · subst eb
      exact h2 rfl G σ H1 (e.le l1) i1 Q fun v d H' i' l' p dq => q v d H' i' (l1.trans l') p dq
/-- l + m, a list of its own -/
theorem en_catL {ds es : List PyData} (hn : ds.length + es.length ≤ 100000) (h : EvD K te Γ (· = .list ds)) (h2 : EvD K tb Γ (· = .list es)) : EvN K (tOp (rCatS K) te tb) Γ (· = ds ++ es) := fun G σ H e i Q q =>
  h G σ H e i _ fun v d H1 i1 l1 p1 dq => h2 G σ H1 (e.le l1) i1 _ fun v2 d2 H2 i2 l2 p2 dq2 => by
    subst p1; subst p2
    cases dq with
    | @lst a xs _ hs ha =>
      cases dq2 with
      | @lst b ys _ ks ka =>
        refine ⟨a, b, xs, ys, rfl, rfl, Fr.upL (exL l2 hs), Fr.upL ks, by rw [ha.length, ka.length, sizeLine_eq]; omega, fun p hp => ?_⟩
        obtain ⟨i4, v4⟩ := Fr.own_new (G := G) (o := HO.lst (xs ++ ys)) i2 hp
        exact q p _ _ _ i4 (by rw [v4]; exact l1.trans l2) rfl (by rw [v4]; exact (ha.ex l2).append ka)
/-- the truth of a list -/
theorem eb_truL {ds : List PyData} (h : EvD K te Γ (· = .list ds)) : EvB K (fun σ H Q => te σ H fun x H' => ∃ k, TruV K x H' k ∧ Q k H') Γ (· = !ds.isEmpty) := by
  cases ds with
  | cons e es => exact eb_tru1 h
  | nil =>
    exact fun G σ H e i Q q => h G σ H e i _ fun v d H1 i1 l1 p1 dq => by
      subst p1
      cases dq with
      | lst hs ha =>
        cases ha
        exact ⟨false, .inl ⟨_, Fr.upL hs, rfl⟩, q false H1 i1 l1 rfl⟩
end
/-! ### the signs of numbers -/
/-- the signs of a whole number -/
def intL (i : Int) : List Nat := if i < 0 then 45 :: numL i.natAbs else numL i.natAbs
theorem tl_int (i : Int) : tl (Str.ofString (toString i)) = intL i := by
  cases i with
  | ofNat n => 
    have h := tl_num n
    unfold intL
    rw [if_neg (by simp)]
    exact h
  | negSucc n =>
    unfold intL
    rw [if_pos (Int.negSucc_lt_zero n)]
    have h := tl_num (n + 1)
    rw [tl_ofString] at h ⊢
    have e : toString (Int.negSucc n) = "-" ++ toString ((n + 1 : Nat) : Int) := rfl
    rw [e, String.toList_append, List.map_append, h]
    rfl
end L2
namespace L2
open PySem PySem.Spec PyProof.Rows
section
variable {X : Cx} {CX : CXT} {k : Nat} {f : Addr} {fd : FuncData} {ps ks : List Str} {sp : Sp} {E : XK} {x : Str} {p pos : Pos} {kws : List Keyword} {tk : TA} {g : List Value → List Value → List Value} {gV : List V → List V → List V}
/-- f(k = v, ..), no positional arguments -/
theorem pe_callK0 (F : FnOk X.prog X.w X.K X.mg X.base CX k f fd ps sp) (hr : Room k X.A) (hg : Gl X x) (hm : X.mg x = some (.ref f)) (hk : PySem.W.keepIn X.K (.ref f) = true) (hb : KBinds X.K fd ps ks g gV) (hx : Passes CX X E)
    (hkw : PK X kws tk) (hall : (backToKw pos (keywordEach kws X.env)).all (·.1.isSome) = true := by rfl) (hks : (backToKw pos (keywordEach kws X.env)).filterMap (·.1) = ks := by rfl)
    (hdb : (x == ("__debug__" : Str)) = false := by decide)
    (hpl : ((backTo pos (starEach [] X.env)).any (·.1) || (backToKw pos (keywordEach kws X.env)).any (·.1.isNone)) = false := by rfl) :
    PE X (.Call (.Name x p) [] kws pos) (tCallK sp gV E tNil tk) := by
  refine ⟨fun pins s σ H Q I h => ?_⟩
  refine wpAny_Call_Name_kw (ld_glob I hg hm ?_ hdb)
  refine PySem.W.callWith_KW0 (h₀ := X.base) I.ok.mod.kin hk hall ?_ hpl
  refine thn (hkw.run pos pins s σ H _ I h) fun ws s2 ⟨zs, H2, I2, rz, q2⟩ => ⟨I2.kIn, ?_⟩
  rw [hks]
  exact run_fnk F hr hb hx I2 .nil rz q2
end
section
variable {K : PySem.W.Frag} {Γ : List Sl} {te : TE}
/-- f(k = v): one argument that is data -/
theorem ev_callK1 {γ : Type} {pre : γ → List Sl → Prop} {post : γ → PyData → Prop} {E : XK} (c : γ) {d : PyData} (h : EvD K te Γ (· = d)) (hp : pre c [.dat d]) : EvD K (tCallK (spS K pre post) (fun us ws => us ++ ws) E tNil (tCons te tNil)) Γ (post c) := fun G σ H e i Q q =>
  (es_cons h es_nil G σ H e i (fun zs H2 => spS K pre post ([] ++ zs) H2 Q E) fun vs ss H1 i1 l1 ⟨d1, r, e1, e2, e3⟩ as => by
    subst e2
    subst e3
    subst e1
    rw [List.nil_append]
    exact ⟨G, _, c, i1, as, hp, fun v d H' i' l' p' dq => q v d H' i' (l1.trans l') p' dq⟩ : (tCons te tNil) σ H fun zs H2 => spS K pre post ([] ++ zs) H2 Q E)
end
end L2
namespace L2
open PySem PySem.Spec PyProof.Rows
/-- a.join(l) in an environment whose written part is K -/
theorem pe_joinK {X : Cx} (K : PySem.W.Frag) {o e : Expr} {to te : TE} {apos pos : Pos} (hK : X.K = K) (ho : PE X o to) (he : PE X e te) (hs : starEach [e] X.env = [(false, eval e X.env)] := by rfl) (hbase : attributeBase o "join" X.env (eval o X.env) = eval o X.env := by rfl) (hline : (apos.endLine == pos.line) = true := by rfl) :
    PE X (.Call (.Attribute o "join" apos) [e] [] pos) (tM1 (rJoin K) to te) := by
  subst hK
  exact pe_join ho he hs hbase hline
end L2

set_option Elab.async false
set_option linter.all false
set_option maxRecDepth 100000
set_option maxHeartbeats 4000000
namespace K94
open PySem PySem.Spec PyProof.Rows L2
def topS (i : Nat) : Stmt := PySem.Challenge.pw_leastattr_k94_texts_of_trees.main.body.getD i (.Pass ⟨0, 0, 0, 0⟩)
/-- a def of the text behind the top -/
structure Df (K : PySem.W.Frag) (mg : Str → Option Value) (x : Str) (st : Stmt) (ps : List Str) : Type where
  f : Addr
  fd : FuncData
  F : Fun K x x st f fd
  g : mg x = some (.ref f)
  b : Binds K fd ps []
structure TB (mg : Str → Option Value) : Type where
  int : mg "int" = none
  bool : mg "bool" = none
  str : mg "str" = none
  list : mg "list" = none
  tuple : mg "tuple" = none
  dict : mg "dict" = none
  set : mg "set" = none
  len : mg "len" = none
  all : mg "all" = none
  isinstance : mg "isinstance" = none
  range : mg "range" = none
  zip : mg "zip" = none
  enumerate : mg "enumerate" = none
section
variable {P : Program} {w : World} {K : PySem.W.Frag} {mg : Str → Option Value} {base : Heap}
/-! ### what the checks answer -/
def isInt : PyData → Bool
  | .int _ => true
  | _ => false
def isBet (d : PyData) (lo hi : Int) : Bool := match d with
  | .int i => decide (lo ≤ i) && decide (i ≤ hi)
  | _ => false
theorem kit_int (d : PyData) : kitB (tyD d) "int" = some (match d with | .int _ => true | .bool _ => true | _ => false) := by
  cases d
  · exact (by decide +kernel : kitB "NoneType" "int" = some false)
  · exact (by decide +kernel : kitB "bool" "int" = some true)
  · exact (by decide +kernel : kitB "int" "int" = some true)
  · exact (by decide +kernel : kitB "str" "int" = some false)
  · exact (by decide +kernel : kitB "list" "int" = some false)
  · exact (by decide +kernel : kitB "tuple" "int" = some false)
  · exact (by decide +kernel : kitB "dict" "int" = some false)
theorem kit_bool (d : PyData) : kitB (tyD d) "bool" = some (match d with | .bool _ => true | _ => false) := by
  cases d
  · exact (by decide +kernel : kitB "NoneType" "bool" = some false)
  · exact (by decide +kernel : kitB "bool" "bool" = some true)
  · exact (by decide +kernel : kitB "int" "bool" = some false)
  · exact (by decide +kernel : kitB "str" "bool" = some false)
  · exact (by decide +kernel : kitB "list" "bool" = some false)
  · exact (by decide +kernel : kitB "tuple" "bool" = some false)
  · exact (by decide +kernel : kitB "dict" "bool" = some false)
theorem kit_str (d : PyData) : kitB (tyD d) "str" = some (match d with | .str _ => true | _ => false) := by
  cases d
  · exact (by decide +kernel : kitB "NoneType" "str" = some false)
  · exact (by decide +kernel : kitB "bool" "str" = some false)
  · exact (by decide +kernel : kitB "int" "str" = some false)
  · exact (by decide +kernel : kitB "str" "str" = some true)
  · exact (by decide +kernel : kitB "list" "str" = some false)
  · exact (by decide +kernel : kitB "tuple" "str" = some false)
  · exact (by decide +kernel : kitB "dict" "str" = some false)
theorem kit_tuple (d : PyData) : kitB (tyD d) "tuple" = some (match d with | .tuple _ => true | _ => false) := by
  cases d
  · exact (by decide +kernel : kitB "NoneType" "tuple" = some false)
  · exact (by decide +kernel : kitB "bool" "tuple" = some false)
  · exact (by decide +kernel : kitB "int" "tuple" = some false)
  · exact (by decide +kernel : kitB "str" "tuple" = some false)
  · exact (by decide +kernel : kitB "list" "tuple" = some false)
  · exact (by decide +kernel : kitB "tuple" "tuple" = some true)
  · exact (by decide +kernel : kitB "dict" "tuple" = some false)
theorem kit_seq (d : PyData) : PySem.W.kitAny K (.type (tyD d)) [.type "list", .type "tuple"] = some (match d with | .list _ => true | .tuple _ => true | _ => false) := by
  have h1 : PySem.W.kitOne K (.type (tyD d)) (.type "list") = some (match d with | .list _ => true | _ => false) := kit_ty (by
    cases d
    · exact (by decide +kernel : kitB "NoneType" "list" = some false)
    · exact (by decide +kernel : kitB "bool" "list" = some false)
    · exact (by decide +kernel : kitB "int" "list" = some false)
    · exact (by decide +kernel : kitB "str" "list" = some false)
    · exact (by decide +kernel : kitB "list" "list" = some true)
    · exact (by decide +kernel : kitB "tuple" "list" = some false)
    · exact (by decide +kernel : kitB "dict" "list" = some false))
  have h2 := kit_ty (K := K) (kit_tuple d)
  simp only [PySem.W.kitAny, h1, h2]
  cases d <;> rfl
/-! ### the heads -/
abbrev s_is_integer : Stmt := topS 2
abbrev N_is_integer : List Str := ["thing"]
theorem sc_is_integer : FnScope N_is_integer ["thing"] (defScope s_is_integer) := ⟨rfl, rfl, rfl, by decide +kernel, rfl, by decide +kernel, by decide +kernel⟩
abbrev s_is_between : Stmt := topS 3
abbrev N_is_between : List Str := ["thing", "low", "high"]
theorem sc_is_between : FnScope N_is_between ["thing", "low", "high"] (defScope s_is_between) := ⟨rfl, rfl, rfl, by decide +kernel, rfl, by decide +kernel, by decide +kernel⟩
abbrev s_is_name : Stmt := topS 4
abbrev N_is_name : List Str := ["thing", "sign"]
theorem sc_is_name : FnScope N_is_name ["thing"] (defScope s_is_name) := ⟨rfl, rfl, rfl, by decide +kernel, rfl, by decide +kernel, by decide +kernel⟩
abbrev s_is_sequence : Stmt := topS 5
abbrev N_is_sequence : List Str := ["thing", "low", "high"]
theorem sc_is_sequence : FnScope N_is_sequence ["thing", "low", "high"] (defScope s_is_sequence) := ⟨rfl, rfl, rfl, by decide +kernel, rfl, by decide +kernel, by decide +kernel⟩
abbrev s_is_tuple : Stmt := topS 6
abbrev N_is_tuple : List Str := ["thing", "low", "high"]
theorem sc_is_tuple : FnScope N_is_tuple ["thing", "low", "high"] (defScope s_is_tuple) := ⟨rfl, rfl, rfl, by decide +kernel, rfl, by decide +kernel, by decide +kernel⟩
abbrev s_is_row : Stmt := topS 7
abbrev N_is_row : List Str := ["thing", "size", "number"]
theorem sc_is_row : FnScope N_is_row ["thing", "size"] (defScope s_is_row) := ⟨rfl, rfl, rfl, by decide +kernel, rfl, by decide +kernel, by decide +kernel⟩
abbrev s_is_integers : Stmt := topS 8
abbrev N_is_integers : List Str := ["thing", "size"]
theorem sc_is_integers : FnScope N_is_integers ["thing", "size"] (defScope s_is_integers) := ⟨rfl, rfl, rfl, by decide +kernel, rfl, by decide +kernel, by decide +kernel⟩
def letters : Str := "abcdefghijklmnopqrstuvwxyz"
structure TC (K : PySem.W.Frag) (mg : Str → Option Value) extends TB mg where
  LETTERS : ∃ t, mg "LETTERS" = some (.str letters t)
  is_integer : Df K mg "is_integer" s_is_integer ["thing"]
  is_between : Df K mg "is_between" s_is_between ["thing", "low", "high"]
  is_name : Df K mg "is_name" s_is_name ["thing"]
  is_sequence : Df K mg "is_sequence" s_is_sequence ["thing", "low", "high"]
  is_tuple : Df K mg "is_tuple" s_is_tuple ["thing", "low", "high"]
  is_row : Df K mg "is_row" s_is_row ["thing", "size"]
  is_integers : Df K mg "is_integers" s_is_integers ["thing", "size"]
theorem one : ∀ {vs : List V}, vs.length = 1 → ∃ a, vs = [a]
  | [a], _ => ⟨a, rfl⟩
theorem two : ∀ {vs : List V}, vs.length = 2 → ∃ a b, vs = [a, b]
  | [a, b], _ => ⟨a, b, rfl⟩
theorem three : ∀ {vs : List V}, vs.length = 3 → ∃ a b c, vs = [a, b, c]
  | [a, b, c], _ => ⟨a, b, c, rfl⟩
theorem four : ∀ {vs : List V}, vs.length = 4 → ∃ a b c d, vs = [a, b, c, d]
  | [a, b, c, d], _ => ⟨a, b, c, d, rfl⟩
theorem five : ∀ {vs : List V}, vs.length = 5 → ∃ a b c d e, vs = [a, b, c, d, e]
  | [a, b, c, d, e], _ => ⟨a, b, c, d, e, rfl⟩
/-! ### small things: no long text, no long list -/
mutual
def smallD : PyData → Bool
  | .str s => decide (s.length ≤ 1000)
  | .list xs => decide (xs.length ≤ 1000) && smallAll xs
  | .tuple xs => decide (xs.length ≤ 1000) && smallAll xs
  | _ => true
def smallAll : List PyData → Bool
  | [] => true
  | d :: r => smallD d && smallAll r
end
theorem small_mem : ∀ {ds : List PyData}, smallAll ds = true → ∀ {d : PyData}, d ∈ ds → smallD d = true
  | [], _, d, h => by cases h
  | e :: r, h, d, hm => by
    rw [smallAll, Bool.and_eq_true] at h
    rcases List.mem_cons.mp hm with z | z
    · rw [z]; exact h.1
    · exact small_mem h.2 z
theorem small_str {s : Str} (h : smallD (.str s) = true) : s.length ≤ 1000 := by rw [smallD] at h; exact of_decide_eq_true h
theorem small_list {xs : List PyData} (h : smallD (.list xs) = true) : xs.length ≤ 1000 ∧ smallAll xs = true := by
  rw [smallD, Bool.and_eq_true] at h
  exact ⟨of_decide_eq_true h.1, h.2⟩
theorem small_tuple {xs : List PyData} (h : smallD (.tuple xs) = true) : xs.length ≤ 1000 ∧ smallAll xs = true := by
  rw [smallD, Bool.and_eq_true] at h
  exact ⟨of_decide_eq_true h.1, h.2⟩
/-! ### whole numbers -/
def f1 (f : PyData → Bool) : List PyData → PyData
  | [d] => .bool (f d)
  | _ => .none
abbrev spI (K : PySem.W.Frag) (f : PyData → Bool) : Sp := spD K (fun ds => ∃ d, ds = [d]) (f1 f)
theorem ok_is_integer (T : TC K mg) : FnOk P w K mg base CX0 1 T.is_integer.f T.is_integer.fd ["thing"] (spI K isInt) := by
  refine T.is_integer.F.ok sc_is_integer (fun vs H Q E ⟨G, ds, iv, a, ⟨d, hp⟩, k⟩ => len1 a (by rw [hp]; rfl)) (fun cdv A outer s H vs Q E hr ⟨G, ds, iv, a, ⟨d, hp⟩, k⟩ => ?_)
  subst hp
  obtain ⟨v, rfl⟩ := one a.length
  refine ⟨_, (pss_one (ps_ret (pe_and (pe_callB call_isi (by rfl) T.isinstance (by decide +kernel) (pa_cons (pv 0) (pa_cons (pe_bltn (v := .ty "int") (by rfl) T.int (by decide +kernel) rfl) pa_nil))) (pe_one (pe_not (pe_callB call_isi (by rfl) T.isinstance (by decide +kernel) (pa_cons (pv 0) (pa_cons (pe_bltn (v := .ty "bool") (by rfl) T.bool (by decide +kernel) rfl) pa_nil)))))))), ?_⟩
  refine doneR 0 rfl ?_ iv a k
  exact ev_b (ev_and (ev_isi (ev_var rfl) (kit_int d)) fun _ => ev_notB (ev_isi (ev_var rfl) (kit_bool d))) (by cases d <;> rfl)
def fBet : List PyData → PyData
  | [d, .int lo, .int hi] => .bool (isBet d lo hi)
  | _ => .none
abbrev spBet (K : PySem.W.Frag) : Sp := spD K (fun ds => ∃ d lo hi, ds = [d, .int lo, .int hi]) fBet
theorem ok_is_between (T : TC K mg) : FnOk P w K mg base CX0 2 T.is_between.f T.is_between.fd ["thing", "low", "high"] (spBet K) := by
  have G_is_integer : FnOk P w K mg base CX0 1 T.is_integer.f T.is_integer.fd ["thing"] (spI K isInt) := ok_is_integer T
  refine T.is_between.F.ok sc_is_between (fun vs H Q E ⟨G, ds, iv, a, ⟨d, lo, hi, hp⟩, k⟩ => len1 a (by rw [hp]; rfl)) (fun cdv A outer s H vs Q E hr ⟨G, ds, iv, a, ⟨d, lo, hi, hp⟩, k⟩ => ?_)
  subst hp
  obtain ⟨v, x, y, rfl⟩ := three a.length
  refine ⟨_, (pss_one (ps_ret (pe_and (pe_call G_is_integer (hr.mono (by decide)) rfl T.is_integer.g T.is_integer.F.kp T.is_integer.b .nil pass0 (pa_cons (pv 0) pa_nil)) (pe_one (pe_chain op_le op_le (pv 1) (pv 0) (pv 2)))))), ?_⟩
  refine doneR 0 rfl ?_ iv a k
  by_cases hd : isInt d = true
  · obtain ⟨i, rfl⟩ : ∃ i, d = .int i := by cases d <;> first | exact ⟨_, rfl⟩ | cases hd
    exact ev_and (b1 := true) (ev_call1 [.int i] (elc (ev_var rfl) el_nil) ⟨_, rfl⟩ rfl) fun _ => ev_chainLe (a := lo) (x := i) (b := hi) (ev_var rfl) (ev_var rfl) (ev_var rfl)
  · have hd : isInt d = false := by simpa using hd
    refine ev_eq (ev_and (b1 := false) (b2 := true) (ev_call1 [d] (elc (ev_var rfl) el_nil) ⟨_, rfl⟩ (congrArg PyData.bool hd)) fun z => nomatch z) (by cases d <;> first | rfl | cases hd)
/-! ### names -/
def signIn (z : Str) : Bool := !(Builtin.Str.occurrences letters z 0 letters.length 1).isEmpty
def nameS (s : Str) : Bool := (decide ((1 : Int) ≤ (s.length : Nat)) && decide (((s.length : Nat) : Int) ≤ 8)) && s.cps.toList.all fun c => signIn ⟨#[c]⟩
def isName : PyData → Bool
  | .str s => nameS s
  | _ => false
abbrev spSm (K : PySem.W.Frag) (f : PyData → Bool) : Sp := spD K (fun ds => ∃ d, ds = [d] ∧ smallD d = true) (f1 f)
theorem ok_is_name (T : TC K mg) : FnOk P w K mg base CX0 1 T.is_name.f T.is_name.fd ["thing"] (spSm K isName) := by
  refine T.is_name.F.ok sc_is_name (fun vs H Q E ⟨G, ds, iv, a, ⟨d, hp, hs⟩, k⟩ => len1 a (by rw [hp]; rfl)) (fun cdv A outer s H vs Q E hr ⟨G, ds, iv, a, ⟨d, hp, hs⟩, k⟩ => ?_)
  subst hp
  obtain ⟨v, rfl⟩ := one a.length
  obtain ⟨tL, hLETTERS⟩ := T.LETTERS
  refine ⟨_, (pss_cons (ps_if (PW.pt (pw_or (pt_not (pt_val (pe_callB call_isi (by rfl) T.isinstance (by decide +kernel) (pa_cons (pv 0) (pa_cons (pe_bltn (v := .ty "str") (by rfl) T.str (by decide +kernel) rfl) pa_nil))))) (pw_or1 (pt_not (pt_chain op_le op_le pe_int (pe_callB call_len_str (by rfl) T.len (by decide +kernel) (pa_cons (pv 0) pa_nil)) pe_int))))) (pss_one (ps_ret pe_bl)) pss_nil)
    (pss_one (ps_ret (pe_callB (cr_all rfl) (by rfl) T.all (by decide +kernel) (pa_cons (pe_lc (own := [("sign", 1)]) (g := gName 1) (tt := tYes) rfl sc_is_name.nd (pi_str (pv 0)) (blkOk_by (own := [("sign", 1)]) (N := N_is_name) (sc := defScope s_is_name) (by decide +kernel)) (fun _ _ _ _ _ => (pg_name (i := 1) sc_is_name.nd rfl (by first | exact Or.inl rfl | exact Or.inr rfl))) (fun _ _ _ _ _ => pts_nil) (fun _ _ _ _ _ => (pe_cmpR op_in_str (pv 1) (pe_glob (v := .str letters) rfl hLETTERS ⟨_, rfl⟩) (by rfl)))) pa_nil))))), ?_⟩
  refine doneS 1 rfl ?_ iv a k
  cases d with
  | str z =>
    have hz := small_str hs
    refine rs_if (!(decide ((1 : Int) ≤ (z.length : Nat)) && decide (((z.length : Nat) : Int) ≤ 8))) ?_ (fun e => ?_) (fun e => ?_)
    · refine (eb_or (b1 := false) (b2 := !(decide ((1 : Int) ≤ (z.length : Nat)) && decide (((z.length : Nat) : Int) ≤ 8))) (eb_not (b := true) (eb_val (ev_isi (ev_var rfl) (kit_str _)))) fun _ => eb_not (eb_test (ev_chainLe ev_int (ev_lenS (ev_var rfl) (by omega)) ev_int))).imp fun b e => ?_
      rw [e, Bool.false_or]
    · refine rs_ret (ev_eq ev_bl (congrArg PyData.bool ?_))
      show false = nameS z
      unfold nameS
      rw [Bool.not_eq_true'] at e
      rw [e, Bool.false_and]
    · refine rs_ret (ev_eq (ev_lcS (f := signIn) (x := z) (by show z.length < 100000; omega) (ev_var rfl) (tg_name (by show 1 < 2; omega)) fun c => ev_inStr (ev_var rfl) (ev_c fun _ => .str _)) (congrArg PyData.bool ?_))
      show _ = nameS z
      unfold nameS
      rw [Bool.not_eq_false'] at e
      rw [e, Bool.true_and]
  | _ =>
    refine rs_if true ((eb_or (b1 := true) (b2 := true) (eb_not (b := false) (eb_val (ev_isi (ev_var rfl) (kit_str _)))) fun z => nomatch z).imp fun b e => e) (fun e => ?_) (fun e => nomatch e)
    exact rs_ret (ev_eq ev_bl rfl)
/-! ### what a dict knows; lists and tuples -/
def seqOf : PyData → Option (List PyData)
  | .list xs => some xs
  | .tuple xs => some xs
  | _ => none
def tupOf : PyData → Option (List PyData)
  | .tuple xs => some xs
  | _ => none
def within (o : Option (List PyData)) (lo hi : Int) : Bool := match o with
  | some xs => decide (lo ≤ (xs.length : Nat)) && decide (((xs.length : Nat) : Int) ≤ hi)
  | none => false
def fSeq : List PyData → PyData
  | [d, .int lo, .int hi] => .bool (within (seqOf d) lo hi)
  | _ => .none
def fTup : List PyData → PyData
  | [d, .int lo, .int hi] => .bool (within (tupOf d) lo hi)
  | _ => .none
abbrev spSeq (K : PySem.W.Frag) : Sp := spD K (fun ds => ∃ d lo hi, ds = [d, .int lo, .int hi]) fSeq
abbrev spTup (K : PySem.W.Frag) : Sp := spD K (fun ds => ∃ d lo hi, ds = [d, .int lo, .int hi]) fTup
theorem ok_is_sequence (T : TC K mg) : FnOk P w K mg base CX0 1 T.is_sequence.f T.is_sequence.fd ["thing", "low", "high"] (spSeq K) := by
  refine T.is_sequence.F.ok sc_is_sequence (fun vs H Q E ⟨G, ds, iv, a, ⟨d, lo, hi, hp⟩, k⟩ => len1 a (by rw [hp]; rfl)) (fun cdv A outer s H vs Q E hr ⟨G, ds, iv, a, ⟨d, lo, hi, hp⟩, k⟩ => ?_)
  subst hp
  obtain ⟨v, x, y, rfl⟩ := three a.length
  refine ⟨_, (pss_one (ps_ret (pe_and (pe_callB call_isiT (by rfl) T.isinstance (by decide +kernel) (pa_cons (pv 0) (pa_cons (pe_tup (pa_cons (pe_bltn (v := .ty "list") (by rfl) T.list (by decide +kernel) rfl) (pa_cons (pe_bltn (v := .ty "tuple") (by rfl) T.tuple (by decide +kernel) rfl) pa_nil))) pa_nil))) (pe_one (pe_chain op_le op_le (pv 1) (pe_callB call_len_seq (by rfl) T.len (by decide +kernel) (pa_cons (pv 0) pa_nil)) (pv 2)))))), ?_⟩
  refine doneR 0 rfl ?_ iv a k
  cases d with
  | list xs => exact ev_and (b1 := true) (ev_isi2 (ev_var rfl) (kit_seq _)) fun _ => ev_chainLe (ev_var rfl) (ev_len (ds := xs) (el_list (ev_var rfl))) (ev_var rfl)
  | tuple xs => exact ev_and (b1 := true) (ev_isi2 (ev_var rfl) (kit_seq _)) fun _ => ev_chainLe (ev_var rfl) (ev_len (ds := xs) (el_tuple (ev_var rfl))) (ev_var rfl)
  | _ => exact ev_eq (ev_and (b1 := false) (b2 := true) (ev_isi2 (ev_var rfl) (kit_seq _)) fun z => nomatch z) rfl
theorem ok_is_tuple (T : TC K mg) : FnOk P w K mg base CX0 1 T.is_tuple.f T.is_tuple.fd ["thing", "low", "high"] (spTup K) := by
  refine T.is_tuple.F.ok sc_is_tuple (fun vs H Q E ⟨G, ds, iv, a, ⟨d, lo, hi, hp⟩, k⟩ => len1 a (by rw [hp]; rfl)) (fun cdv A outer s H vs Q E hr ⟨G, ds, iv, a, ⟨d, lo, hi, hp⟩, k⟩ => ?_)
  subst hp
  obtain ⟨v, x, y, rfl⟩ := three a.length
  refine ⟨_, (pss_one (ps_ret (pe_and (pe_callB call_isi (by rfl) T.isinstance (by decide +kernel) (pa_cons (pv 0) (pa_cons (pe_bltn (v := .ty "tuple") (by rfl) T.tuple (by decide +kernel) rfl) pa_nil))) (pe_one (pe_chain op_le op_le (pv 1) (pe_callB call_len_seq (by rfl) T.len (by decide +kernel) (pa_cons (pv 0) pa_nil)) (pv 2)))))), ?_⟩
  refine doneR 0 rfl ?_ iv a k
  cases d with
  | tuple xs => exact ev_and (b1 := true) (ev_isi (ev_var rfl) (kit_tuple _)) fun _ => ev_chainLe (ev_var rfl) (ev_len (ds := xs) (el_tuple (ev_var rfl))) (ev_var rfl)
  | _ => exact ev_eq (ev_and (b1 := false) (b2 := true) (ev_isi (ev_var rfl) (kit_tuple _)) fun z => nomatch z) rfl
/-! ### rows, forms -/
def isRow (d : PyData) (n : Int) : Bool := within (seqOf d) n n && (match seqOf d with
  | some xs => xs.all isInt
  | none => false)
def fRow : List PyData → PyData
  | [d, .int n] => .bool (isRow d n)
  | _ => .none
abbrev spRow (K : PySem.W.Frag) (f : List PyData → PyData) : Sp := spD K (fun ds => ∃ d n, ds = [d, .int n] ∧ smallD d = true) f
theorem ok_is_row (T : TC K mg) : FnOk P w K mg base CX0 2 T.is_row.f T.is_row.fd ["thing", "size"] (spRow K fRow) := by
  have G_is_integer : FnOk P w K mg base CX0 1 T.is_integer.f T.is_integer.fd ["thing"] (spI K isInt) := ok_is_integer T
  have G_is_sequence : FnOk P w K mg base CX0 1 T.is_sequence.f T.is_sequence.fd ["thing", "low", "high"] (spSeq K) := ok_is_sequence T
  refine T.is_row.F.ok sc_is_row (fun vs H Q E ⟨G, ds, iv, a, ⟨d, n, hp, hs⟩, k⟩ => len1 a (by rw [hp]; rfl)) (fun cdv A outer s H vs Q E hr ⟨G, ds, iv, a, ⟨d, n, hp, hs⟩, k⟩ => ?_)
  subst hp
  obtain ⟨v, x, rfl⟩ := two a.length
  refine ⟨_, (pss_one (ps_ret (pe_and (pe_call G_is_sequence (hr.mono (by decide)) rfl T.is_sequence.g T.is_sequence.F.kp T.is_sequence.b .nil pass0 (pa_cons (pv 0) (pa_cons (pv 1) (pa_cons (pv 1) pa_nil)))) (pe_one (pe_callB (cr_all rfl) (by rfl) T.all (by decide +kernel) (pa_cons (pe_lc (own := [("number", 2)]) (g := gName 2) (tt := tYes) rfl sc_is_row.nd (pi_seq (pv 0)) (blkOk_by (own := [("number", 2)]) (N := N_is_row) (sc := defScope s_is_row) (by decide +kernel)) (fun _ _ _ _ _ => (pg_name (i := 2) sc_is_row.nd rfl (by first | exact Or.inl rfl | exact Or.inr rfl))) (fun _ _ _ _ _ => pts_nil) (fun _ _ _ _ _ => (pe_call G_is_integer (hr.mono (by decide)) rfl T.is_integer.g T.is_integer.F.kp T.is_integer.b .nil pass0 (pa_cons (pv 2) pa_nil)))) pa_nil)))))), ?_⟩
  refine doneR 1 rfl ?_ iv a k
  cases d with
  | list xs =>
    exact ev_and (ev_call1 [.list xs, .int n, .int n] (elc (ev_var rfl) (elc (ev_var rfl) (elc (ev_var rfl) el_nil))) ⟨_, _, _, rfl⟩ rfl) fun _ =>
      ev_allF (by have := (small_list hs).1; omega) (el_list (ev_var rfl)) (tg_name (by show 2 < 3; omega)) fun d _ => ev_call1 [d] (elc (ev_var rfl) el_nil) ⟨_, rfl⟩ rfl
  | tuple xs =>
    exact ev_and (ev_call1 [.tuple xs, .int n, .int n] (elc (ev_var rfl) (elc (ev_var rfl) (elc (ev_var rfl) el_nil))) ⟨_, _, _, rfl⟩ rfl) fun _ =>
      ev_allF (by have := (small_tuple hs).1; omega) (el_tuple (ev_var rfl)) (tg_name (by show 2 < 3; omega)) fun d _ => ev_call1 [d] (elc (ev_var rfl) el_nil) ⟨_, rfl⟩ rfl
  | none => exact ev_eq (ev_and (b1 := false) (b2 := true) (ev_call1 [.none, .int n, .int n] (elc (ev_var rfl) (elc (ev_var rfl) (elc (ev_var rfl) el_nil))) ⟨_, _, _, rfl⟩ rfl) fun z => nomatch z) rfl
  | bool b => exact ev_eq (ev_and (b1 := false) (b2 := true) (ev_call1 [.bool b, .int n, .int n] (elc (ev_var rfl) (elc (ev_var rfl) (elc (ev_var rfl) el_nil))) ⟨_, _, _, rfl⟩ rfl) fun z => nomatch z) rfl
  | int b => exact ev_eq (ev_and (b1 := false) (b2 := true) (ev_call1 [.int b, .int n, .int n] (elc (ev_var rfl) (elc (ev_var rfl) (elc (ev_var rfl) el_nil))) ⟨_, _, _, rfl⟩ rfl) fun z => nomatch z) rfl
  | str b => exact ev_eq (ev_and (b1 := false) (b2 := true) (ev_call1 [.str b, .int n, .int n] (elc (ev_var rfl) (elc (ev_var rfl) (elc (ev_var rfl) el_nil))) ⟨_, _, _, rfl⟩ rfl) fun z => nomatch z) rfl
  | dict b => exact ev_eq (ev_and (b1 := false) (b2 := true) (ev_call1 [.dict b, .int n, .int n] (elc (ev_var rfl) (elc (ev_var rfl) (elc (ev_var rfl) el_nil))) ⟨_, _, _, rfl⟩ rfl) fun z => nomatch z) rfl
def isInts (d : PyData) (n : Int) : Bool := (tupOf d).isSome && isRow d n
def fInts : List PyData → PyData
  | [d, .int n] => .bool (isInts d n)
  | _ => .none
theorem ok_is_integers (T : TC K mg) : FnOk P w K mg base CX0 3 T.is_integers.f T.is_integers.fd ["thing", "size"] (spRow K fInts) := by
  have G_is_row : FnOk P w K mg base CX0 2 T.is_row.f T.is_row.fd ["thing", "size"] (spRow K fRow) := ok_is_row T
  refine T.is_integers.F.ok sc_is_integers (fun vs H Q E ⟨G, ds, iv, a, ⟨d, n, hp, hs⟩, k⟩ => len1 a (by rw [hp]; rfl)) (fun cdv A outer s H vs Q E hr ⟨G, ds, iv, a, ⟨d, n, hp, hs⟩, k⟩ => ?_)
  subst hp
  obtain ⟨v, x, rfl⟩ := two a.length
  refine ⟨_, (pss_one (ps_ret (pe_and (pe_callB call_isi (by rfl) T.isinstance (by decide +kernel) (pa_cons (pv 0) (pa_cons (pe_bltn (v := .ty "tuple") (by rfl) T.tuple (by decide +kernel) rfl) pa_nil))) (pe_one (pe_call G_is_row (hr.mono (by decide)) rfl T.is_row.g T.is_row.F.kp T.is_row.b .nil pass0 (pa_cons (pv 0) (pa_cons (pv 1) pa_nil))))))), ?_⟩
  refine doneR 0 rfl ?_ iv a k
  cases d with
  | tuple xs => exact ev_and (b1 := true) (ev_isi (ev_var rfl) (kit_tuple _)) fun _ => ev_call1 [.tuple xs, .int n] (elc (ev_var rfl) (elc (ev_var rfl) el_nil)) ⟨_, _, rfl, hs⟩ rfl
  | _ => exact ev_eq (ev_and (b1 := false) (b2 := true) (ev_isi (ev_var rfl) (kit_tuple _)) fun z => nomatch z) rfl
end
end K94

set_option Elab.async false
set_option linter.all false
set_option maxRecDepth 100000
set_option maxHeartbeats 4000000
namespace K94
open PySem PySem.Spec PyProof.Rows L2 TL
/-! ### numbers in texts -/
abbrev s_is_whole : Stmt := topS 19
abbrev N_is_whole : List Str := ["word", "sign"]
theorem sc_is_whole : FnScope N_is_whole ["word"] (defScope s_is_whole) := ⟨rfl, rfl, rfl, by decide +kernel, rfl, by decide +kernel, by decide +kernel⟩
abbrev s_is_number : Stmt := topS 20
abbrev N_is_number : List Str := ["word"]
theorem sc_is_number : FnScope N_is_number ["word"] (defScope s_is_number) := ⟨rfl, rfl, rfl, by decide +kernel, rfl, by decide +kernel, by decide +kernel⟩
def figures : Str := "0123456789"
def isFig (c : Nat) : Bool := decide (c ∈ tl figures)
def wholeS (s : Str) : Bool := decide (0 < s.length) && ((tl s).all isFig && (decide (s = "0") || !decide ((⟨#[(tl s).headD 0]⟩ : Str) = "0")))
def numberS (s : Str) : Bool := if Txt.startswith s "-" = true then wholeS (cutS s (some 1) none) && !decide (s = "-0") else wholeS s
structure TD (K : PySem.W.Frag) (mg : Str → Option Value) extends TC K mg where
  FIGURES : ∃ t, mg "FIGURES" = some (.str figures t)
  is_whole : Df K mg "is_whole" s_is_whole ["word"]
  is_number : Df K mg "is_number" s_is_number ["word"]
section
variable {P : Program} {w : World} {K : PySem.W.Frag} {mg : Str → Option Value} {base : Heap}
def fS (f : Str → Bool) : List PyData → PyData
  | [.str s] => .bool (f s)
  | _ => .none
abbrev spStr (K : PySem.W.Frag) (f : Str → Bool) : Sp := spD K (fun ds => ∃ s : Str, ds = [.str s] ∧ s.length ≤ 1000) (fS f)
theorem len_pos {s : Str} (h : 0 < s.length) : ∃ c l, tl s = c :: l := by
  rw [len_tl] at h
  cases e : tl s with
  | nil => rw [e] at h; exact absurd h (by decide)
  | cons c l => exact ⟨c, l, rfl⟩
theorem ok_is_whole (T : TD K mg) : FnOk P w K mg base CX0 1 T.is_whole.f T.is_whole.fd ["word"] (spStr K wholeS) := by
  refine T.is_whole.F.ok sc_is_whole (fun vs H Q E ⟨G, ds, iv, a, ⟨d, hp, hs⟩, k⟩ => len1 a (by rw [hp]; rfl)) (fun cdv A outer s H vs Q E hr ⟨G, ds, iv, a, ⟨x, hp, hs⟩, k⟩ => ?_)
  subst hp
  obtain ⟨v, rfl⟩ := one a.length
  obtain ⟨tF, hFIGURES⟩ := T.FIGURES
  refine ⟨_, (pss_cons (ps_if (PW.pt (pw_or (pt_cmpR op_eq (pe_callB call_len_str (by rfl) T.len (by decide +kernel) (pa_cons (pv 0) pa_nil)) pe_int (nomark _)) (pw_or1 (pt_not (pt_val (pe_callB (cr_all rfl) (by rfl) T.all (by decide +kernel) (pa_cons (pe_lc (own := [("sign", 1)]) (g := gName 1) (tt := tYes) rfl sc_is_whole.nd (pi_str (pv 0)) (blkOk_by (own := [("sign", 1)]) (N := N_is_whole) (sc := defScope s_is_whole) (by decide +kernel)) (fun _ _ _ _ _ => (pg_name (i := 1) sc_is_whole.nd rfl (by first | exact Or.inl rfl | exact Or.inr rfl))) (fun _ _ _ _ _ => pts_nil) (fun _ _ _ _ _ => (pe_cmpR op_in_sign (pv 1) (pe_glob (v := .str figures) rfl hFIGURES ⟨_, rfl⟩) (by rfl)))) pa_nil))))))) (pss_one (ps_ret pe_bl)) pss_nil)
    (pss_one (ps_ret (pe_or (pe_cmpR op_eq (pv 0) pe_str (nomark _)) (pe_one (pe_cmpR op_ne (pe_ix ix_str (pv 0) pe_int (fun _ _ => rfl)) pe_str (nomark _))))))), ?_⟩
  refine doneS 1 rfl ?_ iv a k
  have hx : x.length ≤ 1000 := hs
  have hlen : ∀ {Γ : List Sl}, Γ[0]? = some (.dat (.str x)) → EvD K (tCB (fun xs H Q => ∃ z, xs = [V.str z] ∧ z.length ≤ sizeLine ∧ Q (V.int (z.length : Nat)) H) (tCons (tVar 0) tNil)) Γ (· = .int (x.length : Nat)) := fun h => ev_lenS (ev_var h) (by omega)
  by_cases h0 : 0 < x.length
  · obtain ⟨c, l, hcl⟩ := len_pos h0
    refine rs_if (!(tl x).all isFig) ((eb_or (b1 := decide (((x.length : Nat) : Int) = 0)) (b2 := !(tl x).all isFig) (eb_test (ev_eqI (hlen rfl) ev_int)) fun _ => eb_not (b := (tl x).all isFig) (eb_val (ev_eq (ev_lcS (f := fun z => isFig ((tl z).headD 0)) (x := x) (by show x.length < 100000; omega) (ev_var rfl) (tg_name (by show 1 < 2; omega)) fun c => ev_inSign (c := c) (ev_var rfl) (ev_c fun _ => .str _)) rfl))).imp fun b e => by rw [e, decide_eq_false (by omega)]; rfl) (fun e => ?_) fun e => ?_
    · refine rs_ret (ev_eq ev_bl (congrArg PyData.bool ?_))
      show false = wholeS x
      unfold wholeS
      rw [Bool.not_eq_true'] at e
      rw [e, Bool.false_and, Bool.and_false]
    · refine rs_ret (ev_eq (ev_or (b1 := decide (x = "0")) (b2 := !decide ((⟨#[(tl x).headD 0]⟩ : Str) = "0")) (ev_eqStr (ev_var rfl) ev_str) fun _ => ev_neS (a := ⟨#[(tl x).headD 0]⟩) (b := "0") (ev_ixS (z := x) (i := 0) (by omega) (by rw [hcl]; exact atI_at (n := 0) rfl) (ev_var rfl) ev_int) ev_str) (congrArg PyData.bool ?_))
      show _ = wholeS x
      unfold wholeS
      rw [Bool.not_eq_false'] at e
      rw [e, Bool.true_and, decide_eq_true h0, Bool.true_and]
  · have h0 : x.length = 0 := by omega
    refine rs_if true ((eb_or (b1 := decide (((x.length : Nat) : Int) = 0)) (b2 := true) (eb_test (ev_eqI (hlen rfl) ev_int)) fun e => by rw [decide_eq_true (by omega)] at e; cases e).imp fun b e => by rw [e, decide_eq_true (by omega)]; rfl) (fun e => ?_) fun e => nomatch e
    refine rs_ret (ev_eq ev_bl (congrArg PyData.bool ?_))
    show false = wholeS x
    unfold wholeS
    rw [decide_eq_false (by omega), Bool.false_and]
theorem ok_is_number (T : TD K mg) : FnOk P w K mg base CX0 2 T.is_number.f T.is_number.fd ["word"] (spStr K numberS) := by
  have G_is_whole : FnOk P w K mg base CX0 1 T.is_whole.f T.is_whole.fd ["word"] (spStr K wholeS) := ok_is_whole T
  refine T.is_number.F.ok sc_is_number (fun vs H Q E ⟨G, ds, iv, a, ⟨d, hp, hs⟩, k⟩ => len1 a (by rw [hp]; rfl)) (fun cdv A outer s H vs Q E hr ⟨G, ds, iv, a, ⟨x, hp, hs⟩, k⟩ => ?_)
  subst hp
  obtain ⟨v, rfl⟩ := one a.length
  refine ⟨_, (pss_cons (ps_if (pt_val (pe_m1 F.slot_str_startswith F.type_str_startswith mt_startswith (pv 0) pe_str)) (pss_one (ps_ret (pe_and (pe_call G_is_whole (hr.mono (by decide)) rfl T.is_whole.g T.is_whole.F.kp T.is_whole.b .nil pass0 (pa_cons (pe_slice sl_str (pv 0) (po_some pe_int) po_none) pa_nil)) (pe_one (pe_cmpR op_ne (pv 0) pe_str (nomark _)))))) pss_nil)
    (pss_one (ps_ret (pe_call G_is_whole (hr.mono (by decide)) rfl T.is_whole.g T.is_whole.F.kp T.is_whole.b .nil pass0 (pa_cons (pv 0) pa_nil))))), ?_⟩
  refine doneS 0 rfl ?_ iv a k
  have hx : x.length ≤ 1000 := hs
  refine rs_if (Txt.startswith x "-") (eb_val (ev_starts (ev_var rfl) ev_str)) (fun e => ?_) fun e => ?_
  · refine rs_ret (ev_eq (ev_and (b1 := wholeS (cutS x (some 1) none)) (b2 := !decide (x = "-0")) (ev_call1 [.str (cutS x (some 1) none)] (elc (ev_slS (by omega) (ev_var rfl) (eo_some ev_int) eo_none) el_nil) ⟨_, rfl, Nat.le_trans (cutS_length _ _ _) hx⟩ rfl) fun _ => ev_neS (a := x) (b := "-0") (ev_var rfl) ev_str) (congrArg PyData.bool ?_))
    show _ = numberS x
    unfold numberS
    rw [if_pos e]
  · refine rs_ret (ev_eq (ev_call1 [.str x] (elc (ev_var rfl) el_nil) ⟨_, rfl, hx⟩ rfl) (congrArg PyData.bool ?_))
    show _ = numberS x
    unfold numberS
    rw [if_neg (by rw [e]; decide)]
end
end K94

set_option Elab.async false
set_option linter.all false
set_option maxRecDepth 100000
set_option maxHeartbeats 4000000
namespace K94
open PySem PySem.Spec PyProof.Rows L2 TL
/-! ### steps, their words -/
structure Stp where
  name : Str
  pl : List Nat
  nu : List Int
inductive Ci
  | s : Stp → Ci
  | h : Str → Ci
def natsD (pl : List Nat) : List PyData := pl.map fun p => .int (p : Nat)
def intsT (ns : List Int) : PyData := .tuple (ns.map .int)
def Stp.D (s : Stp) : PyData := .tuple [.str s.name, .tuple (natsD s.pl), intsT s.nu]
def Ci.D : Ci → PyData
  | .s x => x.D
  | .h k => .tuple [.str "", .str k]
def Ci.isH : Ci → Bool
  | .s _ => false
  | .h _ => true
def strI (i : Int) : Str := Str.ofString (toString i)
theorem tl_strI (i : Int) : tl (strI i) = intL i := tl_int i
def numW (ns : List Int) : List Str := if ns = [] then [] else "#" :: ns.map strI
def Stp.W (s : Stp) : List Str := s.name :: (s.pl.map fun p => strI (p : Nat)) ++ numW s.nu
def Ci.W : Ci → List Str
  | .s x => x.W
  | .h k => ["?", k]
def Ci.T (c : Ci) : Str := Txt.join " " c.W
def lowS (s : Str) : Prop := ∀ c ∈ tl s, 97 ≤ c ∧ c ≤ 122
def numOk (i : Int) : Prop := i.natAbs < 10 ^ 200
/-- a step that stands at i -/
def Stp.ok (s : Stp) (i : Nat) : Prop := nameS s.name = true ∧ lowS s.name ∧ (∀ p ∈ s.pl, p < i) ∧ s.pl.length ≤ 100 ∧ s.nu.length ≤ 100 ∧ (∀ p ∈ s.pl, p < 10 ^ 200) ∧ ∀ n ∈ s.nu, numOk n
def Ci.ok : Ci → Nat → Prop
  | .s x, i => x.ok i
  | .h k, _ => nameS k = true ∧ lowS k
/-! ### their signs -/
theorem intL_mem {i : Int} {c : Nat} (h : c ∈ intL i) : c = 45 ∨ 48 ≤ c ∧ c ≤ 57 := by
  unfold intL at h
  split at h
  · rcases List.mem_cons.mp h with h | h
    · exact .inl h
    · exact .inr (numL_digits _ c h)
  · exact .inr (numL_digits _ c h)
theorem numL_len' {n : Nat} (h : n < 10 ^ 200) : (numL n).length ≤ 200 := numL_len (by decide) h
theorem intL_len {i : Int} (h : numOk i) : (intL i).length ≤ 201 := by
  unfold intL
  have := numL_len' h
  split
  · rw [List.length_cons]; omega
  · omega
theorem strI_len {i : Int} (h : numOk i) : (strI i).length ≤ 201 := by
  rw [len_tl, tl_strI]
  exact intL_len h
theorem numL_head : ∀ n : Nat, ∃ c l, numL n = c :: l ∧ 48 ≤ c ∧ c ≤ 57 ∧ (0 < n → c ≠ 48) := by
  intro n
  induction n using Nat.strongRecOn with
  | _ n ih =>
    by_cases h : n < 10
    · rw [numL_lt h]
      exact ⟨_, _, rfl, by omega, by omega, fun h => by omega⟩
    · obtain ⟨c, l, e, h1, h2, h3⟩ := ih (n / 10) (by omega)
      rw [numL_step (by omega), e]
      exact ⟨c, l ++ [48 + n % 10], rfl, h1, h2, fun _ => h3 (by omega)⟩
theorem tl_figures : tl figures = [48, 49, 50, 51, 52, 53, 54, 55, 56, 57] := by decide +kernel
theorem isFig_iff {c : Nat} : isFig c = true ↔ 48 ≤ c ∧ c ≤ 57 := by
  unfold isFig
  rw [tl_figures, decide_eq_true_eq]
  simp only [List.mem_cons, List.not_mem_nil, or_false]
  omega
theorem tl_lit1 (c : Nat) : tl (⟨#[c]⟩ : Str) = [c] := rfl
theorem str_ne {a b : Str} (h : tl a ≠ tl b) : decide (a = b) = false := decide_eq_false fun z => h (by rw [z])
theorem whole_num {s : Str} {n : Nat} (h : tl s = numL n) : wholeS s = true := by
  obtain ⟨c, l, e, h1, h2, h3⟩ := numL_head n
  unfold wholeS
  have e0 : decide (0 < s.length) = true := decide_eq_true (by rw [len_tl, h, e]; simp)
  have e1 : (tl s).all isFig = true := List.all_eq_true.mpr fun x hx => isFig_iff.mpr (numL_digits n x (by rw [← h]; exact hx))
  rw [e0, e1, Bool.true_and, Bool.true_and, Bool.or_eq_true]
  by_cases hn : 0 < n
  · right
    rw [h, e]
    show (!decide ((⟨#[c]⟩ : Str) = "0")) = true
    rw [str_ne (by rw [tl_lit1, show tl ("0" : Str) = [48] by decide +kernel]; intro z; exact h3 hn (List.cons.inj z).1)]
    rfl
  · left
    have hn : n = 0 := by omega
    subst hn
    exact decide_eq_true (ext_tl (by rw [h, numL_lt (by decide)]; decide +kernel))
theorem wholeS_strI (n : Nat) : wholeS (strI (n : Nat)) = true := whole_num (n := n) (by
  rw [tl_strI]
  unfold intL
  rw [if_neg (by omega)]
  rfl)
theorem starts_iff {s : Str} : Txt.startswith s "-" = true ↔ ∃ l, tl s = 45 :: l := by
  have e : tl ("-" : Str) = [45] := by decide +kernel
  have h := at_iff (x := s) (y := "-") (by rw [e]; simp) 0
  rw [List.drop_zero, e] at h
  have h2 : Txt.startswith s "-" = true ↔ PySem.StrLaws.At s "-" s.length 0 := by
    show ((decide (0 + ("-" : Str).length ≤ s.length) && Builtin.Str.subAt s "-" 0) = true) ↔ (0 + ("-" : Str).length ≤ s.length ∧ Builtin.Str.subAt s "-" 0 = true)
    rw [Bool.and_eq_true, decide_eq_true_eq]
  rw [h2, h]
  cases hs : tl s with
  | nil => exact ⟨fun z => (nomatch z), fun ⟨l, z⟩ => nomatch z⟩
  | cons c r =>
    constructor
    · intro z
      have : ([c] == [45]) = true := z
      have := eq_of_beq this
      exact ⟨r, by rw [(List.cons.inj this).1]⟩
    · rintro ⟨l, z⟩
      rw [(List.cons.inj z).1]
      exact beq_self_eq_true _
theorem cutS_tail {s : Str} {c : Nat} {l : List Nat} (h : tl s = c :: l) : tl (cutS s (some 1) none) = l := by
  have hl : s.length = l.length + 1 := by rw [len_tl, h]; rfl
  unfold cutS
  have e1 : HT.sIx s.length 0 (some 1) = 1 := by
    unfold HT.sIx
    simp
    omega
  have e2 : HT.sIx s.length s.length none = s.length := by
    unfold HT.sIx
    simp
  rw [e1, e2]
  show ((tl s).drop 1).take (s.length - 1) = l
  rw [h, hl]
  show (l.take (l.length + 1 - 1)) = l
  rw [Nat.add_sub_cancel, List.take_length]
theorem numberS_strI (i : Int) : numberS (strI i) = true := by
  unfold numberS
  have ht := tl_strI i
  unfold intL at ht
  by_cases h : i < 0
  · rw [if_pos h] at ht
    rw [if_pos (starts_iff.mpr ⟨_, ht⟩), whole_num (n := i.natAbs) (cutS_tail ht), Bool.true_and]
    obtain ⟨c, l, e, h1, h2, h3⟩ := numL_head i.natAbs
    rw [str_ne (by
      rw [ht, e, show tl ("-0" : Str) = [45, 48] by decide +kernel]
      intro z
      exact h3 (by omega) (List.cons.inj (List.cons.inj z).2).1)]
    rfl
  · rw [if_neg h] at ht
    obtain ⟨c, l, e, h1, h2, h3⟩ := numL_head i.natAbs
    rw [if_neg (fun z => by
      obtain ⟨r, z⟩ := starts_iff.mp z
      rw [ht, e] at z
      have := (List.cons.inj z).1
      omega)]
    exact whole_num ht
theorem int_back {i : Int} (h : numOk i) : PySem.intText? (strI i) = some i := by
  have ht := tl_strI i
  have hl := strI_len h
  unfold intL at ht
  by_cases hn : i < 0
  · rw [if_pos hn] at ht
    rw [intText_neg ht (numL_digits _) (numL_ne _) (by omega), numL_val]
    congr 1
    omega
  · rw [if_neg hn] at ht
    rw [intText_digits (x := strI i) (by rw [show (strI i).cps.toList = numL i.natAbs from ht]; exact numL_digits _) (by rw [show (strI i).cps.toList = numL i.natAbs from ht]; exact numL_ne _) (by omega), show (strI i).cps.toList = numL i.natAbs from ht, numL_val]
    congr 1
    omega
end K94

set_option Elab.async false
set_option linter.all false
set_option maxRecDepth 100000
set_option maxHeartbeats 4000000
namespace K94
open PySem PySem.Spec PyProof.Rows L2 TL
/-! ### joined and split -/
theorem sum_le {α : Type} {f : α → Nat} {B : Nat} : ∀ {l : List α}, (∀ x ∈ l, f x ≤ B) → (l.map f).sum ≤ l.length * B
  | [], _ => by simp
  | x :: l, h => by
    have h1 := h x List.mem_cons_self
    have h2 := sum_le (f := f) (B := B) (l := l) fun y hy => h y (List.mem_cons_of_mem _ hy)
    rw [List.map_cons, List.sum_cons, List.length_cons, Nat.succ_mul]
    omega
theorem joinL_len (S : List Nat) : ∀ ps : List (List Nat), (joinL S ps).length ≤ (ps.map (·.length)).sum + ps.length * S.length
  | [] => Nat.zero_le _
  | [p] => by simp [joinL]
  | p :: q :: r => by
    have ih := joinL_len S (q :: r)
    show (p ++ (S ++ joinL S (q :: r))).length ≤ _
    rw [List.length_append, List.length_append, List.map_cons, List.sum_cons, List.length_cons, Nat.succ_mul]
    omega
theorem join_len (a : Str) (xs : List Str) : (Txt.join a xs).length ≤ (xs.map (·.length)).sum + xs.length * a.length := by
  rw [len_tl, join_eq, tl_join]
  have h := joinL_len (tl a) (xs.map tl)
  rw [List.map_map, List.length_map, ← len_tl] at h
  have e : (xs.map ((fun z : List Nat => z.length) ∘ tl)) = xs.map (·.length) := List.map_congr_left fun x _ => (len_tl x).symm
  rw [e] at h
  exact h
theorem mem_joinL {S : List Nat} {c : Nat} : ∀ {ps : List (List Nat)}, c ∈ joinL S ps → c ∈ S ∨ ∃ p ∈ ps, c ∈ p
  | [], h => nomatch h
  | [p], h => .inr ⟨p, List.mem_cons_self, h⟩
  | p :: q :: r, h => by
    have h : c ∈ p ++ (S ++ joinL S (q :: r)) := h
    rcases List.mem_append.mp h with h | h
    · exact .inr ⟨p, List.mem_cons_self, h⟩
    rcases List.mem_append.mp h with h | h
    · exact .inl h
    · rcases mem_joinL h with h | ⟨z, hz, h⟩
      · exact .inl h
      · exact .inr ⟨z, List.mem_cons_of_mem _ hz, h⟩
theorem tl_sp : tl (" " : Str) = [32] := by decide +kernel
theorem tl_semi : tl ("; " : Str) = [59, 32] := by decide +kernel
theorem tl_hash : tl ("#" : Str) = [35] := by decide +kernel
theorem tl_ask : tl ("?" : Str) = [63] := by decide +kernel
theorem mem_join {ws : List Str} {c : Nat} (h : c ∈ tl (Txt.join " " ws)) : c = 32 ∨ ∃ w ∈ ws, c ∈ tl w := by
  rw [join_eq, tl_join, tl_sp] at h
  rcases mem_joinL h with h | ⟨p, hp, h⟩
  · exact .inl (List.mem_singleton.mp h)
  · obtain ⟨w, hw, rfl⟩ := List.mem_map.mp hp
    exact .inr ⟨w, hw, h⟩
/-- a sign of a word -/
def wordC (c : Nat) : Prop := c = 35 ∨ c = 63 ∨ c = 45 ∨ (48 ≤ c ∧ c ≤ 57) ∨ (97 ≤ c ∧ c ≤ 122)
theorem numW_len (ns : List Int) : (numW ns).length ≤ ns.length + 1 := by
  unfold numW
  split
  · exact Nat.zero_le _
  · rw [List.length_cons, List.length_map]
    exact Nat.le_refl _
theorem mem_numW {ns : List Int} {w : Str} (h : w ∈ numW ns) : w = "#" ∨ ∃ n ∈ ns, w = strI n := by
  unfold numW at h
  split at h
  · cases h
  · rcases List.mem_cons.mp h with h | h
    · exact .inl h
    · obtain ⟨n, hn, e⟩ := List.mem_map.mp h
      exact .inr ⟨n, hn, e.symm⟩
theorem strI_word (i : Int) : ∀ c ∈ tl (strI i), wordC c := fun c hc => by
  rw [tl_strI] at hc
  rcases intL_mem hc with h | h
  · exact .inr (.inr (.inl h))
  · exact .inr (.inr (.inr (.inl h)))
theorem nameS_len {s : Str} (h : nameS s = true) : 1 ≤ s.length ∧ s.length ≤ 8 := by
  unfold nameS at h
  rw [Bool.and_eq_true, Bool.and_eq_true, decide_eq_true_eq, decide_eq_true_eq] at h
  omega
theorem Ci.words {c : Ci} {i : Nat} (o : c.ok i) : ∀ w ∈ c.W, (∀ x ∈ tl w, wordC x) ∧ w.length ≤ 201 := by
  intro w hw
  cases c with
  | s x =>
    obtain ⟨h1, h2, h3, h4, h5, h6, h7⟩ := o
    have hw : w ∈ x.name :: (x.pl.map fun p => strI (p : Nat)) ++ numW x.nu := hw
    rcases List.mem_append.mp hw with hw | hw
    · rcases List.mem_cons.mp hw with e | hw
      · subst e
        exact ⟨fun c hc => .inr (.inr (.inr (.inr (h2 c hc)))), by have := (nameS_len h1).2; omega⟩
      · obtain ⟨p, hp, e⟩ := List.mem_map.mp hw
        subst e
        exact ⟨strI_word _, strI_len (i := (p : Nat)) (by have := h6 p hp; show ((p : Nat) : Int).natAbs < _; rw [Int.natAbs_natCast]; exact this)⟩
    · rcases mem_numW hw with e | ⟨n, hn, e⟩
      · subst e
        exact ⟨fun c hc => .inl (by rw [tl_hash] at hc; exact List.mem_singleton.mp hc), by rw [len_tl, tl_hash]; decide⟩
      · subst e
        exact ⟨strI_word _, strI_len (h7 n hn)⟩
  | h k =>
    obtain ⟨h1, h2⟩ := o
    have hw : w ∈ [("?" : Str), k] := hw
    rcases List.mem_cons.mp hw with e | hw
    · subst e
      exact ⟨fun c hc => .inr (.inl (by rw [tl_ask] at hc; exact List.mem_singleton.mp hc)), by rw [len_tl, tl_ask]; decide⟩
    · rw [List.mem_singleton.mp hw]
      exact ⟨fun c hc => .inr (.inr (.inr (.inr (h2 c hc)))), by have := (nameS_len h1).2; omega⟩
theorem Ci.W_ne (c : Ci) : c.W ≠ [] := by
  cases c with
  | s x => exact fun z => nomatch z
  | h k => exact fun z => nomatch z
theorem Ci.W_len {c : Ci} {i : Nat} (o : c.ok i) : c.W.length ≤ 202 := by
  cases c with
  | s x =>
    obtain ⟨h1, h2, h3, h4, h5, _⟩ := o
    show (x.name :: (x.pl.map fun p => strI (p : Nat)) ++ numW x.nu).length ≤ 202
    have := numW_len x.nu
    rw [List.length_append, List.length_cons, List.length_map]
    omega
  | h k => show 2 ≤ 202; omega
theorem Ci.sum {c : Ci} {i : Nat} (o : c.ok i) : (c.W.map (·.length)).sum + c.W.length * (" " : Str).length ≤ 50000 := by
  have h1 := Ci.W_len o
  have h2 := sum_le (f := fun w : Str => w.length) (B := 201) (l := c.W) fun w hw => (Ci.words o w hw).2
  have h3 : (" " : Str).length = 1 := by rw [len_tl, tl_sp]; rfl
  rw [h3]
  omega
theorem Ci.T_len {c : Ci} {i : Nat} (o : c.ok i) : c.T.length ≤ 50000 := Nat.le_trans (join_len _ _) (Ci.sum o)
theorem Ci.split {c : Ci} {i : Nat} (o : c.ok i) : Txt.split c.T " " = c.W := split_join (s := 32) (S := []) tl_sp (by decide +kernel) c.W_ne fun p hp hm => by
  have := (Ci.words o p hp).1 32 hm
  unfold wordC at this
  omega
theorem Ci.T_semi {c : Ci} {i : Nat} (o : c.ok i) : 59 ∉ tl c.T := fun hm => by
  rcases mem_join hm with h | ⟨w, hw, h⟩
  · omega
  · have := (Ci.words o w hw).1 59 h
    unfold wordC at this
    omega
/-! ### parts -/
/-- no semicolon that ends it, none that a blank stands behind -/
def okPB : List Nat → Bool
  | [] => true
  | [c] => c != 59
  | c :: d :: r => (c != 59 || d != 32) && okPB (d :: r)
theorem okPB_free : ∀ {p : List Nat}, 59 ∉ p → okPB p = true
  | [], _ => rfl
  | [c], h => by
    show (c != 59) = true
    exact bne_iff_ne.mpr fun z => h (by rw [z]; exact List.mem_cons_self)
  | c :: d :: r, h => by
    show ((c != 59 || d != 32) && okPB (d :: r)) = true
    rw [okPB_free (p := d :: r) fun z => h (List.mem_cons_of_mem _ z), show (c != 59) = true from bne_iff_ne.mpr fun z => h (by rw [z]; exact List.mem_cons_self)]
    rfl
theorem pre_two {c d : Nat} {r : List Nat} (h : (c != 59 || d != 32) = true) : pre [59, 32] (c :: d :: r) = false := by
  show (([c, d] : List Nat) == [59, 32]) = false
  rw [Bool.or_eq_true, bne_iff_ne, bne_iff_ne] at h
  refine beq_eq_false_iff_ne.mpr fun z => ?_
  injection z with z1 z
  injection z with z2 z
  rcases h with h | h
  · exact h z1
  · exact h z2
theorem free59 : ∀ {p : List Nat} (q : List Nat), okPB p = true → ∀ i, i < p.length → pre [59, 32] ((p ++ q).drop i) = false
  | [], _, _, i, hi => absurd hi (Nat.not_lt_zero _)
  | [c], q, h, i, hi => by
    have hi : i < 1 := hi
    have h0 : i = 0 := by omega
    subst h0
    have h : (c != 59) = true := h
    exact pre_of_head _ _ (bne_iff_ne.mp h)
  | c :: d :: r, q, h, i, hi => by
    have h : ((c != 59 || d != 32) && okPB (d :: r)) = true := h
    rw [Bool.and_eq_true] at h
    cases i with
    | zero => exact pre_two h.1
    | succ i => exact free59 (p := d :: r) q h.2 i (by rw [List.length_cons] at hi; omega)
theorem spl_join2 : ∀ {parts : List (List Nat)}, parts ≠ [] → (∀ p ∈ parts, okPB p = true) → spl [59, 32] 0 [] (joinL [59, 32] parts) = parts
  | [], h, _ => absurd rfl h
  | [p], _, hp => by
    show spl [59, 32] 0 [] p = [p]
    rw [spl_last fun i hi => by
      have := free59 [] (hp p List.mem_cons_self) i hi
      rw [List.append_nil] at this
      exact this, List.nil_append]
  | p :: q :: r, _, hp => by
    show spl [59, 32] 0 [] (p ++ ([59, 32] ++ joinL [59, 32] (q :: r))) = p :: q :: r
    rw [spl_part (by simp) (free59 _ (hp p List.mem_cons_self)), List.nil_append, spl_join2 (by simp) fun z hz => hp z (List.mem_cons_of_mem _ hz)]
theorem split_parts {parts : List Str} (hne : parts ≠ []) (h : ∀ p ∈ parts, okPB (tl p) = true) : Txt.split (Txt.join "; " parts) "; " = parts := by
  refine map_tl_inj ?_
  rw [split_spl _ "; " (by rw [tl_semi]; simp) (kind_ok (by decide +kernel)), join_eq, tl_join, tl_semi]
  refine spl_join2 (fun e => hne (List.map_eq_nil_iff.mp e)) fun p hp => ?_
  obtain ⟨z, hz, rfl⟩ := List.mem_map.mp hp
  exact h z hz
end K94

set_option Elab.async false
set_option linter.all false
set_option maxRecDepth 100000
set_option maxHeartbeats 4000000
namespace K94
open PySem PySem.Spec PyProof.Rows L2 TL
/-! ### what is a step -/
abbrev s_is_hole_step : Stmt := topS 22
abbrev N_is_hole_step : List Str := ["thing"]
theorem sc_is_hole_step : FnScope N_is_hole_step ["thing"] (defScope s_is_hole_step) := ⟨rfl, rfl, rfl, by decide +kernel, rfl, by decide +kernel, by decide +kernel⟩
abbrev s_is_plain_step : Stmt := topS 23
abbrev N_is_plain_step : List Str := ["thing", "index", "place"]
theorem sc_is_plain_step : FnScope N_is_plain_step ["thing", "index"] (defScope s_is_plain_step) := ⟨rfl, rfl, rfl, by decide +kernel, rfl, by decide +kernel, by decide +kernel⟩
def isHoleS : PyData → Bool
  | .tuple [.str s, b] => decide (s = "") && isName b
  | _ => false
def isPlain (i : Int) : PyData → Bool
  | .tuple [a, .tuple ps, .tuple ns] => isName a && (ps.all (fun p => isBet p 0 (i - 1)) && ns.all isInt)
  | _ => false
structure TE1 (K : PySem.W.Frag) (mg : Str → Option Value) extends TD K mg where
  HOLE : ∃ t, mg "HOLE" = some (.str "" t)
  is_hole_step : Df K mg "is_hole_step" s_is_hole_step ["thing"]
  is_plain_step : Df K mg "is_plain_step" s_is_plain_step ["thing", "index"]
theorem tup2_of {x : PyData} (h : within (tupOf x) 2 2 = true) : ∃ a b, x = .tuple [a, b] := by
  cases x with
  | tuple xs =>
    have h : (decide ((2 : Int) ≤ (xs.length : Nat)) && decide (((xs.length : Nat) : Int) ≤ 2)) = true := h
    rw [Bool.and_eq_true, decide_eq_true_eq, decide_eq_true_eq] at h
    match xs, h with
    | [a, b], _ => exact ⟨a, b, rfl⟩
    | [], h => exact absurd h.1 (by decide)
    | [_], h => exact absurd h.1 (by simp only [List.length_cons, List.length_nil]; omega)
    | _ :: _ :: _ :: r, h => exact absurd h.2 (by simp only [List.length_cons]; omega)
  | _ => cases h
theorem tup3_of {x : PyData} (h : within (tupOf x) 3 3 = true) : ∃ a b c, x = .tuple [a, b, c] := by
  cases x with
  | tuple xs =>
    have h : (decide ((3 : Int) ≤ (xs.length : Nat)) && decide (((xs.length : Nat) : Int) ≤ 3)) = true := h
    rw [Bool.and_eq_true, decide_eq_true_eq, decide_eq_true_eq] at h
    match xs, h with
    | [a, b, c], _ => exact ⟨a, b, c, rfl⟩
    | [], h => exact absurd h.1 (by decide)
    | [_], h => exact absurd h.1 (by simp only [List.length_cons, List.length_nil]; omega)
    | [_, _], h => exact absurd h.1 (by simp only [List.length_cons, List.length_nil]; omega)
    | _ :: _ :: _ :: _ :: r, h => exact absurd h.2 (by simp only [List.length_cons]; omega)
  | _ => cases h
theorem small_at {xs : List PyData} (h : smallD (.tuple xs) = true) {d : PyData} (hd : d ∈ xs) : smallD d = true := small_mem (small_tuple h).2 hd
section
variable {P : Program} {w : World} {K : PySem.W.Frag} {mg : Str → Option Value} {base : Heap}
theorem ok_is_hole_step (T : TE1 K mg) : FnOk P w K mg base CX0 2 T.is_hole_step.f T.is_hole_step.fd ["thing"] (spSm K isHoleS) := by
  have G_is_tuple : FnOk P w K mg base CX0 1 T.is_tuple.f T.is_tuple.fd ["thing", "low", "high"] (spTup K) := ok_is_tuple T.toTC
  have G_is_name : FnOk P w K mg base CX0 1 T.is_name.f T.is_name.fd ["thing"] (spSm K isName) := ok_is_name T.toTC
  refine T.is_hole_step.F.ok sc_is_hole_step (fun vs H Q E ⟨G, ds, iv, a, ⟨d, hp, hs⟩, k⟩ => len1 a (by rw [hp]; rfl)) (fun cdv A outer s H vs Q E hr ⟨G, ds, iv, a, ⟨x, hp, hs⟩, k⟩ => ?_)
  subst hp
  obtain ⟨v, rfl⟩ := one a.length
  obtain ⟨tH, hHOLE⟩ := T.HOLE
  refine ⟨_, (pss_one (ps_ret (pe_and (pe_call G_is_tuple (hr.mono (by decide)) rfl T.is_tuple.g T.is_tuple.F.kp T.is_tuple.b .nil pass0 (pa_cons (pv 0) (pa_cons pe_int (pa_cons pe_int pa_nil)))) (pe_and (pe_callB call_isi (by rfl) T.isinstance (by decide +kernel) (pa_cons (pe_ix ix_tup (pv 0) pe_int (fun _ _ => rfl)) (pa_cons (pe_bltn (v := .ty "str") (by rfl) T.str (by decide +kernel) rfl) pa_nil))) (pe_and (pe_cmpR op_eq (pe_ix ix_tup (pv 0) pe_int (fun _ _ => rfl)) (pe_glob (v := .str "") rfl hHOLE ⟨_, rfl⟩) (nomark _)) (pe_one (pe_call G_is_name (hr.mono (by decide)) rfl T.is_name.g T.is_name.F.kp T.is_name.b .nil pass0 (pa_cons (pe_ix ix_tup (pv 0) pe_int (fun _ _ => rfl)) pa_nil)))))))), ?_⟩
  refine doneR 0 rfl ?_ iv a k
  have ht : EvD K (tCall (spTup K) [] E0 (tCons (tVar 0) (tCons (tC (.int 2)) (tCons (tC (.int 2)) tNil)))) ([x].map Sl.dat ++ List.replicate 0 Sl.any) (· = .bool (within (tupOf x) 2 2)) := ev_call1 [x, .int 2, .int 2] (elc (ev_var (i := 0) rfl) (elc ev_int (elc ev_int el_nil))) ⟨_, _, _, rfl⟩ rfl
  cases h2 : within (tupOf x) 2 2 with
  | false =>
    refine ev_eq (ev_and (b1 := false) (b2 := false) (by rw [← h2]; exact ht) fun e => nomatch e) (congrArg PyData.bool ?_)
    show false = isHoleS x
    unfold isHoleS
    split
    · cases h2
    · rfl
  | true =>
    rw [h2] at ht
    obtain ⟨p, b, rfl⟩ := tup2_of h2
    have h0 : ∀ {Γ : List Sl}, Γ[0]? = some (.dat (.tuple [p, b])) → EvD K (tOp (rIxT K) (tVar 0) (tC (.int 0))) Γ (· = p) := fun h => ev_ixT (n := 0) (ds := [p, b]) (ev_var h) ev_int rfl
    have h1 : ∀ {Γ : List Sl}, Γ[0]? = some (.dat (.tuple [p, b])) → EvD K (tOp (rIxT K) (tVar 0) (tC (.int 1))) Γ (· = b) := fun h => ev_ixT (n := 1) (ds := [p, b]) (ev_var h) ev_int rfl
    refine ev_eq (ev_and (b1 := true) (b2 := isHoleS (.tuple [p, b])) ht fun _ => ?_) rfl
    cases p with
    | str s =>
      refine ev_eq (ev_and (b1 := true) (b2 := isHoleS (.tuple [.str s, b])) (ev_isi (h0 rfl) (kit_str _)) fun _ => ?_) rfl
      exact ev_and (b1 := decide (s = "")) (b2 := isName b) (ev_eqStr (a := s) (b := "") (h0 rfl) (ev_c fun _ => .str _)) fun _ => ev_call1 [b] (elc (h1 rfl) el_nil) ⟨_, rfl, small_at hs (List.mem_cons_of_mem _ List.mem_cons_self)⟩ rfl
    | _ => exact ev_eq (ev_and (b1 := false) (b2 := true) (ev_isi (h0 rfl) (kit_str _)) fun e => nomatch e) rfl
def fPlain : List PyData → PyData
  | [d, .int i] => .bool (isPlain i d)
  | _ => .none
abbrev spPlain (K : PySem.W.Frag) : Sp := spD K (fun ds => ∃ d i, ds = [d, .int i] ∧ smallD d = true) fPlain
theorem isInts_len (ns : List PyData) : isInts (.tuple ns) (ns.length : Nat) = ns.all isInt := by
  show (true && ((decide (((ns.length : Nat) : Int) ≤ (ns.length : Nat)) && decide (((ns.length : Nat) : Int) ≤ (ns.length : Nat))) && ns.all isInt)) = _
  rw [decide_eq_true (Int.le_refl _)]
  rfl
theorem ok_is_plain_step (T : TE1 K mg) : FnOk P w K mg base CX0 4 T.is_plain_step.f T.is_plain_step.fd ["thing", "index"] (spPlain K) := by
  have G_is_tuple : FnOk P w K mg base CX0 1 T.is_tuple.f T.is_tuple.fd ["thing", "low", "high"] (spTup K) := ok_is_tuple T.toTC
  have G_is_name : FnOk P w K mg base CX0 1 T.is_name.f T.is_name.fd ["thing"] (spSm K isName) := ok_is_name T.toTC
  have G_is_between : FnOk P w K mg base CX0 2 T.is_between.f T.is_between.fd ["thing", "low", "high"] (spBet K) := ok_is_between T.toTC
  have G_is_integers : FnOk P w K mg base CX0 3 T.is_integers.f T.is_integers.fd ["thing", "size"] (spRow K fInts) := ok_is_integers T.toTC
  refine T.is_plain_step.F.ok sc_is_plain_step (fun vs H Q E ⟨G, ds, iv, a, ⟨d, i, hp, hs⟩, k⟩ => len1 a (by rw [hp]; rfl)) (fun cdv A outer s H vs Q E hr ⟨G, ds, iv, a, ⟨x, i, hp, hs⟩, k⟩ => ?_)
  subst hp
  obtain ⟨v, v2, rfl⟩ := two a.length
  refine ⟨_, (pss_cons (ps_if (PW.pt (pw_or (pt_not (pt_val (pe_call G_is_tuple (hr.mono (by decide)) rfl T.is_tuple.g T.is_tuple.F.kp T.is_tuple.b .nil pass0 (pa_cons (pv 0) (pa_cons pe_int (pa_cons pe_int pa_nil)))))) (pw_or (pt_not (pt_val (pe_call G_is_name (hr.mono (by decide)) rfl T.is_name.g T.is_name.F.kp T.is_name.b .nil pass0 (pa_cons (pe_ix ix_tup (pv 0) pe_int (fun _ _ => rfl)) pa_nil)))) (pw_or1 (pt_not (pt_val (pe_callB call_isi (by rfl) T.isinstance (by decide +kernel) (pa_cons (pe_ix ix_tup (pv 0) pe_int (fun _ _ => rfl)) (pa_cons (pe_bltn (v := .ty "tuple") (by rfl) T.tuple (by decide +kernel) rfl) pa_nil))))))))) (pss_one (ps_ret pe_bl)) pss_nil)
    (pss_cons (ps_if (pt_not (pt_val (pe_callB (cr_all rfl) (by rfl) T.all (by decide +kernel) (pa_cons (pe_lc (own := [("place", 2)]) (g := gName 2) (tt := tYes) rfl sc_is_plain_step.nd (pi_seq (pe_ix ix_tup (pv 0) pe_int (fun _ _ => rfl))) (blkOk_by (own := [("place", 2)]) (N := N_is_plain_step) (sc := defScope s_is_plain_step) (by decide +kernel)) (fun _ _ _ _ _ => (pg_name (i := 2) sc_is_plain_step.nd rfl (by first | exact Or.inl rfl | exact Or.inr rfl))) (fun _ _ _ _ _ => pts_nil) (fun _ _ _ _ _ => (pe_call G_is_between (hr.mono (by decide)) rfl T.is_between.g T.is_between.F.kp T.is_between.b .nil pass0 (pa_cons (pv 2) (pa_cons pe_int (pa_cons (pe_op op_sub (pv 1) pe_int) pa_nil)))))) pa_nil)))) (pss_one (ps_ret pe_bl)) pss_nil)
    (pss_one (ps_ret (pe_and (pe_callB call_isi (by rfl) T.isinstance (by decide +kernel) (pa_cons (pe_ix ix_tup (pv 0) pe_int (fun _ _ => rfl)) (pa_cons (pe_bltn (v := .ty "tuple") (by rfl) T.tuple (by decide +kernel) rfl) pa_nil))) (pe_one (pe_call G_is_integers (hr.mono (by decide)) rfl T.is_integers.g T.is_integers.F.kp T.is_integers.b .nil pass0 (pa_cons (pe_ix ix_tup (pv 0) pe_int (fun _ _ => rfl)) (pa_cons (pe_callB call_len_seq (by rfl) T.len (by decide +kernel) (pa_cons (pe_ix ix_tup (pv 0) pe_int (fun _ _ => rfl)) pa_nil)) pa_nil))))))))), ?_⟩
  refine doneS 1 rfl ?_ iv a k
  let Γ0 : List Sl := [.dat x, .dat (.int i), .any]
  show Rets K _ Γ0 (· = .bool (isPlain i x))
  have ht : EvD K (tCall (spTup K) [] E0 (tCons (tVar 0) (tCons (tC (.int 3)) (tCons (tC (.int 3)) tNil)))) Γ0 (· = .bool (within (tupOf x) 3 3)) := ev_call1 [x, .int 3, .int 3] (elc (ev_var (i := 0) rfl) (elc ev_int (elc ev_int el_nil))) ⟨_, _, _, rfl⟩ rfl
  cases h3 : within (tupOf x) 3 3 with
  | false =>
    rw [h3] at ht
    refine rs_if true ((eb_or (b1 := true) (b2 := true) (eb_not (b := false) (eb_val ht)) fun e => nomatch e).imp fun b e => e) (fun _ => rs_ret (ev_eq ev_bl (congrArg PyData.bool ?_))) fun e => nomatch e
    show false = isPlain i x
    unfold isPlain
    split
    · cases h3
    · rfl
  | true =>
    rw [h3] at ht
    obtain ⟨p, q, r, rfl⟩ := tup3_of h3
    have h0 : ∀ {Γ : List Sl}, Γ[0]? = some (.dat (.tuple [p, q, r])) → EvD K (tOp (rIxT K) (tVar 0) (tC (.int 0))) Γ (· = p) := fun h => ev_ixT (n := 0) (ds := [p, q, r]) (ev_var h) ev_int rfl
    have h1 : ∀ {Γ : List Sl}, Γ[0]? = some (.dat (.tuple [p, q, r])) → EvD K (tOp (rIxT K) (tVar 0) (tC (.int 1))) Γ (· = q) := fun h => ev_ixT (n := 1) (ds := [p, q, r]) (ev_var h) ev_int rfl
    have h2 : ∀ {Γ : List Sl}, Γ[0]? = some (.dat (.tuple [p, q, r])) → EvD K (tOp (rIxT K) (tVar 0) (tC (.int 2))) Γ (· = r) := fun h => ev_ixT (n := 2) (ds := [p, q, r]) (ev_var h) ev_int rfl
    have sq := small_at hs (d := q) (List.mem_cons_of_mem _ List.mem_cons_self)
    have sr := small_at hs (d := r) (List.mem_cons_of_mem _ (List.mem_cons_of_mem _ List.mem_cons_self))
    have hnm : EvD K (tCall (spSm K isName) [] E0 (tCons (tOp (rIxT K) (tVar 0) (tC (.int 0))) tNil)) Γ0 (· = .bool (isName p)) := ev_call1 [p] (elc (h0 rfl) el_nil) ⟨_, rfl, small_at hs List.mem_cons_self⟩ rfl
    cases hq : (tupOf q).isSome with
    | false =>
      have hk : kitB (tyD q) "tuple" = some false := by cases q <;> first | exact kit_tuple _ | cases hq
      refine rs_if true ((eb_or (b1 := false) (b2 := true) (eb_not (b := true) (eb_val ht)) fun _ => (eb_or (b1 := !isName p) (b2 := true) (eb_not (eb_val hnm)) fun _ => eb_not (b := false) (eb_val (ev_isi (h1 rfl) hk))).imp fun b e => by rw [e, Bool.or_true]).imp fun b e => e) (fun _ => rs_ret (ev_eq ev_bl (congrArg PyData.bool ?_))) fun e => nomatch e
      show false = isPlain i (.tuple [p, q, r])
      cases q <;> first | rfl | cases hq
    | true =>
      obtain ⟨ps, rfl⟩ : ∃ ps, q = .tuple ps := by cases q <;> first | exact ⟨_, rfl⟩ | cases hq
      have hps := (small_tuple sq).1
      refine rs_if (!isName p) ((eb_or (b1 := false) (b2 := !isName p) (eb_not (b := true) (eb_val ht)) fun _ => (eb_or (b1 := !isName p) (b2 := false) (eb_not (eb_val hnm)) fun _ => eb_not (b := true) (eb_val (ev_isi (h1 rfl) (kit_tuple _)))).imp fun b e => by rw [e, Bool.or_false]).imp fun b e => e) (fun e => rs_ret (ev_eq ev_bl (congrArg PyData.bool ?_))) fun e => ?_
      · rw [Bool.not_eq_true'] at e
        cases r <;> first | (show false = (isName p && _); rw [e]; rfl) | rfl
      rw [Bool.not_eq_false'] at e
      refine rs_if (!ps.all fun p => isBet p 0 (i - 1)) (eb_not (eb_val (ev_allF (f := fun p => isBet p 0 (i - 1)) (by omega) (el_tuple (h1 rfl)) (tg_name (by show 2 < 3; omega)) fun d _ => ev_call1 [d, .int 0, .int (i - 1)] (elc (ev_var rfl) (elc ev_int (elc (ev_opC1 (fun _ _ _ => .int _) (ev_var rfl) ev_int) el_nil))) ⟨_, _, _, rfl⟩ rfl))) (fun e2 => rs_ret (ev_eq ev_bl (congrArg PyData.bool ?_))) fun e2 => ?_
      · rw [Bool.not_eq_true'] at e2
        cases r <;> first | (show false = (isName p && (ps.all (fun p => isBet p 0 (i - 1)) && _)); rw [e, e2]; rfl) | rfl
      rw [Bool.not_eq_false'] at e2
      cases hr : (tupOf r).isSome with
      | false =>
        have hk : kitB (tyD r) "tuple" = some false := by cases r <;> first | exact kit_tuple _ | cases hr
        refine rs_ret (ev_eq (ev_and (b1 := false) (b2 := true) (ev_isi (h2 rfl) hk) fun z => nomatch z) (congrArg PyData.bool ?_))
        show false = isPlain i (.tuple [p, .tuple ps, r])
        cases r <;> first | rfl | cases hr
      | true =>
        obtain ⟨ns, rfl⟩ : ∃ ns, r = .tuple ns := by cases r <;> first | exact ⟨_, rfl⟩ | cases hr
        refine rs_ret (ev_eq (ev_and (b1 := true) (b2 := isInts (.tuple ns) (ns.length : Nat)) (ev_isi (h2 rfl) (kit_tuple _)) fun _ => ev_call1 [.tuple ns, .int (ns.length : Nat)] (elc (h2 rfl) (elc (ev_len (ds := ns) (el_tuple (h2 rfl))) el_nil)) ⟨_, _, rfl, sr⟩ rfl) (congrArg PyData.bool ?_))
        show (true && isInts (.tuple ns) (ns.length : Nat)) = (isName p && (ps.all (fun p => isBet p 0 (i - 1)) && ns.all isInt))
        rw [isInts_len, e, e2]
        rfl
end
end K94

set_option Elab.async false
set_option linter.all false
set_option maxRecDepth 100000
set_option maxHeartbeats 4000000
namespace K94
open PySem PySem.Spec PyProof.Rows L2 TL
/-! ### the texts of trees -/
abbrev s_NoTree_init__ : Stmt := inClass (topS 11) 0
abbrev N_NoTree_init__ : List Str := ["self", "index"]
theorem sc_NoTree_init__ : FnScope N_NoTree_init__ ["self", "index"] (defScope s_NoTree_init__) := ⟨rfl, rfl, rfl, by decide +kernel, rfl, by decide +kernel, by decide +kernel⟩
abbrev s_NoText_init__ : Stmt := inClass (topS 12) 0
abbrev N_NoText_init__ : List Str := ["self", "row"]
theorem sc_NoText_init__ : FnScope N_NoText_init__ ["self", "row"] (defScope s_NoText_init__) := ⟨rfl, rfl, rfl, by decide +kernel, rfl, by decide +kernel, by decide +kernel⟩
abbrev s_tree_text : Stmt := topS 21
abbrev N_tree_text : List Str := ["tree", "words", "has_hole", "index", "item", "name", "places", "numbers", "told", "number", "place", "own"]
theorem sc_tree_text : FnScope N_tree_text ["tree"] (defScope s_tree_text) := ⟨rfl, rfl, rfl, by decide +kernel, rfl, by decide +kernel, by decide +kernel⟩
/-- an exception class of the text, with its own __init__ -/
structure Ec (K : PySem.W.Frag) (mg : Str → Option Value) (x q : Str) (st : Stmt) (ps : List Str) : Type where
  C : Addr
  fI : Addr
  fd : FuncData
  o : OexC K C
  i : PySem.W.findIn K (.ref C) "__init__" = some (some (.ref fI))
  t : PySem.W.typeIn K (.ref fI) = some (.type "function")
  m : mg x = some (.ref C)
  F : Fun K "__init__" q st fI fd
  b : Binds K fd ("self" :: ps) []
  xf : XfC K C
  ex : PySem.W.exmOne K (.ref C) (.ref C) = some true
  no : ∀ f ∈ ps, PySem.W.findIn K (.ref C) f = some none
def seqD (b : Bool) (ds : List PyData) : PyData := if b then .list ds else .tuple ds
theorem seqOf_seqD (b : Bool) (ds : List PyData) : seqOf (seqD b ds) = some ds := by cases b <;> rfl
theorem el1Q {K : PySem.W.Frag} {Γ : List Sl} {te : TE} {b : Bool} {ds : List PyData} (h : EvD K te Γ (· = seqD b ds)) : EvL' K (tCons te tNil) Γ (fun zs => zs = [.list ds] ∨ zs = [.tuple ds]) := (elc h el_nil).imp fun zs e => by
  cases b with
  | true => exact .inl e
  | false => exact .inr e
theorem map_get {α β : Type} {f : α → β} {xs : List α} {i : Nat} {y : β} (h : (xs.map f)[i]? = some y) : ∃ x, xs[i]? = some x ∧ y = f x := by
  rw [List.getElem?_map] at h
  cases hx : xs[i]? with
  | none => rw [hx] at h; cases h
  | some x => rw [hx] at h; cases h; exact ⟨x, rfl, rfl⟩
theorem take_snoc {α : Type} {xs : List α} {i : Nat} {x : α} (h : xs[i]? = some x) : xs.take (i + 1) = xs.take i ++ [x] := by
  rw [List.take_succ, h]
  rfl
def hasH (cs : List Ci) : Bool := cs.any Ci.isH
theorem hasH_snoc (cs : List Ci) (c : Ci) : hasH (cs ++ [c]) = (hasH cs || c.isH) := by
  unfold hasH
  rw [List.any_append]
  show (cs.any Ci.isH || (c.isH || false)) = _
  rw [Bool.or_false]
structure CsOk (cs : List Ci) : Prop where
  ok : ∀ (i : Nat) c, cs[i]? = some c → c.ok i
  one : ∀ (i : Nat) k, cs[i]? = some (.h k) → hasH (cs.take i) = false
  len : cs.length ≤ 2000
  sum : (cs.map fun c => c.T.length).sum ≤ 10000000
def textL (cs : List Ci) : Str := Txt.join "; " (cs.map Ci.T)
def wordsD (cs : List Ci) : List PyData := cs.map fun c => .list (strsD c.W)
/-- a tree, what is told of it: a text, or the index of its first bad step -/
structure Tc where
  d : PyData
  o : Option Int
  t : Str
def GoodTr (d : PyData) (t : Str) : Prop := ∃ b cs, d = seqD b (cs.map Ci.D) ∧ CsOk cs ∧ 1 ≤ cs.length ∧ t = textL cs
def BadTr (d : PyData) (i : Int) : Prop := (within (seqOf d) 1 2000 = false ∧ i = -1) ∨
  ∃ b cs y rest, d = seqD b (cs.map Ci.D ++ y :: rest) ∧ i = (cs.length : Nat) ∧ CsOk cs ∧ cs.length + rest.length < 2000 ∧ smallD y = true ∧ (isHoleS y = false ∨ hasH cs = true) ∧ isPlain (cs.length : Nat) y = false
abbrev xInt (C : Addr) (f : Str) (o : Option Int) : PXs := fun D fs => ∃ i : Int, o = some i ∧ D = C ∧ fs = ([(f, .int i)] : List (Str × PyData))
abbrev spTT (K : PySem.W.Frag) (Cx : Addr) : L2.Sp := spRz K (fun (c : Tc) ss => ss = [.dat c.d] ∧ ((c.o = none ∧ GoodTr c.d c.t) ∨ ∃ i, c.o = some i ∧ BadTr c.d i)) (fun c d => c.o = none ∧ d = .str c.t) fun c => xInt Cx "index" c.o
structure TF1 (K : PySem.W.Frag) (mg : Str → Option Value) extends TE1 K mg where
  MOST_STEPS : ∃ t, mg "MOST_STEPS" = some (.int 2000 t)
  HOLE_WORD : ∃ t, mg "HOLE_WORD" = some (.str "?" t)
  BETWEEN_STEPS : ∃ t, mg "BETWEEN_STEPS" = some (.str "; " t)
  NoTree : Ec K mg "NoTree" "NoTree.__init__" s_NoTree_init__ ["index"]
  NoText : Ec K mg "NoText" "NoText.__init__" s_NoText_init__ ["row"]
  tree_text : Df K mg "tree_text" s_tree_text ["tree"]
/-! ### a good step -/
theorem small_nats (pl : List Nat) : smallAll (natsD pl) = true := by
  unfold natsD
  induction pl with
  | nil => rfl
  | cons p pl ih =>
    show (smallD (.int (p : Nat)) && smallAll (pl.map fun p => PyData.int (p : Nat))) = true
    rw [ih]
    rfl
theorem small_ints (ns : List Int) : smallAll (ns.map PyData.int) = true := by
  induction ns with
  | nil => rfl
  | cons p pl ih =>
    show (smallD (.int p) && smallAll (pl.map PyData.int)) = true
    rw [ih]
    rfl
theorem smallS {s : Str} (h : s.length ≤ 1000) : smallD (.str s) = true := by rw [smallD]; exact decide_eq_true h
theorem smallT {xs : List PyData} (h : xs.length ≤ 1000) (h2 : smallAll xs = true) : smallD (.tuple xs) = true := by rw [smallD, h2, decide_eq_true h]; rfl
theorem Ci.small {c : Ci} {i : Nat} (o : c.ok i) : smallD c.D = true := by
  cases c with
  | s x =>
    obtain ⟨h1, h2, h3, h4, h5, h6, h7⟩ := o
    have hn := (nameS_len h1).2
    refine smallT (by show 3 ≤ 1000; omega) ?_
    show (smallD (.str x.name) && (smallD (.tuple (natsD x.pl)) && (smallD (.tuple (x.nu.map .int)) && true))) = true
    rw [smallS (by omega), smallT (by unfold natsD; rw [List.length_map]; omega) (small_nats _), smallT (by rw [List.length_map]; omega) (small_ints _)]
    rfl
  | h k =>
    obtain ⟨h1, h2⟩ := o
    have hn := (nameS_len h1).2
    refine smallT (by show 2 ≤ 1000; omega) ?_
    show (smallD (.str "") && (smallD (.str k) && true)) = true
    rw [smallS (s := k) (by omega)]
    rfl
theorem Ci.hole {c : Ci} {i : Nat} (o : c.ok i) : isHoleS c.D = c.isH := by
  cases c with
  | s x => rfl
  | h k =>
    show (decide (("" : Str) = "") && nameS k) = true
    rw [o.1]
    rfl
theorem Stp.plain {x : Stp} {i : Nat} (o : x.ok i) : isPlain (i : Nat) x.D = true := by
  obtain ⟨h1, h2, h3, h4, h5, h6, h7⟩ := o
  show (nameS x.name && ((natsD x.pl).all (fun p => isBet p 0 ((i : Nat) - 1)) && (x.nu.map PyData.int).all isInt)) = true
  rw [h1, List.all_eq_true.mpr fun d hd => by
    obtain ⟨p, hp, rfl⟩ := List.mem_map.mp hd
    have := h3 p hp
    show (decide ((0 : Int) ≤ (p : Nat)) && decide (((p : Nat) : Int) ≤ (i : Nat) - 1)) = true
    rw [decide_eq_true (by omega), decide_eq_true (by omega)]
    rfl, List.all_eq_true.mpr fun d hd => by
    obtain ⟨p, hp, rfl⟩ := List.mem_map.mp hd
    rfl]
  rfl
theorem seq_within {b : Bool} {ds : List PyData} (h1 : 1 ≤ ds.length) (h2 : ds.length ≤ 2000) : within (seqOf (seqD b ds)) 1 2000 = true := by
  rw [seqOf_seqD]
  show (decide ((1 : Int) ≤ (ds.length : Nat)) && decide (((ds.length : Nat) : Int) ≤ 2000)) = true
  rw [decide_eq_true (by omega), decide_eq_true (by omega)]
  rfl
section
variable {P : Program} {w : World} {K : PySem.W.Frag} {mg : Str → Option Value} {base : Heap}
theorem ok_NoTree (T : Ec K mg "NoTree" "NoTree.__init__" s_NoTree_init__ ["index"]) : FnOk P w K mg base CX0 1 T.fI T.fd ["self", "index"] (spI1 T.C "index") := by
  refine T.F.ok sc_NoTree_init__ (fun vs H Q E ⟨a, x, h, _⟩ => by rw [h]; rfl) (fun cdv A outer s H vs Q E hr ⟨a, x, h, ha, k⟩ => ?_)
  subst h
  exact ⟨_, pss_one (ps_ost (pv 0) (pv 1)), _, rfl, _, rfl, a, T.C, rfl, T.o, T.no _ (by decide +kernel), .inl ⟨ha, k⟩⟩
theorem ok_NoText (T : Ec K mg "NoText" "NoText.__init__" s_NoText_init__ ["row"]) : FnOk P w K mg base CX0 1 T.fI T.fd ["self", "row"] (spI1 T.C "row") := by
  refine T.F.ok sc_NoText_init__ (fun vs H Q E ⟨a, x, h, _⟩ => by rw [h]; rfl) (fun cdv A outer s H vs Q E hr ⟨a, x, h, ha, k⟩ => ?_)
  subst h
  exact ⟨_, pss_one (ps_ost (pv 0) (pv 1)), _, rfl, _, rfl, a, T.C, rfl, T.o, T.no _ (by decide +kernel), .inl ⟨ha, k⟩⟩
theorem log_ok {i : Int} (h : i.natAbs < 10 ^ 200) : i.natAbs.log2 < 1920 := by
  by_cases h0 : i.natAbs = 0
  · rw [h0]; decide
  · rw [Nat.log2_lt h0]
    exact Nat.lt_of_lt_of_le h (by decide +kernel)
theorem ok_tree_text (T : TF1 K mg) : FnOk P w K mg base (L2.CX P w) 5 T.tree_text.f T.tree_text.fd ["tree"] (spTT K T.NoTree.C) := by
  have G_is_sequence : FnOk P w K mg base CX0 1 T.is_sequence.f T.is_sequence.fd ["thing", "low", "high"] (spSeq K) := ok_is_sequence T.toTC
  have G_is_hole_step : FnOk P w K mg base CX0 2 T.is_hole_step.f T.is_hole_step.fd ["thing"] (spSm K isHoleS) := ok_is_hole_step T.toTE1
  have G_is_plain_step : FnOk P w K mg base CX0 4 T.is_plain_step.f T.is_plain_step.fd ["thing", "index"] (spPlain K) := ok_is_plain_step T.toTE1
  refine T.tree_text.F.okX sc_tree_text (fun vs H Q E ⟨G, ss, c, iv, a, ⟨hp, _⟩, k⟩ => a.length.trans (by rw [hp]; rfl)) (fun cdv A outer s0 H vs Q E hr ⟨G, sl, ⟨x, o, t⟩, iv, a, ⟨hp, hb⟩, k, kx⟩ => ?_)
  have hp : sl = [.dat x] := hp
  have hb : (o = none ∧ GoodTr x t) ∨ ∃ i, o = some i ∧ BadTr x i := hb
  have kx : ExGr K G E (xInt T.NoTree.C "index" o) H := kx
  have k : ∀ v d H', G.inv H' → G.le H H' → o = none ∧ d = .str t → Dq K (G.view H') v d → Q v H' := k
  subst hp
  obtain ⟨v1, rfl⟩ := one a.length
  obtain ⟨t1, hMOST_STEPS⟩ := T.MOST_STEPS
  obtain ⟨t2, hHOLE_WORD⟩ := T.HOLE_WORD
  obtain ⟨t3, hBETWEEN_STEPS⟩ := T.BETWEEN_STEPS
  refine ⟨_, (pss_cons (ps_if (pt_not (pt_val (pe_call G_is_sequence (hr.mono (by decide)) rfl T.is_sequence.g T.is_sequence.F.kp T.is_sequence.b .nil pass0 (pa_cons (pv 0) (pa_cons pe_int (pa_cons (pe_glob (v := .int 2000) rfl hMOST_STEPS ⟨_, rfl⟩) pa_nil)))))) (pss_one (ps_raise rfl (takes_of rfl rfl rfl rfl) (pmk_oex T.NoTree.o T.NoTree.i T.NoTree.t (ok_NoTree T.NoTree) (hr.mono (by decide)) T.NoTree.b .nil pass0 rfl T.NoTree.m (pa_cons (pe_un un_neg pe_int) pa_nil)))) pss_nil)
    (pss_cons (ps_set (i := 1) sc_tree_text.nd rfl (by first | exact Or.inl rfl | exact Or.inr rfl) (pe_lst pa_nil))
    (pss_cons (ps_set (i := 2) sc_tree_text.nd rfl (by first | exact Or.inl rfl | exact Or.inr rfl) pe_bl)
    (pss_cons (ps_for (passes_of rfl) rfl (pi_enumA (by rfl) T.enumerate (pa_cons (pv 0) pa_nil)) (pg_tup rfl (pgs_cons (pg_name (i := 3) sc_tree_text.nd rfl (by first | exact Or.inl rfl | exact Or.inr rfl)) (pgs_cons (pg_name (i := 4) sc_tree_text.nd rfl (by first | exact Or.inl rfl | exact Or.inr rfl)) pgs_nil)))
    (pss_one (ps_if (PW.pt (pw_and (pt_val (pe_call G_is_hole_step (hr.mono (by decide)) rfl T.is_hole_step.g T.is_hole_step.F.kp T.is_hole_step.b .nil pass0 (pa_cons (pv 4) pa_nil))) (pw_and1 (pt_not (pt_val (pv 2)))))) (pss_cons (ps_set (i := 2) sc_tree_text.nd rfl (by first | exact Or.inl rfl | exact Or.inr rfl) pe_bl)
      (pss_one (ps_expr (pe_bm PySem.F.plainAttrs_list PySem.F.slot_list_append PySem.F.type_list_append mt_append (pv 1) (pa_cons (pe_lst (pa_cons (pe_glob (v := .str "?") rfl hHOLE_WORD ⟨_, rfl⟩) (pa_cons (pe_ix ix_tup (pv 4) pe_int (fun _ _ => rfl)) pa_nil))) pa_nil))))) (pss_one (ps_if (pt_val (pe_call G_is_plain_step (hr.mono (by decide)) rfl T.is_plain_step.g T.is_plain_step.F.kp T.is_plain_step.b .nil pass0 (pa_cons (pv 4) (pa_cons (pv 3) pa_nil)))) (pss_cons (ps_asg (pv 4) (pg_tup rfl (pgs_cons (pg_name (i := 5) sc_tree_text.nd rfl (by first | exact Or.inl rfl | exact Or.inr rfl)) (pgs_cons (pg_name (i := 6) sc_tree_text.nd rfl (by first | exact Or.inl rfl | exact Or.inr rfl)) (pgs_cons (pg_name (i := 7) sc_tree_text.nd rfl (by first | exact Or.inl rfl | exact Or.inr rfl)) pgs_nil)))))
        (pss_cons (ps_setLc (i := 8) (own := [("number", 9)]) (g := gName 9) (tt := tYes) rfl sc_tree_text.nd rfl rfl (sw_true rfl rfl rfl (by decide +kernel)) (pi_seq (pv 7)) (blkOk_by (own := [("number", 9)]) (N := N_tree_text) (sc := defScope s_tree_text) (by decide +kernel)) (fun _ _ _ _ _ => (pg_name (i := 9) sc_tree_text.nd rfl (by first | exact Or.inl rfl | exact Or.inr rfl))) (fun _ _ _ _ _ => pts_nil) (fun _ _ _ _ _ => (pe_callTy call_str_int (by rfl) T.str (by decide +kernel) (pa_cons (pv 9) pa_nil))))
        (pss_one (ps_expr (pe_bm PySem.F.plainAttrs_list PySem.F.slot_list_append PySem.F.type_list_append mt_append (pv 1) (pa_cons (pe_op op_catS (pe_op op_catS (pe_lst (pa_cons (pv 5) pa_nil)) (pe_lc (own := [("place", 10)]) (g := gName 10) (tt := tYes) rfl sc_tree_text.nd (pi_seq (pv 6)) (blkOk_by (own := [("place", 10)]) (N := N_tree_text) (sc := defScope s_tree_text) (by decide +kernel)) (fun _ _ _ _ _ => (pg_name (i := 10) sc_tree_text.nd rfl (by first | exact Or.inl rfl | exact Or.inr rfl))) (fun _ _ _ _ _ => pts_nil) (fun _ _ _ _ _ => (pe_callTy call_str_int (by rfl) T.str (by decide +kernel) (pa_cons (pv 10) pa_nil))))) (pe_ifExp (pt_truth (pv 8) (by intro _; rfl)) (pe_op op_catS (pe_lst (pa_cons pe_str pa_nil)) (pv 8)) (pe_lst pa_nil))) pa_nil)))))) (pss_one (ps_raise rfl (takes_of rfl rfl rfl rfl) (pmk_oex T.NoTree.o T.NoTree.i T.NoTree.t (ok_NoTree T.NoTree) (hr.mono (by decide)) T.NoTree.b .nil pass0 rfl T.NoTree.m (pa_cons (pv 3) pa_nil)))))))))
    (pss_one (ps_ret (pe_join (pe_glob (v := .str "; ") rfl hBETWEEN_STEPS ⟨_, rfl⟩) (pe_lc (own := [("own", 11)]) (g := gName 11) (tt := tYes) (te := tM1 (rJoin K) (tC (.str " ")) (tVar 11)) rfl sc_tree_text.nd (pi_seq (pv 1)) (blkOk_by (own := [("own", 11)]) (N := N_tree_text) (sc := defScope s_tree_text) (by decide +kernel)) (fun _ _ _ _ _ => (pg_name (i := 11) sc_tree_text.nd rfl (by first | exact Or.inl rfl | exact Or.inr rfl))) (fun _ _ _ _ _ => pts_nil) (fun _ _ _ _ _ => (pe_join pe_str (pv 11))))))))))), ?_⟩
  refine doneBG (P := fun d => o = none ∧ d = .str t) 11 rfl rfl ?_ iv a k kx
  have hsq : ∀ {Γ : List Sl} {E : XK}, Γ[0]? = some (.dat x) → EvB K (tNot (tB (tCall (spSeq K) [] E (tCons (tVar 0) (tCons (tC (.int 1)) (tCons (tC (.int 2000)) tNil)))))) Γ (· = !within (seqOf x) 1 2000) := fun h => eb_not (eb_val (ev_call1 [x, .int 1, .int 2000] (elc (ev_var h) (elc ev_int (elc (ev_c fun _ => .int _) el_nil))) ⟨_, _, _, rfl⟩ rfl))
  obtain ⟨hw, rfl⟩ | ⟨b, cs, tl', rfl, hcs, htl⟩ : (within (seqOf x) 1 2000 = false ∧ o = some (-1)) ∨ ∃ b cs, ∃ tl' : List PyData, x = seqD b (cs.map Ci.D ++ tl') ∧ CsOk cs ∧
      ((∃ y rest, tl' = y :: rest ∧ o = some ((cs.length : Nat) : Int) ∧ cs.length + rest.length < 2000 ∧ smallD y = true ∧ (isHoleS y = false ∨ hasH cs = true) ∧ isPlain (cs.length : Nat) y = false) ∨ (tl' = [] ∧ o = none ∧ 1 ≤ cs.length ∧ t = textL cs)) := by
    rcases hb with ⟨ho, b, cs, e1, e2, e3, e4⟩ | ⟨i, ho, ⟨e1, e2⟩ | ⟨b, cs, y, rest, e1, e2, e3, e4, e5, e6, e7⟩⟩
    · exact .inr ⟨b, cs, [], by rw [List.append_nil]; exact e1, e2, .inr ⟨rfl, ho, e3, e4⟩⟩
    · exact .inl ⟨e1, by rw [ho, e2]⟩
    · exact .inr ⟨b, cs, y :: rest, e1, e3, .inl ⟨y, rest, rfl, by rw [ho, e2], e4, e5, e6, e7⟩⟩
  · exact bg_seq (M' := NoB) (bg_if (b := true) ((hsq rfl).imp fun b e => by rw [e, hw]; rfl) (fun _ => bg_raise1 ((elc (ev_neg ev_int) el_nil).imp fun ds e => ⟨_, e, _, rfl, rfl, rfl⟩)) fun e => nomatch e) fun _ z => z.elim
  have hlL : (cs.map Ci.D ++ tl').length = cs.length + tl'.length := by rw [List.length_append, List.length_map]
  have hcl := hcs.len
  have hl2 : 1 ≤ cs.length + tl'.length ∧ cs.length + tl'.length ≤ 2000 := by
    rcases htl with ⟨y, rest, e, _, h, _⟩ | ⟨e, _, h1, _⟩
    · rw [e, List.length_cons]; omega
    · rw [e]; exact ⟨h1, by show cs.length + 0 ≤ 2000; omega⟩
  let L : PyData := seqD b (cs.map Ci.D ++ tl')
  refine bg_pass ((hsq rfl).imp fun b e => by rw [e, seq_within (by omega) (by omega)]; rfl) ?_
  refine bg_seq (M' := (· = [.dat L, .olst [], .any, .any, .any, .any, .any, .any, .any, .any, .any, .any])) (bg_of (b_setN1 (i := 1) (PN := (· = [])) (by show 1 < 12; omega) (en_lst el_nil) fun ds e => by subst e; rfl)) fun Γ' e => ?_
  subst e
  let Γs : Nat → List Sl := fun i => [.dat L, .olst (wordsD (cs.take i)), .dat (.bool (hasH (cs.take i))), .any, .any, .any, .any, .any, .any, .any, .any, .any]
  refine bg_setD (i := 2) (P := (· = .bool false)) (by show 2 < 12; omega) ev_bl fun d' e' => ?_
  subst e'
  show BkG K E _ (Γs 0) _ _ _ _ _
  refine bg_seq (M' := fun Γ' => tl' = [] ∧ Γ' = Γs cs.length) (bg_for (I := fun i Γ' => i ≤ cs.length ∧ Γ' = Γs i) (n := (cs.map Ci.D ++ tl').length) (Pi := fun i d => ∃ a, (cs.map Ci.D ++ tl')[i]? = some a ∧ d = .tuple [.int i, a]) (N := fun i Γ' d => setSs Γ' [3, 4] ((unT d).map .dat)) (e0_enum (el1Q (ev_var rfl))) ⟨Nat.zero_le _, rfl⟩ (fun i Γ' hi ⟨_, e⟩ => by subst e; exact (tgb_tup [3, 4] (by intro j hj; simp at hj; show j < 12; omega)).impP fun d ⟨a, _, e⟩ => ⟨_, e, rfl⟩) (fun i Γ' d hi ⟨hle, e⟩ pd => ?_) fun Γ' ⟨hle, e⟩ => ?_) fun Γ' ⟨htl0, e⟩ => ?_
  · subst e
    obtain ⟨z, hz, rfl⟩ := pd
    let Γ1 : List Sl := [.dat L, .olst (wordsD (cs.take i)), .dat (.bool (hasH (cs.take i))), .dat (.int (i : Nat)), .dat z, .any, .any, .any, .any, .any, .any, .any]
    show BkG K E _ Γ1 _ _ _ _ _
    have hwl : (wordsD (cs.take i)).length ≤ 2000 := by unfold wordsD; rw [List.length_map, List.length_take]; omega
    by_cases hlt : i < cs.length
    · rw [List.getElem?_append_left (by rw [List.length_map]; exact hlt)] at hz
      obtain ⟨c, hc, rfl⟩ := map_get hz
      have hok := hcs.ok i c hc
      have hsm := Ci.small hok
      have hho := Ci.hole hok
      have hsn : wordsD (cs.take (i + 1)) = wordsD (cs.take i) ++ [.list (strsD c.W)] := by rw [take_snoc hc]; unfold wordsD; rw [List.map_append]; rfl
      have hhn : hasH (cs.take (i + 1)) = (hasH (cs.take i) || c.isH) := by rw [take_snoc hc, hasH_snoc]
      have hcall : EvB K (tB (tCall (spSm K isHoleS) [] E0 (tCons (tVar 4) tNil))) (rel Γ1) (· = c.isH) := eb_val (ev_eq (ev_call1 [c.D] (elc (ev_var rfl) el_nil) ⟨_, rfl, hsm⟩ rfl) (congrArg PyData.bool hho))
      have back : ∀ Γ2 : List Sl, W Γ2 (Γs (i + 1)) → ∃ Γ3, W Γ2 Γ3 ∧ i + 1 ≤ cs.length ∧ Γ3 = Γs (i + 1) := fun Γ2 w => ⟨_, w, hlt, rfl⟩
      cases c with
      | h kk =>
        have h0 := hcs.one i kk hc
        refine bg_if (b := true) ((eb_and (b1 := true) (b2 := true) hcall fun _ => eb_not (b := false) (eb_val (ev_eq (ev_var (d := .bool (hasH (cs.take i))) rfl) (by rw [h0])))).imp fun b e => e) (fun _ => ?_) fun e => nomatch e
        refine bg_setD (i := 2) (P := (· = .bool true)) (by show 2 < 12; omega) ev_bl fun d' e' => ?_
        subst e'
        refine bg_of (b_app (j := 1) (P := (· = .list (strsD [("?" : Str), kk]))) (ds := wordsD (cs.take i)) rfl (by omega) (ev_lstE _ (elc (ev_c fun _ => .str _) (elc (ev_ixT (n := 1) (ds := [.str "", .str kk]) (ev_var rfl) ev_int rfl) el_nil))) fun e he => back _ ?_)
        subst he
        show W [_, Sl.olst (wordsD (cs.take i) ++ [.list (strsD [("?" : Str), kk])]), Sl.dat (.bool true), _, _, _, _, _, _, _, _, _] [_, Sl.olst (wordsD (cs.take (i + 1))), Sl.dat (.bool (hasH (cs.take (i + 1)))), _, _, _, _, _, _, _, _, _]
        rw [hsn, hhn, h0]
        (repeat (first | exact L2.W.nil | refine L2.W.any ?_ | refine L2.W.eq ?_))
      | s q =>
        refine bg_if (b := false) ((eb_and (b1 := false) (b2 := false) hcall fun e => nomatch e).imp fun b e => e) (fun e => nomatch e) fun _ => ?_
        refine bg_if (b := true) (eb_val (ev_eq (ev_call1 [q.D, .int (i : Nat)] (elc (ev_var rfl) (elc (ev_var rfl) el_nil)) ⟨_, _, rfl, hsm⟩ rfl) (congrArg PyData.bool (Stp.plain hok)))) (fun _ => ?_) fun e => nomatch e
        obtain ⟨h1, h2, h3, h4, h5, h6, h7⟩ := hok
        refine bg_asg (P := (· = q.D)) (eg_of (ev_var rfl)) ((tgb_tup [5, 6, 7] (by intro j hj; simp at hj; show j < 12; omega)).impP fun d e => ⟨[.str q.name, .tuple (natsD q.pl), intsT q.nu], e, rfl⟩) fun d' e' => ?_
        subst e'
        let Γ2 : List Sl := [.dat L, .olst (wordsD (cs.take i)), .dat (.bool (hasH (cs.take i))), .dat (.int (i : Nat)), .dat q.D, .dat (.str q.name), .dat (.tuple (natsD q.pl)), .dat (intsT q.nu), .any, .any, .any, .any]
        show BkG K E _ Γ2 _ _ _ _ _
        refine bg_setD (i := 8) (P := (· = .list (strsD (q.nu.map strI)))) (by show 8 < 12; omega) (ev_lcI (vs := [9]) (es := strsD (q.nu.map strI)) (N := fun d => Γ2.set 9 (.dat d)) (Pi := fun i d => (q.nu.map PyData.int)[i]? = some d) (by unfold strsD; rw [List.length_map, List.length_map]; omega) (by rw [show (strsD (q.nu.map strI)).length = (q.nu.map PyData.int).length by unfold strsD; rw [List.length_map, List.length_map, List.length_map]]; exact (e0_seq (el_tuple (ev_var rfl))).toI) (fun q => tg_name (by show 9 < 12; omega)) fun j d e pd he => ?_) fun d' e' => ?_
        · obtain ⟨n, hn, rfl⟩ := map_get pd
          obtain ⟨s, hs, rfl⟩ := map_get he
          obtain ⟨n', hn', rfl⟩ := map_get hs
          rw [hn] at hn'
          cases hn'
          exact ev_strOf (log_ok (h7 n (List.mem_of_getElem? hn))) (ev_var rfl)
        subst e'
        let Γ3 : List Sl := [.dat L, .olst (wordsD (cs.take i)), .dat (.bool (hasH (cs.take i))), .dat (.int (i : Nat)), .dat q.D, .dat (.str q.name), .dat (.tuple (natsD q.pl)), .dat (intsT q.nu), .dat (.list (strsD (q.nu.map strI))), .any, .any, .any]
        show BkG K E _ Γ3 _ _ _ _ _
        have hpl : EvD K (tLc (iSeq K (tVar 6)) (gName 10) tYes (tCB (fun xs H Q => ∃ i, xs = [.int i] ∧ i.natAbs.log2 < 1920 ∧ Q (.str (toString i)) H) (tCons (tVar 10) tNil)) [10]) Γ3 (· = .list (strsD (q.pl.map fun p => strI (p : Nat)))) := by
          refine ev_lcI (vs := [10]) (es := strsD (q.pl.map fun p => strI (p : Nat))) (N := fun d => Γ3.set 10 (.dat d)) (Pi := fun i d => (natsD q.pl)[i]? = some d) (by unfold strsD; rw [List.length_map, List.length_map]; omega) (by rw [show (strsD (q.pl.map fun p => strI (p : Nat))).length = (natsD q.pl).length by unfold strsD natsD; rw [List.length_map, List.length_map, List.length_map]]; exact (e0_seq (el_tuple (ev_var rfl))).toI) (fun q => tg_name (by show 10 < 12; omega)) fun j d e pd he => ?_
          obtain ⟨n, hn, rfl⟩ := map_get pd
          obtain ⟨s, hs, rfl⟩ := map_get he
          obtain ⟨n', hn', rfl⟩ := map_get hs
          rw [hn] at hn'
          cases hn'
          exact ev_strOf (log_ok (i := (n : Nat)) (by rw [Int.natAbs_natCast]; exact h6 n (List.mem_of_getElem? hn))) (ev_var rfl)
        have hnl : (strsD (q.nu.map strI)).length = q.nu.length := by unfold strsD; rw [List.length_map, List.length_map]
        have hpll : (strsD (q.pl.map fun p => strI (p : Nat))).length = q.pl.length := by unfold strsD; rw [List.length_map, List.length_map]
        have hnw : (strsD (numW q.nu)).length ≤ q.nu.length + 1 := by unfold strsD; rw [List.length_map]; exact numW_len _
        refine bg_of (b_app (j := 1) (P := (· = .list (strsD (Ci.s q).W))) (ds := wordsD (cs.take i)) rfl (by omega) (ev_eq (ev_catL (ds := [PyData.str q.name] ++ strsD (q.pl.map fun p => strI (p : Nat))) (es := strsD (numW q.nu)) (by rw [List.length_append, hpll]; show 1 + _ + _ ≤ _; omega) (ev_catL (ds := [PyData.str q.name]) (es := strsD (q.pl.map fun p => strI (p : Nat))) (by rw [hpll]; show 1 + _ ≤ _; omega) (ev_lstE _ (elc (ev_var rfl) el_nil)) hpl) (ev_ifE (b := !(strsD (q.nu.map strI)).isEmpty) (eb_truL (ev_var rfl)) (fun hb => ?_) fun hb => ?_)) ?_) fun e he => back _ ?_)
        · have hne : q.nu ≠ [] := fun z => by rw [z] at hb; cases hb
          refine ev_eq (ev_catL (ds := [.str "#"]) (es := strsD (q.nu.map strI)) (by rw [hnl]; show 1 + _ ≤ _; omega) (ev_lstE _ (elc ev_str el_nil)) (ev_var rfl)) (congrArg PyData.list ?_)
          unfold numW
          rw [if_neg hne]
          rfl
        · have he : q.nu = [] := by
            cases hq : q.nu with
            | nil => rfl
            | cons x xs => rw [hq] at hb; cases hb
          refine ev_eq (ev_lstE [] el_nil) (congrArg PyData.list ?_)
          unfold numW
          rw [if_pos he]
          rfl
        · refine congrArg PyData.list ?_
          show _ = strsD (q.name :: (q.pl.map fun p => strI (p : Nat)) ++ numW q.nu)
          unfold strsD
          rw [List.map_append]
          rfl
        · subst he
          show W [_, Sl.olst (wordsD (cs.take i) ++ [.list (strsD (Ci.s q).W)]), Sl.dat (.bool (hasH (cs.take i))), _, _, _, _, _, _, _, _, _] [_, Sl.olst (wordsD (cs.take (i + 1))), Sl.dat (.bool (hasH (cs.take (i + 1)))), _, _, _, _, _, _, _, _, _]
          rw [hsn, hhn, show (Ci.s q).isH = false from rfl, Bool.or_false]
          (repeat (first | exact L2.W.nil | refine L2.W.any ?_ | refine L2.W.eq ?_))
    · obtain rfl : i = cs.length := by omega
      rw [List.getElem?_append_right (by rw [List.length_map]; exact Nat.le_refl _), List.length_map, Nat.sub_self] at hz
      rcases htl with ⟨y, rest, rfl, rfl, h1, h2, h3, h4⟩ | ⟨rfl, _⟩
      · have ez : y = z := Option.some.inj hz
        subst z
        have hcall : EvB K (tB (tCall (spSm K isHoleS) [] E0 (tCons (tVar 4) tNil))) (rel Γ1) (· = isHoleS y) := eb_val (ev_call1 [y] (elc (ev_var rfl) el_nil) ⟨_, rfl, h2⟩ rfl)
        have hnot : ∀ b, b = (isHoleS y && !hasH cs) → b = false := fun b e => by
          rw [e]
          rcases h3 with h | h
          · rw [h]; rfl
          · rw [h]; exact Bool.and_false _
        have hfull : hasH (cs.take cs.length) = hasH cs := by rw [List.take_length]
        refine bg_if (b := false) ((eb_and (b1 := isHoleS y) (b2 := !hasH cs) hcall fun _ => eb_not (eb_val (ev_eq (ev_var (d := .bool (hasH (cs.take cs.length))) rfl) (by rw [hfull])))).imp fun b e => hnot b e) (fun e => nomatch e) fun _ => ?_
        refine bg_if (b := false) (eb_val (ev_eq (ev_call1 [y, .int (cs.length : Nat)] (elc (ev_var rfl) (elc (ev_var rfl) el_nil)) ⟨_, _, rfl, h2⟩ rfl) (congrArg PyData.bool h4))) (fun e => nomatch e) fun _ => ?_
        exact bg_raise1 ((elc (ev_var rfl) el_nil).imp fun ds e => ⟨_, e, _, rfl, rfl, rfl⟩)
      · cases hz
  · rw [hlL] at hle e
    rcases htl with ⟨y, rest, rfl, _⟩ | ⟨rfl, _⟩
    · rw [List.length_cons] at hle
      omega
    · exact ⟨rfl, e⟩
  · subst e
    rcases htl with ⟨y, rest, rfl, _⟩ | ⟨_, ho, h1, ht⟩
    · cases htl0
    have hwl : (wordsD (cs.take cs.length)) = wordsD cs := by rw [List.take_length]
    let Γ9 : List Sl := [.dat L, .dat (.list (wordsD cs)), .dat (.bool (hasH (cs.take cs.length))), .any, .any, .any, .any, .any, .any, .any, .any, .any]
    have hrel : rel (Γs cs.length) = Γ9 := by
      show [_, Sl.dat (.list (wordsD (cs.take cs.length))), _, _, _, _, _, _, _, _, _, _] = _
      rw [hwl]
      rfl
    have hret : EvD K (tM1 (rJoin K) (tC (.str "; ")) (tLc (iSeq K (tVar 1)) (gName 11) tYes (tM1 (rJoin K) (tC (.str " ")) (tVar 11)) [11])) Γ9 (· = .str t) := by
      refine ev_eq (ev_join (a := "; ") (xs := cs.map Ci.T) ?_ (ev_c fun _ => .str _) (el_list (ev_lcI (vs := [11]) (es := strsD (cs.map Ci.T)) (N := fun d => Γ9.set 11 (.dat d)) (Pi := fun i d => (wordsD cs)[i]? = some d) ?_ ?_ (fun q => tg_name (by show 11 < 12; omega)) fun j d e pd he => ?_))) (by rw [ht]; rfl)
      · have := hcs.sum
        rw [List.map_map, List.length_map, show ("; " : Str).length = 2 by rw [len_tl, tl_semi]; rfl]
        show (cs.map fun c => c.T.length).sum + _ ≤ _
        omega
      · unfold strsD; rw [List.length_map, List.length_map]; omega
      · rw [show (strsD (cs.map Ci.T)).length = (wordsD cs).length by unfold strsD wordsD; rw [List.length_map, List.length_map, List.length_map]]
        exact (e0_seq (el_list (ev_var rfl))).toI
      · obtain ⟨c, hc, rfl⟩ := map_get pd
        obtain ⟨s, hs, rfl⟩ := map_get he
        obtain ⟨c', hc', rfl⟩ := map_get hs
        rw [hc] at hc'
        cases hc'
        have := Ci.sum (hcs.ok j c hc)
        exact ev_join (a := " ") (xs := c.W) (by omega) (ev_c fun _ => .str _) (el_list (ev_var rfl))
    have hR : ∀ d, d = .str t → RD (fun d => o = none ∧ d = .str t) (.one (.dat d)) := fun d e => ⟨d, rfl, ho, e⟩
    refine bg_ret (P := (· = .str t)) ?_ hR
    rw [hrel]
    exact eg_of hret
end
end K94

set_option Elab.async false
set_option linter.all false
set_option maxRecDepth 100000
set_option maxHeartbeats 4000000
namespace K94
open PySem PySem.Spec PyProof.Rows L2 TL
/-! ### words that are read -/
abbrev s_read_hole : Stmt := topS 25
abbrev N_read_hole : List Str := ["words"]
theorem sc_read_hole : FnScope N_read_hole ["words"] (defScope s_read_hole) := ⟨rfl, rfl, rfl, by decide +kernel, rfl, by decide +kernel, by decide +kernel⟩
abbrev s_read_step : Stmt := topS 26
abbrev N_read_step : List Str := ["words", "index", "places", "numbers", "first", "word"]
theorem sc_read_step : FnScope N_read_step ["words", "index"] (defScope s_read_step) := ⟨rfl, rfl, rfl, by decide +kernel, rfl, by decide +kernel, by decide +kernel⟩
structure TG (K : PySem.W.Frag) (mg : Str → Option Value) extends TF1 K mg where
  read_hole : Df K mg "read_hole" s_read_hole ["words"]
  read_step : Df K mg "read_step" s_read_step ["words", "index"]
def readHole : List Str → PyData
  | [a, k] => if nameS k = true then .tuple [.str "", .str k] else .none
  | _ => .none
/-- the place of the first "#" -/
def hashAt : List Str → Nat
  | [] => 0
  | w :: r => if w = "#" then 0 else hashAt r + 1
theorem hash_at : ∀ {ps : List Str}, ("#" : Str) ∈ ps → ps[hashAt ps]? = some "#" ∧ ∀ m, m < hashAt ps → ps[m]? ≠ some "#"
  | [], h => nomatch h
  | w :: r, h => by
    unfold hashAt
    by_cases e : w = "#"
    · rw [if_pos e]
      exact ⟨by rw [e]; rfl, fun m hm => absurd hm (Nat.not_lt_zero _)⟩
    · rw [if_neg e]
      have hr : ("#" : Str) ∈ r := by
        rcases List.mem_cons.mp h with z | z
        · exact absurd z.symm e
        · exact z
      obtain ⟨h1, h2⟩ := hash_at hr
      refine ⟨h1, fun m hm => ?_⟩
      cases m with
      | zero => exact fun z => e (Option.some.inj z)
      | succ m => exact h2 m (by omega)
def plW (ps : List Str) : List Str := if ("#" : Str) ∈ ps then ps.take (hashAt ps) else ps
def nuW (ps : List Str) : List Str := if ("#" : Str) ∈ ps then ps.drop (hashAt ps + 1) else []
def iv (w : Str) : Int := (PySem.intText? w).getD 0
def plOk (i : Int) (w : Str) : Bool := wholeS w && decide (iv w < i)
def readStep (n : Str) (ps : List Str) (i : Int) : PyData :=
  if (decide (("#" : Str) ∈ ps) && (nuW ps).isEmpty) = true then .none
  else if (!nameS n || !(plW ps).all (plOk i)) = true then .none
  else if (!(nuW ps).all numberS) = true then .none
  else .tuple [.str n, .tuple ((plW ps).map fun w => .int (iv w)), .tuple ((nuW ps).map fun w => .int (iv w))]
def wOk (ws : List Str) : Prop := ∀ w ∈ ws, w.length ≤ 640 ∧ (wholeS w = true ∨ numberS w = true → (PySem.intText? w).isSome = true)
theorem wOk.int {ws : List Str} (h : wOk ws) {w : Str} (hw : w ∈ ws) (hn : wholeS w = true ∨ numberS w = true) : PySem.intText? w = some (iv w) := by
  have := (h w hw).2 hn
  unfold iv
  cases hi : PySem.intText? w with
  | none => rw [hi] at this; cases this
  | some n => rfl
theorem plW_sub {ps : List Str} {w : Str} (h : w ∈ plW ps) : w ∈ ps := by
  unfold plW at h
  split at h
  · exact List.mem_of_mem_take h
  · exact h
theorem nuW_sub {ps : List Str} {w : Str} (h : w ∈ nuW ps) : w ∈ ps := by
  unfold nuW at h
  split at h
  · exact List.mem_of_mem_drop h
  · cases h
section
variable {P : Program} {w : World} {K : PySem.W.Frag} {mg : Str → Option Value} {base : Heap}
abbrev rHole (ds : List PyData) (d : PyData) : Prop := ∃ ws : List Str, ds = [.list (strsD ws)] ∧ (∀ w ∈ ws, w.length ≤ 1000) ∧ d = readHole ws
theorem ok_read_hole (T : TG K mg) : FnOk P w K mg base CX0 2 T.read_hole.f T.read_hole.fd ["words"] (spP K rHole) := by
  have G_is_name : FnOk P w K mg base CX0 1 T.is_name.f T.is_name.fd ["thing"] (spSm K isName) := ok_is_name T.toTC
  refine T.read_hole.F.ok sc_read_hole (fun vs H Q E ⟨G, ds, d, iv, a, ⟨ws, hp, _⟩, k⟩ => len1 a (by rw [hp]; rfl)) (fun cdv A outer s H vs Q E hr ⟨G, ds, d, iv, a, ⟨ws, hp, hs, hd⟩, k⟩ => ?_)
  subst hp
  subst hd
  obtain ⟨v, rfl⟩ := one a.length
  obtain ⟨tH, hHOLE⟩ := T.HOLE
  refine ⟨_, (pss_one (ps_ret (pe_ifExp (PW.pt (pw_and (pt_cmpR op_eq (pe_callB call_len_seq (by rfl) T.len (by decide +kernel) (pa_cons (pv 0) pa_nil)) pe_int (nomark _)) (pw_and1 (pt_val (pe_call G_is_name (hr.mono (by decide)) rfl T.is_name.g T.is_name.F.kp T.is_name.b .nil pass0 (pa_cons (pe_ix ix_list (pv 0) pe_int (fun _ _ => rfl)) pa_nil)))))) (pe_tup (pa_cons (pe_glob (v := .str "") rfl hHOLE ⟨_, rfl⟩) (pa_cons (pe_ix ix_list (pv 0) pe_int (fun _ _ => rfl)) pa_nil))) pe_non))), ?_⟩
  refine doneS 0 rfl ?_ iv a k
  let Γ0 : List Sl := [.dat (.list (strsD ws))]
  show Rets K _ Γ0 (· = readHole ws)
  have hl : EvD K (tCB (fun xs H Q => ∃ p ys, xs = [V.ref p] ∧ (SqL K H p ys ∨ SqT K H p ys) ∧ Q (V.int (ys.length : Nat)) H) (tCons (tVar 0) tNil)) Γ0 (· = .int (ws.length : Nat)) := ev_eq (ev_len (ds := strsD ws) (el_list (ev_var rfl))) (by unfold strsD; rw [List.length_map])
  have hno : ws.length ≠ 2 → readHole ws = .none := fun h => by
    match ws, h with
    | [], _ => rfl
    | [_], _ => rfl
    | [_, _], h => exact absurd rfl h
    | _ :: _ :: _ :: _, _ => rfl
  by_cases h2 : ws.length = 2
  · obtain ⟨z, b, rfl⟩ : ∃ z b, ws = [z, b] := by
      match ws, h2 with
      | [z, b], _ => exact ⟨z, b, rfl⟩
    have h1 : EvD K (tOp (rIxL K) (tVar 0) (tC (.int 1))) Γ0 (· = .str b) := ev_ixL (n := 1) (ds := strsD [z, b]) (ev_var rfl) ev_int rfl
    refine rs_ret (ev_ifE (b := nameS b) ((eb_and (b1 := true) (b2 := nameS b) (eb_test (ev_eq (ev_eqI hl ev_int) (congrArg PyData.bool (decide_eq_true (by show ((2 : Nat) : Int) = 2; rfl))))) fun _ => eb_val (ev_call1 [.str b] (elc h1 el_nil) ⟨_, rfl, smallS (hs b (List.mem_cons_of_mem _ List.mem_cons_self))⟩ rfl)).imp fun c e => by rw [e, Bool.true_and]) (fun e => ?_) fun e => ?_)
    · exact ev_eq (ev_tup2 (ev_c fun _ => .str _) h1) (by show _ = (if nameS b = true then _ else _); rw [if_pos e])
    · exact ev_eq (ev_c fun _ => .non) (by show _ = (if nameS b = true then _ else _); rw [if_neg (by rw [e]; decide)])
  · refine rs_ret (ev_ifE (b := false) ((eb_and (b1 := false) (b2 := false) (eb_test (ev_eq (ev_eqI hl ev_int) (congrArg PyData.bool (decide_eq_false (by omega))))) fun e => nomatch e).imp fun c e => e) (fun e => nomatch e) fun e => ?_)
    exact ev_eq (ev_c fun _ => .non) (hno h2).symm
abbrev rStep (ds : List PyData) (d : PyData) : Prop := ∃ (n : Str) (ps : List Str) (i : Int), ds = [.list (strsD (n :: ps)), .int i] ∧ wOk (n :: ps) ∧ ps.length ≤ 10000 ∧ d = readStep n ps i
theorem cutQ_from (ds : List PyData) {n : Nat} (h : n ≤ ds.length) : cutQ ds (some (n : Int)) none = ds.drop n := cutQ_drop h
theorem ok_read_step (T : TG K mg) : FnOk P w K mg base CX0 3 T.read_step.f T.read_step.fd ["words", "index"] (spP K rStep) := by
  have G_is_name : FnOk P w K mg base CX0 1 T.is_name.f T.is_name.fd ["thing"] (spSm K isName) := ok_is_name T.toTC
  have G_is_whole : FnOk P w K mg base CX0 1 T.is_whole.f T.is_whole.fd ["word"] (spStr K wholeS) := ok_is_whole T.toTD
  have G_is_number : FnOk P w K mg base CX0 2 T.is_number.f T.is_number.fd ["word"] (spStr K numberS) := ok_is_number T.toTD
  refine T.read_step.F.ok sc_read_step (fun vs H Q E ⟨G, ds, d, iv, a, ⟨n, ps, i, hp, _⟩, k⟩ => len1 a (by rw [hp]; rfl)) (fun cdv A outer s0 H vs Q E hr ⟨G, ds, d, inv, a, ⟨n, ps, i, hp, hw, hpl, hd⟩, k⟩ => ?_)
  subst hp
  subst hd
  obtain ⟨v, v2, rfl⟩ := two a.length
  refine ⟨_, (pss_cons (ps_set (i := 2) sc_read_step.nd rfl (by first | exact Or.inl rfl | exact Or.inr rfl) (pe_slice sl_list (pv 0) (po_some pe_int) po_none))
    (pss_cons (ps_set (i := 3) sc_read_step.nd rfl (by first | exact Or.inl rfl | exact Or.inr rfl) (pe_lst pa_nil))
    (pss_cons (ps_if (pt_cmpR op_in_seq pe_str (pv 2) (by rfl)) (pss_cons (ps_set (i := 4) sc_read_step.nd rfl (by first | exact Or.inl rfl | exact Or.inr rfl) (pe_bm PySem.F.plainAttrs_list PySem.F.slot_list_index PySem.F.type_list_index mt_index (pv 2) (pa_cons pe_str pa_nil)))
      (pss_cons (ps_set (i := 3) sc_read_step.nd rfl (by first | exact Or.inl rfl | exact Or.inr rfl) (pe_slice sl_list (pv 2) (po_some (pe_op op_add (pv 4) pe_int)) po_none))
      (pss_cons (ps_set (i := 2) sc_read_step.nd rfl (by first | exact Or.inl rfl | exact Or.inr rfl) (pe_slice sl_list (pv 2) po_none (po_some (pv 4))))
      (pss_one (ps_if (pt_cmpR op_eq (pe_callB call_len_seq (by rfl) T.len (by decide +kernel) (pa_cons (pv 3) pa_nil)) pe_int (nomark _)) (pss_one (ps_ret pe_non)) pss_nil))))) pss_nil)
    (pss_cons (ps_if (PW.pt (pw_or (pt_not (pt_val (pe_call G_is_name (hr.mono (by decide)) rfl T.is_name.g T.is_name.F.kp T.is_name.b .nil pass0 (pa_cons (pe_ix ix_list (pv 0) pe_int (fun _ _ => rfl)) pa_nil)))) (pw_or1 (pt_not (pt_val (pe_callB (cr_all rfl) (by rfl) T.all (by decide +kernel) (pa_cons (pe_lc (own := [("word", 5)]) (g := gName 5) (tt := tYes) (te := tAndV (tCall (spStr K wholeS) [] E0 (tCons (tVar 5) tNil)) (tOp (rI0 fun i j => .bl (decide (i < j))) (tCB (fun xs H Q => ∃ a n, xs = [.str a] ∧ PySem.intText? a = some n ∧ a.length ≤ 640 ∧ Q (.int n) H) (tCons (tVar 5) tNil)) (tVar 1))) rfl sc_read_step.nd (pi_seq (pv 2)) (blkOk_by (own := [("word", 5)]) (N := N_read_step) (sc := defScope s_read_step) (by decide +kernel)) (fun _ _ _ _ _ => (pg_name (i := 5) sc_read_step.nd rfl (by first | exact Or.inl rfl | exact Or.inr rfl))) (fun _ _ _ _ _ => pts_nil) (fun _ _ _ _ _ => (pe_and (pe_call G_is_whole (hr.mono (by decide)) rfl T.is_whole.g T.is_whole.F.kp T.is_whole.b .nil pass0 (pa_cons (pv 5) pa_nil)) (pe_one (pe_cmpR op_lt (pe_callTy call_int_str (by rfl) T.int (by decide +kernel) (pa_cons (pv 5) pa_nil)) (pv 1) (nomark _)))))) pa_nil))))))) (pss_one (ps_ret pe_non)) pss_nil)
    (pss_cons (ps_if (pt_not (pt_val (pe_callB (cr_all rfl) (by rfl) T.all (by decide +kernel) (pa_cons (pe_lc (own := [("word", 5)]) (g := gName 5) (tt := tYes) rfl sc_read_step.nd (pi_seq (pv 3)) (blkOk_by (own := [("word", 5)]) (N := N_read_step) (sc := defScope s_read_step) (by decide +kernel)) (fun _ _ _ _ _ => (pg_name (i := 5) sc_read_step.nd rfl (by first | exact Or.inl rfl | exact Or.inr rfl))) (fun _ _ _ _ _ => pts_nil) (fun _ _ _ _ _ => (pe_call G_is_number (hr.mono (by decide)) rfl T.is_number.g T.is_number.F.kp T.is_number.b .nil pass0 (pa_cons (pv 5) pa_nil)))) pa_nil)))) (pss_one (ps_ret pe_non)) pss_nil)
    (pss_one (ps_ret (pe_tup (pa_cons (pe_ix ix_list (pv 0) pe_int (fun _ _ => rfl)) (pa_cons (pe_tupleOf (by rfl) T.tuple (pe_lc (own := [("word", 5)]) (g := gName 5) (tt := tYes) rfl sc_read_step.nd (pi_seq (pv 2)) (blkOk_by (own := [("word", 5)]) (N := N_read_step) (sc := defScope s_read_step) (by decide +kernel)) (fun _ _ _ _ _ => (pg_name (i := 5) sc_read_step.nd rfl (by first | exact Or.inl rfl | exact Or.inr rfl))) (fun _ _ _ _ _ => pts_nil) (fun _ _ _ _ _ => (pe_callTy call_int_str (by rfl) T.int (by decide +kernel) (pa_cons (pv 5) pa_nil))))) (pa_cons (pe_tupleOf (by rfl) T.tuple (pe_lc (own := [("word", 5)]) (g := gName 5) (tt := tYes) rfl sc_read_step.nd (pi_seq (pv 3)) (blkOk_by (own := [("word", 5)]) (N := N_read_step) (sc := defScope s_read_step) (by decide +kernel)) (fun _ _ _ _ _ => (pg_name (i := 5) sc_read_step.nd rfl (by first | exact Or.inl rfl | exact Or.inr rfl))) (fun _ _ _ _ _ => pts_nil) (fun _ _ _ _ _ => (pe_callTy call_int_str (by rfl) T.int (by decide +kernel) (pa_cons (pv 5) pa_nil))))) pa_nil))))))))))), ?_⟩
  have a2 : ArgsOk K G H [v, v2] [.dat (.list (strsD (n :: ps))), .dat (.int i)] := by
    cases a with
    | cons h1 t1 => cases t1 with
      | cons h2 t2 => cases t2; exact .cons h1 (.cons h2 .nil)
  refine doneBD (P := (· = readStep n ps i)) 4 rfl rfl ?_ inv a2 fun v d H' i' l' e dq => k v H' i' l' (by subst e; exact dq)
  let Γs : List Str → List Str → Sl → List Sl := fun pl nu s => [.dat (.list (strsD (n :: ps))), .dat (.int i), .dat (.list (strsD pl)), .dat (.list (strsD nu)), s, .any]
  have hsl : ∀ xs : List Str, (strsD xs).length = xs.length := fun xs => by unfold strsD; rw [List.length_map]
  have ret : ∀ {M B C} {te : TE} {Γ : List Sl}, EvD K te (rel Γ) (· = readStep n ps i) → Bk K (tRet te) Γ M (RD (· = readStep n ps i)) B C := fun h => b_retR h fun d hd => ⟨d, rfl, hd⟩
  refine b_set (i := 2) (P := (· = .list (strsD ps))) (by show 2 < 6; omega) (ev_eq (ev_slL (ds := strsD (n :: ps)) (lo := some ((1 : Nat) : Int)) (hi := none) (ev_var rfl) (eo_some ev_int) eo_none) (by rw [cutQ_from _ (by rw [hsl]; show 1 ≤ _ + 1; omega)]; rfl)) fun d' e' => ?_
  subst e'
  refine b_set (i := 3) (P := (· = .list (strsD []))) (by show 3 < 6; omega) (ev_lstE [] el_nil) fun d' e' => ?_
  subst e'
  show Bk K _ (Γs ps [] .any) _ _ _ _
  refine b_seq (M' := fun Γ' => (decide (("#" : Str) ∈ ps) && (nuW ps).isEmpty) = false ∧ ∃ s, Γ' = Γs (plW ps) (nuW ps) s) (b_if (b := decide (("#" : Str) ∈ ps)) (eb_test (ev_inStrs ev_str (ev_var rfl))) (fun hb => ?_) fun hb => b_next ?_) fun Γ' ⟨hno, s, e⟩ => ?_
  · have hm := of_decide_eq_true hb
    obtain ⟨h1, h2⟩ := hash_at hm
    have hlt := (List.getElem?_eq_some_iff.mp h1).1
    have ep : plW ps = ps.take (hashAt ps) := if_pos hm
    have en : nuW ps = ps.drop (hashAt ps + 1) := if_pos hm
    refine b_set (i := 4) (P := (· = .int (hashAt ps : Nat))) (by show 4 < 6; omega) (ev_indexS (ev_var rfl) ev_str h1 h2) fun d' e' => ?_
    subst e'
    refine b_set (i := 3) (P := (· = .list (strsD (nuW ps)))) (by show 3 < 6; omega) (ev_eq (ev_slL (ds := strsD ps) (lo := some ((hashAt ps + 1 : Nat) : Int)) (hi := none) (ev_var rfl) (eo_some (ev_eq (ev_opC1 (a := (hashAt ps : Nat)) (b := 1) (g' := fun i j => .int (i + j)) (fun _ _ _ => .int _) (ev_var rfl) ev_int) rfl)) eo_none) (by rw [cutQ_from _ (by rw [hsl]; omega), en]; unfold strsD; rw [List.map_drop])) fun d' e' => ?_
    subst e'
    refine b_set (i := 2) (P := (· = .list (strsD (plW ps)))) (by show 2 < 6; omega) (ev_eq (ev_slL (ds := strsD ps) (lo := none) (hi := some ((hashAt ps : Nat) : Int)) (ev_var rfl) eo_none (eo_some (ev_var rfl))) (by rw [cutQ_head, ep]; unfold strsD; rw [List.map_take])) fun d' e' => ?_
    subst e'
    show Bk K _ (Γs (plW ps) (nuW ps) (.dat (.int (hashAt ps : Nat)))) _ _ _ _
    refine b_if (b := decide ((((nuW ps).length : Nat) : Int) = 0)) (eb_test (ev_eqI (ev_eq (ev_len (ds := strsD (nuW ps)) (el_list (ev_var rfl))) (by rw [hsl])) ev_int)) (fun he => ?_) fun he => b_next ⟨?_, _, rfl⟩
    · have he : (nuW ps).length = 0 := by have := of_decide_eq_true he; omega
      have he : (nuW ps).isEmpty = true := by rw [List.isEmpty_iff]; exact List.length_eq_zero_iff.mp he
      refine ret (ev_eq (ev_c fun _ => .non) ?_)
      unfold readStep
      rw [if_pos (show (decide (("#" : Str) ∈ ps) && (nuW ps).isEmpty) = true by rw [hb, he]; rfl)]
    · have he : (nuW ps).length ≠ 0 := by have := of_decide_eq_false he; omega
      have he : (nuW ps).isEmpty = false := by
        cases hn : nuW ps with
        | nil => rw [hn] at he; exact absurd rfl he
        | cons _ _ => rfl
      rw [he, Bool.and_false]
  · have hm : ¬ ("#" : Str) ∈ ps := of_decide_eq_false hb
    have ep : plW ps = ps := if_neg hm
    have en : nuW ps = [] := if_neg hm
    refine ⟨by rw [hb]; rfl, .any, ?_⟩
    rw [ep, en]
  · subst e
    have hpl1 : (plW ps).length ≤ 10000 := by
      unfold plW
      split
      · rw [List.length_take]; omega
      · exact hpl
    have hnl1 : (nuW ps).length ≤ 10000 := by
      unfold nuW
      split
      · rw [List.length_drop]; omega
      · exact Nat.zero_le _
    have hpm : ∀ w ∈ plW ps, w ∈ n :: ps := fun w h => List.mem_cons_of_mem _ (plW_sub h)
    have hnm : ∀ w ∈ nuW ps, w ∈ n :: ps := fun w h => List.mem_cons_of_mem _ (nuW_sub h)
    have h0 : ∀ {Γ : List Sl}, Γ[0]? = some (.dat (.list (strsD (n :: ps)))) → EvD K (tOp (rIxL K) (tVar 0) (tC (.int 0))) Γ (· = .str n) := fun h => ev_ixL (n := 0) (ds := strsD (n :: ps)) (ev_var h) ev_int rfl
    let fP : PyData → Bool := fun d => match d with | .str w => plOk i w | _ => false
    let fN : PyData → Bool := fun d => match d with | .str w => numberS w | _ => false
    have allP : (strsD (plW ps)).all fP = (plW ps).all (plOk i) := by unfold strsD; rw [List.all_map]; rfl
    have allN : (strsD (nuW ps)).all fN = (nuW ps).all numberS := by unfold strsD; rw [List.all_map]; rfl
    have e1 : EvD K (tCall (spSm K isName) [] E0 (tCons (tOp (rIxL K) (tVar 0) (tC (.int 0))) tNil)) (rel (Γs (plW ps) (nuW ps) s)) (· = .bool (nameS n)) := ev_call1 [.str n] (elc (h0 rfl) el_nil) ⟨_, rfl, smallS (by have := (hw n List.mem_cons_self).1; omega)⟩ rfl
    have hiv : ∀ {w : Str}, w ∈ n :: ps → (wholeS w = true ∨ numberS w = true) → ∀ {Γ : List Sl}, Γ[5]? = some (.dat (.str w)) → EvD K (tCB (fun xs H Q => ∃ a n, xs = [.str a] ∧ PySem.intText? a = some n ∧ a.length ≤ 640 ∧ Q (.int n) H) (tCons (tVar 5) tNil)) Γ (· = .int (iv w)) := fun hm hn Γ h => ev_intStr (wOk.int hw hm hn) (hw _ hm).1 (ev_var h)
    have tP : EvB K (tB (tCB (rAll K) (tCons (tLc (iSeq K (tVar 2)) (gName 5) tYes (tAndV (tCall (spStr K wholeS) [] E0 (tCons (tVar 5) tNil)) (tOp (rI0 fun i j => .bl (decide (i < j))) (tCB (fun xs H Q => ∃ a n, xs = [.str a] ∧ PySem.intText? a = some n ∧ a.length ≤ 640 ∧ Q (.int n) H) (tCons (tVar 5) tNil)) (tVar 1))) [5]) tNil))) (rel (Γs (plW ps) (nuW ps) s)) (· = (plW ps).all (plOk i)) := by
      refine eb_val (ev_eq (ev_allF (f := fP) (ds := strsD (plW ps)) (N := fun d => (rel (Γs (plW ps) (nuW ps) s)).set 5 (.dat d)) (by rw [hsl]; omega) (el_list (ev_var rfl)) (tg_name (by show 5 < 6; omega)) fun d hd => ?_) (congrArg PyData.bool allP))
      obtain ⟨w, hwm, rfl⟩ := List.mem_map.mp hd
      have hwm' := hpm w hwm
      exact ev_and (b1 := wholeS w) (b2 := decide (iv w < i)) (ev_call1 [.str w] (elc (ev_var rfl) el_nil) ⟨_, rfl, by have := (hw w hwm').1; omega⟩ rfl) fun hwh => ev_opC1 (a := iv w) (b := i) (g' := fun i j => .bool (decide (i < j))) (fun _ _ _ => .bl _) (hiv hwm' (.inl hwh) rfl) (ev_var rfl)
    refine b_seq (M' := fun Γ' => nameS n = true ∧ (plW ps).all (plOk i) = true ∧ Γ' = Γs (plW ps) (nuW ps) s) (b_if (b := !nameS n || !(plW ps).all (plOk i)) (eb_or (b1 := !nameS n) (b2 := !(plW ps).all (plOk i)) (eb_not (eb_val e1)) fun _ => eb_not tP) (fun hb => ?_) fun hb => b_next ?_) fun Γ' ⟨hn1, hp1, e⟩ => ?_
    · refine ret (ev_eq (ev_c fun _ => .non) ?_)
      unfold readStep
      rw [if_neg (by rw [hno]; decide), if_pos hb]
    · rw [Bool.or_eq_false_iff, Bool.not_eq_false', Bool.not_eq_false'] at hb
      exact ⟨hb.1, hb.2, rfl⟩
    subst e
    have tN : EvB K (tB (tCB (rAll K) (tCons (tLc (iSeq K (tVar 3)) (gName 5) tYes (tCall (spStr K numberS) [] E0 (tCons (tVar 5) tNil)) [5]) tNil))) (rel (Γs (plW ps) (nuW ps) s)) (· = (nuW ps).all numberS) := by
      refine eb_val (ev_eq (ev_allF (f := fN) (ds := strsD (nuW ps)) (N := fun d => (rel (Γs (plW ps) (nuW ps) s)).set 5 (.dat d)) (by rw [hsl]; omega) (el_list (ev_var rfl)) (tg_name (by show 5 < 6; omega)) fun d hd => ?_) (congrArg PyData.bool allN))
      obtain ⟨w, hwm, rfl⟩ := List.mem_map.mp hd
      exact ev_call1 [.str w] (elc (ev_var rfl) el_nil) ⟨_, rfl, by have := (hw w (hnm w hwm)).1; omega⟩ rfl
    have hcond2 : ¬ ((!nameS n || !(plW ps).all (plOk i)) = true) := by rw [hn1, hp1]; decide
    refine b_seq (M' := fun Γ' => (nuW ps).all numberS = true ∧ Γ' = Γs (plW ps) (nuW ps) s) (b_if (b := !(nuW ps).all numberS) (eb_not tN) (fun hb => ?_) fun hb => b_next ⟨by rw [Bool.not_eq_false'] at hb; exact hb, rfl⟩) fun Γ' ⟨hn2, e⟩ => ?_
    · refine ret (ev_eq (ev_c fun _ => .non) ?_)
      unfold readStep
      rw [if_neg (by rw [hno]; decide), if_neg hcond2, if_pos hb]
    subst e
    have comp : ∀ (j : Nat) (xs : List Str), (rel (Γs (plW ps) (nuW ps) s))[j]? = some (.dat (.list (strsD xs))) → xs.length ≤ 10000 → (∀ w ∈ xs, w ∈ n :: ps ∧ (wholeS w = true ∨ numberS w = true)) → EvD K (tLc (iSeq K (tVar j)) (gName 5) tYes (tCB (fun xs H Q => ∃ a n, xs = [.str a] ∧ PySem.intText? a = some n ∧ a.length ≤ 640 ∧ Q (.int n) H) (tCons (tVar 5) tNil)) [5]) (rel (Γs (plW ps) (nuW ps) s)) (· = .list (xs.map fun w => .int (iv w))) := fun j xs hj hl hx => by
      refine ev_lcI (vs := [5]) (es := xs.map fun w => .int (iv w)) (N := fun d => (rel (Γs (plW ps) (nuW ps) s)).set 5 (.dat d)) (Pi := fun i d => (strsD xs)[i]? = some d) (by rw [List.length_map]; omega) (by rw [show (xs.map fun w => PyData.int (iv w)).length = (strsD xs).length by rw [List.length_map, hsl]]; exact (e0_seq (el_list (ev_var hj))).toI) (fun q => tg_name (by show 5 < 6; omega)) fun q d e pd he => ?_
      obtain ⟨w, hwm, rfl⟩ := map_get pd
      obtain ⟨w', hw', rfl⟩ := map_get he
      rw [hwm] at hw'
      cases hw'
      have := hx w (List.mem_of_getElem? hwm)
      exact hiv this.1 this.2 rfl
    refine ret (ev_eq (ev_tup3' (h0 rfl) (ev_tupleOf (el_list (comp 2 (plW ps) rfl hpl1 fun w hm => ⟨hpm w hm, .inl ?_⟩))) (ev_tupleOf (el_list (comp 3 (nuW ps) rfl hnl1 fun w hm => ⟨hnm w hm, .inr (List.all_eq_true.mp hn2 w hm)⟩)))) ?_)
    · have := List.all_eq_true.mp hp1 w hm
      unfold plOk at this
      rw [Bool.and_eq_true] at this
      exact this.1
    · unfold readStep
      rw [if_neg (by rw [hno]; decide), if_neg hcond2, if_neg (by rw [hn2]; decide)]
end
end K94

set_option Elab.async false
set_option linter.all false
set_option maxRecDepth 100000
set_option maxHeartbeats 4000000
namespace K94
open PySem PySem.Spec PyProof.Rows L2 TL
/-! ### a good step is read back -/
theorem strI_hash (i : Int) : strI i ≠ "#" := fun z => by
  have h : (35 : Nat) ∈ tl (strI i) := by rw [z, tl_hash]; exact List.mem_cons_self
  rw [tl_strI] at h
  rcases intL_mem h with h | h <;> omega
theorem hash_app : ∀ {l : List Str} (r : List Str), ("#" : Str) ∉ l → hashAt (l ++ ("#" : Str) :: r) = l.length
  | [], r, _ => by
    show (if ("#" : Str) = "#" then 0 else _) = 0
    rw [if_pos rfl]
  | w :: l, r, h => by
    show (if w = "#" then 0 else hashAt (l ++ ("#" : Str) :: r) + 1) = l.length + 1
    rw [if_neg (fun z => h (by rw [z]; exact List.mem_cons_self)), hash_app r fun z => h (List.mem_cons_of_mem _ z)]
theorem pls_hash (pl : List Nat) : ("#" : Str) ∉ pl.map fun p => strI (p : Nat) := fun h => by
  obtain ⟨p, _, e⟩ := List.mem_map.mp h
  exact strI_hash _ e
def Stp.P (x : Stp) : List Str := (x.pl.map fun p => strI (p : Nat)) ++ numW x.nu
theorem Stp.W_eq (x : Stp) : x.W = x.name :: x.P := rfl
theorem Stp.cut (x : Stp) : plW x.P = (x.pl.map fun p => strI (p : Nat)) ∧ nuW x.P = x.nu.map strI := by
  unfold Stp.P numW
  by_cases h : x.nu = []
  · rw [if_pos h, List.append_nil, h]
    have hn := pls_hash x.pl
    exact ⟨if_neg hn, if_neg hn⟩
  · rw [if_neg h]
    have hm : ("#" : Str) ∈ (x.pl.map fun p => strI (p : Nat)) ++ ("#" : Str) :: x.nu.map strI := List.mem_append_right _ List.mem_cons_self
    have ha := hash_app (x.nu.map strI) (pls_hash x.pl)
    refine ⟨?_, ?_⟩
    · unfold plW
      rw [if_pos hm, ha, List.take_left]
    · unfold nuW
      rw [if_pos hm, ha, List.drop_append, List.drop_eq_nil_of_le (by omega), List.nil_append]
      simp
theorem Stp.hash_iff (x : Stp) : (decide (("#" : Str) ∈ x.P) && (nuW x.P).isEmpty) = false := by
  by_cases h : x.nu = []
  · have : ("#" : Str) ∉ x.P := by
      unfold Stp.P numW
      rw [if_pos h, List.append_nil]
      exact pls_hash x.pl
    rw [decide_eq_false this]
    rfl
  · rw [(Stp.cut x).2]
    cases hn : x.nu with
    | nil => exact absurd hn h
    | cons a b => exact Bool.and_false _
theorem iv_strI {i : Int} (h : numOk i) : iv (strI i) = i := by
  unfold iv
  rw [int_back h]
  rfl
theorem numOk_nat {p : Nat} (h : p < 10 ^ 200) : numOk (p : Nat) := by
  unfold numOk
  rw [Int.natAbs_natCast]
  exact h
theorem Stp.read {x : Stp} {i : Nat} (o : x.ok i) : readStep x.name x.P (i : Nat) = x.D := by
  obtain ⟨h1, h2, h3, h4, h5, h6, h7⟩ := o
  unfold readStep
  rw [if_neg (by rw [Stp.hash_iff]; decide), (Stp.cut x).1, (Stp.cut x).2]
  have e1 : ((x.pl.map fun p => strI (p : Nat)).all (plOk (i : Nat))) = true := List.all_eq_true.mpr fun w hw => by
    obtain ⟨p, hp, rfl⟩ := List.mem_map.mp hw
    have := h3 p hp
    unfold plOk
    rw [wholeS_strI, iv_strI (numOk_nat (h6 p hp)), decide_eq_true (by omega)]
    rfl
  have e2 : ((x.nu.map strI).all numberS) = true := List.all_eq_true.mpr fun w hw => by
    obtain ⟨p, hp, rfl⟩ := List.mem_map.mp hw
    exact numberS_strI p
  rw [h1, e1, e2, if_neg (by decide), if_neg (by decide)]
  show _ = PyData.tuple [.str x.name, .tuple (natsD x.pl), intsT x.nu]
  unfold natsD intsT
  rw [List.map_map, List.map_map]
  have e3 : x.pl.map ((fun w => PyData.int (iv w)) ∘ fun p => strI (p : Nat)) = x.pl.map fun p => .int (p : Nat) := List.map_congr_left fun p hp => congrArg PyData.int (iv_strI (numOk_nat (h6 p hp)))
  have e4 : x.nu.map ((fun w => PyData.int (iv w)) ∘ strI) = x.nu.map PyData.int := List.map_congr_left fun p hp => congrArg PyData.int (iv_strI (h7 p hp))
  rw [e3, e4]
theorem low_whole {s : Str} (h : lowS s) (h1 : 1 ≤ s.length) : wholeS s = false ∧ numberS s = false := by
  obtain ⟨c, l, e⟩ := len_pos h1
  have hc := h c (by rw [e]; exact List.mem_cons_self)
  have hw : wholeS s = false := by
    unfold wholeS
    rw [e]
    show (_ && ((isFig c && _) && _)) = false
    have : isFig c = false := by
      cases hf : isFig c with
      | false => rfl
      | true => have := isFig_iff.mp hf; omega
    rw [this, Bool.false_and, Bool.false_and, Bool.and_false]
  refine ⟨hw, ?_⟩
  unfold numberS
  rw [if_neg (fun z => by
    obtain ⟨r, z⟩ := starts_iff.mp z
    rw [e] at z
    have := (List.cons.inj z).1
    omega)]
  exact hw
theorem wOk_of {ws : List Str} (h : ∀ w ∈ ws, w.length ≤ 640 ∧ ((wholeS w = false ∧ numberS w = false) ∨ (PySem.intText? w).isSome = true)) : wOk ws := fun w hw => by
  obtain ⟨h1, h2⟩ := h w hw
  refine ⟨h1, fun z => ?_⟩
  rcases h2 with ⟨e1, e2⟩ | h2
  · rw [e1, e2] at z
    rcases z with z | z <;> cases z
  · exact h2
theorem hash_whole : wholeS "#" = false ∧ numberS "#" = false := by decide +kernel
theorem ask_whole : wholeS "?" = false ∧ numberS "?" = false := by decide +kernel
theorem Ci.wOk {c : Ci} {i : Nat} (o : c.ok i) : wOk c.W := wOk_of fun w hw => by
  have hl := (Ci.words o w hw).2
  refine ⟨by omega, ?_⟩
  cases c with
  | s x =>
    obtain ⟨h1, h2, h3, h4, h5, h6, h7⟩ := o
    have hw : w ∈ x.name :: (x.pl.map fun p => strI (p : Nat)) ++ numW x.nu := hw
    rcases List.mem_append.mp hw with hw | hw
    · rcases List.mem_cons.mp hw with e | hw
      · rw [e]; exact .inl (low_whole h2 (nameS_len h1).1)
      · obtain ⟨p, hp, e⟩ := List.mem_map.mp hw
        rw [← e, int_back (numOk_nat (h6 p hp))]; exact .inr rfl
    · rcases mem_numW hw with e | ⟨n, hn, e⟩
      · rw [e]; exact .inl hash_whole
      · rw [e, int_back (h7 n hn)]; exact .inr rfl
  | h k =>
    have hw : w ∈ [("?" : Str), k] := hw
    rcases List.mem_cons.mp hw with e | hw
    · rw [e]; exact .inl ask_whole
    · rw [List.mem_singleton.mp hw]; exact .inl (low_whole o.2 (nameS_len o.1).1)
theorem low_ask {s : Str} (h : lowS s) : s ≠ "?" := fun z => by
  have := h 63 (by rw [z, tl_ask]; exact List.mem_cons_self)
  omega
/-! ### what is no step -/
def rejB (n : Str) (ps : List Str) : Bool := (decide (("#" : Str) ∈ ps) && (nuW ps).isEmpty) || (!nameS n || ((plW ps).any (fun w => !wholeS w) || !(nuW ps).all numberS))
theorem rejB_none {n : Str} {ps : List Str} (h : rejB n ps = true) (i : Int) : readStep n ps i = .none := by
  unfold readStep
  by_cases h1 : (decide (("#" : Str) ∈ ps) && (nuW ps).isEmpty) = true
  · rw [if_pos h1]
  rw [if_neg h1]
  by_cases h2 : (!nameS n || !(plW ps).all (plOk i)) = true
  · rw [if_pos h2]
  rw [if_neg h2]
  rw [Bool.not_eq_true, Bool.or_eq_false_iff] at h2
  unfold rejB at h
  rw [Bool.not_eq_true] at h1
  rw [h1, h2.1, Bool.false_or, Bool.false_or] at h
  have h3 : (plW ps).any (fun w => !wholeS w) = false := by
    have h22 : (plW ps).all (plOk i) = true := by have := h2.2; rw [Bool.not_eq_false'] at this; exact this
    refine List.any_eq_false.mpr fun w hw => ?_
    have := List.all_eq_true.mp h22 w hw
    unfold plOk at this
    rw [Bool.and_eq_true] at this
    rw [this.1]
    decide
  rw [h3, Bool.false_or] at h
  rw [if_pos h]
/-- a step is read that is as far as it stands -/
theorem read_far {n : Str} {i : Nat} (h : i < 10 ^ 200) : readStep n [strI (i : Nat)] (i : Nat) = .none := by
  have hm : ("#" : Str) ∉ [strI (i : Nat)] := fun z => strI_hash _ (List.mem_singleton.mp z).symm
  have ep : plW [strI (i : Nat)] = [strI (i : Nat)] := if_neg hm
  unfold readStep
  rw [if_neg (by rw [decide_eq_false hm, Bool.false_and]; decide), ep]
  have : ([strI (i : Nat)].all (plOk (i : Nat))) = false := by
    show (plOk (i : Nat) (strI (i : Nat)) && true) = false
    unfold plOk
    rw [iv_strI (numOk_nat h), decide_eq_false (by omega), Bool.and_false]
    rfl
  rw [this, Bool.not_false, Bool.or_true, if_pos rfl]
def Rej (cs : List Ci) (p : Str) : Prop := p.length ≤ 100000 ∧ ∃ n ps, Txt.split p " " = n :: ps ∧ wOk (n :: ps) ∧ ps.length ≤ 10000 ∧
  ((n = "?" ∧ (readHole (n :: ps) = .none ∨ hasH cs = true)) ∨ (n ≠ "?" ∧ (readStep n ps (cs.length : Nat) = .none ∨ cs.length = 2000)))
def oddB (p : Str) : Bool := okPB (tl p) && (decide (p.length ≤ 1000) && match Txt.split p " " with
  | [] => false
  | n :: ps => (n :: ps).all (fun w => decide (w.length ≤ 640) && ((!wholeS w && !numberS w) || (PySem.intText? w).isSome)) && (decide (ps.length ≤ 1000) && if n = "?" then isNonD (readHole (n :: ps)) else rejB n ps))
theorem oddB_rej {p : Str} (h : oddB p = true) (cs : List Ci) : Rej cs p ∧ okPB (tl p) = true := by
  unfold oddB at h
  rw [Bool.and_eq_true, Bool.and_eq_true, decide_eq_true_eq] at h
  obtain ⟨h1, h2, h3⟩ := h
  refine ⟨⟨by omega, ?_⟩, h1⟩
  cases hs : Txt.split p " " with
  | nil => rw [hs] at h3; cases h3
  | cons n ps =>
    rw [hs] at h3
    rw [Bool.and_eq_true, Bool.and_eq_true, decide_eq_true_eq] at h3
    obtain ⟨h4, h5, h6⟩ := h3
    refine ⟨n, ps, rfl, wOk_of fun w hw => ?_, by omega, ?_⟩
    · have := List.all_eq_true.mp h4 w hw
      rw [Bool.and_eq_true, decide_eq_true_eq, Bool.or_eq_true, Bool.and_eq_true, Bool.not_eq_true', Bool.not_eq_true'] at this
      exact this
    · by_cases e : n = "?"
      · rw [if_pos e] at h6
        refine .inl ⟨e, .inl ?_⟩
        cases hr : readHole (n :: ps) with
        | none => rfl
        | _ => rw [hr] at h6; cases h6
      · rw [if_neg e] at h6
        exact .inr ⟨e, .inl (rejB_none h6 _)⟩
end K94

set_option Elab.async false
set_option linter.all false
set_option maxRecDepth 100000
set_option maxHeartbeats 4000000
namespace K94
open PySem PySem.Spec PyProof.Rows L2 TL
/-! ### trees that are read -/
abbrev s_read_tree : Stmt := topS 24
abbrev N_read_tree : List Str := ["text", "steps", "has_hole", "index", "part", "words", "is_hole", "step"]
theorem sc_read_tree : FnScope N_read_tree ["text"] (defScope s_read_tree) := ⟨rfl, rfl, rfl, by decide +kernel, rfl, by decide +kernel, by decide +kernel⟩
structure TI (K : PySem.W.Frag) (mg : Str → Option Value) extends TG K mg where
  read_tree : Df K mg "read_tree" s_read_tree ["text"]
structure Rc where
  d : PyData
  o : Option Int
  cs : List Ci
def GoodTx (d : PyData) (cs : List Ci) : Prop := ∃ t, d = .str t ∧ t.length ≤ 15000000 ∧ Txt.split t "; " = cs.map Ci.T ∧ CsOk cs
def BadTx (d : PyData) (i : Int) : Prop := ((∀ t, d ≠ .str t) ∧ i = -1) ∨
  ∃ t cs p rest, d = .str t ∧ t.length ≤ 15000000 ∧ Txt.split t "; " = cs.map Ci.T ++ p :: rest ∧ CsOk cs ∧ i = (cs.length : Nat) ∧ rest.length ≤ 3000 ∧ Rej cs p
abbrev spRT (K : PySem.W.Frag) (Cx : Addr) : L2.Sp := spRz K (fun (c : Rc) ss => ss = [.dat c.d] ∧ ((c.o = none ∧ GoodTx c.d c.cs) ∨ ∃ i, c.o = some i ∧ BadTx c.d i)) (fun c d => c.o = none ∧ d = .list (c.cs.map Ci.D)) fun c => xInt Cx "row" c.o
section
variable {P : Program} {w : World} {K : PySem.W.Frag} {mg : Str → Option Value} {base : Heap}
theorem ok_read_tree (T : TI K mg) : FnOk P w K mg base (L2.CX P w) 4 T.read_tree.f T.read_tree.fd ["text"] (spRT K T.NoText.C) := by
  have G_read_hole : FnOk P w K mg base CX0 2 T.read_hole.f T.read_hole.fd ["words"] (spP K rHole) := ok_read_hole T.toTG
  have G_read_step : FnOk P w K mg base CX0 3 T.read_step.f T.read_step.fd ["words", "index"] (spP K rStep) := ok_read_step T.toTG
  refine T.read_tree.F.okX sc_read_tree (fun vs H Q E ⟨G, ss, c, iv, a, ⟨hp, _⟩, k⟩ => a.length.trans (by rw [hp]; rfl)) (fun cdv A outer s0 H vs Q E hr ⟨G, sl, ⟨x, o, cs⟩, inv, a, ⟨hp, hb⟩, k, kx⟩ => ?_)
  have hp : sl = [.dat x] := hp
  have hb : (o = none ∧ GoodTx x cs) ∨ ∃ i, o = some i ∧ BadTx x i := hb
  have kx : ExGr K G E (xInt T.NoText.C "row" o) H := kx
  have k : ∀ v d H', G.inv H' → G.le H H' → o = none ∧ d = .list (cs.map Ci.D) → Dq K (G.view H') v d → Q v H' := k
  subst hp
  obtain ⟨v1, rfl⟩ := one a.length
  obtain ⟨t1, hMOST_STEPS⟩ := T.MOST_STEPS
  obtain ⟨t2, hHOLE_WORD⟩ := T.HOLE_WORD
  obtain ⟨t3, hBETWEEN_STEPS⟩ := T.BETWEEN_STEPS
  refine ⟨_, (pss_cons (ps_if (pt_not (pt_val (pe_callB call_isi (by rfl) T.isinstance (by decide +kernel) (pa_cons (pv 0) (pa_cons (pe_bltn (v := .ty "str") (by rfl) T.str (by decide +kernel) rfl) pa_nil))))) (pss_one (ps_raise rfl (takes_of rfl rfl rfl rfl) (pmk_oex T.NoText.o T.NoText.i T.NoText.t (ok_NoText T.NoText) (hr.mono (by decide)) T.NoText.b .nil pass0 rfl T.NoText.m (pa_cons (pe_un un_neg pe_int) pa_nil)))) pss_nil)
    (pss_cons (ps_set (i := 1) sc_read_tree.nd rfl (by first | exact Or.inl rfl | exact Or.inr rfl) (pe_lst pa_nil))
    (pss_cons (ps_set (i := 2) sc_read_tree.nd rfl (by first | exact Or.inl rfl | exact Or.inr rfl) pe_bl)
    (pss_cons (ps_for (passes_of rfl) rfl (pi_enumA (by rfl) T.enumerate (pa_cons (pe_split (pv 0) (pe_glob (v := .str "; ") rfl hBETWEEN_STEPS ⟨_, rfl⟩)) pa_nil)) (pg_tup rfl (pgs_cons (pg_name (i := 3) sc_read_tree.nd rfl (by first | exact Or.inl rfl | exact Or.inr rfl)) (pgs_cons (pg_name (i := 4) sc_read_tree.nd rfl (by first | exact Or.inl rfl | exact Or.inr rfl)) pgs_nil)))
    (pss_cons (ps_set (i := 5) sc_read_tree.nd rfl (by first | exact Or.inl rfl | exact Or.inr rfl) (pe_split (pv 4) pe_str))
    (pss_cons (ps_set (i := 6) sc_read_tree.nd rfl (by first | exact Or.inl rfl | exact Or.inr rfl) (pe_cmpR op_eq (pe_ix ix_list (pv 5) pe_int (fun _ _ => rfl)) (pe_glob (v := .str "?") rfl hHOLE_WORD ⟨_, rfl⟩) (nomark _)))
    (pss_cons (ps_set (i := 7) sc_read_tree.nd rfl (by first | exact Or.inl rfl | exact Or.inr rfl) (pe_ifExp (pt_val (pv 6)) (pe_call G_read_hole (hr.mono (by decide)) rfl T.read_hole.g T.read_hole.F.kp T.read_hole.b .nil pass0 (pa_cons (pv 5) pa_nil)) (pe_call G_read_step (hr.mono (by decide)) rfl T.read_step.g T.read_step.F.kp T.read_step.b .nil pass0 (pa_cons (pv 5) (pa_cons (pv 3) pa_nil)))))
    (pss_cons (ps_if (PW.pt (pw_or (pt_cmpR op_isN (pv 7) pe_non (nomark _)) (pw_or (pt_cmpR op_eq (pv 3) (pe_glob (v := .int 2000) rfl hMOST_STEPS ⟨_, rfl⟩) (nomark _)) (pw_or1 (PW.pt (pw_and (pt_val (pv 6)) (pw_and1 (pt_val (pv 2))))))))) (pss_one (ps_raise rfl (takes_of rfl rfl rfl rfl) (pmk_oex T.NoText.o T.NoText.i T.NoText.t (ok_NoText T.NoText) (hr.mono (by decide)) T.NoText.b .nil pass0 rfl T.NoText.m (pa_cons (pv 3) pa_nil)))) pss_nil)
    (pss_cons (ps_set (i := 2) sc_read_tree.nd rfl (by first | exact Or.inl rfl | exact Or.inr rfl) (pe_or (pv 2) (pe_one (pv 6))))
    (pss_one (ps_expr (pe_bm PySem.F.plainAttrs_list PySem.F.slot_list_append PySem.F.type_list_append mt_append (pv 1) (pa_cons (pv 7) pa_nil))))))))))
    (pss_one (ps_ret (pv 1))))))), ?_⟩
  refine doneBG (P := fun d => o = none ∧ d = .list (cs.map Ci.D)) 7 rfl rfl ?_ inv a k kx
  obtain ⟨hw, rfl⟩ | ⟨t, c1, tl', rfl, ht, hspl, hcs, htl⟩ : ((∀ t, x ≠ .str t) ∧ o = some (-1)) ∨ ∃ t c1, ∃ tl' : List Str, x = .str t ∧ t.length ≤ 15000000 ∧ Txt.split t "; " = c1.map Ci.T ++ tl' ∧ CsOk c1 ∧
      ((∃ p rest, tl' = p :: rest ∧ o = some ((c1.length : Nat) : Int) ∧ rest.length ≤ 3000 ∧ Rej c1 p) ∨ (tl' = [] ∧ o = none ∧ c1 = cs)) := by
    rcases hb with ⟨ho, t, e1, e2, e3, e4⟩ | ⟨i, ho, ⟨e1, e2⟩ | ⟨t, c1, p, rest, e1, e2, e3, e4, e5, e6, e7⟩⟩
    · exact .inr ⟨t, cs, [], e1, e2, by rw [List.append_nil]; exact e3, e4, .inr ⟨rfl, ho, rfl⟩⟩
    · exact .inl ⟨e1, by rw [ho, e2]⟩
    · exact .inr ⟨t, c1, p :: rest, e1, e2, e3, e4, .inl ⟨p, rest, rfl, by rw [ho, e5], e6, e7⟩⟩
  · have hk : kitB (tyD x) "str" = some false := by cases x <;> first | exact kit_str _ | exact absurd rfl (hw _)
    exact bg_seq (M' := NoB) (bg_if (b := true) (eb_not (b := false) (eb_val (ev_isi (ev_var rfl) hk))) (fun _ => bg_raise1 ((elc (ev_neg ev_int) el_nil).imp fun ds e => ⟨_, e, _, rfl, rfl, rfl⟩)) fun e => nomatch e) fun _ z => z.elim
  have hcl := hcs.len
  have hlL : (c1.map Ci.T ++ tl').length = c1.length + tl'.length := by rw [List.length_append, List.length_map]
  refine bg_pass (eb_not (b := true) (eb_val (ev_isi (ev_var rfl) (kit_str _)))) ?_
  refine bg_seq (M' := (· = [.dat (.str t), .olst [], .any, .any, .any, .any, .any, .any])) (bg_of (b_setN1 (i := 1) (PN := (· = [])) (by show 1 < 8; omega) (en_lst el_nil) fun ds e => by subst e; rfl)) fun Γ' e => ?_
  subst e
  let Γs : Nat → List Sl := fun i => [.dat (.str t), .olst ((c1.take i).map Ci.D), .dat (.bool (hasH (c1.take i))), .any, .any, .any, .any, .any]
  refine bg_setD (i := 2) (P := (· = .bool false)) (by show 2 < 8; omega) ev_bl fun d' e' => ?_
  subst e'
  show BkG K E _ (Γs 0) _ _ _ _ _
  have hsd : strsD (Txt.split t "; ") = strsD (c1.map Ci.T ++ tl') := by rw [hspl]
  refine bg_seq (M' := fun Γ' => tl' = [] ∧ Γ' = Γs c1.length) (bg_for (I := fun i Γ' => i ≤ c1.length ∧ Γ' = Γs i) (n := (strsD (c1.map Ci.T ++ tl')).length) (Pi := fun i d => ∃ a, (strsD (c1.map Ci.T ++ tl'))[i]? = some a ∧ d = .tuple [.int i, a]) (N := fun i Γ' d => setSs Γ' [3, 4] ((unT d).map .dat)) (e0_enum ((elc (ev_eq (ev_split (a := t) (b := "; ") (by decide +kernel) (by omega) (ev_var rfl) (ev_c fun _ => .str _)) (congrArg PyData.list hsd)) el_nil).imp fun zs e => .inl e)) ⟨Nat.zero_le _, rfl⟩ (fun i Γ' hi ⟨_, e⟩ => by subst e; exact (tgb_tup [3, 4] (by intro j hj; simp at hj; show j < 8; omega)).impP fun d ⟨a, _, e⟩ => ⟨_, e, rfl⟩) (fun i Γ' d hi ⟨hle, e⟩ pd => ?_) fun Γ' ⟨hle, e⟩ => ?_) fun Γ' ⟨htl0, e⟩ => ?_
  · subst e
    obtain ⟨z, hz, rfl⟩ := pd
    obtain ⟨p, hpz, rfl⟩ := map_get hz
    -- the words of this part
    obtain ⟨n, ps, hsp, hwk, hpl, hlen, hcase⟩ : ∃ n ps, Txt.split p " " = n :: ps ∧ wOk (n :: ps) ∧ ps.length ≤ 10000 ∧ p.length ≤ 100000 ∧
        ((∃ c, c1[i]? = some c ∧ i < c1.length ∧ n :: ps = c.W) ∨ (i = c1.length ∧ o = some ((c1.length : Nat) : Int) ∧ ((n = "?" ∧ (readHole (n :: ps) = .none ∨ hasH c1 = true)) ∨ (n ≠ "?" ∧ (readStep n ps (c1.length : Nat) = .none ∨ c1.length = 2000))))) := by
      by_cases hlt : i < c1.length
      · rw [List.getElem?_append_left (by rw [List.length_map]; exact hlt)] at hpz
        obtain ⟨c, hc, rfl⟩ := map_get hpz
        have hok := hcs.ok i c hc
        cases hW : c.W with
        | nil => exact absurd hW c.W_ne
        | cons n ps =>
          refine ⟨n, ps, by rw [Ci.split hok, hW], by rw [← hW]; exact Ci.wOk hok, ?_, by have := Ci.T_len hok; omega, .inl ⟨c, hc, hlt, hW.symm⟩⟩
          have := Ci.W_len hok
          rw [hW, List.length_cons] at this
          omega
      · have hi : i = c1.length := by omega
        rw [hi, List.getElem?_append_right (by rw [List.length_map]; exact Nat.le_refl _), List.length_map, Nat.sub_self] at hpz
        rcases htl with ⟨q, rest, e1, e2, e3, e4, n, ps, e5, e6, e7, e8⟩ | ⟨e1, _⟩
        · rw [e1] at hpz
          cases hpz
          exact ⟨n, ps, e5, e6, e7, e4, .inr ⟨hi, e2, e8⟩⟩
        · rw [e1] at hpz
          cases hpz
    let own : Sl := .olst ((c1.take i).map Ci.D)
    let hh : Bool := hasH (c1.take i)
    let Γ1 : Sl → Sl → Sl → List Sl := fun a b c => [.dat (.str t), own, .dat (.bool hh), .dat (.int (i : Nat)), .dat (.str p), a, b, c]
    show BkG K E _ (Γ1 .any .any .any) _ _ _ _ _
    have hi2 : i ≤ 2000 := by omega
    refine bg_setD (i := 5) (P := (· = .list (strsD (n :: ps)))) (by show 5 < 8; omega) (ev_eq (ev_split (a := p) (b := " ") (by decide +kernel) (by omega) (ev_var rfl) ev_str) (by rw [hsp])) fun d' e' => ?_
    subst e'
    refine bg_setD (i := 6) (P := (· = .bool (decide (n = "?")))) (by show 6 < 8; omega) (ev_eqStr (a := n) (b := "?") (ev_ixL (n := 0) (ds := strsD (n :: ps)) (ev_var rfl) ev_int rfl) (ev_c fun _ => .str _)) fun d' e' => ?_
    subst e'
    let d7 : PyData := if n = "?" then readHole (n :: ps) else readStep n ps (i : Nat)
    refine bg_setD (i := 7) (P := (· = d7)) (by show 7 < 8; omega) (ev_ifE (b := decide (n = "?")) (eb_val (ev_var rfl)) (fun e => ?_) fun e => ?_) fun d' e' => ?_
    · exact ev_eq (ev_callP [.list (strsD (n :: ps))] (elc (ev_var rfl) el_nil) ⟨n :: ps, rfl, fun w hw => by have := (hwk w hw).1; omega, rfl⟩) (if_pos (of_decide_eq_true e)).symm
    · exact ev_eq (ev_callP [.list (strsD (n :: ps)), .int (i : Nat)] (elc (ev_var rfl) (elc (ev_var rfl) el_nil)) ⟨n, ps, _, rfl, hwk, hpl, rfl⟩) (if_neg (of_decide_eq_false e)).symm
    subst e'
    let Γ2 : List Sl := Γ1 (.dat (.list (strsD (n :: ps)))) (.dat (.bool (decide (n = "?")))) (.dat d7)
    show BkG K E _ Γ2 _ _ _ _ _
    have htest : EvB K (tOr (tTest (tOp (fun x y H Q => y = .non ∧ Q (.bl (decide (x = .non))) H) (tVar 7) (tC .non))) (tOr (tTest (tOp rEq (tVar 3) (tC (.int 2000)))) (tAnd (tB (tVar 6)) (tB (tVar 2))))) (rel Γ2) (· = (isNonD d7 || (decide (((i : Nat) : Int) = 2000) || (decide (n = "?") && hh)))) := eb_or (eb_test (ev_isNon (ev_var rfl))) fun _ => eb_or (eb_test (ev_eqI (ev_var rfl) (ev_c fun _ => .int _))) fun _ => eb_and (eb_val (ev_var rfl)) fun _ => eb_val (ev_var rfl)
    rcases hcase with ⟨c, hc, hlt, hW⟩ | ⟨hi, ho, hrej⟩
    · have hok := hcs.ok i c hc
      have e7 : d7 = c.D := by
        cases c with
        | s q =>
          have hW : n :: ps = q.name :: q.P := hW
          injection hW with en ep
          have hn : n ≠ "?" := by rw [en]; exact low_ask hok.2.1
          show (if n = "?" then _ else _) = _
          rw [if_neg hn, en, ep]
          exact Stp.read hok
        | h kk =>
          have hW : n :: ps = [("?" : Str), kk] := hW
          show (if n = "?" then _ else _) = _
          rw [if_pos (List.cons.inj hW).1, hW]
          show (if nameS kk = true then _ else _) = _
          rw [if_pos hok.1]
          rfl
      have eh : decide (n = "?") = c.isH := by
        cases c with
        | s q =>
          have hW : n :: ps = q.name :: q.P := hW
          exact decide_eq_false (by rw [(List.cons.inj hW).1]; exact low_ask hok.2.1)
        | h kk =>
          have hW : n :: ps = [("?" : Str), kk] := hW
          exact decide_eq_true (List.cons.inj hW).1
      have enon : isNonD d7 = false := by rw [e7]; cases c <;> rfl
      have eboth : (decide (n = "?") && hh) = false := by
        rw [eh]
        cases c with
        | s q => rfl
        | h kk => exact hcs.one i kk hc
      refine bg_pass (htest.imp fun b e => by rw [e, enon, eboth, decide_eq_false (by omega)]; rfl) ?_
      refine bg_setD (i := 2) (P := (· = .bool (hasH (c1.take (i + 1))))) (by show 2 < 8; omega) (ev_eq (ev_or (b1 := hh) (b2 := decide (n = "?")) (ev_var rfl) fun _ => ev_var rfl) (by rw [eh, take_snoc hc, hasH_snoc])) fun d' e' => ?_
      subst e'
      refine bg_of (b_app (j := 1) (P := (· = c.D)) (ds := (c1.take i).map Ci.D) rfl (by rw [List.length_map, List.length_take]; omega) (ev_eq (ev_var rfl) e7) fun e he => ⟨Γs (i + 1), ?_, hlt, rfl⟩)
      subst he
      have es : (c1.take (i + 1)).map Ci.D = (c1.take i).map Ci.D ++ [c.D] := by rw [take_snoc hc, List.map_append]; rfl
      show W [_, Sl.olst ((c1.take i).map Ci.D ++ [c.D]), _, _, _, _, _, _] [_, Sl.olst ((c1.take (i + 1)).map Ci.D), _, _, _, _, _, _]
      rw [es]
      (repeat (first | exact L2.W.nil | refine L2.W.any ?_ | refine L2.W.eq ?_))
    · subst hi
      have hfull : hh = hasH c1 := by show hasH (c1.take c1.length) = _; rw [List.take_length]
      refine bg_seq (M' := NoB) (bg_if (b := true) (htest.imp fun b e => ?_) (fun _ => bg_raise1 ((elc (ev_var rfl) el_nil).imp fun ds e => ⟨_, e, _, ho, rfl, rfl⟩)) fun e => nomatch e) fun _ z => z.elim
      rw [e]
      rcases hrej with ⟨hn, h | h⟩ | ⟨hn, h | h⟩
      · have : d7 = .none := (if_pos hn).trans h
        rw [this]
        rfl
      · rw [hfull, h, decide_eq_true hn, Bool.and_true, Bool.or_true, Bool.or_true]
      · have : d7 = .none := (if_neg hn).trans h
        rw [this]
        rfl
      · rw [decide_eq_true (by omega), Bool.true_or, Bool.or_true]
  · have hsl : (strsD (c1.map Ci.T ++ tl')).length = c1.length + tl'.length := by unfold strsD; rw [List.length_map, hlL]
    rw [hsl] at hle e
    rcases htl with ⟨y, rest, rfl, _⟩ | ⟨rfl, _⟩
    · rw [List.length_cons] at hle
      omega
    · exact ⟨rfl, e⟩
  · subst e
    rcases htl with ⟨y, rest, rfl, _⟩ | ⟨_, ho, rfl⟩
    · cases htl0
    have hR : ∀ d, d = .list (c1.map Ci.D) → RD (fun d => o = none ∧ d = .list (c1.map Ci.D)) (.one (.dat d)) := fun d e => ⟨d, rfl, ho, e⟩
    refine bg_ret (P := (· = .list (c1.map Ci.D))) (eg_of (ev_eq (ev_var (d := .list ((c1.take c1.length).map Ci.D)) rfl) (by rw [List.take_length]))) hR
end
end K94

set_option Elab.async false
set_option linter.all false
set_option maxRecDepth 100000
set_option maxHeartbeats 4000000
namespace K94
open PySem PySem.Spec PyProof.Rows L2 TL
section
variable {P : Program} {w : World} {K : PySem.W.Frag} {mg : Str → Option Value} {base : Heap}
/-! ### the law's draws -/
abbrev s_law_draw : Stmt := topS 28
abbrev N_law_draw : List Str := ["_law_well", "_law_many", "_law_found", "_law_number"]
theorem sc_law_draw : FnScope N_law_draw ["_law_well", "_law_many"] (defScope s_law_draw) := ⟨rfl, rfl, rfl, by decide +kernel, rfl, by decide +kernel, by decide +kernel⟩
abbrev s_law_one : Stmt := topS 29
abbrev N_law_one : List Str := ["_law_well", "_law_some"]
theorem sc_law_one : FnScope N_law_one ["_law_well", "_law_some"] (defScope s_law_one) := ⟨rfl, rfl, rfl, by decide +kernel, rfl, by decide +kernel, by decide +kernel⟩
abbrev s_law_steps : Stmt := topS 30
abbrev N_law_steps : List Str := ["_law_well", "_law_many", "_law_found", "_law_hole", "_law_at", "_law_places", "_law_some", "_law_numbers", "_law_turn"]
theorem sc_law_steps : FnScope N_law_steps ["_law_well", "_law_many"] (defScope s_law_steps) := ⟨rfl, rfl, rfl, by decide +kernel, rfl, by decide +kernel, by decide +kernel⟩
structure TL1 (K : PySem.W.Frag) (mg : Str → Option Value) extends TI K mg where
  law_draw : Df K mg "_law_draw" s_law_draw ["_law_well", "_law_many"]
  law_one : Df K mg "_law_one" s_law_one ["_law_well", "_law_some"]
  law_steps : Df K mg "_law_steps" s_law_steps ["_law_well", "_law_many"]
def Well (H : Hp) (a : Addr) (p q r : Int) : Prop := H a = some (.lst [.int p, .int q, .int r])
def spDraw0 : Sp := fun vs H Q _ => ∃ (a : Addr) (p q r m : Int), vs = [.ref a, .int m] ∧ Well H a p q r ∧ 0 < m ∧ m.natAbs < 2 ^ 100 ∧
  ∀ n p' r', 0 ≤ n → n < m → Q (.int n) (upd H a (.lst [.int p', .int q, .int r']))
theorem ok_law_draw0 (T : TL1 K mg) : FnOk P w K mg base CX0 1 T.law_draw.f T.law_draw.fd ["_law_well", "_law_many"] spDraw0 := by
  refine T.law_draw.F.ok sc_law_draw (fun vs H Q E h => ?_) (fun cdv A outer s H vs Q E hr h => ?_)
  · obtain ⟨a, p, q, r, m, rfl, _⟩ := h
    rfl
  · obtain ⟨a, p, q, r, m, rfl, hW, hm, hm2, k⟩ := h
    have hd : ∀ i : Int, CDivW i m := fun i => wide_div hm hm2 (by decide) (by decide)
    refine ⟨_, (pss_cons (ps_if (pt_cmpR op_gt (pe_ix ix_list (pv 0) pe_int (fun _ _ => rfl)) pe_int (nomark _)) (pss_cons (ps_set (i := 2) sc_law_draw.nd rfl (by first | exact Or.inl rfl | exact Or.inr rfl) (pe_op op_mod (pe_callTy call_int1 (by rfl) T.int (by decide +kernel) (pa_cons (pe_ix ix_list (pv 0) pe_int (fun _ _ => rfl)) pa_nil)) (pv 1)))
      (pss_cons (ps_asg (pe_op op_fdivW (pe_ix ix_list (pv 0) pe_int (fun _ _ => rfl)) (pv 1)) (pg_sub (pv 0) pe_int set_list))
      (pss_one (ps_ret (pv 2))))) pss_nil)
    (pss_cons (ps_asg (pe_op op_add (pe_ix ix_list (pv 0) pe_int (fun _ _ => rfl)) pe_int) (pg_sub (pv 0) pe_int set_list))
    (pss_cons (ps_set (i := 3) sc_law_draw.nd rfl (by first | exact Or.inl rfl | exact Or.inr rfl) (pe_op op_mod (pe_callTy call_int1 (by rfl) T.int (by decide +kernel) (pa_cons (pe_op op_mul (pe_op op_add (pe_op op_add (pe_ix ix_list (pv 0) pe_int (fun _ _ => rfl)) (pe_op op_mul pe_int (pe_ix ix_list (pv 0) pe_int (fun _ _ => rfl)))) pe_int) pe_int) pa_nil)) pe_int))
    (pss_cons (ps_set (i := 3) sc_law_draw.nd rfl (by first | exact Or.inl rfl | exact Or.inr rfl) (pe_op op_mod (pe_callTy call_int1 (by rfl) T.int (by decide +kernel) (pa_cons (pe_op op_mul (pv 3) (pe_op op_add (pe_op op_fdivW (pv 3) pe_int) pe_int)) pa_nil)) pe_int))
    (pss_one (ps_ret (pe_op op_mod (pe_callTy call_int1 (by rfl) T.int (by decide +kernel) (pa_cons (pe_op op_mod (pe_callTy call_int1 (by rfl) T.int (by decide +kernel) (pa_cons (pe_op op_mul (pv 3) (pe_op op_add (pe_op op_fdivW (pv 3) pe_int) pe_int)) pa_nil)) pe_int) pa_nil)) (pv 1)))))))), ?_⟩
    refine ⟨_, rfl, a, _, _, _, rfl, rfl, SqL.of hW, rfl, _, _, rfl, rfl, _, rfl, ite2 (fun c => ?_) (fun c => ?_)⟩
    · refine ⟨_, rfl, a, _, _, _, rfl, rfl, SqL.of hW, rfl, .inl ⟨_, rfl, _, rfl, _, _, rfl, rfl, hm, ?_⟩⟩
      refine ⟨_, rfl, a, _, _, _, rfl, rfl, SqL.of hW, rfl, _, rfl, _, _, rfl, rfl, hd _, _, rfl, a, _, _, _, rfl, rfl, hW, rfl, ?_⟩
      exact ⟨_, rfl, k _ _ _ (Int.emod_nonneg _ (by omega)) (Int.emod_lt_of_pos _ hm)⟩
    · refine ⟨_, rfl, a, _, _, _, rfl, rfl, SqL.of hW, rfl, _, _, rfl, rfl, _, rfl, a, _, _, _, rfl, rfl, hW, rfl, ?_⟩
      refine ⟨_, rfl, a, _, _, _, rfl, rfl, SqL.of upd_same, rfl, _, rfl, a, _, _, _, rfl, rfl, SqL.of upd_same, rfl, _, _, rfl, rfl, .inl ⟨by decide, by decide⟩, _, _, rfl, rfl, _, _, rfl, rfl, _, _, rfl, rfl, .inr ⟨by decide, by decide⟩, .inl ⟨_, rfl, _, _, rfl, rfl, (by show (0 : Int) < 2147483647; decide), ?_⟩⟩
      generalize hg : ((q + 104729 * (r + 1) + 1) * 48271 % 2147483647 : Int) = g
      have hg0 : 0 ≤ g := by omega
      have hg1 : g < 2147483647 := by omega
      have hd1 : ∀ i : Int, CDivW i 1009 := fun i => wide_div (by decide) (b := 20) (by decide) (by decide) (by decide)
      have hd2 : ∀ i : Int, CDivW i 2003 := fun i => wide_div (by decide) (b := 20) (by decide) (by decide) (by decide)
      refine ⟨_, rfl, _, rfl, _, _, rfl, rfl, hd1 _, _, _, rfl, rfl, _, _, rfl, rfl, .inl ⟨by omega, by omega⟩, .inl ⟨_, rfl, _, _, rfl, rfl, (by show (0 : Int) < 2147483647; decide), ?_⟩⟩
      generalize hg' : (g * (g / 1009 + 69621) % 2147483647 : Int) = g'
      have hg0' : 0 ≤ g' := by rw [← hg']; exact Int.emod_nonneg _ (by decide)
      have hg1' : g' < 2147483647 := by rw [← hg']; exact Int.emod_lt_of_pos _ (by decide)
      refine ⟨_, rfl, _, rfl, _, _, rfl, rfl, hd2 _, _, _, rfl, rfl, _, _, rfl, rfl, .inl ⟨by omega, by omega⟩, .inl ⟨_, rfl, _, _, rfl, rfl, (by show (0 : Int) < 2147483399; decide), .inl ⟨_, rfl, _, rfl, _, _, rfl, rfl, hm, ?_⟩⟩⟩
      exact k _ _ _ (Int.emod_nonneg _ (by omega)) (Int.emod_lt_of_pos _ hm)
def drawPre (ss : List Sl) : Prop := ∃ m : Int, ss = [.well, .dat (.int m)] ∧ 0 < m ∧ m.natAbs < 2 ^ 100
def drawPost (ss : List Sl) (d : PyData) : Prop := ∀ m : Int, ss = [.well, .dat (.int m)] → ∃ n : Nat, d = .int n ∧ (n : Int) < m
abbrev spDraw (K : PySem.W.Frag) : Sp := spF K drawPre drawPost
theorem ok_law_draw (T : TL1 K mg) : FnOk P w K mg base CX0 1 T.law_draw.f T.law_draw.fd ["_law_well", "_law_many"] (spDraw K) := (ok_law_draw0 T).imp fun vs H Q E ⟨G, ss, iv, ar, ⟨m, hp, h0, h1⟩, k⟩ => by
  subst hp
  cases ar with
  | cons a1 t1 =>
    cases t1 with
    | cons a2 t2 =>
      cases t2
      obtain ⟨a, q, rfl, hw⟩ := a1
      cases a2
      obtain ⟨p, r, ha⟩ := hw.at_ iv
      refine ⟨a, p, q, r, m, rfl, ha, h0, h1, fun n p' r' n0 n1 => ?_⟩
      have st := hw.put (p := p') (r := r') iv
      refine k (.int n) (.int n) _ st.1 (fun c u h => by rw [st.2]; exact h) (fun m' e => ?_) (.int n)
      injection e with _ e
      injection e with e
      injection e with e
      injection e with e
      exact ⟨n.toNat, by rw [Int.toNat_of_nonneg n0], by omega⟩
/-- a draw as an expression -/
theorem ev_draw {Γ : List Sl} {E : XK} {te : TE} {i : Nat} {m : Int} (hi : Γ[i]? = some .well) (h : EvD K te Γ (· = .int m)) (h0 : 0 < m) (h1 : m.natAbs < 2 ^ 100) : EvD K (tCall (spDraw K) [] E (tCons (tVar i) (tCons te tNil))) Γ (fun d => ∃ n : Nat, d = .int n ∧ (n : Int) < m) :=
  (ev_call (es_well hi (es_cons h es_nil)) fun ss ⟨r, e1, d, r2, e2, e3, e4⟩ => ⟨m, by rw [e1, e2, e3, e4], h0, h1⟩).imp fun d ⟨ss, ⟨r, e1, d', r2, e2, e3, e4⟩, hp⟩ => hp m (by rw [e1, e2, e3, e4])
/-! ### one of some values -/
abbrev spOne (K : PySem.W.Frag) : Sp := spF K (fun ss => ∃ ds : List PyData, ss = [.well, .dat (.list ds)] ∧ 0 < ds.length ∧ ds.length ≤ 1000) (fun ss d => ∀ ds : List PyData, ss = [.well, .dat (.list ds)] → d ∈ ds)
theorem ok_law_one (T : TL1 K mg) : FnOk P w K mg base CX0 2 T.law_one.f T.law_one.fd ["_law_well", "_law_some"] (spOne K) := by
  have G_law_draw : FnOk P w K mg base CX0 1 T.law_draw.f T.law_draw.fd ["_law_well", "_law_many"] (spDraw K) := ok_law_draw T
  refine T.law_one.F.ok sc_law_one (fun vs H Q E ⟨G, ss, iv, a, ⟨ds, hp, _⟩, k⟩ => a.length.trans (by rw [hp]; rfl)) (fun cdv A outer s H vs Q E hr ⟨G, ss, iv, a, ⟨ds, hp, h0, h1⟩, k⟩ => ?_)
  subst hp
  obtain ⟨v, x, rfl⟩ := two a.length
  refine ⟨_, (pss_one (ps_ret (pe_ix ix_list (pv 1) (pe_call G_law_draw (hr.mono (by decide)) rfl T.law_draw.g T.law_draw.F.kp T.law_draw.b .nil pass0 (pa_cons (pv 0) (pa_cons (pe_callB call_len_seq (by rfl) T.len (by decide +kernel) (pa_cons (pv 1) pa_nil)) pa_nil))) (fun _ _ => rfl)))), ?_⟩
  refine (ev_ixLW (Γ := [.well, .dat (.list ds)]) (ev_var rfl) ((ev_draw (i := 0) (m := ds.length) rfl (ev_len (el_list (ev_var rfl))) (by omega) ?_).imp fun d ⟨n, e1, e2⟩ => ⟨n, e1, by omega⟩)) G _ H (envOk_of 0 a) iv _ fun v d H' i' l' p' dq => k v d H' i' l' (fun ds' e => ?_) dq
  · have : (2 : Nat) ^ 100 > 1000 := by decide
    omega
  · cases e
    exact p'
/-- one of some values -/
theorem ev_one {Γ : List Sl} {E : XK} {te : TE} {i : Nat} {ds : List PyData} (hi : Γ[i]? = some .well) (h : EvD K te Γ (· = .list ds)) (h0 : 0 < ds.length) (h1 : ds.length ≤ 1000) : EvD K (tCall (spOne K) [] E (tCons (tVar i) (tCons te tNil))) Γ (· ∈ ds) :=
  (ev_call (es_well hi (es_cons h es_nil)) fun ss ⟨r, e1, d, r2, e2, e3, e4⟩ => ⟨ds, by rw [e1, e2, e3, e4], h0, h1⟩).imp fun d ⟨ss, ⟨r, e1, d', r2, e2, e3, e4⟩, hp⟩ => hp ds (by rw [e1, e2, e3, e4])
theorem ev_pow {Γ : List Sl} (b : Int) (n : Nat) (hn : n ≤ 1000) (hb : b.natAbs < 2 ^ 64) : EvD K (tOp (rI CPow fun i j => V.int (i ^ j.toNat)) (tC (.int b)) (tC (.int (n : Int)))) Γ (· = .int (b ^ n)) := ev_eq (ev_opI1 (g' := fun i j => .int (i ^ j.toNat)) (fun _ _ _ => .int _) ev_int ev_int ⟨by omega, by omega, hb⟩) (by rw [Int.toNat_natCast])
theorem snoc_get {α : Type} {xs : List α} {x y : α} {i : Nat} (h : (xs ++ [x])[i]? = some y) : (i < xs.length ∧ xs[i]? = some y) ∨ (i = xs.length ∧ x = y) := by
  by_cases hi : i < xs.length
  · rw [List.getElem?_append_left hi] at h
    exact .inl ⟨hi, h⟩
  · have hz : i = xs.length := by
      have := (List.getElem?_eq_some_iff.mp h).1
      simp at this
      omega
    subst hz
    rw [List.getElem?_append_right (Nat.le_refl _)] at h
    exact .inr ⟨rfl, by simpa using h⟩
theorem snoc_at {α : Type} {xs : List α} {x : α} : (xs ++ [x])[xs.length]? = some x := by simp
theorem snoc_old {α : Type} {xs : List α} {x : α} {i : Nat} (h : i < xs.length) : (xs ++ [x])[i]? = xs[i]? := List.getElem?_append_left h
theorem take_old {α : Type} {xs : List α} {x : α} {i : Nat} (h : i ≤ xs.length) : (xs ++ [x]).take i = xs.take i := List.take_append_of_le_length h
theorem pow100 {x : Int} (h : x.natAbs ≤ 1000) : x.natAbs < 2 ^ 100 := Nat.lt_of_le_of_lt h (by decide)
def nmOk (s : Str) : Bool := nameS s && (tl s).all fun c => decide (97 ≤ c) && decide (c ≤ 122)
theorem nmOk_low {s : Str} (h : nmOk s = true) : nameS s = true ∧ lowS s := by
  unfold nmOk at h
  rw [Bool.and_eq_true] at h
  refine ⟨h.1, fun c hc => ?_⟩
  have := List.all_eq_true.mp h.2 c hc
  rw [Bool.and_eq_true, decide_eq_true_eq, decide_eq_true_eq] at this
  exact this
def names4 : List Str := ["one", "put", "a", "abcdefgh"]
def kinds3 : List Str := ["row", "a", "abcdefgh"]
theorem names_ok : (names4.all nmOk && kinds3.all nmOk) = true := by decide +kernel
theorem names4_ok {s : Str} (h : s ∈ names4) : nameS s = true ∧ lowS s := nmOk_low (List.all_eq_true.mp ((Bool.and_eq_true _ _).mp names_ok).1 s h)
theorem kinds3_ok {s : Str} (h : s ∈ kinds3) : nameS s = true ∧ lowS s := nmOk_low (List.all_eq_true.mp ((Bool.and_eq_true _ _).mp names_ok).2 s h)
theorem csOk_nil : CsOk [] := ⟨fun i c h => (nomatch h), fun i k h => (nomatch h), Nat.zero_le _, Nat.zero_le _⟩
theorem csOk_snoc {cs : List Ci} {c : Ci} (h : CsOk cs) (hc : c.ok cs.length) (hl : cs.length ≤ 100) (hh : c.isH = true → hasH cs = false) : CsOk (cs ++ [c]) := by
  have hok : ∀ (i : Nat) d, (cs ++ [c])[i]? = some d → d.ok i := fun i d hd => by
    rcases snoc_get hd with ⟨h1, h2⟩ | ⟨h1, h2⟩
    · exact h.ok i d h2
    · rw [h1, ← h2]; exact hc
  refine ⟨hok, fun i k hk => ?_, by rw [List.length_append]; show cs.length + 1 ≤ 2000; omega, ?_⟩
  · rcases snoc_get hk with ⟨h1, h2⟩ | ⟨h1, h2⟩
    · rw [take_old (by omega)]; exact h.one i k h2
    · rw [h1, take_old (Nat.le_refl _), List.take_length]
      exact hh (by rw [h2]; rfl)
  · have := sum_le (f := fun c : Ci => c.T.length) (B := 50000) (l := cs ++ [c]) fun d hd => by
      obtain ⟨i, hi⟩ := List.mem_iff_getElem?.mp hd
      exact Ci.T_len (hok i d hi)
    rw [List.length_append] at this
    have e : [c].length = 1 := rfl
    rw [e] at this
    omega
theorem nats_of {i : Nat} : ∀ {es : List PyData}, (∀ e ∈ es, ∃ p : Nat, e = .int p ∧ p < i) → ∃ pl : List Nat, es = natsD pl ∧ ∀ p ∈ pl, p < i
  | [], _ => ⟨[], rfl, fun p h => nomatch h⟩
  | e :: es, h => by
    obtain ⟨p, e1, e2⟩ := h e List.mem_cons_self
    obtain ⟨pl, e3, e4⟩ := nats_of (es := es) fun x hx => h x (List.mem_cons_of_mem _ hx)
    refine ⟨p :: pl, by rw [e1, e3]; rfl, fun q hq => ?_⟩
    rcases List.mem_cons.mp hq with z | z
    · rw [z]; exact e2
    · exact e4 q z
theorem ints_of {Q : Int → Prop} : ∀ {es : List PyData}, (∀ e ∈ es, ∃ n : Int, e = .int n ∧ Q n) → ∃ ns : List Int, es = ns.map .int ∧ ∀ n ∈ ns, Q n
  | [], _ => ⟨[], rfl, fun p h => nomatch h⟩
  | e :: es, h => by
    obtain ⟨p, e1, e2⟩ := h e List.mem_cons_self
    obtain ⟨pl, e3, e4⟩ := ints_of (es := es) fun x hx => h x (List.mem_cons_of_mem _ hx)
    refine ⟨p :: pl, by rw [e1, e3]; rfl, fun q hq => ?_⟩
    rcases List.mem_cons.mp hq with z | z
    · rw [z]; exact e2
    · exact e4 q z
theorem len_nats (pl : List Nat) : (natsD pl).length = pl.length := List.length_map _
abbrev spSteps (K : PySem.W.Frag) : L2.Sp := spS K (fun (n : Nat) ss => ss = [.well, .dat (.int (n : Nat))] ∧ 1 ≤ n ∧ n ≤ 30) fun n d => ∃ cs : List Ci, d = .list (cs.map Ci.D) ∧ CsOk cs ∧ cs.length = n
theorem ok_law_steps (T : TL1 K mg) : FnOk P w K mg base CX0 3 T.law_steps.f T.law_steps.fd ["_law_well", "_law_many"] (spSteps K) := by
  have G_law_draw : FnOk P w K mg base CX0 1 T.law_draw.f T.law_draw.fd ["_law_well", "_law_many"] (spDraw K) := ok_law_draw T
  have G_law_one : FnOk P w K mg base CX0 2 T.law_one.f T.law_one.fd ["_law_well", "_law_some"] (spOne K) := ok_law_one T
  refine T.law_steps.F.ok sc_law_steps (fun vs H Q E ⟨G, ss, c, iv, a, ⟨hp, _⟩, k⟩ => a.length.trans (by rw [hp]; rfl)) (fun cdv A outer s0 H vs Q E hr ⟨G, sl, n, inv, a, ⟨hp, hn1, hn⟩, k⟩ => ?_)
  subst hp
  obtain ⟨v, x, rfl⟩ := two a.length
  refine ⟨_, (pss_cons (ps_par (i := 2) (j := 3) (by rfl) sc_law_steps.nd rfl rfl (by decide) rfl rfl (pa_cons (pe_lst pa_nil) (pa_cons (pe_call G_law_draw (hr.mono (by decide)) rfl T.law_draw.g T.law_draw.F.kp T.law_draw.b .nil pass0 (pa_cons (pv 0) (pa_cons (pe_op op_mul pe_int (pv 1)) pa_nil))) pa_nil)) (by rfl))
    (pss_cons (ps_for PassesOwn.never rfl (pi_range1 rfl T.range (pa_cons (pv 1) pa_nil)) (pg_name (i := 4) sc_law_steps.nd rfl (by first | exact Or.inl rfl | exact Or.inr rfl))
      (pss_cons (ps_if (pt_cmpR op_eq (pv 4) (pv 3) (nomark _)) (pss_cons (ps_expr (pe_bm PySem.F.plainAttrs_list PySem.F.slot_list_append PySem.F.type_list_append mt_append (pv 2) (pa_cons (pe_tup (pa_cons pe_str (pa_cons (pe_call G_law_one (hr.mono (by decide)) rfl T.law_one.g T.law_one.F.kp T.law_one.b .nil pass0 (pa_cons (pv 0) (pa_cons (pe_lst (pa_cons pe_str (pa_cons pe_str (pa_cons pe_str pa_nil)))) pa_nil))) pa_nil))) pa_nil)))
        (pss_one ps_continue)) pss_nil)
      (pss_cons (ps_setLc (i := 5) (own := [("_law_turn", 8)]) (g := gName 8) (tt := tYes) rfl sc_law_steps.nd rfl rfl (sw_true rfl rfl rfl (by decide +kernel)) (pi_range1 rfl T.range (pa_cons (pe_op op_mul (pe_call G_law_draw (hr.mono (by decide)) rfl T.law_draw.g T.law_draw.F.kp T.law_draw.b .nil pass0 (pa_cons (pv 0) (pa_cons pe_int pa_nil))) (pe_callTy call_int1 (by rfl) T.int (by decide +kernel) (pa_cons (pe_cmpR op_gt (pv 4) pe_int (nomark _)) pa_nil))) pa_nil)) (blkOk_by (own := [("_law_turn", 8)]) (N := N_law_steps) (sc := defScope s_law_steps) (by decide +kernel)) (fun _ _ _ _ _ => (pg_name (i := 8) sc_law_steps.nd rfl (by first | exact Or.inl rfl | exact Or.inr rfl))) (fun _ _ _ _ _ => pts_nil) (fun _ _ _ _ _ => (pe_call G_law_draw (hr.mono (by decide)) rfl T.law_draw.g T.law_draw.F.kp T.law_draw.b .nil pass0 (pa_cons (pv 0) (pa_cons (pv 4) pa_nil)))))
      (pss_cons (ps_set (i := 6) sc_law_steps.nd rfl (by first | exact Or.inl rfl | exact Or.inr rfl) (pe_lst (pa_cons pe_int (pa_cons pe_int (pa_cons (pe_un un_neg pe_int) (pa_cons (pe_op op_pow pe_int pe_int) (pa_cons (pe_op op_mul (pe_un un_neg pe_int) (pe_op op_pow pe_int pe_int)) (pa_cons (pe_call G_law_draw (hr.mono (by decide)) rfl T.law_draw.g T.law_draw.F.kp T.law_draw.b .nil pass0 (pa_cons (pv 0) (pa_cons (pe_op op_pow pe_int pe_int) pa_nil))) (pa_cons (pe_op op_mulW (pe_op op_pow pe_int pe_int) (pe_op op_pow pe_int pe_int)) pa_nil)))))))))
      (pss_cons (ps_setLc (i := 7) (own := [("_law_turn", 8)]) (g := gName 8) (tt := tYes) rfl sc_law_steps.nd rfl rfl (sw_true rfl rfl rfl (by decide +kernel)) (pi_range1 rfl T.range (pa_cons (pe_call G_law_draw (hr.mono (by decide)) rfl T.law_draw.g T.law_draw.F.kp T.law_draw.b .nil pass0 (pa_cons (pv 0) (pa_cons pe_int pa_nil))) pa_nil)) (blkOk_by (own := [("_law_turn", 8)]) (N := N_law_steps) (sc := defScope s_law_steps) (by decide +kernel)) (fun _ _ _ _ _ => (pg_name (i := 8) sc_law_steps.nd rfl (by first | exact Or.inl rfl | exact Or.inr rfl))) (fun _ _ _ _ _ => pts_nil) (fun _ _ _ _ _ => (pe_call G_law_one (hr.mono (by decide)) rfl T.law_one.g T.law_one.F.kp T.law_one.b .nil pass0 (pa_cons (pv 0) (pa_cons (pv 6) pa_nil)))))
      (pss_one (ps_expr (pe_bm PySem.F.plainAttrs_list PySem.F.slot_list_append PySem.F.type_list_append mt_append (pv 2) (pa_cons (pe_tup (pa_cons (pe_call G_law_one (hr.mono (by decide)) rfl T.law_one.g T.law_one.F.kp T.law_one.b .nil pass0 (pa_cons (pv 0) (pa_cons (pe_lst (pa_cons pe_str (pa_cons pe_str (pa_cons pe_str (pa_cons pe_str pa_nil))))) pa_nil))) (pa_cons (pe_tupleOf (by rfl) T.tuple (pv 5)) (pa_cons (pe_tupleOf (by rfl) T.tuple (pv 7)) pa_nil)))) pa_nil)))))))))
    (pss_one (ps_ret (pv 2))))), ?_⟩
  refine doneBD (P := fun d => ∃ cs : List Ci, d = .list (cs.map Ci.D) ∧ CsOk cs ∧ cs.length = n) 7 rfl rfl ?_ inv a k
  refine b_par (i := 2) (j := 3) (by show 2 < 9; omega) (by show 3 < 9; omega) (et_new (en_lst el_nil) (et_dat (ev_draw (m := 2 * (n : Nat)) rfl (ev_opI1 (a := 2) (b := (n : Nat)) (g' := fun i j => .int (i * j)) (fun _ _ _ => .int _) ev_int (ev_var rfl) (.inl ⟨by decide, by decide⟩)) (by omega) (pow100 (by omega))) et_nil)) fun sl ⟨s2, r2, e4, ⟨ds, e5, e6⟩, s, r1, e1, ⟨d, e2, hole, e3, hh⟩, e7⟩ => ⟨.olst [], .dat (.int (hole : Nat)), by rw [e4, e5, e6, e1, e2, e3, e7], ?_⟩
  let ΓI : List Ci → List Sl := fun cs => [.well, .dat (.int (n : Nat)), .olst (cs.map Ci.D), .dat (.int (hole : Nat)), .any, .any, .any, .any, .any]
  show Bk K _ (ΓI []) _ _ _ _
  refine b_seq (M' := fun Γ' => ∃ cs, Γ' = ΓI cs ∧ CsOk cs ∧ cs.length = n) (b_for (I := fun i Γ' => ∃ cs, Γ' = ΓI cs ∧ CsOk cs ∧ cs.length = i ∧ (i ≤ hole → hasH cs = false)) (n := n) (Pi := fun i d => d = .int (i : Nat)) (N := fun i Γ' d => Γ'.set 4 (.dat d)) (e0_rangeL (by omega) (elc (ev_var rfl) el_nil)) ⟨[], rfl, csOk_nil, rfl, fun _ => rfl⟩ (fun i Γ' hi ⟨cs, e, _⟩ => by subst e; exact tgb_name (by show 4 < 9; omega)) (fun i Γ' d hi ⟨cs, e, hcs, hcl, hho⟩ pd => ?_) fun Γ' ⟨cs, e, h1, h2, _⟩ => ⟨cs, e, h1, h2⟩) fun Γ' ⟨cs, e, hcs, hcl⟩ => ?_
  · subst e
    subst pd
    let Γ1 : List Sl := [.well, .dat (.int (n : Nat)), .olst (cs.map Ci.D), .dat (.int (hole : Nat)), .dat (.int (i : Nat)), .any, .any, .any, .any]
    show Bk K _ Γ1 _ _ _ _
    have hml : (cs.map Ci.D).length = i := by rw [List.length_map, hcl]
    have back : ∀ (c : Ci) (Γ' : List Sl), c.ok i → (c.isH = true → i = hole) → (c.isH = false → i ≠ hole) → W Γ' (ΓI (cs ++ [c])) → ∃ Γ3, W Γ' Γ3 ∧ ∃ cs, Γ3 = ΓI cs ∧ CsOk cs ∧ cs.length = i + 1 ∧ (i + 1 ≤ hole → hasH cs = false) := fun c Γ' hc h1 h2 w => ⟨_, w, cs ++ [c], rfl, csOk_snoc hcs (by rw [hcl]; exact hc) (by omega) fun h => hho (by have := h1 h; omega), by rw [List.length_append, hcl]; rfl, fun hle => by
      rw [hasH_snoc, hho (by omega)]
      cases hH : c.isH with
      | false => rfl
      | true => have := h1 hH; omega⟩
    refine b_seq (M' := fun Γ' => Γ' = Γ1 ∧ i ≠ hole) (b_if (b := decide (((i : Nat) : Int) = (hole : Nat))) (eb_test (ev_eqI (ev_var rfl) (ev_var rfl))) (fun hb => ?_) fun hb => b_next ⟨rfl, by have := of_decide_eq_false hb; omega⟩) fun Γ' ⟨e, hne⟩ => ?_
    · have hih : i = hole := by have := of_decide_eq_true hb; omega
      refine b_seq (M' := fun Γ' => ∃ k, (nameS k = true ∧ lowS k) ∧ Γ' = Γ1.set 2 (.olst ((cs ++ [Ci.h k]).map Ci.D))) (b_app (j := 2) (P := fun d => ∃ k, (nameS k = true ∧ lowS k) ∧ d = (Ci.h k).D) (ds := cs.map Ci.D) rfl (by omega) ((ev_tup (el_cons (P := (· = .str "")) ev_str (el_cons (ev_one (ds := strsD kinds3) rfl (ev_lstE _ (elc ev_str (elc ev_str (elc ev_str el_nil)))) (by decide) (by decide)) el_nil)) (fun ds ⟨d, r, e1, _, d2, r2, e2, _, e3⟩ => by rw [e1, e2, e3]; show 2 ≤ 100000; omega)).imp fun d ⟨ds, e1, d1, r, e2, e3, d2, r2, e4, hm, e5⟩ => by
        obtain ⟨k, hk, rfl⟩ := List.mem_map.mp hm
        exact ⟨k, kinds3_ok hk, by rw [e1, e2, e3, e4, e5]; rfl⟩) fun e ⟨k, hk, he⟩ => ⟨k, hk, by rw [he, List.map_append]; rfl⟩) fun Γ' ⟨k, hk, e⟩ => ?_
      subst e
      refine b_cont (back (.h k) _ hk (fun _ => hih) (fun z => nomatch z) ?_)
      show W [_, _, _, _, _, _, _, _, _] [_, _, _, _, _, _, _, _, _]
      (repeat (first | exact L2.W.nil | refine L2.W.any ?_ | refine L2.W.eq ?_))
    subst e
    refine b_set (i := 5) (P := fun d => ∃ pl : List Nat, d = .list (natsD pl) ∧ pl.length ≤ 3 ∧ ∀ p ∈ pl, p < i) (by show 5 < 9; omega) ?_ fun d' ⟨pl, e', hpl, hplt⟩ => ?_
    · have hcnt : EvD K (tOp (rI CMul fun i j => V.int (i * j)) (tCall (spDraw K) [] E0 (tCons (tVar 0) (tCons (tC (.int 4)) tNil))) (tCB (fun xs H Q => (∃ i, xs = [V.int i] ∧ Q (V.int i) H) ∨ ∃ k, xs = [V.bl k] ∧ Q (V.int (if k = true then 1 else 0)) H) (tCons (tOp (rI0 fun i j => .bl (decide (j < i))) (tVar 4) (tC (.int 0))) tNil))) Γ1 (fun d => ∃ m : Nat, d = .int (m : Nat) ∧ m ≤ 3 ∧ (i = 0 → m = 0)) := (ev_opI (g := fun i j => .int (i * j)) (P1 := fun z => ∃ m : Nat, z = (m : Nat) ∧ m < 4) (P2 := fun z => z = if decide (0 < i) = true then 1 else 0) (fun _ _ _ => .int _) ((ev_draw (m := 4) rfl ev_int (by decide) (by decide)).imp fun d ⟨m, e, h⟩ => ⟨_, e, m, rfl, by omega⟩) ((ev_intB (b := decide (0 < i)) (ev_eq (ev_opC1 (a := (i : Nat)) (b := 0) (g' := fun i j => .bool (decide (j < i))) (fun _ _ _ => .bl _) (ev_var rfl) ev_int) (by congr 1; exact decide_eq_decide.mpr ⟨fun h => by omega, fun h => by omega⟩))).imp fun d e => ⟨_, e, rfl⟩) fun z y ⟨m, e1, e2⟩ e3 => .inl ⟨by omega, by omega⟩).imp fun d ⟨z, y, ⟨m, e1, e2⟩, e3, e4⟩ => by
        subst e3
        subst e1
        by_cases hi0 : 0 < i
        · exact ⟨m, by rw [e4, decide_eq_true hi0, if_pos rfl, Int.mul_one], by omega, fun h => by omega⟩
        · exact ⟨0, by rw [e4, decide_eq_false hi0, if_neg (by decide), Int.mul_zero]; rfl, by omega, fun _ => rfl⟩
      have hrng : EvI K (iRng1 (tCons (tOp (rI CMul fun i j => V.int (i * j)) (tCall (spDraw K) [] E0 (tCons (tVar 0) (tCons (tC (.int 4)) tNil))) (tCB (fun xs H Q => (∃ i, xs = [V.int i] ∧ Q (V.int i) H) ∨ ∃ k, xs = [V.bl k] ∧ Q (V.int (if k = true then 1 else 0)) H) (tCons (tOp (rI0 fun i j => .bl (decide (j < i))) (tVar 4) (tC (.int 0))) tNil))) tNil)) Γ1 (fun m => m ≤ 3 ∧ (i = 0 → m = 0)) (fun i d => d = .int (i : Nat)) := ei_range1 (fun G σ H ev iv Q q => es_cons hcnt es_nil G σ H ev iv Q fun vs ss H' i' l' ⟨d, r, e1, ⟨m, e2, e3⟩, e4⟩ a => q vs ss H' i' l' ⟨m, e3, by rw [e1, e2, e4]⟩ a) fun m h => by omega
      by_cases hi0 : i = 0
      · refine (ev_lcI (vs := [8]) (es := []) (N := fun d => Γ1.set 8 (.dat d)) (Pi := fun i d => d = .int (i : Nat)) (by decide) (fun G σ H ev iv R q => hrng G σ H ev iv R fun n J H1 hn => q n J H1 (by show n = 0; exact hn.2 hi0)) (fun q => tg_name (by show 8 < 9; omega)) fun j d e pd he => nomatch he).imp fun d e => ⟨[], e, Nat.zero_le _, fun p h => nomatch h⟩
      · refine (ev_lc (vs := [8]) (Nn := fun m => m ≤ 3 ∧ (i = 0 → m = 0)) (P := fun i d => d = .int (i : Nat)) (N := fun d => Γ1.set 8 (.dat d)) (R := fun _ _ e => ∃ p : Nat, e = .int (p : Nat) ∧ p < i) (fun m h => by omega) hrng (fun q => tg_name (by show 8 < 9; omega)) fun q d pd => (ev_draw (m := (i : Nat)) rfl (ev_var rfl) (by omega) (pow100 (by omega))).imp fun d ⟨m, e, h⟩ => ⟨m, e, by omega⟩).imp fun d ⟨es, e1, ⟨e2, _⟩, e3⟩ => ?_
        obtain ⟨pl, e4, e5⟩ := nats_of (i := i) (es := es) fun e he => by
          obtain ⟨z, hz⟩ := List.mem_iff_getElem?.mp he
          obtain ⟨_, _, h⟩ := e3 z e hz
          exact h
        exact ⟨pl, by rw [e1, e4], by rw [e4, len_nats] at e2; exact e2, e5⟩
    subst e'
    let nums : PyData → Prop := fun d => ∃ ns : List Int, d = .list (ns.map .int) ∧ 0 < ns.length ∧ ns.length ≤ 10 ∧ ∀ n ∈ ns, numOk n
    let Γ2 : List Sl := [.well, .dat (.int (n : Nat)), .olst (cs.map Ci.D), .dat (.int (hole : Nat)), .dat (.int (i : Nat)), .dat (.list (natsD pl)), .any, .any, .any]
    show Bk K _ Γ2 _ _ _ _
    refine b_set (i := 6) (P := nums) (by show 6 < 9; omega) ((ev_lst (el_cons (P := (· = .int 0)) ev_int (el_cons (P := (· = .int 1)) ev_int (el_cons (P := (· = .int (-1))) (ev_neg ev_int) (el_cons (P := (· = .int (2 ^ 64))) (ev_pow 2 64 (by omega) (by decide)) (el_cons (P := (· = .int (-5 * 10 ^ 40))) (ev_opI1 (a := -5) (b := 10 ^ 40) (g' := fun i j => .int (i * j)) (fun _ _ _ => .int _) (ev_neg ev_int) (ev_pow 10 40 (by omega) (by decide)) (.inl ⟨by decide, by decide⟩)) (el_cons (ev_draw (m := 10 ^ 9) rfl (ev_pow 10 9 (by omega) (by decide)) (by decide) (by decide)) (el_cons (P := (· = .int (10 ^ 64 * 10 ^ 60))) (ev_opI1 (a := 10 ^ 64) (b := 10 ^ 60) (g' := fun i j => .int (i * j)) (fun _ _ _ => .int _) (ev_pow 10 64 (by omega) (by decide)) (ev_pow 10 60 (by omega) (by decide)) (wide_mul (a := 250) (b := 250) (by decide +kernel) (by decide +kernel) (by decide) (by decide) (by decide))) el_nil)))))))
        (fun ds ⟨d1, r1, a1, b1, d2, r2, a2, b2, d3, r3, a3, b3, d4, r4, a4, b4, d5, r5, a5, b5, d6, r6, a6, b6, d7, r7, a7, b7, e⟩ => by rw [a1, a2, a3, a4, a5, a6, a7, e]; show 7 ≤ 100000; omega)).imp fun d ⟨ds, e0, d1, r1, a1, b1, d2, r2, a2, b2, d3, r3, a3, b3, d4, r4, a4, b4, d5, r5, a5, b5, d6, r6, a6, ⟨m, b6, b6'⟩, d7, r7, a7, b7, e⟩ => ⟨[0, 1, -1, 2 ^ 64, -5 * 10 ^ 40, (m : Nat), 10 ^ 64 * 10 ^ 60], by rw [e0, a1, a2, a3, a4, a5, a6, a7, e, b1, b2, b3, b4, b5, b6, b7]; rfl, by show 0 < 7; omega, by show 7 ≤ 10; omega, fun z hz => ?_⟩) fun d' ⟨ns, e', hn0, hn10, hns⟩ => ?_
    · simp only [List.mem_cons, List.not_mem_nil, or_false] at hz
      unfold numOk
      rcases hz with z | z | z | z | z | z | z
      · subst z; decide +kernel
      · subst z; decide +kernel
      · subst z; decide +kernel
      · subst z; decide +kernel
      · subst z; decide +kernel
      · subst z
        rw [Int.natAbs_natCast]
        have h9 : (10 : Nat) ^ 9 < 10 ^ 200 := by decide +kernel
        have h8 : ((10 : Int) ^ 9) = ((10 ^ 9 : Nat) : Int) := by decide
        rw [h8] at b6'
        exact Nat.lt_trans (Int.ofNat_lt.mp b6') h9
      · subst z; decide +kernel
    subst e'
    let Γ3 : List Sl := [.well, .dat (.int (n : Nat)), .olst (cs.map Ci.D), .dat (.int (hole : Nat)), .dat (.int (i : Nat)), .dat (.list (natsD pl)), .dat (.list (ns.map .int)), .any, .any]
    show Bk K _ Γ3 _ _ _ _
    refine b_set (i := 7) (P := fun d => ∃ nu : List Int, d = .list (nu.map .int) ∧ nu.length ≤ 3 ∧ ∀ n ∈ nu, numOk n) (by show 7 < 9; omega) ((ev_lc (vs := [8]) (Nn := fun m => m ≤ 3) (P := fun i d => d = .int (i : Nat)) (N := fun d => Γ3.set 8 (.dat d)) (R := fun _ _ e => ∃ n : Int, e = .int n ∧ numOk n) (fun m h => by omega) (ei_range1 (fun G σ H ev iv Q q => es_cons (ev_draw (m := 4) rfl ev_int (by decide) (by decide)) es_nil G σ H ev iv Q fun vs ss H' i' l' ⟨d, r, e1, ⟨m, e2, e3⟩, e4⟩ a => q vs ss H' i' l' ⟨m, by omega, by rw [e1, e2, e4]⟩ a) fun m h => by omega) (fun q => tg_name (by show 8 < 9; omega)) fun q d pd => (ev_one (ds := ns.map .int) rfl (ev_var rfl) (by rw [List.length_map]; exact hn0) (by rw [List.length_map]; omega)).imp fun d hd => by
      obtain ⟨z, hz, rfl⟩ := List.mem_map.mp hd
      exact ⟨z, rfl, hns z hz⟩).imp fun d ⟨es, e1, e2, e3⟩ => ?_) fun d' ⟨nu, e', hnu, hnuo⟩ => ?_
    · obtain ⟨nu, e4, e5⟩ := ints_of (Q := numOk) (es := es) fun e he => by
        obtain ⟨z, hz⟩ := List.mem_iff_getElem?.mp he
        obtain ⟨_, _, h⟩ := e3 z e hz
        exact h
      exact ⟨nu, by rw [e1, e4], by rw [e4, List.length_map] at e2; exact e2, e5⟩
    subst e'
    let Γ4 : List Sl := [.well, .dat (.int (n : Nat)), .olst (cs.map Ci.D), .dat (.int (hole : Nat)), .dat (.int (i : Nat)), .dat (.list (natsD pl)), .dat (.list (ns.map .int)), .dat (.list (nu.map .int)), .any]
    show Bk K _ Γ4 _ _ _ _
    refine b_app (j := 2) (P := fun d => ∃ nm, (nameS nm = true ∧ lowS nm) ∧ d = (Ci.s ⟨nm, pl, nu⟩).D) (ds := cs.map Ci.D) rfl (by omega) ((ev_tup3 (ta' := tNil) (ev_one (ds := strsD names4) rfl (ev_lstE _ (elc ev_str (elc ev_str (elc ev_str (elc ev_str el_nil))))) (by decide) (by decide)) (ev_tupleOf (el_list (ev_var (d := .list (natsD pl)) rfl))) (ev_tupleOf (el_list (ev_var (d := .list (nu.map .int)) rfl)))).imp fun d ⟨a1, b1, c1, e1, hm, e2, e3⟩ => by
      obtain ⟨k, hk, rfl⟩ := List.mem_map.mp hm
      exact ⟨k, names4_ok hk, by rw [e1, e2, e3]; rfl⟩) fun e ⟨nm, hnm, he⟩ => back (.s ⟨nm, pl, nu⟩) _ ⟨hnm.1, hnm.2, hplt, by show pl.length ≤ 100; omega, by show nu.length ≤ 100; omega, fun p hp => ?_, hnuo⟩ (fun z => nomatch z) (fun _ => hne) ?_
    · have := hplt p hp
      exact Nat.lt_of_lt_of_le (Nat.lt_of_lt_of_le this (show i ≤ 30 by omega)) (by decide +kernel)
    · subst he
      show W [_, _, Sl.olst (cs.map Ci.D ++ [_]), _, _, _, _, _, _] [_, _, Sl.olst ((cs ++ [Ci.s ⟨nm, pl, nu⟩]).map Ci.D), _, _, _, _, _, _]
      rw [List.map_append]
      (repeat (first | exact L2.W.nil | refine L2.W.any ?_ | refine L2.W.eq ?_))
  · subst e
    exact b_retR (P := (· = .list (cs.map Ci.D))) (ev_var rfl) fun d e => ⟨d, rfl, cs, e, hcs, hcl⟩
end
end K94

set_option Elab.async false
set_option linter.all false
set_option maxRecDepth 100000
set_option maxHeartbeats 4000000
namespace K94
open PySem PySem.Spec PyProof.Rows L2 TL
/-! ### the law's own texts, and what is odd -/
abbrev s_law_parts : Stmt := topS 31
abbrev N_law_parts : List Str := ["_law_steps_here", "_law_found", "_law_step", "_law_words", "_law_place", "_law_number"]
theorem sc_law_parts : FnScope N_law_parts ["_law_steps_here"] (defScope s_law_parts) := ⟨rfl, rfl, rfl, by decide +kernel, rfl, by decide +kernel, by decide +kernel⟩
abbrev s_law_odd_steps : Stmt := topS 33
abbrev N_law_odd_steps : List Str := ["_law_at", "_law_found"]
theorem sc_law_odd_steps : FnScope N_law_odd_steps ["_law_at"] (defScope s_law_odd_steps) := ⟨rfl, rfl, rfl, by decide +kernel, rfl, by decide +kernel, by decide +kernel⟩
abbrev s_law_odd_parts : Stmt := topS 34
abbrev N_law_odd_parts : List Str := ["_law_at", "_law_found"]
theorem sc_law_odd_parts : FnScope N_law_odd_parts ["_law_at"] (defScope s_law_odd_parts) := ⟨rfl, rfl, rfl, by decide +kernel, rfl, by decide +kernel, by decide +kernel⟩
structure TL2 (K : PySem.W.Frag) (mg : Str → Option Value) extends TL1 K mg where
  law_parts : Df K mg "_law_parts" s_law_parts ["_law_steps_here"]
  law_odd_steps : Df K mg "_law_odd_steps" s_law_odd_steps ["_law_at"]
  law_odd_parts : Df K mg "_law_odd_parts" s_law_odd_parts ["_law_at"]
theorem join_two (a b : Str) : Txt.join " " [a, b] = a ++ " " ++ b := by
  rw [join_eq]
  rfl
theorem hole_text (k : Str) : ("? " : Str) ++ k = (Ci.h k).T := by
  show _ = Txt.join " " ["?", k]
  rw [join_two]
  refine ext_tl ?_
  rw [tl_append, tl_append, tl_append, tl_sp, tl_ask, show tl ("? " : Str) = [63, 32] by decide +kernel]
  rfl
abbrev rParts (ds : List PyData) (d : PyData) : Prop := ∃ cs : List Ci, ds = [.list (cs.map Ci.D)] ∧ CsOk cs ∧ cs.length ≤ 100 ∧ d = .list (strsD (cs.map Ci.T))
def oddSteps (i : Int) : List PyData :=
  [.none, .int 5, .str "one", .tuple [.str "one"], .tuple [.str "one", .tuple []], .list [.str "one", .tuple [], .tuple []], .tuple [.str "one", .list [], .tuple []], .tuple [.str "one", .tuple [], .list []], .tuple [.str "", .tuple [], .tuple []],
   .tuple [.str "One", .tuple [], .tuple []], .tuple [.str "abcdefghi", .tuple [], .tuple []], .tuple [.str "one", .tuple [.int i], .tuple []], .tuple [.str "one", .tuple [.int (-1)], .tuple []],
   .tuple [.str "one", .tuple [.bool true], .tuple []], .tuple [.str "one", .tuple [], .tuple [.bool true]], .tuple [.str "one", .tuple [], .tuple [.str "1"]], .tuple [.str "one", .tuple [], .tuple [.none]],
   .tuple [.str "one", .tuple [.str "0"], .tuple []], .tuple [.str "", .str "Row"], .tuple [.str "", .int 5], .tuple [.str "", .str ""], .tuple [.str "", .str "row", .tuple []], .tuple [.str "one", .tuple [], .tuple [], .tuple []],
   .tuple [.int 5, .tuple [], .tuple []], .tuple [.str "a1", .tuple [], .tuple []], .tuple [.str "one", .int 0, .tuple []], .dict []]
def oddA (t : Str) : List Str := ["", " ", "One", "abcdefghi", "one ", " one", "one 01", "one -1", t, "one #", "one # x"]
def oddR : List Str := ["one # 01", "one # -0", "one # +1", "one # 1 #", "one # # 1", "one  # 1", "one #1", "?", "? ", "? Row", "? row row", "?row", "one;one", "one 0.0", "one # 1.0", "5", "# 1", "one,", "one 1e0", "one # --1", "one # 1_0", "one 0_0", "one # 1\t", "one\t", "one # 1\n"]
def oddParts (i : Nat) : List Str := oddA ("one " ++ strI (i : Nat)) ++ oddR
theorem plain_name {n : Str} {ps ns : List PyData} {i : Int} (h : nameS n = false) : isPlain i (.tuple [.str n, .tuple ps, .tuple ns]) = false := by
  show (nameS n && _) = false
  rw [h]
  rfl
theorem plain_pl {n : Str} {ps ns : List PyData} {i : Int} (h : ps.all (fun p => isBet p 0 (i - 1)) = false) : isPlain i (.tuple [.str n, .tuple ps, .tuple ns]) = false := by
  show (nameS n && (ps.all (fun p => isBet p 0 (i - 1)) && _)) = false
  rw [h, Bool.false_and, Bool.and_false]
theorem plain_nu {n : Str} {ps ns : List PyData} {i : Int} (h : ns.all isInt = false) : isPlain i (.tuple [.str n, .tuple ps, .tuple ns]) = false := by
  show (nameS n && (ps.all (fun p => isBet p 0 (i - 1)) && ns.all isInt)) = false
  rw [h, Bool.and_false, Bool.and_false]
theorem odd_steps {i : Nat} {y : PyData} (h : y ∈ oddSteps (i : Nat)) : smallD y = true ∧ isHoleS y = false ∧ isPlain (i : Nat) y = false := by
  unfold oddSteps at h
  simp only [List.mem_cons, List.not_mem_nil, or_false] at h
  have hb : ∀ z : Int, ¬ (0 ≤ z ∧ z ≤ (i : Nat) - 1) → ([PyData.int z].all fun p => isBet p 0 ((i : Nat) - 1)) = false := fun z hz => by
    show ((decide (0 ≤ z) && decide (z ≤ (i : Nat) - 1)) && true) = false
    rw [Bool.and_true, Bool.and_eq_false_iff, decide_eq_false_iff_not, decide_eq_false_iff_not]
    omega
  rcases h with e | e | e | e | e | e | e | e | e | e | e | e | e | e | e | e | e | e | e | e | e | e | e | e | e | e | e <;> subst e
  · exact ⟨by decide +kernel, rfl, rfl⟩
  · exact ⟨by decide +kernel, rfl, rfl⟩
  · exact ⟨by decide +kernel, rfl, rfl⟩
  · exact ⟨by decide +kernel, rfl, rfl⟩
  · exact ⟨by decide +kernel, by decide +kernel, rfl⟩
  · exact ⟨by decide +kernel, rfl, rfl⟩
  · exact ⟨by decide +kernel, rfl, rfl⟩
  · exact ⟨by decide +kernel, rfl, rfl⟩
  · exact ⟨by decide +kernel, rfl, plain_name (by decide +kernel)⟩
  · exact ⟨by decide +kernel, rfl, plain_name (by decide +kernel)⟩
  · exact ⟨by decide +kernel, rfl, plain_name (by decide +kernel)⟩
  · refine ⟨?_, rfl, plain_pl (hb _ (by omega))⟩
    exact smallT (by show 3 ≤ 1000; omega) (by show (smallD (.str "one") && (smallD (.tuple [.int (i : Nat)]) && (smallD (.tuple []) && true))) = true; rw [smallT (xs := [.int (i : Nat)]) (by show 1 ≤ 1000; omega) rfl, show smallD (.str "one") = true by decide +kernel, show smallD (.tuple []) = true by decide +kernel]; rfl)
  · exact ⟨by decide +kernel, rfl, plain_pl (hb _ (by omega))⟩
  · exact ⟨by decide +kernel, rfl, plain_pl rfl⟩
  · exact ⟨by decide +kernel, rfl, plain_nu rfl⟩
  · exact ⟨by decide +kernel, rfl, plain_nu rfl⟩
  · exact ⟨by decide +kernel, rfl, plain_nu rfl⟩
  · exact ⟨by decide +kernel, rfl, plain_pl rfl⟩
  · exact ⟨by decide +kernel, by decide +kernel, rfl⟩
  · exact ⟨by decide +kernel, by decide +kernel, rfl⟩
  · exact ⟨by decide +kernel, by decide +kernel, rfl⟩
  · exact ⟨by decide +kernel, rfl, rfl⟩
  · exact ⟨by decide +kernel, rfl, rfl⟩
  · exact ⟨by decide +kernel, rfl, rfl⟩
  · exact ⟨by decide +kernel, rfl, plain_name (by decide +kernel)⟩
  · exact ⟨by decide +kernel, rfl, rfl⟩
  · exact ⟨by decide +kernel, rfl, rfl⟩
theorem odd_table : ((oddA "one").all (fun p => p == "one" || oddB p) && oddR.all oddB) = true := by decide +kernel
theorem strI_semi (i : Int) : ∀ c ∈ tl (strI i), c ≠ 59 ∧ c ≠ 32 := fun c hc => by
  rw [tl_strI] at hc
  rcases intL_mem hc with h | h <;> omega
theorem odd_parts {cs : List Ci} (hl : cs.length ≤ 1000) {p : Str} (h : p ∈ oddParts cs.length) : Rej cs p ∧ okPB (tl p) = true := by
  have tb := odd_table
  rw [Bool.and_eq_true] at tb
  have far : Rej cs ("one " ++ strI (cs.length : Nat)) ∧ okPB (tl ("one " ++ strI (cs.length : Nat))) = true := by
    have hlt : cs.length < 10 ^ 200 := Nat.lt_of_le_of_lt hl (by decide +kernel)
    have ht : ("one " : Str) ++ strI (cs.length : Nat) = Txt.join " " [("one" : Str), strI (cs.length : Nat)] := by
      rw [join_two]
      refine ext_tl ?_
      rw [tl_append, tl_append, tl_append, tl_sp, show tl ("one " : Str) = [111, 110, 101, 32] by decide +kernel, show tl ("one" : Str) = [111, 110, 101] by decide +kernel]
      rfl
    have hs : Txt.split (("one " : Str) ++ strI (cs.length : Nat)) " " = [("one" : Str), strI (cs.length : Nat)] := by
      rw [ht]
      exact split_join (s := 32) (S := []) tl_sp (by decide +kernel) (by simp) fun p hp hm => by
        rcases List.mem_cons.mp hp with e | hp
        · rw [e] at hm
          exact absurd hm (by decide +kernel)
        · rw [List.mem_singleton.mp hp] at hm
          exact (strI_semi _ 32 hm).2 rfl
    have hlen := strI_len (numOk_nat hlt)
    refine ⟨⟨?_, "one", [strI (cs.length : Nat)], hs, wOk_of fun w hw => ?_, by show 1 ≤ 10000; omega, .inr ⟨by decide +kernel, .inl (read_far hlt)⟩⟩, okPB_free fun hm => ?_⟩
    · rw [len_tl, tl_append, List.length_append, ← len_tl, ← len_tl, show ("one " : Str).length = 4 by decide +kernel]
      omega
    · rcases List.mem_cons.mp hw with e | hw
      · rw [e]; exact ⟨by decide +kernel, .inl (by decide +kernel)⟩
      · rw [List.mem_singleton.mp hw, int_back (numOk_nat hlt)]
        exact ⟨by omega, .inr rfl⟩
    · rw [tl_append] at hm
      rcases List.mem_append.mp hm with hm | hm
      · exact absurd hm (by decide +kernel)
      · exact (strI_semi _ 59 hm).1 rfl
  unfold oddParts at h
  rcases List.mem_append.mp h with h | h
  · by_cases e : p = ("one " : Str) ++ strI (cs.length : Nat)
    · rw [e]; exact far
    · have hm : p ∈ oddA "one" ∧ p ≠ "one" ∨ p ∈ oddA "one" ∧ oddB p = true := by
        unfold oddA at h
        simp only [List.mem_cons, List.not_mem_nil, or_false] at h
        rcases h with z | z | z | z | z | z | z | z | z | z | z
        · subst z; exact .inr ⟨by decide +kernel, by decide +kernel⟩
        · subst z; exact .inr ⟨by decide +kernel, by decide +kernel⟩
        · subst z; exact .inr ⟨by decide +kernel, by decide +kernel⟩
        · subst z; exact .inr ⟨by decide +kernel, by decide +kernel⟩
        · subst z; exact .inr ⟨by decide +kernel, by decide +kernel⟩
        · subst z; exact .inr ⟨by decide +kernel, by decide +kernel⟩
        · subst z; exact .inr ⟨by decide +kernel, by decide +kernel⟩
        · subst z; exact .inr ⟨by decide +kernel, by decide +kernel⟩
        · exact absurd z e
        · subst z; exact .inr ⟨by decide +kernel, by decide +kernel⟩
        · subst z; exact .inr ⟨by decide +kernel, by decide +kernel⟩
      rcases hm with ⟨h1, h2⟩ | ⟨_, h2⟩
      · have := List.all_eq_true.mp tb.1 p h1
        rw [Bool.or_eq_true, beq_iff_eq] at this
        exact oddB_rej (this.resolve_left h2) cs
      · exact oddB_rej h2 cs
  · exact oddB_rej (List.all_eq_true.mp tb.2 p h) cs
section
variable {P : Program} {w : World} {K : PySem.W.Frag} {mg : Str → Option Value} {base : Heap}
theorem ok_law_odd_steps (T : TL2 K mg) : FnOk P w K mg base CX0 1 T.law_odd_steps.f T.law_odd_steps.fd ["_law_at"] (spP K fun ds d => ∃ i : Int, ds = [.int i] ∧ d = .list (oddSteps i)) := by
  refine T.law_odd_steps.F.ok sc_law_odd_steps (fun vs H Q E ⟨G, ds, d, iv, a, ⟨i, hp, _⟩, k⟩ => len1 a (by rw [hp]; rfl)) (fun cdv A outer s0 H vs Q E hr ⟨G, ds, d, inv, a, ⟨i, hp, hd⟩, k⟩ => ?_)
  subst hp
  subst hd
  obtain ⟨v, rfl⟩ := one a.length
  refine ⟨_, (pss_cons (ps_set (i := 1) sc_law_odd_steps.nd rfl (by first | exact Or.inl rfl | exact Or.inr rfl) (pe_lst (pa_cons pe_non (pa_cons pe_int (pa_cons pe_str (pa_cons (pe_tup (pa_cons pe_str pa_nil)) (pa_cons (pe_tup (pa_cons pe_str (pa_cons (pe_tup pa_nil) pa_nil))) (pa_cons (pe_lst (pa_cons pe_str (pa_cons (pe_tup pa_nil) (pa_cons (pe_tup pa_nil) pa_nil)))) (pa_cons (pe_tup (pa_cons pe_str (pa_cons (pe_lst pa_nil) (pa_cons (pe_tup pa_nil) pa_nil)))) (pa_cons (pe_tup (pa_cons pe_str (pa_cons (pe_tup pa_nil) (pa_cons (pe_lst pa_nil) pa_nil)))) (pa_cons (pe_tup (pa_cons pe_str (pa_cons (pe_tup pa_nil) (pa_cons (pe_tup pa_nil) pa_nil)))) pa_nil)))))))))))
    (pss_cons (ps_set (i := 1) sc_law_odd_steps.nd rfl (by first | exact Or.inl rfl | exact Or.inr rfl) (pe_op op_catS (pv 1) (pe_lst (pa_cons (pe_tup (pa_cons pe_str (pa_cons (pe_tup pa_nil) (pa_cons (pe_tup pa_nil) pa_nil)))) (pa_cons (pe_tup (pa_cons pe_str (pa_cons (pe_tup pa_nil) (pa_cons (pe_tup pa_nil) pa_nil)))) (pa_cons (pe_tup (pa_cons pe_str (pa_cons (pe_tup (pa_cons (pv 0) pa_nil)) (pa_cons (pe_tup pa_nil) pa_nil)))) (pa_cons (pe_tup (pa_cons pe_str (pa_cons (pe_tup (pa_cons (pe_un un_neg pe_int) pa_nil)) (pa_cons (pe_tup pa_nil) pa_nil)))) pa_nil)))))))
    (pss_cons (ps_set (i := 1) sc_law_odd_steps.nd rfl (by first | exact Or.inl rfl | exact Or.inr rfl) (pe_op op_catS (pv 1) (pe_lst (pa_cons (pe_tup (pa_cons pe_str (pa_cons (pe_tup (pa_cons pe_bl pa_nil)) (pa_cons (pe_tup pa_nil) pa_nil)))) (pa_cons (pe_tup (pa_cons pe_str (pa_cons (pe_tup pa_nil) (pa_cons (pe_tup (pa_cons pe_bl pa_nil)) pa_nil)))) (pa_cons (pe_tup (pa_cons pe_str (pa_cons (pe_tup pa_nil) (pa_cons (pe_tup (pa_cons pe_str pa_nil)) pa_nil)))) (pa_cons (pe_tup (pa_cons pe_str (pa_cons (pe_tup pa_nil) (pa_cons (pe_tup (pa_cons pe_non pa_nil)) pa_nil)))) pa_nil)))))))
    (pss_cons (ps_set (i := 1) sc_law_odd_steps.nd rfl (by first | exact Or.inl rfl | exact Or.inr rfl) (pe_op op_catS (pv 1) (pe_lst (pa_cons (pe_tup (pa_cons pe_str (pa_cons (pe_tup (pa_cons pe_str pa_nil)) (pa_cons (pe_tup pa_nil) pa_nil)))) (pa_cons (pe_tup (pa_cons pe_str (pa_cons pe_str pa_nil))) (pa_cons (pe_tup (pa_cons pe_str (pa_cons pe_int pa_nil))) (pa_cons (pe_tup (pa_cons pe_str (pa_cons pe_str pa_nil))) (pa_cons (pe_tup (pa_cons pe_str (pa_cons pe_str (pa_cons (pe_tup pa_nil) pa_nil)))) (pa_cons (pe_tup (pa_cons pe_str (pa_cons (pe_tup pa_nil) (pa_cons (pe_tup pa_nil) (pa_cons (pe_tup pa_nil) pa_nil))))) pa_nil)))))))))
    (pss_one (ps_ret (pe_op op_catS (pv 1) (pe_lst (pa_cons (pe_tup (pa_cons pe_int (pa_cons (pe_tup pa_nil) (pa_cons (pe_tup pa_nil) pa_nil)))) (pa_cons (pe_tup (pa_cons pe_str (pa_cons (pe_tup pa_nil) (pa_cons (pe_tup pa_nil) pa_nil)))) (pa_cons (pe_tup (pa_cons pe_str (pa_cons pe_int (pa_cons (pe_tup pa_nil) pa_nil)))) (pa_cons pe_dnewK pa_nil)))))))))))), ?_⟩
  have a2 : ArgsOk K G H [v] [.dat (.int i)] := by
    cases a with
    | cons h1 t1 => cases t1; exact .cons h1 .nil
  refine doneBD (P := (· = .list (oddSteps i))) 1 rfl rfl ?_ inv a2 fun v d H' i' l' e dq => k v H' i' l' (by subst e; exact dq)
  let o1 := (oddSteps i).take 9
  let o2 := (oddSteps i).take 13
  let o3 := (oddSteps i).take 17
  let o4 := (oddSteps i).take 23
  have t0 : ∀ {Γ : List Sl}, EvD K (tTup tNil) Γ (· = .tuple []) := ev_tupE [] el_nil
  have l0 : ∀ {Γ : List Sl}, EvD K (tLst tNil) Γ (· = .list []) := ev_lstE [] el_nil
  refine b_set (i := 1) (P := (· = .list o1)) (by show 1 < 2; omega) (ev_lstE o1 (elc (ev_c fun _ => .non) (elc ev_int (elc ev_str (elc (ev_tupE _ (elc ev_str el_nil)) (elc (ev_tup2 ev_str t0) (elc (ev_lstE _ (elc ev_str (elc t0 (elc t0 el_nil)))) (elc (ev_tup3' ev_str l0 t0) (elc (ev_tup3' ev_str t0 l0) (elc (ev_tup3' ev_str t0 t0) el_nil)))))))))) fun d' e' => ?_
  subst e'
  refine b_set (i := 1) (P := (· = .list o2)) (by show 1 < 2; omega) (ev_catL (ds := o1) (es := ((oddSteps i).drop 9).take 4) (by show 13 ≤ 100000; omega) (ev_var rfl) (ev_lstE _ (elc (ev_tup3' ev_str t0 t0) (elc (ev_tup3' ev_str t0 t0) (elc (ev_tup3' ev_str (ev_tupE _ (elc (ev_var rfl) el_nil)) t0) (elc (ev_tup3' ev_str (ev_tupE _ (elc (ev_neg ev_int) el_nil)) t0) el_nil)))))) fun d' e' => ?_
  subst e'
  refine b_set (i := 1) (P := (· = .list o3)) (by show 1 < 2; omega) (ev_catL (ds := o2) (es := ((oddSteps i).drop 13).take 4) (by show 17 ≤ 100000; omega) (ev_var rfl) (ev_lstE _ (elc (ev_tup3' ev_str (ev_tupE _ (elc ev_bl el_nil)) t0) (elc (ev_tup3' ev_str t0 (ev_tupE _ (elc ev_bl el_nil))) (elc (ev_tup3' ev_str t0 (ev_tupE _ (elc ev_str el_nil))) (elc (ev_tup3' ev_str t0 (ev_tupE _ (elc (ev_c fun _ => .non) el_nil))) el_nil)))))) fun d' e' => ?_
  subst e'
  refine b_set (i := 1) (P := (· = .list o4)) (by show 1 < 2; omega) (ev_catL (ds := o3) (es := ((oddSteps i).drop 17).take 6) (by show 23 ≤ 100000; omega) (ev_var rfl) (ev_lstE _ (elc (ev_tup3' ev_str (ev_tupE _ (elc ev_str el_nil)) t0) (elc (ev_tup2 ev_str ev_str) (elc (ev_tup2 ev_str ev_int) (elc (ev_tup2 ev_str ev_str) (elc (ev_tup3' ev_str ev_str t0) (elc (ev_tupE _ (elc ev_str (elc t0 (elc t0 (elc t0 el_nil))))) el_nil)))))))) fun d' e' => ?_
  subst e'
  exact b_retR (P := (· = .list (oddSteps i))) (ev_catL (ds := o4) (es := (oddSteps i).drop 23) (by show 27 ≤ 100000; omega) (ev_var rfl) (ev_lstE _ (elc (ev_tup3' ev_int t0 t0) (elc (ev_tup3' ev_str t0 t0) (elc (ev_tup3' ev_str ev_int t0) (elc ev_dnew el_nil)))))) fun d e => ⟨d, rfl, e⟩
theorem ok_law_odd_parts (T : TL2 K mg) : FnOk P w K mg base CX0 1 T.law_odd_parts.f T.law_odd_parts.fd ["_law_at"] (spP K fun ds d => ∃ i : Nat, ds = [.int (i : Nat)] ∧ i ≤ 1000 ∧ d = .list (strsD (oddParts i))) := by
  refine T.law_odd_parts.F.ok sc_law_odd_parts (fun vs H Q E ⟨G, ds, d, iv, a, ⟨i, hp, _⟩, k⟩ => len1 a (by rw [hp]; rfl)) (fun cdv A outer s0 H vs Q E hr ⟨G, ds, d, inv, a, ⟨i, hp, hi, hd⟩, k⟩ => ?_)
  subst hp
  subst hd
  obtain ⟨v, rfl⟩ := one a.length
  refine ⟨_, (pss_cons (ps_set (i := 1) sc_law_odd_parts.nd rfl (by first | exact Or.inl rfl | exact Or.inr rfl) (pe_lst (pa_cons pe_str (pa_cons pe_str (pa_cons pe_str (pa_cons pe_str (pa_cons pe_str (pa_cons pe_str (pa_cons pe_str (pa_cons pe_str (pa_cons (pe_op op_add_str pe_str (pe_callTy call_str_int (by rfl) T.str (by decide +kernel) (pa_cons (pv 0) pa_nil))) (pa_cons pe_str (pa_cons pe_str pa_nil)))))))))))))
    (pss_cons (ps_set (i := 1) sc_law_odd_parts.nd rfl (by first | exact Or.inl rfl | exact Or.inr rfl) (pe_op op_catS (pv 1) (pe_lst (pa_cons pe_str (pa_cons pe_str (pa_cons pe_str (pa_cons pe_str (pa_cons pe_str (pa_cons pe_str (pa_cons pe_str (pa_cons pe_str (pa_cons pe_str pa_nil))))))))))))
    (pss_cons (ps_set (i := 1) sc_law_odd_parts.nd rfl (by first | exact Or.inl rfl | exact Or.inr rfl) (pe_op op_catS (pv 1) (pe_lst (pa_cons pe_str (pa_cons pe_str (pa_cons pe_str (pa_cons pe_str (pa_cons pe_str (pa_cons pe_str (pa_cons pe_str (pa_cons pe_str (pa_cons pe_str (pa_cons pe_str pa_nil)))))))))))))
    (pss_one (ps_ret (pe_op op_catS (pv 1) (pe_lst (pa_cons pe_str (pa_cons pe_str (pa_cons pe_str (pa_cons pe_str (pa_cons pe_str (pa_cons pe_str pa_nil))))))))))))), ?_⟩
  have a2 : ArgsOk K G H [v] [.dat (.int (i : Nat))] := by
    cases a with
    | cons h1 t1 => cases t1; exact .cons h1 .nil
  refine doneBD (P := (· = .list (strsD (oddParts i)))) 1 rfl rfl ?_ inv a2 fun v d H' i' l' e dq => k v H' i' l' (by subst e; exact dq)
  have hlt : i < 10 ^ 200 := Nat.lt_of_le_of_lt hi (by decide +kernel)
  have hsl := strI_len (numOk_nat hlt)
  let o1 := strsD ((oddParts i).take 11)
  let o2 := strsD ((oddParts i).take 20)
  let o3 := strsD ((oddParts i).take 30)
  refine b_set (i := 1) (P := (· = .list o1)) (by show 1 < 2; omega) (ev_lstE o1 (elc ev_str (elc ev_str (elc ev_str (elc ev_str (elc ev_str (elc ev_str (elc ev_str (elc ev_str (elc (ev_addStr (by rw [show ("one " : Str).length = 4 by decide +kernel]; show 4 + (strI (i : Nat)).length ≤ _; omega) ev_str (ev_strOf (log_ok (i := (i : Nat)) (by rw [Int.natAbs_natCast]; exact hlt)) (ev_var rfl))) (elc ev_str (elc ev_str el_nil)))))))))))) fun d' e' => ?_
  subst e'
  refine b_set (i := 1) (P := (· = .list o2)) (by show 1 < 2; omega) (ev_catL (ds := o1) (es := strsD (((oddParts i).drop 11).take 9)) (by show 20 ≤ 100000; omega) (ev_var rfl) (ev_lstE _ (elc ev_str (elc ev_str (elc ev_str (elc ev_str (elc ev_str (elc ev_str (elc ev_str (elc ev_str (elc ev_str el_nil))))))))))) fun d' e' => ?_
  subst e'
  refine b_set (i := 1) (P := (· = .list o3)) (by show 1 < 2; omega) (ev_catL (ds := o2) (es := strsD (((oddParts i).drop 20).take 10)) (by show 30 ≤ 100000; omega) (ev_var rfl) (ev_lstE _ (elc ev_str (elc ev_str (elc ev_str (elc ev_str (elc ev_str (elc ev_str (elc ev_str (elc ev_str (elc ev_str (elc ev_str el_nil)))))))))))) fun d' e' => ?_
  subst e'
  exact b_retR (P := (· = .list (strsD (oddParts i)))) (ev_catL (ds := o3) (es := strsD ((oddParts i).drop 30)) (by show 36 ≤ 100000; omega) (ev_var rfl) (ev_lstE _ (elc ev_str (elc ev_str (elc ev_str (elc ev_str (elc ev_str (elc ev_str el_nil)))))))) fun d e => ⟨d, rfl, e⟩
theorem ok_law_parts (T : TL2 K mg) : FnOk P w K mg base CX0 1 T.law_parts.f T.law_parts.fd ["_law_steps_here"] (spP K rParts) := by
  refine T.law_parts.F.ok sc_law_parts (fun vs H Q E ⟨G, ds, d, iv, a, ⟨i, hp, _⟩, k⟩ => len1 a (by rw [hp]; rfl)) (fun cdv A outer s0 H vs Q E hr ⟨G, ds, d, inv, a, ⟨cs, hp, hcs, hcl, hd⟩, k⟩ => ?_)
  subst hp
  subst hd
  obtain ⟨v, rfl⟩ := one a.length
  refine ⟨_, (pss_cons (ps_set (i := 1) sc_law_parts.nd rfl (by first | exact Or.inl rfl | exact Or.inr rfl) (pe_lst pa_nil))
    (pss_cons (ps_for PassesOwn.never rfl (pi_seq (pv 0)) (pg_name (i := 2) sc_law_parts.nd rfl (by first | exact Or.inl rfl | exact Or.inr rfl))
      (pss_one (ps_if (pt_cmpR op_eq (pe_callB call_len_seq (by rfl) T.len (by decide +kernel) (pa_cons (pv 2) pa_nil)) pe_int (nomark _)) (pss_one (ps_expr (pe_bm PySem.F.plainAttrs_list PySem.F.slot_list_append PySem.F.type_list_append mt_append (pv 1) (pa_cons (pe_op op_add_str pe_str (pe_ix ix_tup (pv 2) pe_int (fun _ _ => rfl))) pa_nil)))) (pss_cons (ps_set (i := 3) sc_law_parts.nd rfl (by first | exact Or.inl rfl | exact Or.inr rfl) (pe_op op_catS (pe_lst (pa_cons (pe_ix ix_tup (pv 2) pe_int (fun _ _ => rfl)) pa_nil)) (pe_lc (own := [("_law_place", 4)]) (g := gName 4) (tt := tYes) rfl sc_law_parts.nd (pi_seq (pe_ix ix_tup (pv 2) pe_int (fun _ _ => rfl))) (blkOk_by (own := [("_law_place", 4)]) (N := N_law_parts) (sc := defScope s_law_parts) (by decide +kernel)) (fun _ _ _ _ _ => (pg_name (i := 4) sc_law_parts.nd rfl (by first | exact Or.inl rfl | exact Or.inr rfl))) (fun _ _ _ _ _ => pts_nil) (fun _ _ _ _ _ => (pe_callTy call_str_int (by rfl) T.str (by decide +kernel) (pa_cons (pv 4) pa_nil))))))
        (pss_one (ps_expr (pe_bm PySem.F.plainAttrs_list PySem.F.slot_list_append PySem.F.type_list_append mt_append (pv 1) (pa_cons (pe_join pe_str (pe_op op_catS (pv 3) (pe_op op_rep (pe_op op_catS (pe_lst (pa_cons pe_str pa_nil)) (pe_lc (own := [("_law_number", 5)]) (g := gName 5) (tt := tYes) rfl sc_law_parts.nd (pi_seq (pe_ix ix_tup (pv 2) pe_int (fun _ _ => rfl))) (blkOk_by (own := [("_law_number", 5)]) (N := N_law_parts) (sc := defScope s_law_parts) (by decide +kernel)) (fun _ _ _ _ _ => (pg_name (i := 5) sc_law_parts.nd rfl (by first | exact Or.inl rfl | exact Or.inr rfl))) (fun _ _ _ _ _ => pts_nil) (fun _ _ _ _ _ => (pe_callTy call_str_int (by rfl) T.str (by decide +kernel) (pa_cons (pv 5) pa_nil))))) (pe_callTy call_int1 (by rfl) T.int (by decide +kernel) (pa_cons (pe_cmpR (op_neD hr.units) (pe_ix ix_tup (pv 2) pe_int (fun _ _ => rfl)) (pe_tup pa_nil) (nomark _)) pa_nil))))) pa_nil))))))))
    (pss_one (ps_ret (pv 1))))), ?_⟩
  have a2 : ArgsOk K G H [v] [.dat (.list (cs.map Ci.D))] := by
    cases a with
    | cons h1 t1 => cases t1; exact .cons h1 .nil
  refine doneBD (P := (· = .list (strsD (cs.map Ci.T)))) 5 rfl rfl ?_ inv a2 fun v d H' i' l' e dq => k v H' i' l' (by subst e; exact dq)
  let Γs : Nat → List Sl := fun i => [.dat (.list (cs.map Ci.D)), .olst (strsD ((cs.take i).map Ci.T)), .any, .any, .any, .any]
  refine b_seq (M' := (· = Γs 0)) (b_setN1 (i := 1) (PN := (· = [])) (by show 1 < 6; omega) (en_lst el_nil) fun ds e => by subst e; rfl) fun Γ' e => ?_
  subst e
  have hml : (cs.map Ci.D).length = cs.length := List.length_map _
  refine b_seq (M' := (· = Γs cs.length)) (b_for (I := fun i Γ' => Γ' = Γs i) (n := (cs.map Ci.D).length) (Pi := fun i d => (cs.map Ci.D)[i]? = some d) (N := fun i Γ' d => Γ'.set 2 (.dat d)) (e0_seq (el_list (ev_var rfl))) rfl (fun i Γ' hi e => by subst e; exact tgb_name (by show 2 < 6; omega)) (fun i Γ' d hi e pd => ?_) fun Γ' e => by rw [e, hml]) fun Γ' e => ?_
  · subst e
    obtain ⟨c, hc, rfl⟩ := map_get pd
    have hlt := (List.getElem?_eq_some_iff.mp hc).1
    have hok := hcs.ok i c hc
    let Γ1 : List Sl := [.dat (.list (cs.map Ci.D)), .olst (strsD ((cs.take i).map Ci.T)), .dat c.D, .any, .any, .any]
    show Bk K _ Γ1 _ _ _ _
    have hol : (strsD ((cs.take i).map Ci.T)).length < 100000 := by unfold strsD; rw [List.length_map, List.length_map, List.length_take]; omega
    have es : strsD ((cs.take (i + 1)).map Ci.T) = strsD ((cs.take i).map Ci.T) ++ [.str c.T] := by rw [take_snoc hc]; unfold strsD; rw [List.map_append, List.map_append]; rfl
    have fin : ∀ Γ' : List Sl, W Γ' [.dat (.list (cs.map Ci.D)), .olst (strsD ((cs.take i).map Ci.T) ++ [.str c.T]), .any, .any, .any, .any] → ∃ Γ3, W Γ' Γ3 ∧ Γ3 = Γs (i + 1) := fun Γ' w => ⟨_, w, by show _ = [_, Sl.olst (strsD ((cs.take (i + 1)).map Ci.T)), _, _, _, _]; rw [es]⟩
    cases c with
    | h kk =>
      have hkl := (nameS_len hok.1).2
      refine b_if (b := true) (eb_test (ev_eq (ev_eqI (ev_len (ds := [.str "", .str kk]) (el_tuple (ev_var rfl))) ev_int) rfl)) (fun _ => ?_) fun e => nomatch e
      refine b_app (j := 1) (P := (· = .str (Ci.h kk).T)) rfl hol (ev_eq (ev_addStr (a := "? ") (b := kk) (by rw [show ("? " : Str).length = 2 by decide +kernel]; omega) ev_str (ev_ixT (n := 1) (ds := [.str "", .str kk]) (ev_var rfl) ev_int rfl)) (by rw [hole_text])) fun e he => fin _ ?_
      subst he
      show W [_, _, _, _, _, _] [_, _, _, _, _, _]
      (repeat (first | exact L2.W.nil | refine L2.W.any ?_ | refine L2.W.eq ?_))
    | s q =>
      obtain ⟨h1, h2, h3, h4, h5, h6, h7⟩ := id hok
      have q0 : ∀ {Γ : List Sl}, Γ[2]? = some (.dat q.D) → EvD K (tOp (rIxT K) (tVar 2) (tC (.int 0))) Γ (· = .str q.name) := fun h => ev_ixT (n := 0) (ds := [.str q.name, .tuple (natsD q.pl), intsT q.nu]) (ev_var h) ev_int rfl
      have q1 : ∀ {Γ : List Sl}, Γ[2]? = some (.dat q.D) → EvD K (tOp (rIxT K) (tVar 2) (tC (.int 1))) Γ (· = .tuple (natsD q.pl)) := fun h => ev_ixT (n := 1) (ds := [.str q.name, .tuple (natsD q.pl), intsT q.nu]) (ev_var h) ev_int rfl
      have q2 : ∀ {Γ : List Sl}, Γ[2]? = some (.dat q.D) → EvD K (tOp (rIxT K) (tVar 2) (tC (.int 2))) Γ (· = .tuple (q.nu.map .int)) := fun h => ev_ixT (n := 2) (ds := [.str q.name, .tuple (natsD q.pl), intsT q.nu]) (ev_var h) ev_int rfl
      refine b_if (b := false) (eb_test (ev_eq (ev_eqI (ev_len (ds := [.str q.name, .tuple (natsD q.pl), intsT q.nu]) (el_tuple (ev_var rfl))) ev_int) rfl)) (fun e => nomatch e) fun _ => ?_
      have hpll : (strsD (q.pl.map fun p => strI (p : Nat))).length = q.pl.length := by unfold strsD; rw [List.length_map, List.length_map]
      have hnl : (strsD (q.nu.map strI)).length = q.nu.length := by unfold strsD; rw [List.length_map, List.length_map]
      let w1 : List PyData := strsD (q.name :: q.pl.map fun p => strI (p : Nat))
      refine b_set (i := 3) (P := (· = .list w1)) (by show 3 < 6; omega) (ev_eq (ev_catL (ds := [PyData.str q.name]) (es := strsD (q.pl.map fun p => strI (p : Nat))) (by rw [hpll]; show 1 + _ ≤ _; omega) (ev_lstE _ (elc (q0 rfl) el_nil)) (ev_lcI (vs := [4]) (es := strsD (q.pl.map fun p => strI (p : Nat))) (N := fun d => Γ1.set 4 (.dat d)) (Pi := fun i d => (natsD q.pl)[i]? = some d) (by rw [hpll]; omega) (by rw [show (strsD (q.pl.map fun p => strI (p : Nat))).length = (natsD q.pl).length by rw [hpll, len_nats]]; exact (e0_seq (el_tuple (q1 rfl))).toI) (fun q => tg_name (by show 4 < 6; omega)) fun j d e pd he => ?_)) rfl) fun d' e' => ?_
      · obtain ⟨n, hn, rfl⟩ := map_get pd
        obtain ⟨s, hs, rfl⟩ := map_get he
        obtain ⟨n', hn', rfl⟩ := map_get hs
        rw [hn] at hn'
        cases hn'
        exact ev_strOf (log_ok (i := (n : Nat)) (by rw [Int.natAbs_natCast]; exact h6 n (List.mem_of_getElem? hn))) (ev_var rfl)
      subst e'
      let Γ2 : List Sl := [.dat (.list (cs.map Ci.D)), .olst (strsD ((cs.take i).map Ci.T)), .dat q.D, .dat (.list w1), .any, .any]
      show Bk K _ Γ2 _ _ _ _
      let m : Nat := if q.nu = [] then 0 else 1
      have hm : m ≤ 1 := by show (if q.nu = [] then 0 else 1) ≤ 1; split <;> omega
      have hne : EvD K (tOp (rNeD K) (tOp (rIxT K) (tVar 2) (tC (.int 2))) (tTup tNil)) Γ2 (· = .bool (decide (m = 1))) := by
        have ok1 : okE 1 (.tuple (q.nu.map .int)) = true := by
          show (q.nu.map PyData.int).all (okE 0) = true
          rw [List.all_map]
          exact List.all_eq_true.mpr fun _ _ => rfl
        refine ev_eq (ev_neE (n := 1) (by omega) ok1 rfl (q2 rfl) (ev_tupE [] el_nil)) (congrArg PyData.bool ?_)
        by_cases e : q.nu = []
        · have : m = 0 := if_pos e
          rw [this, e]
          rfl
        · have : m = 1 := if_neg e
          obtain ⟨a, b, hx⟩ := List.exists_cons_of_ne_nil e
          rw [this, hx]
          rfl
      have hrep : EvD K (tOp rRep (tOp (rCatS K) (tLst (tCons (tC (.str "#")) tNil)) (tLc (iSeq K (tOp (rIxT K) (tVar 2) (tC (.int 2)))) (gName 5) tYes (tCB (fun xs H Q => ∃ i, xs = [.int i] ∧ i.natAbs.log2 < 1920 ∧ Q (.str (toString i)) H) (tCons (tVar 5) tNil)) [5])) (tCB (fun xs H Q => (∃ i, xs = [V.int i] ∧ Q (V.int i) H) ∨ ∃ k, xs = [V.bl k] ∧ Q (V.int (if k = true then 1 else 0)) H) (tCons (tOp (rNeD K) (tOp (rIxT K) (tVar 2) (tC (.int 2))) (tTup tNil)) tNil))) Γ2 (· = .list (strsD (numW q.nu))) := by
        refine ev_eq (ev_repL (ds := [PyData.str "#"] ++ strsD (q.nu.map strI)) (n := m) ?_ (by omega) (en_catL (ds := [PyData.str "#"]) (es := strsD (q.nu.map strI)) (by rw [hnl]; show 1 + _ ≤ _; omega) (ev_lstE _ (elc ev_str el_nil)) (ev_lcI (vs := [5]) (es := strsD (q.nu.map strI)) (N := fun d => Γ2.set 5 (.dat d)) (Pi := fun i d => (q.nu.map PyData.int)[i]? = some d) (by rw [hnl]; omega) (by rw [show (strsD (q.nu.map strI)).length = (q.nu.map PyData.int).length by rw [hnl, List.length_map]]; exact (e0_seq (el_tuple (q2 rfl))).toI) (fun q => tg_name (by show 5 < 6; omega)) fun j d e pd he => ?_)) (ev_eq (ev_intB (b := decide (m = 1)) hne) (congrArg PyData.int ?_))) (congrArg PyData.list ?_)
        · rw [List.length_append, hnl]
          show (1 + q.nu.length) * m ≤ 100000
          have : (1 + q.nu.length) * m ≤ (1 + q.nu.length) * 1 := Nat.mul_le_mul_left _ hm
          omega
        · obtain ⟨n, hn, rfl⟩ := map_get pd
          obtain ⟨s, hs, rfl⟩ := map_get he
          obtain ⟨n', hn', rfl⟩ := map_get hs
          rw [hn] at hn'
          cases hn'
          exact ev_strOf (log_ok (h7 n (List.mem_of_getElem? hn))) (ev_var rfl)
        · by_cases e : q.nu = []
          · have : m = 0 := if_pos e
            rw [this]
            rfl
          · have : m = 1 := if_neg e
            rw [this]
            rfl
        · unfold numW
          by_cases e : q.nu = []
          · have : m = 0 := if_pos e
            rw [this, if_pos e]
            rfl
          · have : m = 1 := if_neg e
            rw [this, if_neg e]
            show ([PyData.str "#"] ++ strsD (q.nu.map strI)) ++ [] = _
            rw [List.append_nil]
            rfl
      have hw1 : w1.length = q.pl.length + 1 := by show (strsD (q.name :: q.pl.map fun p => strI (p : Nat))).length = _; unfold strsD; rw [List.length_map, List.length_cons, List.length_map]
      have hnw : (strsD (numW q.nu)).length ≤ q.nu.length + 1 := by unfold strsD; rw [List.length_map]; exact numW_len _
      have hsum := Ci.sum hok
      refine b_app (j := 1) (P := (· = .str (Ci.s q).T)) rfl hol (ev_join (a := " ") (xs := (Ci.s q).W) (by omega) ev_str (el_list (ev_eq (ev_catL (ds := w1) (es := strsD (numW q.nu)) (by omega) (ev_var rfl) hrep) (congrArg PyData.list ?_)))) fun e he => fin _ ?_
      · show strsD (q.name :: q.pl.map fun p => strI (p : Nat)) ++ strsD (numW q.nu) = strsD (q.name :: (q.pl.map fun p => strI (p : Nat)) ++ numW q.nu)
        unfold strsD
        rw [List.map_append]
      · subst he
        show W [_, _, _, _, _, _] [_, _, _, _, _, _]
        (repeat (first | exact L2.W.nil | refine L2.W.any ?_ | refine L2.W.eq ?_))
  · subst e
    exact b_retR (P := (· = .list (strsD (cs.map Ci.T)))) (ev_eq (ev_var (d := .list (strsD ((cs.take cs.length).map Ci.T))) rfl) (by rw [List.take_length])) fun d e => ⟨d, rfl, e⟩
end
end K94

set_option Elab.async false
set_option linter.all false
set_option maxRecDepth 100000
set_option maxHeartbeats 4000000
namespace K94
open PySem PySem.Spec PyProof.Rows L2 LamX TL
section
variable {P : Program} {w : World} {K : PySem.W.Frag} {mg : Str → Option Value} {base : Heap}
/-! ### what is said -/
abbrev s_law_said : Stmt := topS 32
abbrev N_law_said : List Str := ["_law_ask", "e"]
theorem sc_law_said : FnScope N_law_said ["_law_ask"] (defScope s_law_said) := ⟨rfl, rfl, rfl, by decide +kernel, rfl, by decide +kernel, by decide +kernel⟩
/-- a def of the text that makes lambdas: its code object, that one's table -/
structure DfL (K : PySem.W.Frag) (mg : Str → Option Value) (x : Str) (st : Stmt) (ps : List Str) : Type where
  f : Addr
  fd : FuncData
  c : Addr
  P : Addr
  F : FunC K x x st f fd c
  g : mg x = some (.ref f)
  b : Binds K fd ps []
structure TM (K : PySem.W.Frag) (mg : Str → Option Value) extends TL2 K mg where
  eA : Addr
  mA : mg "AttrError" = some (.ref eA)
  tn : PySem.W.exmOne K (.ref NoText.C) (.ref NoTree.C) = some false
  law_said : Df K mg "_law_said" s_law_said ["_law_ask"]
def hsOf {K : PySem.W.Frag} {mg : Str → Option Value} (T : TM K mg) : List (Addr × Str × Str) := [(T.NoTree.C, "tree", "index"), (T.NoText.C, "text", "row")]
def suiteR (tag f : Str) (C : Addr) : Addr → Value → Option Addr → TS := fun a cls d => tRet (tTup (tCons (tC (.str tag)) (tCons (tXf a cls d C f (tVar 1)) tNil)))
theorem clause_ok {a dx : Addr} {C : Addr} {tag f : Str} {x : V} {xs : List (Str × V)} {σ : L2.St} {H : Hp} {Q : VK} {D : Ends} (hl : σ.length = 2) (hd : D.rt = Q) (hx : H dx = some (.xd xs)) (hf : xs.lookup f = some x) (hq : ∀ p, H p = none → Q (.ref p) (upd H p (.tup [.str tag, x]))) :
    suiteR tag f C a (.ref C) (some dx) (endsAs D (some 1)) (setAs σ a (some 1)) H := by
  subst hd
  obtain ⟨s0, s1, rfl⟩ : ∃ s0 s1, σ = [s0, s1] := by
    match σ, hl with
    | [s0, s1], _ => exact ⟨s0, s1, rfl⟩
  exact ⟨_, rfl, rfl, rfl, dx, xs, x, rfl, hx, hf, by show 2 ≤ sizeLine; decide, fun p hp => hq p hp⟩
theorem said_gives0 {X : Cx} (T : TM X.K X.mg) {g : Addr} {cdv : Value} {q : Str} : GivesTo X N_law_said "_law_said" (defScope s_law_said) g cdv (defBody s_law_said) "_law_ask" q (TRz (hsOf T)) := fun f c' s H Q tl act hc h => by
  refine ⟨_, pss_cons (ps_try_clauses (l := [(.ref T.NoTree.C, some 1, suiteR "tree" "index" T.NoTree.C), (.ref T.NoText.C, some 1, suiteR "text" "row" T.NoText.C), (.ref T.eA, none, fun _ _ _ => tRet (tC (.str "other")))])
      (tb := fun W D σ H => ∃ Ech : XK, (∀ cls d σ' H', Ech cls d H' → σ'.length = 2 → W cls d σ' H') ∧ σ[0]? = some (some (.ref f)) ∧ H c' = some (CodeO c' q) ∧ tl Ech H fun _ H' => D.nx σ H') rfl rfl L2.takes0
      (fun W pn xe tk _ => ⟨fun pins s' σ H' D I ⟨Ech, hW, h1, h2, h3⟩ => (pss_one (ps_expr (act (fun cls d σ H => σ.length = 2 → W cls d σ H) pn xe Ech _ _ (takes_len tk) fun cls d σ' H' he hl => hW cls d σ' H' he hl))).run pins s' σ H' D I ⟨h1, h2, h3⟩⟩)
      (.named sc_law_said.nd rfl rfl ⟨rfl, by decide, Or.inl T.NoTree.m⟩ (fun a oe cls d pn hz hf => pss_one (ps_ret (by exact pe_tup (pa_cons pe_str (pa_cons (pe_xf T.NoTree.xf (T.NoTree.no _ (by decide +kernel)) hz hf (pv 1)) pa_nil)))))
        (.named sc_law_said.nd rfl rfl ⟨rfl, by decide, Or.inl T.NoText.m⟩ (fun a oe cls d pn hz hf => pss_one (ps_ret (by exact pe_tup (pa_cons pe_str (pa_cons (pe_xf T.NoText.xf (T.NoText.no _ (by decide +kernel)) hz hf (pv 1)) pa_nil)))))
          (.plain ⟨rfl, by decide, Or.inl T.mA⟩ (fun a oe cls d pn hz hf => pss_one (ps_ret pe_str))
            .nil))))
    (pss_one (ps_ret pe_non)), ?_⟩
  refine ⟨ERz (hsOf T) Q, fun cls d σ' H' he hl => ?_, rfl, hc, ?_⟩
  · obtain ⟨C, dx, tag, f', x, xs, rfl, rfl, hm, hx, hf, hq⟩ := he
    unfold hsOf at hm
    simp only [List.mem_cons, List.not_mem_nil, or_false] at hm
    rcases hm with e | e
    · cases e
      exact ⟨true, T.NoTree.ex, fun _ a ha => clause_ok hl rfl hx hf hq, fun z => nomatch z⟩
    · cases e
      exact ⟨false, T.tn, fun z => (nomatch z), fun _ => ⟨true, T.NoText.ex, fun _ a ha => clause_ok hl rfl hx hf hq, fun z => nomatch z⟩⟩
  · exact h
theorem said_gives {X : Cx} (T : TM K mg) {g : Addr} {cdv : Value} {q : Str} (hK : X.K = K) (hm : X.mg = mg) : GivesTo X N_law_said "_law_said" (defScope s_law_said) g cdv (defBody s_law_said) "_law_ask" q (TRz (hsOf T)) := by
  subst hK
  subst hm
  exact said_gives0 T
end
end K94

set_option Elab.async false
set_option linter.all false
set_option maxRecDepth 100000
set_option maxHeartbeats 4000000
namespace K94
open PySem PySem.Spec PyProof.Rows L2 LamX TL
section
variable {K : PySem.W.Frag} {G : Fr} {H : Hp} {σ : L2.St} {Γ : List Sl} {te : TE} {P : PyData → Prop} {Tb : List (Addr × Str)}
theorem EnvOk.toW {i : Nat} (e : EnvOk K G H σ Γ) (h : Γ[i]? = some (wellT Tb)) : EnvOk K G H σ (Γ.set i .well) := by
  have hil : i < Γ.length := (List.getElem?_eq_some_iff.mp h).1
  refine ⟨by rw [List.length_set]; exact e.1, fun j t hj => ?_⟩
  by_cases z : i = j
  · subst z
    rw [List.getElem?_set_self hil] at hj
    cases hj
    rcases e.2 i _ h with z | ⟨v, hv, b⟩
    · cases z
    · exact .inr ⟨v, hv, (b G H .refl fun _ _ h => h).1⟩
  · rw [List.getElem?_set_ne z] at hj
    exact e.2 j t hj
/-- what needs the well alone -/
theorem ev_wT (h : Γ[0]? = some (wellT Tb)) (k : EvD K te (Γ.set 0 .well) P) : EvD K te Γ P := fun G σ H ev iv Q q => k G σ H (EnvOk.toW ev h) iv Q q
/-- a place of data where the frame keeps tables aside -/
theorem ev_varT {i : Nat} {d : PyData} (h : Γ[i]? = some (slT K Tb (.dat d))) : EvD K (tVar i) Γ (· = d) := fun G σ H e iv Q q => by
  rcases e.2 i _ h with z | ⟨v, a, b⟩
  · cases z
  · exact ⟨v, a, q v d H iv .refl rfl (b G H .refl fun _ _ h => h).1⟩
theorem dat_T {v : V} {d : PyData} (h : Dq K (G.view H) v d) (t : IsT G Tb) : SlOk K G H v (slT K Tb (.dat d)) := fun G' H' s e => ⟨h.ex e, t.sub s⟩
end
/-! ### promises for good arguments -/
section
variable {P : Program} {w : World} {K : PySem.W.Frag} {mg : Str → Option Value} {base : Heap}
abbrev spTG (K : PySem.W.Frag) : L2.Sp := spS K (fun (c : PyData × Str) ss => ss = [.dat c.1] ∧ GoodTr c.1 c.2) fun c d => d = .str c.2
abbrev spRG (K : PySem.W.Frag) : L2.Sp := spS K (fun (c : PyData × List Ci) ss => ss = [.dat c.1] ∧ GoodTx c.1 c.2) fun c d => d = .list (c.2.map Ci.D)
theorem good_tree_text (T : TF1 K mg) : FnOk P w K mg base CX0 5 T.tree_text.f T.tree_text.fd ["tree"] (spTG K) :=
  FnOk.goodM _ _ (ok_tree_text T) fun ⟨d, t⟩ ss ⟨e, h⟩ => ⟨⟨d, none, t⟩, ⟨e, .inl ⟨rfl, h⟩⟩, fun d' h => h.2, fun C fs ⟨i, z, _⟩ => nomatch z⟩
theorem good_read_tree (T : TI K mg) : FnOk P w K mg base CX0 4 T.read_tree.f T.read_tree.fd ["text"] (spRG K) :=
  FnOk.goodM _ _ (ok_read_tree T) fun ⟨d, t⟩ ss ⟨e, h⟩ => ⟨⟨d, none, t⟩, ⟨e, .inl ⟨rfl, h⟩⟩, fun d' h => h.2, fun C fs ⟨i, z, _⟩ => nomatch z⟩
theorem kb_of {x qual : Str} {st : Stmt} {f : Addr} {fd : FuncData} {p : Str} (F : Fun K x qual st f fd)
    (h : ∀ (kV doc pm : Value) (an : Option Addr) (cdv ct : Value) (a : Value), bindArgs (PySem.W.fnOf x qual (defArgs st) (defBody st) (defScope st) .none kV doc pm an cdv ct) ⟨[a], []⟩ = pure [(p, a)] ∧ bindArgs (PySem.W.fnOf x qual (defArgs st) (defBody st) (defScope st) .none kV doc pm an cdv ct) ⟨[], [(p, a)]⟩ = pure [(p, a)]) :
    KBinds K fd [p] [p] (fun us ws => us ++ ws) (fun us ws => us ++ ws) := by
  obtain ⟨oc, od, kV, doc, pm, an, cdv, ct, osl, rfl, l, c⟩ := F.ex
  refine ⟨fun s us ws hK hl => ?_, fun h1 h2 => h1.append h2⟩
  have hl : (us ++ ws).length = 1 := hl
  match us, ws, hl with
  | [a], [], _ => exact .of_eq (h kV doc pm an cdv ct a).1
  | [], [a], _ => exact .of_eq (h kV doc pm an cdv ct a).2
  | [], [], hl => cases hl
  | _ :: _ :: _, _, hl => exact absurd hl (by simp only [List.cons_append, List.length_cons]; omega)
  | [_], _ :: _, hl => exact absurd hl (by simp only [List.cons_append, List.nil_append, List.length_cons]; omega)
  | [], _ :: _ :: _, hl => exact absurd hl (by simp only [List.nil_append, List.length_cons]; omega)
theorem kb_tree_text {f : Addr} {fd : FuncData} (F : Fun K "tree_text" "tree_text" s_tree_text f fd) : KBinds K fd ["tree"] ["tree"] (fun us ws => us ++ ws) (fun us ws => us ++ ws) := kb_of F fun _ _ _ _ _ _ _ => ⟨rfl, rfl⟩
theorem kb_read_tree {f : Addr} {fd : FuncData} (F : Fun K "read_tree" "read_tree" s_read_tree f fd) : KBinds K fd ["text"] ["text"] (fun us ws => us ++ ws) (fun us ws => us ++ ws) := kb_of F fun _ _ _ _ _ _ _ => ⟨rfl, rfl⟩
/-! ### what the lambdas make -/
theorem ev_saidT {Γ : List Sl} {Tb : List (Addr × Str)} {te : TE} {i : Nat} {p : Fr → Hp → V → Prop} {x : PyData} {j : Int} (T : TM K mg) (hi : Γ[i]? = some (.frm p)) (hp : ∀ G H v, p G H v → IsT G Tb) (hx : EvD K te Γ (· = x)) (hb : BadTr x j) : EvD K (tLamT Tb (TRz (hsOf T)) fun E => tCall (spTT K T.NoTree.C) [] E (tCons te tNil)) Γ (· = .tuple [.str "tree", .int j]) :=
  ev_lamT (P := fun _ => False) (PX := xInt T.NoTree.C "index" (some j)) hi hp (fun E => eg_callD ⟨x, some j, Str.empty⟩ (es_cons hx es_nil) (fun ss ⟨d, r, e1, e2, e3⟩ => ⟨by rw [e1, e2, e3], .inr ⟨j, rfl, hb⟩⟩) (fun d h => nomatch h.1) fun C fs h => h) (fun ⟨_, z⟩ => z.elim) fun C fs ⟨i, e1, e2, e3⟩ => ⟨"tree", "index", .int j, by rw [e2]; exact List.mem_cons_self, by cases e1; rw [e3]; rfl, rfl⟩
theorem ev_saidR {Γ : List Sl} {Tb : List (Addr × Str)} {te : TE} {i : Nat} {p : Fr → Hp → V → Prop} {x : PyData} {j : Int} (T : TM K mg) (hi : Γ[i]? = some (.frm p)) (hp : ∀ G H v, p G H v → IsT G Tb) (hx : EvD K te Γ (· = x)) (hb : BadTx x j) : EvD K (tLamT Tb (TRz (hsOf T)) fun E => tCall (spRT K T.NoText.C) [] E (tCons te tNil)) Γ (· = .tuple [.str "text", .int j]) :=
  ev_lamT (P := fun _ => False) (PX := xInt T.NoText.C "row" (some j)) hi hp (fun E => eg_callD ⟨x, some j, []⟩ (es_cons hx es_nil) (fun ss ⟨d, r, e1, e2, e3⟩ => ⟨by rw [e1, e2, e3], .inr ⟨j, rfl, hb⟩⟩) (fun d h => nomatch h.1) fun C fs h => h) (fun ⟨_, z⟩ => z.elim) fun C fs ⟨i, e1, e2, e3⟩ => ⟨"text", "row", .int j, by rw [e2]; exact List.mem_cons_of_mem _ List.mem_cons_self, by cases e1; rw [e3]; rfl, rfl⟩
end
theorem ok_tag (t : Str) (ht : PyData.strOk t = true) (j : Int) : okE 1 (.tuple [.str t, .int j]) = true := by
  show (PyData.strOk t && (okE 0 (.int j) && true)) = true
  rw [ht]
  rfl
theorem strOk_low {s : Str} (h : lowS s) : PyData.strOk s = true := by
  unfold PyData.strOk
  rw [Array.all_eq_true_iff_forall_mem]
  intro c hc
  have := h c (Array.mem_toList_iff.mpr hc)
  exact decide_eq_true (by omega)
theorem okE_ints (n : Nat) (ds : List PyData) (h : ∀ d ∈ ds, ∃ i, d = .int i) : okE (n + 1) (.tuple ds) = true := by
  show ds.all (okE n) = true
  refine List.all_eq_true.mpr fun d hd => ?_
  obtain ⟨i, rfl⟩ := h d hd
  cases n <;> rfl
theorem Ci.okE {c : Ci} {i : Nat} (o : c.ok i) : okE 2 c.D = true := by
  cases c with
  | s x =>
    obtain ⟨h1, h2, h3, h4, h5, h6, h7⟩ := o
    show (PyData.strOk x.name && (L2.okE 1 (.tuple (natsD x.pl)) && (L2.okE 1 (.tuple (x.nu.map .int)) && true))) = true
    rw [strOk_low h2, okE_ints 0 _ fun d hd => by obtain ⟨p, _, rfl⟩ := List.mem_map.mp hd; exact ⟨_, rfl⟩, okE_ints 0 _ fun d hd => by obtain ⟨p, _, rfl⟩ := List.mem_map.mp hd; exact ⟨_, rfl⟩]
    rfl
  | h k =>
    show (PyData.strOk ("" : Str) && (PyData.strOk k && true)) = true
    rw [strOk_low o.2, show PyData.strOk ("" : Str) = true by decide +kernel]
    rfl
theorem CsOk.okE {cs : List Ci} (h : CsOk cs) : okE 3 (.list (cs.map Ci.D)) = true := by
  show (cs.map Ci.D).all (L2.okE 2) = true
  refine List.all_eq_true.mpr fun d hd => ?_
  obtain ⟨c, hc, rfl⟩ := List.mem_map.mp hd
  obtain ⟨i, hi⟩ := List.mem_iff_getElem?.mp hc
  exact Ci.okE (h.ok i c hi)
theorem sum_take {α : Type} (f : α → Nat) : ∀ (l : List α) (n : Nat), ((l.take n).map f).sum ≤ (l.map f).sum
  | [], n => by simp
  | x :: l, 0 => by simp
  | x :: l, n + 1 => by
    have := sum_take f l n
    simp only [List.take_succ_cons, List.map_cons, List.sum_cons]
    omega
theorem CsOk.take {cs : List Ci} (h : CsOk cs) (n : Nat) : CsOk (cs.take n) := by
  have key : ∀ {i : Nat} {c : Ci}, (cs.take n)[i]? = some c → i < n ∧ cs[i]? = some c := fun {i c} e => by
    have hi := (List.getElem?_eq_some_iff.mp e).1
    rw [List.length_take] at hi
    rw [List.getElem?_take_of_lt (by omega)] at e
    exact ⟨by omega, e⟩
  refine ⟨fun i c e => h.ok i c (key e).2, fun i k e => ?_, by rw [List.length_take]; have := h.len; omega, Nat.le_trans (sum_take _ cs n) h.sum⟩
  obtain ⟨h1, h2⟩ := key e
  rw [List.take_take, Nat.min_eq_left (by omega)]
  exact h.one i k h2
/-- two thousand steps -/
def oneC : Ci := .s ⟨"one", [], []⟩
theorem one_ok (i : Nat) : oneC.ok i := by
  have := names4_ok (s := "one") (by decide +kernel)
  exact ⟨this.1, this.2, fun p h => (nomatch h), Nat.zero_le _, Nat.zero_le _, fun p h => (nomatch h), fun p h => nomatch h⟩
theorem one_T : oneC.T = "one" := by decide +kernel
theorem many_ok {n : Nat} (hn : n ≤ 2000) : CsOk (List.replicate n oneC) := by
  have key : ∀ {i : Nat} {c : Ci}, (List.replicate n oneC)[i]? = some c → c = oneC := fun {i c} e => (List.mem_replicate.mp (List.mem_of_getElem? e)).2
  refine ⟨fun i c e => by rw [key e]; exact one_ok i, fun i k e => ?_, by rw [List.length_replicate]; exact hn, ?_⟩
  · have := key e
    cases this
  · rw [List.map_replicate, List.sum_replicate_nat, one_T, show ("one" : Str).length = 3 by decide +kernel]
    omega
theorem many_T (n : Nat) : (List.replicate n oneC).map Ci.T = List.replicate n ("one" : Str) := by rw [List.map_replicate, one_T]
theorem ones_split {n : Nat} (hn : 0 < n) : Txt.split (Txt.join "; " (List.replicate n ("one" : Str))) "; " = List.replicate n ("one" : Str) := split_parts (fun z => by rw [List.replicate_eq_nil_iff] at z; omega) fun p hp => by
  rw [(List.mem_replicate.mp hp).2]
  decide +kernel
theorem ones_len (n : Nat) : (Txt.join "; " (List.replicate n ("one" : Str))).length ≤ n * 5 := by
  have h := join_len "; " (List.replicate n ("one" : Str))
  rw [List.map_replicate, List.sum_replicate_nat, List.length_replicate, show ("one" : Str).length = 3 by decide +kernel, show ("; " : Str).length = 2 by decide +kernel] at h
  omega
end K94

set_option Elab.async false
set_option linter.all false
set_option maxRecDepth 100000
set_option maxHeartbeats 4000000
namespace K94
open PySem PySem.Spec PyProof.Rows L2 LamX TL
/-- x = e ahead, the frame keeping tables aside: its place tells so from then on -/
theorem doneBT {K : PySem.W.Frag} {G : Fr} {H : Hp} {te : TE} {tu : TS} {D : Ends} {N : List Str} {d : PyData} {P : PyData → Prop} {Tb : List (Addr × Str)} (n : Nat) (hs : L2.start N [] = List.replicate (n + 1) none) (hs2 : ∀ v : V, L2.start N [v] = [v].map some ++ List.replicate n none)
    (h : EvD K te (List.replicate (n + 1) .any) (· = d)) (h2 : Bk K tu ([slT K Tb (.dat d)] ++ List.replicate n .any) NoB (RD P) NoB NoB) (iv : G.inv H) (it : IsT G Tb) (k : ∀ v d H', G.inv H' → G.le H H' → P d → Dq K (G.view H') v d → D.rt v H') : tSeq (tAsg te (gName 0)) tu D (L2.start N []) H := by
  rw [hs]
  have a0 : ArgsOk K G H [] [] := .nil
  refine h G _ H (envOk_of (n + 1) a0) iv _ fun v d' H1 i1 l1 e dq => ?_
  subst e
  have a1 : ArgsOk K G H1 [v] [slT K Tb (.dat d')] := .cons (dat_T dq it) .nil
  have r := doneBD (K := K) (D := D) (P := P) (vs := [v]) (ss := [slT K Tb (.dat d')]) (N := N) n (hs2 v) rfl h2 i1 a1 fun v d H' i' l' p dq => k v d H' i' (l1.trans l') p dq
  rw [hs2 v] at r
  exact r
abbrev s_law_bounds_right : Stmt := topS 36
abbrev N_law_bounds_right : List Str := ["_law_some", "_law_odd"]
theorem sc_law_bounds_right : FnScope N_law_bounds_right [] (defScope s_law_bounds_right) := ⟨rfl, rfl, rfl, by decide +kernel, rfl, by decide +kernel, by decide +kernel⟩
abbrev s_law_right : Stmt := topS 35
abbrev N_law_right : List Str := ["_law_well", "_law_steps_so", "_law_kept", "_law_parts_here", "_law_whole", "_law_at", "_law_odd", "_law_bent"]
theorem sc_law_right : FnScope N_law_right ["_law_well"] (defScope s_law_right) := ⟨rfl, rfl, rfl, by decide +kernel, rfl, by decide +kernel, by decide +kernel⟩
structure TN (K : PySem.W.Frag) (mg : Str → Option Value) extends TM K mg where
  law_bounds_right : DfL K mg "_law_bounds_right" s_law_bounds_right []
  law_right : DfL K mg "_law_right" s_law_right ["_law_well"]
abbrev qBounds : Str := "_law_bounds_right.<locals>.<lambda>"
abbrev qRight : Str := "_law_right.<locals>.<lambda>"
def spBounds (K : PySem.W.Frag) (Tb : List (Addr × Str)) : L2.Sp := fun vs H Q _ => ∃ (G : Fr), G.inv H ∧ IsT G Tb ∧ vs = [] ∧ ∀ H', G.inv H' → G.le H H' → Q (.bl true) H'
section
variable {P : Program} {w : World} {K : PySem.W.Frag} {mg : Str → Option Value} {base : Heap}
theorem ok_law_bounds_right {Tb : List (Addr × Str)} (T : TN K mg) (tb : TabB base mg T.law_bounds_right.c T.law_bounds_right.P) (mem : (T.law_bounds_right.P, qBounds) ∈ Tb) (one : ∀ p ∈ Tb, p.1 = T.law_bounds_right.P → p.2 = qBounds) : FnOk P w K mg base CX0 9 T.law_bounds_right.f T.law_bounds_right.fd [] (spBounds K Tb) := by
  have G_tree_text := good_tree_text (P := P) (w := w) (base := base) T.toTF1
  have G_read_tree := good_read_tree (P := P) (w := w) (base := base) T.toTI
  have X_tree_text := ok_tree_text (P := P) (w := w) (base := base) T.toTF1
  have X_read_tree := ok_read_tree (P := P) (w := w) (base := base) T.toTI
  refine T.law_bounds_right.F.ok sc_law_bounds_right (fun vs H Q E ⟨G, iv, it, hv, _⟩ => by rw [hv]; rfl) (fun A outer s0 H vs Q E hr ⟨G, iv, it, hv, k⟩ => ?_)
  subst hv
  refine ⟨_, (pss_cons (ps_set (i := 0) sc_law_bounds_right.nd rfl (by first | exact Or.inl rfl | exact Or.inr rfl) (pe_op op_rep (pe_lst (pa_cons (pe_tup (pa_cons pe_str (pa_cons (pe_tup pa_nil) (pa_cons (pe_tup pa_nil) pa_nil)))) pa_nil)) pe_int))
    (pss_cons (ps_if (pt_cmpR (op_neD hr.units) (pe_call G_read_tree (hr.mono (by decide)) rfl T.read_tree.g T.read_tree.F.kp T.read_tree.b .nil pass0 (pa_cons (pe_call G_tree_text (hr.mono (by decide)) rfl T.tree_text.g T.tree_text.F.kp T.tree_text.b .nil pass0 (pa_cons (pv 0) pa_nil)) pa_nil)) (pv 0) (nomark _)) (pss_one (ps_ret pe_bl)) pss_nil)
    (pss_cons (ps_if (pt_cmpR (op_neD hr.units) (pe_lamD (k := 5) T.law_said.F rfl T.law_said.g T.law_said.b sc_law_said rfl (Or.inl rfl) (fun cdv => said_gives T.toTM rfl rfl) tb rfl mem one (hr.mono (by decide)) (show LamX.LamS (defScope s_law_bounds_right) _ from LamX.lamS_by (by decide +kernel)) rfl (fun _ _ _ _ _ => rfl) (fun A outer s H E f c' hr2 => (pe_call X_tree_text (hr2.mono (by decide)) rfl T.tree_text.g T.tree_text.F.kp T.tree_text.b .nil (passes_call (takes_of rfl rfl rfl rfl) fun _ _ _ _ h => h) (pa_cons (pe_op (show OpR _ (binaryOp .Add) (rCatS K) from op_catS) (pv 0) (pe_slice (show SlR _ (rSlL K) from sl_list) (pv 0) po_none (po_some pe_int))) pa_nil)))) (pe_tup (pa_cons pe_str (pa_cons (pe_un un_neg pe_int) pa_nil))) (nomark _)) (pss_one (ps_ret pe_bl)) pss_nil)
    (pss_cons (ps_if (pt_cmpR (op_neD hr.units) (pe_lamD (k := 5) T.law_said.F rfl T.law_said.g T.law_said.b sc_law_said rfl (Or.inl rfl) (fun cdv => said_gives T.toTM rfl rfl) tb rfl mem one (hr.mono (by decide)) (show LamX.LamS (defScope s_law_bounds_right) _ from LamX.lamS_by (by decide +kernel)) rfl (fun _ _ _ _ _ => rfl) (fun A outer s H E f c' hr2 => (pe_call X_read_tree (hr2.mono (by decide)) rfl T.read_tree.g T.read_tree.F.kp T.read_tree.b .nil (passes_call (takes_of rfl rfl rfl rfl) fun _ _ _ _ h => h) (pa_cons (pe_joinK K rfl pe_str (pe_op op_rep (pe_lst (pa_cons pe_str pa_nil)) pe_int)) pa_nil)))) (pe_tup (pa_cons pe_str (pa_cons pe_int pa_nil))) (nomark _)) (pss_one (ps_ret pe_bl)) pss_nil)
    (pss_cons (ps_for PassesOwn.never rfl (pi_seq (pe_lst (pa_cons pe_non (pa_cons pe_bl (pa_cons pe_int (pa_cons (pe_lst pa_nil) (pa_cons (pe_tup pa_nil) (pa_cons pe_dnewK (pa_cons pe_str (pa_cons pe_str pa_nil)))))))))) (pg_name (i := 1) sc_law_bounds_right.nd rfl (by first | exact Or.inl rfl | exact Or.inr rfl))
      (pss_one (ps_if (pt_cmpR (op_neD hr.units) (pe_lamD (k := 5) T.law_said.F rfl T.law_said.g T.law_said.b sc_law_said rfl (Or.inl rfl) (fun cdv => said_gives T.toTM rfl rfl) tb rfl mem one (hr.mono (by decide)) (show LamX.LamS (defScope s_law_bounds_right) _ from LamX.lamS_by (by decide +kernel)) rfl (fun _ _ _ _ _ => rfl) (fun A outer s H E f c' hr2 => (pe_call X_tree_text (hr2.mono (by decide)) rfl T.tree_text.g T.tree_text.F.kp T.tree_text.b .nil (passes_call (takes_of rfl rfl rfl rfl) fun _ _ _ _ h => h) (pa_cons (pv 1) pa_nil)))) (pe_tup (pa_cons pe_str (pa_cons (pe_un un_neg pe_int) pa_nil))) (nomark _)) (pss_one (ps_ret pe_bl)) pss_nil)))
    (pss_cons (ps_for PassesOwn.never rfl (pi_seq (pe_lst (pa_cons pe_non (pa_cons pe_int (pa_cons pe_bl (pa_cons (pe_lst pa_nil) (pa_cons (pe_tup (pa_cons pe_str pa_nil)) (pa_cons pe_dnewK pa_nil)))))))) (pg_name (i := 1) sc_law_bounds_right.nd rfl (by first | exact Or.inl rfl | exact Or.inr rfl))
      (pss_one (ps_if (pt_cmpR (op_neD hr.units) (pe_lamD (k := 5) T.law_said.F rfl T.law_said.g T.law_said.b sc_law_said rfl (Or.inl rfl) (fun cdv => said_gives T.toTM rfl rfl) tb rfl mem one (hr.mono (by decide)) (show LamX.LamS (defScope s_law_bounds_right) _ from LamX.lamS_by (by decide +kernel)) rfl (fun _ _ _ _ _ => rfl) (fun A outer s H E f c' hr2 => (pe_call X_read_tree (hr2.mono (by decide)) rfl T.read_tree.g T.read_tree.F.kp T.read_tree.b .nil (passes_call (takes_of rfl rfl rfl rfl) fun _ _ _ _ h => h) (pa_cons (pv 1) pa_nil)))) (pe_tup (pa_cons pe_str (pa_cons (pe_un un_neg pe_int) pa_nil))) (nomark _)) (pss_one (ps_ret pe_bl)) pss_nil)))
    (pss_one (ps_ret pe_bl)))))))), ?_⟩
  let many : List PyData := List.replicate 2000 oneC.D
  have hml : many.length = 2000 := List.length_replicate ..
  have hflat : (List.replicate 2000 [oneC.D]).flatten = many := by
    have key : ∀ n : Nat, (List.replicate n [oneC.D]).flatten = List.replicate n oneC.D := fun n => by
      induction n with
      | zero => rfl
      | succ n ih => rw [List.replicate_succ, List.flatten_cons, ih, List.replicate_succ]; rfl
    exact key 2000
  have hmD : many = (List.replicate 2000 oneC).map Ci.D := by rw [List.map_replicate]
  have t0 : ∀ {Γ : List Sl}, EvD K (tTup tNil) Γ (· = .tuple []) := ev_tupE [] el_nil
  have hmany : EvD K (tOp rRep (tLst (tCons (tTup (tCons (tC (.str "one")) (tCons (tTup tNil) (tCons (tTup tNil) tNil)))) tNil)) (tC (.int 2000))) [.any, .any] (· = .list many) := ev_eq (ev_repL (ds := [oneC.D]) (n := 2000) (by show 1 * 2000 ≤ _; omega) (by omega) (en_lst (elc (ev_tup3' ev_str t0 t0) el_nil)) ev_int) (by rw [hflat])
  refine doneBT (K := K) (P := (· = .bool true)) 1 rfl (fun _ => rfl) hmany ?_ iv it fun v d H' i' l' e dq => by
    subst e
    cases dq
    exact k H' i' l'
  let Γ0 : List Sl := [slT K Tb (.dat (.list many)), .any]
  show Bk K _ Γ0 _ _ _ _
  have hi0 : ∀ {s : Sl}, ([slT K Tb (.dat (.list many)), s] : List Sl)[0]? = some (slT K Tb (.dat (.list many))) := rfl
  have hsome : ∀ {s : Sl}, EvD K (tVar 0) [slT K Tb (.dat (.list many)), s] (· = .list many) := ev_varT rfl
  have hok := many_ok (n := 2000) (by omega)
  have hgood : GoodTr (.list many) (Txt.join "; " (List.replicate 2000 ("one" : Str))) := ⟨true, List.replicate 2000 oneC, by rw [hmD]; rfl, hok, by rw [List.length_replicate]; omega, by show _ = Txt.join "; " ((List.replicate 2000 oneC).map Ci.T); rw [many_T]⟩
  have hlen := ones_len 2000
  have hgx : GoodTx (.str (Txt.join "; " (List.replicate 2000 ("one" : Str)))) (List.replicate 2000 oneC) := ⟨_, rfl, by omega, by rw [ones_split (by omega), many_T], hok⟩
  have okT : ∀ j : Int, okE 1 (.tuple [.str "tree", .int j]) = true := fun j => ok_tag _ (by decide +kernel) j
  have okX : ∀ j : Int, okE 1 (.tuple [.str "text", .int j]) = true := fun j => ok_tag _ (by decide +kernel) j
  -- as many as can be
  refine b_seq (M' := (· = Γ0)) (b_if (b := false) (eb_neSameE (n := 3) (d := .list many) (by omega) (by rw [hmD]; exact hok.okE) (ev_eq (ev_callG ((.str (Txt.join "; " (List.replicate 2000 ("one" : Str))), List.replicate 2000 oneC) : PyData × List Ci) (es_cons (ev_callG ((.list many, Txt.join "; " (List.replicate 2000 ("one" : Str))) : PyData × Str) (es_cons hsome es_nil) fun sl ⟨d, r, e1, e2, e3⟩ => ⟨by rw [e1, e2, e3], hgood⟩) es_nil) fun sl ⟨d, r, e1, e2, e3⟩ => ⟨by rw [e1, e2, e3], hgx⟩) (by rw [hmD])) hsome) (fun e => nomatch e) fun _ => b_next rfl) fun Γ' e => ?_
  subst e
  -- one more
  have hone : many.take 1 = [oneC.D] := rfl
  refine b_seq (M' := (· = Γ0)) (b_if (b := false) (eb_neSameE (n := 1) (d := .tuple [.str "tree", .int (-1)]) (by omega) (okT _) (ev_saidT (i := 0) (Γ := rel Γ0) (Tb := Tb) (x := .list (many ++ [oneC.D])) T.toTM (show (rel Γ0)[0]? = some (slT K Tb (.dat (.list many))) from rfl) (fun G H v z => z.2) (ev_catL (ds := many) (es := [oneC.D]) (by rw [hml]; show 2000 + 1 ≤ _; omega) hsome (ev_eq (ev_slL (ds := many) (lo := none) (hi := some ((1 : Nat) : Int)) hsome eo_none (eo_some ev_int)) (by rw [cutQ_head, hone]))) (.inl ⟨by
    show (decide ((1 : Int) ≤ ((many ++ [oneC.D]).length : Nat)) && decide ((((many ++ [oneC.D]).length : Nat) : Int) ≤ 2000)) = false
    rw [List.length_append, hml]
    decide, rfl⟩)) (ev_tup2 ev_str (ev_neg ev_int))) (fun e => nomatch e) fun _ => b_next rfl) fun Γ' e => ?_
  subst e
  let t1 : Str := Txt.join "; " (List.replicate 2001 ("one" : Str))
  have hones : (List.replicate 2001 [PyData.str "one"]).flatten = strsD (List.replicate 2001 ("one" : Str)) := by
    have key : ∀ n : Nat, (List.replicate n [PyData.str "one"]).flatten = strsD (List.replicate n ("one" : Str)) := fun n => by
      induction n with
      | zero => rfl
      | succ n ih => rw [List.replicate_succ, List.flatten_cons, ih, List.replicate_succ]; rfl
    exact key 2001
  have hlen1 := ones_len 2001
  have hbx : BadTx (.str t1) ((2000 : Nat) : Int) := .inr ⟨t1, List.replicate 2000 oneC, "one", [], rfl, by show (Txt.join "; " (List.replicate 2001 ("one" : Str))).length ≤ _; omega, by
    show Txt.split (Txt.join "; " (List.replicate 2001 ("one" : Str))) "; " = _
    rw [ones_split (by omega), many_T]
    exact List.replicate_succ' .., hok, by rw [List.length_replicate], by show 0 ≤ 3000; omega, by decide +kernel, "one", [], by decide +kernel, wOk_of fun w hw => by
      rw [List.mem_singleton.mp hw]
      exact ⟨by decide +kernel, .inl (by decide +kernel)⟩, Nat.zero_le _, .inr ⟨by decide +kernel, .inr (by rw [List.length_replicate])⟩⟩
  refine b_seq (M' := (· = Γ0)) (b_if (b := false) (eb_neSameE (n := 1) (d := .tuple [.str "text", .int ((2000 : Nat) : Int)]) (by omega) (okX _) (ev_saidR (i := 0) (Γ := rel Γ0) (Tb := Tb) (x := .str t1) T.toTM (show (rel Γ0)[0]? = some (slT K Tb (.dat (.list many))) from rfl) (fun G H v z => z.2) (ev_join (a := "; ") (xs := List.replicate 2001 ("one" : Str)) (by rw [List.map_replicate, List.sum_replicate_nat, List.length_replicate, show ("one" : Str).length = 3 by decide +kernel, show ("; " : Str).length = 2 by decide +kernel]; omega) ev_str (el_list (ev_eq (ev_repL (ds := [PyData.str "one"]) (n := 2001) (by show 1 * 2001 ≤ _; omega) (by omega) (en_lst (elc ev_str el_nil)) ev_int) (by rw [hones])))) hbx) (ev_tup2 ev_str ev_int)) (fun e => nomatch e) fun _ => b_next rfl) fun Γ' e => ?_
  subst e
  -- what is no tree, what is no text
  let odds : List PyData := [.none, .bool true, .int 5, .list [], .tuple [], .dict [], .str "", .str "one"]
  have hw1 : ∀ d : PyData, W ([slT K Tb (.dat (.list many)), .dat d] : List Sl) Γ0 := fun d => by
    show W [_, _] [_, _]
    (repeat (first | exact L2.W.nil | refine L2.W.any ?_ | refine L2.W.eq ?_))
  refine b_seq (M' := (· = Γ0)) (b_for (I := fun i Γ' => Γ' = Γ0) (n := odds.length) (Pi := fun i d => odds[i]? = some d) (N := fun i Γ' d => Γ'.set 1 (.dat d)) (e0_seq (el_list (ev_lstE odds (elc (ev_c fun _ => .non) (elc ev_bl (elc ev_int (elc (ev_lstE [] el_nil) (elc t0 (elc ev_dnew (elc ev_str (elc ev_str el_nil))))))))))) rfl (fun i Γ' hi e => by subst e; exact tgb_name (by show 1 < 2; omega)) (fun i Γ' d hi e pd => ?_) fun Γ' e => e) fun Γ' e => ?_
  · subst e
    have hbad : BadTr d (-1) := by
      have hm := List.mem_of_getElem? pd
      simp only [odds, List.mem_cons, List.not_mem_nil, or_false] at hm
      rcases hm with e | e | e | e | e | e | e | e <;> (subst e; exact .inl ⟨rfl, rfl⟩)
    let Γ1 : List Sl := [slT K Tb (.dat (.list many)), .dat d]
    show Bk K _ Γ1 _ _ _ _
    exact b_if (b := false) (eb_neSameE (n := 1) (d := .tuple [.str "tree", .int (-1)]) (by omega) (okT _) (ev_saidT (i := 0) (Γ := rel Γ1) (Tb := Tb) (x := d) T.toTM (show (rel Γ1)[0]? = some (slT K Tb (.dat (.list many))) from rfl) (fun G H v z => z.2) (ev_var rfl) hbad) (ev_tup2 ev_str (ev_neg ev_int))) (fun e => nomatch e) fun _ => b_next ⟨Γ0, hw1 d, rfl⟩
  subst e
  let odds2 : List PyData := [.none, .int 5, .bool true, .list [], .tuple [.str "one"], .dict []]
  refine b_seq (M' := (· = Γ0)) (b_for (I := fun i Γ' => Γ' = Γ0) (n := odds2.length) (Pi := fun i d => odds2[i]? = some d) (N := fun i Γ' d => Γ'.set 1 (.dat d)) (e0_seq (el_list (ev_lstE odds2 (elc (ev_c fun _ => .non) (elc ev_int (elc ev_bl (elc (ev_lstE [] el_nil) (elc (ev_tupE _ (elc ev_str el_nil)) (elc ev_dnew el_nil))))))))) rfl (fun i Γ' hi e => by subst e; exact tgb_name (by show 1 < 2; omega)) (fun i Γ' d hi e pd => ?_) fun Γ' e => e) fun Γ' e => ?_
  · subst e
    have hbad : BadTx d (-1) := by
      have hm := List.mem_of_getElem? pd
      simp only [odds2, List.mem_cons, List.not_mem_nil, or_false] at hm
      rcases hm with e | e | e | e | e | e <;> (subst e; exact .inl ⟨fun t z => (nomatch z), rfl⟩)
    let Γ1 : List Sl := [slT K Tb (.dat (.list many)), .dat d]
    show Bk K _ Γ1 _ _ _ _
    exact b_if (b := false) (eb_neSameE (n := 1) (d := .tuple [.str "text", .int (-1)]) (by omega) (okX _) (ev_saidR (i := 0) (Γ := rel Γ1) (Tb := Tb) (x := d) T.toTM (show (rel Γ1)[0]? = some (slT K Tb (.dat (.list many))) from rfl) (fun G H v z => z.2) (ev_var rfl) hbad) (ev_tup2 ev_str (ev_neg ev_int))) (fun e => nomatch e) fun _ => b_next ⟨Γ0, hw1 d, rfl⟩
  subst e
  exact b_ret ev_bl fun d e => ⟨d, rfl, e⟩
end
end K94

set_option Elab.async false
set_option linter.all false
set_option maxRecDepth 100000
set_option maxHeartbeats 4000000
namespace K94
open PySem PySem.Spec PyProof.Rows L2 LamX TL
theorem ev_callGx {K : PySem.W.Frag} {Γ : List Sl} {ta : TA} {γ : Type} {pre : γ → List Sl → Prop} {post : γ → PyData → Prop} {PS : List Sl → Prop} {E : XK} (h : EvS K ta Γ PS) {Qc : γ → Prop} (hp : ∀ ss, PS ss → ∃ c, pre c ss ∧ Qc c) : EvD K (tCall (spS K pre post) [] E ta) Γ (fun d => ∃ c, Qc c ∧ post c d) := fun G σ H e i Q q =>
  h G σ H e i _ fun vs ss H1 i1 l1 p1 as => by
    rw [List.append_nil]
    obtain ⟨c, hc, hq⟩ := hp ss p1
    exact ⟨G, ss, c, i1, as, hc, fun v d H' i' l' p' dq => q v d H' i' (l1.trans l') ⟨c, hq, p'⟩ dq⟩
section
variable {K : PySem.W.Frag}
theorem ev_drawP {Γ : List Sl} {E : XK} {te : TE} {i : Nat} {Q : Int → Prop} (hi : Γ[i]? = some .well) (h : EvD K te Γ (fun d => ∃ m, d = .int m ∧ Q m)) (h0 : ∀ m, Q m → 0 < m ∧ m.natAbs < 2 ^ 100) : EvD K (tCall (spDraw K) [] E (tCons (tVar i) (tCons te tNil))) Γ (fun d => ∃ (n : Nat) (m : Int), d = .int n ∧ (n : Int) < m ∧ Q m) :=
  (ev_call (es_well hi (es_cons h es_nil)) fun ss ⟨r, e1, d, r2, e2, ⟨m, e3, hq⟩, e4⟩ => ⟨m, by rw [e1, e2, e3, e4], (h0 m hq).1, (h0 m hq).2⟩).imp fun d ⟨ss, ⟨r, e1, d', r2, e2, ⟨m, e3, hq⟩, e4⟩, hp⟩ => by
    obtain ⟨n, e5, e6⟩ := hp m (by rw [e1, e2, e3, e4])
    exact ⟨n, m, e5, e6, hq⟩
theorem ev_opP {Γ : List Sl} {te tb : TE} {P1 P2 : Int → Prop} {f : Int → Int → V} {g : Int → Int → PyData} (hg : ∀ i j H, Dq K H (f i j) (g i j)) (h1 : EvD K te Γ (fun d => ∃ n, d = .int n ∧ P1 n)) (h2 : EvD K tb Γ (fun d => ∃ n, d = .int n ∧ P2 n)) :
    EvD K (tOp (rI0 f) te tb) Γ (fun d => ∃ i j, P1 i ∧ P2 j ∧ d = g i j) := fun G σ H e i Q q =>
  h1 G σ H e i _ fun v d H1 i1 l1 ⟨n, p1, p1'⟩ dq => h2 G σ H1 (e.le l1) i1 _ fun v2 d2 H2 i2 l2 ⟨m, p2, p2'⟩ dq2 => by
    subst p1; subst p2
    cases dq; cases dq2
    exact ⟨n, m, rfl, rfl, q _ _ H2 i2 (l1.trans l2) ⟨n, m, p1', p2', rfl⟩ (hg n m _)⟩
end
/-- a well, and the tables of the lambdas aside -/
def spRight (K : PySem.W.Frag) (Tb : List (Addr × Str)) : L2.Sp := fun vs H Q _ => ∃ (G : Fr) (a : Addr) (q : Int), G.inv H ∧ IsT G Tb ∧ vs = [.ref a] ∧ IsW G a q ∧ ∀ H', G.inv H' → G.le H H' → Q (.bl true) H'
section
variable {P : Program} {w : World} {K : PySem.W.Frag} {mg : Str → Option Value} {base : Heap}
theorem ok_law_right {Tb : List (Addr × Str)} (T : TN K mg) (tb : TabB base mg T.law_right.c T.law_right.P) (mem : (T.law_right.P, qRight) ∈ Tb) (one : ∀ p ∈ Tb, p.1 = T.law_right.P → p.2 = qRight) : FnOk P w K mg base CX0 9 T.law_right.f T.law_right.fd ["_law_well"] (spRight K Tb) := by
  have G_tree_text := good_tree_text (P := P) (w := w) (base := base) T.toTF1
  have G_read_tree := good_read_tree (P := P) (w := w) (base := base) T.toTI
  have X_tree_text := ok_tree_text (P := P) (w := w) (base := base) T.toTF1
  have X_read_tree := ok_read_tree (P := P) (w := w) (base := base) T.toTI
  have G_law_draw := ok_law_draw (P := P) (w := w) (base := base) T.toTL1
  have G_law_one := ok_law_one (P := P) (w := w) (base := base) T.toTL1
  have G_law_steps := ok_law_steps (P := P) (w := w) (base := base) T.toTL1
  have G_law_parts := ok_law_parts (P := P) (w := w) (base := base) T.toTL2
  have G_law_odd_steps := ok_law_odd_steps (P := P) (w := w) (base := base) T.toTL2
  have G_law_odd_parts := ok_law_odd_parts (P := P) (w := w) (base := base) T.toTL2
  refine T.law_right.F.ok sc_law_right (fun vs H Q E ⟨G, a, q, iv, it, hv, _⟩ => by rw [hv]; rfl) (fun A outer s0 H vs Q E hr ⟨G, a, q, inv, it, hv, hw, k⟩ => ?_)
  subst hv
  refine ⟨_, (pss_cons (ps_set (i := 1) sc_law_right.nd rfl (by first | exact Or.inl rfl | exact Or.inr rfl) (pe_call G_law_steps (hr.mono (by decide)) rfl T.law_steps.g T.law_steps.F.kp T.law_steps.b .nil pass0 (pa_cons (pv 0) (pa_cons (pe_op op_add pe_int (pe_call G_law_draw (hr.mono (by decide)) rfl T.law_draw.g T.law_draw.F.kp T.law_draw.b .nil pass0 (pa_cons (pv 0) (pa_cons (pe_call G_law_one (hr.mono (by decide)) rfl T.law_one.g T.law_one.F.kp T.law_one.b .nil pass0 (pa_cons (pv 0) (pa_cons (pe_lst (pa_cons pe_int (pa_cons pe_int pa_nil))) pa_nil))) pa_nil)))) pa_nil))))
    (pss_cons (ps_par (i := 2) (j := 3) (by rfl) sc_law_right.nd rfl rfl (by decide) rfl rfl (pa_cons (pe_callTy call_list_of (by rfl) T.list (by decide +kernel) (pa_cons (pv 1) pa_nil)) (pa_cons (pe_call G_law_parts (hr.mono (by decide)) rfl T.law_parts.g T.law_parts.F.kp T.law_parts.b .nil pass0 (pa_cons (pv 1) pa_nil)) pa_nil)) (by rfl))
    (pss_cons (ps_set (i := 4) sc_law_right.nd rfl (by first | exact Or.inl rfl | exact Or.inr rfl) (pe_join pe_str (pv 3)))
    (pss_cons (ps_if (PW.pt (pw_or (pt_cmpR op_ne (pe_call G_tree_text (hr.mono (by decide)) rfl T.tree_text.g T.tree_text.F.kp T.tree_text.b .nil pass0 (pa_cons (pv 1) pa_nil)) (pv 4) (nomark _)) (pw_or1 (pt_cmpR op_ne (pe_callK0 G_tree_text (hr.mono (by decide)) rfl T.tree_text.g T.tree_text.F.kp (kb_tree_text T.tree_text.F) pass0 (pk_cons (pe_tupleOf (by rfl) T.tuple (pv 1)) pk_nil)) (pv 4) (nomark _))))) (pss_one (ps_ret pe_bl)) pss_nil)
    (pss_cons (ps_if (PW.pt (pw_or (pt_cmpR (op_neD hr.units) (pe_call G_read_tree (hr.mono (by decide)) rfl T.read_tree.g T.read_tree.F.kp T.read_tree.b .nil pass0 (pa_cons (pv 4) pa_nil)) (pv 2) (nomark _)) (pw_or (pt_cmpR (op_neD hr.units) (pe_callK0 G_read_tree (hr.mono (by decide)) rfl T.read_tree.g T.read_tree.F.kp (kb_read_tree T.read_tree.F) pass0 (pk_cons (pv 4) pk_nil)) (pv 2) (nomark _)) (pw_or1 (pt_cmpR (op_neD hr.units) (pv 1) (pv 2) (nomark _)))))) (pss_one (ps_ret pe_bl)) pss_nil)
    (pss_cons (ps_set (i := 5) sc_law_right.nd rfl (by first | exact Or.inl rfl | exact Or.inr rfl) (pe_call G_law_draw (hr.mono (by decide)) rfl T.law_draw.g T.law_draw.F.kp T.law_draw.b .nil pass0 (pa_cons (pv 0) (pa_cons (pe_op op_add (pe_callB call_len_seq (by rfl) T.len (by decide +kernel) (pa_cons (pv 1) pa_nil)) pe_int) pa_nil))))
    (pss_cons (ps_for PassesOwn.never rfl (pi_seq (pe_call G_law_odd_steps (hr.mono (by decide)) rfl T.law_odd_steps.g T.law_odd_steps.F.kp T.law_odd_steps.b .nil pass0 (pa_cons (pv 5) pa_nil))) (pg_name (i := 6) sc_law_right.nd rfl (by first | exact Or.inl rfl | exact Or.inr rfl))
      (pss_one (ps_if (pt_cmpR (op_neD hr.units) (pe_lamD (k := 5) T.law_said.F rfl T.law_said.g T.law_said.b sc_law_said rfl (Or.inl rfl) (fun cdv => said_gives T.toTM rfl rfl) tb rfl mem one (hr.mono (by decide)) (show LamX.LamS (defScope s_law_right) _ from LamX.lamS_by (by decide +kernel)) rfl (fun _ _ _ _ _ => rfl) (fun A outer s H E f c' hr2 => (pe_call X_tree_text (hr2.mono (by decide)) rfl T.tree_text.g T.tree_text.F.kp T.tree_text.b .nil (passes_call (takes_of rfl rfl rfl rfl) fun _ _ _ _ h => h) (pa_cons (pe_op (show OpR _ (binaryOp .Add) (rCatS K) from op_catS) (pe_op (show OpR _ (binaryOp .Add) (rCatS K) from op_catS) (pe_slice (show SlR _ (rSlL K) from sl_list) (pv 1) po_none (po_some (pv 5))) (pe_lst (pa_cons (pv 6) pa_nil))) (pe_slice (show SlR _ (rSlL K) from sl_list) (pv 1) (po_some (pv 5)) po_none)) pa_nil)))) (pe_tup (pa_cons pe_str (pa_cons (pv 5) pa_nil))) (nomark _)) (pss_one (ps_ret pe_bl)) pss_nil)))
    (pss_cons (ps_for PassesOwn.never rfl (pi_seq (pe_call G_law_odd_parts (hr.mono (by decide)) rfl T.law_odd_parts.g T.law_odd_parts.F.kp T.law_odd_parts.b .nil pass0 (pa_cons (pv 5) pa_nil))) (pg_name (i := 6) sc_law_right.nd rfl (by first | exact Or.inl rfl | exact Or.inr rfl))
      (pss_cons (ps_set (i := 7) sc_law_right.nd rfl (by first | exact Or.inl rfl | exact Or.inr rfl) (pe_join pe_str (pe_op op_catS (pe_op op_catS (pe_slice sl_list (pv 3) po_none (po_some (pv 5))) (pe_lst (pa_cons (pv 6) pa_nil))) (pe_slice sl_list (pv 3) (po_some (pv 5)) po_none))))
      (pss_one (ps_if (pt_cmpR (op_neD hr.units) (pe_lamD (k := 5) T.law_said.F rfl T.law_said.g T.law_said.b sc_law_said rfl (Or.inl rfl) (fun cdv => said_gives T.toTM rfl rfl) tb rfl mem one (hr.mono (by decide)) (show LamX.LamS (defScope s_law_right) _ from LamX.lamS_by (by decide +kernel)) rfl (fun _ _ _ _ _ => rfl) (fun A outer s H E f c' hr2 => (pe_call X_read_tree (hr2.mono (by decide)) rfl T.read_tree.g T.read_tree.F.kp T.read_tree.b .nil (passes_call (takes_of rfl rfl rfl rfl) fun _ _ _ _ h => h) (pa_cons (pv 7) pa_nil)))) (pe_tup (pa_cons pe_str (pa_cons (pv 5) pa_nil))) (nomark _)) (pss_one (ps_ret pe_bl)) pss_nil))))
    (pss_cons (ps_if (pt_cmpR (op_neD hr.units) (pe_lamD (k := 5) T.law_said.F rfl T.law_said.g T.law_said.b sc_law_said rfl (Or.inl rfl) (fun cdv => said_gives T.toTM rfl rfl) tb rfl mem one (hr.mono (by decide)) (show LamX.LamS (defScope s_law_right) _ from LamX.lamS_by (by decide +kernel)) rfl (fun _ _ _ _ _ => rfl) (fun A outer s H E f c' hr2 => (pe_call X_tree_text (hr2.mono (by decide)) rfl T.tree_text.g T.tree_text.F.kp T.tree_text.b .nil (passes_call (takes_of rfl rfl rfl rfl) fun _ _ _ _ h => h) (pa_cons (pe_lst (pa_cons (pe_tup (pa_cons pe_str (pa_cons pe_str pa_nil))) (pa_cons (pe_tup (pa_cons pe_str (pa_cons (pe_tup pa_nil) (pa_cons (pe_tup pa_nil) pa_nil)))) (pa_cons (pe_tup (pa_cons pe_str (pa_cons pe_str pa_nil))) pa_nil)))) pa_nil)))) (pe_tup (pa_cons pe_str (pa_cons pe_int pa_nil))) (nomark _)) (pss_one (ps_ret pe_bl)) pss_nil)
    (pss_cons (ps_if (pt_cmpR (op_neD hr.units) (pe_lamD (k := 5) T.law_said.F rfl T.law_said.g T.law_said.b sc_law_said rfl (Or.inl rfl) (fun cdv => said_gives T.toTM rfl rfl) tb rfl mem one (hr.mono (by decide)) (show LamX.LamS (defScope s_law_right) _ from LamX.lamS_by (by decide +kernel)) rfl (fun _ _ _ _ _ => rfl) (fun A outer s H E f c' hr2 => (pe_call X_read_tree (hr2.mono (by decide)) rfl T.read_tree.g T.read_tree.F.kp T.read_tree.b .nil (passes_call (takes_of rfl rfl rfl rfl) fun _ _ _ _ h => h) (pa_cons pe_str pa_nil)))) (pe_tup (pa_cons pe_str (pa_cons pe_int pa_nil))) (nomark _)) (pss_one (ps_ret pe_bl)) pss_nil)
    (pss_one (ps_ret (pe_cmpR (op_eqD hr.units) (pv 1) (pv 2) (nomark _)))))))))))))), ?_⟩
  have hargs : ArgsOk K G H [.ref a] [wellT Tb] := .cons (wellT_ok rfl hw it) .nil
  refine doneBD (K := K) (P := (· = .bool true)) 7 rfl rfl ?_ inv hargs fun v d H' i' l' p' dq => by
    subst p'
    cases dq
    exact k H' i' l'
  have okT : ∀ j : Int, okE 1 (.tuple [.str "tree", .int j]) = true := fun j => ok_tag _ (by decide +kernel) j
  have okX : ∀ j : Int, okE 1 (.tuple [.str "text", .int j]) = true := fun j => ok_tag _ (by decide +kernel) j
  -- steps
  refine b_set (i := 1) (P := fun d => ∃ cs : List Ci, d = .list (cs.map Ci.D) ∧ CsOk cs ∧ 1 ≤ cs.length ∧ cs.length ≤ 30) (by show 1 < 8; omega) ((ev_callGx (Qc := fun n : Nat => 1 ≤ n ∧ n ≤ 30) (es_wellT rfl (es_cons (P := fun d => ∃ n : Nat, d = .int (n : Nat) ∧ 1 ≤ n ∧ n ≤ 30) ((ev_opP (g := fun i j => .int (i + j)) (P1 := (· = 1)) (P2 := fun z => ∃ m : Nat, z = (m : Nat) ∧ m < 30) (fun _ _ _ => .int _) (ev_int.imp fun d e => ⟨1, e, rfl⟩) (ev_wT rfl ((ev_drawP (i := 0) (Q := fun m => 3 ≤ m ∧ m ≤ 30) rfl ((ev_one (ds := [.int 3, .int 30]) rfl (ev_lstE _ (elc ev_int (elc ev_int el_nil))) (by decide) (by decide)).imp fun d hd => ?_) fun m hm => ⟨by omega, pow100 (by omega)⟩).imp fun d ⟨n, m, e, h1, h2⟩ => ⟨_, e, n, rfl, by omega⟩))).imp fun d ⟨z, y, e1, ⟨m, e2, e3⟩, e4⟩ => ⟨m + 1, by rw [e4, e1, e2]; exact congrArg PyData.int (by omega), by omega, by omega⟩) es_nil)) fun ss h => ?_).imp fun d h => ?_) fun d ⟨cs, e, hcs, hl1, hl30⟩ => ?_
  · simp only [List.mem_cons, List.mem_nil_iff, or_false] at hd
    rcases hd with e | e <;> exact ⟨_, e, by decide, by decide⟩
  · obtain ⟨r, e1, d, r2, e2, ⟨n, e3, e4⟩, e5⟩ := h
    exact ⟨n, ⟨by rw [e1, e2, e3, e5], e4⟩, e4⟩
  · obtain ⟨n, hn, cs, e1, e2, e3⟩ := h
    exact ⟨cs, e1, e2, by omega, by omega⟩
  subst e
  have hml : (cs.map Ci.D).length = cs.length := List.length_map _
  let steps : PyData := .list (cs.map Ci.D)
  let parts : List Str := cs.map Ci.T
  have hpl : (strsD parts).length = cs.length := by unfold strsD; rw [List.length_map, List.length_map]
  refine b_par (i := 2) (j := 3) (by show 2 < 8; omega) (by show 3 < 8; omega) (et_dat (ev_listOf (ds := cs.map Ci.D) ((elc (ev_var rfl) el_nil).imp fun zs e => .inl e)) (et_dat (ev_callP [steps] (elc (ev_var rfl) el_nil) ⟨cs, rfl, hcs, by omega, rfl⟩) et_nil)) fun sl ⟨s, r1, e1, ⟨d, e2, e3⟩, s2, r2, e4, ⟨d2, e5, e6⟩, e7⟩ => ⟨.dat steps, .dat (.list (strsD parts)), by rw [e1, e2, e3, e4, e5, e6, e7], ?_⟩
  let whole : Str := textL cs
  have hsum2 : ∀ (xs : List Str), xs.length ≤ 40 → (∀ x ∈ xs, x.length ≤ 100000) → (xs.map (·.length)).sum + xs.length * ("; " : Str).length ≤ 5000000 := fun xs h1 h2 => by
    have := sum_le (f := fun w : Str => w.length) (B := 100000) (l := xs) h2
    rw [show ("; " : Str).length = 2 by decide +kernel]
    have h3 : xs.length * 100000 ≤ 40 * 100000 := Nat.mul_le_mul_right _ h1
    omega
  have hpt : ∀ x ∈ parts, x.length ≤ 50000 ∧ okPB (tl x) = true := fun x hx => by
    obtain ⟨c, hc, rfl⟩ := List.mem_map.mp hx
    obtain ⟨i, hi⟩ := List.mem_iff_getElem?.mp hc
    exact ⟨Ci.T_len (hcs.ok i c hi), okPB_free (Ci.T_semi (hcs.ok i c hi))⟩
  have hpll : parts.length = cs.length := List.length_map _
  have hs1 := hsum2 parts (by omega) fun x hx => by have := (hpt x hx).1; omega
  refine b_set (i := 4) (P := (· = .str whole)) (by show 4 < 8; omega) (ev_join (a := "; ") (xs := parts) (by omega) ev_str (el_list (ev_var rfl))) fun d' e' => ?_
  subst e'
  let Γ0 : List Sl := [wellT Tb, .dat steps, .dat steps, .dat (.list (strsD parts)), .dat (.str whole), .any, .any, .any]
  show Bk K _ Γ0 _ _ _ _
  have hgt : ∀ b, GoodTr (seqD b (cs.map Ci.D)) whole := fun b => ⟨b, cs, rfl, hcs, hl1, rfl⟩
  have hpne : parts ≠ [] := fun z => by
    rw [z] at hpll
    have : (0 : Nat) = cs.length := hpll
    omega
  have hgx : GoodTx (.str whole) cs := ⟨whole, rfl, by have := join_len "; " parts; show (Txt.join "; " parts).length ≤ _; omega, split_parts hpne fun p hp => (hpt p hp).2, hcs⟩
  have ws : ∀ {te : TE}, EvD K te (rel Γ0) (· = .str whole) → EvB K (tTest (tOp rNe te (tVar 4))) (rel Γ0) (· = false) := fun h => eb_test (ev_eq (ev_neS (a := whole) (b := whole) h (ev_var rfl)) (by rw [decide_eq_true rfl]; rfl))
  refine b_seq (M' := (· = Γ0)) (b_if (b := false) ((eb_or (b1 := false) (b2 := false) (ws (ev_callG ((steps, whole) : PyData × Str) (es_cons (ev_var (d := steps) rfl) es_nil) fun sl ⟨d, r, e1, e2, e3⟩ => ⟨by rw [e1, e2, e3], hgt true⟩)) fun _ => ws (ev_callK1 ((.tuple (cs.map Ci.D), whole) : PyData × Str) (ev_tupleOf (el_list (ev_var rfl))) ⟨rfl, hgt false⟩)).imp fun b e => e) (fun e => nomatch e) fun _ => b_next rfl) fun Γ' e => ?_
  subst e
  have ok3 := hcs.okE
  refine b_seq (M' := (· = Γ0)) (b_if (b := false) ((eb_or (b1 := false) (b2 := false) (eb_neSameE (n := 3) (d := steps) (by omega) ok3 (ev_callG ((.str whole, cs) : PyData × List Ci) (es_cons (ev_var (d := .str whole) rfl) es_nil) fun sl ⟨d, r, e1, e2, e3⟩ => ⟨by rw [e1, e2, e3], hgx⟩) (ev_var rfl)) fun _ => (eb_or (b1 := false) (b2 := false) (eb_neSameE (n := 3) (d := steps) (by omega) ok3 (ev_callK1 ((.str whole, cs) : PyData × List Ci) (ev_var (d := .str whole) rfl) ⟨rfl, hgx⟩) (ev_var rfl)) fun _ => eb_neSameE (n := 3) (d := steps) (by omega) ok3 (ev_var rfl) (ev_var rfl)).imp fun b e => e).imp fun b e => e) (fun e => nomatch e) fun _ => b_next rfl) fun Γ' e => ?_
  subst e
  -- where the odd one comes
  refine b_set (i := 5) (P := fun d => ∃ at' : Nat, d = .int (at' : Nat) ∧ at' ≤ cs.length) (by show 5 < 8; omega) ((ev_wT rfl (ev_draw (m := ((cs.length + 1 : Nat) : Int)) rfl (ev_eq (ev_opC1 (a := (cs.length : Nat)) (b := 1) (g' := fun i j => .int (i + j)) (fun _ _ _ => .int _) (ev_eq (ev_len (ds := cs.map Ci.D) (el_list (ev_var rfl))) (by rw [hml])) ev_int) rfl) (by omega) (pow100 (by omega)))).imp fun d ⟨n, e, h⟩ => ⟨n, e, by omega⟩) fun d ⟨at', e, hat⟩ => ?_
  subst e
  let Γ1 : Sl → Sl → List Sl := fun s6 s7 => [wellT Tb, .dat steps, .dat steps, .dat (.list (strsD parts)), .dat (.str whole), .dat (.int (at' : Nat)), s6, s7]
  show Bk K _ (Γ1 .any .any) _ _ _ _
  have hcsT := hcs.take at'
  have htl : (cs.take at').length = at' := by rw [List.length_take]; omega
  have hw1 : ∀ a b : Sl, W (Γ1 a b) (Γ1 .any .any) := fun a b => by
    show W [_, _, _, _, _, _, _, _] [_, _, _, _, _, _, _, _]
    (repeat (first | exact L2.W.nil | refine L2.W.any ?_ | refine L2.W.eq ?_))
  refine b_seq (M' := (· = Γ1 .any .any)) (b_for (I := fun i Γ' => Γ' = Γ1 .any .any) (n := (oddSteps (at' : Nat)).length) (Pi := fun i d => (oddSteps (at' : Nat))[i]? = some d) (N := fun i Γ' d => Γ'.set 6 (.dat d)) (e0_seq (el_list (ev_callP [.int (at' : Nat)] (elc (ev_var rfl) el_nil) ⟨_, rfl, rfl⟩))) rfl (fun i Γ' hi e => by subst e; exact tgb_name (by show 6 < 8; omega)) (fun i Γ' y hi e pd => ?_) fun Γ' e => e) fun Γ' e => ?_
  · subst e
    obtain ⟨y1, y2, y3⟩ := odd_steps (List.mem_of_getElem? pd)
    have hbad : BadTr (.list ((cs.take at').map Ci.D ++ [y] ++ (cs.drop at').map Ci.D)) (at' : Nat) := .inr ⟨true, cs.take at', y, (cs.drop at').map Ci.D, by rw [List.append_assoc]; rfl, by rw [htl], hcsT, by rw [htl, List.length_map, List.length_drop]; omega, y1, .inl y2, by rw [htl]; exact y3⟩
    let Γ2 : List Sl := Γ1 (.dat y) .any
    show Bk K _ Γ2 _ _ _ _
    refine b_if (b := false) (eb_neSameE (n := 1) (d := .tuple [.str "tree", .int (at' : Nat)]) (by omega) (okT _) (ev_saidT (i := 0) (Γ := rel Γ2) (Tb := Tb) (x := .list ((cs.take at').map Ci.D ++ [y] ++ (cs.drop at').map Ci.D)) T.toTM (show (rel Γ2)[0]? = some (wellT Tb) from rfl) (fun G H v z => z.2) (ev_catL (ds := (cs.take at').map Ci.D ++ [y]) (es := (cs.drop at').map Ci.D) ?_ (ev_catL (ds := (cs.take at').map Ci.D) (es := [y]) ?_ (ev_eq (ev_slL (ds := cs.map Ci.D) (ev_var rfl) eo_none (eo_some (ev_var rfl))) (by rw [cutQ_head, List.map_take])) (ev_lstE _ (elc (ev_var rfl) el_nil))) (ev_eq (ev_slL (ds := cs.map Ci.D) (lo := some ((at' : Nat) : Int)) (hi := none) (ev_var rfl) (eo_some (ev_var rfl)) eo_none) (by rw [cutQ_from _ (by rw [hml]; exact hat), List.map_drop]))) hbad) (ev_tup2 ev_str (ev_var rfl))) (fun e => nomatch e) fun _ => b_next ⟨_, hw1 _ _, rfl⟩
    · rw [List.length_append, List.length_map, htl, List.length_map, List.length_drop]
      show at' + 1 + (cs.length - at') ≤ 100000
      omega
    · rw [List.length_map, htl]
      show at' + 1 ≤ 100000
      omega
  subst e
  refine b_seq (M' := (· = Γ1 .any .any)) (b_for (I := fun i Γ' => Γ' = Γ1 .any .any) (n := (strsD (oddParts at')).length) (Pi := fun i d => (strsD (oddParts at'))[i]? = some d) (N := fun i Γ' d => Γ'.set 6 (.dat d)) (e0_seq (el_list (ev_callP [.int (at' : Nat)] (elc (ev_var rfl) el_nil) ⟨at', rfl, by omega, rfl⟩))) rfl (fun i Γ' hi e => by subst e; exact tgb_name (by show 6 < 8; omega)) (fun i Γ' y hi e pd => ?_) fun Γ' e => e) fun Γ' e => ?_
  · subst e
    obtain ⟨p, hp, rfl⟩ := map_get pd
    have hpm : p ∈ oddParts (cs.take at').length := by rw [htl]; exact List.mem_of_getElem? hp
    obtain ⟨hrej, hpb⟩ := odd_parts (cs := cs.take at') (by omega) hpm
    let all : List Str := parts.take at' ++ [p] ++ parts.drop at'
    have hal : all.length = cs.length + 1 := by show (parts.take at' ++ [p] ++ parts.drop at').length = _; rw [List.length_append, List.length_append, List.length_take, List.length_drop, hpll]; show min at' cs.length + 1 + (cs.length - at') = _; omega
    have ham : ∀ x ∈ all, x.length ≤ 100000 ∧ okPB (tl x) = true := fun x hx => by
      rcases List.mem_append.mp hx with hx | hx
      · rcases List.mem_append.mp hx with hx | hx
        · have := hpt x (List.mem_of_mem_take hx)
          exact ⟨by omega, this.2⟩
        · rw [List.mem_singleton.mp hx]; exact ⟨hrej.1, hpb⟩
      · have := hpt x (List.mem_of_mem_drop hx)
        exact ⟨by omega, this.2⟩
    have hs2 := hsum2 all (by omega) fun x hx => (ham x hx).1
    let bent : Str := Txt.join "; " all
    have hbl : bent.length ≤ 5000000 := Nat.le_trans (join_len _ _) hs2
    have hsp : Txt.split bent "; " = (cs.take at').map Ci.T ++ p :: (cs.drop at').map Ci.T := by
      rw [show bent = Txt.join "; " all from rfl, split_parts (fun z => by rw [z] at hal; cases hal) fun x hx => (ham x hx).2]
      show parts.take at' ++ [p] ++ parts.drop at' = _
      rw [List.append_assoc, List.map_take, List.map_drop]
      rfl
    have hbad : BadTx (.str bent) (at' : Nat) := .inr ⟨bent, cs.take at', p, (cs.drop at').map Ci.T, rfl, by omega, hsp, hcsT, by rw [htl], by rw [List.length_map, List.length_drop]; omega, hrej⟩
    have hsl : ∀ xs : List Str, (strsD xs).length = xs.length := fun xs => by unfold strsD; rw [List.length_map]
    refine b_set (i := 7) (P := (· = .str bent)) (by show 7 < 8; omega) (ev_join (a := "; ") (xs := all) (by omega) ev_str (el_list (ev_eq (ev_catL (ds := strsD (parts.take at') ++ strsD [p]) (es := strsD (parts.drop at')) ?_ (ev_catL (ds := strsD (parts.take at')) (es := strsD [p]) ?_ (ev_eq (ev_slL (ds := strsD parts) (ev_var rfl) eo_none (eo_some (ev_var rfl))) (by rw [cutQ_head]; unfold strsD; rw [List.map_take])) (ev_lstE _ (elc (ev_var rfl) el_nil))) (ev_eq (ev_slL (ds := strsD parts) (lo := some ((at' : Nat) : Int)) (hi := none) (ev_var rfl) (eo_some (ev_var rfl)) eo_none) (by rw [cutQ_from _ (by rw [hpl]; exact hat)]; unfold strsD; rw [List.map_drop]))) ?_))) fun d' e' => ?_
    · rw [List.length_append, hsl, hsl, hsl, List.length_take, List.length_drop, hpll]
      show min at' cs.length + 1 + (cs.length - at') ≤ 100000
      omega
    · rw [hsl, List.length_take]
      show min at' _ + 1 ≤ 100000
      omega
    · refine congrArg PyData.list ?_
      show _ = strsD (parts.take at' ++ [p] ++ parts.drop at')
      unfold strsD
      rw [List.map_append, List.map_append]
    subst e'
    let Γ2 : List Sl := Γ1 (.dat (.str p)) (.dat (.str bent))
    show Bk K _ Γ2 _ _ _ _
    exact b_if (b := false) (eb_neSameE (n := 1) (d := .tuple [.str "text", .int (at' : Nat)]) (by omega) (okX _) (ev_saidR (i := 0) (Γ := rel Γ2) (Tb := Tb) (x := .str bent) T.toTM (show (rel Γ2)[0]? = some (wellT Tb) from rfl) (fun G H v z => z.2) (ev_var rfl) hbad) (ev_tup2 ev_str (ev_var rfl))) (fun e => nomatch e) fun _ => b_next ⟨_, hw1 _ _, rfl⟩
  subst e
  -- a second hole
  have ka := kinds3_ok (s := "a") (by decide +kernel)
  have t0 : ∀ {Γ : List Sl}, EvD K (tTup tNil) Γ (· = .tuple []) := ev_tupE [] el_nil
  have h1 : CsOk [Ci.h "a"] := csOk_snoc csOk_nil ka (by decide) fun _ => rfl
  have h2 : CsOk [Ci.h "a", oneC] := csOk_snoc (cs := [Ci.h "a"]) h1 (one_ok 1) (by decide) fun z => nomatch z
  have h3 : CsOk [oneC] := csOk_snoc csOk_nil (one_ok 0) (by decide) fun z => nomatch z
  have h4 : CsOk [oneC, Ci.h "a"] := csOk_snoc (cs := [oneC]) h3 ka (by decide) fun _ => rfl
  have hb1 : BadTr (.list [.tuple [.str "", .str "a"], .tuple [.str "one", .tuple [], .tuple []], .tuple [.str "", .str "a"]]) ((2 : Nat) : Int) := .inr ⟨true, [Ci.h "a", oneC], .tuple [.str "", .str "a"], [], rfl, rfl, h2, by decide, by decide +kernel, .inr rfl, rfl⟩
  let Γ3 : List Sl := Γ1 .any .any
  refine b_seq (M' := (· = Γ3)) (b_if (b := false) (eb_neSameE (n := 1) (d := .tuple [.str "tree", .int ((2 : Nat) : Int)]) (by omega) (okT _) (ev_saidT (i := 0) (Γ := rel Γ3) (Tb := Tb) T.toTM (show (rel Γ3)[0]? = some (wellT Tb) from rfl) (fun G H v z => z.2) (ev_lstE _ (elc (ev_tup2 ev_str ev_str) (elc (ev_tup3' ev_str t0 t0) (elc (ev_tup2 ev_str ev_str) el_nil)))) hb1) (ev_tup2 ev_str ev_int)) (fun e => nomatch e) fun _ => b_next rfl) fun Γ' e => ?_
  subst e
  have hb2 : BadTx (.str "one; ? a; ? a") ((2 : Nat) : Int) := .inr ⟨"one; ? a; ? a", [oneC, Ci.h "a"], "? a", [], rfl, by decide +kernel, by decide +kernel, h4, rfl, by decide, by decide +kernel, "?", ["a"], by decide +kernel, wOk_of fun w hw => by
    rcases List.mem_cons.mp hw with e | hw
    · rw [e]; exact ⟨by decide +kernel, .inl ask_whole⟩
    · rw [List.mem_singleton.mp hw]; exact ⟨by decide +kernel, .inl (by decide +kernel)⟩, by decide, .inl ⟨rfl, .inr rfl⟩⟩
  refine b_seq (M' := (· = Γ3)) (b_if (b := false) (eb_neSameE (n := 1) (d := .tuple [.str "text", .int ((2 : Nat) : Int)]) (by omega) (okX _) (ev_saidR (i := 0) (Γ := rel Γ3) (Tb := Tb) T.toTM (show (rel Γ3)[0]? = some (wellT Tb) from rfl) (fun G H v z => z.2) ev_str hb2) (ev_tup2 ev_str ev_int)) (fun e => nomatch e) fun _ => b_next rfl) fun Γ' e => ?_
  subst e
  exact b_retR (P := (· = .bool true)) (ev_eqSameE (n := 3) (d := steps) (by omega) ok3 (ev_var rfl) (ev_var rfl)) fun d e => ⟨d, rfl, e⟩
end
end K94

set_option Elab.async false
set_option linter.all false
set_option maxRecDepth 100000
set_option maxHeartbeats 4000000
namespace K94
open PySem PySem.Spec PyProof.Rows L2 LamX TL
section
variable {P : Program} {w : World} {K : PySem.W.Frag} {mg : Str → Option Value} {base : Heap}
abbrev s_law : Stmt := topS 37
abbrev N_law : List Str := ["_law_script", "_law_k", "_law_cell", "_law_well"]
theorem sc_law : FnScope N_law ["_law_script"] (defScope s_law) := ⟨rfl, rfl, rfl, by decide +kernel, rfl, by decide +kernel, by decide +kernel⟩
theorem for_enum {a : Addr} {xs : List V} {g : L2.TG} {tb : TS} {D : Ends} {σ : L2.St} {H : Hp} (Pv : Nat → L2.St → Hp → Prop) (h0 : Pv 0 σ H) (hl : ∀ i σ H, Pv i σ H → SqL K H a xs)
    (hs : ∀ (i : Nat) x σ H T, xs[i]? = some x → Pv i σ H → H T = none → g (.ref T) σ (upd H T (.tup [.int (i : Int), x])) fun σ2 H2 => tb { D with nx := Pv (i + 1), ct := Pv (i + 1), bk := D.nx } σ2 H2) (hd : ∀ σ H, Pv xs.length σ H → D.nx σ H) :
    ∃ W : Nat → Nat → L2.St → Hp → Prop, (∃ m, W 0 m σ H) ∧ ∀ i m σ H, W i m σ H →
      ((Ite K a).stop i H ∧ D.nx σ H) ∨ ((Ite K a).go i H ∧ ∃ N : L2.St → Hp → Prop, (∀ σ' H', N σ' H' → ∃ m', m' < m ∧ W (i + 1) m' σ' H') ∧ ∀ x H', (Ite K a).yld i H x H' → g x σ H' fun σ2 H2 => tb { D with nx := N, ct := N, bk := D.nx } σ2 H2) := by
  refine ⟨fun i m σ H => m = xs.length - i ∧ i ≤ xs.length ∧ Pv i σ H, ⟨xs.length, by simp, Nat.zero_le _, h0⟩, ?_⟩
  rintro i m σ H ⟨rfl, hi, p⟩
  have q := hl i σ H p
  by_cases hlt : i < xs.length
  · refine .inr ⟨⟨xs, xs[i], q, by simp [hlt]⟩, Pv (i + 1), fun σ' H' p' => ⟨xs.length - (i + 1), by omega, rfl, hlt, p'⟩, fun x H' y => ?_⟩
    obtain ⟨T, y, rfl, hT, rfl, hy⟩ := y
    exact hs i y σ H T (hy xs q) p hT
  · have e : i = xs.length := by omega
    subst e
    exact .inl ⟨⟨xs, q, Nat.le_refl _⟩, hd σ H p⟩
theorem cut_ints {ns : List Int} {lo hi : Option Int} {i : Nat} {y : V} (h : (cutV (ns.map V.int ++ [.int 0]) lo hi)[i]? = some y) : ∃ n, y = V.int n := by
  have m := List.mem_of_getElem? h
  unfold cutV at m
  have m2 := List.mem_of_mem_drop (List.mem_of_mem_take m)
  rcases List.mem_append.mp m2 with m3 | m3
  · obtain ⟨n, _, e⟩ := List.mem_map.mp m3
    exact ⟨n, e.symm⟩
  · exact ⟨0, by simpa using m3⟩
/-- law: the lambdas' tables are empty, or hold what they made -/
def spLaw (K : PySem.W.Frag) (Tb : List (Addr × Str)) : L2.Sp := fun vs H Q _ => ∃ (a : Addr) (ns : List Int), vs = [.ref a] ∧ Tabs Tb H ∧ SqL K H a (ns.map V.int) ∧ ns.length ≤ 63 ∧ ∀ H', Q (.bl true) H'
theorem ok_law {Tb : List (Addr × Str)} (T : TN K mg) (D : Df K mg "law" s_law ["_law_script"]) (tbA : TabB base mg T.law_bounds_right.c T.law_bounds_right.P) (memA : (T.law_bounds_right.P, qBounds) ∈ Tb) (oneA : ∀ p ∈ Tb, p.1 = T.law_bounds_right.P → p.2 = qBounds) (tb : TabB base mg T.law_right.c T.law_right.P) (mem : (T.law_right.P, qRight) ∈ Tb) (one : ∀ p ∈ Tb, p.1 = T.law_right.P → p.2 = qRight) : FnOk P w K mg base CX0 10 D.f D.fd ["_law_script"] (spLaw K Tb) := by
  have G_law_right := ok_law_right (P := P) (w := w) (base := base) T tb mem one
  have G_law_bounds_right := ok_law_bounds_right (P := P) (w := w) (base := base) T tbA memA oneA
  refine D.F.ok sc_law (fun vs H Q E h => ?_) (fun cdv A outer s H vs Q E hr h => ?_)
  · obtain ⟨a, ns, rfl, _⟩ := h
    rfl
  · obtain ⟨a, ns, rfl, hT, hS, hlen, k⟩ := h
    refine ⟨_, (pss_cons (ps_for PassesOwn.never rfl (pi_enum (by rfl) T.enumerate (pa_cons (pe_slice sl_list (pe_op op_catS (pv 0) (pe_lst (pa_cons pe_int pa_nil))) po_none (po_some pe_int)) pa_nil)) (pg_tup rfl (pgs_cons (pg_name (i := 1) sc_law.nd rfl (by first | exact Or.inl rfl | exact Or.inr rfl)) (pgs_cons (pg_name (i := 2) sc_law.nd rfl (by first | exact Or.inl rfl | exact Or.inr rfl)) pgs_nil)))
      (pss_cons (ps_set (i := 3) sc_law.nd rfl (by first | exact Or.inl rfl | exact Or.inr rfl) (pe_lst (pa_cons (pe_op op_mul (pv 2) (pe_callTy call_int1 (by rfl) T.int (by decide +kernel) (pa_cons (pe_cmpR op_ge (pv 2) (pe_op op_pow pe_int pe_int) (nomark _)) pa_nil))) (pa_cons (pe_op op_add (pe_op op_mod (pe_callTy call_int1 (by rfl) T.int (by decide +kernel) (pa_cons (pv 2) pa_nil)) pe_int) (pe_op op_mul pe_int (pv 1))) (pa_cons pe_int pa_nil)))))
      (pss_one (ps_if (PW.pt (pw_or (pt_not (pt_val (pe_call G_law_right (hr.mono (by decide)) rfl T.law_right.g T.law_right.F.kp T.law_right.b .nil pass0 (pa_cons (pv 3) pa_nil)))) (pw_or1 (pt_not (pt_val (pe_call G_law_right (hr.mono (by decide)) rfl T.law_right.g T.law_right.F.kp T.law_right.b .nil pass0 (pa_cons (pv 3) pa_nil))))))) (pss_one (ps_ret pe_bl)) pss_nil))))
    (pss_one (ps_ret (pe_call0 G_law_bounds_right (hr.mono (by decide)) rfl T.law_bounds_right.g T.law_bounds_right.F.kp T.law_bounds_right.b .nil pass0)))), ?_⟩
    have iv0 : (Fr.tb Tb).inv H := hT
    refine ⟨_, rfl, (by show 1 ≤ sizeLine; decide), fun z hz => ⟨a, z, ns.map V.int, [.int 0], rfl, rfl, Evl.ex_l (Evl.Ex.new hz) hS, Evl.sq_of upd_same, ?_, fun c hc => ⟨3, rfl, c, _, rfl, Evl.sq_of upd_same, fun d hd => ⟨d, _, rfl, Evl.sq_of upd_same, ?_⟩⟩⟩⟩
    · rw [List.length_map]
      exact Evl.sz_of (by show ns.length + 1 ≤ 100000; omega)
    · obtain ⟨iv1, _, _⟩ := Fr.new (G := Fr.tb Tb) (o := HO.lst [V.int 0]) iv0 hz
      obtain ⟨iv2, _, _⟩ := Fr.new (G := Fr.tb Tb) (o := HO.lst (List.map V.int ns ++ [V.int 0])) iv1 hc
      obtain ⟨iv5, _, h5⟩ := Fr.new (G := Fr.tb Tb) (o := HO.lst (cutV (List.map V.int ns ++ [V.int 0]) none (some 3))) iv2 hd
      generalize hH5 : upd (upd (upd H z (HO.lst [V.int 0])) c (HO.lst (List.map V.int ns ++ [V.int 0]))) d (HO.lst (cutV (List.map V.int ns ++ [V.int 0]) none (some 3))) = H5 at *
      have s5 : SqL K ((Fr.tb Tb).view H5) d (cutV (ns.map V.int ++ [.int 0]) none (some 3)) := SqL.of h5
      refine for_enum (K := K) (a := d) (xs := cutV (ns.map V.int ++ [.int 0]) none (some 3)) (fun i σ H' => ∃ v1 v2 v3 : Option V, σ = [some (.ref a), v1, v2, v3] ∧ (Fr.tb Tb).inv H' ∧ (Fr.tb Tb).le H5 H')
        ⟨none, none, none, rfl, iv5, .refl⟩ (fun i σ H' ⟨_, _, _, _, _, e⟩ => Fr.upL (exL e s5)) ?_ ?_
      · rintro i y σ H6 T6 hi ⟨v1, v2, v3, rfl, iv6, e6⟩ hT6
        obtain ⟨n, rfl⟩ := cut_ints hi
        refine ⟨T6, [.int (i : Int), .int n], rfl, .inl (.inl upd_same), rfl, _, _, rfl, _, _, rfl, rfl, ?_⟩
        obtain ⟨iv7, e7, _⟩ := Fr.new (G := Fr.tb Tb) (o := HO.tup [V.int (i : Int), V.int n]) iv6 hT6
        generalize upd H6 T6 (HO.tup [V.int (i : Int), V.int n]) = H7 at *
        refine ⟨_, rfl, _, rfl, _, _, rfl, rfl, ⟨by decide, by decide, by decide⟩, _, _, rfl, rfl, .inr ⟨_, rfl, _, _, rfl, rfl, .inr ?_, _, rfl, .inl ⟨_, rfl, _, _, rfl, rfl, (by show (0 : Int) < 2147483647; decide), _, rfl, _, _, rfl, rfl, .inl ⟨by decide, by decide⟩, _, _, rfl, rfl, (by show 3 ≤ sizeLine; decide), fun wl hwl => ?_⟩⟩⟩
        · split <;> exact ⟨by decide, by decide⟩
        · obtain ⟨iv8, e8, h8⟩ := Fr.new (G := Fr.tb Tb) (o := HO.lst [_, _, _]) iv7 hwl
          refine ⟨_, rfl, Fr.wl (Fr.tb Tb) wl _, wl, _, ⟨iv8, _, _, h8⟩, IsT.wl Fr.isT, rfl, Fr.isWl, fun H9 i9 l9 => ?_⟩
          refine ⟨true, rfl, ?_⟩
          refine iteF ⟨_, rfl, Fr.wl (Fr.tb Tb) wl _, wl, _, i9, IsT.wl Fr.isT, rfl, Fr.isWl, fun H10 i10 l10 => ?_⟩
          refine ⟨true, rfl, ?_⟩
          refine iteF ⟨_, _, _, rfl, i10.1, fun b o e => ?_⟩
          have eb := e7 _ _ (e6 _ _ e)
          have hne : b ≠ wl := ne_of_none ((Fr.tb Tb).sub eb) hwl
          exact (hide_some (l10 b o (l9 b o (by show hide _ wl b = _; rw [hide_ne hne]; exact e8 _ _ eb)))).2
      · rintro σ H' ⟨v1, v2, v3, rfl, ivE, e⟩
        exact ⟨Fr.tb Tb, ivE, Fr.isT, rfl, fun H9 _ _ => k _⟩
end
end K94

set_option Elab.async false
set_option linter.all false
set_option maxRecDepth 100000
set_option maxHeartbeats 4000000
namespace K94
open PySem PySem.Spec PyProof.Rows L2 LamX
/-- what an except clause of D makes of C -/
def exmChk (K : PySem.W.Frag) (C D : Addr) (b : Bool) : Bool := PySem.W.exmOne K (.ref C) (.ref D) == some b
theorem exm_of {K : PySem.W.Frag} {C D : Addr} {b : Bool} (h : exmChk K C D b = true) : PySem.W.exmOne K (.ref C) (.ref D) = some b := by
  unfold exmChk at h
  exact beq_iff_eq.mp h
def noneChk (K : PySem.W.Frag) (P : Addr) : Bool := (K.lookup P).isNone
theorem none_of {K : PySem.W.Frag} {P : Addr} (h : noneChk K P = true) : K.lookup P = none := Option.isNone_iff_eq_none.mp h
theorem tab_mk {K : PySem.W.Frag} {x : Str} {f c P : Addr} {oc o2 : Value} {od d2 : Option Addr} {fd : FuncData} {sl s2 : Array (Option Value)} {vs : Array Value} (a : PySem.W.nsIn K mainGlobals x = some (some (.ref f))) (l : K.lookup f = some ⟨oc, od, .func fd, sl⟩) (hc : fd.code = .ref c) (lc : K.lookup c = some ⟨o2, d2, .fields vs, s2⟩) (hv : (vs[11]? : Option Value) = some (.ref P)) : PySem.W.tabIn K x = some (c, P) := by
  unfold PySem.W.tabIn
  rw [a]
  simp only [l, hc, lc, hv]
set_option maxHeartbeats 40000000 in
theorem all_mk {lw : PySem.W.OpenLaw} {qq : Program} {w : World} {K : PySem.W.Frag} {h : Heap} {mg : Str → Option Value} {fa eAA f0 f1 f2 f3 f4 f5 f6 f7 f8 f9 f10 f11 f12 f13 f14 f15 f16 f17 f18 f19 f20 f21 f22 f23 f24 eC0 eI0 eA0 eC1 eI1 eA1 : Addr} (X : K.In h) (G : h.Ns mainGlobals mg) (hfa : mg "law" = some (.ref fa))
    {od0 od1 od2 od3 od4 od5 od6 od7 od8 od9 od10 od11 od12 od13 od14 od15 od16 od17 od18 od19 od20 od21 od22 od23 od24 od25 od26 : Option Addr} {an0 an1 an2 an3 an4 an5 an6 an7 an8 an9 an10 an11 an12 an13 an14 an15 an16 an17 an18 an19 an20 an21 an22 an23 an24 an25 an26 : Option Addr} {sl0 sl1 sl2 sl3 sl4 sl5 sl6 sl7 sl8 sl9 sl10 sl11 sl12 sl13 sl14 sl15 sl16 sl17 sl18 sl19 sl20 sl21 sl22 sl23 sl24 sl25 sl26 : Array (Option Value)} {oc0 oc1 oc2 oc3 oc4 oc5 oc6 oc7 oc8 oc9 oc10 oc11 oc12 oc13 oc14 oc15 oc16 oc17 oc18 oc19 oc20 oc21 oc22 oc23 oc24 oc25 oc26 : Value} {kV0 kV1 kV2 kV3 kV4 kV5 kV6 kV7 kV8 kV9 kV10 kV11 kV12 kV13 kV14 kV15 kV16 kV17 kV18 kV19 kV20 kV21 kV22 kV23 kV24 kV25 kV26 : Value} {dc0 dc1 dc2 dc3 dc4 dc5 dc6 dc7 dc8 dc9 dc10 dc11 dc12 dc13 dc14 dc15 dc16 dc17 dc18 dc19 dc20 dc21 dc22 dc23 dc24 dc25 dc26 : Value} {pm0 pm1 pm2 pm3 pm4 pm5 pm6 pm7 pm8 pm9 pm10 pm11 pm12 pm13 pm14 pm15 pm16 pm17 pm18 pm19 pm20 pm21 pm22 pm23 pm24 pm25 pm26 : Value} {ct0 ct1 ct2 ct3 ct4 ct5 ct6 ct7 ct8 ct9 ct10 ct11 ct12 ct13 ct14 ct15 ct16 ct17 ct18 ct19 ct20 ct21 ct22 ct23 ct24 ct25 ct26 : Value} {cd0 cd1 cd2 cd3 cd4 cd5 cd6 cd7 cd8 cd9 cd10 cd11 cd12 cd13 cd14 cd15 cd16 cd17 cd18 cd19 cd20 cd21 cd24 cd25 cd26 : Value} {t0 t1 t2 t3 t4 t5 : Tok} {nm0 qn0 : Str} {Nn0 : Addr} {bs0 sub0 : List Value} {ab0 : Bool} {sn0 : List Str} {col0 : Option Bool} {dd0 : Option Addr} {m00 m10 m20 m30 m50 : Option Value} {nm1 qn1 : Str} {Nn1 : Addr} {bs1 sub1 : List Value} {ab1 : Bool} {sn1 : List Str} {col1 : Option Bool} {dd1 : Option Addr} {m01 m11 m21 m31 m51 : Option Value} {ca22 pa22 : Addr} {xo22 : Value} {xd22 : Option Addr} {xv22 : Array Value} {xs22 : Array (Option Value)} {er22 : DefRec} {ca23 pa23 : Addr} {xo23 : Value} {xd23 : Option Addr} {xv23 : Array Value} {xs23 : Array (Option Value)} {er23 : DefRec}
    (hTab : ∀ (y : Str) (c P : Addr) (e : DefRec), (recsOf qq).find? (fun r => r.name == y) = some e → PySem.W.tabIn K y = some (c, P) → PySem.W.CodeHd h c P ∧ h.get? P = some { cls := .none, data := .fields #[] })
    (a0 : PySem.W.nsIn K mainGlobals "is_integer" = some (some (.ref f0)))
    (l0 : K.lookup f0 = some ⟨oc0, od0, .func (PySem.W.fnOf "is_integer" "is_integer" (defArgs s_is_integer) (defBody s_is_integer) (defScope s_is_integer) .none kV0 dc0 pm0 an0 cd0 ct0), sl0⟩)
    (c0 : PySem.W.codeIn K cd0 "is_integer" = true)
    (k0 : PySem.W.keepIn K (.ref f0) = true)
    (a1 : PySem.W.nsIn K mainGlobals "is_between" = some (some (.ref f1)))
    (l1 : K.lookup f1 = some ⟨oc1, od1, .func (PySem.W.fnOf "is_between" "is_between" (defArgs s_is_between) (defBody s_is_between) (defScope s_is_between) .none kV1 dc1 pm1 an1 cd1 ct1), sl1⟩)
    (c1 : PySem.W.codeIn K cd1 "is_between" = true)
    (k1 : PySem.W.keepIn K (.ref f1) = true)
    (a2 : PySem.W.nsIn K mainGlobals "is_name" = some (some (.ref f2)))
    (l2 : K.lookup f2 = some ⟨oc2, od2, .func (PySem.W.fnOf "is_name" "is_name" (defArgs s_is_name) (defBody s_is_name) (defScope s_is_name) .none kV2 dc2 pm2 an2 cd2 ct2), sl2⟩)
    (c2 : PySem.W.codeIn K cd2 "is_name" = true)
    (k2 : PySem.W.keepIn K (.ref f2) = true)
    (a3 : PySem.W.nsIn K mainGlobals "is_sequence" = some (some (.ref f3)))
    (l3 : K.lookup f3 = some ⟨oc3, od3, .func (PySem.W.fnOf "is_sequence" "is_sequence" (defArgs s_is_sequence) (defBody s_is_sequence) (defScope s_is_sequence) .none kV3 dc3 pm3 an3 cd3 ct3), sl3⟩)
    (c3 : PySem.W.codeIn K cd3 "is_sequence" = true)
    (k3 : PySem.W.keepIn K (.ref f3) = true)
    (a4 : PySem.W.nsIn K mainGlobals "is_tuple" = some (some (.ref f4)))
    (l4 : K.lookup f4 = some ⟨oc4, od4, .func (PySem.W.fnOf "is_tuple" "is_tuple" (defArgs s_is_tuple) (defBody s_is_tuple) (defScope s_is_tuple) .none kV4 dc4 pm4 an4 cd4 ct4), sl4⟩)
    (c4 : PySem.W.codeIn K cd4 "is_tuple" = true)
    (k4 : PySem.W.keepIn K (.ref f4) = true)
    (a5 : PySem.W.nsIn K mainGlobals "is_row" = some (some (.ref f5)))
    (l5 : K.lookup f5 = some ⟨oc5, od5, .func (PySem.W.fnOf "is_row" "is_row" (defArgs s_is_row) (defBody s_is_row) (defScope s_is_row) .none kV5 dc5 pm5 an5 cd5 ct5), sl5⟩)
    (c5 : PySem.W.codeIn K cd5 "is_row" = true)
    (k5 : PySem.W.keepIn K (.ref f5) = true)
    (a6 : PySem.W.nsIn K mainGlobals "is_integers" = some (some (.ref f6)))
    (l6 : K.lookup f6 = some ⟨oc6, od6, .func (PySem.W.fnOf "is_integers" "is_integers" (defArgs s_is_integers) (defBody s_is_integers) (defScope s_is_integers) .none kV6 dc6 pm6 an6 cd6 ct6), sl6⟩)
    (c6 : PySem.W.codeIn K cd6 "is_integers" = true)
    (k6 : PySem.W.keepIn K (.ref f6) = true)
    (a7 : PySem.W.nsIn K mainGlobals "is_whole" = some (some (.ref f7)))
    (l7 : K.lookup f7 = some ⟨oc7, od7, .func (PySem.W.fnOf "is_whole" "is_whole" (defArgs s_is_whole) (defBody s_is_whole) (defScope s_is_whole) .none kV7 dc7 pm7 an7 cd7 ct7), sl7⟩)
    (c7 : PySem.W.codeIn K cd7 "is_whole" = true)
    (k7 : PySem.W.keepIn K (.ref f7) = true)
    (a8 : PySem.W.nsIn K mainGlobals "is_number" = some (some (.ref f8)))
    (l8 : K.lookup f8 = some ⟨oc8, od8, .func (PySem.W.fnOf "is_number" "is_number" (defArgs s_is_number) (defBody s_is_number) (defScope s_is_number) .none kV8 dc8 pm8 an8 cd8 ct8), sl8⟩)
    (c8 : PySem.W.codeIn K cd8 "is_number" = true)
    (k8 : PySem.W.keepIn K (.ref f8) = true)
    (a9 : PySem.W.nsIn K mainGlobals "is_hole_step" = some (some (.ref f9)))
    (l9 : K.lookup f9 = some ⟨oc9, od9, .func (PySem.W.fnOf "is_hole_step" "is_hole_step" (defArgs s_is_hole_step) (defBody s_is_hole_step) (defScope s_is_hole_step) .none kV9 dc9 pm9 an9 cd9 ct9), sl9⟩)
    (c9 : PySem.W.codeIn K cd9 "is_hole_step" = true)
    (k9 : PySem.W.keepIn K (.ref f9) = true)
    (a10 : PySem.W.nsIn K mainGlobals "is_plain_step" = some (some (.ref f10)))
    (l10 : K.lookup f10 = some ⟨oc10, od10, .func (PySem.W.fnOf "is_plain_step" "is_plain_step" (defArgs s_is_plain_step) (defBody s_is_plain_step) (defScope s_is_plain_step) .none kV10 dc10 pm10 an10 cd10 ct10), sl10⟩)
    (c10 : PySem.W.codeIn K cd10 "is_plain_step" = true)
    (k10 : PySem.W.keepIn K (.ref f10) = true)
    (a11 : PySem.W.nsIn K mainGlobals "tree_text" = some (some (.ref f11)))
    (l11 : K.lookup f11 = some ⟨oc11, od11, .func (PySem.W.fnOf "tree_text" "tree_text" (defArgs s_tree_text) (defBody s_tree_text) (defScope s_tree_text) .none kV11 dc11 pm11 an11 cd11 ct11), sl11⟩)
    (c11 : PySem.W.codeIn K cd11 "tree_text" = true)
    (k11 : PySem.W.keepIn K (.ref f11) = true)
    (a12 : PySem.W.nsIn K mainGlobals "read_hole" = some (some (.ref f12)))
    (l12 : K.lookup f12 = some ⟨oc12, od12, .func (PySem.W.fnOf "read_hole" "read_hole" (defArgs s_read_hole) (defBody s_read_hole) (defScope s_read_hole) .none kV12 dc12 pm12 an12 cd12 ct12), sl12⟩)
    (c12 : PySem.W.codeIn K cd12 "read_hole" = true)
    (k12 : PySem.W.keepIn K (.ref f12) = true)
    (a13 : PySem.W.nsIn K mainGlobals "read_step" = some (some (.ref f13)))
    (l13 : K.lookup f13 = some ⟨oc13, od13, .func (PySem.W.fnOf "read_step" "read_step" (defArgs s_read_step) (defBody s_read_step) (defScope s_read_step) .none kV13 dc13 pm13 an13 cd13 ct13), sl13⟩)
    (c13 : PySem.W.codeIn K cd13 "read_step" = true)
    (k13 : PySem.W.keepIn K (.ref f13) = true)
    (a14 : PySem.W.nsIn K mainGlobals "read_tree" = some (some (.ref f14)))
    (l14 : K.lookup f14 = some ⟨oc14, od14, .func (PySem.W.fnOf "read_tree" "read_tree" (defArgs s_read_tree) (defBody s_read_tree) (defScope s_read_tree) .none kV14 dc14 pm14 an14 cd14 ct14), sl14⟩)
    (c14 : PySem.W.codeIn K cd14 "read_tree" = true)
    (k14 : PySem.W.keepIn K (.ref f14) = true)
    (a15 : PySem.W.nsIn K mainGlobals "_law_draw" = some (some (.ref f15)))
    (l15 : K.lookup f15 = some ⟨oc15, od15, .func (PySem.W.fnOf "_law_draw" "_law_draw" (defArgs s_law_draw) (defBody s_law_draw) (defScope s_law_draw) .none kV15 dc15 pm15 an15 cd15 ct15), sl15⟩)
    (c15 : PySem.W.codeIn K cd15 "_law_draw" = true)
    (k15 : PySem.W.keepIn K (.ref f15) = true)
    (a16 : PySem.W.nsIn K mainGlobals "_law_one" = some (some (.ref f16)))
    (l16 : K.lookup f16 = some ⟨oc16, od16, .func (PySem.W.fnOf "_law_one" "_law_one" (defArgs s_law_one) (defBody s_law_one) (defScope s_law_one) .none kV16 dc16 pm16 an16 cd16 ct16), sl16⟩)
    (c16 : PySem.W.codeIn K cd16 "_law_one" = true)
    (k16 : PySem.W.keepIn K (.ref f16) = true)
    (a17 : PySem.W.nsIn K mainGlobals "_law_steps" = some (some (.ref f17)))
    (l17 : K.lookup f17 = some ⟨oc17, od17, .func (PySem.W.fnOf "_law_steps" "_law_steps" (defArgs s_law_steps) (defBody s_law_steps) (defScope s_law_steps) .none kV17 dc17 pm17 an17 cd17 ct17), sl17⟩)
    (c17 : PySem.W.codeIn K cd17 "_law_steps" = true)
    (k17 : PySem.W.keepIn K (.ref f17) = true)
    (a18 : PySem.W.nsIn K mainGlobals "_law_parts" = some (some (.ref f18)))
    (l18 : K.lookup f18 = some ⟨oc18, od18, .func (PySem.W.fnOf "_law_parts" "_law_parts" (defArgs s_law_parts) (defBody s_law_parts) (defScope s_law_parts) .none kV18 dc18 pm18 an18 cd18 ct18), sl18⟩)
    (c18 : PySem.W.codeIn K cd18 "_law_parts" = true)
    (k18 : PySem.W.keepIn K (.ref f18) = true)
    (a19 : PySem.W.nsIn K mainGlobals "_law_odd_steps" = some (some (.ref f19)))
    (l19 : K.lookup f19 = some ⟨oc19, od19, .func (PySem.W.fnOf "_law_odd_steps" "_law_odd_steps" (defArgs s_law_odd_steps) (defBody s_law_odd_steps) (defScope s_law_odd_steps) .none kV19 dc19 pm19 an19 cd19 ct19), sl19⟩)
    (c19 : PySem.W.codeIn K cd19 "_law_odd_steps" = true)
    (k19 : PySem.W.keepIn K (.ref f19) = true)
    (a20 : PySem.W.nsIn K mainGlobals "_law_odd_parts" = some (some (.ref f20)))
    (l20 : K.lookup f20 = some ⟨oc20, od20, .func (PySem.W.fnOf "_law_odd_parts" "_law_odd_parts" (defArgs s_law_odd_parts) (defBody s_law_odd_parts) (defScope s_law_odd_parts) .none kV20 dc20 pm20 an20 cd20 ct20), sl20⟩)
    (c20 : PySem.W.codeIn K cd20 "_law_odd_parts" = true)
    (k20 : PySem.W.keepIn K (.ref f20) = true)
    (a21 : PySem.W.nsIn K mainGlobals "_law_said" = some (some (.ref f21)))
    (l21 : K.lookup f21 = some ⟨oc21, od21, .func (PySem.W.fnOf "_law_said" "_law_said" (defArgs s_law_said) (defBody s_law_said) (defScope s_law_said) .none kV21 dc21 pm21 an21 cd21 ct21), sl21⟩)
    (c21 : PySem.W.codeIn K cd21 "_law_said" = true)
    (k21 : PySem.W.keepIn K (.ref f21) = true)
    (a22 : PySem.W.nsIn K mainGlobals "_law_bounds_right" = some (some (.ref f22)))
    (l22 : K.lookup f22 = some ⟨oc22, od22, .func (PySem.W.fnOf "_law_bounds_right" "_law_bounds_right" (defArgs s_law_bounds_right) (defBody s_law_bounds_right) (defScope s_law_bounds_right) .none kV22 dc22 pm22 an22 (.ref ca22) ct22), sl22⟩)
    (c22 : PySem.W.codeIn K (.ref ca22) "_law_bounds_right" = true)
    (k22 : PySem.W.keepIn K (.ref f22) = true)
    (lc22 : K.lookup ca22 = some ⟨xo22, xd22, .fields xv22, xs22⟩)
    (lv22 : (xv22[11]? : Option Value) = some (.ref pa22))
    (ln22 : noneChk K pa22 = true)
    (lr22 : (recsOf qq).find? (fun r => r.name == ("_law_bounds_right" : Str)) = some er22)
    (a23 : PySem.W.nsIn K mainGlobals "_law_right" = some (some (.ref f23)))
    (l23 : K.lookup f23 = some ⟨oc23, od23, .func (PySem.W.fnOf "_law_right" "_law_right" (defArgs s_law_right) (defBody s_law_right) (defScope s_law_right) .none kV23 dc23 pm23 an23 (.ref ca23) ct23), sl23⟩)
    (c23 : PySem.W.codeIn K (.ref ca23) "_law_right" = true)
    (k23 : PySem.W.keepIn K (.ref f23) = true)
    (lc23 : K.lookup ca23 = some ⟨xo23, xd23, .fields xv23, xs23⟩)
    (lv23 : (xv23[11]? : Option Value) = some (.ref pa23))
    (ln23 : noneChk K pa23 = true)
    (lr23 : (recsOf qq).find? (fun r => r.name == ("_law_right" : Str)) = some er23)
    (a24 : PySem.W.nsIn K mainGlobals "law" = some (some (.ref f24)))
    (l24 : K.lookup f24 = some ⟨oc24, od24, .func (PySem.W.fnOf "law" "law" (defArgs s_law) (defBody s_law) (defScope s_law) .none kV24 dc24 pm24 an24 cd24 ct24), sl24⟩)
    (c24 : PySem.W.codeIn K cd24 "law" = true)
    (k24 : PySem.W.keepIn K (.ref f24) = true)
    (ne : pa22 ≠ pa23)
    (z0 : PySem.W.nsIn K mainGlobals "int" = some none)
    (z1 : PySem.W.nsIn K mainGlobals "bool" = some none)
    (z2 : PySem.W.nsIn K mainGlobals "str" = some none)
    (z3 : PySem.W.nsIn K mainGlobals "list" = some none)
    (z4 : PySem.W.nsIn K mainGlobals "tuple" = some none)
    (z5 : PySem.W.nsIn K mainGlobals "dict" = some none)
    (z6 : PySem.W.nsIn K mainGlobals "set" = some none)
    (z7 : PySem.W.nsIn K mainGlobals "len" = some none)
    (z8 : PySem.W.nsIn K mainGlobals "all" = some none)
    (z9 : PySem.W.nsIn K mainGlobals "isinstance" = some none)
    (z10 : PySem.W.nsIn K mainGlobals "range" = some none)
    (z11 : PySem.W.nsIn K mainGlobals "zip" = some none)
    (z12 : PySem.W.nsIn K mainGlobals "enumerate" = some none)
    (o0 : PySem.W.nsIn K mainGlobals "LETTERS" = some (some (.str letters t0)))
    (o1 : PySem.W.nsIn K mainGlobals "FIGURES" = some (some (.str figures t1)))
    (o2 : PySem.W.nsIn K mainGlobals "HOLE" = some (some (.str "" t2)))
    (o3 : PySem.W.nsIn K mainGlobals "MOST_STEPS" = some (some (.int 2000 t3)))
    (o4 : PySem.W.nsIn K mainGlobals "HOLE_WORD" = some (some (.str "?" t4)))
    (o5 : PySem.W.nsIn K mainGlobals "BETWEEN_STEPS" = some (some (.str "; " t5)))
    (ema : PySem.W.nsIn K mainGlobals "AttrError" = some (some (.ref eAA)))
    (em0 : PySem.W.nsIn K mainGlobals "NoTree" = some (some (.ref eC0)))
    (ex0 : K.lookup eC0 = some (excClassObj nm0 qn0 eC0 Nn0 bs0 [.ref eA0, .type "ValueError", .type "Exception", .type "BaseException", .type "object"] true sn0 sub0 ab0 col0 dd0 m00 m10 m20 m30 m50 "ValueError.__new__"))
    (esa0 : PySem.W.findIn K (.ref eC0) "__setattr__" = some (some (.builtin "object.__setattr__")))
    (ety0 : PySem.W.typeIn K (.ref eC0) = some (.type "type"))
    (ekC0 : PySem.W.keepIn K (.ref eC0) = true)
    (ehg0 : PySem.W.findIn K (.ref eC0) "__getattribute__" = some (some (.builtin "BaseException.__getattribute__")))
    (ehk0 : PySem.W.findIn K (.ref eC0) "__getattr__" = some none)
    (ehs0 : PySem.W.subIn K (.ref eC0) (.type "BaseException") = some true)
    (ehd0 : PySem.W.hasDictIn K eC0 = true)
    (ei0 : PySem.W.findIn K (.ref eC0) "__init__" = some (some (.ref eI0)))
    (et0 : PySem.W.typeIn K (.ref eI0) = some (.type "function"))
    (l25 : K.lookup eI0 = some ⟨oc25, od25, .func (PySem.W.fnOf "__init__" "NoTree.__init__" (defArgs s_NoTree_init__) (defBody s_NoTree_init__) (defScope s_NoTree_init__) .none kV25 dc25 pm25 an25 cd25 ct25), sl25⟩)
    (c25 : PySem.W.codeIn K cd25 "NoTree.__init__" = true)
    (k25 : PySem.W.keepIn K (.ref eI0) = true)
    (en0_index : PySem.W.findIn K (.ref eC0) "index" = some none)
    (eex0 : exmChk K eC0 eC0 true = true)
    (em1 : PySem.W.nsIn K mainGlobals "NoText" = some (some (.ref eC1)))
    (ex1 : K.lookup eC1 = some (excClassObj nm1 qn1 eC1 Nn1 bs1 [.ref eA1, .type "ValueError", .type "Exception", .type "BaseException", .type "object"] true sn1 sub1 ab1 col1 dd1 m01 m11 m21 m31 m51 "ValueError.__new__"))
    (esa1 : PySem.W.findIn K (.ref eC1) "__setattr__" = some (some (.builtin "object.__setattr__")))
    (ety1 : PySem.W.typeIn K (.ref eC1) = some (.type "type"))
    (ekC1 : PySem.W.keepIn K (.ref eC1) = true)
    (ehg1 : PySem.W.findIn K (.ref eC1) "__getattribute__" = some (some (.builtin "BaseException.__getattribute__")))
    (ehk1 : PySem.W.findIn K (.ref eC1) "__getattr__" = some none)
    (ehs1 : PySem.W.subIn K (.ref eC1) (.type "BaseException") = some true)
    (ehd1 : PySem.W.hasDictIn K eC1 = true)
    (ei1 : PySem.W.findIn K (.ref eC1) "__init__" = some (some (.ref eI1)))
    (et1 : PySem.W.typeIn K (.ref eI1) = some (.type "function"))
    (l26 : K.lookup eI1 = some ⟨oc26, od26, .func (PySem.W.fnOf "__init__" "NoText.__init__" (defArgs s_NoText_init__) (defBody s_NoText_init__) (defScope s_NoText_init__) .none kV26 dc26 pm26 an26 cd26 ct26), sl26⟩)
    (c26 : PySem.W.codeIn K cd26 "NoText.__init__" = true)
    (k26 : PySem.W.keepIn K (.ref eI1) = true)
    (en1_row : PySem.W.findIn K (.ref eC1) "row" = some none)
    (eex1 : exmChk K eC1 eC1 true = true)
    (xtn : exmChk K eC1 eC0 false = true) :
    LawAtS lw w K CX0 10 63 "_law_script" mg fa h := by
  have e := hfa.symm.trans (PySem.W.mg_of X G a24)
  cases e
  have F0 := fun_mk (st := s_is_integer) l0 c0 k0
  have b0 := F0.binds (ps := ["thing"]) fun _ _ _ _ _ _ us hl => match us, hl with | [_], _ => rfl
  let D0 : Df K mg "is_integer" s_is_integer ["thing"] := ⟨_, _, F0, PySem.W.mg_of X G a0, b0⟩
  have F1 := fun_mk (st := s_is_between) l1 c1 k1
  have b1 := F1.binds (ps := ["thing", "low", "high"]) fun _ _ _ _ _ _ us hl => match us, hl with | [_, _, _], _ => rfl
  let D1 : Df K mg "is_between" s_is_between ["thing", "low", "high"] := ⟨_, _, F1, PySem.W.mg_of X G a1, b1⟩
  have F2 := fun_mk (st := s_is_name) l2 c2 k2
  have b2 := F2.binds (ps := ["thing"]) fun _ _ _ _ _ _ us hl => match us, hl with | [_], _ => rfl
  let D2 : Df K mg "is_name" s_is_name ["thing"] := ⟨_, _, F2, PySem.W.mg_of X G a2, b2⟩
  have F3 := fun_mk (st := s_is_sequence) l3 c3 k3
  have b3 := F3.binds (ps := ["thing", "low", "high"]) fun _ _ _ _ _ _ us hl => match us, hl with | [_, _, _], _ => rfl
  let D3 : Df K mg "is_sequence" s_is_sequence ["thing", "low", "high"] := ⟨_, _, F3, PySem.W.mg_of X G a3, b3⟩
  have F4 := fun_mk (st := s_is_tuple) l4 c4 k4
  have b4 := F4.binds (ps := ["thing", "low", "high"]) fun _ _ _ _ _ _ us hl => match us, hl with | [_, _, _], _ => rfl
  let D4 : Df K mg "is_tuple" s_is_tuple ["thing", "low", "high"] := ⟨_, _, F4, PySem.W.mg_of X G a4, b4⟩
  have F5 := fun_mk (st := s_is_row) l5 c5 k5
  have b5 := F5.binds (ps := ["thing", "size"]) fun _ _ _ _ _ _ us hl => match us, hl with | [_, _], _ => rfl
  let D5 : Df K mg "is_row" s_is_row ["thing", "size"] := ⟨_, _, F5, PySem.W.mg_of X G a5, b5⟩
  have F6 := fun_mk (st := s_is_integers) l6 c6 k6
  have b6 := F6.binds (ps := ["thing", "size"]) fun _ _ _ _ _ _ us hl => match us, hl with | [_, _], _ => rfl
  let D6 : Df K mg "is_integers" s_is_integers ["thing", "size"] := ⟨_, _, F6, PySem.W.mg_of X G a6, b6⟩
  have F7 := fun_mk (st := s_is_whole) l7 c7 k7
  have b7 := F7.binds (ps := ["word"]) fun _ _ _ _ _ _ us hl => match us, hl with | [_], _ => rfl
  let D7 : Df K mg "is_whole" s_is_whole ["word"] := ⟨_, _, F7, PySem.W.mg_of X G a7, b7⟩
  have F8 := fun_mk (st := s_is_number) l8 c8 k8
  have b8 := F8.binds (ps := ["word"]) fun _ _ _ _ _ _ us hl => match us, hl with | [_], _ => rfl
  let D8 : Df K mg "is_number" s_is_number ["word"] := ⟨_, _, F8, PySem.W.mg_of X G a8, b8⟩
  have F9 := fun_mk (st := s_is_hole_step) l9 c9 k9
  have b9 := F9.binds (ps := ["thing"]) fun _ _ _ _ _ _ us hl => match us, hl with | [_], _ => rfl
  let D9 : Df K mg "is_hole_step" s_is_hole_step ["thing"] := ⟨_, _, F9, PySem.W.mg_of X G a9, b9⟩
  have F10 := fun_mk (st := s_is_plain_step) l10 c10 k10
  have b10 := F10.binds (ps := ["thing", "index"]) fun _ _ _ _ _ _ us hl => match us, hl with | [_, _], _ => rfl
  let D10 : Df K mg "is_plain_step" s_is_plain_step ["thing", "index"] := ⟨_, _, F10, PySem.W.mg_of X G a10, b10⟩
  have F11 := fun_mk (st := s_tree_text) l11 c11 k11
  have b11 := F11.binds (ps := ["tree"]) fun _ _ _ _ _ _ us hl => match us, hl with | [_], _ => rfl
  let D11 : Df K mg "tree_text" s_tree_text ["tree"] := ⟨_, _, F11, PySem.W.mg_of X G a11, b11⟩
  have F12 := fun_mk (st := s_read_hole) l12 c12 k12
  have b12 := F12.binds (ps := ["words"]) fun _ _ _ _ _ _ us hl => match us, hl with | [_], _ => rfl
  let D12 : Df K mg "read_hole" s_read_hole ["words"] := ⟨_, _, F12, PySem.W.mg_of X G a12, b12⟩
  have F13 := fun_mk (st := s_read_step) l13 c13 k13
  have b13 := F13.binds (ps := ["words", "index"]) fun _ _ _ _ _ _ us hl => match us, hl with | [_, _], _ => rfl
  let D13 : Df K mg "read_step" s_read_step ["words", "index"] := ⟨_, _, F13, PySem.W.mg_of X G a13, b13⟩
  have F14 := fun_mk (st := s_read_tree) l14 c14 k14
  have b14 := F14.binds (ps := ["text"]) fun _ _ _ _ _ _ us hl => match us, hl with | [_], _ => rfl
  let D14 : Df K mg "read_tree" s_read_tree ["text"] := ⟨_, _, F14, PySem.W.mg_of X G a14, b14⟩
  have F15 := fun_mk (st := s_law_draw) l15 c15 k15
  have b15 := F15.binds (ps := ["_law_well", "_law_many"]) fun _ _ _ _ _ _ us hl => match us, hl with | [_, _], _ => rfl
  let D15 : Df K mg "_law_draw" s_law_draw ["_law_well", "_law_many"] := ⟨_, _, F15, PySem.W.mg_of X G a15, b15⟩
  have F16 := fun_mk (st := s_law_one) l16 c16 k16
  have b16 := F16.binds (ps := ["_law_well", "_law_some"]) fun _ _ _ _ _ _ us hl => match us, hl with | [_, _], _ => rfl
  let D16 : Df K mg "_law_one" s_law_one ["_law_well", "_law_some"] := ⟨_, _, F16, PySem.W.mg_of X G a16, b16⟩
  have F17 := fun_mk (st := s_law_steps) l17 c17 k17
  have b17 := F17.binds (ps := ["_law_well", "_law_many"]) fun _ _ _ _ _ _ us hl => match us, hl with | [_, _], _ => rfl
  let D17 : Df K mg "_law_steps" s_law_steps ["_law_well", "_law_many"] := ⟨_, _, F17, PySem.W.mg_of X G a17, b17⟩
  have F18 := fun_mk (st := s_law_parts) l18 c18 k18
  have b18 := F18.binds (ps := ["_law_steps_here"]) fun _ _ _ _ _ _ us hl => match us, hl with | [_], _ => rfl
  let D18 : Df K mg "_law_parts" s_law_parts ["_law_steps_here"] := ⟨_, _, F18, PySem.W.mg_of X G a18, b18⟩
  have F19 := fun_mk (st := s_law_odd_steps) l19 c19 k19
  have b19 := F19.binds (ps := ["_law_at"]) fun _ _ _ _ _ _ us hl => match us, hl with | [_], _ => rfl
  let D19 : Df K mg "_law_odd_steps" s_law_odd_steps ["_law_at"] := ⟨_, _, F19, PySem.W.mg_of X G a19, b19⟩
  have F20 := fun_mk (st := s_law_odd_parts) l20 c20 k20
  have b20 := F20.binds (ps := ["_law_at"]) fun _ _ _ _ _ _ us hl => match us, hl with | [_], _ => rfl
  let D20 : Df K mg "_law_odd_parts" s_law_odd_parts ["_law_at"] := ⟨_, _, F20, PySem.W.mg_of X G a20, b20⟩
  have F21 := fun_mk (st := s_law_said) l21 c21 k21
  have b21 := F21.binds (ps := ["_law_ask"]) fun _ _ _ _ _ _ us hl => match us, hl with | [_], _ => rfl
  let D21 : Df K mg "_law_said" s_law_said ["_law_ask"] := ⟨_, _, F21, PySem.W.mg_of X G a21, b21⟩
  have F22 := FunC.of (st := s_law_bounds_right) l22 c22 k22
  have b22 := F22.toFun.binds (ps := []) fun _ _ _ _ _ _ us hl => match us, hl with | [], _ => rfl
  let D22 : DfL K mg "_law_bounds_right" s_law_bounds_right [] := ⟨_, _, ca22, pa22, F22, PySem.W.mg_of X G a22, b22⟩
  obtain ⟨cc22, ch22⟩ := hTab _ _ _ _ lr22 (tab_mk a22 l22 rfl lc22 lv22)
  have F23 := FunC.of (st := s_law_right) l23 c23 k23
  have b23 := F23.toFun.binds (ps := ["_law_well"]) fun _ _ _ _ _ _ us hl => match us, hl with | [_], _ => rfl
  let D23 : DfL K mg "_law_right" s_law_right ["_law_well"] := ⟨_, _, ca23, pa23, F23, PySem.W.mg_of X G a23, b23⟩
  obtain ⟨cc23, ch23⟩ := hTab _ _ _ _ lr23 (tab_mk a23 l23 rfl lc23 lv23)
  have F24 := fun_mk (st := s_law) l24 c24 k24
  have b24 := F24.binds (ps := ["_law_script"]) fun _ _ _ _ _ _ us hl => match us, hl with | [_], _ => rfl
  let D24 : Df K mg "law" s_law ["_law_script"] := ⟨_, _, F24, PySem.W.mg_of X G a24, b24⟩
  have F25 := fun_mk (st := s_NoTree_init__) l25 c25 k25
  have b25 := F25.binds (ps := ["self", "index"]) fun _ _ _ _ _ _ us hl => match us, hl with | [_, _], _ => rfl
  have F26 := fun_mk (st := s_NoText_init__) l26 c26 k26
  have b26 := F26.binds (ps := ["self", "row"]) fun _ _ _ _ _ _ us hl => match us, hl with | [_, _], _ => rfl
  have v0 : OexC K eC0 := ⟨⟨_, _, _, _, _, _, _, _, _, _, _, _, _, _, _, ex0, rfl⟩, esa0, ehs0, ety0, ekC0⟩
  let E0 : Ec K mg "NoTree" "NoTree.__init__" s_NoTree_init__ ["index"] := ⟨eC0, eI0, _, v0, ei0, et0, PySem.W.mg_of X G em0, F25, b25, ⟨ehg0, ehk0, ehs0, ehd0⟩, exm_of eex0, fun f hf => by rw [List.mem_singleton.mp hf]; exact en0_index⟩
  have v1 : OexC K eC1 := ⟨⟨_, _, _, _, _, _, _, _, _, _, _, _, _, _, _, ex1, rfl⟩, esa1, ehs1, ety1, ekC1⟩
  let E1 : Ec K mg "NoText" "NoText.__init__" s_NoText_init__ ["row"] := ⟨eC1, eI1, _, v1, ei1, et1, PySem.W.mg_of X G em1, F26, b26, ⟨ehg1, ehk1, ehs1, ehd1⟩, exm_of eex1, fun f hf => by rw [List.mem_singleton.mp hf]; exact en1_row⟩
  let T : TN K mg := { int := PySem.W.mg_none_of X G z0, bool := PySem.W.mg_none_of X G z1, str := PySem.W.mg_none_of X G z2, list := PySem.W.mg_none_of X G z3, tuple := PySem.W.mg_none_of X G z4, dict := PySem.W.mg_none_of X G z5, set := PySem.W.mg_none_of X G z6, len := PySem.W.mg_none_of X G z7, all := PySem.W.mg_none_of X G z8, isinstance := PySem.W.mg_none_of X G z9, range := PySem.W.mg_none_of X G z10, zip := PySem.W.mg_none_of X G z11, enumerate := PySem.W.mg_none_of X G z12, LETTERS := ⟨_, PySem.W.mg_of X G o0⟩, FIGURES := ⟨_, PySem.W.mg_of X G o1⟩, HOLE := ⟨_, PySem.W.mg_of X G o2⟩, MOST_STEPS := ⟨_, PySem.W.mg_of X G o3⟩, HOLE_WORD := ⟨_, PySem.W.mg_of X G o4⟩, BETWEEN_STEPS := ⟨_, PySem.W.mg_of X G o5⟩, is_integer := D0, is_between := D1, is_name := D2, is_sequence := D3, is_tuple := D4, is_row := D5, is_integers := D6, is_whole := D7, is_number := D8, is_hole_step := D9, is_plain_step := D10, tree_text := D11, read_hole := D12, read_step := D13, read_tree := D14, law_draw := D15, law_one := D16, law_steps := D17, law_parts := D18, law_odd_steps := D19, law_odd_parts := D20, law_said := D21, law_bounds_right := D22, law_right := D23, NoTree := E0, NoText := E1, tn := exm_of xtn, eA := eAA, mA := PySem.W.mg_of X G ema }
  let Tb : List (Addr × Str) := [(pa22, qBounds), (pa23, qRight)]
  have two : ∀ {p : Addr × Addr} {Q : Addr × Addr → Prop}, p ∈ [(ca22, pa22), (ca23, pa23)] → Q (ca22, pa22) → Q (ca23, pa23) → Q p := fun {p Q} hp h1 h2 => by
    rcases List.mem_cons.mp hp with e | hp
    · rw [e]; exact h1
    · rw [List.mem_singleton.mp hp]; exact h2
  refine ⟨D24.fd, [(ca22, pa22), (ca23, pa23)], spLaw K Tb, fun p hp => two (Q := fun p => h.get? p.2 = some { cls := .none, data := .fields #[] }) hp ch22 ch23, fun p hp => two (Q := fun p => K.lookup p.2 = none) hp (none_of ln22) (none_of ln23), fun p hp => two (Q := fun p => PySem.W.CodeHd h p.1 p.2) hp cc22 cc23, fun s v => .of_eq rfl, fun H a ns hl _ hH hS => ⟨a, ns, rfl, fun p hp => ?_, hS, hl, fun _ => rfl⟩, fun base _ _ tb => ?_⟩
  · rcases List.mem_cons.mp hp with e | hp
    · rw [e]; exact TabS.nil (hH (ca22, pa22) List.mem_cons_self)
    · rw [List.mem_singleton.mp hp]; exact TabS.nil (hH (ca23, pa23) (List.mem_cons_of_mem _ List.mem_cons_self))
  · refine ok_law (Tb := Tb) T D24 (tb (ca22, pa22) List.mem_cons_self) List.mem_cons_self (fun p hp e => ?_) (tb (ca23, pa23) (List.mem_cons_of_mem _ List.mem_cons_self)) (List.mem_cons_of_mem _ List.mem_cons_self) fun p hp e => ?_
    · rcases List.mem_cons.mp hp with e2 | hp
      · rw [e2]
      · rw [List.mem_singleton.mp hp] at e
        exact absurd e.symm ne
    · rcases List.mem_cons.mp hp with e2 | hp
      · rw [e2] at e
        exact absurd e ne
      · rw [List.mem_singleton.mp hp]
end K94
open PySem PySem.W PyProof.Rows
set_option maxRecDepth 100000 in
set_option maxHeartbeats 0 in
theorem PySem.Challenge.cw_leastattr_k94_texts_of_trees_holds : PySem.Challenge.rw_leastattr_k94_texts_of_trees.Holds := by
  w_on; o_law; k_head; (case hw => w_witness2)
  k_fill
  refine L2.walk_ofL (l := PySem.Challenge.rw_leastattr_k94_texts_of_trees) (n := 63) (k := 10) (x := "_law_script") (CX := fun _ => L2.CX0) rfl (by decide) rfl ⟨rfl, by decide, by decide⟩ (fun w h Y => PySem.W.km_in_of Y) ?F (fun _ _ _ _ _ h => h)
  case F =>
    intro w mg fa h KX G hmg hTab
    refine' K94.all_mk KX G hmg hTab ?a0 ?l0 ?c0 ?k0 ?a1 ?l1 ?c1 ?k1 ?a2 ?l2 ?c2 ?k2 ?a3 ?l3 ?c3 ?k3 ?a4 ?l4 ?c4 ?k4 ?a5 ?l5 ?c5 ?k5 ?a6 ?l6 ?c6 ?k6 ?a7 ?l7 ?c7 ?k7 ?a8 ?l8 ?c8 ?k8 ?a9 ?l9 ?c9 ?k9 ?a10 ?l10 ?c10 ?k10 ?a11 ?l11 ?c11 ?k11 ?a12 ?l12 ?c12 ?k12 ?a13 ?l13 ?c13 ?k13 ?a14 ?l14 ?c14 ?k14 ?a15 ?l15 ?c15 ?k15 ?a16 ?l16 ?c16 ?k16 ?a17 ?l17 ?c17 ?k17 ?a18 ?l18 ?c18 ?k18 ?a19 ?l19 ?c19 ?k19 ?a20 ?l20 ?c20 ?k20 ?a21 ?l21 ?c21 ?k21 ?a22 ?l22 ?c22 ?k22 ?lc22 ?lv22 ?ln22 ?lr22 ?a23 ?l23 ?c23 ?k23 ?lc23 ?lv23 ?ln23 ?lr23 ?a24 ?l24 ?c24 ?k24 ?ne ?z0 ?z1 ?z2 ?z3 ?z4 ?z5 ?z6 ?z7 ?z8 ?z9 ?z10 ?z11 ?z12 ?o0 ?o1 ?o2 ?o3 ?o4 ?o5 ?ema ?em0 ?ex0 ?esa0 ?ety0 ?ekC0 ?ehg0 ?ehk0 ?ehs0 ?ehd0 ?ei0 ?et0 ?l25 ?c25 ?k25 ?en0_index ?eex0 ?em1 ?ex1 ?esa1 ?ety1 ?ekC1 ?ehg1 ?ehk1 ?ehs1 ?ehd1 ?ei1 ?et1 ?l26 ?c26 ?k26 ?en1_row ?eex1 ?xtn
    (case a0 => k_is)
    (case l0 => k_is)
    (case c0 => k_is)
    (case k0 => k_is)
    (case a1 => k_is)
    (case l1 => k_is)
    (case c1 => k_is)
    (case k1 => k_is)
    (case a2 => k_is)
    (case l2 => k_is)
    (case c2 => k_is)
    (case k2 => k_is)
    (case a3 => k_is)
    (case l3 => k_is)
    (case c3 => k_is)
    (case k3 => k_is)
    (case a4 => k_is)
    (case l4 => k_is)
    (case c4 => k_is)
    (case k4 => k_is)
    (case a5 => k_is)
    (case l5 => k_is)
    (case c5 => k_is)
    (case k5 => k_is)
    (case a6 => k_is)
    (case l6 => k_is)
    (case c6 => k_is)
    (case k6 => k_is)
    (case a7 => k_is)
    (case l7 => k_is)
    (case c7 => k_is)
    (case k7 => k_is)
    (case a8 => k_is)
    (case l8 => k_is)
    (case c8 => k_is)
    (case k8 => k_is)
    (case a9 => k_is)
    (case l9 => k_is)
    (case c9 => k_is)
    (case k9 => k_is)
    (case a10 => k_is)
    (case l10 => k_is)
    (case c10 => k_is)
    (case k10 => k_is)
    (case a11 => k_is)
    (case l11 => k_is)
    (case c11 => k_is)
    (case k11 => k_is)
    (case a12 => k_is)
    (case l12 => k_is)
    (case c12 => k_is)
    (case k12 => k_is)
    (case a13 => k_is)
    (case l13 => k_is)
    (case c13 => k_is)
    (case k13 => k_is)
    (case a14 => k_is)
    (case l14 => k_is)
    (case c14 => k_is)
    (case k14 => k_is)
    (case a15 => k_is)
    (case l15 => k_is)
    (case c15 => k_is)
    (case k15 => k_is)
    (case a16 => k_is)
    (case l16 => k_is)
    (case c16 => k_is)
    (case k16 => k_is)
    (case a17 => k_is)
    (case l17 => k_is)
    (case c17 => k_is)
    (case k17 => k_is)
    (case a18 => k_is)
    (case l18 => k_is)
    (case c18 => k_is)
    (case k18 => k_is)
    (case a19 => k_is)
    (case l19 => k_is)
    (case c19 => k_is)
    (case k19 => k_is)
    (case a20 => k_is)
    (case l20 => k_is)
    (case c20 => k_is)
    (case k20 => k_is)
    (case a21 => k_is)
    (case l21 => k_is)
    (case c21 => k_is)
    (case k21 => k_is)
    (case a22 => k_is)
    (case l22 => k_is)
    (case c22 => k_is)
    (case k22 => k_is)
    (case lc22 => k_is)
    (case lv22 => rfl)
    (case ln22 => kernel_rfl)
    (case lr22 => rfl)
    (case a23 => k_is)
    (case l23 => k_is)
    (case c23 => k_is)
    (case k23 => k_is)
    (case lc23 => k_is)
    (case lv23 => rfl)
    (case ln23 => kernel_rfl)
    (case lr23 => rfl)
    (case a24 => k_is)
    (case l24 => k_is)
    (case c24 => k_is)
    (case k24 => k_is)
    (case ne => decide)
    (case z0 => k_is)
    (case z1 => k_is)
    (case z2 => k_is)
    (case z3 => k_is)
    (case z4 => k_is)
    (case z5 => k_is)
    (case z6 => k_is)
    (case z7 => k_is)
    (case z8 => k_is)
    (case z9 => k_is)
    (case z10 => k_is)
    (case z11 => k_is)
    (case z12 => k_is)
    (case o0 => k_is)
    (case o1 => k_is)
    (case o2 => k_is)
    (case o3 => k_is)
    (case o4 => k_is)
    (case o5 => k_is)
    (case ema => k_is)
    (case em0 => k_is)
    (case ex0 => k_is)
    (case esa0 => k_is)
    (case ety0 => k_is)
    (case ekC0 => k_is)
    (case ehg0 => k_is)
    (case ehk0 => k_is)
    (case ehs0 => k_is)
    (case ehd0 => k_is)
    (case ei0 => k_is)
    (case et0 => k_is)
    (case l25 => k_is)
    (case c25 => k_is)
    (case k25 => k_is)
    (case en0_index => k_is)
    (case eex0 => kernel_rfl)
    (case em1 => k_is)
    (case ex1 => k_is)
    (case esa1 => k_is)
    (case ety1 => k_is)
    (case ekC1 => k_is)
    (case ehg1 => k_is)
    (case ehk1 => k_is)
    (case ehs1 => k_is)
    (case ehd1 => k_is)
    (case ei1 => k_is)
    (case et1 => k_is)
    (case l26 => k_is)
    (case c26 => k_is)
    (case k26 => k_is)
    (case en1_row => k_is)
    (case eex1 => kernel_rfl)
    (case xtn => kernel_rfl)
