import PyProof.Rows.All
import Wide.All
import OpenK.AllK
import Wide.FinOn
import HandS.ForMost
import HandS.Exc
import HandS.ExcInit
import HandS.ExcIs
import HandS.ExcField
import HandS.Evl
import HandS.Defaults
import HandS.IsInst
import HandS.ExcValue
import HandS.ExcBuiltin
import HandS.Wide
import HandS.MakeKwOnly
import KE.KExcIs
import HandS.Iter
import HandS.OwnEq
import HandS.Strs
import HandS.SetFor
import HandS.TupMul
import HandS.TupAny
import HandS.DictComp
import HandS.Conv
import HandS.Zip
import HandS.Rev
import PyProof.Rows.PlainNe
import KE.GoesEnum
import KE.GoesZip
import KE.GoesMore
import HandS.List
import HandS.Dict
import KE.KDictPairs
import HandS.ExcOwn
import PyProof.StrOps2
import HandS.WordsExc
import PySem.Challenge.RW_leastattr_k39_codes_made_and_refused
set_option Elab.async false
set_option linter.all false
set_option maxRecDepth 100000
set_option maxHeartbeats 4000000
/-! Exceptions as values: made by position or by name, their fields, isinstance. -/
namespace Exv
open PySem PySem.Spec PySem.W PySem.Calls PySem.HandSPX
section
variable {M : Model} {A : Around} {E : Value → Shared → Prop} {h : Heap} {g : Array GenState} {d : Drawn} {t : Nat} {os : OsState}
variable {nm q : Str} {C N : Addr} {bs bm bmB : List Value} {hdct : Bool} {sn : List Str} {sub : List Value} {ab : Bool} {col : Option Bool} {dd : Option Addr} {k0 k1 k2 k3 k5 : Option Value} {B newId initId : String}

theorem check_newK (F : ExcBaseFacts B newId initId bmB) (tail : ∀ X : String, bm.contains (.type X) = bmB.contains (.type X)) {rest : List Value} {kw : List (Str × Value)} {Q : Unit → Shared → Prop}
    (atC : h.get? C = some (excClassObj nm q C N bs bm hdct sn sub ab col dd k0 k1 k2 k3 k5 newId)) (go : Q () ⟨h, g, d, t, os⟩) : wpAny M A (checkBuiltinCall newId ⟨.ref C :: rest, kw⟩) Q E ⟨h, g, d, t, os⟩ := by
  have c0 : (Value.ref C :: bm).contains (.type B) = true := by rw [List.contains_cons, tail, F.hasB, Bool.or_true]
  have nst := F.noStar
  simp only [checkBuiltinCall, F.newKind, F.newSplit, F.newRow]
  repeat (first | refine wpAny_loadPart_at atC ?_ | (refine wpAny_isSubtype_exc atC ?_; rw [c0]) | refine wpAny_staticBase_exc atC ?_ | refine wpAny_madeBy_exc atC ?_ | simp only [bne_self_eq_false, Bool.false_eq_true, if_false] | wp_step)
  exact go
end
section
variable {prog : Program} {w : World} {A : Around} {E : Value → Shared → Prop} {R : Result → Shared → Prop} {h : Heap} {g : Array GenState} {d : Drawn} {t : Nat} {os : OsState}
variable {nm q : Str} {C N : Addr} {bs bm bmB : List Value} {hdct : Bool} {sn : List Str} {sub : List Value} {ab : Bool} {col : Option Bool} {dd : Option Addr} {k0 k1 k2 k3 k5 : Option Value} {B newId initId : String}

theorem newK (F : ExcBaseFacts B newId initId bmB) (tail : ∀ X : String, bm.contains (.type X) = bmB.contains (.type X)) {rest : List Value} {kw : List (Str × Value)}
    (atC : h.get? C = some (excClassObj nm q C N bs bm hdct sn sub ab col dd k0 k1 k2 k3 k5 newId))
    (go : R (.ok (.ret (.ref (h.objs.size + 1)))) ⟨(h.push { cls := .type "tuple", data := .seq rest.toArray }).push
      { cls := .ref C, data := .fields #[.ref h.objs.size, .none, .none, .none, .bool false, .none] }, g, d, t, os⟩) (fits : rest.length ≤ sizeLine) :
    codeAny (model prog w) A (.builtin newId ⟨.ref C :: rest, kw⟩) R ⟨h, g, d, t, os⟩ := by
  have fin0 := F.ends
  have c1 : (Value.ref C :: bm).contains (.type B) = true := by rw [List.contains_cons, tail, F.hasB, Bool.or_true]
  have c2 : (Value.ref C :: bm).contains (.type "AttributeError") = false := by rw [List.contains_cons, tail, F.noAttr]; rfl
  have c3 : (Value.ref C :: bm).contains (.type "NameError") = false := by rw [List.contains_cons, tail, F.noName]; rfl
  refine PySem.codeAny_builtinAt F.entry ?_
  unfold Builtin.«BaseException.__new__»
  refine PySem.wpAt_bind ?_
  show PySem.wpAt _ _ _ (stack >>= _) _ _ _
  refine PySem.wpAt_bind (PySem.wpAt_stack fun p below => PySem.wpAt_of_wpAny ?_)
  wp_walk
  refine PySem.wpAt_of_wpAny ?_
  rw [F.owner]
  repeat (first | with_reducible refine wpAny_madeHere_exc F.canon atC ?_ | with_reducible refine wpAny_loadPart_at atC ?_ | (with_reducible refine wpAny_isSubtype_exc atC ?_; first | rw [c1] | rw [c2] | rw [c3]) | wp_step)
  show R _ _
  rw [Heap.size_push]
  exact go

theorem type_callK (F : ExcBaseFacts B newId initId bmB) (tail : ∀ X : String, bm.contains (.type X) = bmB.contains (.type X)) {rest : List Value} {kw : List (Str × Value)} {fI : Addr} {Q : Fin → Shared → Prop}
    (atC : h.get? C = some (excClassObj nm q C N bs bm hdct sn sub ab col dd k0 k1 k2 k3 k5 newId))
    (ini : W.Looks (model prog w) h (typeLookup (.ref C) "__init__") (some (.ref fI))) (bnd : ∀ self, W.Looks (model prog w) h (bindSpecial (.ref fI) self) (.ref fI, [self])) (fits : rest.length ≤ sizeLine)
    (go : codeAny (model prog w) A (.call (.ref fI) ⟨.ref (h.objs.size + 1) :: rest, kw⟩)
      (fun r s' => match r with | .ok (.ret v) => v = .none ∧ Q (.done (.ret (.ref (h.objs.size + 1)))) s' | .ok _ => False | .error e => E e s')
      ⟨(h.push (W.kdv_tup rest)).push (excO C h.objs.size), g, d, t, os⟩) :
    wpAny (model prog w) A (Builtin.«type.__call__» ⟨.ref C :: rest, kw⟩) Q E ⟨h, g, d, t, os⟩ := by
  repeat (first | with_reducible refine wpAny_loadPart_at atC ?_ | with_reducible refine wpAny_madeBy_exc atC ?_ | wp_step)
  refine codeAny_call_builtin_code (Code.quiet_builtin _ F.quiet) (check_newK F tail atC ?_)
  refine newK F tail atC ?_ fits
  show wpAny _ _ _ _ _ _
  have kp : ∀ b o, h.get? b = some o → ((h.push (W.kdv_tup rest)).push (excO C h.objs.size)).get? b = some o := fun b o e => Heap.get?_push_of_some _ (Heap.get?_push_of_some _ e)
  have hC₁ := kp _ _ atC
  have got : ((h.push (W.kdv_tup rest)).push (excO C h.objs.size)).get? (h.objs.size + 1) = some (excO C h.objs.size) := by heap_get
  have c4 : (Value.ref C :: bm).contains (.ref C) = true := by simp
  have ini1 := ini.keeps kp
  have bnd1 := (bnd (.ref (h.objs.size + 1))).keeps kp
  unfold isInstance
  repeat (first | with_reducible refine wpAny_loadPart_at got ?_ | (with_reducible refine wpAny_isSubtype_exc hC₁ ?_; rw [c4]) | wp_step)
  show wpAny _ _ (typeLookup (.ref C) _) _ _ _
  refine ini1.at ?_
  refine wpAny_holding (wpAny_bind (bnd1.at ?_))
  refine wpAny_bind (wpAny_call (codeAny_mono go fun r s' z => ?_))
  rcases r with e | (v | _ | _ | _) <;> first | exact z | exact z.elim | skip
  obtain ⟨rfl, z⟩ := z
  first
    | exact wpAny_pure (wpAny_pure z)
    | (wp_walk; exact z)

theorem call_ownK (F : ExcBaseFacts B newId initId bmB) (tail : ∀ X : String, bm.contains (.type X) = bmB.contains (.type X)) {rest : List Value} {kw : List (Str × Value)} {fI : Addr}
    (atC : h.get? C = some (excClassObj nm q C N bs bm hdct sn sub ab col dd k0 k1 k2 k3 k5 newId))
    (ini : W.Looks (model prog w) h (typeLookup (.ref C) "__init__") (some (.ref fI))) (bnd : ∀ self, W.Looks (model prog w) h (bindSpecial (.ref fI) self) (.ref fI, [self])) (fits : rest.length ≤ sizeLine)
    (go : codeAny (model prog w) (A.under (.builtin "type.__call__" ⟨.ref C :: rest, kw⟩)) (.call (.ref fI) ⟨.ref (h.objs.size + 1) :: rest, kw⟩) (W.InitBack (h.objs.size + 1) R)
      ⟨(h.push (W.kdv_tup rest)).push (excO C h.objs.size), g, d, t, os⟩) :
    codeAny (model prog w) A (.call (.ref C) ⟨rest, kw⟩) R ⟨h, g, d, t, os⟩ := by
  have look0 := tc_lookup
  have bind0 := tc_bind (.ref C)
  have ty0 : (⟨h, g, d, t, os⟩ : Shared).TypeIs (.ref C) "type" := ⟨_, atC, rfl⟩
  refine codeAny_of_tree ?_
  show wpAny _ _ (callAny (.ref C) _) _ _ _
  repeat (any_goals (first | assumption | with_reducible refine wpAny_loadPart_at atC ?_ | wp_step))
  refine ⟨rfl, ?_⟩
  refine codeAny_call_builtin_at (Code.quiet_builtin _ (by decide +kernel)) entry_typeCall (wpAny_check_type_call_sub atC (type_callK F tail atC ini bnd fits ?_))
  refine codeAny_mono go fun r s' z => ?_
  rcases r with e | (v | _ | _ | _) <;> exact z
end
end Exv

namespace L2
open PySem PySem.Spec PyProof.Rows
/-- at a: an exception of the class at C, its fields fs -/
def ExcAt (H : Hp) (a C : Addr) (fs : List (Str × V)) : Prop := ∃ d, H a = some (exo a C (some d)) ∧ H d = some (exd d fs)
theorem ExcAt.mono {H H' : Hp} {a C : Addr} {fs : List (Str × V)} (e : ∀ b o, H b = some o → H' b = some o) (x : ExcAt H a C fs) : ExcAt H' a C fs :=
  let ⟨d, h1, h2⟩ := x; ⟨d, e _ _ h1, e _ _ h2⟩
/-- C(e, ..) of an exception class with its own __init__ -/
def tMkE (C : Addr) (sp : Sp) (ta : TA) : TE := fun σ H Q => ta σ H fun vs H1 => vs.length ≤ 1000 ∧ ∀ a, H1 a = none → sp (.ref a :: vs) (upd H1 a (exo a C none)) (fun v H2 => v = .non ∧ Q (.ref a) H2) (fun _ _ _ => False)
def tMkEK (C : Addr) (sp : Sp) (gV : List V → List V → List V) (n : Nat) (tk : TA) : TE := fun σ H Q => tk σ H fun zs H1 => zs.length = n ∧ ∀ a, H1 a = none → sp (gV [.ref a] zs) (upd H1 a (exo a C none)) (fun v H2 => v = .non ∧ Q (.ref a) H2) (fun _ _ _ => False)
/-- e.f of an exception -/
def tXv (K : PySem.W.Frag) (f : Str) (ta : TE) : TE := fun σ H Q => ta σ H fun x H1 => ∃ (a C : Addr) (fs : List (Str × V)) (v : V), x = .ref a ∧ ExcAt H1 a C fs ∧ XfC K C ∧ PySem.W.findIn K (.ref C) f = some none ∧ fs.lookup f = some v ∧ Q v H1
/-- isinstance(e, c) -/
def rIsX (K : PySem.W.Frag) : List V → Hp → VK → Prop := fun xs H Q => ∃ (a C : Addr) (c : V) (cv : Value) (b : Bool), xs = [.ref a, c] ∧ (H a = some (exo a C none) ∨ ∃ fs, ExcAt H a C fs) ∧ ClsV c cv ∧ ExcC K C ∧ PySem.W.kitOne K (.ref C) cv = some b ∧ Q (.bl b) H
section
variable {X : Cx} {k : Nat} {fI C : Addr} {fd : FuncData} {ps ks : List Str} {sp : Sp} {x f : Str} {p pos : Pos} {e : Expr} {es : List Expr} {kws : List Keyword} {ta tk : TA} {te : TE} {g : List Value → List Value → List Value} {gV : List V → List V → List V}
theorem run_exc {pins : List (Addr × Obj)} {σ : St} {H : Hp} {s : Shared} {Q : VK} {us : List Value} {kw : List (Str × Value)} {gv : Addr → List V} {gu : Addr → List Value} (T : OexC X.K C) (iC : PySem.W.findIn X.K (.ref C) "__init__" = some (some (.ref fI))) (tI : PySem.W.typeIn X.K (.ref fI) = some (.type "function"))
    (F1 : FnOk X.prog X.w X.K X.mg X.base CX0 k fI fd ps sp) (hr : Room (k + 1) X.A) (hb : ∀ (s : Shared) (a : Addr), X.K.In s.heap → BindsTo s fd ⟨.ref a :: us, kw⟩ (ps.zip (gu a)))
    (I : Inv X pins σ H s) (r : ∀ a, Vals (gv a) (gu a)) (hus : us.length ≤ sizeLine)
    (h : ∀ a, H a = none → sp (gv a) (upd H a (exo a C none)) (fun v H2 => v = .non ∧ Q (.ref a) H2) (fun _ _ _ => False)) :
    wpAny (model X.prog X.w) X.A (call (.ref C) us kw) (EP X pins σ Q) X.xe s := by
  obtain ⟨nm, q, N, bs, bm, sn, sub, ab, col, dd, k0, k1, k2, k3, k5, hC, hbm⟩ := T.cls
  obtain ⟨hp, gg, dr, tk, os⟩ := s
  have hsz : hp.objs.size ≤ hp.objs.size + 1 := Nat.le_succ _
  have hn : H (hp.objs.size + 1) = none := I.hok.fresh hsz
  have hq := h (hp.objs.size + 1) hn
  have kk : ∀ b o, hp.get? b = some o → ((hp.push (PySem.W.kdv_tup us)).push (PySem.HandSPX.excO C hp.objs.size)).get? b = some o := fun b o e => Heap.get?_push_of_some _ (Heap.get?_push_of_some _ e)
  have hget : ((hp.push (PySem.W.kdv_tup us)).push (PySem.HandSPX.excO C hp.objs.size)).get? (hp.objs.size + 1) = some (PySem.HandSPX.excO C hp.objs.size) := by heap_get
  have I2 : Inv X pins σ (upd H (hp.objs.size + 1) (exo (hp.objs.size + 1) C none)) ⟨(hp.push (PySem.W.kdv_tup us)).push (PySem.HandSPX.excO C hp.objs.size), gg, dr, tk, os⟩ :=
    I.laid (t' := tk) (a := hp.objs.size + 1) (o := exo (hp.objs.size + 1) C none) (h' := (hp.push (PySem.W.kdv_tup us)).push (PySem.HandSPX.excO C hp.objs.size)) kk hsz (exo_ok hget)
  refine wpAny_call (Exv.call_ownK F.excBase_ValueError (fun Y => PySem.HandSPX.refsVE_contains Y bm hbm) (I.kIn _ _ hC) (PySem.W.looks_findIn I.kIn iC) (fun self => PySem.W.bind_fn I.kIn self tI) hus
    (codeAny_mono (F1.run _ X.stack _ _ ⟨Value.ref (hp.objs.size + 1) :: us, kw⟩ (gu (hp.objs.size + 1)) _ _ (fun _ _ _ => False) (hr.make C us kw) (I2.env0.make C us kw) (hb _ (hp.objs.size + 1) I2.kIn) (r _) hq) fun r s' hq' => ?_))
  cases r with
  | error er => exact False.elim hq'
  | ok fl =>
    cases fl with
    | ret u =>
      obtain ⟨v, H', I3, rv, ev, q3⟩ := I2.after hq'
      subst ev
      exact ⟨rv, ⟨V.ref (hp.objs.size + 1), H', I3, rfl, q3⟩⟩
    | next => exact False.elim hq'
    | brk => exact False.elim hq'
    | cont => exact False.elim hq'
theorem pe_exc (T : OexC X.K C) (iC : PySem.W.findIn X.K (.ref C) "__init__" = some (some (.ref fI))) (tI : PySem.W.typeIn X.K (.ref fI) = some (.type "function"))
    (F1 : FnOk X.prog X.w X.K X.mg X.base CX0 k fI fd ps sp) (hr : Room (k + 1) X.A) (hb : Binds X.K fd ps []) (hm : X.mg x = some (.ref C)) (ha : PA X (e :: es) ta) (hg : Gl X x := by rfl)
    (hdb : (x == ("__debug__" : Str)) = false := by decide) (he : starEach (e :: es) X.env = (false, eval e X.env) :: starEach es X.env := by rfl) (hpl : (backTo pos (starEach es X.env)).any (·.1) = false := by rfl) :
    PE X (.Call (.Name x p) (e :: es) [] pos) (tMkE C sp ta) := by
  refine ⟨fun pins s σ H Q I h => ?_⟩
  refine wpAny_Call_Name_kw (ld_glob I hg hm ?_ hdb)
  refine PySem.W.callWith_K (h₀ := X.base) I.ok.mod.kin T.kC (thn (ha.run pos pins s σ H _ I h) fun us s1 ⟨vs, H1, I1, r1, hz, q1⟩ => ⟨I1.kIn, ?_⟩) he hpl
  show wpAny _ _ (call (.ref C) us) _ _ _
  have hus : us.length ≤ sizeLine := by
    rw [← Paired.length r1, sizeLine_eq]
    omega
  have hl : ∀ a, (Value.ref a :: us).length = ps.length := fun a => by
    have e1 := F1.len _ _ _ _ (q1 s1.heap.objs.size (I1.hok.fresh (Nat.le_refl _)))
    rw [← e1, List.length_cons, List.length_cons, ← Paired.length r1]
  refine run_exc (gv := fun a => .ref a :: vs) (gu := fun a => .ref a :: us) T iC tI F1 hr (fun s a hK => ?_) I1 (fun a => .cons rfl r1) hus q1
  have z := hb s (Value.ref a :: us) hK (by rw [List.append_nil]; exact hl a)
  rw [List.append_nil] at z
  exact z
theorem pe_excK (T : OexC X.K C) (iC : PySem.W.findIn X.K (.ref C) "__init__" = some (some (.ref fI))) (tI : PySem.W.typeIn X.K (.ref fI) = some (.type "function"))
    (F1 : FnOk X.prog X.w X.K X.mg X.base CX0 k fI fd ps sp) (hr : Room (k + 1) X.A) (hb : KBn X.K fd ps 1 ks g gV) (hm : X.mg x = some (.ref C)) (hkw : PK X kws tk) (hg : Gl X x := by rfl)
    (hall : (backToKw pos (keywordEach kws X.env)).all (·.1.isSome) = true := by rfl) (hks : (backToKw pos (keywordEach kws X.env)).filterMap (·.1) = ks := by rfl) (hdb : (x == ("__debug__" : Str)) = false := by decide)
    (hpl : ((backTo pos (starEach [] X.env)).any (·.1) || (backToKw pos (keywordEach kws X.env)).any (·.1.isNone)) = false := by rfl) :
    PE X (.Call (.Name x p) [] kws pos) (tMkEK C sp gV ks.length tk) := by
  refine ⟨fun pins s σ H Q I h => ?_⟩
  refine wpAny_Call_Name_kw (ld_glob I hg hm ?_ hdb)
  refine PySem.W.callWith_KW0 (h₀ := X.base) I.ok.mod.kin T.kC hall ?_ hpl
  refine thn (hkw.run pos pins s σ H _ I h) fun ws s2 ⟨zs, H2, I2, rz, l2, q2⟩ => ⟨I2.kIn, ?_⟩
  rw [hks]
  exact run_exc (us := []) (gv := fun a => gV [.ref a] zs) (gu := fun a => g [.ref a] ws) T iC tI F1 hr (fun s a hK => hb.to s [.ref a] ws hK rfl (rz.length.symm.trans l2)) I2 (fun a => hb.rel (.cons rfl .nil) rz) (by rw [sizeLine_eq]; decide) q2
theorem pe_xv (he : PE X e te) (hb : attributeBase e f X.env (eval e X.env) = eval e X.env := by rfl) : PE X (.Attribute e f pos) (tXv X.K f te) := by
  refine ⟨fun pins s σ H Q I h => ?_⟩
  refine attr_of hb (thn (he.run pins s σ H _ I h) fun u s1 hh => ?_)
  obtain ⟨x, H1, I1, rx, a, C, fs, v, ex, ⟨d, ea, ed⟩, T, hno, l, q⟩ := hh
  subst ex
  obtain rfl : u = Value.ref a := rx
  obtain ⟨t1, ho⟩ := exo_at I1.hok ea
  obtain ⟨mA, hns, hr⟩ := exd_at I1.hok ed
  obtain ⟨od, hod, hl⟩ := lookIn_ns hns
  obtain ⟨u, hu, ru⟩ := RelO.some_of (v := v) (o := mA f) (by rw [← l]; exact hr f)
  have J : PySem.W.InstAt s1.heap a { cls := .ref C, dict := some d, data := .fields #[.ref t1, .none, .none, .none, .bool false, .none] } C (some od) := ⟨ho, rfl, rfl, hod⟩
  exact HandSPX.exc_get I1.kIn J T.ga T.gg T.exC (PySem.W.findObj_own T.hdC hno rfl (by rw [hl, hu])) (handed_of ru) ⟨v, H1, I1.tok _, ru, q⟩
theorem call_isX : CallR X (.builtin "isinstance") (rIsX X.K) := by
  intro pins s σ H xs us Q I r h
  obtain ⟨a, C, c, cv, b, rfl, hx, hcv, T, e, q⟩ := h
  cases r with
  | cons rx rr =>
    cases rr with
    | cons rt rr =>
      cases rr
      cases rx
      have ec := hcv.eq rt
      subst ec
      have hcl : (PySem.W.clsIn X.K C).isSome = true := by
        obtain ⟨cd, hc, _⟩ := PySem.W.any_some T.hd
        rw [hc] <;> rfl
      rcases hx with ea | ⟨fs, d, ea, ed⟩
      · obtain ⟨t1, ho⟩ := exo_at I.hok ea
        have J : PySem.W.InstAt s.heap a { cls := .ref C, dict := none, data := .fields #[.ref t1, .none, .none, .none, .bool false, .none] } C none := ⟨ho, rfl, rfl, trivial⟩
        exact PySem.W.kia_one (PySem.W.kitx_exc hcl T.hg T.hk T.hs T.ha T.hn T.ht T.hm) I.kIn J e (fun z => nomatch z) fun tk => ⟨.bl b, H, I.tok tk, rfl, q⟩
      · obtain ⟨t1, ho⟩ := exo_at I.hok ea
        obtain ⟨mA, hns, hr⟩ := exd_at I.hok ed
        obtain ⟨od, hod, hl⟩ := lookIn_ns hns
        have J : PySem.W.InstAt s.heap a { cls := .ref C, dict := some d, data := .fields #[.ref t1, .none, .none, .none, .bool false, .none] } C (some od) := ⟨ho, rfl, rfl, hod⟩
        exact PySem.W.kia_one (PySem.W.kitx_exc hcl T.hg T.hk T.hs T.ha T.hn T.ht T.hm) I.kIn J e (fun z => nomatch z) fun tk => ⟨.bl b, H, I.tok tk, rfl, q⟩
end
end L2

namespace L2
open PySem PySem.Spec PyProof.Rows
/-- at a: an object whose class is the built-in T -/
def exb (a : Addr) (T : String) : HO := .ext fun h => PySem.W.KitAt a T h
theorem exb_ok {P : Program} {w : World} {H : Hp} {h : Heap} {a : Addr} {T : String} {o : Obj} (e : h.get? a = some o) (c : o.cls = .type T) : ObjOk P w H h a (exb a T) :=
  ⟨⟨o, e, c⟩, ⟨o, e⟩, fun _ _ ⟨o, q, r⟩ k => ⟨o, k o q, r⟩⟩
theorem exb_at {P : Program} {w : World} {H : Hp} {h : Heap} {a : Addr} {T : String} (hok : HOk P w H h) (e : H a = some (exb a T)) : PySem.W.KitAt a T h := by
  have x : ObjOk P w H h a (.ext fun h => PySem.W.KitAt a T h) := hok a _ e
  exact x.1
/-- isinstance(e, c), e of the built-in class ValueError -/
def rIsB (K : PySem.W.Frag) : List V → Hp → VK → Prop := fun xs H Q => ∃ (a : Addr) (c : V) (cv : Value) (b : Bool), xs = [.ref a, c] ∧ H a = some (exb a "ValueError") ∧ ClsV c cv ∧ PySem.W.kitOne K (.type "ValueError") cv = some b ∧ Q (.bl b) H
section
variable {X : Cx} {C : Addr} {x : Str} {p pos : Pos} {e : Expr} {es : List Expr} {ta : TA}
theorem call_isB : CallR X (.builtin "isinstance") (rIsB X.K) := by
  intro pins s σ H xs us Q I r h
  obtain ⟨a, c, cv, b, rfl, ea, hcv, e, q⟩ := h
  cases r with
  | cons rx rr =>
    cases rr with
    | cons rt rr =>
      cases rr
      cases rx
      have ec := hcv.eq rt
      subst ec
      exact PySem.W.kia_one (PySem.W.kitx_bexc PySem.F.excAttr_ValueError PySem.F.lkClass_ValueError PySem.F.soClass_ValueError (by decide +kernel)) I.kIn (exb_at I.hok ea) e (fun z => nomatch z) fun tk => ⟨.bl b, H, I.tok tk, rfl, q⟩
/-- ValueError(e, ..) as a value -/
theorem pe_ve (hg : Gl X "ValueError") (hm : X.mg "ValueError" = none) (ha : PA X (e :: es) ta)
    (he : starEach (e :: es) X.env = (false, eval e X.env) :: starEach es X.env := by rfl) (hpl : (backTo pos (starEach es X.env)).any (·.1) = false := by rfl) :
    PE X (.Call (.Name "ValueError" p) (e :: es) [] pos) (fun σ H Q => ta σ H fun vs H1 => vs.length ≤ sizeLine ∧ ∀ a, H1 a = none → Q (.ref a) (upd H1 a (exb a "ValueError"))) := by
  refine ⟨fun pins s σ H Q J h => ?_⟩
  refine wpAny_Call_Name_kw (ld_blt J hg hm boot_ValueError ?_)
  refine PyProof.Rows.callWith_type1 (thn (ha.run pos pins s σ H _ J h) fun us s1 hh => ?_) he hpl
  obtain ⟨vs, H1, I1, r1, q0, q1⟩ := hh
  obtain ⟨hp1, g1, d1, tk1, os1⟩ := s1
  refine wpAny_call_exc exb_ValueError.call (fun h' a mk => ?_) (Nat.le_trans (Nat.le_of_eq r1.length.symm) q0)
  have hn : H1 a = none := I1.hok.gone mk.new
  obtain ⟨t0, ha', _, _⟩ := mk.there
  exact ⟨.ref a, _, I1.laidN (t' := tk1) mk.keeps mk.new hn (exb_ok ha' rfl), rfl, q1 a hn⟩
/-- C(), C an exception class without __init__ of its own -/
theorem pe_exc0 (q : PySem.W.excIn X.K C [.type "ValueError", .type "Exception", .type "BaseException", .type "object"] "ValueError.__new__" = true) (gC : X.mg x = some (.ref C)) (kC : PySem.W.keepIn X.K (.ref C) = true) (hg : Gl X x := by rfl)
    (hdb : (x == ("__debug__" : Str)) = false := by decide) :
    PE X (.Call (.Name x p) [] [] pos) (fun _ H Q => ∀ a, H a = none → Q (.ref a) (upd H a (exo a C none))) := by
  refine ⟨fun pins s σ H Q I h => ?_⟩
  refine wpAny_Call_Name_kw (ld_glob I hg gC ?_ hdb)
  refine PySem.W.callWith_K0 I.kIn kC ?_
  show wpAny _ _ (call (.ref C) []) _ _ _
  obtain ⟨bm, N, nm, qn, bs, hdct, sn, sub, ab, col, dd, k0, k1, k2, k3, k5, mN, hC, hN, hni, T⟩ := exc_obj I.kIn q
  obtain ⟨hp1, g1, d1, tk1, os1⟩ := s
  refine wpAny_call_exc_subT PySem.F.excBase_ValueError T hC hN hni (fun h' a hm => ?_) (Nat.zero_le _)
  have hn : H a = none := I.hok.gone hm.new
  obtain ⟨t, ht, _, _⟩ := hm.there
  exact ⟨.ref a, _, I.laidN (t' := tk1) hm.keeps hm.new hn (exo_ok ht), rfl, h a hn⟩
end
/-! ### list + list, whatever may be read -/
def rCatS (K : PySem.W.Frag) : R2 := fun x y H Q => ∃ l b xs zs, x = .ref l ∧ y = .ref b ∧ SqL K H l xs ∧ SqL K H b zs ∧ xs.length + zs.length ≤ sizeLine ∧ ∀ p, H p = none → Q (.ref p) (upd H p (.lst (xs ++ zs)))
theorem op_catS {X : Cx} : OpR X (binaryOp .Add) (rCatS X.K) := by
  intro pins s σ H x y v u Q I rx ry h
  obtain ⟨l, b, xs, zs, rfl, rfl, hH, hB, hz, q⟩ := h
  cases rx
  cases ry
  obtain ⟨its, r, ⟨o1, n1, e1, c1, d1, s1⟩, z1⟩ := I.list hH
  obtain ⟨its2, r2, ⟨o2, n2, e2, c2, d2, s2⟩, z2⟩ := I.list hB
  have hl := r.length
  have hl2 := r2.length
  have ea : its.toArray ++ its2.toArray = (its ++ its2).toArray := by simp
  obtain ⟨oc1, od1, oda1, os1⟩ := o1
  obtain ⟨oc2, od2, oda2, os2⟩ := o2
  simp only at c1 d1 s1 c2 d2 s2
  subst c1 d1 s1 c2 d2 s2
  refine concat_meets ⟨_, e1, rfl⟩ ⟨_, e2, rfl⟩ noFill_list_add seq_list_add PySem.F.slot_list_add PySem.F.entry_list_add (PySem.F.args_list_add_2 _ _) (list_addW l b its.toArray its2.toArray n1 n2 none none os1 os2 (by rw [List.size_toArray, List.size_toArray]; omega)) ⟨e1, e2, ?_⟩
  rw [ea]
  exact ⟨.ref _, _, I.lnew (t' := s.toks) (r.append r2) (by rw [List.length_append]; omega), rfl, q _ I.fresh⟩
end L2

set_option Elab.async false
set_option linter.all false
set_option maxRecDepth 100000
set_option maxHeartbeats 4000000
/-! enumerate over a tuple; len(set(texts)); == and != by an own __eq__ with any answer. -/
namespace Own
open PySem PySem.Spec PySem.W PySem.Calls PySem.SeqAt
/-! ### enumerate(t), t a tuple -/
theorem newT (t : Addr) (its : Array Value) :
    Meets (Builtin.«enumerate.__new__» ⟨[.type "enumerate", .ref t], []⟩) (fun _ R s => s.heap.IsTuple t its ∧
      R (.ok (.ret (.ref (s.heap.objs.size + 1)))) { s with heap := (s.heap.push { cls := .type "tuple_iterator", data := .fields #[.ref t, .int 0 0] }).push { cls := .type "enumerate", data := .fields #[.none, .bool false, .ref s.heap.objs.size, rawInt 0, .none, .none] } }) :=
  .of_wp fun prog w A R s h => by
    obtain ⟨hp, g, d, tk, os⟩ := s; obtain ⟨hT, h⟩ := h
    have hsub := sub_enumerate
    have hz : (hp.push { cls := .type "tuple_iterator", data := .fields #[.ref t, .int 0 0] }).objs.size = hp.objs.size + 1 := Heap.size_push ..
    have h2 : R (.ok (.ret (.ref (hp.push { cls := .type "tuple_iterator", data := .fields #[.ref t, .int 0 0] }).objs.size))) ⟨(hp.push { cls := .type "tuple_iterator", data := .fields #[.ref t, .int 0 0] }).push { cls := .type "enumerate", data := .fields #[.none, .bool false, .ref hp.objs.size, rawInt 0, .none, .none] }, g, d, tk, os⟩ := by
      rw [hz]; exact h
    wp_walk using wpAny_pyIter_tuple hT
    refine wpAny_stack_any fun st => wpAny_pure ?_
    split
    · rename_i c _ _ _ _ _
      cases (c == Value.type "enumerate") <;> (wp_walk using wpAny_pyIter_tuple hT; exact ⟨_, rfl, h2⟩)
    · wp_walk using wpAny_pyIter_tuple hT
      exact ⟨_, rfl, h2⟩
section
variable {prog : Program} {w : World} {A : Around} {E : Value → Shared → Prop} {s : Shared}
theorem callT {t : Addr} {its : Array Value} {Q : Value → Shared → Prop} (hT : s.heap.IsTuple t its)
    (k : ∀ h', IsEnum h' (s.heap.objs.size + 1) s.heap.objs.size 0 .none → h'.IsTupleIter s.heap.objs.size t 0 → (∀ b o, s.heap.get? b = some o → h'.get? b = some o) → Q (.ref (s.heap.objs.size + 1)) { s with heap := h' }) :
    wpAny (model prog w) A (call (.type "enumerate") [.ref t]) Q E s := by
  refine callType_new F.called_enumerate (by decide) (F.typeCall_enumerate_1 _) (F.newCall_enumerate_1 _) (fun obj => F.args_object_init_2 obj _) F.entry_enumerate_new (newT t its) ⟨hT, ?_⟩
  have hz : (s.heap.push { cls := .type "tuple_iterator", data := .fields #[.ref t, .int 0 0] }).objs.size = s.heap.objs.size + 1 := Heap.size_push ..
  have he := Heap.get?_push_size (s.heap.push { cls := .type "tuple_iterator", data := .fields #[.ref t, .int 0 0] }) (o := { cls := .type "enumerate", data := .fields #[.none, .bool false, .ref s.heap.objs.size, rawInt 0, .none, .none] }) rfl
  rw [hz] at he
  exact ⟨⟨_, he, rfl⟩, k _ he ⟨_, Heap.get?_push_of_some _ (Heap.get?_push_size _ rfl), rfl, rfl⟩ fun b o x => Heap.get?_push_of_some _ (Heap.get?_push_of_some _ x)⟩
end
end Own
namespace L2
open PySem PySem.Spec PyProof.Rows
/-- the tuple at a, each item in a new pair -/
def IteT (K : PySem.W.Frag) (a : Addr) : It :=
  ⟨fun i H => ∃ (xs : List V) (x : V), SqT K H a xs ∧ xs[i]? = some x, fun i H v H' => ∃ T x, v = .ref T ∧ H T = none ∧ H' = upd H T (.tup [.int (i : Nat), x]) ∧ ∀ xs, SqT K H a xs → xs[i]? = some x, fun i H => ∃ xs : List V, SqT K H a xs ∧ xs.length ≤ i⟩
theorem turn_enumT {P : Program} {w : World} {K : PySem.W.Frag} {elts : List Expr} {kk : Nat} {tpos : Pos} (a e it : Addr) :
    Turn P w K (.Tuple elts kk tpos) (IteT K a) [e, it] e (fun i h => (∃ old, IsEnum h e it ((i : Nat) : Int) old) ∧ h.IsTupleIter it a i ∧ e ≠ it) where
  mem := by simp
  obj := fun i h st b hb => by
    obtain ⟨⟨old, he⟩, ⟨o, ho, hc, hd⟩, _⟩ := st
    have e' : b = e ∨ b = it := by simpa using hb
    rcases e' with z | z <;> rw [z]
    · exact ⟨_, he, fun v q => nomatch q⟩
    · exact ⟨o, ho, fun v q => by rw [hd] at q; cases q⟩
  keep := fun i h h' st k => ⟨st.1.imp fun _ he => k e (by simp) _ he, st.2.1.at fun o q => k it (by simp) o q, st.2.2⟩
  item := by
    intro X hP hw hK hc i pins s σ H E I hf st hg
    subst hP hw hK
    obtain ⟨⟨old, he⟩, hit, hne⟩ := st
    obtain ⟨xs, x, hq, hx⟩ := hg
    obtain ⟨its, rv, p, hz⟩ := I.tuple hq
    obtain ⟨u, hu, ru⟩ := rv.get hx
    have hel : e < s.heap.objs.size := Heap.lt_size he
    have hil : it < s.heap.objs.size := let ⟨_, q, _⟩ := hit; Heap.lt_size q
    have hai : a ≠ it := fun z => by
      obtain ⟨o, ho, ho2, _⟩ := hit
      obtain ⟨o3, ho3, ho4, _⟩ := p
      rw [z, ho] at ho3
      rw [← Option.some.inj ho3, ho2] at ho4
      injection ho4 with ho5
      exact absurd ho5 (by decide)
    have hae : a ≠ e := fun z => by
      obtain ⟨o3, ho3, ho4, _⟩ := p
      rw [z, he] at ho3
      rw [← Option.some.inj ho3] at ho4
      injection ho4 with ho5
      exact absurd ho5 (by decide)
    have hlt : i < its.toArray.size := by
      have := (List.getElem?_eq_some_iff.mp hu).1
      simpa using this
    refine wpAny_pyNext_enum_itemD (Draws.tuple (by rw [Around.in1_handled]; exact I.ok.hd hc) it a hai its.toArray) he ⟨hit, p⟩ hlt hne (by simp [hae.symm, hne]) fun x' h' tk hx' ho st' hT hsz hk => ?_
    refine ⟨_, rfl, wpAny_letOwnedTupleGo_enum (s := { s with heap := h', toks := tk + 1 }) ho fun h'' he' sb => ?_⟩
    have hxu : x' = u := by
      have h1 : its[i]? = some x' := by simpa using hx'
      rw [hu] at h1
      exact (Option.some.inj h1).symm
    subst hxu
    have hT2 : h''.get? s.heap.objs.size = some { cls := .type "tuple", data := .seq #[.int i tk, x'] } := (sb.2 _ (Nat.ne_of_gt hel)).trans hT
    have new : ObjOk X.prog X.w (upd H s.heap.objs.size (.tup [.int (i : Nat), x])) h'' s.heap.objs.size (.tup [.int (i : Nat), x]) :=
      ⟨by show 2 ≤ sizeLine; decide, [.int i tk, x'], .cons ⟨_, rfl⟩ (.cons ru .nil), ⟨_, hT2, rfl, _, rfl⟩⟩
    have I1 : Inv X pins σ (upd H s.heap.objs.size (.tup [.int (i : Nat), x])) { s with heap := h'', toks := tk + 1 } :=
      I.turnedNew (ch := [e, it]) (fun b ob hb q => (sb.2 b (fun z => hb (by simp [z]))).trans (hk b ob (fun z => hb (by simp [z])) (fun z => hb (by simp [z])) q)) hf (Nat.le_refl _) new
    refine ⟨.ref s.heap.objs.size, _, I1, rfl, ⟨_, x, rfl, I.hok.fresh (Nat.le_refl _), rfl, fun ys hy => by rw [I.tuple_inj hy hq]; exact hx⟩, ⟨⟨x', ?_⟩, st'.1.at fun o q => (sb.2 it (Ne.symm hne)).trans q, hne⟩, fun b hb => ?_⟩
    · rw [show ((i + 1 : Nat) : Int) = (i : Int) + 1 by omega]
      exact he'
    · have e' : b = e ∨ b = it := by simpa using hb
      have hb' : b < s.heap.objs.size := by
        rcases e' with z | z <;> rw [z] <;> assumption
      rw [upd_ne (Nat.ne_of_lt hb')]
      exact (hf b hb).1
  done := by
    intro X hP hw hK hc i pins s σ H E I hf st hg
    subst hP hw hK
    obtain ⟨⟨old, he⟩, hit, hne⟩ := st
    obtain ⟨xs, hq, hx⟩ := hg
    obtain ⟨its, rv, p, hz⟩ := I.tuple hq
    obtain ⟨f0, f1, f2, f3, f4, f5⟩ := hf it (by simp)
    have hl := rv.length
    have hT : s.TypeIs (.ref e) "enumerate" := ⟨_, he, rfl⟩
    have hE : ∀ (E2 : Value → Shared → Prop) (Q2 : Value → Shared → Prop), (∀ h' x, Heap.ExtBut it s.heap h' → (∃ o, h'.get? x = some o ∧ o.cls = .type "StopIteration") → E2 (.ref x) { s with heap := h' }) →
        wpAny (model X.prog X.w) X.A.in1 (Builtin.SmallTypes.nextOf (.ref it)) Q2 E2 s := fun E2 Q2 k =>
      wpAny_nextOf_tuple_end (by rw [Around.in1_handled]; exact I.ok.hd hc) hit p (by simp; omega) k
    unfold pyNext
    refine wpAny_bind (wpAny_attempt (wpAny_callSpecial?_slot (name := Str.ofString "__next__") hT F.slot_enumerate_next
      (wpAny_call_entry F.slot_enumerate_next hT F.entry_enumerate_next ?_ (F.args_enumerate_next_1 _))))
    show wpAny _ _ (field (.ref e) 2 >>= _) _ _ _
    refine wpAny_bind (wpAny_field he rfl (x := .ref it) rfl ?_)
    refine wpAny_bind (hE _ _ fun h' x he' hx' => ?_)
    obtain ⟨o, ho, hoc⟩ := hx'
    refine wpAny_bind (wpAny_isInstance (T := "StopIteration") (b := true) ⟨o, ho, hoc⟩ isSubtype_stop ?_)
    exact wpAny_pure ⟨rfl, I.turned (t' := s.toks) (fun b ob hb q => he' b ob hb q) f0 f1 f3 f4 f5⟩
  self := fun A i s Q E st h => let ⟨⟨_, he⟩, _⟩ := st; wpAny_pyIter_enum he h
def iEnumA (K : PySem.W.Frag) (ta : TA) : TI := fun σ H R => ta σ H fun vs H1 => ∃ a xs, vs = [.ref a] ∧ ((SqL K H1 a xs ∧ R (Ite K a) H1) ∨ (SqT K H1 a xs ∧ R (IteT K a) H1))
/-- enumerate of a list or a tuple -/
theorem pi_enumA {X : Cx} {e : Expr} {ta : TA} {p pos tpos : Pos} {elts : List Expr} {kk : Nat} (hg : Gl X "enumerate") (hm : X.mg "enumerate" = none) (ha : PA X [e] ta) (hs : starEach [e] X.env = [(false, eval e X.env)] := by rfl) :
    PI X (.Tuple elts kk tpos) (.Call (.Name "enumerate" p) [e] [] pos) (iEnumA X.K ta) := by
  refine ⟨fun pins s σ H R I h => ?_⟩
  refine Call_ (ld_blt I hg hm boot_enumerate (PyProof.Rows.callWith_type1 (thn (ha.run pos pins s σ H _ I h) fun us s1 ⟨vs, H1, I1, r1, a, xs, ex, q⟩ => ?_) hs rfl))
  subst ex
  rw [Vals.ref1 r1]
  have fp : ∀ b ∈ [s1.heap.objs.size + 1, s1.heap.objs.size], FpOk X pins H1 b := fun b hb => by
    have e' : b = s1.heap.objs.size + 1 ∨ b = s1.heap.objs.size := by simpa using hb
    have hle : s1.heap.objs.size ≤ b := by rcases e' with z | z <;> omega
    exact I1.fpOk hle (I1.hok.fresh hle)
  rcases q with ⟨hq, q⟩ | ⟨hq, q⟩
  · obtain ⟨its, rv, p', hz⟩ := I1.list hq
    refine call_enumerate_list p'.isList fun h' he hit hsz hk => wpAny_pyIter_enum he ?_
    exact ⟨s1.heap.objs.size + 1, [s1.heap.objs.size + 1, s1.heap.objs.size], _, _, H1, rfl, I1.kept (t' := s1.toks) hk, turn_enum a (s1.heap.objs.size + 1) s1.heap.objs.size, ⟨⟨.none, he⟩, hit, Nat.succ_ne_self _⟩, fp, q⟩
  · obtain ⟨its, rv, p', hz⟩ := I1.tuple hq
    refine Own.callT p' fun h' he hit hk => wpAny_pyIter_enum he ?_
    exact ⟨s1.heap.objs.size + 1, [s1.heap.objs.size + 1, s1.heap.objs.size], _, _, H1, rfl, I1.kept (t' := s1.toks) hk, turn_enumT a (s1.heap.objs.size + 1) s1.heap.objs.size, ⟨⟨.none, he⟩, hit, Nat.succ_ne_self _⟩, fp, q⟩
end L2

set_option Elab.async false
set_option linter.all false
set_option maxRecDepth 100000
set_option maxHeartbeats 8000000
namespace Own
open PySem PySem.Spec PySem.W PySem.Calls PySem.SeqAt PyProof.Rows
section
variable {prog : Program} {w : World} {A : Around} {R : Result → Shared → Prop} {I : Addr} {fp wr : List Addr} {G : Array GenState → Array GenState → Prop} {n : Nat} {P : Nat → Value → Prop} {St : Nat → Shared → Prop}
/-- the first i texts are in the set, c of them different -/
def Some_ (prog : Program) (w : World) (h : Heap) (S : Addr) (xs : List Str) (i : Nat) : Prop := ∃ c, c ≤ i ∧ (c = i ↔ (xs.take i).Nodup) ∧ h.SetOf (PySem.strKind prog w) S (fun z => decide (z ∈ xs.take i)) c
theorem nodup_snoc {α : Type} [DecidableEq α] {l : List α} {x : α} : (l ++ [x]).Nodup ↔ l.Nodup ∧ x ∉ l := by
  rw [List.nodup_append]
  constructor
  · rintro ⟨h1, _, h3⟩
    exact ⟨h1, fun hx => h3 x hx x (by simp) rfl⟩
  · rintro ⟨h1, h2⟩
    exact ⟨h1, by simp, fun a ha b hb => by
      rw [List.mem_singleton] at hb
      subst hb
      exact fun z => h2 (z ▸ ha)⟩
theorem addTexts (W : WalksS prog w A.in1 I fp wr G n P St) (S : Addr) (hSf : S ∉ fp) (xs : List Str) (hsz : xs.length = n) (hn1 : n ≤ 1000) (hval : ∀ i v, P i v → ∃ z t, xs[i]? = some z ∧ v = .str z t) :
    ∀ (k i : Nat) (s : Shared), n - i = k → i ≤ n → St i s → Some_ prog w s.heap S xs i → (∀ s', Moved (S :: wr) G s s' → Some_ prog w s'.heap S xs n → R (.ok (.ret .none)) s') →
      codeAny (model prog w) A (.builtin "set.update.loop" ⟨[.ref S, .ref I], []⟩) R s := by
  have hSw : S ∉ wr := fun h => hSf (W.sub _ h)
  have hsub : ∀ b ∈ wr, b ∈ S :: wr := fun b hb => List.mem_cons_of_mem _ hb
  have keep : ∀ {s s' : Shared} {i : Nat}, Moved wr G s s' → Some_ prog w s.heap S xs i → Some_ prog w s'.heap S xs i := fun hm ⟨c, c1, c2, o, es, ep, t, ho, rest⟩ => ⟨c, c1, c2, o, es, ep, t, hm.heap S _ hSw ho, rest⟩
  intro k
  induction k with
  | zero =>
    intro i s hk hi hst hS hR
    obtain rfl : i = n := by omega
    refine codeAny_builtin PyProof.Rows.F.entry_set_update_loop ?_
    rw [Around.under_plainId PyProof.Rows.F.plain_set_update_loop _]
    show wpAny _ A.in1 (pyNext (.ref I) >>= _) _ _ s
    refine wpAny_bind (W.done s _ _ hst fun s' hm => ?_)
    exact wpAny_pure (hR s' (hm.mono hsub) (keep hm hS))
  | succ k ih =>
    intro i s hk hi hst hS hR
    have hlt : i < n := by omega
    refine codeAny_builtin PyProof.Rows.F.entry_set_update_loop ?_
    rw [Around.under_plainId PyProof.Rows.F.plain_set_update_loop _]
    show wpAny _ A.in1 (pyNext (.ref I) >>= _) _ _ s
    refine wpAny_bind (W.item i s _ _ hlt hst fun v s' hP hst' hm => ?_)
    obtain ⟨z, t, hz, rfl⟩ := hval i v hP
    obtain ⟨c, c1, c2, hS'⟩ := keep hm hS
    show wpAny _ A.in1 (holding [Value.str z t] (setAdd S (.str z t)) >>= _) _ _ s'
    refine wpAny_bind (wpAny_holding ?_)
    unfold setAdd
    refine wpAny_holding (wpAny_bind ((PySem.strKind prog w).pyHash (k := z) (strKind_is _ _ _ _) ?_))
    refine wpAny_setAddHashed_of (knd := PySem.strKind prog w) (s := { s' with toks := s'.toks + 1 }) (strKind_is _ _ _ _) rfl hS' (by unfold scanBound; omega) fun h' hsb hS2 => ?_
    have et : xs.take (i + 1) = xs.take i ++ [z] := by rw [List.take_add_one, hz]; rfl
    have hS3 : Some_ prog w h' S xs (i + 1) := by
      refine ⟨_, ?_, ?_, SetOf_congr hS2 (fun y => ?_) rfl⟩
      · split <;> omega
      · rw [et, nodup_snoc]
        by_cases hm : z ∈ xs.take i
        · rw [if_pos (decide_eq_true hm)]
          exact ⟨fun e => by omega, fun e => absurd hm e.2⟩
        · rw [if_neg (by simpa using hm)]
          exact ⟨fun e => ⟨c2.mp (by omega), hm⟩, fun e => by have := c2.mpr e.1; omega⟩
      · rw [et]
        simp [List.mem_append]
    refine wpAny_pure ⟨plainId_quiet PyProof.Rows.F.plain_set_update_loop _, ih (i + 1) _ (by omega) hlt (W.frame _ s' _ _ hst' (Nat.le_succ _) fun b hb o e => ?_) hS3 fun s'' hm'' hS'' => ?_⟩
    · rw [hsb.2 b (fun h : b = S => hSf (by rw [← h]; exact hb))]; exact e
    · refine hR s'' (Moved.trans W.gtrans ((hm.mono hsub).then_heap (Nat.le_succ _) fun b o hb e => ?_) hm'') hS''
      rw [hsb.2 b (fun h : b = S => hb (by rw [h]; exact List.mem_cons_self))]; exact e
end
section
variable {prog : Program} {w : World} {A : Around} {E : Value → Shared → Prop} {s : Shared}
abbrev setO0 (led : Bool) : Obj := { cls := .type "set", dict := none, data := .set #[] 0 (.fresh 0 0 led) }
/-- set(t) of a tuple of texts -/
theorem call_set_texts {l : Addr} {items : Array Value} (xs : List Str) {Q : Value → Shared → Prop} (hh : A.handled = none) (hl : s.heap.IsTuple l items) (hi : StrsAre items.toList xs) (hn1 : xs.length ≤ 1000)
    (k : ∀ (h' : Heap) (tk : Nat), Some_ prog w h' s.heap.objs.size xs xs.length → (∀ b o, b < s.heap.objs.size → s.heap.get? b = some o → h'.get? b = some o) → Q (.ref s.heap.objs.size) { s with heap := h', toks := tk }) :
    wpAny (model prog w) A (call (.type "set") [.ref l]) Q E s := by
  obtain ⟨c, tl, hmro⟩ := PySem.F.called_set.mro
  have hmade := PySem.F.called_set.made
  have hsub := PySem.F.called_set.sub
  refine wpAny_call (codeAny_of_tree ?_)
  show wpAny _ _ (callAny (.type "set") _) _ _ _
  refine wpAny_pure ⟨Code.quiet_builtin _ (by decide +kernel), codeAny_builtin PySem.F.entry_type_call ?_⟩
  rw [Around.under_plain (weight_type_call_type "set" [.ref l] []) rfl]
  have h1 := PySem.F.called_set.notType
  have h2 := PySem.F.called_set.canCreate
  have hct := PySem.F.typeCall_set_1 (.ref l)
  repeat (any_goals (first | assumption | wp_step))
  refine codeAny_mono (code_set_new_1 (.ref l) (E := E) (Q₁ := fun obj s₁ => ∃ led : Bool, obj = .ref s.heap.objs.size ∧ s₁ = { s with heap := s.heap.push (setO0 led) }) fun led => ⟨led, rfl, rfl⟩) fun r s₁ hr => ?_
  rcases r with e | (obj | _ | _ | _) <;> first | exact hr | exact hr.elim | skip
  obtain ⟨led, rfl, rfl⟩ := hr
  have hS : (s.heap.push (setO0 led)).get? s.heap.objs.size = some (setO0 led) := Heap.get?_push_size _ rfl
  have hT : Shared.TypeIs { s with heap := s.heap.push (setO0 led) } (.ref s.heap.objs.size) "set" := ⟨_, hS, rfl⟩
  have hli := PySem.F.called_set.init.lookup
  have hbi := PySem.F.called_set.init.bind (.ref s.heap.objs.size)
  repeat (any_goals (first | assumption | wp_step))
  refine codeAny_mono (codeAny_call_builtin (R := wants (fun r s₂ => r = .none ∧ ∃ h' tk, s₂ = { s with heap := h', toks := tk } ∧ Some_ prog w h' s.heap.objs.size xs xs.length ∧
      (∀ b o, b < s.heap.objs.size → s.heap.get? b = some o → h'.get? b = some o)) E) PySem.F.called_set.init.plain PySem.F.entry_set_init (check_set_init_1 hT ?_)) fun r₂ s₂ hr₂ => ?_
  · have hlS : l < s.heap.objs.size := let ⟨ol, hol, _⟩ := hl; Heap.lt_size hol
    have hl1 : (s.heap.push (setO0 led)).IsTuple l items := hl.push _
    obtain ⟨⟨ocls, odict, odata, oslots⟩, hol', hcl, nl, hdl⟩ := id hl1
    simp only at hcl hdl
    subst hcl; subst hdl
    have hsls := PySem.F.sub_tuple_set
    have hslf := PySem.F.sub_tuple_frozenset
    have hne : (Value.type "tuple" == Value.type "dict") = false := by decide
    unfold Builtin.«set.__init__» noKeywords Builtin.Frozenset.updateFrom
    generalize hPI : pyIter = PI
    wp_walk
    subst hPI
    refine wpAny_pyIter_tuple hl1 (wpAny_bind (wpAny_runValue ?_))
    have hh3 : A.in1.in1.in1.handled = none := by simp [hh]
    have hz1 : (s.heap.push (setO0 led)).objs.size = s.heap.objs.size + 1 := Heap.size_push ..
    have hneI : l ≠ (s.heap.push (setO0 led)).objs.size := by rw [hz1]; exact Nat.ne_of_lt (Nat.lt_succ_of_lt hlS)
    have hsz : xs.length = items.size := by rw [← StrsAre.len_eq hi, Array.length_toList]
    have hval : ∀ (i : Nat) (v : Value), items[i]? = some v → ∃ z t, xs[i]? = some z ∧ v = .str z t := fun i v hv => by
      obtain ⟨t, e⟩ := SS.strs_at hi i v (by rw [Array.getElem?_toList]; exact hv)
      have hlt : i < xs.length := by rw [hsz]; exact (Array.getElem?_eq_some_iff.mp hv).1
      refine ⟨xs[i], t, List.getElem?_eq_getElem hlt, ?_⟩
      rw [e, List.getD_eq_getElem?_getD, List.getElem?_eq_getElem hlt]
      rfl
    refine addTexts ((Walks.tuple hh3 _ l hneI items).toS) s.heap.objs.size (by rw [hz1]; simp only [List.mem_cons, List.mem_singleton, List.not_mem_nil, or_false, not_or]; exact ⟨Nat.ne_of_lt (Nat.lt_succ_self _), Nat.ne_of_gt hlS⟩) xs hsz (by omega) hval (items.size - 0) 0 _ (by omega) (Nat.zero_le _)
      ⟨⟨_, Heap.get?_push_size _ rfl, rfl, rfl⟩, (hl1.push _)⟩ ?hS0 ?hR
    case hS0 =>
      refine ⟨0, Nat.le_refl _, by simp, ?_⟩
      refine SetOf_congr ((setObjOf_fresh (knd := PySem.strKind prog w) led).setOf (a := s.heap.objs.size) (Heap.get?_push_of_some _ hS) (by unfold scanBound; omega)) (fun _ => ?_) rfl
      simp
    case hR =>
      intro s' hm hS'
      obtain ⟨h', g', d', tk', os'⟩ := s'
      obtain rfl : g' = s.gens := hm.gens
      obtain rfl : d' = s.drawn := hm.drawn
      obtain rfl : os' = s.os := hm.os
      refine wpAny_pure (wpAny_pure ⟨rfl, h', tk', rfl, by rw [hsz]; exact hS', fun b o hb e => ?_⟩)
      exact hm.heap b o (by rw [hz1]; simp only [List.mem_cons, List.mem_singleton, List.not_mem_nil, or_false, not_or]; exact ⟨Nat.ne_of_lt hb, Nat.ne_of_lt (Nat.lt_succ_of_lt hb)⟩) (Heap.get?_push_of_some _ (Heap.get?_push_of_some _ e))
  · rcases r₂ with e | (r | _ | _ | _) <;> first | exact hr₂ | exact hr₂.elim | skip
    obtain ⟨rfl, h', tk, rfl, hS', hk'⟩ := hr₂
    repeat (any_goals (first | assumption | wp_step))
    exact k _ _ hS' hk'
end
end Own

namespace L2
open PySem PySem.Spec PyProof.Rows
section
variable {X : Cx}
/-- len(set(t)), t a tuple of texts: as many as they are exactly if no two are equal -/
def tLenSetT (K : PySem.W.Frag) (ta : TE) : TE := fun σ H Q => ta σ H fun x H1 => ∃ l, ∃ xs : List Str, x = .ref l ∧ SqT K H1 l (xs.map V.str) ∧ xs.length ≤ 1000 ∧ ∀ c : Nat, c ≤ xs.length → (c = xs.length ↔ xs.Nodup) → Q (.int c) H1
theorem pe_lenSetT {a : Expr} {ta : TE} {p p2 q pos : Pos} (hc : X.calm = true) (hg : Gl X "len") (hm : X.mg "len" = none) (hg2 : Gl X "set") (hm2 : X.mg "set" = none) (ha : PE X a ta)
    (na : starEach [a] X.env = (false, eval a X.env) :: starEach [] X.env := by rfl) : PE X (.Call (.Name "len" p) [.Call (.Name "set" p2) [a] [] q] [] pos) (tLenSetT X.K ta) := by
  refine ⟨fun pins s σ H Q I h => Call_ (ld_blt I hg hm boot_len ?_)⟩
  refine PyProof.Rows.callWith_builtin1 (PyProof.Rows.args_cons ?_ rfl) rfl rfl
  refine Call_ (ld_blt I hg2 hm2 boot_set ?_)
  refine PyProof.Rows.callWith_type1 (PyProof.Rows.args_cons (thn (ha.run pins s σ H _ I h) fun v s1 ⟨x, H1, I1, r1, l, xs, ex, hq, h1, q1⟩ => PyProof.Rows.args_nil ?_) na) na rfl
  subst ex
  obtain rfl : v = Value.ref l := r1
  obtain ⟨its, r, pl, hz⟩ := I1.tuple hq
  refine Own.call_set_texts xs (I1.ok.hd hc) pl (by simpa using strsAre_of r) h1 fun h' tk ⟨c, c1, c2, hS⟩ hk => PyProof.Rows.args_nil ?_
  obtain ⟨o, es, ep, t, ho, hex, hd, _, _, _, hf, hn⟩ := hS
  have I2 : Inv X pins σ H1 { s1 with heap := h' } := I1.kept (t' := s1.toks) fun b o e => hk b o (Heap.lt_size e) e
  rw [List.take_length] at c2
  refine call_len_set ho hex hd hf (by rw [hn] <;> omega) ⟨.int c, H1, I2.tok _, ⟨_, by rw [hn]⟩, q1 c c1 c2⟩
end
end L2

set_option Elab.async false
set_option linter.all false
set_option maxRecDepth 100000
set_option maxHeartbeats 8000000
namespace Own
open PySem PySem.Spec PySem.W PySem.Calls
section
variable {prog : Program} {w : World} {A : Around} {E : Value → Shared → Prop} {s : Shared} {K : Frag} {x C L f : Addr} {h₀ : Heap} {m : Str → Option Value} {ox : Obj} {od : Option Obj} {b tb : Value}
variable {nm q : Str} {N : Addr} {bs bm : List Value} {hdct : Bool} {sn : List Str} {sub : List Value} {ab : Bool} {col : Option Bool} {dd : Option Addr} {k0 k1 k2 k3 k5 : Option Value} {newId : String}
theorem ifBound_B {M : Model} {name : Str} {id : String} {args : List Value} {Q : Option Value → Shared → Prop} (X : K.In s.heap) (I : InstAt s.heap x ox C od) (hs : findIn K (.ref C) name = some (some (.builtin id)))
    (hbd : ∀ self, bindSpecial (.builtin id) self = pure (.builtin id, [self])) (h : wpAny M A (call (.builtin id) (.ref x :: args)) (fun v => Q (some v)) E s) : wpAny M A (callSpecialIfBound? (.ref x) name args) Q E s := by
  simp only [callSpecialIfBound?, bindSpecialIfBound?]
  refine wpAny_holding (wpAny_bind (wpAny_bind (wpAny_bind (I.type.here ((looks_findIn X hs).here ?_)))))
  simp only [hbd]
  refine wpAny_bind (wpAny_askSetting (wpAny_ite ?_))
  have fin : wpAny M A (call (.builtin id) ([.ref x] ++ args) >>= fun v => pure (some v)) Q E s := wpAny_bind (wpAny_mono h (fun v s' h' => wpAny_pure h') fun _ _ h' => h')
  split
  · exact wpAny_bind (wpAny_pure (wpAny_pure fin))
  · exact wpAny_tryCatch (wpAny_bind (wpAny_pure (wpAny_pure fin)))
theorem neBody (hu : A.units < cLine) (X : K.In s.heap) (I : InstAt s.heap x ox C od) (hs : findIn K (.ref C) "__eq__" = some (some (.ref f))) (hf : isFn K (.ref f) = true) {Q : Fin → Shared → Prop}
    (h : wpAny (model prog w) A (call (.ref f) [.ref x, b]) (fun v s' => ∃ c, v = .bool c ∧ Q (.done (.ret (.bool (!c)))) s') E s) :
    wpAny (model prog w) A (Builtin.«object.__ne__» ⟨[.ref x, b], []⟩) Q E s := by
  unfold Builtin.«object.__ne__»
  repeat (first
    | with_reducible refine wpAny_cRoomFor hu ?_
    | (refine wpAny_bind (m := callSpecialIfBound? (.ref x) (Str.ofString "__eq__") [b]) (ifBound_K X I hs hf (wpAny_mono h (fun r s' hr => by
          obtain ⟨c, rfl, hq⟩ := hr
          repeat (first | exact hq | exact wpAny_pure hq | exact wpAny_truthy_bool hq | (refine wpAny_bind (m := truthy (.bool _)) (wpAny_truthy_bool ?_)) | wp_step)) fun _ _ e => e)))
    | wp_step)
theorem cmpNe {Q : Value → Shared → Prop} (hu : A.units + 1 < cLine) (X : K.In s.heap) (I : InstAt s.heap x ox C od) (hb : Looks (model prog w) s.heap (typeOf b) tb) (hn : notFirst K C tb = true)
    (hs : findIn K (.ref C) "__eq__" = some (some (.ref f))) (hf : isFn K (.ref f) = true) (hne : findIn K (.ref C) "__ne__" = some (some (.builtin "object.__ne__")))
    (hC : s.heap.get? C = some (excClassObj nm q C N bs bm hdct sn sub ab col dd k0 k1 k2 k3 k5 newId)) (hbm : bm.contains (.type "object") = true)
    (h : wpAny (model prog w) A.in1 (call (.ref f) [.ref x, b]) (fun v s' => ∃ c, v = .bool c ∧ Q (.bool (!c)) s') E s) : wpAny (model prog w) A (richCompare .NotEq (.ref x) b) Q E s := by
  have S := F.cmp_object.ne
  have one : wpAny (model prog w) A (tryCompare (.ref x) "__ne__" b) (fun r s' => ∃ v, r = some v ∧ Q v s') E s := by
    unfold tryCompare
    have mid : wpAny (model prog w) A (call (.builtin "object.__ne__") [.ref x, b]) (fun v s' => ∃ c, v = .bool c ∧ Q v s') E s := by
      obtain ⟨hp, g, d, t, os⟩ := s
      refine wpAny_call (codeAny_call_builtin S.plain F.cmpEntry_ne (wpAny_check_slot_inst F.cmpKind_ne F.cmpSplit_ne (F.cmpArgs_ne _ _) hbm I.at_ I.cls hC (neBody (A := A.in1) (by rw [Around.in1_units]; exact hu) X I hs hf (wpAny_mono h (fun v s' hv => ?_) fun _ _ e => e))))
      obtain ⟨c, rfl, hq⟩ := hv
      first | exact ⟨c, rfl, _, rfl, hq⟩ | exact ⟨c, rfl, c, rfl, hq⟩ | exact ⟨c, rfl, hq⟩
    exact wpAny_bind (ifBound_B X I hne S.bind (wpAny_mono mid (fun v s' ⟨c, e, hq⟩ => by subst e; exact wpAny_pure ⟨_, rfl, hq⟩) fun _ _ e => e))
  unfold richCompare
  simp only [oneThing_ref]
  refine wpAny_holding (wpAny_bind (wpAny_cRoomFor (Nat.lt_of_succ_lt hu) ?_))
  rw [cmpInfo_NotEq]
  dsimp only
  refine wpAny_bind (I.type.here (wpAny_bind (hb.here ?_)))
  have fin : wpAny (model prog w) A (tryCompare (.ref x) "__ne__" b) (fun r s' => ∃ v, r = some v ∧ Q v s') E s := one
  split
  · rename_i hq
    have e : subIn K tb (.ref C) = some false := by
      rcases Bool.or_eq_true_iff.mp hn with e | e
      · rw [beq_iff_eq.mp e] at hq; simp at hq
      · exact beq_iff_eq.mp e
    refine wpAny_bind ((looks_subIn X e).here ?_)
    simp only [Bool.false_eq_true, if_false]
    refine wpAny_bind (wpAny_mono one (fun r s' z => ?_) fun _ _ e => e)
    obtain ⟨v, rfl, hq⟩ := z
    exact wpAny_pure hq
  · refine wpAny_bind (wpAny_pure ?_)
    simp only [Bool.false_eq_true, if_false]
    refine wpAny_bind (wpAny_mono one (fun r s' z => ?_) fun _ _ e => e)
    obtain ⟨v, rfl, hq⟩ := z
    exact wpAny_pure hq
end
end Own
namespace L2
open PySem PySem.Spec PyProof.Rows
/-- what the other one is: of the class too, or a tuple -/
def TyE (K : PySem.W.Frag) (C : Addr) (H : Hp) (y : V) : Prop := (∃ b dy gs, y = .ref b ∧ H b = some (.ins C dy gs)) ∨ (∃ b ys, y = .ref b ∧ SqT K H b ys ∧ PySem.W.notFirst K C (.type "tuple") = true)
def rEqS (K : PySem.W.Frag) (C : Addr) (sp : Sp) (E : XK) : R2 := fun x y H Q => ∃ a dx fs, x = .ref a ∧ H a = some (.ins C dx fs) ∧ TyE K C H y ∧ sp [x, y] H (fun v H' => ∃ c, v = .bl c ∧ Q (.bl c) H') E
def rNeS (K : PySem.W.Frag) (C : Addr) (sp : Sp) (E : XK) : R2 := fun x y H Q => ∃ a dx fs, x = .ref a ∧ H a = some (.ins C dx fs) ∧ TyE K C H y ∧ sp [x, y] H (fun v H' => ∃ c, v = .bl c ∧ Q (.bl (!c)) H') E
/-- a class with a method __eq__ and no __ne__ -/
structure EqC (K : PySem.W.Frag) (C f : Addr) : Prop where
  eq : PySem.W.findIn K (.ref C) "__eq__" = some (some (.ref f))
  fn : PySem.W.isFn K (.ref f) = true
  ne : PySem.W.findIn K (.ref C) "__ne__" = some (some (.builtin "object.__ne__"))
  cls : ∃ (nm q : Str) (N : Addr) (bs bm : List Value) (hdct : Bool) (sn : List Str) (sub : List Value) (ab : Bool) (col : Option Bool) (dd : Option Addr) (k0 k1 k2 k3 k5 : Option Value) (newId : String),
    K.lookup C = some (excClassObj nm q C N bs bm hdct sn sub ab col dd k0 k1 k2 k3 k5 newId) ∧ bm.contains (.type "object") = true
section
variable {X : Cx} {n : Nat} {CX : CXT} {C f : Addr} {fd : FuncData} {ps : List Str} {sp : Sp} {E : XK}
theorem tyE_looks {pins : List (Addr × Obj)} {σ : St} {H : Hp} {s : Shared} {y : V} {u : Value} (I : Inv X pins σ H s) (r : RelV y u) (h : TyE X.K C H y) : ∃ tb, PySem.W.Looks (model X.prog X.w) s.heap (typeOf u) tb ∧ PySem.W.notFirst X.K C tb = true := by
  rcases h with ⟨b, dy, gs, rfl, hb⟩ | ⟨b, ys, rfl, hb, hn⟩
  · cases r
    obtain ⟨mB, J', _⟩ := ins_get I.hok hb
    obtain ⟨od', J', _⟩ := J'.look
    exact ⟨.ref C, J'.type, by simp [PySem.W.notFirst]⟩
  · cases r
    obtain ⟨its, rv, ⟨o, ho, hc, _⟩, hz⟩ := I.tuple hb
    refine ⟨.type "tuple", ?_, hn⟩
    have q : PySem.W.Looks (model X.prog X.w) s.heap (typeOf (.ref b)) o.cls := (PySem.W.Looks.ld ho).andThen .now
    rw [hc] at q
    exact q
theorem run_own {pins : List (Addr × Obj)} {σ : St} {H : Hp} {s : Shared} {x y : V} {v u : Value} {Q : VK} {A : Around} (F : FnOk X.prog X.w X.K X.mg X.base CX n f fd ps sp) (hb : Binds X.K fd ps []) (hx : Passes CX X E) (hr : Room n A) (hfr : A.frames = X.A.frames)
    (I : Inv X pins σ H s) (rx : RelV x v) (ry : RelV y u) (h : sp [x, y] H Q E) : wpAny (model X.prog X.w) A (call (.ref f) [v, u]) (fun r s' => ∃ z H', Inv X pins σ H' s' ∧ RelV z r ∧ Q z H') X.xe s := by
  have e0 : Env0 X.prog X.w X.K X.mg X.base A X.stack s H := by
    have e := I.env0
    exact ⟨by rw [hfr]; exact e.frames, e.mod, e.bs, e.bsz, e.funs, e.frf, e.hok, e.bare⟩
  have hl := F.len _ _ _ _ h
  refine wpAny_call (codeAny_mono (F.run A X.stack s H ⟨[v, u], []⟩ [v, u] [x, y] _ E hr e0 (by
    have := hb s [v, u] I.kIn (by simpa using hl)
    simpa using this) (.cons rx (.cons ry .nil)) h) fun r s' hq => ?_)
  rcases r with e | (w | _ | _ | _)
  · exact hx pins σ H s e s' I hq
  · exact hq.elim
  · exact hq.elim
  · exact hq.elim
  · obtain ⟨z, H', I', rz, q⟩ := I.after hq
    exact ⟨z, H', I', rz, q⟩
theorem op_eqS (F : FnOk X.prog X.w X.K X.mg X.base CX n f fd ps sp) (T : EqC X.K C f) (hb : Binds X.K fd ps []) (hx : Passes CX X E) (hr : Room n X.A) : OpR X (compareOp .Eq) (rEqS X.K C sp E) := by
  intro pins s σ H x y v u Q I rx ry h
  obtain ⟨a, dx, fs, rfl, ha, ty, hs⟩ := h
  cases rx
  obtain ⟨mA, J, _⟩ := ins_get I.hok ha
  obtain ⟨od, J, _⟩ := J.look
  obtain ⟨m, hF⟩ := I.fr
  obtain ⟨tb, ht, hn⟩ := tyE_looks I ry ty
  refine PySem.W.cmp_K (op := .Eq) (tb := tb) hr.units0 hF I.ok.mod.kin J ht hn T.eq T.fn ?_
  refine wpAny_mono (run_own (x := .ref a) F hb hx hr rfl I rfl ry hs) (fun r s' ⟨z, H', I', rz, c, ez, q⟩ => ?_) fun _ _ e => e
  subst ez
  cases rz
  exact ⟨.bl c, H', I', rfl, q⟩
theorem op_neS (F : FnOk X.prog X.w X.K X.mg X.base CX n f fd ps sp) (T : EqC X.K C f) (hb : Binds X.K fd ps []) (hx : Passes CX X E) (hr : Room (n + 1) X.A) : OpR X (compareOp .NotEq) (rNeS X.K C sp E) := by
  intro pins s σ H x y v u Q I rx ry h
  obtain ⟨a, dx, fs, rfl, ha, ty, hs⟩ := h
  cases rx
  obtain ⟨mA, J, _⟩ := ins_get I.hok ha
  obtain ⟨od, J, _⟩ := J.look
  obtain ⟨tb, ht, hn⟩ := tyE_looks I ry ty
  obtain ⟨nm, q, N, bs, bm, hdct, sn, sub, ab, col, dd, k0, k1, k2, k3, k5, newId, hC, hbm⟩ := T.cls
  refine Own.cmpNe (by have := hr.units; omega) I.kIn J ht hn T.eq T.fn T.ne (I.kIn _ _ hC) hbm ?_
  refine wpAny_mono (run_own (x := .ref a) F hb hx hr.in1 rfl I rfl ry hs) (fun r s' ⟨z, H', I', rz, c, ez, q⟩ => ?_) fun _ _ e => e
  subst ez
  cases rz
  exact ⟨c, rfl, .bl (!c), H', I', rfl, q⟩
end
end L2

set_option Elab.async false
set_option linter.all false
set_option maxRecDepth 100000
set_option maxHeartbeats 4000000
namespace Own
open PySem PySem.Spec PyProof.Rows
open AutoSeq1 (wpAny_loadPart')
theorem mulOne (l : Addr) (items : Array Value) (n : Nat) (dd : Option Addr) (sl : Array (Option Value)) (u : Tok) :
    Meets (Builtin.«tuple.__mul__» ⟨[.ref l, .int 1 u], []⟩) (fun _ R s => s.heap.get? l = some { cls := .type "tuple", dict := dd, data := .seq items n, slots := sl } ∧ R (.ok (.ret (Value.ref l))) s) :=
  .of_wp fun prog w A R s h => by
    obtain ⟨hp, g, d, tk, os⟩ := s
    obtain ⟨hl, h⟩ := h
    have f1 := AutoSeq1.idx_int
    have c0 : (decide ((1 : Int) < -(2 ^ 63)) || decide ((1 : Int) ≥ 2 ^ 63)) = false := by decide
    have c1 : (items.isEmpty || (1 : Int) == 1) = true := by simp
    wp_walk using wpAny_loadPart' hl
    repeat (first
      | (refine wpAny_ite_false (decide_eq_false (by rw [c0]; exact Bool.false_ne_true)) ?_; wp_walk using wpAny_loadPart' hl)
      | (refine wpAny_ite_true (decide_eq_true c1) ?_; wp_walk using wpAny_loadPart' hl))
    exact ⟨_, rfl, h⟩
theorem mulNone (l : Addr) (items : Array Value) (n : Nat) (dd : Option Addr) (sl : Array (Option Value)) (u : Tok) (hi : items.isEmpty = false) :
    Meets (Builtin.«tuple.__mul__» ⟨[.ref l, .int 0 u], []⟩) (fun _ R s => s.heap.get? l = some { cls := .type "tuple", dict := dd, data := .seq items n, slots := sl } ∧
      R (.ok (.ret (Value.ref s.heap.objs.size))) { s with heap := s.heap.push { cls := Value.type "tuple", data := Data.seq #[] }, toks := s.toks }) :=
  .of_wp fun prog w A R s h => by
    obtain ⟨hp, g, d, tk, os⟩ := s
    obtain ⟨hl, h⟩ := h
    have f1 := AutoSeq1.idx_int
    have c0 : (decide ((0 : Int) < -(2 ^ 63)) || decide ((0 : Int) ≥ 2 ^ 63)) = false := by decide
    have c1 : (items.isEmpty || (0 : Int) == 1) = false := by rw [hi]; rfl
    have c2 : (decide ((0 : Int) ≤ 0) || items.isEmpty) = true := by simp
    wp_walk using wpAny_loadPart' hl
    repeat (first
      | (refine wpAny_ite_false (decide_eq_false (by rw [c0]; exact Bool.false_ne_true)) ?_; wp_walk using wpAny_loadPart' hl)
      | (refine wpAny_ite_false (decide_eq_false (by rw [c1]; exact Bool.false_ne_true)) ?_; wp_walk using wpAny_loadPart' hl)
      | (refine wpAny_ite_true (decide_eq_true c2) ?_; wp_walk using wpAny_loadPart' hl))
    exact ⟨_, rfl, h⟩
end Own
namespace L2
open PySem PySem.Spec PyProof.Rows
/-- t * k, k from 0 on -/
def rRepA (K : PySem.W.Frag) : R2 := fun x y H Q => ∃ (l : Addr) (k : Nat) (xs : List V), x = .ref l ∧ y = .int k ∧ SqT K H l xs ∧ xs ≠ [] ∧ k ≤ 1000 ∧ xs.length ≤ 1000 ∧ (k = 1 → Q (.ref l) H) ∧ (k ≠ 1 → ∀ p, H p = none → Q (.ref p) (upd H p (.tup (List.replicate k xs).flatten)))
section
variable {X : Cx}
theorem op_repA : OpR X (binaryOp .Mult) (rRepA X.K) := by
  intro pins s σ H x y v u Q I rx ry h
  obtain ⟨l, k, xs, rfl, rfl, hT, hne, h2, hz, q1, q⟩ := h
  by_cases hk : 2 ≤ k
  · exact op_repT pins s σ H _ _ v u Q I rx ry ⟨l, k, xs, rfl, rfl, hT, hne, by omega, by omega, hz, by simpa using q (by omega)⟩
  cases rx
  obtain ⟨t, rfl⟩ := ry
  obtain ⟨its, r, ⟨⟨cls, dd, data, sl⟩, ho, hc, n, hd⟩, hs⟩ := I.tuple hT
  simp only at hc hd
  subst hc hd
  have hi : its.toArray.isEmpty = false := by
    cases its with
    | nil => exact absurd (List.eq_nil_of_length_eq_zero r.length) hne
    | cons a b => rfl
  have go : ∀ {Q2 : Value → Shared → Prop}, wpAny (model X.prog X.w) X.A (call (.builtin "tuple.__mul__") [.ref l, .int (k : Int) t]) Q2 X.xe s → wpAny (model X.prog X.w) X.A (binaryOp .Mult (.ref l) (.int (k : Int) t)) Q2 X.xe s := fun h =>
    wpAny_binaryOp_repeat_ref (T := "tuple") (U := "int") (by decide) ⟨_, ho, rfl⟩ (fun s' => typeIs_int s' k t) noFill_tuple_mul F.fills_int_mul F.slot_int_rmul repeat_tuple F.slot_int_index.lookup
      (call_meets F.slot_int_rmul (typeIs_int s k t) F.entry_int_rmul (F.args_int_rmul_2 _ _) (int_rmul_tuple k t l its.toArray n dd sl) ⟨ho, rfl, ⟨_, ho, rfl⟩, h⟩)
  rcases (by omega : k = 1 ∨ k = 0) with e | e
  · subst e
    exact go (call_meets F.slot_tuple_mul ⟨_, ho, rfl⟩ F.entry_tuple_mul (F.args_tuple_mul_2 _ _) (Own.mulOne l its.toArray n dd sl t) ⟨ho, ⟨.ref l, H, I, rfl, q1 rfl⟩⟩)
  · subst e
    refine go (call_meets F.slot_tuple_mul ⟨_, ho, rfl⟩ F.entry_tuple_mul (F.args_tuple_mul_2 _ _) (Own.mulNone l its.toArray n dd sl t hi) ⟨ho, ?_⟩)
    refine ⟨.ref s.heap.objs.size, _, I.laid (t' := s.toks) (o := .tup (List.replicate 0 xs).flatten) (fun b ob q => Heap.get?_push_of_some _ q) (Nat.le_refl _) ?_, rfl, q (by omega) _ (I.hok.fresh (Nat.le_refl _))⟩
    exact ⟨Nat.zero_le _, [], .nil, IsTup.new _ _⟩
end
end L2

set_option Elab.async false
set_option linter.all false
set_option maxRecDepth 100000
set_option maxHeartbeats 4000000
namespace L2
open PySem PySem.Spec PyProof.Rows
theorem tup_ne_iter {h : Heap} {a i1 t : Addr} {its : Array Value} {i : Nat} (p : IsTup h a its) (q : h.IsTupleIter i1 t i) : a ≠ i1 := fun z => by
  obtain ⟨o, ho, ho2, _⟩ := q
  obtain ⟨o3, ho3, ho4, _⟩ := p
  rw [z, ho] at ho3
  rw [← Option.some.inj ho3, ho2] at ho4
  injection ho4 with ho5
  exact absurd ho5 (by decide)
theorem lst_ne_iter {h : Heap} {a i1 t : Addr} {its : Array Value} {i : Nat} (p : h.IsList a its) (q : h.IsListIter i1 t i) : a ≠ i1 := fun z => by
  obtain ⟨o, ho, ho2, _⟩ := q
  obtain ⟨o3, ho3, ho4, _⟩ := p
  rw [z, ho] at ho3
  rw [← Option.some.inj ho3, ho2] at ho4
  injection ho4 with ho5
  exact absurd ho5 (by decide)
theorem not2 {x y z : Addr} (h1 : x ≠ y) (h2 : x ≠ z) : x ∉ [y, z] := fun h => by
  rcases List.mem_cons.mp h with h | h
  · exact h1 h
  · exact h2 (List.mem_singleton.mp h)
theorem zsep (n a b : Nat) (la : a < n) (lb : b < n) : ZipSep2 (n + 4) (n + 2) (n + 3) n (n + 1) [n, a] [n + 1, b] where
  TIz := (fun h : (n + 2 : Nat) = n + 4 => by omega)
  TOz := (fun h : (n + 3 : Nat) = n + 4 => by omega)
  TITO := (fun h : (n + 2 : Nat) = n + 3 => by omega)
  TIi1 := (fun h : (n + 2 : Nat) = n => by omega)
  mem1 := List.mem_cons_self
  zf1 := not2 (fun h : (n + 4 : Nat) = n => by omega) (fun h : (n + 4 : Nat) = a => by omega)
  Tf1 := not2 (fun h : (n + 3 : Nat) = n => by omega) (fun h : (n + 3 : Nat) = a => by omega)
  TIi2 := (fun h : (n + 2 : Nat) = n + 1 => by omega)
  mem2 := List.mem_cons_self
  zf2 := not2 (fun h : (n + 4 : Nat) = n + 1 => by omega) (fun h : (n + 4 : Nat) = b => by omega)
  Tf2 := not2 (fun h : (n + 3 : Nat) = n + 1 => by omega) (fun h : (n + 3 : Nat) = b => by omega)
  sep1_2 := not2 (fun h : (n : Nat) = n + 1 => by omega) (fun h : (n : Nat) = b => by omega)
  sep2_1 := not2 (fun h : (n + 1 : Nat) = n => by omega) (fun h : (n + 1 : Nat) = a => by omega)
/-- the tuple at a and the list at b, the items in new pairs -/
def ItzM (K : PySem.W.Frag) (a b : Addr) : It :=
  ⟨fun i H => ∃ (xs ys : List V) (x y : V), SqT K H a xs ∧ SqL K H b ys ∧ xs.length = ys.length ∧ xs[i]? = some x ∧ ys[i]? = some y,
    fun i H v H' => ∃ T x y, v = .ref T ∧ H T = none ∧ H' = upd H T (.tup [x, y]) ∧ (∀ xs, SqT K H a xs → xs[i]? = some x) ∧ ∀ ys, SqL K H b ys → ys[i]? = some y,
    fun i H => ∃ xs ys : List V, SqT K H a xs ∧ SqL K H b ys ∧ xs.length = i ∧ ys.length = i⟩
theorem turn_zipM {P : Program} {w : World} {K : PySem.W.Frag} {elts : List Expr} {kk : Nat} {tpos : Pos} {a b z TI TO i1 i2 : Addr} (D : ZipSep2 z TI TO i1 i2 [i1, a] [i2, b]) :
    Turn P w K (.Tuple elts kk tpos) (ItzM K a b) [z, TI, TO, i1, i2] z (fun i h => IsZip h z TI TO .none ∧ IsTupOf2 h TI (.ref i1) (.ref i2) ∧ (∃ x y, IsTupOf2 h TO x y) ∧ h.IsTupleIter i1 a i ∧ h.IsListIter i2 b i) where
  mem := by simp
  obj := fun i h st c hc => by
    obtain ⟨hz, hTI, ⟨x, y, hTO⟩, ⟨o1, e1, _, d1⟩, ⟨o2, e2, _, d2⟩⟩ := st
    have e' : c = z ∨ c = TI ∨ c = TO ∨ c = i1 ∨ c = i2 := by simpa using hc
    rcases e' with q | q | q | q | q <;> rw [q]
    · exact ⟨_, hz, fun v q => nomatch q⟩
    · exact ⟨_, hTI, fun v q => nomatch q⟩
    · exact ⟨_, hTO, fun v q => nomatch q⟩
    · exact ⟨o1, e1, fun v q => by rw [d1] at q; cases q⟩
    · exact ⟨o2, e2, fun v q => by rw [d2] at q; cases q⟩
  keep := fun i h h' st k => ⟨k z (by simp) _ st.1, k TI (by simp) _ st.2.1, let ⟨x, y, hTO⟩ := st.2.2.1; ⟨x, y, k TO (by simp) _ hTO⟩, st.2.2.2.1.at fun o q => k i1 (by simp) o q, st.2.2.2.2.at fun o q => k i2 (by simp) o q⟩
  item := by
    intro X hP hw hK hc i pins s σ H E I hf st hg
    subst hP hw hK
    obtain ⟨hz, hTI, ⟨x0, y0, hTO⟩, h1, h2⟩ := st
    obtain ⟨xs, ys, x, y, hqx, hqy, _, hx, hy⟩ := hg
    obtain ⟨its, rv, p, _⟩ := I.tuple hqx
    obtain ⟨its2, rv2, p2, _⟩ := I.list hqy
    obtain ⟨u, hu, ru⟩ := rv.get hx
    obtain ⟨u2, hu2, ru2⟩ := rv2.get hy
    have hzl : z < s.heap.objs.size := Heap.lt_size hz
    have hh : X.A.in1.handled = none := by rw [Around.in1_handled]; exact I.ok.hd hc
    have D1 := Draws.tuple (prog := X.prog) (w := X.w) hh i1 a (tup_ne_iter p h1) its.toArray
    have D2 := Draws.list (prog := X.prog) (w := X.w) hh i2 b (lst_ne_iter p2.isList h2) its2.toArray
    have hl1 : i < its.toArray.size := by simpa using (List.getElem?_eq_some_iff.mp hu).1
    have hl2 : i < its2.toArray.size := by simpa using (List.getElem?_eq_some_iff.mp hu2).1
    refine wpAny_pyNext_zipD2_item D D1 D2 hz hTI hTO ⟨h1, p⟩ ⟨h2, p2.isList⟩ hl1 hl2 fun v1 v2 h' tk e1 e2 z' TO' s1 s2 hT hsz hk => ?_
    have q1 : v1 = u := by
      have h1 : its[i]? = some v1 := by simpa using e1
      rw [hu] at h1
      exact (Option.some.inj h1).symm
    have q2 : v2 = u2 := by
      have h1 : its2[i]? = some v2 := by simpa using e2
      rw [hu2] at h1
      exact (Option.some.inj h1).symm
    subst q1 q2
    refine ⟨_, rfl, wpAny_letOwnedTupleGo_zip (s := { s with heap := h', toks := tk }) z' fun h'' z'' sb => ?_⟩
    have hT2 : h''.get? s.heap.objs.size = some { cls := .type "tuple", data := .seq #[v1, v2] } := (sb.2 _ (Nat.ne_of_gt hzl)).trans hT
    have new : ObjOk X.prog X.w (upd H s.heap.objs.size (.tup [x, y])) h'' s.heap.objs.size (.tup [x, y]) :=
      ⟨by show 2 ≤ sizeLine; decide, [v1, v2], .cons ru (.cons ru2 .nil), ⟨_, hT2, rfl, _, rfl⟩⟩
    have I1 : Inv X pins σ (upd H s.heap.objs.size (.tup [x, y])) { s with heap := h'', toks := tk } :=
      I.turnedNew (t' := tk) (ch := [z, TI, TO, i1, i2]) (fun c o hb q => (sb.2 c (fun q' => hb (by simp [q']))).trans (hk c o (fun q' => hb (by simp [q'])) (fun q' => hb (by simp [q'])) (fun q' => hb (by simp [q'])) (fun q' => hb (by simp [q'])) q)) hf (Nat.le_refl _) new
    refine ⟨.ref s.heap.objs.size, _, I1, rfl, ⟨_, x, y, rfl, I.hok.fresh (Nat.le_refl _), rfl, fun l hl => by rw [I.tuple_inj hl hqx]; exact hx, fun l hl => by rw [I.list_inj hl hqy]; exact hy⟩, ⟨z'', ?_, ⟨v1, v2, ?_⟩, ?_, ?_⟩, fun c hcm => ?_⟩
    · exact (sb.2 _ D.TIz).trans (hk _ _ D.TIz D.TITO D.TIi1 D.TIi2 hTI)
    · exact (sb.2 _ D.TOz).trans TO'
    · exact s1.1.at fun o q => (sb.2 _ (Ne.symm D.zi1)).trans q
    · exact s2.1.at fun o q => (sb.2 _ (Ne.symm D.zi2)).trans q
    · have e' : c = z ∨ c = TI ∨ c = TO ∨ c = i1 ∨ c = i2 := by simpa using hcm
      have hlt : c < s.heap.objs.size := by
        rcases e' with q | q | q | q | q <;> rw [q]
        · exact hzl
        · exact Heap.lt_size hTI
        · exact Heap.lt_size hTO
        · obtain ⟨_, e1, _⟩ := h1; exact Heap.lt_size e1
        · obtain ⟨_, e2, _⟩ := h2; exact Heap.lt_size e2
      rw [upd_ne (Nat.ne_of_lt hlt)]
      exact (hf c hcm).1
  done := by
    intro X hP hw hK hc i pins s σ H E I hf st hg
    subst hP hw hK
    obtain ⟨hz, hTI, ⟨x0, y0, hTO⟩, h1, h2⟩ := st
    obtain ⟨xs, ys, hqx, hqy, hx, hy⟩ := hg
    obtain ⟨its, rv, p, _⟩ := I.tuple hqx
    obtain ⟨its2, rv2, p2, _⟩ := I.list hqy
    have l1 := rv.length
    have l2 := rv2.length
    have hh : X.A.in1.handled = none := by rw [Around.in1_handled]; exact I.ok.hd hc
    have D1 := Draws.tuple (prog := X.prog) (w := X.w) hh i1 a (tup_ne_iter p h1) its.toArray
    have D2 := Draws.list (prog := X.prog) (w := X.w) hh i2 b (lst_ne_iter p2.isList h2) its2.toArray
    exact wpAny_pyNext_zipD2_end D D1 D2 hz hTI hTO ⟨h1, p⟩ ⟨h2, p2.isList⟩ (by simp; omega) (by simp; omega) (.inl (by simp; omega)) fun h' tk hk => ⟨rfl, I.turnedL (t' := tk) (ch := [z, TI, TO, i1, i2]) (fun c o hb q =>
      hk c o (fun q' => hb (by simp [q'])) (fun q' => hb (by simp [q'])) (fun q' => hb (by simp [q'])) (fun q' => hb (by simp [q'])) q) hf⟩
  self := fun A i s Q E st h => wpAny_pyIter_zip st.1 h
def iZipM (K : PySem.W.Frag) (ta : TA) : TI := fun σ H R => ta σ H fun vs H1 => ∃ a b xs ys, vs = [.ref a, .ref b] ∧ SqT K H1 a xs ∧ SqL K H1 b ys ∧ R (ItzM K a b) H1
/-- zip(t, l) of a tuple and a list -/
theorem pi_zipM {X : Cx} {e e2 : Expr} {ta : TA} {p pos tpos : Pos} {elts : List Expr} {kk : Nat} (hg : Gl X "zip") (hm : X.mg "zip" = none) (ha : PA X [e, e2] ta)
    (hs : starEach [e, e2] X.env = (false, eval e X.env) :: starEach [e2] X.env := by rfl) (hpl : (backTo pos (starEach [e2] X.env)).any (·.1) = false := by rfl) :
    PI X (.Tuple elts kk tpos) (.Call (.Name "zip" p) [e, e2] [] pos) (iZipM X.K ta) := by
  refine ⟨fun pins s σ H R I h => ?_⟩
  refine Call_ (ld_blt I hg hm PyProof.Rows.boot_zip (PyProof.Rows.callWith_type1 (thn (ha.run pos pins s σ H _ I h) fun us s1 ⟨vs, H1, I1, r1, a, b, xs, ys, ex, hqx, hqy, q⟩ => ?_) hs hpl))
  subst ex
  cases r1 with
  | cons r rr =>
    cases rr with
    | cons r' rr =>
      cases rr
      cases r
      cases r'
      have fp : ∀ c, c ∈ [s1.heap.objs.size + 4, s1.heap.objs.size + 2, s1.heap.objs.size + 3, s1.heap.objs.size, s1.heap.objs.size + 1] → FpOk X pins H1 c := fun c hcm => by
        have e' : c = s1.heap.objs.size + 4 ∨ c = s1.heap.objs.size + 2 ∨ c = s1.heap.objs.size + 3 ∨ c = s1.heap.objs.size ∨ c = s1.heap.objs.size + 1 := by simpa using hcm
        have hle : s1.heap.objs.size ≤ c := by rcases e' with z | z | z | z | z <;> rw [z] <;> first | exact Nat.le_add_right _ _ | exact Nat.le_refl _
        exact I1.fpOk hle (I1.hok.fresh hle)
      obtain ⟨its, rv, p1, _⟩ := I1.tuple hqx
      obtain ⟨its2, rv2, p2, _⟩ := I1.list hqy
      have la : a < s1.heap.objs.size := by obtain ⟨o, ho, _⟩ := p1; exact Heap.lt_size ho
      have lb : b < s1.heap.objs.size := p2.lt
      refine zip_begins2 (begins_tuple a its.toArray) (begins_list b its2.toArray) p1 p2.isList fun h' hz hTI hTO h1 h2 hsz hk => wpAny_pyIter_zip hz ?_
      refine ⟨s1.heap.objs.size + 4, [s1.heap.objs.size + 4, s1.heap.objs.size + 2, s1.heap.objs.size + 3, s1.heap.objs.size, s1.heap.objs.size + 1], _, _, H1, rfl, I1.kept (t' := s1.toks) hk, turn_zipM (a := a) (b := b) (i1 := s1.heap.objs.size) (i2 := s1.heap.objs.size + 1) ?_, ⟨hz, hTI, ⟨_, _, hTO⟩, ⟨_, h1, rfl, rfl⟩, ⟨_, h2, rfl, rfl⟩⟩, fp, q⟩
      exact zsep _ _ _ la lb
end L2

set_option Elab.async false
set_option linter.all false
set_option maxRecDepth 100000
set_option maxHeartbeats 4000000
namespace L2
open PySem PySem.Spec PyProof.Rows
/-- the list at a and the tuple at b, the items in new pairs -/
def ItzN (K : PySem.W.Frag) (a b : Addr) : It :=
  ⟨fun i H => ∃ (xs ys : List V) (x y : V), SqL K H a xs ∧ SqT K H b ys ∧ xs.length = ys.length ∧ xs[i]? = some x ∧ ys[i]? = some y,
    fun i H v H' => ∃ T x y, v = .ref T ∧ H T = none ∧ H' = upd H T (.tup [x, y]) ∧ (∀ xs, SqL K H a xs → xs[i]? = some x) ∧ ∀ ys, SqT K H b ys → ys[i]? = some y,
    fun i H => ∃ xs ys : List V, SqL K H a xs ∧ SqT K H b ys ∧ xs.length = i ∧ ys.length = i⟩
theorem turn_zipN {P : Program} {w : World} {K : PySem.W.Frag} {elts : List Expr} {kk : Nat} {tpos : Pos} {a b z TI TO i1 i2 : Addr} (D : ZipSep2 z TI TO i1 i2 [i1, a] [i2, b]) :
    Turn P w K (.Tuple elts kk tpos) (ItzN K a b) [z, TI, TO, i1, i2] z (fun i h => IsZip h z TI TO .none ∧ IsTupOf2 h TI (.ref i1) (.ref i2) ∧ (∃ x y, IsTupOf2 h TO x y) ∧ h.IsListIter i1 a i ∧ h.IsTupleIter i2 b i) where
  mem := by simp
  obj := fun i h st c hc => by
    obtain ⟨hz, hTI, ⟨x, y, hTO⟩, ⟨o1, e1, _, d1⟩, ⟨o2, e2, _, d2⟩⟩ := st
    have e' : c = z ∨ c = TI ∨ c = TO ∨ c = i1 ∨ c = i2 := by simpa using hc
    rcases e' with q | q | q | q | q <;> rw [q]
    · exact ⟨_, hz, fun v q => nomatch q⟩
    · exact ⟨_, hTI, fun v q => nomatch q⟩
    · exact ⟨_, hTO, fun v q => nomatch q⟩
    · exact ⟨o1, e1, fun v q => by rw [d1] at q; cases q⟩
    · exact ⟨o2, e2, fun v q => by rw [d2] at q; cases q⟩
  keep := fun i h h' st k => ⟨k z (by simp) _ st.1, k TI (by simp) _ st.2.1, let ⟨x, y, hTO⟩ := st.2.2.1; ⟨x, y, k TO (by simp) _ hTO⟩, st.2.2.2.1.at fun o q => k i1 (by simp) o q, st.2.2.2.2.at fun o q => k i2 (by simp) o q⟩
  item := by
    intro X hP hw hK hc i pins s σ H E I hf st hg
    subst hP hw hK
    obtain ⟨hz, hTI, ⟨x0, y0, hTO⟩, h1, h2⟩ := st
    obtain ⟨xs, ys, x, y, hqx, hqy, _, hx, hy⟩ := hg
    obtain ⟨its, rv, p, _⟩ := I.list hqx
    obtain ⟨its2, rv2, p2, _⟩ := I.tuple hqy
    obtain ⟨u, hu, ru⟩ := rv.get hx
    obtain ⟨u2, hu2, ru2⟩ := rv2.get hy
    have hzl : z < s.heap.objs.size := Heap.lt_size hz
    have hh : X.A.in1.handled = none := by rw [Around.in1_handled]; exact I.ok.hd hc
    have D1 := Draws.list (prog := X.prog) (w := X.w) hh i1 a (lst_ne_iter p.isList h1) its.toArray
    have D2 := Draws.tuple (prog := X.prog) (w := X.w) hh i2 b (tup_ne_iter p2 h2) its2.toArray
    have hl1 : i < its.toArray.size := by simpa using (List.getElem?_eq_some_iff.mp hu).1
    have hl2 : i < its2.toArray.size := by simpa using (List.getElem?_eq_some_iff.mp hu2).1
    refine wpAny_pyNext_zipD2_item D D1 D2 hz hTI hTO ⟨h1, p.isList⟩ ⟨h2, p2⟩ hl1 hl2 fun v1 v2 h' tk e1 e2 z' TO' s1 s2 hT hsz hk => ?_
    have q1 : v1 = u := by
      have h1 : its[i]? = some v1 := by simpa using e1
      rw [hu] at h1
      exact (Option.some.inj h1).symm
    have q2 : v2 = u2 := by
      have h1 : its2[i]? = some v2 := by simpa using e2
      rw [hu2] at h1
      exact (Option.some.inj h1).symm
    subst q1 q2
    refine ⟨_, rfl, wpAny_letOwnedTupleGo_zip (s := { s with heap := h', toks := tk }) z' fun h'' z'' sb => ?_⟩
    have hT2 : h''.get? s.heap.objs.size = some { cls := .type "tuple", data := .seq #[v1, v2] } := (sb.2 _ (Nat.ne_of_gt hzl)).trans hT
    have new : ObjOk X.prog X.w (upd H s.heap.objs.size (.tup [x, y])) h'' s.heap.objs.size (.tup [x, y]) :=
      ⟨by show 2 ≤ sizeLine; decide, [v1, v2], .cons ru (.cons ru2 .nil), ⟨_, hT2, rfl, _, rfl⟩⟩
    have I1 : Inv X pins σ (upd H s.heap.objs.size (.tup [x, y])) { s with heap := h'', toks := tk } :=
      I.turnedNew (t' := tk) (ch := [z, TI, TO, i1, i2]) (fun c o hb q => (sb.2 c (fun q' => hb (by simp [q']))).trans (hk c o (fun q' => hb (by simp [q'])) (fun q' => hb (by simp [q'])) (fun q' => hb (by simp [q'])) (fun q' => hb (by simp [q'])) q)) hf (Nat.le_refl _) new
    refine ⟨.ref s.heap.objs.size, _, I1, rfl, ⟨_, x, y, rfl, I.hok.fresh (Nat.le_refl _), rfl, fun l hl => by rw [I.list_inj hl hqx]; exact hx, fun l hl => by rw [I.tuple_inj hl hqy]; exact hy⟩, ⟨z'', ?_, ⟨v1, v2, ?_⟩, ?_, ?_⟩, fun c hcm => ?_⟩
    · exact (sb.2 _ D.TIz).trans (hk _ _ D.TIz D.TITO D.TIi1 D.TIi2 hTI)
    · exact (sb.2 _ D.TOz).trans TO'
    · exact s1.1.at fun o q => (sb.2 _ (Ne.symm D.zi1)).trans q
    · exact s2.1.at fun o q => (sb.2 _ (Ne.symm D.zi2)).trans q
    · have e' : c = z ∨ c = TI ∨ c = TO ∨ c = i1 ∨ c = i2 := by simpa using hcm
      have hlt : c < s.heap.objs.size := by
        rcases e' with q | q | q | q | q <;> rw [q]
        · exact hzl
        · exact Heap.lt_size hTI
        · exact Heap.lt_size hTO
        · obtain ⟨_, e1, _⟩ := h1; exact Heap.lt_size e1
        · obtain ⟨_, e2, _⟩ := h2; exact Heap.lt_size e2
      rw [upd_ne (Nat.ne_of_lt hlt)]
      exact (hf c hcm).1
  done := by
    intro X hP hw hK hc i pins s σ H E I hf st hg
    subst hP hw hK
    obtain ⟨hz, hTI, ⟨x0, y0, hTO⟩, h1, h2⟩ := st
    obtain ⟨xs, ys, hqx, hqy, hx, hy⟩ := hg
    obtain ⟨its, rv, p, _⟩ := I.list hqx
    obtain ⟨its2, rv2, p2, _⟩ := I.tuple hqy
    have l1 := rv.length
    have l2 := rv2.length
    have hh : X.A.in1.handled = none := by rw [Around.in1_handled]; exact I.ok.hd hc
    have D1 := Draws.list (prog := X.prog) (w := X.w) hh i1 a (lst_ne_iter p.isList h1) its.toArray
    have D2 := Draws.tuple (prog := X.prog) (w := X.w) hh i2 b (tup_ne_iter p2 h2) its2.toArray
    exact wpAny_pyNext_zipD2_end D D1 D2 hz hTI hTO ⟨h1, p.isList⟩ ⟨h2, p2⟩ (by simp; omega) (by simp; omega) (.inl (by simp; omega)) fun h' tk hk => ⟨rfl, I.turnedL (t' := tk) (ch := [z, TI, TO, i1, i2]) (fun c o hb q =>
      hk c o (fun q' => hb (by simp [q'])) (fun q' => hb (by simp [q'])) (fun q' => hb (by simp [q'])) (fun q' => hb (by simp [q'])) q) hf⟩
  self := fun A i s Q E st h => wpAny_pyIter_zip st.1 h
def iZipN (K : PySem.W.Frag) (ta : TA) : TI := fun σ H R => ta σ H fun vs H1 => ∃ a b xs ys, vs = [.ref a, .ref b] ∧ SqL K H1 a xs ∧ SqT K H1 b ys ∧ R (ItzN K a b) H1
/-- zip(l, t) of a list and a tuple -/
theorem pi_zipN {X : Cx} {e e2 : Expr} {ta : TA} {p pos tpos : Pos} {elts : List Expr} {kk : Nat} (hg : Gl X "zip") (hm : X.mg "zip" = none) (ha : PA X [e, e2] ta)
    (hs : starEach [e, e2] X.env = (false, eval e X.env) :: starEach [e2] X.env := by rfl) (hpl : (backTo pos (starEach [e2] X.env)).any (·.1) = false := by rfl) :
    PI X (.Tuple elts kk tpos) (.Call (.Name "zip" p) [e, e2] [] pos) (iZipN X.K ta) := by
  refine ⟨fun pins s σ H R I h => ?_⟩
  refine Call_ (ld_blt I hg hm PyProof.Rows.boot_zip (PyProof.Rows.callWith_type1 (thn (ha.run pos pins s σ H _ I h) fun us s1 ⟨vs, H1, I1, r1, a, b, xs, ys, ex, hqx, hqy, q⟩ => ?_) hs hpl))
  subst ex
  cases r1 with
  | cons r rr =>
    cases rr with
    | cons r' rr =>
      cases rr
      cases r
      cases r'
      have fp : ∀ c, c ∈ [s1.heap.objs.size + 4, s1.heap.objs.size + 2, s1.heap.objs.size + 3, s1.heap.objs.size, s1.heap.objs.size + 1] → FpOk X pins H1 c := fun c hcm => by
        have e' : c = s1.heap.objs.size + 4 ∨ c = s1.heap.objs.size + 2 ∨ c = s1.heap.objs.size + 3 ∨ c = s1.heap.objs.size ∨ c = s1.heap.objs.size + 1 := by simpa using hcm
        have hle : s1.heap.objs.size ≤ c := by rcases e' with z | z | z | z | z <;> rw [z] <;> first | exact Nat.le_add_right _ _ | exact Nat.le_refl _
        exact I1.fpOk hle (I1.hok.fresh hle)
      obtain ⟨its, rv, p1, _⟩ := I1.list hqx
      obtain ⟨its2, rv2, p2, _⟩ := I1.tuple hqy
      have la : a < s1.heap.objs.size := p1.lt
      have lb : b < s1.heap.objs.size := by obtain ⟨o, ho, _⟩ := p2; exact Heap.lt_size ho
      refine zip_begins2 (begins_list a its.toArray) (begins_tuple b its2.toArray) p1.isList p2 fun h' hz hTI hTO h1 h2 hsz hk => wpAny_pyIter_zip hz ?_
      refine ⟨s1.heap.objs.size + 4, [s1.heap.objs.size + 4, s1.heap.objs.size + 2, s1.heap.objs.size + 3, s1.heap.objs.size, s1.heap.objs.size + 1], _, _, H1, rfl, I1.kept (t' := s1.toks) hk, turn_zipN (a := a) (b := b) (i1 := s1.heap.objs.size) (i2 := s1.heap.objs.size + 1) ?_, ⟨hz, hTI, ⟨_, _, hTO⟩, ⟨_, h1, rfl, rfl⟩, ⟨_, h2, rfl, rfl⟩⟩, fp, q⟩
      exact zsep _ _ _ la lb
end L2

set_option Elab.async false
set_option linter.all false
set_option maxRecDepth 100000
set_option maxHeartbeats 4000000
/-! An item of a list, for a place that is raised: found[i] += .. -/
namespace L2
open PySem PySem.Spec PySem.W PyProof.Rows
theorem get_list {X : Cx} : PGet X (rIxL X.K) := by
  intro pins s σ H x y v u Q I rx ry h
  obtain ⟨p, xs, i, z, rfl, rfl, hq, he, q⟩ := h
  cases rx
  obtain ⟨t, rfl⟩ := ry
  obtain ⟨its, r, pl, hz⟩ := I.list hq
  obtain ⟨j, h1, h2, h3, h4, h5⟩ := atI_get he
  obtain ⟨w, ew, rw'⟩ := r.get h2
  have hl := r.length
  have hn := line63
  have fin : EP X pins σ Q w s := ⟨z, H, I, rw', q⟩
  by_cases h0 : 0 ≤ i
  · have hj : i.toNat = j := by
      rw [seqIndex_of h0 h5] at h1
      exact Option.some.inj h1
    exact wpAny_getItem_list (x := w) pl.isList h0 (by omega) (by rw [hj]; simpa using ew) fin
  · have hj : (i + (its.toArray.size : Int)).toNat = j := by
      rw [seqIndex_neg (by omega) h4] at h1
      rw [List.size_toArray, ← hl]
      exact Option.some.inj h1
    exact wpAny_getItem_list_neg (x := w) pl.isList (by omega) (by rw [List.size_toArray] <;> omega) (by omega) (by rw [hj]; simpa using ew) fin
end L2

set_option Elab.async false
set_option linter.all false
set_option maxRecDepth 100000
set_option maxHeartbeats 4000000
/-! A tuple that is known to have no dict of its own (made by tuple(list)), and dict(..) of such a tuple of pairs. -/
namespace L2
open PySem PySem.Spec PySem.W PyProof.Rows
section
variable {X : Cx} {a : Expr} {ta : TE}
/-- tuple(x) of a list: a new tuple, plain -/
def kTupF (K : PySem.W.Frag) (x : V) (H : Hp) (Q : VK) : Prop := ∃ p xs, x = .ref p ∧ SqL K H p xs ∧ ∀ q o, H q = none → o.dict = none → Q (.ref q) (upd H q (.frz o (.tup xs)))
theorem rl_tupleF (pins : List (Addr × Obj)) (s : Shared) (σ : St) (H : Hp) (x : V) (v : Value) (Q : VK) (I : Inv X pins σ H s) (r : RelV x v) (h : kTupF X.K x H Q) :
    wpAny (model X.prog X.w) X.A (call (.type "tuple") [v]) (EP X pins σ Q) X.xe s := by
  obtain ⟨p, xs, rfl, hs, q⟩ := h
  obtain rfl : v = .ref p := r
  obtain ⟨its, rv, pl, hz⟩ := I.list hs
  refine call_tuple_list pl.isList (fun h' hk => ?_) (by rw [List.size_toArray, ← rv.length]; exact hz)
  have I1 : Inv X pins σ H { s with heap := h' } := I.kept (t' := s.toks) hk
  have I2 : Inv X pins σ (upd H h'.objs.size (.frz { cls := .type "tuple", data := .seq its.toArray } (.tup xs))) { s with heap := h'.push { cls := .type "tuple", data := .seq its.toArray } } :=
    I1.laid (t' := s.toks) (fun b o e => Heap.get?_push_of_some _ e) (Nat.le_refl _) (show ObjOk X.prog X.w _ _ _ (.frz _ (.tup xs)) from ⟨Heap.get?_push_size _ rfl, hz, its, rv, IsTup.new _ _⟩)
  exact ⟨.ref h'.objs.size, upd H h'.objs.size (.frz { cls := .type "tuple", data := .seq its.toArray } (.tup xs)), I2, rfl, q _ _ (I1.hok.fresh (Nat.le_refl _)) rfl⟩
theorem pe_tupleF {p pos : Pos} (hg : Gl X "tuple") (hm : X.mg "tuple" = none) (ha : PE X a ta) (na : starEach [a] X.env = (false, eval a X.env) :: starEach [] X.env := by rfl) :
    PE X (.Call (.Name "tuple" p) [a] [] pos) (tThen ta (kTupF X.K)) := by
  refine ⟨fun pins s σ H Q I h => ?_⟩
  exact Call_ (ld_blt I hg hm boot_tuple (PyProof.Rows.callWith_type1 (one_arg ha I h (fun v s2 x H2 I2 r q => rl_tupleF pins s2 σ H2 x v Q I2 r q) na) na))
end
section
variable {X : Cx}
/-- dict(xs) of a plain tuple of pairs -/
def rDictT (K : PySem.W.Frag) (xs : List V) (H : Hp) (Q : VK) : Prop := ∃ (a : Addr) (o : Obj) (ps : List Addr) (kvs : List (Key × V)), xs = [.ref a] ∧ H a = some (.frz o (.tup (ps.map V.ref))) ∧ o.dict = none ∧ Paired (fun p kv => SqT K H p [kV kv.1, kv.2]) ps kvs ∧
    ∀ p, H p = none → Q (.ref p) (upd H p (.dK (mergeK [] kvs)))
theorem pairs_of2 {pins : List (Addr × Obj)} {σ : St} {H : Hp} {s : Shared} (I : Inv X pins σ H s) : ∀ {ps : List Addr} {kvs : List (Key × V)}, Paired (fun p kv => SqT X.K H p [kV kv.1, kv.2]) ps kvs →
    ∃ (prs : List (Key × Value)) (qs : List (Value × Value)), KV kvs prs ∧ prs.length = ps.length ∧ qs.length = ps.length ∧ ∀ (j : Nat) (k v : Value), qs[j]? = some (k, v) → ∃ (b : Addr) (y : Key), ps[j]? = some b ∧ prs[j]? = some (y, v) ∧ IsTup s.heap b #[k, v] ∧ keyIs y k = true
  | _, _, .nil => ⟨[], [], .nil, rfl, rfl, fun j k v e => by simp at e⟩
  | _, _, .cons (a := p) (b := kv) h t => by
    obtain ⟨prs, qs, r, hl, hl2, hp⟩ := pairs_of2 I t
    obtain ⟨its, rv, ht, _⟩ := I.tuple h
    obtain ⟨u, y, ei, ru, ry⟩ := vals2 rv
    subst ei
    refine ⟨(kv.1, y) :: prs, (u, y) :: qs, .cons ⟨rfl, ry⟩ r, by rw [List.length_cons, List.length_cons, hl], by rw [List.length_cons, List.length_cons, hl2], fun j k v e => ?_⟩
    cases j with
    | zero =>
      have e' : (u, y) = (k, v) := Option.some.inj e
      cases e'
      exact ⟨p, kv.1, rfl, rfl, ht, kV_is (P := X.prog) (w := X.w) ru⟩
    | succ j =>
      obtain ⟨b, y', e1, e2, e3⟩ := hp j k v (by simpa using e)
      exact ⟨b, y', by simpa using e1, by simpa using e2, e3⟩
theorem call_dictT (hcalm : X.calm = true) : CallR X (.type "dict") (rDictT X.K) := by
  intro pins s σ H xs us Q I r q
  obtain ⟨a, o, ps, kvs, ex, hq, hd, hp, q⟩ := q
  subst ex
  obtain ⟨u, eu, rx⟩ := vals1 r
  subst eu
  cases rx
  obtain ⟨ho, hz, its, rv, o2, ho2, hc, n, hdat⟩ := (show ObjOk X.prog X.w H s.heap a (.frz o (.tup (ps.map V.ref))) from I.hok a _ hq)
  have eo : o2 = o := Option.some.inj (ho2.symm.trans ho)
  subst eo
  have ei := refs_at rv
  subst ei
  rw [List.length_map] at hz
  obtain ⟨prs, qs, rel, hl, hl2, hpr⟩ := pairs_of2 I hp
  refine PySem.call_dict_pairs (knd := mixKind X.prog X.w) (kvs := prs) (PairArg.tuple a (ps.map Value.ref).toArray (fun j => ps[j]?.getD 0) qs) (I.ok.hd hcalm) ⟨⟨o2, n, ho, hc, hd, hdat⟩, by rw [List.size_toArray, List.length_map, hl2], fun j k v e => ?_⟩ ⟨hl.trans hl2.symm, fun j k v e => ?_⟩ (by rw [hl2]; exact hz) fun h' tk hd' k => ?_
  · obtain ⟨b, y, e1, e2, e3, e4⟩ := hpr j k v e
    refine ⟨by simp [e1], .inl ?_⟩
    show Heap.IsTuple _ (ps[j]?.getD 0) _
    rw [e1]
    exact e3
  · obtain ⟨b, y, e1, e2, e3, e4⟩ := hpr j k v e
    exact ⟨y, e2, e4⟩
  · have hm : (s.heap.objs.size == sysModules) = false := beq_eq_false_iff_ne.mpr (Nat.ne_of_gt I.big)
    have hlen : (mergeK [] kvs).length ≤ sizeLine := by
      refine Nat.le_trans (length_mergeK kvs []) ?_
      rw [List.length_nil, Nat.zero_add, rel.length, hl]
      exact hz
    exact ⟨.ref s.heap.objs.size, upd H s.heap.objs.size (.dK (mergeK [] kvs)), I.laid (t' := tk) (fun b o e => k b o (fun z => nomatch z) e) (Nat.le_refl _) (show ObjOk X.prog X.w _ _ _ (.dK (mergeK [] kvs)) from ⟨hlen, hm, merged [] prs, KV.merge rel .nil, hd'⟩), rfl, q _ (I.hok.fresh (Nat.le_refl _))⟩
end
end L2

set_option Elab.async false
set_option linter.all false
set_option maxRecDepth 100000
set_option maxHeartbeats 4000000
/-! Data at any depth behind a frame: what an expression answers, told by data. -/
namespace L2
open PySem PySem.Spec PyProof.Rows
def kD : Key → PyData
  | .inl i => .int i
  | .inr s => .str s
mutual
inductive Dq (K : PySem.W.Frag) (H : Hp) : V → PyData → Prop
  | non : Dq K H .non .none
  | bl (b : Bool) : Dq K H (.bl b) (.bool b)
  | int (i : Int) : Dq K H (.int i) (.int i)
  | str (x : Str) : Dq K H (.str x) (.str x)
  | lst {a : Addr} {xs : List V} {ds : List PyData} : SqL K H a xs → DqAll K H xs ds → Dq K H (.ref a) (.list ds)
  | tup {a : Addr} {xs : List V} {ds : List PyData} : SqT K H a xs → DqAll K H xs ds → Dq K H (.ref a) (.tuple ds)
  | dic {a : Addr} {kvs : List (Key × V)} {ks : List (PyData × PyData)} : H a = some (.dK kvs) → DqKv K H kvs ks → Dq K H (.ref a) (.dict ks)
inductive DqAll (K : PySem.W.Frag) (H : Hp) : List V → List PyData → Prop
  | nil : DqAll K H [] []
  | cons {v : V} {d : PyData} {vs : List V} {ds : List PyData} : Dq K H v d → DqAll K H vs ds → DqAll K H (v :: vs) (d :: ds)
inductive DqKv (K : PySem.W.Frag) (H : Hp) : List (Key × V) → List (PyData × PyData) → Prop
  | nil : DqKv K H [] []
  | cons {k : Key} {v : V} {d : PyData} {vs : List (Key × V)} {ds : List (PyData × PyData)} : Dq K H v d → DqKv K H vs ds → DqKv K H ((k, v) :: vs) ((kD k, d) :: ds)
end
open Evl (Ex)
section
variable {K : PySem.W.Frag} {H H' : Hp}
theorem exL {a : Addr} {xs : List V} (e : Ex H H') (h : SqL K H a xs) : SqL K H' a xs := SqL.ext h e
theorem exT {a : Addr} {xs : List V} (e : Ex H H') (h : SqT K H a xs) : SqT K H' a xs := SqT.ext h e
mutual
theorem Dq.ex (e : Ex H H') : ∀ {v : V} {d : PyData}, Dq K H v d → Dq K H' v d
  | _, _, .non => .non
  | _, _, .bl b => .bl b
  | _, _, .int i => .int i
  | _, _, .str x => .str x
  | _, _, .lst h t => .lst (exL e h) (DqAll.ex e t)
  | _, _, .tup h t => .tup (exT e h) (DqAll.ex e t)
  | _, _, .dic h t => .dic (e _ _ h) (DqKv.ex e t)
theorem DqAll.ex (e : Ex H H') : ∀ {vs : List V} {ds : List PyData}, DqAll K H vs ds → DqAll K H' vs ds
  | _, _, .nil => .nil
  | _, _, .cons h t => .cons (Dq.ex e h) (DqAll.ex e t)
theorem DqKv.ex (e : Ex H H') : ∀ {vs : List (Key × V)} {ds : List (PyData × PyData)}, DqKv K H vs ds → DqKv K H' vs ds
  | _, _, .nil => .nil
  | _, _, .cons h t => .cons (Dq.ex e h) (DqKv.ex e t)
end
theorem DqAll.length : ∀ {vs : List V} {ds : List PyData}, DqAll K H vs ds → vs.length = ds.length
  | _, _, .nil => rfl
  | _, _, .cons _ t => congrArg (· + 1) t.length
theorem DqAll.get : ∀ {vs : List V} {ds : List PyData}, DqAll K H vs ds → ∀ {i : Nat} {v : V}, vs[i]? = some v → ∃ d, ds[i]? = some d ∧ Dq K H v d
  | _, _, .nil, i, v, h => by simp at h
  | _, _, .cons h t, 0, v, e => by simp at e; subst e; exact ⟨_, rfl, h⟩
  | _, _, .cons h t, i + 1, v, e => t.get (by simpa using e)
theorem DqAll.get' : ∀ {vs : List V} {ds : List PyData}, DqAll K H vs ds → ∀ {i : Nat} {d : PyData}, ds[i]? = some d → ∃ v, vs[i]? = some v ∧ Dq K H v d
  | _, _, .nil, i, v, h => by simp at h
  | _, _, .cons h t, 0, v, e => by simp at e; subst e; exact ⟨_, rfl, h⟩
  | _, _, .cons h t, i + 1, v, e => t.get' (by simpa using e)
theorem DqAll.append : ∀ {vs ws : List V} {ds es : List PyData}, DqAll K H vs ds → DqAll K H ws es → DqAll K H (vs ++ ws) (ds ++ es)
  | _, _, _, _, .nil, h => h
  | _, _, _, _, .cons h t, u => .cons h (t.append u)
theorem DqAll.take : ∀ {vs : List V} {ds : List PyData} (n : Nat), DqAll K H vs ds → DqAll K H (vs.take n) (ds.take n)
  | _, _, _, .nil => by simpa using DqAll.nil
  | _, _, 0, .cons _ _ => .nil
  | _, _, n + 1, .cons h t => .cons h (t.take n)
theorem DqAll.drop : ∀ {vs : List V} {ds : List PyData} (n : Nat), DqAll K H vs ds → DqAll K H (vs.drop n) (ds.drop n)
  | _, _, _, .nil => by simpa using DqAll.nil
  | _, _, 0, .cons h t => .cons h t
  | _, _, n + 1, .cons _ t => t.drop n
end
/-- what is kept aside, and what is seen -/
structure Fr where
  view : Hp → Hp
  inv : Hp → Prop
  sub : ∀ {H : Hp} {b : Addr} {o : HO}, view H b = some o → H b = some o
  put : ∀ {H : Hp} {p : Addr} {o : HO}, inv H → (H p = none ∨ ∃ u, view H p = some u) → inv (upd H p o) ∧ view (upd H p o) = upd (view H) p o
def Fr.le (G : Fr) (H H' : Hp) : Prop := Ex (G.view H) (G.view H')
theorem Fr.le.refl {G : Fr} {H : Hp} : G.le H H := fun _ _ h => h
theorem Fr.le.trans {G : Fr} {H H1 H2 : Hp} (a : G.le H H1) (b : G.le H1 H2) : G.le H H2 := fun c o h => b c o (a c o h)
theorem Fr.blank {G : Fr} {H : Hp} {p : Addr} (h : H p = none) : G.view H p = none := by
  cases e : G.view H p with
  | none => rfl
  | some o => rw [G.sub e] at h; cases h
theorem Fr.new {G : Fr} {H : Hp} {p : Addr} {o : HO} (i : G.inv H) (h : H p = none) : G.inv (upd H p o) ∧ G.le H (upd H p o) ∧ G.view (upd H p o) p = some o := by
  obtain ⟨a, b⟩ := G.put (o := o) i (.inl h)
  refine ⟨a, fun c u e => ?_, by rw [b]; exact upd_same⟩
  rw [b, upd_ne (ne_of_none e (Fr.blank h))]
  exact e
theorem Fr.up {G : Fr} {K : PySem.W.Frag} {H : Hp} {v : V} {d : PyData} (h : Dq K (G.view H) v d) : Dq K H v d := h.ex fun _ _ => G.sub
theorem Fr.upL {G : Fr} {K : PySem.W.Frag} {H : Hp} {a : Addr} {xs : List V} (h : SqL K (G.view H) a xs) : SqL K H a xs := exL (fun _ _ => G.sub) h
theorem Fr.upT {G : Fr} {K : PySem.W.Frag} {H : Hp} {a : Addr} {xs : List V} (h : SqT K (G.view H) a xs) : SqT K H a xs := exT (fun _ _ => G.sub) h
def Fr.all : Fr := ⟨fun H => H, fun _ => True, fun h => h, fun _ _ => ⟨trivial, rfl⟩⟩
def hide (H : Hp) (l : Addr) : Hp := fun b => if b = l then none else H b
theorem hide_ne {H : Hp} {l b : Addr} (h : b ≠ l) : hide H l b = H b := if_neg h
theorem hide_same {H : Hp} {l : Addr} : hide H l l = none := if_pos rfl
theorem hide_some {H : Hp} {l b : Addr} {o : HO} (h : hide H l b = some o) : b ≠ l ∧ H b = some o := by
  by_cases e : b = l
  · subst e; rw [hide_same] at h; cases h
  · rw [hide_ne e] at h; exact ⟨e, h⟩
theorem hide_upd {H : Hp} {l p : Addr} {o : HO} (h : p ≠ l) : hide (upd H p o) l = upd (hide H l) p o := by
  funext b
  by_cases e : b = l
  · subst e; rw [hide_same, upd_ne (Ne.symm h), hide_same]
  · rw [hide_ne e]
    by_cases e2 : b = p
    · subst e2; rw [upd_same, upd_same]
    · rw [upd_ne e2, upd_ne e2, hide_ne e]
theorem hide_upd_same {H : Hp} {l : Addr} {o : HO} : hide (upd H l o) l = hide H l := by
  funext b
  by_cases e : b = l
  · subst e; rw [hide_same, hide_same]
  · rw [hide_ne e, hide_ne e, upd_ne e]
/-- the object o at l is kept aside, too -/
def Fr.own (G : Fr) (l : Addr) (o : HO) : Fr :=
  ⟨fun H => hide (G.view H) l, fun H => G.inv H ∧ G.view H l = some o, fun h => G.sub (hide_some h).2, fun {H p u} i h => by
    have hp : p ≠ l := by
      rcases h with h | ⟨x, h⟩
      · intro e
        rw [e] at h
        have := G.sub i.2
        rw [h] at this
        cases this
      · exact (hide_some h).1
    obtain ⟨a, b⟩ := G.put (o := u) i.1 (h.imp id fun ⟨x, e⟩ => ⟨x, (hide_some e).2⟩)
    refine ⟨⟨a, by rw [b, upd_ne (Ne.symm hp)]; exact i.2⟩, ?_⟩
    show hide (G.view _) l = _
    rw [b, hide_upd hp]⟩
theorem Fr.own_new {G : Fr} {H : Hp} {l : Addr} {o : HO} (i : G.inv H) (h : H l = none) : (G.own l o).inv (upd H l o) ∧ (G.own l o).view (upd H l o) = G.view H := by
  obtain ⟨a, b⟩ := G.put (o := o) i (.inl h)
  refine ⟨⟨a, by rw [b]; exact upd_same⟩, ?_⟩
  show hide (G.view _) l = _
  rw [b, hide_upd_same]
  funext c
  by_cases e : c = l
  · subst e; rw [hide_same, Fr.blank h]
  · exact hide_ne e
theorem Fr.own_set {G : Fr} {H : Hp} {l : Addr} {o o' : HO} (i : (G.own l o).inv H) : (G.own l o').inv (upd H l o') ∧ (G.own l o').view (upd H l o') = (G.own l o).view H := by
  obtain ⟨a, b⟩ := G.put (o := o') i.1 (.inr ⟨_, i.2⟩)
  refine ⟨⟨a, by rw [b]; exact upd_same⟩, ?_⟩
  show hide (G.view _) l = hide (G.view H) l
  rw [b, hide_upd_same]
theorem Fr.own_at {G : Fr} {H : Hp} {l : Addr} {o : HO} (i : (G.own l o).inv H) : H l = some o := G.sub i.2
/-- what was seen ahead of l is seen when l is seen again -/
theorem Fr.own_le {G : Fr} {H H' : Hp} {l : Addr} {o : HO} (hn : G.view H l = none) (h : Ex (G.view H) ((G.own l o).view H')) : G.le H H' := fun c u e => (hide_some (h c u e)).2
theorem Fr.own_sub {G : Fr} {H : Hp} {l : Addr} {o : HO} : Ex ((G.own l o).view H) (G.view H) := fun c u e => (hide_some e).2
/-- the well at a, of the middle number q -/
structure IsW (G : Fr) (a : Addr) (q : Int) : Prop where
  at_ : ∀ {H : Hp}, G.inv H → ∃ p r : Int, H a = some (.lst [.int p, .int q, .int r])
  hid : ∀ H, G.view H a = none
  put : ∀ {H : Hp} {p r : Int}, G.inv H → G.inv (upd H a (.lst [.int p, .int q, .int r])) ∧ G.view (upd H a (.lst [.int p, .int q, .int r])) = G.view H
theorem IsW.own {G : Fr} {a l : Addr} {q : Int} {o : HO} (w : IsW G a q) : IsW (G.own l o) a q where
  at_ := fun i => w.at_ i.1
  hid := fun H => by
    show hide (G.view H) l a = none
    by_cases e : a = l
    · subst e; exact hide_same
    · rw [hide_ne e]; exact w.hid H
  put := fun {H p r} i => by
    obtain ⟨a1, b1⟩ := w.put (p := p) (r := r) i.1
    refine ⟨⟨a1, by rw [b1]; exact i.2⟩, ?_⟩
    show hide (G.view _) l = hide (G.view _) l
    rw [b1]
def Fr.well (a : Addr) (q : Int) : Fr :=
  ⟨fun H => hide H a, fun H => ∃ p r : Int, H a = some (.lst [.int p, .int q, .int r]), fun h => (hide_some h).2, fun {H p o} i h => by
    have hp : p ≠ a := by
      rcases h with h | ⟨x, h⟩
      · intro e
        obtain ⟨_, _, i⟩ := i
        rw [← e, h] at i
        cases i
      · exact (hide_some h).1
    exact ⟨i.imp fun _ i => i.imp fun _ i => by rw [upd_ne (Ne.symm hp)]; exact i, hide_upd hp⟩⟩
theorem Fr.isWell {a : Addr} {q : Int} : IsW (Fr.well a q) a q where
  at_ := fun i => i
  hid := fun _ => hide_same
  put := fun _ => ⟨⟨_, _, upd_same⟩, hide_upd_same⟩

/-- the attributes of an object -/
inductive DqFs (K : PySem.W.Frag) (H : Hp) : List (Str × V) → List (Str × PyData) → Prop
  | nil : DqFs K H [] []
  | cons {f : Str} {v : V} {d : PyData} {vs : List (Str × V)} {ds : List (Str × PyData)} : Dq K H v d → DqFs K H vs ds → DqFs K H ((f, v) :: vs) ((f, d) :: ds)
theorem DqFs.ex {K : PySem.W.Frag} {H H' : Hp} (e : Evl.Ex H H') : ∀ {vs : List (Str × V)} {ds : List (Str × PyData)}, DqFs K H vs ds → DqFs K H' vs ds
  | _, _, .nil => .nil
  | _, _, .cons h t => .cons (h.ex e) (DqFs.ex e t)
/-- what a place holds -/
inductive Sl where
  | any | dat (d : PyData) | well | odic (m : List (Str × PyData)) | fdic (m : List (Str × PyData)) | ins (C : Addr) (fs : List (Str × PyData)) | olst (ds : List PyData) | sem (p : Hp → V → Prop)
def SlOk (K : PySem.W.Frag) (G : Fr) (H : Hp) (v : V) : Sl → Prop
  | .any => True
  | .dat d => Dq K (G.view H) v d
  | .well => ∃ a q, v = .ref a ∧ IsW G a q
  | .odic m => ∃ a kvs, v = .ref a ∧ (∀ H', G.inv H' → H' a = some (.dK kvs)) ∧ DqKv K (G.view H) kvs (m.map fun p => (.str p.1, p.2))
  | .fdic m => ∃ a o kvs, v = .ref a ∧ (∀ H', G.inv H' → H' a = some (.frz o (.dK kvs))) ∧ DqKv K (G.view H) kvs (m.map fun p => (.str p.1, p.2))
  | .ins C fs => ∃ a dx vs, v = .ref a ∧ G.view H a = some (.ins C dx vs) ∧ DqFs K (G.view H) vs fs
  | .olst ds => ∃ a vs, v = .ref a ∧ (∀ H', G.inv H' → H' a = some (.lst vs)) ∧ DqAll K (G.view H) vs ds
  | .sem p => ∀ H', Ex (G.view H) H' → p H' v
def EnvOk (K : PySem.W.Frag) (G : Fr) (H : Hp) (σ : L2.St) (Γ : List Sl) : Prop := σ.length = Γ.length ∧ ∀ (i : Nat) (s : Sl), Γ[i]? = some s → s = .any ∨ ∃ v, σ[i]? = some (some v) ∧ SlOk K G H v s
inductive ArgsOk (K : PySem.W.Frag) (G : Fr) (H : Hp) : List V → List Sl → Prop
  | nil : ArgsOk K G H [] []
  | cons {v : V} {s : Sl} {vs : List V} {ss : List Sl} : SlOk K G H v s → ArgsOk K G H vs ss → ArgsOk K G H (v :: vs) (s :: ss)
section
variable {K : PySem.W.Frag} {G : Fr} {H H' : Hp} {σ : L2.St} {Γ : List Sl}
theorem SlOk.le {v : V} {s : Sl} (h : SlOk K G H v s) (e : G.le H H') : SlOk K G H' v s := by
  cases s with
  | any => trivial
  | dat d => exact Dq.ex e h
  | well => exact h
  | odic m => obtain ⟨a, k, e1, e2, e3⟩ := h; exact ⟨a, k, e1, e2, e3.ex e⟩
  | fdic m => obtain ⟨a, o, k, e1, e2, e3⟩ := h; exact ⟨a, o, k, e1, e2, e3.ex e⟩
  | ins C fs => obtain ⟨a, dx, vs, e1, e2, e3⟩ := h; exact ⟨a, dx, vs, e1, e _ _ e2, e3.ex e⟩
  | sem p => exact fun H2 e2 => h H2 fun b o hb => e2 b o (e b o hb)
  | olst ds => obtain ⟨a, vs, e1, e2, e3⟩ := h; exact ⟨a, vs, e1, e2, e3.ex e⟩
theorem EnvOk.le (h : EnvOk K G H σ Γ) (e : G.le H H') : EnvOk K G H' σ Γ := ⟨h.1, fun i s hs => (h.2 i s hs).imp id fun ⟨v, a, b⟩ => ⟨v, a, b.le e⟩⟩
theorem ArgsOk.le : ∀ {vs : List V} {ss : List Sl}, ArgsOk K G H vs ss → G.le H H' → ArgsOk K G H' vs ss
  | _, _, .nil, _ => .nil
  | _, _, .cons h t, e => .cons (h.le e) (t.le e)
theorem ArgsOk.length : ∀ {vs : List V} {ss : List Sl}, ArgsOk K G H vs ss → vs.length = ss.length
  | _, _, .nil => rfl
  | _, _, .cons _ t => congrArg (· + 1) t.length
/-- the frame takes one more object aside -/
theorem SlOk.own {v : V} {s : Sl} {l : Addr} {o : HO} {H' : Hp} (h : SlOk K G H v s) (e : Ex (G.view H) ((G.own l o).view H')) : SlOk K (G.own l o) H' v s := by
  cases s with
  | any => trivial
  | dat d => exact Dq.ex e h
  | well => obtain ⟨a, q, e1, w⟩ := h; exact ⟨a, q, e1, w.own⟩
  | odic m => obtain ⟨a, k, e1, e2, e3⟩ := h; exact ⟨a, k, e1, fun H' i => e2 H' i.1, e3.ex e⟩
  | fdic m => obtain ⟨a, o', k, e1, e2, e3⟩ := h; exact ⟨a, o', k, e1, fun H' i => e2 H' i.1, e3.ex e⟩
  | ins C fs => obtain ⟨a, dx, vs, e1, e2, e3⟩ := h; exact ⟨a, dx, vs, e1, e _ _ e2, e3.ex e⟩
  | sem p => exact fun H2 e2 => h H2 fun b o hb => e2 b o (e b o hb)
  | olst ds => obtain ⟨a, vs, e1, e2, e3⟩ := h; exact ⟨a, vs, e1, fun H' i => e2 H' i.1, e3.ex e⟩
theorem EnvOk.own {l : Addr} {o : HO} {H' : Hp} (h : EnvOk K G H σ Γ) (e : Ex (G.view H) ((G.own l o).view H')) : EnvOk K (G.own l o) H' σ Γ := ⟨h.1, fun i s hs => (h.2 i s hs).imp id fun ⟨v, a, b⟩ => ⟨v, a, b.own e⟩⟩
theorem EnvOk.set {i : Nat} {v : V} {s : Sl} (h : EnvOk K G H σ Γ) (hi : i < Γ.length) (hv : SlOk K G H v s) : EnvOk K G H (σ.set i (some v)) (Γ.set i s) := ⟨by rw [List.length_set, List.length_set]; exact h.1, fun j t hj => by
  by_cases e : i = j
  · subst e
    rw [List.getElem?_set_self hi] at hj
    cases hj
    exact .inr ⟨v, by rw [List.getElem?_set_self (by rw [h.1]; exact hi)], hv⟩
  · rw [List.getElem?_set_ne e] at hj ⊢
    exact h.2 j t hj⟩
theorem EnvOk.wipe1 {i : Nat} (h : EnvOk K G H σ Γ) : EnvOk K G H (σ.set i none) (Γ.set i .any) := ⟨by rw [List.length_set, List.length_set]; exact h.1, fun j t hj => by
  by_cases e : i = j
  · subst e
    have hi : i < Γ.length := by
      have := (List.getElem?_eq_some_iff.mp hj).1
      simpa using this
    rw [List.getElem?_set_self hi] at hj
    cases hj
    exact .inl rfl
  · rw [List.getElem?_set_ne e] at hj ⊢
    exact h.2 j t hj⟩
theorem envOk_of0 : ∀ {vs : List V} {ss : List Sl} (n : Nat), ArgsOk K G H vs ss → ∀ (i : Nat) (s : Sl), (ss ++ List.replicate n .any)[i]? = some s → s = .any ∨ ∃ v, (vs.map some ++ List.replicate n none)[i]? = some (some v) ∧ SlOk K G H v s
  | _, _, n, .nil => fun i s hs => .inl (by
      rw [List.nil_append, List.getElem?_replicate] at hs
      split at hs <;> cases hs
      rfl)
  | _, _, n, .cons h t => fun i s hs => by
    cases i with
    | zero => simp at hs; subst hs; exact .inr ⟨_, rfl, h⟩
    | succ i => exact envOk_of0 n t i s (by simpa using hs)
theorem envOk_of {vs : List V} {ss : List Sl} (n : Nat) (h : ArgsOk K G H vs ss) : EnvOk K G H (vs.map some ++ List.replicate n none) (ss ++ List.replicate n .any) := ⟨by simp [h.length], envOk_of0 n h⟩
end
/-- what an expression answers -/
def EvD (K : PySem.W.Frag) (te : TE) (Γ : List Sl) (P : PyData → Prop) : Prop := ∀ (G : Fr) (σ : L2.St) (H : Hp), EnvOk K G H σ Γ → G.inv H → ∀ Q : VK, (∀ v d H', G.inv H' → G.le H H' → P d → Dq K (G.view H') v d → Q v H') → te σ H Q
def EvS (K : PySem.W.Frag) (ta : TA) (Γ : List Sl) (P : List Sl → Prop) : Prop := ∀ (G : Fr) (σ : L2.St) (H : Hp), EnvOk K G H σ Γ → G.inv H → ∀ Q : List V → Hp → Prop, (∀ vs ss H', G.inv H' → G.le H H' → P ss → ArgsOk K G H' vs ss → Q vs H') → ta σ H Q
def EvB (K : PySem.W.Frag) (tt : TT) (Γ : List Sl) (P : Bool → Prop) : Prop := ∀ (G : Fr) (σ : L2.St) (H : Hp), EnvOk K G H σ Γ → G.inv H → ∀ Q : Bool → Hp → Prop, (∀ b H', G.inv H' → G.le H H' → P b → Q b H') → tt σ H Q
/-- the promise of a def, told by data -/
def spF (K : PySem.W.Frag) (pre : List Sl → Prop) (post : List Sl → PyData → Prop) : Sp := fun vs H Q _ => ∃ (G : Fr) (ss : List Sl), G.inv H ∧ ArgsOk K G H vs ss ∧ pre ss ∧ ∀ v d H', G.inv H' → G.le H H' → post ss d → Dq K (G.view H') v d → Q v H'
section
variable {K : PySem.W.Frag} {Γ : List Sl} {te tb tc : TE} {ta : TA} {tt tu : TT} {P P' P1 P2 : PyData → Prop} {PS : List Sl → Prop}
theorem EvD.imp (h : EvD K te Γ P) (hp : ∀ d, P d → P' d) : EvD K te Γ P' := fun G σ H e i Q q => h G σ H e i Q fun v d H' i' l p dq => q v d H' i' l (hp d p) dq
theorem EvB.imp {P P' : Bool → Prop} (h : EvB K tt Γ P) (hp : ∀ d, P d → P' d) : EvB K tt Γ P' := fun G σ H e i Q q => h G σ H e i Q fun b H' i' l p => q b H' i' l (hp b p)
theorem ev_var {i : Nat} {d : PyData} (h : Γ[i]? = some (.dat d)) : EvD K (tVar i) Γ (· = d) := fun G σ H e i' Q q => by
  rcases e.2 i _ h with z | ⟨v, a, b⟩
  · cases z
  · exact ⟨v, a, q v d H i' .refl rfl b⟩
theorem ev_c {v : V} {d : PyData} (h : ∀ H, Dq K H v d) : EvD K (tC v) Γ (· = d) := fun G σ H e i Q q => q v d H i .refl rfl (h _)
theorem ev_int {n : Int} : EvD K (tC (.int n)) Γ (· = .int n) := ev_c fun _ => .int n
theorem ev_bl {b : Bool} : EvD K (tC (.bl b)) Γ (· = .bool b) := ev_c fun _ => .bl b
theorem ev_str {x : Str} : EvD K (tC (.str x)) Γ (· = .str x) := ev_c fun _ => .str x
theorem es_nil : EvS K tNil Γ (· = []) := fun G σ H e i Q q => q [] [] H i .refl rfl .nil
theorem es_cons (h : EvD K te Γ P) (t : EvS K ta Γ PS) : EvS K (tCons te ta) Γ (fun ss => ∃ d r, ss = .dat d :: r ∧ P d ∧ PS r) := fun G σ H e i Q q =>
  h G σ H e i _ fun v d H1 i1 l1 p1 dq => t G σ H1 (e.le l1) i1 _ fun vs ss H2 i2 l2 p2 dqs => q (v :: vs) (.dat d :: ss) H2 i2 (l1.trans l2) ⟨d, ss, rfl, p1, p2⟩ (.cons (dq.ex l2) dqs)
/-- a well as an argument -/
theorem es_well {i : Nat} (h : Γ[i]? = some .well) (t : EvS K ta Γ PS) : EvS K (tCons (tVar i) ta) Γ (fun ss => ∃ r, ss = .well :: r ∧ PS r) := fun G σ H e i' Q q => by
  rcases e.2 i _ h with z | ⟨v, a, b⟩
  · cases z
  · exact ⟨v, a, t G σ H e i' _ fun vs ss H2 i2 l2 p2 dqs => q (v :: vs) (.well :: ss) H2 i2 l2 ⟨ss, rfl, p2⟩ (.cons b dqs)⟩
theorem ev_call {pre : List Sl → Prop} {post : List Sl → PyData → Prop} {E : XK} (h : EvS K ta Γ PS) (hp : ∀ ss, PS ss → pre ss) : EvD K (tCall (spF K pre post) [] E ta) Γ (fun d => ∃ ss, PS ss ∧ post ss d) := fun G σ H e i Q q =>
  h G σ H e i _ fun vs ss H1 i1 l1 p1 dqs => by
    rw [List.append_nil]
    exact ⟨G, ss, i1, dqs, hp ss p1, fun v d H' i' l' p' dq => q v d H' i' (l1.trans l') ⟨ss, p1, p'⟩ dq⟩
theorem ev_not {f : PyData → Bool → Prop} (h : EvD K te Γ P) (hp : ∀ d, P d → ∃ b, d = .bool b) : EvD K (tNotV te) Γ (fun d => ∃ b, P (.bool b) ∧ d = .bool (!b)) := fun G σ H e i Q q =>
  h G σ H e i _ fun v d H1 i1 l1 p1 dq => by
    obtain ⟨b, rfl⟩ := hp d p1
    cases dq
    exact ⟨b, rfl, q _ _ H1 i1 l1 ⟨b, p1, rfl⟩ (.bl _)⟩
/-- x and y, told by two tests -/
theorem ev_and {b1 b2 : Bool} (h : EvD K te Γ (· = .bool b1)) (h2 : b1 = true → EvD K tb Γ (· = .bool b2)) : EvD K (tAndV te tb) Γ (· = .bool (b1 && b2)) := fun G σ H e i Q q =>
  h G σ H e i _ fun v d H1 i1 l1 p1 dq => by
    subst p1
    cases dq
    refine ⟨b1, rfl, ?_⟩
    cases b1 with
    | false => exact q _ _ H1 i1 l1 rfl (.bl _)
    | true => exact h2 rfl G σ H1 (e.le l1) i1 _ fun v d H2 i2 l2 p2 dq2 => q v d H2 i2 (l1.trans l2) (by rw [p2]; rfl) dq2
theorem eb_val {b : Bool} (h : EvD K te Γ (· = .bool b)) : EvB K (tB te) Γ (· = b) := fun G σ H e i Q q => h G σ H e i _ fun v d H1 i1 l1 p1 dq => by
  subst p1
  cases dq
  exact ⟨b, rfl, q b H1 i1 l1 rfl⟩
theorem eb_test {b : Bool} (h : EvD K te Γ (· = .bool b)) : EvB K (tTest te) Γ (· = b) := fun G σ H e i Q q => h G σ H e i _ fun v d H1 i1 l1 p1 dq => by
  subst p1
  cases dq
  exact ⟨b, rfl, q b H1 i1 l1 rfl⟩
theorem eb_not {b : Bool} (h : EvB K tt Γ (· = b)) : EvB K (tNot tt) Γ (· = !b) := fun G σ H e i Q q => h G σ H e i _ fun c H1 i1 l1 p1 => q _ H1 i1 l1 (by rw [p1])
theorem eb_or {b1 b2 : Bool} (h : EvB K tt Γ (· = b1)) (h2 : b1 = false → EvB K tu Γ (· = b2)) : EvB K (tOr tt tu) Γ (· = (b1 || b2)) := fun G σ H e i Q q => h G σ H e i _ fun c H1 i1 l1 p1 => by
  subst p1
  cases c with
  | true => exact q true H1 i1 l1 rfl
  | false => exact h2 rfl G σ H1 (e.le l1) i1 _ fun c H2 i2 l2 p2 => q c H2 i2 (l1.trans l2) p2
theorem eb_and {b1 b2 : Bool} (h : EvB K tt Γ (· = b1)) (h2 : b1 = true → EvB K tu Γ (· = b2)) : EvB K (tAnd tt tu) Γ (· = (b1 && b2)) := fun G σ H e i Q q => h G σ H e i _ fun c H1 i1 l1 p1 => by
  subst p1
  cases c with
  | false => exact q false H1 i1 l1 rfl
  | true => exact h2 rfl G σ H1 (e.le l1) i1 _ fun c H2 i2 l2 p2 => q c H2 i2 (l1.trans l2) p2
/-- two whole numbers and an operator -/
theorem ev_opI {P1 P2 : Int → Prop} {c : Int → Int → Prop} {f : Int → Int → V} {g : Int → Int → PyData} (hg : ∀ i j H, Dq K H (f i j) (g i j)) (h1 : EvD K te Γ (fun d => ∃ n, d = .int n ∧ P1 n)) (h2 : EvD K tb Γ (fun d => ∃ n, d = .int n ∧ P2 n)) (hc : ∀ i j, P1 i → P2 j → c i j) :
    EvD K (tOp (rI c f) te tb) Γ (fun d => ∃ i j, P1 i ∧ P2 j ∧ d = g i j) := fun G σ H e i Q q =>
  h1 G σ H e i _ fun v d H1 i1 l1 ⟨n, p1, p1'⟩ dq => h2 G σ H1 (e.le l1) i1 _ fun v2 d2 H2 i2 l2 ⟨m, p2, p2'⟩ dq2 => by
    subst p1; subst p2
    cases dq; cases dq2
    exact ⟨n, m, rfl, rfl, hc n m p1' p2', q _ _ H2 i2 (l1.trans l2) ⟨n, m, p1', p2', rfl⟩ (hg n m _)⟩
end
end L2

set_option Elab.async false
set_option linter.all false
set_option maxRecDepth 100000
set_option maxHeartbeats 4000000
namespace L2
open PySem PySem.Spec PyProof.Rows
open Evl (Ex)
/-- J goes through n things, the i-th one seen as P tells, by whatever frame sees as much as G at H -/
def Walk (K : PySem.W.Frag) (G : Fr) (J : It) (n : Nat) (P : Nat → PyData → Prop) (H : Hp) : Prop := ∀ (G' : Fr) (H2 : Hp), (∀ H, G'.inv H → G.inv H) → Ex (G.view H) (G'.view H2) → G'.inv H2 →
  (∀ i, i < n → J.go i H2 ∧ ∀ x H3, J.yld i H2 x H3 → G'.inv H3 ∧ G'.le H2 H3 ∧ ∃ d, P i d ∧ Dq K (G'.view H3) x d) ∧ J.stop n H2
def EvI (K : PySem.W.Frag) (wi : TI) (Γ : List Sl) (Nn : Nat → Prop) (P : Nat → PyData → Prop) : Prop := ∀ (G : Fr) (σ : L2.St) (H : Hp), EnvOk K G H σ Γ → G.inv H → ∀ R : It → Hp → Prop, (∀ n J H', Nn n → G.inv H' → G.le H H' → Walk K G J n P H' → R J H') → wi σ H R
def Walk0 (K : PySem.W.Frag) (G : Fr) (J : It) (n : Nat) (P : Nat → PyData → Prop) (H : Hp) : Prop := ∀ (G' : Fr) (H2 : Hp), Ex (G.view H) (G'.view H2) → G'.inv H2 →
  (∀ i, i < n → J.go i H2 ∧ ∀ x H3, J.yld i H2 x H3 → G'.inv H3 ∧ G'.le H2 H3 ∧ ∃ d, P i d ∧ Dq K (G'.view H3) x d) ∧ J.stop n H2
/-- as EvI, of things that are seen -/
def EvI0 (K : PySem.W.Frag) (wi : TI) (Γ : List Sl) (Nn : Nat → Prop) (P : Nat → PyData → Prop) : Prop := ∀ (G : Fr) (σ : L2.St) (H : Hp), EnvOk K G H σ Γ → G.inv H → ∀ R : It → Hp → Prop, (∀ n J H', Nn n → G.inv H' → G.le H H' → Walk0 K G J n P H' → R J H') → wi σ H R
theorem EvI0.toI {K : PySem.W.Frag} {wi : TI} {Γ : List Sl} {Nn : Nat → Prop} {P : Nat → PyData → Prop} (h : EvI0 K wi Γ Nn P) : EvI K wi Γ Nn P := fun G σ H ev iv R q => h G σ H ev iv R fun n J H' a b c w => q n J H' a b c fun G' H2 _ e i => w G' H2 e i
/-- a target: what the places hold behind it, other places than vs stay -/
def TgOk (K : PySem.W.Frag) (g : TG) (vs : List Nat) (Γ : List Sl) (P : PyData → Prop) (N : PyData → List Sl) : Prop := ∀ (G : Fr) (σ : L2.St) (H : Hp) (x : V) (d : PyData), EnvOk K G H σ Γ → G.inv H → P d → Dq K (G.view H) x d → ∀ Q : L2.St → Hp → Prop,
  (∀ σ2, σ2.length = σ.length → (∀ i, i ∉ vs → σ2[i]? = σ[i]?) → EnvOk K G H σ2 (N d) → Q σ2 H) → g x σ H Q
def TgsOk (K : PySem.W.Frag) (g : TGs) (vs : List Nat) (Γ : List Sl) (P : List PyData → Prop) (N : List PyData → List Sl) : Prop := ∀ (G : Fr) (σ : L2.St) (H : Hp) (xs : List V) (ds : List PyData), EnvOk K G H σ Γ → G.inv H → P ds → DqAll K (G.view H) xs ds → ∀ Q : L2.St → Hp → Prop,
  (∀ σ2, σ2.length = σ.length → (∀ i, i ∉ vs → σ2[i]? = σ[i]?) → EnvOk K G H σ2 (N ds) → Q σ2 H) → g xs σ H Q
theorem wipe_cons (σ : L2.St) (v : Nat) (vs : List Nat) : wipe σ (v :: vs) = (wipe σ vs).set v none := rfl
theorem wipe_len (σ : L2.St) : ∀ vs : List Nat, (wipe σ vs).length = σ.length
  | [] => rfl
  | v :: vs => by rw [wipe_cons, List.length_set, wipe_len σ vs]
theorem wipe_get (σ : L2.St) : ∀ (vs : List Nat) (i : Nat), (wipe σ vs)[i]? = if i ∈ vs then σ[i]?.map (fun _ => none) else σ[i]?
  | [], i => by simp; rfl
  | v :: vs, i => by
    rw [wipe_cons, List.getElem?_set, wipe_get σ vs i, wipe_len]
    by_cases e : v = i
    · subst e
      simp
      by_cases h : v < σ.length
      · rw [if_pos h, List.getElem?_eq_getElem h]; rfl
      · rw [if_neg h, List.getElem?_eq_none (by omega)]; rfl
    · rw [if_neg e]
      by_cases h : i ∈ vs
      · rw [if_pos h, if_pos (List.mem_cons_of_mem _ h)]
      · rw [if_neg h, if_neg (by simp [h, Ne.symm e])]
theorem wipe_eq {σ σ2 : L2.St} {vs : List Nat} (hl : σ2.length = (wipe σ vs).length) (h : ∀ i, i ∉ vs → σ2[i]? = (wipe σ vs)[i]?) : wipe σ2 vs = wipe σ vs := by
  refine List.ext_getElem? fun i => ?_
  rw [wipe_get, wipe_get]
  by_cases hm : i ∈ vs
  · rw [if_pos hm, if_pos hm]
    rw [wipe_len] at hl
    by_cases hi : i < σ.length
    · rw [List.getElem?_eq_getElem hi, List.getElem?_eq_getElem (by omega)]; rfl
    · rw [List.getElem?_eq_none (by omega), List.getElem?_eq_none (by omega)]
  · rw [if_neg hm, if_neg hm, h i hm, wipe_get, if_neg hm]
def wipeΓ (Γ : List Sl) : List Nat → List Sl
  | [] => Γ
  | v :: vs => (wipeΓ Γ vs).set v .any
section
variable {K : PySem.W.Frag} {Γ : List Sl} {te tb tl : TE} {ta : TA} {wi : TI} {g : TG} {Nn : Nat → Prop} {vs : List Nat} {P : Nat → PyData → Prop} {N : PyData → List Sl} {R : Nat → PyData → PyData → Prop}
theorem EnvOk.wipe {G : Fr} {H : Hp} {σ : L2.St} (h : EnvOk K G H σ Γ) : ∀ vs : List Nat, EnvOk K G H (L2.wipe σ vs) (wipeΓ Γ vs)
  | [] => h
  | v :: vs => (EnvOk.wipe h vs).wipe1
/-- a comprehension -/
theorem ev_lc (hn : ∀ n, Nn n → n < 100000) (hi : EvI K wi Γ Nn P) (hg : ∀ i, TgOk K g vs (wipeΓ Γ vs) (P i) N) (he : ∀ i d, P i d → EvD K te (N d) (R i d)) :
    EvD K (tLc wi g tYes te vs) Γ (fun d => ∃ es, d = .list es ∧ Nn es.length ∧ ∀ i e, es[i]? = some e → ∃ d, P i d ∧ R i d e) := fun G σ H ev iv Q q => by
  refine hi G σ H ev iv _ fun n J H1 hnn iv1 l1 w D hD => ?_
  have hn := hn n hnn
  have ho := Fr.own_new (G := G) (o := HO.lst []) iv1 hD
  -- the list made so far is acc
  let Iv : Nat → Hp → Prop := fun i H => ∃ (acc : List V) (es : List PyData), (G.own D (.lst acc)).inv H ∧ Ex (G.view H1) ((G.own D (.lst acc)).view H) ∧ acc.length = i ∧ DqAll K ((G.own D (.lst acc)).view H) acc es ∧ ∀ j e, es[j]? = some e → ∃ d, P j d ∧ R j d e
  refine ⟨fun i m H => m = n - i ∧ i ≤ n ∧ Iv i H, ⟨n, by simp, Nat.zero_le _, [], [], ho.1, by rw [ho.2]; exact fun _ _ h => h, rfl, .nil, fun j e h => by simp at h⟩, ?_⟩
  rintro i m H2 ⟨rfl, hle, acc, es, iv2, e2, hlen, dqs, hR⟩
  have w2 := w (G.own D (.lst acc)) H2 (fun _ i => i.1) e2 iv2
  by_cases hlt : i < n
  · refine .inr ⟨(w2.1 i hlt).1, fun H => i + 1 ≤ n ∧ Iv (i + 1) H, fun H' h' => ⟨n - (i + 1), by omega, rfl, h'⟩, fun x H3 hy => ?_⟩
    obtain ⟨iv3, l3, d, pd, dq⟩ := (w2.1 i hlt).2 x H3 hy
    have ev3 : EnvOk K (G.own D (.lst acc)) H3 σ Γ := (ev.le l1).own fun c u h => l3 c u (e2 c u h)
    refine hg i (G.own D (.lst acc)) (L2.wipe σ vs) H3 x d (ev3.wipe vs) iv3 pd dq _ fun σ2 hl2 hs2 ev4 => ⟨wipe_eq hl2 hs2, ?_⟩
    refine he i d pd (G.own D (.lst acc)) σ2 H3 ev4 iv3 _ fun y e H4 iv4 l4 r4 dq4 => ⟨acc, Fr.own_at iv4, ?_, hlt, acc ++ [y], es ++ [e], ?_⟩
    · rw [hlen, sizeLine_eq]; omega
    · have st := Fr.own_set (o' := .lst (acc ++ [y])) iv4
      refine ⟨st.1, fun c u h => ?_, by simp [hlen], ?_, fun j z hz => ?_⟩
      · show (G.own D (.lst (acc ++ [y]))).view _ c = _
        rw [st.2]
        exact l4 c u (l3 c u (e2 c u h))
      · show DqAll K ((G.own D (.lst (acc ++ [y]))).view _) _ _
        rw [st.2]
        exact ((dqs.ex l3).ex l4).append (.cons dq4 .nil)
      · by_cases hj : j < es.length
        · rw [List.getElem?_append_left hj] at hz
          exact hR j z hz
        · have hel : es.length = i := by rw [← dqs.length]; exact hlen
          rw [List.getElem?_append_right (by omega)] at hz
          have : j - es.length = 0 := by
            have := (List.getElem?_eq_some_iff.mp hz).1
            simp at this
            omega
          rw [this] at hz
          simp at hz
          subst hz
          have hji : j = i := by omega
          subst hji
          exact ⟨d, pd, r4⟩
  · obtain rfl : i = n := by omega
    refine .inl ⟨w2.2, q (.ref D) (.list es) H2 iv2.1 (l1.trans (Fr.own_le (Fr.blank hD) e2)) ⟨es, rfl, by rw [← dqs.length, hlen]; exact hnn, hR⟩ (.lst (.inl (.inl iv2.2)) (dqs.ex Fr.own_sub))⟩
theorem tg_name {j : Nat} {P : PyData → Prop} (hj : j < Γ.length) : TgOk K (gName j) [j] Γ P (fun d => Γ.set j (.dat d)) := fun G σ H x d ev iv pd dq Q q =>
  q (σ.set j (some x)) (by rw [List.length_set]) (fun i hi => by rw [List.getElem?_set_ne (by intro e; exact hi (by simp [e]))]) (ev.set hj dq)
theorem TgOk.more {P : PyData → Prop} {us : List Nat} (h : TgOk K g vs Γ P N) (hs : ∀ i ∈ vs, i ∈ us) : TgOk K g us Γ P N := fun G σ H x d ev iv pd dq Q q => h G σ H x d ev iv pd dq Q fun σ2 a b c => q σ2 a (fun i hi => b i fun z => hi (hs i z)) c
end
end L2

set_option Elab.async false
set_option linter.all false
set_option maxRecDepth 100000
set_option maxHeartbeats 4000000
namespace L2
open PySem PySem.Spec PyProof.Rows
open Evl (Ex)
/-- for x in e, e a list or a tuple -/
def iSeq (K : PySem.W.Frag) (tl : TE) : TI := fun σ H R => tl σ H fun x H1 => ∃ a, x = .ref a ∧ (((∃ xs, SqL K H1 a xs) ∧ R (Itl K a) H1) ∨ ((∃ xs, SqT K H1 a xs) ∧ R (Itt K a) H1))
theorem pi_seq {X : Cx} {tg l : Expr} {tl : TE} (h : PE X l tl) : PI X tg l (iSeq X.K tl) := by
  refine ⟨fun pins s σ H R I q => thn (h.run pins s σ H _ I q) fun v s1 ⟨x, H1, I1, r1, a, ex, q1⟩ => ?_⟩
  subst ex
  obtain rfl : v = Value.ref a := r1
  rcases q1 with ⟨⟨xs, hq⟩, q1⟩ | ⟨⟨xs, hq⟩, q1⟩
  · obtain ⟨its, rv, p, hz⟩ := I1.list hq
    exact wpAny_pyIter_list p.isList (pi_one (tk := s1.toks) I1 _ (turn_list a s1.heap.objs.size) ⟨_, Heap.get?_push_size _ rfl, rfl, rfl⟩ q1)
  · obtain ⟨its, rv, p, hz⟩ := I1.tuple hq
    exact wpAny_pyIter_tuple p (pi_one (tk := s1.toks) I1 _ (turn_tuple a s1.heap.objs.size) ⟨_, Heap.get?_push_size _ rfl, rfl, rfl⟩ q1)
section
variable {K : PySem.W.Frag} {Γ : List Sl} {te tb tc tl : TE} {ta : TA} {wi : TI} {g : TG} {P P1 P2 : PyData → Prop} {PS : List Sl → Prop}
theorem e0_seq {ds : List PyData} (h : EvD K tl Γ (fun d => d = .list ds ∨ d = .tuple ds)) : EvI0 K (iSeq K tl) Γ (· = ds.length) (fun i d => ds[i]? = some d) := fun G σ H ev iv R q =>
  h G σ H ev iv _ fun v d H1 iv1 l1 pd dq => by
    rcases pd with rfl | rfl
    · cases dq with
      | lst hs ha =>
        refine ⟨_, rfl, .inl ⟨⟨_, Fr.upL hs⟩, q ds.length _ H1 rfl iv1 l1 fun G' H2 e iv2 => ⟨fun i hi => ?_, _, Fr.upL (exL e hs), by rw [ha.length] <;> exact Nat.le_refl _⟩⟩⟩
        obtain ⟨x, hx, dx⟩ := ha.get' (List.getElem?_eq_getElem hi)
        refine ⟨⟨_, x, Fr.upL (exL e hs), hx⟩, fun y H3 ⟨e3, hy⟩ => ?_⟩
        subst e3
        have := hy _ (Fr.upL (exL e hs))
        rw [hx] at this
        cases this
        exact ⟨iv2, .refl, _, List.getElem?_eq_getElem hi, dx.ex e⟩
    · cases dq with
      | tup hs ha =>
        refine ⟨_, rfl, .inr ⟨⟨_, Fr.upT hs⟩, q ds.length _ H1 rfl iv1 l1 fun G' H2 e iv2 => ⟨fun i hi => ?_, _, Fr.upT (exT e hs), by rw [ha.length] <;> exact Nat.le_refl _⟩⟩⟩
        obtain ⟨x, hx, dx⟩ := ha.get' (List.getElem?_eq_getElem hi)
        refine ⟨⟨_, x, Fr.upT (exT e hs), hx⟩, fun y H3 ⟨e3, hy⟩ => ?_⟩
        subst e3
        have := hy _ (Fr.upT (exT e hs))
        rw [hx] at this
        cases this
        exact ⟨iv2, .refl, _, List.getElem?_eq_getElem hi, dx.ex e⟩
theorem ei_seq {ds : List PyData} (h : EvD K tl Γ (fun d => d = .list ds ∨ d = .tuple ds)) : EvI K (iSeq K tl) Γ (· = ds.length) (fun i d => ds[i]? = some d) := (e0_seq h).toI
theorem e0_str {x : Str} (h : EvD K te Γ (· = .str x)) : EvI0 K (iStr te) Γ (· = x.cps.size) (fun i d => ∃ c, x.cps[i]? = some c ∧ d = .str ⟨#[c]⟩) := fun G σ H ev iv R q =>
  h G σ H ev iv _ fun v d H1 iv1 l1 pd dq => by
    subst pd
    cases dq
    refine ⟨x, rfl, q _ _ H1 rfl iv1 l1 fun G' H2 e iv2 => ⟨fun i hi => ⟨hi, fun y H3 ⟨e3, c, hc, ey⟩ => ?_⟩, Nat.le_refl _⟩⟩
    subst e3; subst ey
    exact ⟨iv2, .refl, _, ⟨c, hc, rfl⟩, .str _⟩
theorem ei_str {x : Str} (h : EvD K te Γ (· = .str x)) : EvI K (iStr te) Γ (· = x.cps.size) (fun i d => ∃ c, x.cps[i]? = some c ∧ d = .str ⟨#[c]⟩) := (e0_str h).toI
theorem e0_range1 {Nn : Nat → Prop} (h : EvS K ta Γ (fun ss => ∃ m : Nat, Nn m ∧ ss = [.dat (.int m)])) (hb : ∀ m, Nn m → m < 100000) : EvI0 K (iRng1 ta) Γ Nn (fun i d => d = .int i) := fun G σ H ev iv R q =>
  h G σ H ev iv _ fun vs ss H1 iv1 l1 ⟨m, hm, ess⟩ dqs => by
    subst ess
    cases dqs with
    | cons h1 t1 =>
      cases t1
      cases h1
      have := hb m hm
      refine ⟨m, rfl, by omega, by omega, ?_⟩
      rw [Int.toNat_natCast]
      refine q m _ H1 hm iv1 l1 fun G' H2 e iv2 => ⟨fun i hi => ⟨hi, fun y H3 ⟨e3, ey⟩ => ?_⟩, Nat.le_refl _⟩
      subst e3; subst ey
      rw [Int.zero_add]
      exact ⟨iv2, .refl, _, rfl, .int _⟩
theorem ei_range1 {Nn : Nat → Prop} (h : EvS K ta Γ (fun ss => ∃ m : Nat, Nn m ∧ ss = [.dat (.int m)])) (hb : ∀ m, Nn m → m < 100000) : EvI K (iRng1 ta) Γ Nn (fun i d => d = .int i) := (e0_range1 h hb).toI
theorem ev_opC {P1 P2 : Int → Prop} {f : Int → Int → V} {g' : Int → Int → PyData} (hg : ∀ i j H, Dq K H (f i j) (g' i j)) (h1 : EvD K te Γ (fun d => ∃ n, d = .int n ∧ P1 n)) (h2 : EvD K tb Γ (fun d => ∃ n, d = .int n ∧ P2 n)) :
    EvD K (tOp (rI0 f) te tb) Γ (fun d => ∃ i j, P1 i ∧ P2 j ∧ d = g' i j) := fun G σ H e i Q q =>
  h1 G σ H e i _ fun v d H1 i1 l1 ⟨n, p1, p1'⟩ dq => h2 G σ H1 (e.le l1) i1 _ fun v2 d2 H2 i2 l2 ⟨m, p2, p2'⟩ dq2 => by
    subst p1; subst p2
    cases dq; cases dq2
    exact ⟨n, m, rfl, rfl, q _ _ H2 i2 (l1.trans l2) ⟨n, m, p1', p2', rfl⟩ (hg n m _)⟩
theorem ev_is {n : Int} (h : EvD K te Γ (· = .int n)) : EvD K te Γ (fun d => ∃ m, d = .int m ∧ m = n) := h.imp fun d e => ⟨n, e, rfl⟩
/-- a <= x <= b -/
theorem ev_chainLe {a x b : Int} (h1 : EvD K te Γ (· = .int a)) (h2 : EvD K tb Γ (· = .int x)) (h3 : EvD K tc Γ (· = .int b)) :
    EvD K (tChain (rI0 fun i j => V.bl (decide (i ≤ j))) (rI0 fun i j => V.bl (decide (i ≤ j))) te tb tc) Γ (· = .bool (decide (a ≤ x) && decide (x ≤ b))) := fun G σ H e i Q q =>
  h1 G σ H e i _ fun v d H1 i1 l1 p1 dq => h2 G σ H1 (e.le l1) i1 _ fun v2 d2 H2 i2 l2 p2 dq2 => by
    subst p1; subst p2
    cases dq; cases dq2
    refine ⟨a, x, rfl, rfl, _, rfl, ?_⟩
    by_cases c : a ≤ x
    · rw [if_pos (decide_eq_true c)]
      refine h3 G σ H2 (e.le (l1.trans l2)) i2 _ fun v3 d3 H3 i3 l3 p3 dq3 => ?_
      subst p3
      cases dq3
      exact ⟨x, b, rfl, rfl, q _ _ H3 i3 ((l1.trans l2).trans l3) (by rw [decide_eq_true c]; rfl) (.bl _)⟩
    · rw [if_neg (by simp [c])]
      exact q _ _ H2 i2 (l1.trans l2) (by rw [decide_eq_false c]; rfl) (.bl _)
/-- the name of a value's class -/
def tyD : PyData → String
  | .none => "NoneType" | .bool _ => "bool" | .int _ => "int" | .str _ => "str" | .list _ => "list" | .tuple _ => "tuple" | .dict _ => "dict"
theorem dq_ty {H : Hp} {v : V} {d : PyData} (h : Dq K H v d) : TyX K H v (.type (tyD d)) := by
  have L : ∀ {a xs}, SqL K H a xs → TyX K H (.ref a) (.type "list") := fun h => by
    rcases h with (h | ⟨o, h⟩) | ⟨o, its, n, h1, h2, _⟩
    · exact .base (.lst h)
    · exact .base (.frz h)
    · exact .kList h1 h2
  have T : ∀ {a xs}, SqT K H a xs → TyX K H (.ref a) (.type "tuple") := fun h => by
    rcases h with (h | ⟨o, h⟩) | ⟨o, its, n, h1, h2, _⟩
    · exact .base (.tup h)
    · exact .fTuple h
    · exact .kTuple h1 h2
  cases h with
  | non => exact .base .non
  | bl b => exact .base (.bl b)
  | int i => exact .base (.int i)
  | str x => exact .base (.str x)
  | lst hs _ => exact L hs
  | tup hs _ => exact T hs
  | dic hd _ => exact .base (.dK hd)
/-- isinstance(x, c) -/
theorem ev_isi {d : PyData} {c : String} {b : Bool} (h : EvD K te Γ (· = d)) (hb : kitB (tyD d) c = some b) : EvD K (tCB (rIsi K) (tCons te (tCons (tC (.ty c)) tNil))) Γ (· = .bool b) := fun G σ H e i Q q =>
  h G σ H e i _ fun v d' H1 i1 l1 p1 dq => by
    subst p1
    exact ⟨v, .ty c, _, _, b, rfl, .ty c, dq_ty (Fr.up dq), kit_ty hb, q _ _ H1 i1 l1 rfl (.bl b)⟩
theorem ev_isi2 {d : PyData} {c c2 : String} {b : Bool} (h : EvD K te Γ (· = d)) (hb : PySem.W.kitAny K (.type (tyD d)) [.type c, .type c2] = some b) : EvD K (tCB (rIsiT K) (tCons te (tCons (tTup (tCons (tC (.ty c)) (tCons (tC (.ty c2)) tNil))) tNil))) Γ (· = .bool b) := fun G σ H e i Q q =>
  h G σ H e i _ fun v d' H1 i1 l1 p1 dq => by
    subst p1
    refine ⟨by show 2 ≤ sizeLine; decide, fun p hp => ?_⟩
    obtain ⟨i2, l2, h2⟩ := Fr.new (o := HO.tup [.ty c, .ty c2]) i1 hp
    exact ⟨v, p, [.ty c, .ty c2], _, _, b, rfl, upd_same, .cons (.ty c) (.cons (.ty c2) .nil), dq_ty (Fr.up (dq.ex l2)), hb, q _ _ _ i2 (l1.trans l2) rfl (.bl b)⟩
theorem ev_len {ds : List PyData} (h : EvD K te Γ (fun d => d = .list ds ∨ d = .tuple ds)) : EvD K (tCB (fun xs H Q => ∃ p ys, xs = [V.ref p] ∧ (SqL K H p ys ∨ SqT K H p ys) ∧ Q (V.int (ys.length : Nat)) H) (tCons te tNil)) Γ (· = .int ds.length) := fun G σ H e i Q q =>
  h G σ H e i _ fun v d' H1 i1 l1 p1 dq => by
    rcases p1 with rfl | rfl
    · cases dq with
      | lst hs ha => exact ⟨_, _, rfl, .inl (Fr.upL hs), q _ _ H1 i1 l1 (by rw [ha.length]) (.int _)⟩
    · cases dq with
      | tup hs ha => exact ⟨_, _, rfl, .inr (Fr.upT hs), q _ _ H1 i1 l1 (by rw [ha.length]) (.int _)⟩
theorem ev_lenS {x : Str} (h : EvD K te Γ (· = .str x)) (hx : x.length ≤ 100000) : EvD K (tCB (fun xs H Q => ∃ z, xs = [V.str z] ∧ z.length ≤ sizeLine ∧ Q (V.int (z.length : Nat)) H) (tCons te tNil)) Γ (· = .int x.length) := fun G σ H e i Q q =>
  h G σ H e i _ fun v d' H1 i1 l1 p1 dq => by
    subst p1
    cases dq
    exact ⟨x, rfl, by rw [sizeLine_eq]; omega, q _ _ H1 i1 l1 rfl (.int _)⟩
theorem bools_of {H : Hp} : ∀ {xs : List V} {es : List PyData}, DqAll K H xs es → (∀ e ∈ es, ∃ b, e = .bool b) → ∃ bs : List Bool, xs = bs.map V.bl ∧ es = bs.map PyData.bool
  | _, _, .nil, _ => ⟨[], rfl, rfl⟩
  | _, _, .cons h t, hb => by
    obtain ⟨b, rfl⟩ := hb _ List.mem_cons_self
    obtain ⟨bs, e1, e2⟩ := bools_of t fun e he => hb e (List.mem_cons_of_mem _ he)
    cases h
    exact ⟨b :: bs, by rw [e1]; rfl, by rw [e2]; rfl⟩
/-- all([..]) -/
theorem ev_all {bs : List Bool} (h : EvD K te Γ (· = .list (bs.map PyData.bool))) : EvD K (tCB (rAll K) (tCons te tNil)) Γ (· = .bool (bs.all id)) := fun G σ H e i Q q =>
  h G σ H e i _ fun v d' H1 i1 l1 p1 dq => by
    subst p1
    cases dq with
    | lst hs ha =>
      obtain ⟨cs, e1, e2⟩ := bools_of ha fun e he => let ⟨b, _, e2⟩ := List.mem_map.mp he; ⟨b, e2.symm⟩
      have : cs = bs := by
        have := e2
        exact (List.map_inj_right (f := PyData.bool) (fun a b h => by injection h)).mp this.symm
      subst this
      subst e1
      exact ⟨_, cs, rfl, Fr.upL hs, q _ _ H1 i1 l1 rfl (.bl _)⟩
/-- a comprehension whose things are told by a function -/
theorem ev_lcF {ds : List PyData} {f : PyData → PyData} {vs : List Nat} {N : PyData → List Sl} (hn : ds.length < 100000) (hi : EvD K tl Γ (fun d => d = .list ds ∨ d = .tuple ds)) (hg : TgOk K g vs (wipeΓ Γ vs) (· ∈ ds) N) (he : ∀ d, d ∈ ds → EvD K te (N d) (· = f d)) :
    EvD K (tLc (iSeq K tl) g tYes te vs) Γ (· = .list (ds.map f)) := by
  refine (ev_lc (R := fun _ d e => e = f d) (fun n e => by rw [e]; exact hn) (ei_seq hi) (fun i G σ H x d ev iv pd => hg G σ H x d ev iv (List.mem_of_getElem? pd)) fun i d pd => he d (List.mem_of_getElem? pd)).imp ?_
  rintro _ ⟨es, rfl, hl, hR⟩
  refine congrArg PyData.list (List.ext_getElem? fun i => ?_)
  rw [List.getElem?_map]
  by_cases hlt : i < es.length
  · obtain ⟨d, h1, h2⟩ := hR i _ (List.getElem?_eq_getElem hlt)
    rw [h1, List.getElem?_eq_getElem hlt, h2]
    rfl
  · rw [List.getElem?_eq_none (by omega), List.getElem?_eq_none (by omega)]
    rfl
theorem ev_allF {ds : List PyData} {f : PyData → Bool} {vs : List Nat} {N : PyData → List Sl} (hn : ds.length < 100000) (hi : EvD K tl Γ (fun d => d = .list ds ∨ d = .tuple ds)) (hg : TgOk K g vs (wipeΓ Γ vs) (· ∈ ds) N) (he : ∀ d, d ∈ ds → EvD K te (N d) (· = .bool (f d))) :
    EvD K (tCB (rAll K) (tCons (tLc (iSeq K tl) g tYes te vs) tNil)) Γ (· = .bool (ds.all f)) := by
  refine (ev_all (bs := ds.map f) ((ev_lcF (f := fun d => .bool (f d)) hn hi hg he).imp fun d e => by rw [e, List.map_map]; rfl)).imp fun d e => ?_
  rw [e, List.all_map]
  rfl
def datsOf : List Sl → List PyData
  | .dat d :: r => d :: datsOf r
  | _ => []
theorem args_dats {G : Fr} {H : Hp} : ∀ {vs : List V} {ds : List PyData}, ArgsOk K G H vs (ds.map .dat) → DqAll K (G.view H) vs ds
  | _, [], .nil => .nil
  | _, _ :: _, .cons h t => .cons h (args_dats t)
/-- arguments that are data -/
def EvL' (K : PySem.W.Frag) (ta : TA) (Γ : List Sl) (P : List PyData → Prop) : Prop := EvS K ta Γ fun ss => ∃ ds, ss = ds.map .dat ∧ P ds
theorem el_nil : EvL' K tNil Γ (· = []) := fun G σ H e i Q q => q [] [] H i .refl ⟨[], rfl, rfl⟩ .nil
theorem el_cons {PL : List PyData → Prop} (h : EvD K te Γ P) (t : EvL' K ta Γ PL) : EvL' K (tCons te ta) Γ (fun ds => ∃ d r, ds = d :: r ∧ P d ∧ PL r) := fun G σ H e i Q q =>
  es_cons h t G σ H e i Q fun vs ss H' i' l' ⟨d, r, e1, p1, ds, e2, p2⟩ dqs => q vs ss H' i' l' ⟨d :: ds, by rw [e1, e2]; rfl, d, ds, rfl, p1, p2⟩ dqs
theorem ev_tup {PL : List PyData → Prop} (h : EvL' K ta Γ PL) (hn : ∀ ds, PL ds → ds.length ≤ 100000) : EvD K (tTup ta) Γ (fun d => ∃ ds, d = .tuple ds ∧ PL ds) := fun G σ H e i Q q =>
  h G σ H e i _ fun vs ss H1 i1 l1 ⟨ds, e1, p1⟩ dqs => by
    subst e1
    have dqs := args_dats dqs
    refine ⟨by rw [dqs.length, sizeLine_eq]; have := hn ds p1; omega, fun p hp => ?_⟩
    obtain ⟨i2, l2, h2⟩ := Fr.new (o := HO.tup vs) i1 hp
    exact q _ _ _ i2 (l1.trans l2) ⟨ds, rfl, p1⟩ (.tup (.inl (.inl h2)) (dqs.ex l2))
theorem ev_lst {PL : List PyData → Prop} (h : EvL' K ta Γ PL) (hn : ∀ ds, PL ds → ds.length ≤ 100000) : EvD K (tLst ta) Γ (fun d => ∃ ds, d = .list ds ∧ PL ds) := fun G σ H e i Q q =>
  h G σ H e i _ fun vs ss H1 i1 l1 ⟨ds, e1, p1⟩ dqs => by
    subst e1
    have dqs := args_dats dqs
    refine ⟨by rw [dqs.length, sizeLine_eq]; have := hn ds p1; omega, fun p hp => ?_⟩
    obtain ⟨i2, l2, h2⟩ := Fr.new (o := HO.lst vs) i1 hp
    exact q _ _ _ i2 (l1.trans l2) ⟨ds, rfl, p1⟩ (.lst (.inl (.inl h2)) (dqs.ex l2))
theorem ev_ixT {ds : List PyData} {n : Nat} {d : PyData} (h : EvD K te Γ (· = .tuple ds)) (h2 : EvD K tb Γ (· = .int n)) (hd : ds[n]? = some d) : EvD K (tOp (rIxT K) te tb) Γ (· = d) := fun G σ H e i Q q =>
  h G σ H e i _ fun v d1 H1 i1 l1 p1 dq => h2 G σ H1 (e.le l1) i1 _ fun v2 d2 H2 i2 l2 p2 dq2 => by
    subst p1; subst p2
    cases dq2
    cases dq with
    | tup hs ha =>
      obtain ⟨x, hx, dx⟩ := ha.get' hd
      exact ⟨_, _, _, x, rfl, rfl, Fr.upT (exT l2 hs), atI_nat hx, q _ _ H2 i2 (l1.trans l2) rfl (dx.ex l2)⟩
theorem ev_ixL {ds : List PyData} {n : Nat} {d : PyData} (h : EvD K te Γ (· = .list ds)) (h2 : EvD K tb Γ (· = .int n)) (hd : ds[n]? = some d) : EvD K (tOp (rIxL K) te tb) Γ (· = d) := fun G σ H e i Q q =>
  h G σ H e i _ fun v d1 H1 i1 l1 p1 dq => h2 G σ H1 (e.le l1) i1 _ fun v2 d2 H2 i2 l2 p2 dq2 => by
    subst p1; subst p2
    cases dq2
    cases dq with
    | lst hs ha =>
      obtain ⟨x, hx, dx⟩ := ha.get' hd
      exact ⟨_, _, _, x, rfl, rfl, Fr.upL (exL l2 hs), atI_nat hx, q _ _ H2 i2 (l1.trans l2) rfl (dx.ex l2)⟩
/-- tuple(x) -/
theorem ev_tupleOf {ds : List PyData} (h : EvD K te Γ (fun d => d = .list ds ∨ d = .tuple ds)) : EvD K (tThen te (kTup K)) Γ (· = .tuple ds) := fun G σ H e i Q q =>
  h G σ H e i _ fun v d1 H1 i1 l1 p1 dq => by
    rcases p1 with rfl | rfl
    · cases dq with
      | lst hs ha =>
        refine .inl ⟨_, _, rfl, Fr.upL hs, fun p hp => ?_⟩
        obtain ⟨i2, l2, h2⟩ := Fr.new (o := HO.tup _) i1 hp
        exact q _ _ _ i2 (l1.trans l2) rfl (.tup (.inl (.inl h2)) (ha.ex l2))
    · cases dq with
      | tup hs ha => exact .inr ⟨_, _, rfl, Fr.upT hs, q _ _ H1 i1 l1 rfl (.tup hs ha)⟩
theorem el_list {ds : List PyData} (h : EvD K te Γ (· = .list ds)) : EvD K te Γ (fun d => d = .list ds ∨ d = .tuple ds) := h.imp fun d e => .inl e
theorem el_tuple {ds : List PyData} (h : EvD K te Γ (· = .tuple ds)) : EvD K te Γ (fun d => d = .list ds ∨ d = .tuple ds) := h.imp fun d e => .inr e
theorem argsOf {G : Fr} {H : Hp} : ∀ {vs : List V} {ds : List PyData}, DqAll K (G.view H) vs ds → ArgsOk K G H vs (ds.map .dat)
  | _, _, .nil => .nil
  | _, _, .cons h t => .cons h (argsOf t)
/-- the promise of a def whose answer is told by its data -/
def spD (K : PySem.W.Frag) (pre : List PyData → Prop) (f : List PyData → PyData) : Sp := fun vs H Q _ => ∃ (G : Fr) (ds : List PyData), G.inv H ∧ DqAll K (G.view H) vs ds ∧ pre ds ∧ ∀ v H', G.inv H' → G.le H H' → Dq K (G.view H') v (f ds) → Q v H'
theorem elc {d : PyData} {ds : List PyData} (h : EvD K te Γ (· = d)) (t : EvL' K ta Γ (· = ds)) : EvL' K (tCons te ta) Γ (· = d :: ds) := fun G σ H e i Q q =>
  el_cons h t G σ H e i Q fun vs ss H' i' l' ⟨es, e1, d', r, e2, e3, e4⟩ dqs => q vs ss H' i' l' ⟨es, e1, by rw [e2, e3, e4]⟩ dqs
theorem ev_callD {pre : List PyData → Prop} {f : List PyData → PyData} {E : XK} {ds : List PyData} (h : EvL' K ta Γ (· = ds)) (hp : pre ds) : EvD K (tCall (spD K pre f) [] E ta) Γ (· = f ds) := fun G σ H e i Q q =>
  h G σ H e i _ fun vs ss H1 i1 l1 ⟨es, e1, e2⟩ dqs => by
    subst e2; subst e1
    rw [List.append_nil]
    exact ⟨G, es, i1, args_dats dqs, hp, fun v H' i' l' dq => q v _ H' i' (l1.trans l') rfl dq⟩
theorem ev_call1 {pre : List PyData → Prop} {f : List PyData → PyData} {E : XK} {d : PyData} (ds : List PyData) (h : EvL' K ta Γ (· = ds)) (hp : pre ds) (he : f ds = d) : EvD K (tCall (spD K pre f) [] E ta) Γ (· = d) := he ▸ ev_callD h hp
theorem ev_b {b c : Bool} (h : EvD K te Γ (· = .bool b)) (e : b = c) : EvD K te Γ (· = .bool c) := e ▸ h
theorem ev_eq {d e : PyData} (h : EvD K te Γ (· = d)) (he : d = e) : EvD K te Γ (· = e) := he ▸ h
theorem ev_notB {b : Bool} (h : EvD K te Γ (· = .bool b)) : EvD K (tNotV te) Γ (· = .bool (!b)) := (ev_not (f := fun _ _ => True) h fun d e => ⟨b, e⟩).imp fun d ⟨c, e1, e2⟩ => by
  injection e1 with e1
  rw [e2, e1]
theorem ev_opI1 {a b : Int} {c : Int → Int → Prop} {f : Int → Int → V} {g' : Int → Int → PyData} (hg : ∀ i j H, Dq K H (f i j) (g' i j)) (h1 : EvD K te Γ (· = .int a)) (h2 : EvD K tb Γ (· = .int b)) (hc : c a b) : EvD K (tOp (rI c f) te tb) Γ (· = g' a b) :=
  (ev_opI hg (ev_is h1) (ev_is h2) fun i j e1 e2 => by rw [e1, e2]; exact hc).imp fun d ⟨i, j, e1, e2, e3⟩ => by rw [e3, e1, e2]
theorem ev_opC1 {a b : Int} {f : Int → Int → V} {g' : Int → Int → PyData} (hg : ∀ i j H, Dq K H (f i j) (g' i j)) (h1 : EvD K te Γ (· = .int a)) (h2 : EvD K tb Γ (· = .int b)) : EvD K (tOp (rI0 f) te tb) Γ (· = g' a b) :=
  (ev_opC hg (ev_is h1) (ev_is h2)).imp fun d ⟨i, j, e1, e2, e3⟩ => by rw [e3, e1, e2]
theorem ev_neg {a : Int} (h : EvD K te Γ (· = .int a)) : EvD K (tUn (rU fun i => V.int (-i)) te) Γ (· = .int (-a)) := fun G σ H e i Q q =>
  h G σ H e i _ fun v d H1 i1 l1 p1 dq => by
    subst p1
    cases dq
    exact ⟨a, rfl, q _ _ H1 i1 l1 rfl (.int _)⟩
/-- a body that is one expression -/
theorem done {G : Fr} {H : Hp} {vs : List V} {ds : List PyData} {Q : VK} {d : PyData} (n : Nat) (h : EvD K te (ds.map .dat ++ List.replicate n .any) (· = d)) (iv : G.inv H) (a : DqAll K (G.view H) vs ds) (k : ∀ v H', G.inv H' → G.le H H' → Dq K (G.view H') v d → Q v H') : te (vs.map some ++ List.replicate n none) H Q :=
  h G _ H (envOk_of n (argsOf a)) iv Q fun v e H' i' l' p' dq => k v H' i' l' (p' ▸ dq)
theorem doneR {G : Fr} {H : Hp} {vs : List V} {ds : List PyData} {D : Ends} {d : PyData} {N : List Str} (n : Nat) (hs : L2.start N vs = vs.map some ++ List.replicate n none) (h : EvD K te (ds.map .dat ++ List.replicate n .any) (· = d)) (iv : G.inv H) (a : DqAll K (G.view H) vs ds) (k : ∀ v H', G.inv H' → G.le H H' → Dq K (G.view H') v d → D.rt v H') : tRet te D (L2.start N vs) H := by
  rw [hs]
  exact done n h iv a k
theorem envStart {G : Fr} {H : Hp} {vs : List V} {ds : List PyData} {N : List Str} (n : Nat) (hs : L2.start N vs = vs.map some ++ List.replicate n none) (a : DqAll K (G.view H) vs ds) : EnvOk K G H (L2.start N vs) (ds.map .dat ++ List.replicate n .any) := by
  rw [hs]
  exact envOk_of n (argsOf a)
theorem len1 {H : Hp} {vs : List V} {ds : List PyData} {ps : List Str} (a : DqAll K H vs ds) (h : ds.length = ps.length) : vs.length = ps.length := a.length.trans h
end
end L2

set_option Elab.async false
set_option linter.all false
set_option maxRecDepth 100000
set_option maxHeartbeats 4000000
namespace L2
open PySem PySem.Spec PyProof.Rows
open Evl (Ex)
/-- a dict of texts -/
def dictD (m : List (Str × PyData)) : PyData := .dict (m.map fun p => (.str p.1, p.2))
section
variable {K : PySem.W.Frag} {Γ : List Sl} {te tb tc tl td ty : TE} {ta : TA} {wi : TI} {g : TG}
theorem kD_str {k : Key} {s : Str} (h : kD k = .str s) : k = .inr s := by
  cases k with
  | inl i => cases h
  | inr t => injection h with h; rw [h]
theorem kvq_get {H : Hp} (s : Str) : ∀ {kvs : List (Key × V)} {m : List (Str × PyData)}, DqKv K H kvs (m.map fun p => (.str p.1, p.2)) → (m.lookup s = none → valV kvs (.inr s) = none) ∧ ∀ d, m.lookup s = some d → ∃ v, valV kvs (.inr s) = some v ∧ Dq K H v d
  | [], [], .nil => ⟨fun _ => rfl, fun d h => by cases h⟩
  | (k, v) :: kvs, (t, d) :: m, h => by
    generalize hd : (List.map (fun p : Str × PyData => (PyData.str p.1, p.2)) ((t, d) :: m)) = z at h
    cases h with
    | cons h1 h2 =>
      rw [List.map_cons] at hd
      injection hd with e1 e2
      injection e1 with e3 e4
      simp only at e3 e4
      subst e4
      subst e2
      have hk := kD_str e3.symm
      subst hk
      have ih := kvq_get s h2
      unfold valV
      rw [List.lookup_cons, List.find?_cons]
      by_cases e : s = t
      · subst e
        have e5 : (s == s) = true := beq_self_eq_true s
        have e6 : decide ((Sum.inr s : Key) = Sum.inr s) = true := decide_eq_true rfl
        rw [e5]
        refine ⟨fun z => (by cases z), fun d' hd' => ⟨v, ?_, by cases hd'; exact h1⟩⟩
        simp only [e6]
        rfl
      · have e5 : (s == t) = false := beq_eq_false_iff_ne.mpr e
        have e6 : decide ((Sum.inr t : Key) = Sum.inr s) = false := decide_eq_false fun z => e (by injection z with z; exact z.symm)
        rw [e5]
        simp only [e6]
        exact ih
theorem ev_din {s : Str} {m : List (Str × PyData)} (h : EvD K ty Γ (· = .str s)) (h2 : EvD K td Γ (· = dictD m)) : EvD K (tDIn ty td) Γ (· = .bool (m.lookup s).isSome) := fun G σ H e i Q q =>
  h G σ H e i _ fun v d1 H1 i1 l1 p1 dq => h2 G σ H1 (e.le l1) i1 _ fun v2 d2 H2 i2 l2 p2 dq2 => by
    subst p1; subst p2
    cases dq
    generalize hz : dictD m = z at dq2
    cases dq2 <;> first | (unfold dictD at hz; cases hz; done) | skip
    rename_i a kvs ks hd hk
    unfold dictD at hz
    injection hz with hz
    subst hz
    have kg := kvq_get s hk
    refine ⟨a, _, rfl, DGet.k (k := Sum.inr s) (G.sub hd), q _ _ H2 i2 (l1.trans l2) ?_ (.bl _)⟩
    cases e : m.lookup s with
    | none => rw [kg.1 e]; rfl
    | some d => obtain ⟨x, hx, _⟩ := kg.2 d e; rw [hx]; rfl
theorem ev_dget {s : Str} {m : List (Str × PyData)} {d : PyData} (h : EvD K td Γ (· = dictD m)) (h2 : EvD K ty Γ (· = .str s)) (hm : m.lookup s = some d) : EvD K (tDGet td ty) Γ (· = d) := fun G σ H e i Q q =>
  h G σ H e i _ fun v d1 H1 i1 l1 p1 dq => h2 G σ H1 (e.le l1) i1 _ fun v2 d2 H2 i2 l2 p2 dq2 => by
    subst p1; subst p2
    cases dq2
    generalize hz : dictD m = z at dq
    cases dq <;> first | (unfold dictD at hz; cases hz; done) | skip
    rename_i a kvs ks hd hk
    unfold dictD at hz
    injection hz with hz
    subst hz
    obtain ⟨x, hx, dx⟩ := (kvq_get s hk).2 d hm
    have hd2 := l2 _ _ hd
    exact ⟨a, x, rfl, by have := DGet.k (k := Sum.inr s) (G.sub hd2); rw [hx] at this; exact this, q _ _ H2 i2 (l1.trans l2) rfl (dx.ex l2)⟩
/-- sign in a text -/
theorem ev_inStr {s t : Str} (h : EvD K te Γ (· = .str s)) (h2 : EvD K tb Γ (· = .str t)) : EvD K (tOp (fun x y H Q => ∃ i j, x = V.str i ∧ y = V.str j ∧ Q (V.bl (!(Builtin.Str.occurrences j i 0 j.length 1).isEmpty)) H) te tb) Γ (· = .bool (!(Builtin.Str.occurrences t s 0 t.length 1).isEmpty)) := fun G σ H e i Q q =>
  h G σ H e i _ fun v d1 H1 i1 l1 p1 dq => h2 G σ H1 (e.le l1) i1 _ fun v2 d2 H2 i2 l2 p2 dq2 => by
    subst p1; subst p2
    cases dq; cases dq2
    exact ⟨s, t, rfl, rfl, q _ _ H2 i2 (l1.trans l2) rfl (.bl _)⟩
theorem ev_lcS {x : Str} {f : Str → Bool} {vs : List Nat} {N : PyData → List Sl} (hn : x.cps.size < 100000) (hi : EvD K tl Γ (· = .str x)) (hg : TgOk K g vs (wipeΓ Γ vs) (fun d => ∃ c, d = .str ⟨#[c]⟩) N) (he : ∀ c, EvD K te (N (.str ⟨#[c]⟩)) (· = .bool (f ⟨#[c]⟩))) :
    EvD K (tCB (rAll K) (tCons (tLc (iStr tl) g tYes te vs) tNil)) Γ (· = .bool (x.cps.toList.all fun c => f ⟨#[c]⟩)) := by
  have h := ev_lc (R := fun _ d e => ∃ c, d = .str ⟨#[c]⟩ ∧ e = .bool (f ⟨#[c]⟩)) (fun n e => by rw [e]; exact hn) (ei_str hi) (fun i G σ H y d ev iv ⟨c, _, e⟩ => hg G σ H y d ev iv ⟨c, e⟩) fun i d ⟨c, hc, e⟩ => by
    subst e
    exact (he c).imp fun d e => ⟨c, rfl, e⟩
  refine (ev_all (bs := x.cps.toList.map fun c => f ⟨#[c]⟩) (h.imp ?_)).imp fun d e => ?_
  · rintro _ ⟨es, rfl, hl, hR⟩
    refine congrArg PyData.list (List.ext_getElem? fun i => ?_)
    rw [List.map_map, List.getElem?_map]
    by_cases hlt : i < es.length
    · obtain ⟨d, ⟨c, h1, h2⟩, c', h3, h4⟩ := hR i _ (List.getElem?_eq_getElem hlt)
      rw [h2] at h3
      have : c = c' := by
        injection h3 with h3
        injection h3 with h3
        simpa using h3
      subst this
      rw [show x.cps.toList[i]? = some c by rw [Array.getElem?_toList]; exact h1, List.getElem?_eq_getElem hlt, h4]
      rfl
    · rw [List.getElem?_eq_none (by omega), List.getElem?_eq_none (by rw [Array.length_toList]; omega)]
      rfl
  · rw [e, List.all_map]
    rfl
end
end L2

set_option Elab.async false
set_option linter.all false
set_option maxRecDepth 100000
set_option maxHeartbeats 4000000
namespace L2
open PySem PySem.Spec PyProof.Rows
open Evl (Ex)
/-- a block that returns d -/
def Rets (K : PySem.W.Frag) (ts : TS) (Γ : List Sl) (P : PyData → Prop) : Prop := ∀ (G : Fr) (σ : L2.St) (H : Hp) (D : Ends), EnvOk K G H σ Γ → G.inv H → (∀ v d H', G.inv H' → G.le H H' → P d → Dq K (G.view H') v d → D.rt v H') → ts D σ H
section
variable {K : PySem.W.Frag} {Γ Γ' : List Sl} {te tb tc tl td ty : TE} {ta : TA} {wi : TI} {g : TG} {gs : TGs} {ts tu ts2 : TS} {tt : TT} {P P' : PyData → Prop} {PL : List PyData → Prop}
theorem rs_ret (h : EvD K te Γ P) : Rets K (tRet te) Γ P := fun G σ H D ev iv k => h G σ H ev iv _ k
theorem rs_if (b : Bool) (h : EvB K tt Γ (· = b)) (h1 : b = true → Rets K ts Γ P) (h2 : b = false → Rets K tu Γ P) : Rets K (tSeq (tIfS tt ts tNext) tu) Γ P := fun G σ H D ev iv k =>
  h G σ H ev iv _ fun c H1 iv1 l1 e => by
    subst e
    cases c with
    | true => exact h1 rfl G σ H1 _ (ev.le l1) iv1 fun v d H2 iv2 l2 p dq => k v d H2 iv2 (l1.trans l2) p dq
    | false => exact h2 rfl G σ H1 _ (ev.le l1) iv1 fun v d H2 iv2 l2 p dq => k v d H2 iv2 (l1.trans l2) p dq
theorem rs_set {i : Nat} (hi : i < Γ.length) (h : EvD K te Γ P') (h2 : ∀ d, P' d → Rets K tu (Γ.set i (.dat d)) P) : Rets K (tSeq (tAsg te (gName i)) tu) Γ P := fun G σ H D ev iv k =>
  h G σ H ev iv _ fun v d H1 iv1 l1 p dq => h2 d p G _ H1 _ ((ev.le l1).set hi dq) iv1 fun v d H2 iv2 l2 p dq => k v d H2 iv2 (l1.trans l2) p dq
theorem rs_asg {vs : List Nat} {N : PyData → List Sl} (h : EvD K te Γ P') (hg : TgOk K g vs Γ P' N) (h2 : ∀ d, P' d → Rets K tu (N d) P) : Rets K (tSeq (tAsg te g) tu) Γ P := fun G σ H D ev iv k =>
  h G σ H ev iv _ fun v d H1 iv1 l1 p dq => hg G σ H1 v d (ev.le l1) iv1 p dq _ fun σ2 _ _ ev2 => h2 d p G σ2 H1 _ ev2 iv1 fun v d H2 iv2 l2 p dq => k v d H2 iv2 (l1.trans l2) p dq
theorem Rets.imp (h : Rets K ts Γ P) (hp : ∀ d, P d → P' d) : Rets K ts Γ P' := fun G σ H D ev iv k => h G σ H D ev iv fun v d H' i l p dq => k v d H' i l (hp d p) dq
theorem doneS {G : Fr} {H : Hp} {vs : List V} {ds : List PyData} {D : Ends} {d : PyData} {N : List Str} (n : Nat) (hs : L2.start N vs = vs.map some ++ List.replicate n none) (h : Rets K ts (ds.map .dat ++ List.replicate n .any) (· = d)) (iv : G.inv H) (a : DqAll K (G.view H) vs ds) (k : ∀ v H', G.inv H' → G.le H H' → Dq K (G.view H') v d → D.rt v H') : ts D (L2.start N vs) H :=
  h G _ H D (envStart n hs a) iv fun v e H' i l p dq => k v H' i l (p ▸ dq)
theorem tgs_nil : TgsOk K gNil [] Γ (· = []) (fun _ => Γ) := fun G σ H xs ds ev iv pd dq Q q => by
  subst pd
  cases dq
  exact ⟨rfl, q σ rfl (fun _ _ => rfl) ev⟩
theorem tgs_cons {us vs : List Nat} {d : PyData} {ds : List PyData} {N : PyData → List Sl} {N2 : List PyData → List Sl} (h : TgOk K g us Γ (· = d) N) (h2 : TgsOk K gs vs (N d) (· = ds) N2) : TgsOk K (gCons g gs) (us ++ vs) Γ (· = d :: ds) (fun _ => N2 ds) := fun G σ H xs es ev iv pd dq Q q => by
  subst pd
  cases dq with
  | cons h1 t1 =>
    refine ⟨_, _, rfl, h G σ H _ d ev iv rfl h1 _ fun σ2 a b c => h2 G σ2 H _ ds c iv rfl t1 _ fun σ3 a3 b3 c3 => q σ3 (a3.trans a) (fun i hi => ?_) c3⟩
    rw [b3 i fun z => hi (List.mem_append_right _ z), b i fun z => hi (List.mem_append_left _ z)]
theorem tg_tup {n : Nat} {vs : List Nat} {ds : List PyData} {N : List PyData → List Sl} (hn : ds.length = n) (h : TgsOk K gs vs Γ (· = ds) N) : TgOk K (gTup K n gs) vs Γ (· = .tuple ds) (fun _ => N ds) := fun G σ H x d ev iv pd dq Q q => by
  subst pd
  cases dq with
  | tup hs ha => exact ⟨_, _, rfl, Fr.upT hs, ha.length.trans hn, h G σ H _ ds ev iv rfl ha Q q⟩
theorem tg_name1 {j : Nat} {d : PyData} (hj : j < Γ.length) : TgOk K (gName j) [j] Γ (· = d) (fun _ => Γ.set j (.dat d)) := fun G σ H x e ev iv pd dq Q q => by
  subst pd
  exact tg_name (P := fun _ => True) hj G σ H x e ev iv trivial dq Q q
/-- zip of a tuple and a list of the same length -/
theorem e0_zipM {ds es : List PyData} (h : EvL' K ta Γ (· = [.tuple ds, .list es])) (hl : ds.length = es.length) : EvI0 K (iZipM K ta) Γ (· = ds.length) (fun i d => ∃ a b, ds[i]? = some a ∧ es[i]? = some b ∧ d = .tuple [a, b]) := fun G σ H ev iv R q =>
  h G σ H ev iv _ fun vs ss H1 iv1 l1 ⟨zs, e1, e2⟩ dqs => by
    subst e2; subst e1
    have dqs := args_dats dqs
    cases dqs with
    | cons h1 t1 =>
      cases t1 with
      | cons h2 t2 =>
        cases t2
        cases h1 with
        | tup hs ha =>
          cases h2 with
          | lst hs2 ha2 =>
            refine ⟨_, _, _, _, rfl, Fr.upT hs, Fr.upL hs2, q ds.length _ H1 rfl iv1 l1 fun G' H2 e iv2 => ⟨fun i hi => ?_, _, _, Fr.upT (exT e hs), Fr.upL (exL e hs2), ha.length, ha2.length.trans hl.symm⟩⟩
            obtain ⟨x, hx, dx⟩ := ha.get' (List.getElem?_eq_getElem hi)
            obtain ⟨y, hy, dy⟩ := ha2.get' (List.getElem?_eq_getElem (by omega : i < es.length))
            refine ⟨⟨_, _, x, y, Fr.upT (exT e hs), Fr.upL (exL e hs2), by rw [ha.length, ha2.length, hl], hx, hy⟩, fun v H3 ⟨T, x', y', e1, hT, e2, hx', hy'⟩ => ?_⟩
            subst e1; subst e2
            have := hx' _ (Fr.upT (exT e hs))
            rw [hx] at this
            cases this
            have := hy' _ (Fr.upL (exL e hs2))
            rw [hy] at this
            cases this
            obtain ⟨i3, l3, h3⟩ := Fr.new (o := HO.tup [x, y]) iv2 hT
            exact ⟨i3, l3, _, ⟨_, _, List.getElem?_eq_getElem hi, List.getElem?_eq_getElem (by omega), rfl⟩, .tup (.inl (.inl h3)) (.cons ((dx.ex e).ex l3) (.cons ((dy.ex e).ex l3) .nil))⟩
theorem ei_zipM {ds es : List PyData} (h : EvL' K ta Γ (· = [.tuple ds, .list es])) (hl : ds.length = es.length) : EvI K (iZipM K ta) Γ (· = ds.length) (fun i d => ∃ a b, ds[i]? = some a ∧ es[i]? = some b ∧ d = .tuple [a, b]) := (e0_zipM h hl).toI
/-- targets of two and three names -/
def NP (Γ : List Sl) (j k : Nat) : PyData → List Sl
  | .tuple [a, b] => (Γ.set j (.dat a)).set k (.dat b)
  | _ => Γ
def NT (Γ : List Sl) (j k l : Nat) : PyData → List Sl
  | .tuple [a, b, c] => ((Γ.set j (.dat a)).set k (.dat b)).set l (.dat c)
  | _ => Γ
theorem tg_pair {j k : Nat} (hj : j < Γ.length) (hk : k < Γ.length) {Pq : PyData → PyData → Prop} : TgOk K (gTup K 2 (gCons (gName j) (gCons (gName k) gNil))) [j, k] Γ (fun d => ∃ a b, d = .tuple [a, b] ∧ Pq a b) (NP Γ j k) := fun G σ H x d ev iv ⟨a, b, e, _⟩ dq Q q => by
  subst e
  exact tg_tup (ds := [a, b]) rfl (tgs_cons (tg_name1 hj) (tgs_cons (tg_name1 (by rw [List.length_set]; exact hk)) tgs_nil)) G σ H x _ ev iv rfl dq Q q
theorem tg_triple {j k l : Nat} (hj : j < Γ.length) (hk : k < Γ.length) (hl : l < Γ.length) {Pq : PyData → Prop} : TgOk K (gTup K 3 (gCons (gName j) (gCons (gName k) (gCons (gName l) gNil)))) [j, k, l] Γ (fun d => ∃ a b c, d = .tuple [a, b, c] ∧ Pq (.tuple [a, b, c])) (NT Γ j k l) := fun G σ H x d ev iv ⟨a, b, c, e, _⟩ dq Q q => by
  subst e
  exact tg_tup (ds := [a, b, c]) rfl (tgs_cons (tg_name1 hj) (tgs_cons (tg_name1 (by rw [List.length_set]; exact hk)) (tgs_cons (tg_name1 (by rw [List.length_set, List.length_set]; exact hl)) tgs_nil))) G σ H x _ ev iv rfl dq Q q
/-- all([f(x, y) for x, y in zip(t, l)]) -/
theorem ev_allZ {ds es : List PyData} {f : PyData → PyData → Bool} {j k : Nat} (hn : ds.length < 100000) (h : EvL' K ta Γ (· = [.tuple ds, .list es])) (hl : ds.length = es.length) (hj : j < (wipeΓ Γ [j, k]).length) (hk : k < (wipeΓ Γ [j, k]).length)
    (he : ∀ a b, b ∈ es → EvD K te (((wipeΓ Γ [j, k]).set j (.dat a)).set k (.dat b)) (· = .bool (f a b))) :
    EvD K (tCB (rAll K) (tCons (tLc (iZipM K ta) (gTup K 2 (gCons (gName j) (gCons (gName k) gNil))) tYes te [j, k]) tNil)) Γ (· = .bool ((ds.zip es).all fun q => f q.1 q.2)) := by
  have hh := ev_lc (te := te) (g := gTup K 2 (gCons (gName j) (gCons (gName k) gNil))) (vs := [j, k]) (R := fun _ d e => ∀ a b, d = .tuple [a, b] → e = .bool (f a b)) (fun n e => by rw [e]; exact hn) (ei_zipM h hl)
    (fun i G σ H y d ev iv ⟨a, b, h1, h2, h3⟩ => tg_pair (Pq := fun _ _ => True) hj hk G σ H y d ev iv ⟨a, b, h3, trivial⟩) (fun i d ⟨a, b, h1, h2, h3⟩ => by
      subst h3
      exact (he a b (List.mem_of_getElem? h2)).imp fun e he a' b' q => by
        injection q with q
        injection q with q1 q2
        injection q2 with q2
        rw [he, q1, q2])
  refine (ev_all (bs := (ds.zip es).map fun q => f q.1 q.2) (hh.imp ?_)).imp fun d e => ?_
  · rintro _ ⟨zs, rfl, hlz, hR⟩
    refine congrArg PyData.list (List.ext_getElem? fun i => ?_)
    rw [List.map_map, List.getElem?_map]
    by_cases hlt : i < zs.length
    · obtain ⟨d, ⟨a, b, h1, h2, h3⟩, h4⟩ := hR i _ (List.getElem?_eq_getElem hlt)
      rw [List.getElem?_eq_getElem hlt, h4 a b h3, show (ds.zip es)[i]? = some (a, b) from List.getElem?_zip_eq_some.mpr ⟨h1, h2⟩]
      rfl
    · rw [List.getElem?_eq_none (by omega), List.getElem?_eq_none (by rw [List.length_zip]; omega)]
      rfl
  · rw [e, List.all_map]
    rfl
theorem ev_tupE (ds : List PyData) (h : EvL' K ta Γ (· = ds)) (hn : ds.length ≤ 100000 := by exact Nat.le_of_ble_eq_true rfl) : EvD K (tTup ta) Γ (· = .tuple ds) :=
  (ev_tup h fun es e => by rw [e]; exact hn).imp fun d ⟨es, e1, e2⟩ => by rw [e1, e2]
theorem ev_lstE (ds : List PyData) (h : EvL' K ta Γ (· = ds)) (hn : ds.length ≤ 100000 := by exact Nat.le_of_ble_eq_true rfl) : EvD K (tLst ta) Γ (· = .list ds) :=
  (ev_lst h fun es e => by rw [e]; exact hn).imp fun d ⟨es, e1, e2⟩ => by rw [e1, e2]
end
end L2

set_option Elab.async false
set_option linter.all false
set_option maxRecDepth 100000
set_option maxHeartbeats 4000000
namespace L2
open PySem PySem.Spec PyProof.Rows
open Evl (Ex)
section
variable {K : PySem.W.Frag} {Γ Γ' : List Sl} {te tb tc tl td ty tv : TE} {ta : TA} {wi : TI} {g : TG} {gs : TGs} {ts tu ts2 : TS} {tt : TT} {P P' : PyData → Prop} {PL : List PyData → Prop}
/-! ### dicts that are kept aside -/
theorem ev_dinO {s : Str} {m : List (Str × PyData)} {i : Nat} (h : EvD K ty Γ (· = .str s)) (hi : Γ[i]? = some (.odic m)) : EvD K (tDIn ty (tVar i)) Γ (· = .bool (m.lookup s).isSome) := fun G σ H e iv Q q =>
  h G σ H e iv _ fun v d1 H1 i1 l1 p1 dq => by
    subst p1
    cases dq
    rcases (e.le l1).2 i _ hi with z | ⟨x, hx, a, kvs, ex, h1, h2⟩
    · cases z
    · subst ex
      have kg := kvq_get s h2
      refine ⟨_, hx, a, _, rfl, DGet.k (k := Sum.inr s) (h1 H1 i1), q _ _ H1 i1 l1 ?_ (.bl _)⟩
      cases e : m.lookup s with
      | none => rw [kg.1 e]; rfl
      | some d => obtain ⟨x, hx, _⟩ := kg.2 d e; rw [hx]; rfl
theorem ev_dgetF {s : Str} {m : List (Str × PyData)} {i : Nat} {d : PyData} (hi : Γ[i]? = some (.fdic m)) (h : EvD K ty Γ (· = .str s)) (hm : m.lookup s = some d) : EvD K (tDGet (tVar i) ty) Γ (· = d) := fun G σ H e iv Q q => by
  rcases e.2 i _ hi with z | ⟨x, hx, a, o, kvs, ex, h1, h2⟩
  · cases z
  · subst ex
    refine ⟨_, hx, h G σ H e iv _ fun v d1 H1 i1 l1 p1 dq => ?_⟩
    subst p1
    cases dq
    obtain ⟨x, hx, dx⟩ := (kvq_get s (h2.ex l1)).2 d hm
    refine ⟨a, x, rfl, .inl ⟨kvs, .inr s, .inr ⟨o, h1 H1 i1⟩, rfl, hx.symm⟩, q _ _ H1 i1 l1 rfl dx⟩
theorem DqKv.keys {H : Hp} : ∀ {kvs : List (Key × V)} {m : List (Str × PyData)}, DqKv K H kvs (m.map fun p => (.str p.1, p.2)) → kvs.length = m.length ∧ ∀ (i : Nat) (k : Key) (v : V), kvs[i]? = some (k, v) → ∃ p : Str × PyData, m[i]? = some p ∧ k = Sum.inr p.1
  | [], [], .nil => ⟨rfl, fun i k v h => by simp at h⟩
  | (k, v) :: kvs, (t, d) :: m, h => by
    generalize hd : (List.map (fun p : Str × PyData => (PyData.str p.1, p.2)) ((t, d) :: m)) = z at h
    cases h with
    | cons h1 h2 =>
      rw [List.map_cons] at hd
      injection hd with e1 e2
      injection e1 with e3 e4
      simp only at e3 e4
      subst e4
      subst e2
      have hk := kD_str e3.symm
      subst hk
      have ih := DqKv.keys h2
      refine ⟨congrArg (· + 1) ih.1, fun i k' v' h => ?_⟩
      cases i with
      | zero =>
        simp at h
        exact ⟨_, rfl, h.1.symm⟩
      | succ i => exact ih.2 i k' v' (by simpa using h)
theorem ei_keys {m : List (Str × PyData)} {i : Nat} (hi : Γ[i]? = some (.fdic m)) : EvI K (iKeys (tVar i)) Γ (· = m.length) (fun j d => ∃ p, m[j]? = some p ∧ d = .str p.1) := fun G σ H e iv R q => by
  rcases e.2 i _ hi with z | ⟨x, hx, a, o, kvs, ex, h1, h2⟩
  · cases z
  · subst ex
    have hk := DqKv.keys h2
    refine ⟨_, hx, a, o, rfl, .inl ⟨kvs, h1 H iv, q m.length _ H rfl iv .refl fun G' H2 hG e2 iv2 => ⟨fun j hj => ⟨⟨h1 H2 (hG H2 iv2), by rw [hk.1]; exact hj⟩, fun y H3 ⟨e3, k, v, hkv, ey⟩ => ?_⟩, h1 H2 (hG H2 iv2), by rw [hk.1] <;> exact Nat.le_refl _⟩⟩⟩
    obtain ⟨p, hp, rfl⟩ := hk.2 j k v hkv
    subst e3; subst ey
    exact ⟨iv2, .refl, _, ⟨p, hp, rfl⟩, .str _⟩
end
end L2

set_option Elab.async false
set_option linter.all false
set_option maxRecDepth 100000
set_option maxHeartbeats 4000000
namespace L2
open PySem PySem.Spec PyProof.Rows
open Evl (Ex)
/-- a block that ends by found[s] = v, found being kept aside as kvs at d -/
def Puts (K : PySem.W.Frag) (tb : TS) (Γ : List Sl) (j : Nat) (s : Str) (P : PyData → Prop) (Γ' : List Sl) : Prop := ∀ (G : Fr) (σ : L2.St) (H : Hp) (D : Ends) (d : Addr) (kvs : List (Key × V)), EnvOk K G H σ Γ → G.inv H → σ[j]? = some (some (.ref d)) → (∀ H', G.inv H' → H' d = some (.dK kvs)) → kvs.length < 1000 →
  (∀ σ' H' v e, G.inv H' → G.le H H' → EnvOk K G H' σ' Γ' → σ'[j]? = some (some (.ref d)) → P e → Dq K (G.view H') v e → D.nx σ' (upd H' d (.dK (putK kvs (.inr s) v)))) → tb D σ H
section
variable {K : PySem.W.Frag} {Γ Γ' : List Sl} {te tb tc tl td ty tv : TE} {ta : TA} {wi : TI} {g : TG} {gs : TGs} {ts tu ts2 : TS} {tt : TT} {P P' : PyData → Prop} {PL : List PyData → Prop} {j : Nat} {s : Str}
theorem pt_put (hv : EvD K tv Γ P) (hk : EvD K ty Γ (· = .str s)) : Puts K (sDPut (tVar j) ty tv) Γ j s P Γ := fun G σ H D d kvs ev iv hj hd hl k =>
  hv G σ H ev iv _ fun v e H1 i1 l1 p1 dq => ⟨_, hj, hk G σ H1 (ev.le l1) i1 _ fun v2 e2 H2 i2 l2 p2 dq2 => by
    subst p2
    cases dq2
    exact ⟨d, _, rfl, .inl ⟨kvs, .inr s, hd H2 i2, rfl, by rw [sizeLine_eq]; omega, rfl⟩, k σ H2 v e i2 (l1.trans l2) (ev.le (l1.trans l2)) hj p1 (dq.ex l2)⟩⟩
theorem pt_if (h : EvB K tt Γ (· = false)) (h2 : Puts K tu Γ j s P Γ') : Puts K (tSeq (tIfS tt ts tNext) tu) Γ j s P Γ' := fun G σ H D d kvs ev iv hj hd hl k =>
  h G σ H ev iv _ fun b H1 i1 l1 e => by
    subst e
    exact h2 G σ H1 _ d kvs (ev.le l1) i1 hj hd hl fun σ' H' v e i' l' => k σ' H' v e i' (l1.trans l')
theorem pt_set {i : Nat} {d' : PyData} (hi : i < Γ.length) (hij : i ≠ j) (h : EvD K te Γ (· = d')) (h2 : Puts K tu (Γ.set i (.dat d')) j s P Γ') : Puts K (tSeq (tAsg te (gName i)) tu) Γ j s P Γ' := fun G σ H D d kvs ev iv hj hd hl k =>
  h G σ H ev iv _ fun v e H1 i1 l1 p1 dq => by
    subst p1
    exact h2 G _ H1 _ d kvs ((ev.le l1).set hi dq) i1 (by rw [List.getElem?_set_ne hij]; exact hj) hd hl fun σ' H' v e i' l' => k σ' H' v e i' (l1.trans l')
theorem pt_asg {vs : List Nat} {d' : PyData} {N : PyData → List Sl} (hij : j ∉ vs) (h : EvD K te Γ (· = d')) (hg : TgOk K g vs Γ (· = d') N) (h2 : Puts K tu (N d') j s P Γ') : Puts K (tSeq (tAsg te g) tu) Γ j s P Γ' := fun G σ H D d kvs ev iv hj hd hl k =>
  h G σ H ev iv _ fun v e H1 i1 l1 p1 dq => hg G σ H1 v e (ev.le l1) i1 p1 dq _ fun σ2 _ hs ev2 => by
    subst p1
    exact h2 G σ2 H1 _ d kvs ev2 i1 (by rw [hs j hij]; exact hj) hd hl fun σ' H' v e i' l' => k σ' H' v e i' (l1.trans l')
/-- places that are no longer asked -/
theorem EnvOk.weak {G : Fr} {H : Hp} {σ : L2.St} (h : EnvOk K G H σ Γ) (hl : Γ.length = Γ'.length) (hw : ∀ (i : Nat) (s : Sl), Γ'[i]? = some s → s = .any ∨ Γ[i]? = some s) : EnvOk K G H σ Γ' := ⟨h.1.trans hl, fun i s hs => by
  rcases hw i s hs with e | e
  · exact .inl e
  · exact h.2 i s e⟩
theorem putK_fresh {kvs : List (Key × V)} {m : List (Str × PyData)} {H : Hp} {s : Str} {v : V} (h : DqKv K H kvs (m.map fun p => (.str p.1, p.2))) (hn : m.lookup s = none) : putK kvs (.inr s) v = kvs ++ [(.inr s, v)] := by
  have h0 := (kvq_get s h).1 hn
  unfold putK
  rw [if_neg]
  intro z
  unfold valV at h0
  rw [Option.map_eq_none_iff, List.find?_eq_none] at h0
  obtain ⟨x, hx, e⟩ := List.any_eq_true.mp z
  exact h0 x hx e
theorem DqKv.append {H : Hp} {kvs : List (Key × V)} {ks : List (PyData × PyData)} {k : Key} {v : V} {d : PyData} (h : DqKv K H kvs ks) (hv : Dq K H v d) : DqKv K H (kvs ++ [(k, v)]) (ks ++ [(kD k, d)]) := by
  induction kvs generalizing ks with
  | nil => cases h; exact .cons hv .nil
  | cons a kvs ih =>
    cases h with
    | cons h1 h2 => exact .cons h1 (ih h2)
/-- a loop that fills a dict: at the i-th turn the i-th pair of m, whose names are all different -/
theorem loop_put {Γl : List (Str × PyData) → List Sl} {vs : List Nat} {m : List (Str × PyData)} {Pi : Nat → PyData → Prop} {N : Nat → PyData → List Sl} {Ne : Nat → PyData → List Sl} (hm : m.length ≤ 100)
    (hj : ∀ m', (Γl m')[j]? = some (.odic m')) (hnew : ∀ i p, m[i]? = some p → (m.take i).lookup p.1 = none)
    (hjv : j ∉ vs) (hi : EvI0 K wi (Γl []) (· = m.length) Pi)
    (hg : ∀ i, TgOk K g vs (Γl (m.take i)) (Pi i) (N i))
    (hb : ∀ i e p, Pi i e → m[i]? = some p → Puts K tu (N i e) j p.1 (· = p.2) (Ne i e))
    (hw : ∀ (i : Nat) e m', Pi i e → (Γl m').length = (Ne i e).length ∧ ∀ (k : Nat) s, k ≠ j → (Γl m')[k]? = some s → s = .any ∨ (Ne i e)[k]? = some s)
    (hdat : ∀ m' (q : Nat) s, q ≠ j → (Γl m')[q]? = some s → s = .any ∨ ∃ z, s = .dat z)
    {G : Fr} {σ : L2.St} {H : Hp} {D : Ends} {d : Addr} (ev : EnvOk K (G.own d (.dK [])) H σ (Γl [])) (iv : (G.own d (.dK [])).inv H) (hd : σ[j]? = some (some (.ref d)))
    (k : ∀ σ' H' kvs, (G.own d (.dK kvs)).inv H' → Ex ((G.own d (.dK [])).view H) ((G.own d (.dK kvs)).view H') → EnvOk K (G.own d (.dK kvs)) H' σ' (Γl m) → σ'[j]? = some (some (.ref d)) → DqKv K ((G.own d (.dK kvs)).view H') kvs (m.map fun p => (.str p.1, p.2)) → D.nx σ' H') :
    tFor wi g tu D σ H := by
  refine hi (G.own d (.dK [])) σ H ev iv _ fun n J H1 hn iv1 l1 w => ?_
  subst hn
  let Iv : Nat → L2.St → Hp → Prop := fun i σ' H' => ∃ kvs : List (Key × V), (G.own d (.dK kvs)).inv H' ∧ Ex ((G.own d (.dK [])).view H1) ((G.own d (.dK kvs)).view H') ∧ EnvOk K (G.own d (.dK kvs)) H' σ' (Γl (m.take i)) ∧ σ'[j]? = some (some (.ref d)) ∧ DqKv K ((G.own d (.dK kvs)).view H') kvs ((m.take i).map fun p => (.str p.1, p.2))
  refine ⟨fun i c σ' H' => c = m.length - i ∧ i ≤ m.length ∧ Iv i σ' H', ⟨m.length, by simp, Nat.zero_le _, [], iv1, fun _ _ h => h, by rw [List.take_zero]; exact ev.le l1, hd, .nil⟩, ?_⟩
  rintro i c σ2 H2 ⟨rfl, hle, kvs, iv2, e2, ev2, hd2, dk2⟩
  have w2 := w (G.own d (.dK kvs)) H2 e2 iv2
  by_cases hlt : i < m.length
  · refine .inr ⟨(w2.1 i hlt).1, fun σ' H' => i + 1 ≤ m.length ∧ Iv (i + 1) σ' H', fun σ' H' h' => ⟨m.length - (i + 1), by omega, rfl, h'⟩, fun x H3 hy => ?_⟩
    obtain ⟨iv3, l3, e, pe, dq⟩ := (w2.1 i hlt).2 x H3 hy
    have hp := List.getElem?_eq_getElem hlt
    have hkl := DqKv.keys dk2
    refine hg i (G.own d (.dK kvs)) σ2 H3 x e (ev2.le l3) iv3 pe dq _ fun σ3 _ hs3 ev3 => ?_
    refine hb i e _ pe hp (G.own d (.dK kvs)) σ3 H3 _ d kvs ev3 iv3 (by rw [hs3 j hjv]; exact hd2) (fun H' i' => Fr.own_at i') (by rw [hkl.1, List.length_take]; omega) fun σ4 H4 v f iv4 l4 ev4 hj4 pf dq4 => ⟨hlt, putK kvs (.inr m[i].1) v, ?_⟩
    subst pf
    have st := Fr.own_set (o' := .dK (putK kvs (.inr m[i].1) v)) iv4
    have hpk : putK kvs (.inr m[i].1) v = kvs ++ [(.inr m[i].1, v)] := putK_fresh dk2 (hnew i _ hp)
    have dk4 : DqKv K ((G.own d (.dK kvs)).view H4) (putK kvs (.inr m[i].1) v) ((m.take (i + 1)).map fun p => (.str p.1, p.2)) := by
      rw [hpk, List.take_add_one, hp, List.map_append]
      exact ((dk2.ex l3).ex l4).append dq4
    have hv : (G.own d (.dK (putK kvs (.inr m[i].1) v))).view (upd H4 d (.dK (putK kvs (.inr m[i].1) v))) = (G.own d (.dK kvs)).view H4 := st.2
    refine ⟨st.1, fun c u h => ?_, ?_, hj4, by rw [hv]; exact dk4⟩
    · rw [hv]
      exact l4 c u (l3 c u (e2 c u h))
    · have hwi := hw i e (m.take (i + 1)) pe
      refine ⟨ev4.1.trans hwi.1.symm, fun q s hs => ?_⟩
      by_cases hq : q = j
      · subst hq
        rw [hj] at hs
        cases hs
        exact .inr ⟨_, hj4, d, putK kvs (.inr m[i].1) v, rfl, fun H' i' => Fr.own_at i', by rw [hv]; exact dk4⟩
      · rcases hwi.2 q s hq hs with e5 | e5
        · exact .inl e5
        · rcases ev4.2 q s e5 with e6 | ⟨x6, h6, s6⟩
          · exact .inl e6
          · rcases hdat _ q s hq hs with e7 | ⟨z, e7⟩
            · exact .inl e7
            · subst e7
              exact .inr ⟨x6, h6, Dq.ex (fun c u h => by rw [hv]; exact h) s6⟩
  · obtain rfl : i = m.length := by omega
    rw [List.take_length] at ev2 dk2
    exact .inl ⟨w2.2, k σ2 H2 kvs iv2 (fun c u h => e2 c u (l1 c u h)) ev2 hd2 dk2⟩
end
end L2

set_option Elab.async false
set_option linter.all false
set_option maxRecDepth 100000
set_option maxHeartbeats 4000000
namespace L2
open PySem PySem.Spec PyProof.Rows
open Evl (Ex)
section
variable {K : PySem.W.Frag} {Γ Γ' : List Sl} {te tb tc tl td ty tk tv : TE} {ta : TA} {wi : TI} {g : TG} {gs : TGs} {ts tu ts2 : TS} {tt : TT} {P P' : PyData → Prop} {PL : List PyData → Prop} {j : Nat} {s : Str}
theorem e0_enum {ds : List PyData} (h : EvL' K ta Γ (fun zs => zs = [.list ds] ∨ zs = [.tuple ds])) : EvI0 K (iEnumA K ta) Γ (· = ds.length) (fun i d => ∃ a, ds[i]? = some a ∧ d = .tuple [.int i, a]) := fun G σ H ev iv R q =>
  h G σ H ev iv _ fun vs ss H1 iv1 l1 ⟨zs, e1, e2⟩ dqs => by
    subst e1
    have dqs := args_dats dqs
    rcases e2 with e2 | e2 <;> subst e2
    · cases dqs with
      | cons h1 t1 =>
        cases t1
        cases h1 with
        | lst hs ha =>
          refine ⟨_, _, rfl, .inl ⟨Fr.upL hs, q ds.length _ H1 rfl iv1 l1 fun G' H2 e iv2 => ⟨fun i hi => ?_, _, Fr.upL (exL e hs), by rw [ha.length] <;> exact Nat.le_refl _⟩⟩⟩
          obtain ⟨x, hx, dx⟩ := ha.get' (List.getElem?_eq_getElem hi)
          refine ⟨⟨_, x, Fr.upL (exL e hs), hx⟩, fun v H3 ⟨T, x', e1, hT, e2, hx'⟩ => ?_⟩
          subst e1; subst e2
          have := hx' _ (Fr.upL (exL e hs))
          rw [hx] at this
          cases this
          obtain ⟨i3, l3, h3⟩ := Fr.new (o := HO.tup [.int (i : Nat), x]) iv2 hT
          exact ⟨i3, l3, _, ⟨_, List.getElem?_eq_getElem hi, rfl⟩, .tup (.inl (.inl h3)) (.cons (.int _) (.cons ((dx.ex e).ex l3) .nil))⟩
    · cases dqs with
      | cons h1 t1 =>
        cases t1
        cases h1 with
        | tup hs ha =>
          refine ⟨_, _, rfl, .inr ⟨Fr.upT hs, q ds.length _ H1 rfl iv1 l1 fun G' H2 e iv2 => ⟨fun i hi => ?_, _, Fr.upT (exT e hs), by rw [ha.length] <;> exact Nat.le_refl _⟩⟩⟩
          obtain ⟨x, hx, dx⟩ := ha.get' (List.getElem?_eq_getElem hi)
          refine ⟨⟨_, x, Fr.upT (exT e hs), hx⟩, fun v H3 ⟨T, x', e1, hT, e2, hx'⟩ => ?_⟩
          subst e1; subst e2
          have := hx' _ (Fr.upT (exT e hs))
          rw [hx] at this
          cases this
          obtain ⟨i3, l3, h3⟩ := Fr.new (o := HO.tup [.int (i : Nat), x]) iv2 hT
          exact ⟨i3, l3, _, ⟨_, List.getElem?_eq_getElem hi, rfl⟩, .tup (.inl (.inl h3)) (.cons (.int _) (.cons ((dx.ex e).ex l3) .nil))⟩
/-- {k: v for x in xs}, the names all different -/
theorem ev_dc {m : List (Str × PyData)} {vs : List Nat} {Pi : Nat → PyData → Prop} {N : PyData → List Sl} (hm : m.length ≤ 1000) (hnew : ∀ i p, m[i]? = some p → (m.take i).lookup p.1 = none) (hi : EvI0 K wi Γ (· = m.length) Pi) (hg : ∀ i, TgOk K g vs (wipeΓ Γ vs) (Pi i) N)
    (hk : ∀ i d p, Pi i d → m[i]? = some p → EvD K tk (N d) (· = .str p.1)) (hv : ∀ i d p, Pi i d → m[i]? = some p → EvD K tv (N d) (· = p.2)) :
    EvD K (tDc wi g tYes tk tv vs) Γ (· = dictD m) := fun G σ H ev iv Q q => by
  refine hi G σ H ev iv _ fun n J H1 hn iv1 l1 w D hD => ?_
  subst hn
  have ho := Fr.own_new (G := G) (o := HO.dK []) iv1 hD
  let Iv : Nat → Hp → Prop := fun i H => ∃ (kvs : List (Key × V)), (G.own D (.dK kvs)).inv H ∧ Ex (G.view H1) ((G.own D (.dK kvs)).view H) ∧ DqKv K ((G.own D (.dK kvs)).view H) kvs ((m.take i).map fun p => (.str p.1, p.2))
  refine ⟨fun i c H => c = m.length - i ∧ i ≤ m.length ∧ Iv i H, ⟨m.length, by simp, Nat.zero_le _, [], ho.1, by rw [ho.2]; exact fun _ _ h => h, .nil⟩, ?_⟩
  rintro i c H2 ⟨rfl, hle, kvs, iv2, e2, dk2⟩
  have w2 := w (G.own D (.dK kvs)) H2 e2 iv2
  by_cases hlt : i < m.length
  · refine .inr ⟨(w2.1 i hlt).1, fun H => i + 1 ≤ m.length ∧ Iv (i + 1) H, fun H' h' => ⟨m.length - (i + 1), by omega, rfl, h'⟩, fun x H3 hy => ?_⟩
    obtain ⟨iv3, l3, d, pd, dq⟩ := (w2.1 i hlt).2 x H3 hy
    have hp := List.getElem?_eq_getElem hlt
    have ev3 : EnvOk K (G.own D (.dK kvs)) H3 σ Γ := (ev.le l1).own fun c u h => l3 c u (e2 c u h)
    refine hg i (G.own D (.dK kvs)) (L2.wipe σ vs) H3 x d (ev3.wipe vs) iv3 pd dq _ fun σ2 hl2 hs2 ev4 => ⟨wipe_eq hl2 hs2, ?_⟩
    refine hk i d _ pd hp (G.own D (.dK kvs)) σ2 H3 ev4 iv3 _ fun y e H4 iv4 l4 r4 dq4 => hv i d _ pd hp (G.own D (.dK kvs)) σ2 H4 (ev4.le l4) iv4 _ fun z f H5 iv5 l5 r5 dq5 => ?_
    subst r4; subst r5
    cases dq4
    refine ⟨kvs, .inr m[i].1, rfl, Fr.own_at iv5, by rw [(DqKv.keys dk2).1, List.length_take, sizeLine_eq]; omega, hlt, putK kvs (.inr m[i].1) z, ?_⟩
    have st := Fr.own_set (o' := .dK (putK kvs (.inr m[i].1) z)) iv5
    have hvw : (G.own D (.dK (putK kvs (.inr m[i].1) z))).view (upd H5 D (.dK (putK kvs (.inr m[i].1) z))) = (G.own D (.dK kvs)).view H5 := st.2
    refine ⟨st.1, fun c u h => ?_, ?_⟩
    · rw [hvw]
      exact l5 c u (l4 c u (l3 c u (e2 c u h)))
    · rw [hvw, putK_fresh dk2 (hnew i _ hp), List.take_add_one, hp, List.map_append]
      exact (((dk2.ex l3).ex l4).ex l5).append dq5
  · obtain rfl : i = m.length := by omega
    rw [List.take_length] at dk2
    exact .inl ⟨w2.2, q (.ref D) _ H2 iv2.1 (l1.trans (Fr.own_le (Fr.blank hD) e2)) rfl (.dic iv2.2 (dk2.ex Fr.own_sub))⟩
/-- len(set(t)) == len(t), t a tuple of texts -/
theorem strs_of {H : Hp} : ∀ {vs : List V} {xs : List Str}, DqAll K H vs (xs.map .str) → vs = xs.map V.str
  | [], [], .nil => rfl
  | _ :: _, _ :: _, .cons h t => by
    cases h
    rw [strs_of t]
    rfl
theorem ev_setLen {xs : List Str} (hn : xs.length ≤ 1000) (h : EvD K te Γ (· = .tuple (xs.map .str))) (h2 : EvD K tb Γ (· = .int xs.length)) : EvD K (tOp rEq (tLenSetT K te) tb) Γ (· = .bool (decide xs.Nodup)) := fun G σ H e iv Q q =>
  h G σ H e iv _ fun v d1 H1 i1 l1 p1 dq => by
    subst p1
    cases dq with
    | tup hs ha =>
      have := strs_of ha
      subst this
      refine ⟨_, xs, rfl, Fr.upT hs, hn, fun c c1 c2 => h2 G σ H1 (e.le l1) i1 _ fun v2 d2 H2 i2 l2 p2 dq2 => ?_⟩
      subst p2
      cases dq2
      refine ⟨rfl, q _ _ H2 i2 (l1.trans l2) ?_ (.bl _)⟩
      refine congrArg PyData.bool (decide_eq_decide.mpr ?_)
      rw [← c2]
      constructor
      · intro z
        injection z with z
        exact Int.ofNat.inj z
      · intro z
        rw [z]
end
end L2

set_option Elab.async false
set_option linter.all false
set_option maxRecDepth 100000
set_option maxHeartbeats 4000000
namespace L2
open PySem PySem.Spec PyProof.Rows
open Evl (Ex)
section
variable {K : PySem.W.Frag} {Γ Γ' : List Sl} {te tb tc tl td ty tk tv : TE} {ta : TA} {wi : TI} {g : TG} {gs : TGs} {ts tu ts2 : TS} {tt : TT} {P P' : PyData → Prop} {PL : List PyData → Prop} {j : Nat} {s : Str}
/-- from one object aside to another one at the same place -/
theorem EnvOk.swap {G : Fr} {H H' : Hp} {σ : L2.St} {l : Addr} {o o' : HO} {s : Sl} {v : V} (h : EnvOk K (G.own l o) H σ Γ) (e : Ex ((G.own l o).view H) ((G.own l o').view H')) (hl : Γ.length = Γ'.length) (hd : ∀ (q : Nat) s, q ≠ j → Γ'[q]? = some s → s = .any ∨ ∃ z, s = .dat z ∧ Γ[q]? = some s)
    (hj : σ[j]? = some (some v)) (hs : Γ'[j]? = some s) (hv : SlOk K (G.own l o') H' v s) : EnvOk K (G.own l o') H' σ Γ' := ⟨h.1.trans hl, fun q t ht => by
  by_cases e2 : q = j
  · subst e2
    rw [hs] at ht
    cases ht
    exact .inr ⟨v, hj, hv⟩
  · rcases hd q t e2 ht with e3 | ⟨z, e3, e4⟩
    · exact .inl e3
    · rcases h.2 q t e4 with e5 | ⟨x, h5, s5⟩
      · exact .inl e5
      · subst e3
        exact .inr ⟨x, h5, Dq.ex e s5⟩⟩
/-- found = {}; a loop that fills it; a tuple made of it -/
theorem rs_build {vs : List Nat} {m : List (Str × PyData)} {Pi : Nat → PyData → Prop} {N : Nat → PyData → List Sl} {Ne : Nat → PyData → List Sl} {es : List PyData} (hm : m.length ≤ 100) (hjl : j < Γ.length)
    (hΓ : ∀ (q : Nat) s, q ≠ j → Γ[q]? = some s → s = .any ∨ ∃ z, s = .dat z) (hnew : ∀ i p, m[i]? = some p → (m.take i).lookup p.1 = none) (hjv : j ∉ vs)
    (hi : EvI0 K wi (Γ.set j (.odic [])) (· = m.length) Pi)
    (hg : ∀ i, TgOk K g vs (Γ.set j (.odic (m.take i))) (Pi i) (N i))
    (hb : ∀ i e p, Pi i e → m[i]? = some p → Puts K tu (N i e) j p.1 (· = p.2) (Ne i e))
    (hw : ∀ (i : Nat) e, Pi i e → Γ.length = (Ne i e).length ∧ ∀ (k : Nat) s, k ≠ j → Γ[k]? = some s → s = .any ∨ (Ne i e)[k]? = some s)
    (hc : EvD K tc (Γ.set j (.fdic m)) (· = .list es)) :
    Rets K (tSeq (tAsg tDNewK (gName j)) (tSeq (tFor wi g tu) (tRet (tThen (tLockE tc) (kTup K))))) Γ (· = .tuple es) := fun G σ H D ev iv k p hp => by
  have hgv : G.view H p = none := Fr.blank hp
  obtain ⟨iv1, vw1⟩ := Fr.own_new (G := G) (o := HO.dK []) iv hp
  have set_ne : ∀ {s : Sl} {q : Nat} {t : Sl}, q ≠ j → (Γ.set j s)[q]? = some t → Γ[q]? = some t := fun h e => by rwa [List.getElem?_set_ne (fun z => h z.symm)] at e
  have set_j : ∀ {s : Sl}, (Γ.set j s)[j]? = some s := List.getElem?_set_self hjl
  have hj1 : (σ.set j (some (.ref p)))[j]? = some (some (.ref p)) := List.getElem?_set_self (by rw [ev.1]; exact hjl)
  have ev1 : EnvOk K (G.own p (.dK [])) (upd H p (.dK [])) (σ.set j (some (.ref p))) (Γ.set j (.odic [])) :=
    (ev.own (l := p) (o := .dK []) (H' := upd H p (.dK [])) (by rw [vw1]; exact fun _ _ h => h)).set hjl ⟨p, [], rfl, fun H' i => Fr.own_at i, .nil⟩
  refine loop_put (Γl := fun m' => Γ.set j (.odic m')) hm (fun m' => set_j) hnew hjv hi hg hb (fun i e m' pe => ?_) (fun m' q s hq hs => hΓ q s hq (set_ne hq hs)) ev1 iv1 hj1 ?_
  · have h := hw i e pe
    exact ⟨by rw [List.length_set]; exact h.1, fun k s hk hs => h.2 k s hk (set_ne hk hs)⟩
  · intro σ' H' kvs iv2 e2 ev2 hj2 dk2
    refine ⟨p, .dK kvs, Fr.own_at iv2, trivial, fun od => ?_⟩
    have st := Fr.own_set (o' := .frz od (.dK kvs)) iv2
    have evf : EnvOk K (G.own p (.frz od (.dK kvs))) (upd H' p (.frz od (.dK kvs))) σ' (Γ.set j (.fdic m)) := by
      refine EnvOk.swap (j := j) (s := .fdic m) (v := .ref p) ev2 (by rw [st.2]; exact fun _ _ h => h) (by rw [List.length_set, List.length_set]) (fun q s hq hs => ?_) hj2 set_j ⟨p, od, kvs, rfl, fun H' i => Fr.own_at i, by rw [st.2]; exact dk2⟩
      rcases hΓ q s hq (set_ne hq hs) with e | ⟨z, e⟩
      · exact .inl e
      · exact .inr ⟨z, e, by rw [List.getElem?_set_ne (fun z => hq z.symm)]; exact set_ne hq hs⟩
    refine hc (G.own p (.frz od (.dK kvs))) σ' _ evf st.1 _ fun v d H3 iv3 l3 pd dq => ⟨Fr.own_at iv3, ?_⟩
    subst pd
    have st3 := Fr.own_set (o' := .dK kvs) iv3
    cases dq with
    | @lst aa xx _ hs ha =>
      have hs3 : SqL K ((G.own p (.dK kvs)).view (upd H3 p (.dK kvs))) aa xx := by rw [st3.2]; exact hs
      refine .inl ⟨aa, xx, rfl, Fr.upL hs3, fun q hq => ?_⟩
      obtain ⟨iv4, l4, h4⟩ := Fr.new (o := HO.tup xx) st3.1 hq
      have ha4 := ha.ex fun c u h => l4 c u (by rw [st3.2]; exact h)
      refine k _ _ _ iv4.1 (Fr.own_le (l := p) (o := .dK kvs) hgv fun c u h => l4 c u (by rw [st3.2]; exact l3 c u (by rw [st.2]; exact e2 c u (by rw [vw1]; exact h)))) rfl (.tup (.inl (.inl (Fr.own_sub _ _ h4))) (ha4.ex Fr.own_sub))
theorem ev_lcI {vs : List Nat} {Pi : Nat → PyData → Prop} {N : PyData → List Sl} {es : List PyData} (hn : es.length < 100000) (hi : EvI K wi Γ (· = es.length) Pi) (hg : ∀ i, TgOk K g vs (wipeΓ Γ vs) (Pi i) N) (he : ∀ i d e, Pi i d → es[i]? = some e → EvD K te (N d) (· = e)) :
    EvD K (tLc wi g tYes te vs) Γ (· = .list es) := by
  have hi' : EvI K wi Γ (· = es.length) (fun i d => i < es.length ∧ Pi i d) := fun G σ H ev iv R q => hi G σ H ev iv R fun n J H' hn i' l' w => q n J H' hn i' l' fun G' H2 hG e2 i2 => by
    subst hn
    have w2 := w G' H2 hG e2 i2
    refine ⟨fun i h => ⟨(w2.1 i h).1, fun x H3 hy => ?_⟩, w2.2⟩
    obtain ⟨a, b, d, pd, dq⟩ := (w2.1 i h).2 x H3 hy
    exact ⟨a, b, d, ⟨h, pd⟩, dq⟩
  refine (ev_lc (R := fun i d e => ∀ x, es[i]? = some x → e = x) (fun n e => by rw [e]; exact hn) hi' (fun i G σ H x d ev iv pd => hg i G σ H x d ev iv pd.2) fun i d pd => ?_).imp ?_
  · exact (he i d es[i] pd.2 (List.getElem?_eq_getElem pd.1)).imp fun e h y hy => by
      rw [List.getElem?_eq_getElem pd.1] at hy
      cases hy
      exact h
  · rintro _ ⟨zs, rfl, hl, hR⟩
    refine congrArg PyData.list (List.ext_getElem? fun i => ?_)
    by_cases hlt : i < zs.length
    · obtain ⟨d, _, h2⟩ := hR i _ (List.getElem?_eq_getElem hlt)
      have hx : es[i]? = some es[i] := List.getElem?_eq_getElem (by omega)
      rw [hx, List.getElem?_eq_getElem hlt, h2 _ hx]
    · rw [List.getElem?_eq_none (by omega), List.getElem?_eq_none (by omega)]
theorem EvL'.imp {PL PL' : List PyData → Prop} (h : EvL' K ta Γ PL) (hp : ∀ ds, PL ds → PL' ds) : EvL' K ta Γ PL' := fun G σ H e i Q q => h G σ H e i Q fun vs ss H' i' l' ⟨zs, e1, e2⟩ dqs => q vs ss H' i' l' ⟨zs, e1, hp zs e2⟩ dqs
theorem Puts.weak {Γ2 : List Sl} (h : Puts K tu Γ j s P Γ') (hl : Γ'.length = Γ2.length) (hw : ∀ (i : Nat) (t : Sl), Γ2[i]? = some t → t = .any ∨ Γ'[i]? = some t) : Puts K tu Γ j s P Γ2 := fun G σ H D d kvs ev iv hj hd hk k =>
  h G σ H D d kvs ev iv hj hd hk fun σ' H' v e i' l' ev' => k σ' H' v e i' l' (EnvOk.weak ev' hl hw)
end
end L2

set_option Elab.async false
set_option linter.all false
set_option maxRecDepth 100000
set_option maxHeartbeats 4000000
namespace L2
open PySem PySem.Spec PyProof.Rows
open Evl (Ex)
/-! ### data that is compared: whole numbers, texts, tuples, at most n deep -/
def okD : Nat → PyData → Bool
  | _, .int _ => true
  | _, .str s => PyData.strOk s
  | 0, _ => false
  | n + 1, .tuple xs => xs.all (okD n)
  | _, _ => false
theorem okD_lay : ∀ (n : Nat) (d : PyData), okD n d = true → d.canLay0 = true ∧ d.depth ≤ n
  | n, .int i, _ => ⟨by simp only [PyData.canLay0], by simp only [PyData.depth]; omega⟩
  | n, .str s, h => ⟨by simp only [PyData.canLay0]; cases n <;> exact h, by simp only [PyData.depth]; omega⟩
  | 0, .tuple xs, h => by cases h
  | 0, .list xs, h => by cases h
  | 0, .dict xs, h => by cases h
  | 0, .none, h => by cases h
  | 0, .bool b, h => by cases h
  | n + 1, .list xs, h => by cases h
  | n + 1, .dict xs, h => by cases h
  | n + 1, .none, h => by cases h
  | n + 1, .bool b, h => by cases h
  | n + 1, .tuple xs, h => by
    have h : xs.all (okD n) = true := h
    have key : ∀ ys : List PyData, ys.all (okD n) = true → PyData.canLayAll0 ys = true ∧ PyData.depthAll ys ≤ n := by
      intro ys
      induction ys with
      | nil => exact fun _ => ⟨by simp only [PyData.canLayAll0], by simp only [PyData.depthAll]; omega⟩
      | cons y ys ih =>
        intro hy
        rw [List.all_cons, Bool.and_eq_true] at hy
        have h1 := okD_lay n y hy.1
        have h2 := ih hy.2
        exact ⟨by simp only [PyData.canLayAll0]; rw [h1.1, h2.1]; rfl, by simp only [PyData.depthAll]; omega⟩
    have k := key xs h
    exact ⟨by simp only [PyData.canLay0]; exact k.1, by simp only [PyData.depth]; omega⟩
theorem okD_shaped {n : Nat} {d : PyData} (h : okD n d = true) (hn : n ≤ 64) : SeqAt.shaped d = true := by
  have k := okD_lay n d h
  show (d.canLay0 && decide (d.depth ≤ 64)) = true
  rw [k.1, decide_eq_true (Nat.le_trans k.2 hn)]
  rfl
theorem okD_eqv : ∀ (n : Nat) (d e : PyData), okD n d = true → okD n e = true → PyData.eqv d e = true → d = e
  | n, .int a, .int b, _, _, h => by simp only [PyData.eqv] at h; rw [beq_iff_eq.mp h]
  | n, .str a, .str b, _, _, h => by simp only [PyData.eqv] at h; rw [beq_iff_eq.mp h]
  | n, .int a, .str b, _, _, h => by simp only [PyData.eqv] at h; cases h
  | n, .int a, .tuple b, _, _, h => by simp only [PyData.eqv] at h; cases h
  | n, .str a, .int b, _, _, h => by simp only [PyData.eqv] at h; cases h
  | n, .str a, .tuple b, _, _, h => by simp only [PyData.eqv] at h; cases h
  | n, .tuple a, .int b, _, _, h => by simp only [PyData.eqv] at h; cases h
  | n, .tuple a, .str b, _, _, h => by simp only [PyData.eqv] at h; cases h
  | n + 1, .tuple xs, .tuple ys, hx, hy, h => by
    have hx : xs.all (okD n) = true := hx
    have hy : ys.all (okD n) = true := hy
    simp only [PyData.eqv] at h
    have key : ∀ xs ys : List PyData, xs.all (okD n) = true → ys.all (okD n) = true → PyData.eqvAll xs ys = true → xs = ys := by
      intro xs
      induction xs with
      | nil =>
        intro ys _ _ h
        cases ys with
        | nil => rfl
        | cons y ys => simp only [PyData.eqvAll] at h; cases h
      | cons x xs ih =>
        intro ys hx hy h
        cases ys with
        | nil => simp only [PyData.eqvAll] at h; cases h
        | cons y ys =>
          rw [List.all_cons, Bool.and_eq_true] at hx hy
          simp only [PyData.eqvAll, Bool.and_eq_true] at h
          rw [okD_eqv n x y hx.1 hy.1 h.1, ih ys hx.2 hy.2 h.2]
    rw [key xs ys hx hy h]
  | n, .none, _, h, _, _ => by cases n <;> cases h
  | n, .bool b, _, h, _, _ => by cases n <;> cases h
  | n, .list b, _, h, _, _ => by cases n <;> cases h
  | n, .dict b, _, h, _, _ => by cases n <;> cases h
  | n, _, .none, _, h, _ => by cases n <;> cases h
  | n, _, .bool b, _, h, _ => by cases n <;> cases h
  | n, _, .list b, _, h, _ => by cases n <;> cases h
  | n, _, .dict b, _, h, _ => by cases n <;> cases h
  | 0, .tuple a, _, h, _, _ => by cases h
/-- whether two such things are equal -/
theorem eqv_iff {n : Nat} {d e : PyData} (h1 : okD n d = true) (h2 : okD n e = true) : PyData.eqv d e = true ↔ d = e :=
  ⟨okD_eqv n d e h1 h2, fun z => by rw [← z]; exact SeqAt.eqv_refl d (okD_lay n d h1).1⟩
section
variable {K : PySem.W.Frag}
theorem dq_dp {H : Hp} (n : Nat) : ∀ {v : V} {d : PyData}, okD n d = true → Dq K H v d → Dp K H v d := by
  induction n with
  | zero =>
    intro v d h q
    cases q with
    | int i => exact .int i
    | str s => exact .str s
    | _ => cases h
  | succ n ih =>
    intro v d h q
    cases q with
    | int i => exact .int i
    | str s => exact .str s
    | @tup a xs ds hs ha =>
      have h : ds.all (okD n) = true := h
      have key : ∀ (xs : List V) (ds : List PyData), ds.all (okD n) = true → DqAll K H xs ds → DpAll K H xs ds := by
        intro xs
        induction xs with
        | nil => intro ds _ a; cases a; exact .nil
        | cons x xs ih2 =>
          intro ds hd a
          cases a with
          | cons h1 t1 =>
            rw [List.all_cons, Bool.and_eq_true] at hd
            exact .cons (ih hd.1 h1) (ih2 _ hd.2 t1)
      exact .tup hs (key xs ds h ha)
    | _ => cases h
variable {Γ : List Sl} {te tb : TE} {ta : TA}
/-- d == e -/
theorem ev_eqD {n : Nat} (hn : n ≤ 64) {d e : PyData} (h1 : okD n d = true) (h2 : okD n e = true) (ha : EvD K te Γ (· = d)) (hb : EvD K tb Γ (· = e)) : EvD K (tOp (rEqD K) te tb) Γ (· = .bool (PyData.eqv d e)) := fun G σ H ev iv Q q =>
  ha G σ H ev iv _ fun v d1 H1 i1 l1 p1 dq => hb G σ H1 (ev.le l1) i1 _ fun v2 d2 H2 i2 l2 p2 dq2 => by
    subst p1; subst p2
    exact ⟨d1, d2, dq_dp n h1 (Fr.up (dq.ex l2)), dq_dp n h2 (Fr.up dq2), okD_shaped h1 hn, okD_shaped h2 hn, q _ _ H2 i2 (l1.trans l2) rfl (.bl _)⟩
theorem ev_neD {n : Nat} (hn : n ≤ 64) {d e : PyData} (h1 : okD n d = true) (h2 : okD n e = true) (ha : EvD K te Γ (· = d)) (hb : EvD K tb Γ (· = e)) : EvD K (tOp (rNeD K) te tb) Γ (· = .bool (!PyData.eqv d e)) := fun G σ H ev iv Q q =>
  ha G σ H ev iv _ fun v d1 H1 i1 l1 p1 dq => hb G σ H1 (ev.le l1) i1 _ fun v2 d2 H2 i2 l2 p2 dq2 => by
    subst p1; subst p2
    exact ⟨d1, d2, dq_dp n h1 (Fr.up (dq.ex l2)), dq_dp n h2 (Fr.up dq2), okD_shaped h1 hn, okD_shaped h2 hn, q _ _ H2 i2 (l1.trans l2) rfl (.bl _)⟩
/-! ### objects of a class -/
theorem DqFs.lookup {H : Hp} {f : Str} {d : PyData} : ∀ {vs : List (Str × V)} {ds : List (Str × PyData)}, DqFs K H vs ds → ds.lookup f = some d → ∃ v, vs.lookup f = some v ∧ Dq K H v d
  | _, _, .nil, h => by cases h
  | (g, v) :: vs, (_, e) :: ds, .cons h1 t1, h => by
    rw [List.lookup_cons] at h ⊢
    by_cases z : (f == g) = true
    · rw [z] at h ⊢
      cases h
      exact ⟨v, rfl, h1⟩
    · have z : (f == g) = false := by simpa using z
      rw [z] at h ⊢
      exact t1.lookup h
theorem DqFs.append {H : Hp} {f : Str} {v : V} {d : PyData} : ∀ {vs : List (Str × V)} {ds : List (Str × PyData)}, DqFs K H vs ds → Dq K H v d → DqFs K H (vs ++ [(f, v)]) (ds ++ [(f, d)])
  | _, _, .nil, h => .cons h .nil
  | _, _, .cons h1 t1, h => .cons h1 (t1.append h)
/-- o.f of an object -/
theorem ev_fld {i : Nat} {C : Addr} {fs : List (Str × PyData)} {f : Str} {d : PyData} (hc : Cls K C) (hf : NoAttr K C f) (hi : Γ[i]? = some (.ins C fs)) (hd : fs.lookup f = some d) : EvD K (tFld K (tVar i) f) Γ (· = d) := fun G σ H ev iv Q q => by
  rcases ev.2 i _ hi with z | ⟨x, hx, a, dx, vs, ex, h1, h2⟩
  · cases z
  · subst ex
    obtain ⟨v, hv, dv⟩ := h2.lookup hd
    exact ⟨_, hx, a, C, dx, vs, v, rfl, G.sub h1, hc, hf, hv, q v d H iv .refl rfl dv⟩
/-- an argument that is any place -/
theorem es_slot {i : Nat} {s : Sl} {PS : List Sl → Prop} (hs : s ≠ .any) (h : Γ[i]? = some s) (t : EvS K ta Γ PS) : EvS K (tCons (tVar i) ta) Γ (fun ss => ∃ r, ss = s :: r ∧ PS r) := fun G σ H e i' Q q => by
  rcases e.2 i _ h with z | ⟨v, a, b⟩
  · exact absurd z hs
  · exact ⟨v, a, t G σ H e i' _ fun vs ss H2 i2 l2 p2 dqs => q (v :: vs) (s :: ss) H2 i2 l2 ⟨ss, rfl, p2⟩ (.cons (b.le l2) dqs)⟩
/-- an expression that is an object -/
def EvV (K : PySem.W.Frag) (te : TE) (Γ : List Sl) (s : Sl) : Prop := ∀ (G : Fr) (σ : L2.St) (H : Hp), EnvOk K G H σ Γ → G.inv H → ∀ Q : VK, (∀ v H', G.inv H' → G.le H H' → SlOk K G H' v s → Q v H') → te σ H Q
/-- what an __init__ promises: the object, of no attributes yet, kept aside -/
def spInit (K : PySem.W.Frag) (C : Addr) (pre : List PyData → Prop) (fields : List PyData → List (Str × PyData)) : Sp := fun vs H Q _ => ∃ (G : Fr) (x dx : Addr) (ws : List V) (ds : List PyData), vs = .ref x :: ws ∧ (G.own x (.ins C dx [])).inv H ∧ DqAll K ((G.own x (.ins C dx [])).view H) ws ds ∧ pre ds ∧
  ∀ H' us, (G.own x (.ins C dx us)).inv H' → Ex ((G.own x (.ins C dx [])).view H) ((G.own x (.ins C dx us)).view H') → DqFs K ((G.own x (.ins C dx us)).view H') us (fields ds) → Q .non H'
theorem ev_make {C : Addr} {pre : List PyData → Prop} {fields : List PyData → List (Str × PyData)} {E : XK} (ds : List PyData) (h : EvL' K ta Γ (· = ds)) (hp : pre ds) : EvV K (tMake C (spInit K C pre fields) [] E ta) Γ (.ins C (fields ds)) := fun G σ H ev iv Q q =>
  h G σ H ev iv _ fun vs ss H1 i1 l1 ⟨es, e1, e2⟩ dqs x dx hx hdx hne => by
    subst e2; subst e1
    have dqs := args_dats dqs
    obtain ⟨i2, l2, _⟩ := Fr.new (o := HO.own x) i1 hdx
    have hx2 : upd H1 dx (HO.own x) x = none := by rw [upd_ne (Ne.symm hne)]; exact hx
    obtain ⟨i3, v3⟩ := Fr.own_new (G := G) (o := HO.ins C dx []) i2 hx2
    rw [List.append_nil]
    refine ⟨G, x, dx, vs, es, rfl, i3, by rw [v3]; exact dqs.ex l2, hp, fun H' us i' e' f' => ⟨rfl, q (.ref x) H' i'.1 ?_ ⟨x, dx, us, rfl, i'.2, f'.ex Fr.own_sub⟩⟩⟩
    refine (l1.trans l2).trans fun c u hc => (hide_some (e' c u ?_)).2
    rw [v3]
    exact hc
end
end L2

set_option Elab.async false
set_option linter.all false
set_option maxRecDepth 100000
set_option maxHeartbeats 4000000
namespace L2
open PySem PySem.Spec PyProof.Rows
open Evl (Ex)
/-- a block of an __init__: the attributes ahead of it and behind it -/
def Inits (K : PySem.W.Frag) (C : Addr) (ts : TS) (Γ : List Sl) (j : Nat) (f0 f1 : List (Str × PyData)) : Prop := ∀ (G : Fr) (σ : L2.St) (H : Hp) (D : Ends) (x dx : Addr) (vs : List (Str × V)), EnvOk K (G.own x (.ins C dx vs)) H σ Γ → (G.own x (.ins C dx vs)).inv H → σ[j]? = some (some (.ref x)) → DqFs K ((G.own x (.ins C dx vs)).view H) vs f0 →
  (∀ σ' H' us, (G.own x (.ins C dx us)).inv H' → Ex ((G.own x (.ins C dx vs)).view H) ((G.own x (.ins C dx us)).view H') → DqFs K ((G.own x (.ins C dx us)).view H') us f1 → D.nx σ' H') → ts D σ H
section
variable {K : PySem.W.Frag} {C : Addr} {Γ : List Sl} {te tb : TE} {ta : TA} {P P1 P2 : PyData → Prop} {tu ts : TS} {tt : TT} {j : Nat} {f0 f1 : List (Str × PyData)}
theorem in_if (h : EvB K tt Γ (· = false)) (h2 : Inits K C tu Γ j f0 f1) : Inits K C (tSeq (tIfS tt ts tNext) tu) Γ j f0 f1 := fun G σ H D x dx vs ev iv hj hf k =>
  h _ σ H ev iv _ fun b H1 i1 l1 e => by
    subst e
    exact h2 G σ H1 _ x dx vs (ev.le l1) i1 hj (hf.ex l1) fun σ' H' us i' e' => k σ' H' us i' fun c u h => e' c u (l1 c u h)
theorem in_set {i : Nat} {d : PyData} (hi : i < Γ.length) (hij : i ≠ j) (h : EvD K te Γ (· = d)) (h2 : Inits K C tu (Γ.set i (.dat d)) j f0 f1) : Inits K C (tSeq (tAsg te (gName i)) tu) Γ j f0 f1 := fun G σ H D x dx vs ev iv hj hf k =>
  h _ σ H ev iv _ fun v e H1 i1 l1 p1 dq => by
    subst p1
    exact h2 G _ H1 _ x dx vs ((ev.le l1).set hi dq) i1 (by rw [List.getElem?_set_ne hij]; exact hj) (hf.ex l1) fun σ' H' us i' e' => k σ' H' us i' fun c u h => e' c u (l1 c u h)
theorem putF_new {f : Str} {v : V} : ∀ {vs : List (Str × V)}, vs.lookup f = none → putF f v vs = vs ++ [(f, v)]
  | [], _ => rfl
  | (g, u) :: vs, h => by
    rw [List.lookup_cons] at h
    have hg : (f == g) = false := by
      cases z : (f == g) with
      | false => rfl
      | true => rw [z] at h; cases h
    rw [hg] at h
    have hne : ¬ g = f := fun z => by rw [z, beq_self_eq_true] at hg; cases hg
    unfold putF
    first
      | rw [if_neg hne, putF_new h]; rfl
      | (rw [if_neg (by simpa using hne), putF_new h]; rfl)
      | (simp only [hne, if_false]; rw [putF_new h]; rfl)
theorem DqFs.none {H : Hp} {f : Str} : ∀ {vs : List (Str × V)} {ds : List (Str × PyData)}, DqFs K H vs ds → ds.lookup f = Option.none → vs.lookup f = Option.none ∧ vs.length = ds.length
  | _, _, .nil, _ => ⟨rfl, rfl⟩
  | (g, v) :: vs, (_, e) :: ds, .cons h1 t1, h => by
    rw [List.lookup_cons] at h ⊢
    cases z : (f == g) with
    | true => rw [z] at h; cases h
    | false =>
      rw [z] at h
      have := t1.none h
      exact ⟨this.1, congrArg (· + 1) this.2⟩
theorem fld_step {i : Nat} {f : Str} {d : PyData} (hc : Cls K C) (hn : NoAttr K C f) (hi : Γ[i]? = some (.dat d)) (hnew : f0.lookup f = none) (hlen : f0.length < 100) (hΓ : ∀ (q : Nat) s, q ≠ j → Γ[q]? = some s → s = .any ∨ ∃ z, s = .dat z) (hjΓ : Γ[j]? = some .any)
    {G : Fr} {σ : L2.St} {H : Hp} {D : Ends} {x dx : Addr} {vs : List (Str × V)} (ev : EnvOk K (G.own x (.ins C dx vs)) H σ Γ) (iv : (G.own x (.ins C dx vs)).inv H) (hj : σ[j]? = some (some (.ref x))) (hf : DqFs K ((G.own x (.ins C dx vs)).view H) vs f0)
    (k : ∀ us, EnvOk K (G.own x (.ins C dx us)) (upd H x (.ins C dx us)) σ Γ → (G.own x (.ins C dx us)).inv (upd H x (.ins C dx us)) → (G.own x (.ins C dx us)).view (upd H x (.ins C dx us)) = (G.own x (.ins C dx vs)).view H → DqFs K ((G.own x (.ins C dx us)).view (upd H x (.ins C dx us))) us (f0 ++ [(f, d)]) → D.nx σ (upd H x (.ins C dx us))) :
    sFld K (tVar j) (tVar i) f D σ H := by
  rcases ev.2 i _ hi with z | ⟨v, hv, dv⟩
  · cases z
  have hn2 := hf.none hnew
  refine ⟨v, hv, _, hj, x, C, dx, vs, rfl, Fr.own_at iv, hc, hn, by omega, ?_⟩
  rw [putF_new hn2.1]
  have st := Fr.own_set (o' := .ins C dx (vs ++ [(f, v)])) iv
  refine k _ (EnvOk.swap (j := j) (s := .any) (v := .ref x) ev (by rw [st.2]; exact fun _ _ h => h) rfl (fun q s hq hs => ?_) hj hjΓ trivial) st.1 st.2 (by rw [st.2]; exact hf.append dv)
  rcases hΓ q s hq hs with e | ⟨z, e⟩
  · exact .inl e
  · exact .inr ⟨z, e, hs⟩
theorem in_fld {i : Nat} {f : Str} {d : PyData} (hc : Cls K C) (hn : NoAttr K C f) (hi : Γ[i]? = some (.dat d)) (hnew : f0.lookup f = none) (hlen : f0.length < 100) (hΓ : ∀ (q : Nat) s, q ≠ j → Γ[q]? = some s → s = .any ∨ ∃ z, s = .dat z) (hjΓ : Γ[j]? = some .any)
    (h2 : Inits K C tu Γ j (f0 ++ [(f, d)]) f1) : Inits K C (tSeq (sFld K (tVar j) (tVar i) f) tu) Γ j f0 f1 := fun G σ H D x dx vs ev iv hj hf k =>
  fld_step hc hn hi hnew hlen hΓ hjΓ ev iv hj hf fun us ev' iv' vw' hf' => h2 G σ _ _ x dx us ev' iv' hj hf' fun σ' H' us' i' e' => k σ' H' us' i' fun c u h => e' c u (by rw [vw']; exact h)
theorem in_last {i : Nat} {f : Str} {d : PyData} (hc : Cls K C) (hn : NoAttr K C f) (hi : Γ[i]? = some (.dat d)) (hnew : f0.lookup f = none) (hlen : f0.length < 100) (hΓ : ∀ (q : Nat) s, q ≠ j → Γ[q]? = some s → s = .any ∨ ∃ z, s = .dat z) (hjΓ : Γ[j]? = some .any) :
    Inits K C (sFld K (tVar j) (tVar i) f) Γ j f0 (f0 ++ [(f, d)]) := fun G σ H D x dx vs ev iv hj hf k =>
  fld_step hc hn hi hnew hlen hΓ hjΓ ev iv hj hf fun us ev' iv' vw' hf' => k σ _ us iv' (by rw [vw']; exact fun _ _ h => h) hf'
/-- l[i] at some place -/
theorem ev_ixLW {ds : List PyData} (h : EvD K te Γ (· = .list ds)) (h2 : EvD K tb Γ (fun d => ∃ n : Nat, d = .int n ∧ n < ds.length)) : EvD K (tOp (rIxL K) te tb) Γ (· ∈ ds) := fun G σ H e i Q q =>
  h G σ H e i _ fun v d1 H1 i1 l1 p1 dq => h2 G σ H1 (e.le l1) i1 _ fun v2 d2 H2 i2 l2 ⟨n, p2, p3⟩ dq2 => by
    subst p1; subst p2
    cases dq2
    cases dq with
    | lst hs ha =>
      obtain ⟨x, hx, dx⟩ := ha.get' (List.getElem?_eq_getElem p3)
      exact ⟨_, _, _, x, rfl, rfl, Fr.upL (exL l2 hs), atI_nat hx, q _ _ H2 i2 (l1.trans l2) (List.getElem_mem p3) (dx.ex l2)⟩
/-- int(n) -/
theorem ev_int1 (h : EvD K te Γ (fun d => ∃ n, d = .int n ∧ P (.int n))) : EvD K (tCB (fun xs H Q => (∃ i, xs = [V.int i] ∧ Q (V.int i) H) ∨ ∃ k, xs = [V.bl k] ∧ Q (V.int (if k = true then 1 else 0)) H) (tCons te tNil)) Γ (fun d => ∃ n, d = .int n ∧ P (.int n)) := fun G σ H e i Q q =>
  h G σ H e i _ fun v d1 H1 i1 l1 ⟨n, p1, p2⟩ dq => by
    subst p1
    cases dq
    exact .inl ⟨n, rfl, q _ _ H1 i1 l1 ⟨n, rfl, p2⟩ (.int _)⟩
theorem ev_intB {b : Bool} (h : EvD K te Γ (· = .bool b)) : EvD K (tCB (fun xs H Q => (∃ i, xs = [V.int i] ∧ Q (V.int i) H) ∨ ∃ k, xs = [V.bl k] ∧ Q (V.int (if k = true then 1 else 0)) H) (tCons te tNil)) Γ (· = .int (if b = true then 1 else 0)) := fun G σ H e i Q q =>
  h G σ H e i _ fun v d1 H1 i1 l1 p1 dq => by
    subst p1
    cases dq
    exact .inr ⟨b, rfl, q _ _ H1 i1 l1 rfl (.int _)⟩
theorem el_consP {PL : List PyData → Prop} (h : EvD K te Γ P) (t : EvL' K ta Γ PL) : EvL' K (tCons te ta) Γ (fun ds => ∃ d r, ds = d :: r ∧ P d ∧ PL r) := el_cons h t
end
end L2

set_option Elab.async false
set_option linter.all false
set_option maxRecDepth 100000
set_option maxHeartbeats 4000000
/-! Lists that are filled by append, kept aside. -/
namespace L2
open PySem PySem.Spec PyProof.Rows
open Evl (Ex)
theorem IsW.ne {G : Fr} {a l : Addr} {q : Int} {o : HO} {H : Hp} (w : IsW (G.own l o) a q) (iv : (G.own l o).inv H) : a ≠ l := fun e => by
  obtain ⟨p, r, h⟩ := w.at_ iv
  have h1 := Fr.own_at (w.put (p := 0) (r := r) iv).1
  have h2 := Fr.own_at (w.put (p := 1) (r := r) iv).1
  rw [← e, upd_same] at h1 h2
  have h3 := h1.trans h2.symm
  injection h3 with h3
  injection h3 with h3
  injection h3 with h3
  injection h3 with h3
  exact absurd h3 (by decide)
/-- the well, another object aside -/
theorem IsW.swap {G : Fr} {a l : Addr} {q : Int} {o o' : HO} (w : IsW (G.own l o) a q) : IsW (G.own l o') a q := by
  have X : ∀ {H : Hp}, (G.own l o').inv H → (G.own l o).inv (upd H l o) ∧ (G.own l o).view (upd H l o) = (G.own l o').view H := fun iv => Fr.own_set (o := o') (o' := o) iv
  have ne : ∀ {H : Hp}, (G.own l o').inv H → a ≠ l := fun iv => w.ne (X iv).1
  refine ⟨fun {H} iv => ?_, w.hid, fun {H p r} iv => ?_⟩
  · obtain ⟨p, r, h⟩ := w.at_ (X iv).1
    rw [upd_ne (ne iv)] at h
    exact ⟨p, r, h⟩
  · have st := w.put (p := p) (r := r) (X iv).1
    have st2 := Fr.own_set (o' := o') st.1
    have e : upd (upd (upd H l o) a (.lst [.int p, .int q, .int r])) l o' = upd H a (.lst [.int p, .int q, .int r]) := by
      funext c
      by_cases h1 : c = l
      · subst h1
        rw [upd_same, upd_ne (Ne.symm (ne iv)), Fr.own_at iv]
      · rw [upd_ne h1]
        by_cases h2 : c = a
        · subst h2; rw [upd_same, upd_same]
        · rw [upd_ne h2, upd_ne h1, upd_ne h2]
    rw [e] at st2
    exact ⟨st2.1, st2.2.trans (st.2.trans (X iv).2)⟩
/-- what may stand in another place while a list is filled -/
def okS : Sl → Bool
  | .any => true
  | .dat _ => true
  | .well => true
  | .ins _ _ => true
  | .sem _ => true
  | _ => false
section
variable {K : PySem.W.Frag} {Γ Γ' Γ2 : List Sl} {te tb : TE} {ta : TA} {P P1 P2 : PyData → Prop} {tu ts : TS} {tt : TT} {wi : TI} {g : TG} {j : Nat} {ds : List PyData}
theorem SlOk.swap {G : Fr} {H H' : Hp} {l : Addr} {o o' : HO} {s : Sl} {v : V} (hs : okS s = true) (h : SlOk K (G.own l o) H v s) (e : Ex ((G.own l o).view H) ((G.own l o').view H')) : SlOk K (G.own l o') H' v s := by
  cases s with
  | any => trivial
  | dat d => exact Dq.ex e h
  | well => obtain ⟨a, q, e1, w⟩ := h; exact ⟨a, q, e1, w.swap⟩
  | ins C fs => obtain ⟨a, dx, vs, e1, e2, e3⟩ := h; exact ⟨a, dx, vs, e1, e _ _ e2, e3.ex e⟩
  | sem p => exact fun H2 e2 => h H2 fun b o hb => e2 b o (e b o hb)
  | _ => cases hs
theorem EnvOk.swapS {G : Fr} {H H' : Hp} {σ : L2.St} {l : Addr} {o o' : HO} {s : Sl} {v : V} (h : EnvOk K (G.own l o) H σ Γ) (e : Ex ((G.own l o).view H) ((G.own l o').view H')) (hl : Γ.length = Γ'.length) (hd : ∀ (q : Nat) s, q ≠ j → Γ'[q]? = some s → s = .any ∨ (okS s = true ∧ Γ[q]? = some s))
    (hj : σ[j]? = some (some v)) (hs : Γ'[j]? = some s) (hv : SlOk K (G.own l o') H' v s) : EnvOk K (G.own l o') H' σ Γ' := ⟨h.1.trans hl, fun q t ht => by
  by_cases e2 : q = j
  · subst e2
    rw [hs] at ht
    cases ht
    exact .inr ⟨v, hj, hv⟩
  · rcases hd q t e2 ht with e3 | ⟨e3, e4⟩
    · exact .inl e3
    · rcases h.2 q t e4 with e5 | ⟨x, h5, s5⟩
      · exact .inl e5
      · exact .inr ⟨x, h5, s5.swap e3 e⟩⟩
/-- all places but j may be kept -/
def Keep (Γ : List Sl) (j : Nat) : Prop := ∀ (q : Nat) s, q ≠ j → Γ[q]? = some s → okS s = true
/-- a block that may append to the list of place j -/
def Apps (K : PySem.W.Frag) (ts : TS) (Γ : List Sl) (j : Nat) (ds : List PyData) (N : List PyData → List Sl → Prop) : Prop := ∀ (G : Fr) (σ : L2.St) (H : Hp) (D : Ends) (l : Addr) (vs : List V), EnvOk K (G.own l (.lst vs)) H σ Γ → (G.own l (.lst vs)).inv H → σ[j]? = some (some (.ref l)) → DqAll K ((G.own l (.lst vs)).view H) vs ds →
  (∀ σ' H' us es Γ', (G.own l (.lst us)).inv H' → Ex ((G.own l (.lst vs)).view H) ((G.own l (.lst us)).view H') → EnvOk K (G.own l (.lst us)) H' σ' Γ' → σ'[j]? = some (some (.ref l)) → DqAll K ((G.own l (.lst us)).view H') us es → N es Γ' → D.nx σ' H') → ts D σ H
/-- a block that returns, the list of place j being kept aside -/
def RetL (K : PySem.W.Frag) (ts : TS) (Γ : List Sl) (j : Nat) (ds : List PyData) (P : PyData → Prop) : Prop := ∀ (G : Fr) (σ : L2.St) (H : Hp) (D : Ends) (l : Addr) (vs : List V), EnvOk K (G.own l (.lst vs)) H σ Γ → (G.own l (.lst vs)).inv H → σ[j]? = some (some (.ref l)) → DqAll K ((G.own l (.lst vs)).view H) vs ds →
  (∀ v d H', G.inv H' → Ex ((G.own l (.lst vs)).view H) (G.view H') → P d → Dq K (G.view H') v d → D.rt v H') → ts D σ H
variable {N : List PyData → List Sl → Prop}
theorem ap_set {i : Nat} (hi : i < Γ.length) (hij : i ≠ j) (h : EvD K te Γ P) (h2 : ∀ d, P d → Apps K tu (Γ.set i (.dat d)) j ds N) : Apps K (tSeq (tAsg te (gName i)) tu) Γ j ds N := fun G σ H D l vs ev iv hj hd k =>
  h _ σ H ev iv _ fun v d H1 i1 l1 p1 dq => h2 d p1 G _ H1 _ l vs ((ev.le l1).set hi dq) i1 (by rw [List.getElem?_set_ne hij]; exact hj) (hd.ex l1) fun σ' H' us es Γ' i' e' => k σ' H' us es Γ' i' fun c u h => e' c u (l1 c u h)
theorem ap_seq {N2 : List PyData → List Sl → Prop} (h : Apps K ts Γ j ds N2) (h2 : ∀ es Γ', N2 es Γ' → Apps K tu Γ' j es N) : Apps K (tSeq ts tu) Γ j ds N := fun G σ H D l vs ev iv hj hd k =>
  h G σ H _ l vs ev iv hj hd fun σ' H' us es Γ' i' e' ev' hj' hd' n' => h2 es Γ' n' G σ' H' _ l us ev' i' hj' hd' fun σ2 H2 us2 es2 Γ2 i2 e2 => k σ2 H2 us2 es2 Γ2 i2 fun c u h => e2 c u (e' c u h)
theorem ap_if {b : Bool} (h : EvB K tt Γ (· = b)) (h1 : b = true → Apps K ts Γ j ds N) (h2 : b = false → Apps K tu Γ j ds N) : Apps K (tIfS tt ts tu) Γ j ds N := fun G σ H D l vs ev iv hj hd k =>
  h _ σ H ev iv _ fun c H1 i1 l1 e => by
    subst e
    have go : ∀ {t : TS}, Apps K t Γ j ds N → t D σ H1 := fun h => h G σ H1 D l vs (ev.le l1) i1 hj (hd.ex l1) fun σ' H' us es Γ' i' e' => k σ' H' us es Γ' i' fun c u h => e' c u (l1 c u h)
    cases c with
    | true => exact go (h1 rfl)
    | false => exact go (h2 rfl)
theorem ap_next (hn : N ds Γ) : Apps K tNext Γ j ds N := fun G σ H D l vs ev iv hj hd k => k σ H vs ds Γ iv (fun _ _ h => h) ev hj hd hn
/-- found.append(e) -/
theorem ap_app (hk : Keep Γ j) (hjl : j < Γ.length) (hlen : ds.length < 1000) (h : EvD K te Γ P) (hn : ∀ e, P e → N (ds ++ [e]) (Γ.set j (.olst (ds ++ [e])))) : Apps K (tDrop (tBM K "list" rAppend (tVar j) (tCons te tNil))) Γ j ds N := fun G σ H D l vs ev iv hj hd k =>
  ⟨_, hj, .inl ⟨rfl, _, SqL.of (Fr.own_at iv)⟩, h _ σ H ev iv _ fun v e H1 i1 l1 p1 dq => by
    have hlv : vs.length < 1000 := by rw [hd.length]; exact hlen
    refine ⟨l, vs, v, rfl, rfl, Fr.own_at i1, by rw [sizeLine_eq]; omega, ?_⟩
    have st := Fr.own_set (o' := .lst (vs ++ [v])) i1
    have da : DqAll K ((G.own l (.lst (vs ++ [v]))).view (upd H1 l (.lst (vs ++ [v])))) (vs ++ [v]) (ds ++ [e]) := by
      rw [st.2]
      exact (hd.ex l1).append (.cons dq .nil)
    refine k σ _ (vs ++ [v]) (ds ++ [e]) _ st.1 (by rw [st.2]; exact l1) (EnvOk.swapS (j := j) (s := .olst (ds ++ [e])) (v := .ref l) (ev.le l1) (by rw [st.2]; exact fun _ _ h => h) (by rw [List.length_set]) (fun q s hq hs => ?_) hj (List.getElem?_set_self hjl) ⟨l, vs ++ [v], rfl, fun H' i => Fr.own_at i, da⟩) hj da (hn e p1)
    rw [List.getElem?_set_ne (fun z => hq z.symm)] at hs
    exact .inr ⟨hk q s hq hs, hs⟩⟩
theorem Apps.imp {N2 : List PyData → List Sl → Prop} (h : Apps K ts Γ j ds N) (hn : ∀ es Γ', N es Γ' → N2 es Γ') : Apps K ts Γ j ds N2 := fun G σ H D l vs ev iv hj hd k => h G σ H D l vs ev iv hj hd fun σ' H' us es Γ' i' e' ev' hj' hd' n' => k σ' H' us es Γ' i' e' ev' hj' hd' (hn es Γ' n')
/-- a loop of such turns: I i holds of the list ahead of the i-th turn -/
theorem ap_for {Γl : List PyData → List Sl} {vs : List Nat} {Nn : Nat → Prop} {Pi : Nat → PyData → Prop} {Nt : Nat → List PyData → PyData → List Sl} {I : Nat → List PyData → Prop} (hjv : j ∉ vs) (hjs : ∀ es, (Γl es)[j]? = some (.olst es)) (hkeep : ∀ es, Keep (Γl es) j)
    (hi : EvI0 K wi (Γl ds) Nn Pi) (h0 : I 0 ds) (hg : ∀ i es, I i es → TgOk K g vs (Γl es) (Pi i) (Nt i es))
    (hb : ∀ n i es d, Nn n → i < n → I i es → Pi i d → Apps K tu (Nt i es d) j es fun es' Γ' => I (i + 1) es' ∧ (Γl es').length = Γ'.length ∧ ∀ (q : Nat) s, q ≠ j → (Γl es')[q]? = some s → s = .any ∨ Γ'[q]? = some s)
    (hn : ∀ n es, Nn n → I n es → N es (Γl es)) : Apps K (tFor wi g tu) (Γl ds) j ds N := fun G σ H D l vs0 ev iv hj hd k => by
  refine hi (G.own l (.lst vs0)) σ H ev iv _ fun n J H1 hnn iv1 l1 w => ?_
  let Iv : Nat → L2.St → Hp → Prop := fun i σ' H' => ∃ us es, (G.own l (.lst us)).inv H' ∧ Ex ((G.own l (.lst vs0)).view H1) ((G.own l (.lst us)).view H') ∧ EnvOk K (G.own l (.lst us)) H' σ' (Γl es) ∧ σ'[j]? = some (some (.ref l)) ∧ DqAll K ((G.own l (.lst us)).view H') us es ∧ I i es
  refine ⟨fun i c σ' H' => c = n - i ∧ i ≤ n ∧ Iv i σ' H', ⟨n, by simp, Nat.zero_le _, vs0, ds, iv1, fun _ _ h => h, ev.le l1, hj, hd.ex l1, h0⟩, ?_⟩
  rintro i c σ2 H2 ⟨rfl, hle, us, es, iv2, e2, ev2, hj2, hd2, ii⟩
  have w2 := w (G.own l (.lst us)) H2 e2 iv2
  by_cases hlt : i < n
  · refine .inr ⟨(w2.1 i hlt).1, fun σ' H' => i + 1 ≤ n ∧ Iv (i + 1) σ' H', fun σ' H' h' => ⟨n - (i + 1), by omega, rfl, h'⟩, fun x H3 hy => ?_⟩
    obtain ⟨iv3, l3, d, pd, dq⟩ := (w2.1 i hlt).2 x H3 hy
    refine hg i es ii (G.own l (.lst us)) σ2 H3 x d (ev2.le l3) iv3 pd dq _ fun σ3 _ hs3 ev3 => ?_
    refine hb n i es d hnn hlt ii pd G σ3 H3 _ l us ev3 iv3 (by rw [hs3 j hjv]; exact hj2) (hd2.ex l3) fun σ4 H4 us4 es4 Γ4 iv4 e4 ev4 hj4 hd4 n4 => ⟨hlt, us4, es4, iv4, fun c u h => e4 c u (l3 c u (e2 c u h)), ⟨ev4.1.trans n4.2.1.symm, fun q s hs => ?_⟩, hj4, hd4, n4.1⟩
    by_cases hq : q = j
    · subst hq
      rw [hjs] at hs
      cases hs
      exact .inr ⟨_, hj4, l, us4, rfl, fun H' i' => Fr.own_at i', hd4⟩
    · rcases n4.2.2 q s hq hs with e5 | e5
      · exact .inl e5
      · exact ev4.2 q s e5
  · obtain rfl : i = n := by omega
    exact .inl ⟨w2.2, k σ2 H2 us es _ iv2 (fun c u h => e2 c u (l1 c u h)) ev2 hj2 hd2 (hn i es hnn ii)⟩
/-! ### blocks that return -/
theorem rl_seq (h : Apps K ts Γ j ds N) (h2 : ∀ es Γ', N es Γ' → RetL K tu Γ' j es P) : RetL K (tSeq ts tu) Γ j ds P := fun G σ H D l vs ev iv hj hd k =>
  h G σ H _ l vs ev iv hj hd fun σ' H' us es Γ' i' e' ev' hj' hd' n' => h2 es Γ' n' G σ' H' D l us ev' i' hj' hd' fun v d H2 i2 e2 => k v d H2 i2 fun c u h => e2 c u (e' c u h)
/-- return e -/
theorem rl_ret (h : EvD K te Γ P) : RetL K (tRet te) Γ j ds P := fun G σ H D l vs ev iv hj hd k =>
  h _ σ H ev iv _ fun v d H1 i1 l1 p1 dq => k v d H1 i1.1 (fun c u h => (hide_some (l1 c u h)).2) p1 (dq.ex Fr.own_sub)
/-- return found -/
theorem rl_retL : RetL K (tRet (tVar j)) Γ j ds (· = .list ds) := fun G σ H D l vs ev iv hj hd k =>
  ⟨_, hj, k _ _ H iv.1 Fr.own_sub rfl (.lst (.inl (.inl iv.2)) (hd.ex Fr.own_sub))⟩
/-- found = []; .. -/
theorem rs_newL (hjl : j < Γ.length) (hkeep : Keep Γ j) (h : RetL K tu (Γ.set j (.olst [])) j [] P) : Rets K (tSeq (tAsg (tLst tNil) (gName j)) tu) Γ P := fun G σ H D ev iv k =>
  ⟨Nat.zero_le _, fun p hp => by
    obtain ⟨iv1, vw1⟩ := Fr.own_new (G := G) (o := HO.lst []) iv hp
    refine h G _ _ D p [] ((ev.own (l := p) (o := .lst []) (H' := upd H p (.lst [])) (by rw [vw1]; exact fun _ _ h => h)).set hjl ⟨p, [], rfl, fun H' i => Fr.own_at i, .nil⟩) iv1 (List.getElem?_set_self (by rw [ev.1]; exact hjl)) .nil fun v d H' i' e' => k v d H' i' ?_
    rw [vw1] at e'
    exact e'⟩
/-- tuple(found) within an expression -/
theorem ev_tupleO {i : Nat} (h : Γ[i]? = some (.olst ds)) : EvD K (tThen (tVar i) (kTup K)) Γ (· = .tuple ds) := fun G σ H ev iv Q q => by
  rcases ev.2 i _ h with z | ⟨v, hv, a, vs, e1, e2, e3⟩
  · cases z
  · subst e1
    refine ⟨_, hv, .inl ⟨a, vs, rfl, SqL.of (e2 H iv), fun p hp => ?_⟩⟩
    obtain ⟨i2, l2, h2⟩ := Fr.new (o := HO.tup vs) iv hp
    exact q _ _ _ i2 l2 rfl (.tup (.inl (.inl h2)) (e3.ex l2))
theorem ev_lenO {i : Nat} (h : Γ[i]? = some (.olst ds)) : EvD K (tCB (fun xs H Q => ∃ p ys, xs = [V.ref p] ∧ (SqL K H p ys ∨ SqT K H p ys) ∧ Q (V.int (ys.length : Nat)) H) (tCons (tVar i) tNil)) Γ (· = .int ds.length) := fun G σ H ev iv Q q => by
  rcases ev.2 i _ h with z | ⟨v, hv, a, vs, e1, e2, e3⟩
  · cases z
  · subst e1
    exact ⟨_, hv, a, vs, rfl, .inl (SqL.of (e2 H iv)), q _ _ H iv .refl (by rw [e3.length]) (.int _)⟩
theorem ev_tupleP {Q : List PyData → Prop} (h : EvD K te Γ (fun d => ∃ es, d = .list es ∧ Q es)) : EvD K (tThen te (kTup K)) Γ (fun d => ∃ es, d = .tuple es ∧ Q es) := fun G σ H e i Qv q =>
  h G σ H e i _ fun v d1 H1 i1 l1 ⟨es, p1, p2⟩ dq => by
    subst p1
    cases dq with
    | lst hs ha =>
      refine .inl ⟨_, _, rfl, Fr.upL hs, fun p hp => ?_⟩
      obtain ⟨i2, l2, h2⟩ := Fr.new (o := HO.tup _) i1 hp
      exact q _ _ _ i2 (l1.trans l2) ⟨es, rfl, p2⟩ (.tup (.inl (.inl h2)) (ha.ex l2))
/-- three things in a tuple -/
theorem ev_tup3 {ta' : TA} {te1 te2 te3 : TE} {P1 P2 P3 : PyData → Prop} (h1 : EvD K te1 Γ P1) (h2 : EvD K te2 Γ P2) (h3 : EvD K te3 Γ P3) : EvD K (tTup (tCons te1 (tCons te2 (tCons te3 tNil)))) Γ (fun d => ∃ a b c, d = .tuple [a, b, c] ∧ P1 a ∧ P2 b ∧ P3 c) :=
  (ev_tup (el_cons h1 (el_cons h2 (el_cons h3 el_nil))) fun ds ⟨a, r, e, _, b, r2, e2, _, c, r3, e3, _, e4⟩ => by rw [e, e2, e3, e4]; exact Nat.le_of_ble_eq_true rfl).imp fun d ⟨ds, e0, a, r, e, p1, b, r2, e2, p2, c, r3, e3, p3, e4⟩ => ⟨a, b, c, by rw [e0, e, e2, e3, e4], p1, p2, p3⟩
/-! ### dict(pairs) -/
theorem pairsQ_of {H : Hp} : ∀ {xs : List V} {m : List (Str × PyData)}, DqAll K H xs (m.map fun p => .tuple [.str p.1, p.2]) → ∃ (ps : List Addr) (kvs : List (Key × V)), xs = ps.map V.ref ∧ Paired (fun p kv => SqT K H p [kV kv.fst, kv.snd]) ps kvs ∧ DqKv K H kvs (m.map fun p => (.str p.1, p.2)) ∧ kvs.map (·.1) = m.map fun p => (Sum.inr p.1 : Key)
  | [], [], .nil => ⟨[], [], rfl, .nil, .nil, rfl⟩
  | x :: xs, (s, d) :: m, h => by
    rw [List.map_cons] at h
    cases h with
    | cons h1 t1 =>
      obtain ⟨ps, kvs, e1, e2, e3, e4⟩ := pairsQ_of t1
      cases h1 with
      | @tup a ys _ hs ha =>
        cases ha with
        | cons a1 t2 =>
          cases t2 with
          | cons a2 t3 =>
            cases t3
            cases a1
            exact ⟨a :: ps, (.inr s, _) :: kvs, by rw [e1]; rfl, .cons hs e2, .cons (k := .inr s) a2 e3, by rw [List.map_cons, List.map_cons, e4]⟩
theorem paired_mono {α β : Type} {R S : α → β → Prop} (h : ∀ a b, R a b → S a b) : ∀ {xs : List α} {ys : List β}, Paired R xs ys → Paired S xs ys
  | _, _, .nil => .nil
  | _, _, .cons a t => .cons (h _ _ a) (paired_mono h t)
theorem putK_fresh' {kvs : List (Key × V)} {k : Key} {v : V} (h : k ∉ kvs.map (·.1)) : putK kvs k v = kvs ++ [(k, v)] := by
  unfold putK
  rw [if_neg]
  intro z
  obtain ⟨x, hx, e⟩ := List.any_eq_true.mp z
  exact h (List.mem_map.mpr ⟨x, hx, of_decide_eq_true e⟩)
theorem mergeK_new : ∀ (kvs acc : List (Key × V)), ((acc ++ kvs).map (·.1)).Nodup → mergeK acc kvs = acc ++ kvs
  | [], acc, _ => by rw [List.append_nil]; rfl
  | (k, v) :: kvs, acc, h => by
    have h1 : k ∉ acc.map (·.1) := fun z => by
      rw [List.map_append, List.nodup_append] at h
      exact h.2.2 k z k (by simp) rfl
    show mergeK (putK acc k v) kvs = _
    rw [putK_fresh' h1, mergeK_new kvs (acc ++ [(k, v)]) (by rw [List.append_assoc]; exact h), List.append_assoc]
    rfl
theorem ev_dict {m : List (Str × PyData)} (hn : (m.map (·.1)).Nodup) (h : EvD K te Γ (· = .list (m.map fun p => .tuple [.str p.1, p.2]))) :
    EvD K (tCB (fun xs H Q => ∃ a ps kvs, xs = [V.ref a] ∧ SqL K H a (List.map V.ref ps) ∧ Paired (fun p kv => SqT K H p [kV kv.fst, kv.snd]) ps kvs ∧ ∀ (p : Addr), H p = none → Q (V.ref p) (upd H p (HO.dK (mergeK [] kvs)))) (tCons te tNil)) Γ (· = dictD m) := fun G σ H e i Q q =>
  h G σ H e i _ fun v d1 H1 i1 l1 p1 dq => by
    subst p1
    cases dq with
    | @lst a xs _ hs ha =>
      obtain ⟨ps, kvs, e1, e2, e3, e4⟩ := pairsQ_of ha
      subst e1
      refine ⟨a, ps, kvs, rfl, Fr.upL hs, ?_, fun p hp => ?_⟩
      · exact paired_mono (fun _ _ h => Fr.upT h) e2
      · have hm : mergeK [] kvs = kvs := by
          rw [mergeK_new kvs [] ?_]
          · rfl
          · rw [List.nil_append, e4]
            have : (m.map fun p => (Sum.inr p.1 : Key)) = (m.map (·.1)).map Sum.inr := by rw [List.map_map]; rfl
            rw [this]
            exact List.Pairwise.map _ (fun a b h e => h (by injection e)) hn
        rw [hm]
        obtain ⟨i2, l2, h2⟩ := Fr.new (o := HO.dK kvs) i1 hp
        exact q _ _ _ i2 (l1.trans l2) rfl (.dic h2 (e3.ex l2))
end
end L2

set_option Elab.async false
set_option linter.all false
set_option maxRecDepth 100000
set_option maxHeartbeats 4000000
/-! Slices, sums of lists and of tuples. -/
namespace L2
open PySem PySem.Spec PyProof.Rows
open Evl (Ex)
def cutQ (ds : List PyData) (lo hi : Option Int) : List PyData := List.take (HT.sIx ds.length ds.length hi - HT.sIx ds.length 0 lo) (List.drop (HT.sIx ds.length 0 lo) ds)
/-- the part of a slice ahead of the colon, or behind it -/
def EvO (K : PySem.W.Frag) (to : TO) (Γ : List Sl) (o : Option Int) : Prop := ∀ (G : Fr) (σ : L2.St) (H : Hp), EnvOk K G H σ Γ → G.inv H → ∀ Q : Option Int → Hp → Prop, (∀ H', G.inv H' → G.le H H' → Q o H') → to σ H Q
section
variable {K : PySem.W.Frag} {Γ : List Sl} {te tb : TE} {tl th : TO} {lo hi : Option Int} {ds es : List PyData}
theorem eo_none : EvO K tNoPart Γ none := fun G σ H ev iv Q q => q H iv .refl
theorem eo_some {n : Int} (h : EvD K te Γ (· = .int n)) : EvO K (tPart te) Γ (some n) := fun G σ H ev iv Q q => h G σ H ev iv _ fun v d H1 i1 l1 p1 dq => by
  subst p1
  cases dq
  exact ⟨n, rfl, q H1 i1 l1⟩
theorem DqAll.cut {H : Hp} {xs : List V} {ds : List PyData} (h : DqAll K H xs ds) : DqAll K H (cutV xs lo hi) (cutQ ds lo hi) := by
  unfold cutV cutQ
  rw [h.length]
  exact (h.drop _).take _
theorem ev_slL (h : EvD K te Γ (· = .list ds)) (h1 : EvO K tl Γ lo) (h2 : EvO K th Γ hi) : EvD K (tSl (rSlL K) te tl th) Γ (· = .list (cutQ ds lo hi)) := fun G σ H e i Q q =>
  h G σ H e i _ fun v d1 H1 i1 l1 p1 dq => h1 G σ H1 (e.le l1) i1 _ fun H2 i2 l2 => h2 G σ H2 (e.le (l1.trans l2)) i2 _ fun H3 i3 l3 => by
    subst p1
    cases dq with
    | @lst a xs _ hs ha =>
      refine ⟨a, xs, rfl, Fr.upL (exL l3 (exL l2 hs)), fun p hp => ?_⟩
      obtain ⟨i4, l4, h4⟩ := Fr.new (o := HO.lst (cutV xs lo hi)) i3 hp
      exact q _ _ _ i4 (((l1.trans l2).trans l3).trans l4) rfl (.lst (.inl (.inl h4)) (((ha.cut.ex l2).ex l3).ex l4))
theorem cutQ_all (h1 : HT.sIx ds.length 0 lo = 0) (h2 : HT.sIx ds.length ds.length hi = ds.length) : cutQ ds lo hi = ds := by
  unfold cutQ
  rw [h1, h2]
  simp
theorem ev_slT (h : EvD K te Γ (· = .tuple ds)) (h1 : EvO K tl Γ lo) (h2 : EvO K th Γ hi) : EvD K (tSl (rSlA K) te tl th) Γ (· = .tuple (cutQ ds lo hi)) := fun G σ H e i Q q =>
  h G σ H e i _ fun v d1 H1 i1 l1 p1 dq => h1 G σ H1 (e.le l1) i1 _ fun H2 i2 l2 => h2 G σ H2 (e.le (l1.trans l2)) i2 _ fun H3 i3 l3 => by
    subst p1
    cases dq with
    | @tup a xs _ hs ha =>
      refine ⟨a, xs, rfl, Fr.upT (exT l3 (exT l2 hs)), fun c => ?_, fun _ p hp => ?_⟩
      · rw [ha.length] at c
        exact q _ _ _ i3 ((l1.trans l2).trans l3) rfl (by rw [cutQ_all c.1 c.2]; exact .tup (exT l3 (exT l2 hs)) ((ha.ex l2).ex l3))
      · obtain ⟨i4, l4, h4⟩ := Fr.new (o := HO.tup (cutV xs lo hi)) i3 hp
        exact q _ _ _ i4 (((l1.trans l2).trans l3).trans l4) rfl (.tup (.inl (.inl h4)) (((ha.cut.ex l2).ex l3).ex l4))
/-- t + u -/
theorem ev_catT (hn : ds.length + es.length ≤ 100000) (h : EvD K te Γ (· = .tuple ds)) (h2 : EvD K tb Γ (· = .tuple es)) : EvD K (tOp (rCatA K) te tb) Γ (· = .tuple (ds ++ es)) := fun G σ H e i Q q =>
  h G σ H e i _ fun v d1 H1 i1 l1 p1 dq => h2 G σ H1 (e.le l1) i1 _ fun v2 d2 H2 i2 l2 p2 dq2 => by
    subst p1; subst p2
    cases dq with
    | @tup a xs _ hs ha =>
      cases dq2 with
      | @tup b ys _ ks ka =>
        refine ⟨a, b, xs, ys, rfl, rfl, Fr.upT (exT l2 hs), Fr.upT ks, by rw [ha.length, ka.length, sizeLine_eq]; omega, fun c => ?_, fun _ c => ?_, fun _ _ p hp => ?_⟩
        · subst c
          cases ha
          exact q _ _ _ i2 (l1.trans l2) rfl (.tup ks ka)
        · subst c
          cases ka
          exact q _ _ _ i2 (l1.trans l2) rfl (by rw [List.append_nil]; exact .tup (exT l2 hs) (ha.ex l2))
        · obtain ⟨i4, l4, h4⟩ := Fr.new (o := HO.tup (xs ++ ys)) i2 hp
          exact q _ _ _ i4 ((l1.trans l2).trans l4) rfl (.tup (.inl (.inl h4)) (((ha.ex l2).append ka).ex l4))
/-- l + m -/
theorem ev_catL (hn : ds.length + es.length ≤ 100000) (h : EvD K te Γ (· = .list ds)) (h2 : EvD K tb Γ (· = .list es)) : EvD K (tOp (rCatS K) te tb) Γ (· = .list (ds ++ es)) := fun G σ H e i Q q =>
  h G σ H e i _ fun v d1 H1 i1 l1 p1 dq => h2 G σ H1 (e.le l1) i1 _ fun v2 d2 H2 i2 l2 p2 dq2 => by
    subst p1; subst p2
    cases dq with
    | @lst a xs _ hs ha =>
      cases dq2 with
      | @lst b ys _ ks ka =>
        refine ⟨a, b, xs, ys, rfl, rfl, Fr.upL (exL l2 hs), Fr.upL ks, by rw [ha.length, ka.length, sizeLine_eq]; omega, fun p hp => ?_⟩
        obtain ⟨i4, l4, h4⟩ := Fr.new (o := HO.lst (xs ++ ys)) i2 hp
        exact q _ _ _ i4 ((l1.trans l2).trans l4) rfl (.lst (.inl (.inl h4)) (((ha.ex l2).append ka).ex l4))
/-- (d,) * n -/
theorem ev_rep1 {d : PyData} {n : Nat} (hn : n ≤ 1000) (h : EvD K te Γ (· = .tuple [d])) (h2 : EvD K tb Γ (· = .int n)) : EvD K (tOp (rRepA K) te tb) Γ (· = .tuple (List.replicate n d)) := fun G σ H e i Q q =>
  h G σ H e i _ fun v d1 H1 i1 l1 p1 dq => h2 G σ H1 (e.le l1) i1 _ fun v2 d2 H2 i2 l2 p2 dq2 => by
    subst p1; subst p2
    cases dq2
    cases dq with
    | @tup a xs _ hs ha =>
      have hl := ha.length
      match xs, hl, ha with
      | [x], _, ha =>
        have hx : Dq K (G.view H2) x d := by
          cases ha with
          | cons h1 _ => exact h1.ex l2
        have hr : ∀ (k : Nat) {H' : Hp}, Dq K H' x d → DqAll K H' (List.replicate k [x]).flatten (List.replicate k d) := fun k {H'} hx => by
          induction k with
          | zero => exact .nil
          | succ k ih => exact .cons hx ih
        refine ⟨a, n, [x], rfl, rfl, Fr.upT (exT l2 hs), by simp, hn, by simp, fun e1 => ?_, fun e1 p hp => ?_⟩
        · subst e1
          exact q _ _ _ i2 (l1.trans l2) rfl (.tup (exT l2 hs) (.cons hx .nil))
        · obtain ⟨i4, l4, h4⟩ := Fr.new (o := HO.tup (List.replicate n [x]).flatten) i2 hp
          exact q _ _ _ i4 ((l1.trans l2).trans l4) rfl (.tup (.inl (.inl h4)) (hr n (hx.ex l4)))
theorem rs_ifP {ts tu : TS} {tt : TT} {Pb : Bool → Prop} {P : PyData → Prop} (h : EvB K tt Γ Pb) (h1 : Pb true → Rets K ts Γ P) (h2 : Pb false → Rets K tu Γ P) : Rets K (tSeq (tIfS tt ts tNext) tu) Γ P := fun G σ H D ev iv k =>
  h G σ H ev iv _ fun c H1 iv1 l1 e => by
    cases c with
    | true => exact h1 e G σ H1 _ (ev.le l1) iv1 fun v d H2 iv2 l2 p dq => k v d H2 iv2 (l1.trans l2) p dq
    | false => exact h2 e G σ H1 _ (ev.le l1) iv1 fun v d H2 iv2 l2 p dq => k v d H2 iv2 (l1.trans l2) p dq
theorem cutQ_take {n : Nat} (h : n ≤ ds.length) : cutQ ds none (some (n : Int)) = ds.take n := by
  unfold cutQ HT.sIx
  have h1 : ¬ ((n : Int) < 0) := by omega
  simp only [h1, if_false, Int.toNat_natCast, List.drop_zero, Nat.sub_zero]
  rw [Nat.min_eq_left h]
theorem cutQ_drop {n : Nat} (h : n ≤ ds.length) : cutQ ds (some (n : Int)) none = ds.drop n := by
  unfold cutQ HT.sIx
  have h1 : ¬ ((n : Int) < 0) := by omega
  simp only [h1, if_false, Int.toNat_natCast]
  rw [Nat.min_eq_left h, List.take_of_length_le]
  rw [List.length_drop]
  exact Nat.le_refl _
end
end L2

set_option Elab.async false
set_option linter.all false
set_option maxRecDepth 100000
set_option maxHeartbeats 4000000
/-! Two lists that are kept aside until a call has taken them. -/
namespace L2
open PySem PySem.Spec PyProof.Rows
open Evl (Ex)
/-! ### data without lists -/
mutual
def noL : PyData → Bool
  | .list _ => false
  | .dict _ => false
  | .tuple ds => noLs ds
  | _ => true
def noLs : List PyData → Bool
  | [] => true
  | d :: ds => noL d && noLs ds
end
theorem noLs_all : ∀ {ds : List PyData}, (∀ d ∈ ds, noL d = true) → noLs ds = true
  | [], _ => rfl
  | d :: ds, h => by
    rw [noLs, h d List.mem_cons_self, noLs_all fun e he => h e (List.mem_cons_of_mem _ he)]
    rfl
section
variable {K : PySem.W.Frag} {H : Hp} {l : Addr} {xs ys : List V}
theorem sqT_updL {a : Addr} {zs : List V} (hl : H l = some (.lst xs)) (h : SqT K H a zs) : SqT K (upd H l (.lst ys)) a zs := by
  rcases h with (h | ⟨o, h⟩) | h
  · refine .inl (.inl ?_)
    rw [upd_ne (by rintro rfl; rw [hl] at h; cases h)]
    exact h
  · refine .inl (.inr ⟨o, ?_⟩)
    rw [upd_ne (by rintro rfl; rw [hl] at h; cases h)]
    exact h
  · exact .inr h
mutual
theorem Dq.updL (hl : H l = some (.lst xs)) : ∀ {v : V} {d : PyData}, Dq K H v d → noL d = true → Dq K (upd H l (.lst ys)) v d
  | _, _, .non, _ => .non
  | _, _, .bl b, _ => .bl b
  | _, _, .int i, _ => .int i
  | _, _, .str x, _ => .str x
  | _, _, .lst _ _, n => by rw [noL] at n; cases n
  | _, _, .tup h t, n => .tup (sqT_updL hl h) (DqAll.updL hl t (by rw [noL] at n; exact n))
  | _, _, .dic _ _, n => by rw [noL] at n; cases n
theorem DqAll.updL (hl : H l = some (.lst xs)) : ∀ {vs : List V} {ds : List PyData}, DqAll K H vs ds → noLs ds = true → DqAll K (upd H l (.lst ys)) vs ds
  | _, _, .nil, _ => .nil
  | _, _, .cons h t, n => by
    rw [noLs, Bool.and_eq_true] at n
    exact .cons (Dq.updL hl h n.1) (DqAll.updL hl t n.2)
end
theorem DqFs.updL (hl : H l = some (.lst xs)) : ∀ {vs : List (Str × V)} {ds : List (Str × PyData)}, DqFs K H vs ds → (∀ x ∈ ds, noL x.2 = true) → DqFs K (upd H l (.lst ys)) vs ds
  | _, _, .nil, _ => .nil
  | _, _, .cons h t, n => .cons (h.updL hl (n _ List.mem_cons_self)) (t.updL hl fun x hx => n x (List.mem_cons_of_mem _ hx))
end
section
variable {K : PySem.W.Frag} {Γ Γ' : List Sl} {te tb tl : TE} {ta : TA} {wi : TI} {g : TG} {tu ts : TS} {tt : TT} {P P' : PyData → Prop} {PL : List PyData → Prop} {i j : Nat} {as ds : List PyData}
/-- an expression that makes a new list -/
def EvN (K : PySem.W.Frag) (te : TE) (Γ : List Sl) (P : List PyData → Prop) : Prop := ∀ (G : Fr) (σ : L2.St) (H : Hp), EnvOk K G H σ Γ → G.inv H → ∀ Q : VK, (∀ l vs ds H', (G.own l (.lst vs)).inv H' → Ex (G.view H) ((G.own l (.lst vs)).view H') → P ds → DqAll K ((G.own l (.lst vs)).view H') vs ds → Q (.ref l) H') → te σ H Q
/-- a comprehension -/
theorem en_lc {Nn : Nat → Prop} {vs : List Nat} {Pi : Nat → PyData → Prop} {N : PyData → List Sl} {R : Nat → PyData → PyData → Prop} (hn : ∀ n, Nn n → n < 100000) (hi : EvI K wi Γ Nn Pi) (hg : ∀ i, TgOk K g vs (wipeΓ Γ vs) (Pi i) N) (he : ∀ i d, Pi i d → EvD K te (N d) (R i d)) :
    EvN K (tLc wi g tYes te vs) Γ (fun es => Nn es.length ∧ ∀ i e, es[i]? = some e → ∃ d, Pi i d ∧ R i d e) := fun G σ H ev iv Q q => by
  refine hi G σ H ev iv _ fun n J H1 hnn iv1 l1 w D hD => ?_
  have hn := hn n hnn
  have ho := Fr.own_new (G := G) (o := HO.lst []) iv1 hD
  let Iv : Nat → Hp → Prop := fun i H => ∃ (acc : List V) (es : List PyData), (G.own D (.lst acc)).inv H ∧ Ex (G.view H1) ((G.own D (.lst acc)).view H) ∧ acc.length = i ∧ DqAll K ((G.own D (.lst acc)).view H) acc es ∧ ∀ j e, es[j]? = some e → ∃ d, Pi j d ∧ R j d e
  refine ⟨fun i m H => m = n - i ∧ i ≤ n ∧ Iv i H, ⟨n, by simp, Nat.zero_le _, [], [], ho.1, by rw [ho.2]; exact fun _ _ h => h, rfl, .nil, fun j e h => by simp at h⟩, ?_⟩
  rintro i m H2 ⟨rfl, hle, acc, es, iv2, e2, hlen, dqs, hR⟩
  have w2 := w (G.own D (.lst acc)) H2 (fun _ i => i.1) e2 iv2
  by_cases hlt : i < n
  · refine .inr ⟨(w2.1 i hlt).1, fun H => i + 1 ≤ n ∧ Iv (i + 1) H, fun H' h' => ⟨n - (i + 1), by omega, rfl, h'⟩, fun x H3 hy => ?_⟩
    obtain ⟨iv3, l3, d, pd, dq⟩ := (w2.1 i hlt).2 x H3 hy
    have ev3 : EnvOk K (G.own D (.lst acc)) H3 σ Γ := (ev.le l1).own fun c u h => l3 c u (e2 c u h)
    refine hg i (G.own D (.lst acc)) (L2.wipe σ vs) H3 x d (ev3.wipe vs) iv3 pd dq _ fun σ2 hl2 hs2 ev4 => ⟨wipe_eq hl2 hs2, ?_⟩
    refine he i d pd (G.own D (.lst acc)) σ2 H3 ev4 iv3 _ fun y e H4 iv4 l4 r4 dq4 => ⟨acc, Fr.own_at iv4, ?_, hlt, acc ++ [y], es ++ [e], ?_⟩
    · rw [hlen, sizeLine_eq]; omega
    · have st := Fr.own_set (o' := .lst (acc ++ [y])) iv4
      refine ⟨st.1, fun c u h => ?_, by simp [hlen], ?_, fun j z hz => ?_⟩
      · show (G.own D (.lst (acc ++ [y]))).view _ c = _
        rw [st.2]
        exact l4 c u (l3 c u (e2 c u h))
      · show DqAll K ((G.own D (.lst (acc ++ [y]))).view _) _ _
        rw [st.2]
        exact ((dqs.ex l3).ex l4).append (.cons dq4 .nil)
      · by_cases hj : j < es.length
        · rw [List.getElem?_append_left hj] at hz
          exact hR j z hz
        · have hel : es.length = i := by rw [← dqs.length]; exact hlen
          rw [List.getElem?_append_right (by omega)] at hz
          have : j - es.length = 0 := by
            have := (List.getElem?_eq_some_iff.mp hz).1
            simp at this
            omega
          rw [this] at hz
          simp at hz
          subst hz
          have hji : j = i := by omega
          subst hji
          exact ⟨d, pd, r4⟩
  · obtain rfl : i = n := by omega
    exact .inl ⟨w2.2, q D acc es H2 iv2 (fun c u h => e2 c u (l1 c u h)) ⟨by rw [← dqs.length, hlen]; exact hnn, hR⟩ dqs⟩
/-- list(xs) -/
theorem en_listOf {ds : List PyData} (h : EvL' K ta Γ (fun zs => zs = [.list ds] ∨ zs = [.tuple ds])) : EvN K (tCB (fun xs H Q => ∃ p ys, xs = [.ref p] ∧ (SqL K H p ys ∨ SqT K H p ys) ∧ ∀ l, H l = none → Q (.ref l) (upd H l (.lst ys))) ta) Γ (· = ds) := fun G σ H ev iv Q q =>
  h G σ H ev iv _ fun vs ss H1 iv1 l1 ⟨zs, e1, e2⟩ dqs => by
    subst e1
    have fin : ∀ {xs : List V}, DqAll K (G.view H1) xs ds → ∀ p, H1 p = none → Q (.ref p) (upd H1 p (.lst xs)) := fun {xs} ha p hp => by
      obtain ⟨i3, v3⟩ := Fr.own_new (G := G) (o := HO.lst xs) iv1 hp
      exact q p xs ds _ i3 (by rw [v3]; exact l1) rfl (by rw [v3]; exact ha)
    rcases e2 with e2 | e2
    · subst e2
      have dqs := args_dats dqs
      cases dqs with
      | cons h1 t1 =>
        cases t1
        cases h1 with
        | @lst a xs _ hs ha => exact ⟨a, xs, rfl, .inl (Fr.upL hs), fin ha⟩
    · subst e2
      have dqs := args_dats dqs
      cases dqs with
      | cons h1 t1 =>
        cases t1
        cases h1 with
        | @tup a xs _ hs ha => exact ⟨a, xs, rfl, .inr (Fr.upT hs), fin ha⟩
/-- two lists aside -/
abbrev own2 (G : Fr) (l : Addr) (vs : List V) (m : Addr) (us : List V) : Fr := (G.own l (.lst vs)).own m (.lst us)
/-- a block that returns, the lists of the places i and j being kept aside, the well in place 0 -/
def RetM (K : PySem.W.Frag) (ts : TS) (Γ : List Sl) (i : Nat) (as : List PyData) (j : Nat) (ds : List PyData) (P : PyData → Prop) : Prop := ∀ (G : Fr) (σ : L2.St) (H : Hp) (D : Ends) (l : Addr) (vs : List V) (m : Addr) (us : List V),
  EnvOk K (own2 G l vs m us) H σ Γ → (own2 G l vs m us).inv H → (∃ a q, σ[0]? = some (some (.ref a)) ∧ IsW G a q) → σ[i]? = some (some (.ref l)) → DqAll K ((own2 G l vs m us).view H) vs as → σ[j]? = some (some (.ref m)) → DqAll K ((own2 G l vs m us).view H) us ds →
  (∀ v d H', G.inv H' → Ex ((own2 G l vs m us).view H) (G.view H') → P d → Dq K (G.view H') v d → D.rt v H') → ts D σ H
theorem rm_set {q : Nat} (hq : q < Γ.length) (h0 : q ≠ 0) (hi : q ≠ i) (hj : q ≠ j) (h : EvD K te Γ P') (h2 : ∀ d, P' d → RetM K tu (Γ.set q (.dat d)) i as j ds P) : RetM K (tSeq (tAsg te (gName q)) tu) Γ i as j ds P := fun G σ H D l vs m us ev iv ⟨a, r, e0, w0⟩ e1 d1 e2 d2 k =>
  h _ σ H ev iv _ fun v d H1 i1 l1 p1 dq => h2 d p1 G _ H1 D l vs m us ((ev.le l1).set hq dq) i1 ⟨a, r, by rw [List.getElem?_set_ne h0]; exact e0, w0⟩ (by rw [List.getElem?_set_ne hi]; exact e1) (d1.ex l1) (by rw [List.getElem?_set_ne hj]; exact e2) (d2.ex l1) fun v d H' i' e' => k v d H' i' fun c u h => e' c u (l1 c u h)
theorem rm_if (h : EvB K tt Γ (· = false)) (h2 : RetM K tu Γ i as j ds P) : RetM K (tSeq (tIfS tt ts tNext) tu) Γ i as j ds P := fun G σ H D l vs m us ev iv e0 e1 d1 e2 d2 k =>
  h _ σ H ev iv _ fun c H1 i1 l1 e => by
    subst e
    exact h2 G σ H1 D l vs m us (ev.le l1) i1 e0 e1 (d1.ex l1) e2 (d2.ex l1) fun v d H' i' e' => k v d H' i' fun c u h => e' c u (l1 c u h)
/-- for x in xs: found.append(e) -/
theorem rm_for {n : Nat} {vs0 : List Nat} {Pi : Nat → PyData → Prop} {Nt : PyData → List Sl} {I : Nat → List PyData → Prop} (h0v : 0 ∉ vs0) (hiv : i ∉ vs0) (hjv : j ∉ vs0) (hΓj : Γ[j]? = some .any) (hk : ∀ (q : Nat) s, Γ[q]? = some s → okS s = true)
    (hi : EvI0 K wi Γ (· = n) Pi) (hg : ∀ q, TgOk K g vs0 Γ (Pi q) Nt) (hw : ∀ d, (Nt d).length = Γ.length ∧ ∀ (k : Nat) s, Γ[k]? = some s → s = .any ∨ (Nt d)[k]? = some s)
    (hI : I 0 ds) (hlen : ∀ q es, I q es → es.length < 1000) (he : ∀ q es d, q < n → I q es → Pi q d → EvD K te (Nt d) (fun e => I (q + 1) (es ++ [e])))
    (h2 : ∀ es, I n es → RetM K tu Γ i as j es P) : RetM K (tSeq (tFor wi g (tDrop (tBM K "list" rAppend (tVar j) (tCons te tNil)))) tu) Γ i as j ds P := fun G σ H D l vs m us ev iv ⟨aw, qw, ew, ww⟩ e1 d1 e2 d2 k => by
  refine hi (own2 G l vs m us) σ H ev iv _ fun n' J H1 hn iv1 l1 w => ?_
  subst hn
  let Iv : Nat → L2.St → Hp → Prop := fun c σ' H' => ∃ us' es, (own2 G l vs m us').inv H' ∧ Ex ((own2 G l vs m us).view H1) ((own2 G l vs m us').view H') ∧ EnvOk K (own2 G l vs m us') H' σ' Γ ∧ σ'[0]? = σ[0]? ∧ σ'[i]? = σ[i]? ∧ σ'[j]? = σ[j]? ∧ DqAll K ((own2 G l vs m us').view H') vs as ∧ DqAll K ((own2 G l vs m us').view H') us' es ∧ I c es
  refine ⟨fun c r σ' H' => r = n' - c ∧ c ≤ n' ∧ Iv c σ' H', ⟨n', by simp, Nat.zero_le _, us, ds, iv1, fun _ _ h => h, ev.le l1, rfl, rfl, rfl, d1.ex l1, d2.ex l1, hI⟩, ?_⟩
  rintro c r σ2 H2 ⟨rfl, hle, us', es, iv2, e2', ev2, s0, si, sj, da, dd, ii⟩
  have w2 := w (own2 G l vs m us') H2 e2' iv2
  by_cases hlt : c < n'
  · refine .inr ⟨(w2.1 c hlt).1, fun σ' H' => c + 1 ≤ n' ∧ Iv (c + 1) σ' H', fun σ' H' h' => ⟨n' - (c + 1), by omega, rfl, h'⟩, fun x H3 hy => ?_⟩
    obtain ⟨iv3, l3, d, pd, dq⟩ := (w2.1 c hlt).2 x H3 hy
    refine hg c (own2 G l vs m us') σ2 H3 x d (ev2.le l3) iv3 pd dq _ fun σ3 _ hs3 ev3 => ?_
    have sj3 : σ3[j]? = some (some (.ref m)) := by rw [hs3 j hjv, sj]; exact e2
    refine ⟨_, sj3, .inl ⟨rfl, _, SqL.of (Fr.own_at iv3)⟩, he c es d hlt ii pd _ σ3 H3 ev3 iv3 _ fun v e H4 i4 l4 p4 dq4 => ?_⟩
    have hlv : us'.length < 1000 := by rw [dd.length]; exact hlen c es ii
    refine ⟨m, us', v, rfl, rfl, Fr.own_at i4, by rw [sizeLine_eq]; omega, ?_⟩
    have st := Fr.own_set (o' := .lst (us' ++ [v])) i4
    refine ⟨hlt, us' ++ [v], es ++ [e], st.1, ?_, ?_, by rw [hs3 0 h0v, s0], by rw [hs3 i hiv, si], by rw [hs3 j hjv, sj], ?_, ?_, p4⟩
    · rw [st.2]
      exact fun c u h => l4 c u (l3 c u (e2' c u h))
    · refine EnvOk.swapS (j := j) (s := .any) (v := .ref m) (ev3.le l4) (by rw [st.2]; exact fun _ _ h => h) (hw d).1 (fun q s hq hs => ?_) sj3 hΓj trivial
      exact ((hw d).2 q s hs).imp id fun z => ⟨hk q s hs, z⟩
    · rw [st.2]
      exact (da.ex l3).ex l4
    · rw [st.2]
      exact ((dd.ex l3).ex l4).append (.cons dq4 .nil)
  · obtain rfl : c = n' := by omega
    exact .inl ⟨w2.2, h2 es ii G σ2 H2 D l vs m us' ev2 iv2 ⟨aw, qw, s0.trans ew, ww⟩ (si.trans e1) da (sj.trans e2) dd fun v d H' i' e' => k v d H' i' fun c u h => e' c u (e2' c u (l1 c u h))⟩
/-- x, y = e, [], e being a new list -/
theorem rm_par (h0 : Γ[0]? = some .well) (hi0 : i ≠ 0) (hj0 : j ≠ 0) (hij : i ≠ j) (hi : i < Γ.length) (hj : j < Γ.length) (h : EvN K te Γ PL) (h2 : ∀ as, PL as → RetM K tu ((Γ.set i .any).set j .any) i as j [] P) :
    Rets K (tSeq (tPar i j (tCons te (tCons (tLst tNil) tNil))) tu) Γ P := fun G σ H D ev iv k =>
  h G σ H ev iv _ fun l vs ds H1 i1 x1 p1 dqs => ⟨Nat.zero_le _, fun p hp => by
    refine ⟨_, _, rfl, ?_⟩
    obtain ⟨i2, v2⟩ := Fr.own_new (G := G.own l (.lst vs)) (o := HO.lst []) i1 hp
    have ev2 : EnvOk K (own2 G l vs p []) (upd H1 p (.lst [])) σ Γ := (ev.own x1).own (by rw [v2]; exact fun _ _ h => h)
    obtain ⟨v0, hv0, a, q, e0, w0⟩ := (ev.2 0 _ h0).resolve_left nofun
    subst e0
    refine h2 ds p1 G _ _ D l vs p [] ((ev2.set (v := .ref l) (s := .any) hi trivial).set (v := .ref p) (s := .any) (by rw [List.length_set]; exact hj) trivial) i2 ⟨a, q, ?_, w0⟩ ?_ (by rw [v2]; exact dqs) ?_ .nil fun v d H' i' e' => k v d H' i' ?_
    · rw [List.getElem?_set_ne hj0, List.getElem?_set_ne hi0]; exact hv0
    · rw [List.getElem?_set_ne (Ne.symm hij), List.getElem?_set_self (by rw [ev.1]; exact hi)]
    · rw [List.getElem?_set_self (by rw [List.length_set, ev.1]; exact hj)]
    · rw [v2] at e'
      exact fun c u h => e' c u (x1 c u h)⟩
/-- s = list(..); o = C(.., s, ..); x.clear(); y.clear(); s.append(None) -/
theorem rm_fin {tls tmk : TE} {q q2 : Nat} {bs : List PyData} {C : Addr} {fs : List (Str × PyData)} {Γd : List Sl} (hΓq : q < Γ.length) (hΓq2 : q2 < Γ.length) (hi0 : i ≠ 0) (hj0 : j ≠ 0) (hq0 : q ≠ 0) (hq20 : q2 ≠ 0) (hij : i ≠ j) (hqi : q ≠ i) (hqj : q ≠ j) (hq2i : q2 ≠ i) (hq2j : q2 ≠ j) (hqq : q2 ≠ q)
    (hs : EvN K tls Γ (· = bs)) (hb : bs.length < 1000) (hlen : Γ.length = Γd.length)
    (hd : ∀ (k : Nat) s, Γd[k]? = some s → s = .any ∨ (k = i ∧ s = .dat (.list as)) ∨ (k = j ∧ s = .dat (.list ds)) ∨ (k = q ∧ s = .dat (.list bs)) ∨ (k ≠ q ∧ ∃ d, s = .dat d ∧ Γ[k]? = some s))
    (hm : EvV K tmk Γd (.ins C fs)) (hf : ∀ x ∈ fs, noL x.2 = true) (hlen2 : Γ.length = Γ'.length)
    (hd2 : ∀ (k : Nat) s, Γ'[k]? = some s → s = .any ∨ (k = 0 ∧ s = .well) ∨ (k = q2 ∧ s = .ins C fs) ∨ (k ≠ q ∧ k ≠ q2 ∧ ∃ d, s = .dat d ∧ Γ[k]? = some s)) (h2 : Rets K tu Γ' P) :
    RetM K (tSeq (tAsg tls (gName q)) (tSeq (tAsg tmk (gName q2)) (tSeq (tDrop (tBM0 K "list" rClear (tVar i))) (tSeq (tDrop (tBM0 K "list" rClear (tVar j))) (tSeq (tDrop (tBM K "list" rAppend (tVar q) (tCons (tC .non) tNil))) tu))))) Γ i as j ds P :=
  fun G σ H D l vs m us ev iv ⟨aw, qw, ew, ww⟩ e1 d1 e2 d2 k => by
  refine hs (own2 G l vs m us) σ H ev iv _ fun p ws bs' H1 i3 x3 eb db => ?_
  subst eb
  -- the three lists as G sees them
  have gl : G.view H1 l = some (.lst vs) := i3.1.1.2
  have gm' := hide_some i3.1.2
  have gm : G.view H1 m = some (.lst us) := gm'.2
  have gp' := hide_some i3.2
  have gp'' := hide_some gp'.2
  have gp : G.view H1 p = some (.lst ws) := gp''.2
  have nml : m ≠ l := gm'.1
  have npm : p ≠ m := gp'.1
  have npl : p ≠ l := gp''.1
  have gi1 : G.inv H1 := i3.1.1.1
  have x4 : Ex (((own2 G l vs m us).own p (.lst ws)).view H1) (G.view H1) := fun c u h => (hide_some (hide_some (hide_some h).2).2).2
  have x5 : Ex ((own2 G l vs m us).view H) (G.view H1) := fun c u h => x4 c u (x3 c u h)
  have ld1 : Dq K (G.view H1) (.ref l) (.list as) := .lst (.inl (.inl gl)) (d1.ex x5)
  have ld2 : Dq K (G.view H1) (.ref m) (.list ds) := .lst (.inl (.inl gm)) (d2.ex x5)
  have ld3 : Dq K (G.view H1) (.ref p) (.list bs') := .lst (.inl (.inl gp)) (db.ex x4)
  have hsl : σ.length = Γ.length := ev.1
  have ev1 : EnvOk K G H1 (σ.set q (some (.ref p))) Γd := ⟨by rw [List.length_set, hsl, hlen], fun c s hc => by
    rcases hd c s hc with e | ⟨rfl, e⟩ | ⟨rfl, e⟩ | ⟨rfl, e⟩ | ⟨hcq, d, e, hg⟩
    · exact .inl e
    · subst e
      exact .inr ⟨_, by rw [List.getElem?_set_ne hqi]; exact e1, ld1⟩
    · subst e
      exact .inr ⟨_, by rw [List.getElem?_set_ne hqj]; exact e2, ld2⟩
    · subst e
      exact .inr ⟨_, List.getElem?_set_self (by rw [hsl]; exact hΓq), ld3⟩
    · subst e
      obtain ⟨v, hv, hdq⟩ := (ev.2 c _ hg).resolve_left nofun
      exact .inr ⟨v, by rw [List.getElem?_set_ne (Ne.symm hcq)]; exact hv, Dq.ex x5 hdq⟩⟩
  refine hm G _ H1 ev1 gi1 _ fun v H2 i2 l2 sv => ?_
  obtain ⟨a, dx, zs, e3, ga, dfs⟩ := sv
  subst e3
  have s1 : ∀ c, c ≠ q → c ≠ q2 → ((σ.set q (some (.ref p))).set q2 (some (.ref a)))[c]? = σ[c]? := fun c h1 h2 => by rw [List.getElem?_set_ne (Ne.symm h2), List.getElem?_set_ne (Ne.symm h1)]
  have hl2 := l2 _ _ gl
  have hm2 := l2 _ _ gm
  have hp2 := l2 _ _ gp
  obtain ⟨i5, v5⟩ := G.put (o := .lst []) i2 (.inr ⟨_, hl2⟩)
  have hm3 : G.view (upd H2 l (.lst [])) m = some (.lst us) := by rw [v5, upd_ne nml]; exact hm2
  have hp3 : G.view (upd H2 l (.lst [])) p = some (.lst ws) := by rw [v5, upd_ne npl]; exact hp2
  obtain ⟨i6, v6⟩ := G.put (o := .lst []) i5 (.inr ⟨_, hm3⟩)
  have hp4 : G.view (upd (upd H2 l (.lst [])) m (.lst [])) p = some (.lst ws) := by rw [v6, upd_ne npm]; exact hp3
  obtain ⟨i7, v7⟩ := G.put (o := .lst (ws ++ [.non])) i6 (.inr ⟨_, hp4⟩)
  have x7 : Ex ((own2 G l vs m us).view H) (G.view (upd (upd (upd H2 l (.lst [])) m (.lst [])) p (.lst (ws ++ [.non])))) := fun c u h => by
    have h1 := hide_some (x3 c u h)
    have h3 := hide_some h1.2
    have h4 := hide_some h3.2
    rw [v7, upd_ne h1.1, v6, upd_ne h3.1, v5, upd_ne h4.1]
    exact l2 c u h4.2
  have ga7 : G.view (upd (upd (upd H2 l (.lst [])) m (.lst [])) p (.lst (ws ++ [.non]))) a = some (.ins C dx zs) := by
    rw [v7, upd_ne (by rintro rfl; rw [ga] at hp2; cases hp2), v6, upd_ne (by rintro rfl; rw [ga] at hm2; cases hm2), v5, upd_ne (by rintro rfl; rw [ga] at hl2; cases hl2)]
    exact ga
  have df7 : DqFs K (G.view (upd (upd (upd H2 l (.lst [])) m (.lst [])) p (.lst (ws ++ [.non])))) zs fs := by
    rw [v7]
    refine DqFs.updL hp4 ?_ hf
    rw [v6]
    refine DqFs.updL hm3 ?_ hf
    rw [v5]
    exact DqFs.updL hl2 dfs hf
  refine ⟨_, (s1 i (Ne.symm hqi) (Ne.symm hq2i)).trans e1, .inl ⟨rfl, _, SqL.of (G.sub hl2)⟩, l, vs, rfl, rfl, G.sub hl2, ?_⟩
  refine ⟨_, (s1 j (Ne.symm hqj) (Ne.symm hq2j)).trans e2, .inl ⟨rfl, _, SqL.of (G.sub hm3)⟩, m, us, rfl, rfl, G.sub hm3, ?_⟩
  refine ⟨_, (show ((σ.set q (some (.ref p))).set q2 (some (.ref a)))[q]? = some (some (.ref p)) from by rw [List.getElem?_set_ne hqq, List.getElem?_set_self (by rw [hsl]; exact hΓq)]), .inl ⟨rfl, _, SqL.of (G.sub hp4)⟩, p, ws, .non, rfl, rfl, G.sub hp4, by rw [sizeLine_eq, db.length]; omega, ?_⟩
  refine h2 G _ _ D ⟨by rw [List.length_set, List.length_set, hsl, hlen2], fun c s hc => ?_⟩ i7 fun v d H' i' l' => k v d H' i' fun c u h => l' c u (x7 c u h)
  rcases hd2 c s hc with e | ⟨rfl, e⟩ | ⟨rfl, e⟩ | ⟨hcq, hcq2, d, e, hg⟩
  · exact .inl e
  · subst e
    exact .inr ⟨_, (s1 0 (Ne.symm hq0) (Ne.symm hq20)).trans ew, aw, qw, rfl, ww⟩
  · subst e
    exact .inr ⟨.ref a, List.getElem?_set_self (by rw [List.length_set, hsl]; exact hΓq2), a, dx, zs, rfl, ga7, df7⟩
  · subst e
    obtain ⟨v, hv, hdq⟩ := (ev.2 c _ hg).resolve_left nofun
    exact .inr ⟨v, (s1 c hcq hcq2).trans hv, Dq.ex x7 hdq⟩
end
end L2

set_option Elab.async false
set_option linter.all false
set_option maxRecDepth 100000
set_option maxHeartbeats 4000000
/-! Blocks and defs that may raise one class of two fields. -/
namespace L2
open PySem PySem.Spec PyProof.Rows
open Evl (Ex)
/-- what the __init__ of such a class does -/
def spI2 (C : Addr) (f g : Str) : Sp := fun vs H Q _ => ∃ (a : Addr) (x y : V), vs = [.ref a, x, y] ∧ H a = some (exo a C none) ∧ ∀ dx, H dx = none → dx ≠ a → Q .non (upd (upd (upd H dx (exd dx [(f, x)])) a (exo a C (some dx))) dx (exd dx [(g, y), (f, x)]))
/-- the ways out: the class at C, its fields data -/
def ExR (K : PySem.W.Frag) (G : Fr) (C : Addr) (E : XK) (f g : Str) (PX : PyData → PyData → Prop) (H : Hp) : Prop := ∀ (dx : Addr) (H' : Hp) (x y : V) (p i : PyData), G.inv H' → G.le H H' → PX p i → Dq K (G.view H') x p → Dq K (G.view H') y i → G.view H' dx = some (.xd [(g, y), (f, x)]) → E (.ref C) (some dx) H'
theorem ExR.le {K : PySem.W.Frag} {G : Fr} {C : Addr} {E : XK} {f g : Str} {PX PY : PyData → PyData → Prop} {H H1 : Hp} (h : ExR K G C E f g PX H) (l : G.le H H1) (hp : ∀ p i, PY p i → PX p i) : ExR K G C E f g PY H1 := fun dx H' x y p i a b c d e z => h dx H' x y p i a (l.trans b) (hp p i c) d e z
/-- one more object aside -/
theorem ExR.own {K : PySem.W.Frag} {G : Fr} {C : Addr} {E : XK} {f g : Str} {PX : PyData → PyData → Prop} {H H1 : Hp} {l : Addr} {o : HO} (h : ExR K G C E f g PX H) (e : Ex (G.view H) ((G.own l o).view H1)) : ExR K (G.own l o) C E f g PX H1 := fun dx H' x y p i a b c d z w =>
  h dx H' x y p i a.1 (fun k u hk => (hide_some (b k u (e k u hk))).2) c (d.ex Fr.own_sub) (z.ex Fr.own_sub) (hide_some w).2
/-- a block that returns or raises -/
def RetX (K : PySem.W.Frag) (C : Addr) (E : XK) (f g : Str) (ts : TS) (Γ : List Sl) (P : PyData → Prop) (PX : PyData → PyData → Prop) : Prop := ∀ (G : Fr) (σ : L2.St) (H : Hp) (D : Ends), EnvOk K G H σ Γ → G.inv H → (∀ v d H', G.inv H' → G.le H H' → P d → Dq K (G.view H') v d → D.rt v H') → ExR K G C E f g PX H → ts D σ H
/-- what a def answers: a value, or the two fields of what it raises -/
abbrev Res := Sum PyData (PyData × PyData)
/-- the promise of a def that may raise -/
def spX (K : PySem.W.Frag) (C : Addr) (f g : Str) (pre : List PyData → Res → Prop) : Sp := fun vs H Q E => ∃ (G : Fr) (ds : List PyData) (r : Res), G.inv H ∧ DqAll K (G.view H) vs ds ∧ pre ds r ∧
  (∀ v d H', G.inv H' → G.le H H' → r = .inl d → Dq K (G.view H') v d → Q v H') ∧ ExR K G C E f g (fun p i => r = .inr (p, i)) H
section
variable {K : PySem.W.Frag} {C : Addr} {E : XK} {f g' : Str} {Γ Γ' : List Sl} {te tb tv tc : TE} {ta : TA} {wi : TI} {g : TG} {tu ts : TS} {tt : TT} {P P' : PyData → Prop} {PX PY : PyData → PyData → Prop} {PL : List PyData → Prop} {j : Nat}
theorem RetX.of (h : Rets K ts Γ P) : RetX K C E f g' ts Γ P PX := fun G σ H D ev iv k _ => h G σ H D ev iv k
theorem RetX.imp (h : RetX K C E f g' ts Γ P' PY) (hp : ∀ d, P' d → P d) (hx : ∀ p i, PY p i → PX p i) : RetX K C E f g' ts Γ P PX := fun G σ H D ev iv k kx => h G σ H D ev iv (fun v d H' i' l' p' => k v d H' i' l' (hp d p')) (kx.le .refl hx)
theorem rx_if (b : Bool) (h : EvB K tt Γ (· = b)) (h1 : b = true → RetX K C E f g' ts Γ P PX) (h2 : b = false → RetX K C E f g' tu Γ P PX) : RetX K C E f g' (tSeq (tIfS tt ts tNext) tu) Γ P PX := fun G σ H D ev iv k kx =>
  h G σ H ev iv _ fun c H1 iv1 l1 e => by
    subst e
    cases c with
    | true => exact h1 rfl G σ H1 _ (ev.le l1) iv1 (fun v d H2 iv2 l2 p dq => k v d H2 iv2 (l1.trans l2) p dq) (kx.le l1 fun _ _ h => h)
    | false => exact h2 rfl G σ H1 _ (ev.le l1) iv1 (fun v d H2 iv2 l2 p dq => k v d H2 iv2 (l1.trans l2) p dq) (kx.le l1 fun _ _ h => h)
theorem rx_set {i : Nat} (hi : i < Γ.length) (h : EvD K te Γ P') (h2 : ∀ d, P' d → RetX K C E f g' tu (Γ.set i (.dat d)) P PX) : RetX K C E f g' (tSeq (tAsg te (gName i)) tu) Γ P PX := fun G σ H D ev iv k kx =>
  h G σ H ev iv _ fun v d H1 iv1 l1 p dq => h2 d p G _ H1 _ ((ev.le l1).set hi dq) iv1 (fun v d H2 iv2 l2 p dq => k v d H2 iv2 (l1.trans l2) p dq) (kx.le l1 fun _ _ h => h)
/-- raise C(p, i) -/
theorem rx_raise (h : EvL' K ta Γ (fun ds => ∃ p i, ds = [p, i] ∧ PX p i)) : RetX K C E f g' (fun _ σ H => tMkO C (spI2 C f g') [] ta σ H fun cls d H' => E cls d H') Γ P PX := fun G σ H D ev iv k kx =>
  h G σ H ev iv _ fun vs ss H1 i1 l1 ⟨ds, e1, p, i, e2, px⟩ dqs => by
    subst e1
    subst e2
    have dqs := args_dats dqs
    cases dqs with
    | @cons x _ _ _ q1 t1 =>
      cases t1 with
      | @cons y _ _ _ q2 t2 =>
        cases t2
        refine ⟨by show 2 ≤ 1000; decide, fun a ha => ⟨a, x, y, rfl, upd_same, fun dx hdx hne => ⟨rfl, dx, [(g', y), (f, x)], by rw [upd_ne (Ne.symm hne)]; exact upd_same, upd_same, by rwa [upd_ne hne] at hdx, ?_⟩⟩⟩
        have hdx1 : H1 dx = none := by rwa [upd_ne hne] at hdx
        have e : upd (del (upd (upd (upd (upd H1 a (exo a C none)) dx (exd dx [(f, x)])) a (exo a C (some dx))) dx (exd dx [(g', y), (f, x)])) a) dx (.xd [(g', y), (f, x)]) = upd H1 dx (.xd [(g', y), (f, x)]) := by
          funext b
          by_cases hb : b = dx
          · subst hb; rw [upd_same, upd_same]
          · rw [upd_ne hb, upd_ne hb]
            by_cases hb2 : b = a
            · subst hb2; rw [del_same, ha]
            · rw [del_ne hb2, upd_ne hb, upd_ne hb2, upd_ne hb, upd_ne hb2]
        show E _ _ _
        rw [e]
        obtain ⟨i2, l2, v2⟩ := Fr.new (o := .xd [(g', y), (f, x)]) i1 hdx1
        exact kx dx _ x y p i i2 (l1.trans l2) px (q1.ex l2) (q2.ex l2) v2
/-- x = f(..), f may raise -/
theorem rx_call {i : Nat} {pre : List PyData → Res → Prop} (ds : List PyData) (r : Res) (hi : i < Γ.length) (h : EvL' K ta Γ (· = ds)) (hp : pre ds r) (hx : ∀ p i, r = .inr (p, i) → PX p i) (h2 : ∀ d, r = .inl d → RetX K C E f g' tu (Γ.set i (.dat d)) P PX) :
    RetX K C E f g' (tSeq (tAsg (tCall (spX K C f g' pre) [] E ta) (gName i)) tu) Γ P PX := fun G σ H D ev iv k kx =>
  h G σ H ev iv _ fun vs ss H1 i1 l1 ⟨es, e1, e2⟩ dqs => by
    subst e1
    subst e2
    rw [List.append_nil]
    refine ⟨G, es, r, i1, args_dats dqs, hp, fun v d H2 i2 l2 pv dq => ?_, kx.le l1 hx⟩
    exact h2 d pv G _ H2 _ ((ev.le (l1.trans l2)).set hi dq) i2 (fun v d H3 i3 l3 p dq => k v d H3 i3 ((l1.trans l2).trans l3) p dq) (kx.le (l1.trans l2) fun _ _ h => h)
/-- the start of a def that may raise -/
theorem doneX {G : Fr} {H : Hp} {vs : List V} {ds : List PyData} {D : Ends} {N : List Str} (n : Nat) (hs : L2.start N vs = vs.map some ++ List.replicate n none) (h : RetX K C E f g' ts (ds.map .dat ++ List.replicate n .any) P PX) (iv : G.inv H) (a : DqAll K (G.view H) vs ds)
    (k : ∀ v d H', G.inv H' → G.le H H' → P d → Dq K (G.view H') v d → D.rt v H') (kx : ExR K G C E f g' PX H) : ts D (L2.start N vs) H := h G _ H D (envStart n hs a) iv k kx
/-- found = {}; a loop that fills it and raises behind m's pairs -/
theorem rx_buildBad {vs : List Nat} {n : Nat} {m : List (Str × PyData)} {Pi : Nat → PyData → Prop} {N : Nat → PyData → List Sl} {Ne : Nat → PyData → List Sl} (hm : m.length ≤ 100) (hmn : m.length < n) (hjl : j < Γ.length)
    (hΓ : ∀ (q : Nat) s, q ≠ j → Γ[q]? = some s → s = .any ∨ ∃ z, s = .dat z) (hnew : ∀ i p, m[i]? = some p → (m.take i).lookup p.1 = none) (hjv : j ∉ vs)
    (hi : EvI0 K wi (Γ.set j (.odic [])) (· = n) Pi)
    (hg : ∀ i, TgOk K g vs (Γ.set j (.odic (m.take i))) (Pi i) (N i))
    (hb : ∀ i e p, Pi i e → m[i]? = some p → Puts K tu (N i e) j p.1 (· = p.2) (Ne i e))
    (hw : ∀ (i : Nat) e, Pi i e → Γ.length = (Ne i e).length ∧ ∀ (k : Nat) s, k ≠ j → Γ[k]? = some s → s = .any ∨ (Ne i e)[k]? = some s)
    (hx : ∀ e, Pi m.length e → RetX K C E f g' tu (N m.length e) (fun _ => False) PX) :
    RetX K C E f g' (tSeq (tAsg tDNewK (gName j)) (tSeq (tFor wi g tu) ts)) Γ P PX := fun G σ H D ev iv k kx p hp => by
  have hgv : G.view H p = none := Fr.blank hp
  obtain ⟨iv1, vw1⟩ := Fr.own_new (G := G) (o := HO.dK []) iv hp
  have set_ne : ∀ {s : Sl} {q : Nat} {t : Sl}, q ≠ j → (Γ.set j s)[q]? = some t → Γ[q]? = some t := fun h e => by rwa [List.getElem?_set_ne (fun z => h z.symm)] at e
  have set_j : ∀ {s : Sl}, (Γ.set j s)[j]? = some s := List.getElem?_set_self hjl
  have hj1 : (σ.set j (some (.ref p)))[j]? = some (some (.ref p)) := List.getElem?_set_self (by rw [ev.1]; exact hjl)
  have ev1 : EnvOk K (G.own p (.dK [])) (upd H p (.dK [])) (σ.set j (some (.ref p))) (Γ.set j (.odic [])) :=
    (ev.own (l := p) (o := .dK []) (H' := upd H p (.dK [])) (by rw [vw1]; exact fun _ _ h => h)).set hjl ⟨p, [], rfl, fun H' i => Fr.own_at i, .nil⟩
  refine hi (G.own p (.dK [])) _ _ ev1 iv1 _ fun n' J H1 hn iv2 l1 w => ?_
  subst hn
  have l01 : Ex (G.view H) ((G.own p (.dK [])).view H1) := fun c u h => l1 c u (by rw [vw1]; exact h)
  let Iv : Nat → L2.St → Hp → Prop := fun i σ' H' => ∃ kvs : List (Key × V), (G.own p (.dK kvs)).inv H' ∧ Ex ((G.own p (.dK [])).view H1) ((G.own p (.dK kvs)).view H') ∧ EnvOk K (G.own p (.dK kvs)) H' σ' (Γ.set j (.odic (m.take i))) ∧ σ'[j]? = some (some (.ref p)) ∧ DqKv K ((G.own p (.dK kvs)).view H') kvs ((m.take i).map fun p => (.str p.1, p.2))
  refine ⟨fun i c σ' H' => c = m.length - i ∧ i ≤ m.length ∧ Iv i σ' H', ⟨m.length, by simp, Nat.zero_le _, [], iv2, fun _ _ h => h, by rw [List.take_zero]; exact ev1.le l1, hj1, .nil⟩, ?_⟩
  rintro i c σ2 H2 ⟨rfl, hle, kvs, iv3, e2, ev2, hd2, dk2⟩
  have w2 := w (G.own p (.dK kvs)) H2 e2 iv3
  have hlt' : i < n' := by omega
  by_cases hlt : i < m.length
  · refine .inr ⟨(w2.1 i hlt').1, fun σ' H' => i + 1 ≤ m.length ∧ Iv (i + 1) σ' H', fun σ' H' h' => ⟨m.length - (i + 1), by omega, rfl, h'⟩, fun x H3 hy => ?_⟩
    obtain ⟨iv4, l3, e, pe, dq⟩ := (w2.1 i hlt').2 x H3 hy
    have hp' := List.getElem?_eq_getElem hlt
    have hkl := DqKv.keys dk2
    refine hg i (G.own p (.dK kvs)) σ2 H3 x e (ev2.le l3) iv4 pe dq _ fun σ3 _ hs3 ev3 => ?_
    refine hb i e _ pe hp' (G.own p (.dK kvs)) σ3 H3 _ p kvs ev3 iv4 (by rw [hs3 j hjv]; exact hd2) (fun H' i' => Fr.own_at i') (by rw [hkl.1, List.length_take]; omega) fun σ4 H4 v ff iv5 l4 ev4 hj4 pf dq4 => ⟨hlt, putK kvs (.inr m[i].1) v, ?_⟩
    subst pf
    have st := Fr.own_set (o' := .dK (putK kvs (.inr m[i].1) v)) iv5
    have hpk : putK kvs (.inr m[i].1) v = kvs ++ [(.inr m[i].1, v)] := putK_fresh dk2 (hnew i _ hp')
    have dk4 : DqKv K ((G.own p (.dK kvs)).view H4) (putK kvs (.inr m[i].1) v) ((m.take (i + 1)).map fun p => (.str p.1, p.2)) := by
      rw [hpk, List.take_add_one, hp', List.map_append]
      exact ((dk2.ex l3).ex l4).append dq4
    have hwi := hw i e pe
    refine ⟨st.1, fun c u h => by rw [st.2]; exact l4 c u (l3 c u (e2 c u h)), ?_, hj4, by rw [st.2]; exact dk4⟩
    refine EnvOk.swap (j := j) (s := .odic (m.take (i + 1))) (v := .ref p) (ev4.weak (Γ' := Γ.set j .any) (by rw [List.length_set]; exact hwi.1.symm) fun q s hs => ?_) (by rw [st.2]; exact fun _ _ h => h) (by rw [List.length_set, List.length_set]) (fun q s hq hs => ?_) hj4 set_j ⟨p, _, rfl, fun H' i' => Fr.own_at i', by rw [st.2]; exact dk4⟩
    · by_cases hq : q = j
      · subst hq
        rw [set_j] at hs
        exact .inl (Option.some.inj hs).symm
      · exact hwi.2 q s hq (set_ne hq hs)
    · rcases hΓ q s hq (set_ne hq hs) with e6 | ⟨z, e6⟩
      · exact .inl e6
      · exact .inr ⟨z, e6, by rw [List.getElem?_set_ne (fun z => hq z.symm)]; exact set_ne hq hs⟩
  · obtain rfl : i = m.length := by omega
    refine .inr ⟨(w2.1 _ hlt').1, fun _ _ => False, fun _ _ h => h.elim, fun x H3 hy => ?_⟩
    obtain ⟨iv4, l3, e, pe, dq⟩ := (w2.1 _ hlt').2 x H3 hy
    refine hg _ (G.own p (.dK kvs)) σ2 H3 x e (ev2.le l3) iv4 pe dq _ fun σ3 _ hs3 ev3 => ?_
    exact hx e pe (G.own p (.dK kvs)) σ3 H3 _ ev3 iv4 (fun v d H' _ _ h => h.elim) (kx.own fun c u h => l3 c u (e2 c u (l01 c u h)))
end
end L2

set_option Elab.async false
set_option linter.all false
set_option maxRecDepth 100000
set_option maxHeartbeats 4000000
/-! Promises told by a relation; __init__s that may raise; objects made where a try waits. -/
namespace L2
open PySem PySem.Spec PyProof.Rows
open Evl (Ex)
/-- a promise told by a relation -/
def spP (K : PySem.W.Frag) (pre : List PyData → PyData → Prop) : Sp := fun vs H Q _ => ∃ (G : Fr) (ds : List PyData) (d : PyData), G.inv H ∧ DqAll K (G.view H) vs ds ∧ pre ds d ∧ ∀ v H', G.inv H' → G.le H H' → Dq K (G.view H') v d → Q v H'
section
variable {K : PySem.W.Frag} {Γ Γ' : List Sl} {te tb tv tc : TE} {ta : TA} {wi : TI} {g : TG} {tu ts : TS} {tt : TT} {P P' : PyData → Prop} {j : Nat}
theorem ev_callP {pre : List PyData → PyData → Prop} {E : XK} {d : PyData} (ds : List PyData) (h : EvL' K ta Γ (· = ds)) (hp : pre ds d) : EvD K (tCall (spP K pre) [] E ta) Γ (· = d) := fun G σ H e i Q q =>
  h G σ H e i _ fun vs ss H1 i1 l1 ⟨es, e1, e2⟩ dqs => by
    subst e2; subst e1
    rw [List.append_nil]
    exact ⟨G, es, d, i1, args_dats dqs, hp, fun v H' i' l' dq => q v _ H' i' (l1.trans l') rfl dq⟩
/-- a comprehension whose test is true for the first time at q: the first item -/
theorem ev_lcFirst {n q : Nat} {vs : List Nat} {Pi : Nat → PyData → Prop} {N : PyData → List Sl} (hq : q < n) (hn : n < 100000) (hi : EvI0 K wi Γ (· = n) Pi) (hg : ∀ i, TgOk K g vs (wipeΓ Γ vs) (Pi i) N)
    (h0 : ∀ i d, i < q → Pi i d → EvB K tt (N d) (· = false)) (h1 : ∀ d, Pi q d → EvB K tt (N d) (· = true)) (h2 : ∀ i d, q < i → Pi i d → EvB K tt (N d) (fun _ => True)) (he : ∀ i d, Pi i d → EvD K te (N d) (· = .int (i : Nat))) :
    EvD K (tLc wi g tt te vs) Γ (fun d => ∃ es, d = .list (.int (q : Nat) :: es)) := fun G σ H ev iv Q k => by
  refine hi G σ H ev iv _ fun n' J H1 hn' iv1 l1 w D hD => ?_
  subst hn'
  have ho := Fr.own_new (G := G) (o := HO.lst []) iv1 hD
  let Iv : Nat → Hp → Prop := fun i H => ∃ (acc : List V) (es : List PyData), (G.own D (.lst acc)).inv H ∧ Ex (G.view H1) ((G.own D (.lst acc)).view H) ∧ acc.length ≤ i ∧ DqAll K ((G.own D (.lst acc)).view H) acc es ∧ (i ≤ q → es = []) ∧ (q < i → ∃ tl, es = .int (q : Nat) :: tl)
  refine ⟨fun i m H => m = n' - i ∧ i ≤ n' ∧ Iv i H, ⟨n', by simp, Nat.zero_le _, [], [], ho.1, by rw [ho.2]; exact fun _ _ h => h, Nat.le_refl _, .nil, fun _ => rfl, fun h => absurd h (by omega)⟩, ?_⟩
  rintro i m H2 ⟨rfl, hle, acc, es, iv2, e2, hlen, dqs, p0, p1⟩
  have w2 := w (G.own D (.lst acc)) H2 e2 iv2
  by_cases hlt : i < n'
  · refine .inr ⟨(w2.1 i hlt).1, fun H => i + 1 ≤ n' ∧ Iv (i + 1) H, fun H' h' => ⟨n' - (i + 1), by omega, rfl, h'⟩, fun x H3 hy => ?_⟩
    obtain ⟨iv3, l3, d, pd, dq⟩ := (w2.1 i hlt).2 x H3 hy
    have ev3 : EnvOk K (G.own D (.lst acc)) H3 σ Γ := (ev.le l1).own fun c u h => l3 c u (e2 c u h)
    refine hg i (G.own D (.lst acc)) (L2.wipe σ vs) H3 x d (ev3.wipe vs) iv3 pd dq _ fun σ2 hl2 hs2 ev4 => ⟨wipe_eq hl2 hs2, ?_⟩
    -- a turn that keeps nothing, a turn that keeps the index
    have no : ∀ {H4 : Hp}, (G.own D (.lst acc)).inv H4 → (G.own D (.lst acc)).le H3 H4 → (i + 1 ≤ q → es = []) → (q < i + 1 → ∃ tl, es = .int (q : Nat) :: tl) → i + 1 ≤ n' ∧ Iv (i + 1) H4 := fun i4 l4 a b => ⟨hlt, acc, es, i4, fun c u h => l4 c u (l3 c u (e2 c u h)), by omega, (dqs.ex l3).ex l4, a, b⟩
    have yes : ∀ {H4 : Hp}, (G.own D (.lst acc)).inv H4 → (G.own D (.lst acc)).le H3 H4 → EnvOk K (G.own D (.lst acc)) H4 σ2 (N d) → (q < i + 1) → (q < i ∨ i = q) → te σ2 H4 fun y H5 => ∃ acc', H5 D = some (.lst acc') ∧ acc'.length < sizeLine ∧ (i + 1 ≤ n' ∧ Iv (i + 1) (upd H5 D (.lst (acc' ++ [y])))) := fun {H4} i4 l4 ev4' hqi hc => by
      refine he i d pd (G.own D (.lst acc)) σ2 H4 ev4' i4 _ fun y e H5 i5 l5 r5 dq5 => ⟨acc, Fr.own_at i5, by rw [sizeLine_eq]; omega, hlt, acc ++ [y], es ++ [e], ?_⟩
      have st := Fr.own_set (o' := .lst (acc ++ [y])) i5
      refine ⟨st.1, fun c u h => ?_, by rw [List.length_append]; show acc.length + 1 ≤ i + 1; omega, ?_, fun h => absurd h (by omega), fun _ => ?_⟩
      · rw [st.2]
        exact l5 c u (l4 c u (l3 c u (e2 c u h)))
      · rw [st.2]
        exact (((dqs.ex l3).ex l4).ex l5).append (.cons dq5 .nil)
      · subst r5
        rcases hc with hc | hc
        · obtain ⟨tl, e6⟩ := p1 hc
          exact ⟨tl ++ [.int (i : Nat)], by rw [e6]; rfl⟩
        · exact ⟨[], by rw [p0 (by omega), hc]; rfl⟩
    by_cases c1 : i < q
    · refine h0 i d c1 pd (G.own D (.lst acc)) σ2 H3 ev4 iv3 _ fun b H4 i4 l4 eb => ?_
      subst eb
      rw [if_neg (by decide)]
      exact no i4 l4 (fun _ => p0 (by omega)) fun h => absurd h (by omega)
    · by_cases c2 : i = q
      · subst c2
        refine h1 d pd (G.own D (.lst acc)) σ2 H3 ev4 iv3 _ fun b H4 i4 l4 eb => ?_
        subst eb
        rw [if_pos rfl]
        exact yes i4 l4 (ev4.le l4) (by omega) (.inr rfl)
      · refine h2 i d (by omega) pd (G.own D (.lst acc)) σ2 H3 ev4 iv3 _ fun b H4 i4 l4 _ => ?_
        cases b with
        | true =>
          rw [if_pos rfl]
          exact yes i4 l4 (ev4.le l4) (by omega) (.inl (by omega))
        | false =>
          rw [if_neg (by decide)]
          exact no i4 l4 (fun h => absurd h (by omega)) fun _ => p1 (by omega)
  · obtain rfl : i = n' := by omega
    obtain ⟨tl, e6⟩ := p1 hq
    exact .inl ⟨w2.2, k (.ref D) (.list es) H2 iv2.1 (l1.trans (Fr.own_le (Fr.blank hD) e2)) ⟨tl, by rw [e6]⟩ (.lst (.inl (.inl iv2.2)) (dqs.ex Fr.own_sub))⟩
/-- the truth of a list that is not empty -/
theorem eb_tru1 {e : PyData} {es : List PyData} (h : EvD K te Γ (· = .list (e :: es))) : EvB K (fun σ H Q => te σ H fun x H' => ∃ k, TruV K x H' k ∧ Q k H') Γ (· = true) := fun G σ H e i Q q =>
  h G σ H e i _ fun v d H1 i1 l1 p1 dq => by
    subst p1
    cases dq with
    | lst hs ha =>
      cases ha
      exact ⟨true, .inl ⟨_, Fr.upL hs, rfl⟩, q true H1 i1 l1 rfl⟩
theorem ev_ifT (h : EvB K tt Γ (· = true)) (hv : EvD K te Γ P) : EvD K (tIf tt te tv) Γ P := fun G σ H e i Q q => h G σ H e i _ fun b H1 i1 l1 eb => by
  subst eb
  rw [if_pos rfl]
  exact hv G σ H1 (e.le l1) i1 Q fun v d H2 i2 l2 => q v d H2 i2 (l1.trans l2)
theorem eb_notNi {n : Int} (h : EvD K te Γ (· = .int n)) : EvB K (tTest (tOp (fun x y H Q => y = .non ∧ Q (.bl (!decide (x = .non))) H) te (tC .non))) Γ (· = true) := fun G σ H e i Q q =>
  h G σ H e i _ fun v d H1 i1 l1 p1 dq => by
    subst p1
    cases dq
    exact ⟨rfl, _, rfl, q _ H1 i1 l1 (by simp)⟩
end
/-! ### an __init__ that may raise -/
def InitX (K : PySem.W.Frag) (C Cx : Addr) (E : XK) (f g : Str) (ts : TS) (Γ : List Sl) (j : Nat) (PG : Prop) (PX : PyData → PyData → Prop) : Prop := ∀ (G : Fr) (σ : L2.St) (H : Hp) (D : Ends) (x dx : Addr), EnvOk K (G.own x (.ins C dx [])) H σ Γ → (G.own x (.ins C dx [])).inv H → σ[j]? = some (some (.ref x)) →
  (∀ σ' H' us, (G.own x (.ins C dx us)).inv H' → Ex ((G.own x (.ins C dx [])).view H) ((G.own x (.ins C dx us)).view H') → PG → D.nx σ' H') → ExR K (G.own x (.ins C dx [])) Cx E f g PX H → ts D σ H
def spInitX (K : PySem.W.Frag) (C Cx : Addr) (f g : Str) (pre : List PyData → Res → Prop) : Sp := fun vs H Q E => ∃ (G : Fr) (x dx : Addr) (ws : List V) (ds : List PyData) (r : Res), vs = .ref x :: ws ∧ (G.own x (.ins C dx [])).inv H ∧ DqAll K ((G.own x (.ins C dx [])).view H) ws ds ∧ pre ds r ∧
  (∀ H' us, (G.own x (.ins C dx us)).inv H' → Ex ((G.own x (.ins C dx [])).view H) ((G.own x (.ins C dx us)).view H') → (∃ d, r = .inl d) → Q .non H') ∧ ExR K (G.own x (.ins C dx [])) Cx E f g (fun p i => r = .inr (p, i)) H
section
variable {K : PySem.W.Frag} {C Cx : Addr} {E : XK} {f g' : Str} {Γ Γ' : List Sl} {te tb tv tc : TE} {ta : TA} {tu ts : TS} {tt : TT} {P P' : PyData → Prop} {PX : PyData → PyData → Prop} {PG : Prop} {j : Nat}
theorem ix_of {f1 : List (Str × PyData)} (hg : PG) (h : Inits K C ts Γ j [] f1) : InitX K C Cx E f g' ts Γ j PG PX := fun G σ H D x dx ev iv hj k _ => h G σ H D x dx [] ev iv hj .nil fun σ' H' us i' e' _ => k σ' H' us i' e' hg
theorem ix_if (b : Bool) (h : EvB K tt Γ (· = b)) (h1 : b = true → RetX K Cx E f g' ts Γ (fun _ => False) PX) (h2 : b = false → InitX K C Cx E f g' tu Γ j PG PX) : InitX K C Cx E f g' (tSeq (tIfS tt ts tNext) tu) Γ j PG PX := fun G σ H D x dx ev iv hj k kx =>
  h _ σ H ev iv _ fun c H1 i1 l1 e => by
    subst e
    cases c with
    | true => exact h1 rfl _ σ H1 _ (ev.le l1) i1 (fun v d H' _ _ h => h.elim) (kx.le l1 fun _ _ h => h)
    | false => exact h2 rfl G σ H1 _ x dx (ev.le l1) i1 hj (fun σ' H' us i' e' => k σ' H' us i' fun c u h => e' c u (l1 c u h)) (kx.le l1 fun _ _ h => h)
theorem ix_set {i : Nat} {d : PyData} (hi : i < Γ.length) (hij : i ≠ j) (h : EvD K te Γ (· = d)) (h2 : InitX K C Cx E f g' tu (Γ.set i (.dat d)) j PG PX) : InitX K C Cx E f g' (tSeq (tAsg te (gName i)) tu) Γ j PG PX := fun G σ H D x dx ev iv hj k kx =>
  h _ σ H ev iv _ fun v e H1 i1 l1 p1 dq => by
    subst p1
    exact h2 G _ H1 _ x dx ((ev.le l1).set hi dq) i1 (by rw [List.getElem?_set_ne hij]; exact hj) (fun σ' H' us i' e' => k σ' H' us i' fun c u h => e' c u (l1 c u h)) (kx.le l1 fun _ _ h => h)
theorem ix_call {i : Nat} {pre : List PyData → Res → Prop} (ds : List PyData) (r : Res) (hi : i < Γ.length) (hij : i ≠ j) (h : EvL' K ta Γ (· = ds)) (hp : pre ds r) (hx : ∀ p i, r = .inr (p, i) → PX p i) (h2 : ∀ d, r = .inl d → InitX K C Cx E f g' tu (Γ.set i (.dat d)) j PG PX) :
    InitX K C Cx E f g' (tSeq (tAsg (tCall (spX K Cx f g' pre) [] E ta) (gName i)) tu) Γ j PG PX := fun G σ H D x dx ev iv hj k kx =>
  h _ σ H ev iv _ fun vs ss H1 i1 l1 ⟨es, e1, e2⟩ dqs => by
    subst e1
    subst e2
    rw [List.append_nil]
    refine ⟨_, es, r, i1, args_dats dqs, hp, fun v d H2 i2 l2 pv dq => ?_, kx.le l1 hx⟩
    exact h2 d pv G _ H2 _ x dx ((ev.le (l1.trans l2)).set hi dq) i2 (by rw [List.getElem?_set_ne hij]; exact hj) (fun σ' H' us i' e' => k σ' H' us i' fun c u h => e' c u ((l1.trans l2) c u h)) (kx.le (l1.trans l2) fun _ _ h => h)
end
/-! ### an object is made where the way out depends on the places -/
section
variable {X : Cx} {CX : CXT} {k : Nat} {f C : Addr} {fd : FuncData} {ps : List Str} {sp : Sp} {E : St → XK} {x : Str} {p pos : Pos} {e : Expr} {es : List Expr} {t : TA}
def tMakeS (C : Addr) (sp : Sp) (E : St → XK) (t : TA) : TE := fun σ H Q => t σ H fun vs H1 => ∀ x dx, H1 x = none → H1 dx = none → dx ≠ x → sp (.ref x :: vs) (upd (upd H1 dx (.own x)) x (.ins C dx [])) (fun v H2 => v = .non ∧ Q (.ref x) H2) (E σ)
theorem run_makeS {pins : List (Addr × Obj)} {σ : St} {H : Hp} {s : Shared} {Q : VK} {us : List Value} {vs : List V} (M : Mk X.K C f) (F : FnOk X.prog X.w X.K X.mg X.base CX k f fd ps sp) (hr : Room (k + 1) X.A) (hb : Binds X.K fd ps [])
    (hx : PassesAt CX X σ (E σ)) (I : Inv X pins σ H s) (r : Vals vs us)
    (h : ∀ x dx, H x = none → H dx = none → dx ≠ x → sp (.ref x :: vs) (upd (upd H dx (.own x)) x (.ins C dx [])) (fun v H2 => v = .non ∧ Q (.ref x) H2) (E σ)) :
    wpAny (model X.prog X.w) X.A (call (.ref C) us) (EP X pins σ Q) X.xe s := by
  have hq := h (s.heap.objs.size + 1) s.heap.objs.size (I.hok.fresh (Nat.le_succ _)) (I.hok.fresh (Nat.le_refl _)) (Nat.ne_of_lt (Nat.lt_succ_self _))
  have I2 := Inv.made (C := C) I
  have r2 : Vals (V.ref (s.heap.objs.size + 1) :: vs) (Value.ref (s.heap.objs.size + 1) :: us) := .cons rfl r
  have hl : (Value.ref (s.heap.objs.size + 1) :: us).length = ps.length := by
    have e := r2.length
    rw [F.len _ _ _ _ hq] at e
    exact e.symm
  have hb2 := hb _ (Value.ref (s.heap.objs.size + 1) :: us) I2.kIn (by rw [List.append_nil]; exact hl)
  rw [List.append_nil] at hb2
  refine wpAny_call (make_map (f := f) I.kIn M.makes M.init (beq_iff_eq.mp M.fn) (codeAny_mono (F.run _ X.stack _ _ ⟨Value.ref (s.heap.objs.size + 1) :: us, []⟩ (Value.ref (s.heap.objs.size + 1) :: us) _ _ (E σ) (hr.make C us [])
    (I2.env0.make C us []) hb2 r2 hq) fun r s' hq' => ?_))
  cases r with
  | error e => exact hx pins _ _ e s' I2 hq'
  | ok fl =>
    cases fl with
    | ret u =>
      obtain ⟨v, H', I3, rv, ev, q3⟩ := I2.after hq'
      subst ev
      exact ⟨rv, ⟨V.ref (s.heap.objs.size + 1), H', I3, rfl, q3⟩⟩
    | next => exact False.elim hq'
    | brk => exact False.elim hq'
    | cont => exact False.elim hq'
theorem pe_makeS (M : Mk X.K C f) (F : FnOk X.prog X.w X.K X.mg X.base CX k f fd ps sp) (hr : Room (k + 1) X.A) (hg : Gl X x) (hm : X.mg x = some (.ref C)) (hb : Binds X.K fd ps []) (hx : ∀ σ, PassesAt CX X σ (E σ))
    (ha : PA X (e :: es) t) (hdb : (x == ("__debug__" : Str)) = false := by decide) (he : starEach (e :: es) X.env = (false, eval e X.env) :: starEach es X.env := by rfl) (hpl : (backTo pos (starEach es X.env)).any (·.1) = false := by rfl) :
    PE X (.Call (.Name x p) (e :: es) [] pos) (tMakeS C sp E t) := by
  refine ⟨fun pins s σ H Q I h => ?_⟩
  refine wpAny_Call_Name_kw (ld_glob I hg hm ?_ hdb)
  refine PySem.W.callWith_K (h₀ := X.base) I.ok.mod.kin M.kp (thn (ha.run pos pins s σ H _ I h) fun us s1 ⟨vs, H1, I1, r, q⟩ => ⟨I1.kIn, ?_⟩) he hpl
  exact run_makeS M F hr hb (hx σ) I1 r q
end
end L2

set_option Elab.async false
set_option linter.all false
set_option maxRecDepth 100000
set_option maxHeartbeats 4000000
/-! Lists times numbers, empty dicts, lists against the empty list. -/
namespace L2
open PySem PySem.Spec PyProof.Rows
open Evl (Ex)
section
variable {K : PySem.W.Frag} {Γ Γ' : List Sl} {te tb tv tc : TE} {ta : TA} {wi : TI} {g : TG} {tu ts : TS} {tt : TT} {P P' : PyData → Prop} {j : Nat} {Γ2 : List Sl}
theorem ev_dnew : EvD K tDNewK Γ (· = .dict []) := fun G σ H e i Q q p hp => by
  obtain ⟨i2, l2, h2⟩ := Fr.new (o := HO.dK []) i hp
  exact q _ _ _ i2 l2 rfl (.dic h2 .nil)
theorem en_lst {ds : List PyData} (h : EvL' K ta Γ (· = ds)) (hn : ds.length ≤ 100000 := by exact Nat.le_of_ble_eq_true rfl) : EvN K (tLst ta) Γ (· = ds) := fun G σ H ev iv Q q =>
  h G σ H ev iv _ fun vs ss H1 i1 l1 ⟨es, e1, e2⟩ dqs => by
    subst e1
    subst e2
    have dqs := args_dats dqs
    refine ⟨by rw [dqs.length, sizeLine_eq]; omega, fun p hp => ?_⟩
    obtain ⟨i3, v3⟩ := Fr.own_new (G := G) (o := HO.lst vs) i1 hp
    exact q p vs es _ i3 (by rw [v3]; exact l1) rfl (by rw [v3]; exact dqs)
theorem flat_rep {α : Type} (x : α) : ∀ n : Nat, (List.replicate n [x]).flatten = List.replicate n x
  | 0 => rfl
  | n + 1 => by rw [List.replicate_succ, List.flatten_cons, flat_rep x n, List.replicate_succ]; rfl
theorem dq_rep {H : Hp} {v : V} {d : PyData} (h : Dq K H v d) : ∀ n : Nat, DqAll K H (List.replicate n v) (List.replicate n d)
  | 0 => .nil
  | n + 1 => .cons h (dq_rep h n)
/-- [d] * n -/
theorem ev_repN {d : PyData} {n : Nat} (hn : n ≤ 1000) (h : EvN K te Γ (· = [d])) (h2 : EvD K tb Γ (· = .int n)) : EvD K (tOp rRep te tb) Γ (· = .list (List.replicate n d)) := fun G σ H ev iv Q q =>
  h G σ H ev iv _ fun l vs ds H1 i1 x1 p1 dqs => by
    subst p1
    cases dqs with
    | @cons v _ _ _ dq t =>
      cases t
      refine h2 _ σ H1 (ev.own x1) i1 _ fun v2 d2 H2 i2 l2 p2 dq2 => ?_
      subst p2
      cases dq2
      refine ⟨l, n, [v], rfl, rfl, Fr.own_at i2, by omega, by omega, by rw [sizeLine_eq]; simp only [List.length_singleton, Int.toNat_natCast]; omega, fun p hp => ?_⟩
      rw [Int.toNat_natCast, flat_rep]
      obtain ⟨i3, l3, h3⟩ := Fr.new (o := HO.lst (List.replicate n v)) i2 hp
      refine q _ _ _ i3.1 (fun c u hc => (hide_some (l3 c u (l2 c u (x1 c u hc)))).2) rfl (.lst (.inl (.inl (hide_some h3).2)) (dq_rep (((dq.ex l2).ex l3).ex Fr.own_sub) n))
/-- a list that is compared with the empty one -/
theorem eb_neNil {n : Nat} {ds : List PyData} (hn : n < 64) (ha : EvD K te Γ (· = .list ds)) (ho : ∀ e ∈ ds, okD n e = true) : EvB K (tTest (tOp (rNeD K) te (tLst tNil))) Γ (· = !ds.isEmpty) := fun G σ H ev iv Q q =>
  ha G σ H ev iv _ fun v d1 H1 i1 l1 p1 dq => by
    subst p1
    cases dq with
    | @lst a vs _ hs e3 =>
      refine ⟨Nat.zero_le _, fun p hp => ?_⟩
      obtain ⟨i2, l2, h2⟩ := Fr.new (o := HO.lst []) i1 hp
      have hd : DqAll K (upd H1 p (HO.lst [])) vs ds := (e3.ex l2).ex fun _ _ => G.sub
      have key : ∀ (xs : List V) (ds : List PyData), (∀ e ∈ ds, okD n e = true) → DqAll K (upd H1 p (HO.lst [])) xs ds → DpAll K (upd H1 p (HO.lst [])) xs ds := by
        intro xs
        induction xs with
        | nil => intro ds _ a; cases a; exact .nil
        | cons x xs ih =>
          intro ds hd a
          cases a with
          | cons h1 t1 => exact .cons (dq_dp n (hd _ List.mem_cons_self) h1) (ih _ (fun e he => hd e (List.mem_cons_of_mem _ he)) t1)
      have lay : ∀ ys : List PyData, (∀ e ∈ ys, okD n e = true) → PyData.canLayAll0 ys = true ∧ PyData.depthAll ys ≤ n := by
        intro ys
        induction ys with
        | nil => exact fun _ => ⟨by simp only [PyData.canLayAll0], by simp only [PyData.depthAll]; omega⟩
        | cons y ys ih =>
          intro hy
          have h1 := okD_lay n y (hy y List.mem_cons_self)
          have h2 := ih fun e he => hy e (List.mem_cons_of_mem _ he)
          exact ⟨by simp only [PyData.canLayAll0]; rw [h1.1, h2.1]; rfl, by simp only [PyData.depthAll]; omega⟩
      have sh : SeqAt.shaped (.list ds) = true := by
        have l := lay ds ho
        show (PyData.canLay0 (.list ds) && decide (PyData.depth (.list ds) ≤ 64)) = true
        have q1 : PyData.canLay0 (.list ds) = true := by simp only [PyData.canLay0]; exact l.1
        have q2 : PyData.depth (.list ds) ≤ 64 := by simp only [PyData.depth]; omega
        rw [q1, decide_eq_true q2]
        rfl
      refine ⟨.list ds, .list [], .lst (Fr.upL (exL l2 hs)) (key vs ds ho hd), .lst (SqL.of upd_same) .nil, sh, by decide, _, rfl, q _ _ i2 (l1.trans l2) ?_⟩
      cases ds with
      | nil => rfl
      | cons d ds => simp only [PyData.eqv, PyData.eqvAll]; rfl
theorem el1L {ds : List PyData} (h : EvD K te Γ (· = .list ds)) : EvL' K (tCons te tNil) Γ (fun zs => zs = [.list ds] ∨ zs = [.tuple ds]) := (elc h el_nil).imp fun zs e => .inl e
theorem el1T {ds : List PyData} (h : EvD K te Γ (· = .tuple ds)) : EvL' K (tCons te tNil) Γ (fun zs => zs = [.list ds] ∨ zs = [.tuple ds]) := (elc h el_nil).imp fun zs e => .inr e
theorem ev_listOf {ds : List PyData} (h : EvL' K ta Γ (fun zs => zs = [.list ds] ∨ zs = [.tuple ds])) : EvD K (tCB (fun xs H Q => ∃ p ys, xs = [.ref p] ∧ (SqL K H p ys ∨ SqT K H p ys) ∧ ∀ l, H l = none → Q (.ref l) (upd H l (.lst ys))) ta) Γ (· = .list ds) := fun G σ H ev iv Q q =>
  h G σ H ev iv _ fun vs ss H1 iv1 l1 ⟨zs, e1, e2⟩ dqs => by
    subst e1
    rcases e2 with e2 | e2
    · subst e2
      have dqs := args_dats dqs
      cases dqs with
      | cons h1 t1 =>
        cases t1
        cases h1 with
        | @lst a xs _ hs ha =>
          refine ⟨a, xs, rfl, .inl (Fr.upL hs), fun p hp => ?_⟩
          obtain ⟨i3, l3, h3⟩ := Fr.new (o := HO.lst xs) iv1 hp
          exact q _ _ _ i3 (l1.trans l3) rfl (.lst (.inl (.inl h3)) (ha.ex l3))
    · subst e2
      have dqs := args_dats dqs
      cases dqs with
      | cons h1 t1 =>
        cases t1
        cases h1 with
        | @tup a xs _ hs ha =>
          refine ⟨a, xs, rfl, .inr (Fr.upT hs), fun p hp => ?_⟩
          obtain ⟨i3, l3, h3⟩ := Fr.new (o := HO.lst xs) iv1 hp
          exact q _ _ _ i3 (l1.trans l3) rfl (.lst (.inl (.inl h3)) (ha.ex l3))
/-- a promise of slots, told by a ghost -/
def spS (K : PySem.W.Frag) {γ : Type} (pre : γ → List Sl → Prop) (post : γ → PyData → Prop) : Sp := fun vs H Q _ => ∃ (G : Fr) (ss : List Sl) (c : γ), G.inv H ∧ ArgsOk K G H vs ss ∧ pre c ss ∧ ∀ v d H', G.inv H' → G.le H H' → post c d → Dq K (G.view H') v d → Q v H'
theorem ev_callG {γ : Type} {pre : γ → List Sl → Prop} {post : γ → PyData → Prop} {PS : List Sl → Prop} {E : XK} (c : γ) (h : EvS K ta Γ PS) (hp : ∀ ss, PS ss → pre c ss) : EvD K (tCall (spS K pre post) [] E ta) Γ (post c) := fun G σ H e i Q q =>
  h G σ H e i _ fun vs ss H1 i1 l1 p1 as => by
    rw [List.append_nil]
    exact ⟨G, ss, c, i1, as, hp ss p1, fun v d H' i' l' p' dq => q v d H' i' (l1.trans l') p' dq⟩
/-- a block that goes through: the places behind it -/
def Thru (K : PySem.W.Frag) (ts : TS) (Γ Γ' : List Sl) : Prop := ∀ (G : Fr) (σ : L2.St) (H : Hp) (D : Ends), EnvOk K G H σ Γ → G.inv H → (∀ σ' H', G.inv H' → G.le H H' → EnvOk K G H' σ' Γ' → D.nx σ' H') → ts D σ H
theorem th_next : Thru K tNext Γ Γ := fun G σ H D ev iv k => k σ H iv .refl ev
theorem th_seq (h : Thru K ts Γ Γ') (h2 : Thru K tu Γ' Γ2) : Thru K (tSeq ts tu) Γ Γ2 := fun G σ H D ev iv k =>
  h G σ H _ ev iv fun σ' H' i' l' ev' => h2 G σ' H' _ ev' i' fun σ2 H2 i2 l2 => k σ2 H2 i2 (l'.trans l2)
theorem th_set {i : Nat} {d : PyData} (hi : i < Γ.length) (h : EvD K te Γ (· = d)) : Thru K (tAsg te (gName i)) Γ (Γ.set i (.dat d)) := fun G σ H D ev iv k =>
  h G σ H ev iv _ fun v e H1 i1 l1 p1 dq => by
    subst p1
    exact k _ H1 i1 l1 ((ev.le l1).set hi dq)
theorem th_setV {i : Nat} {s : Sl} (hi : i < Γ.length) (h : EvV K te Γ s) : Thru K (tAsg te (gName i)) Γ (Γ.set i s) := fun G σ H D ev iv k =>
  h G σ H ev iv _ fun v H1 i1 l1 hs => k _ H1 i1 l1 ((ev.le l1).set hi hs)
theorem th_if {b : Bool} (h : EvB K tt Γ (· = b)) (h1 : b = true → Thru K ts Γ Γ') (h2 : b = false → Thru K tu Γ Γ') : Thru K (tIfS tt ts tu) Γ Γ' := fun G σ H D ev iv k =>
  h G σ H ev iv _ fun c H1 i1 l1 e => by
    subst e
    cases c with
    | true => exact h1 rfl G σ H1 D (ev.le l1) i1 fun σ' H' i' l' => k σ' H' i' (l1.trans l')
    | false => exact h2 rfl G σ H1 D (ev.le l1) i1 fun σ' H' i' l' => k σ' H' i' (l1.trans l')
theorem th_weak (h : Thru K ts Γ Γ') (hl : Γ'.length = Γ2.length) (hw : ∀ (i : Nat) s, Γ2[i]? = some s → s = .any ∨ Γ'[i]? = some s) : Thru K ts Γ Γ2 := fun G σ H D ev iv k => h G σ H D ev iv fun σ' H' i' l' ev' => k σ' H' i' l' (ev'.weak hl hw)
/-- a loop whose turns go through -/
theorem th_for {n : Nat} {vs : List Nat} {Pi : Nat → PyData → Prop} {N : Nat → PyData → List Sl} (hi : EvI0 K wi Γ (· = n) Pi) (hg : ∀ i, TgOk K g vs Γ (Pi i) (N i)) (hb : ∀ i e, i < n → Pi i e → Thru K ts (N i e) Γ) : Thru K (tFor wi g ts) Γ Γ := fun G σ H D ev iv k => by
  refine hi G σ H ev iv _ fun n' J H1 hn iv1 l1 w => ?_
  subst hn
  refine ⟨fun i c σ' H' => c = n' - i ∧ i ≤ n' ∧ G.inv H' ∧ G.le H1 H' ∧ EnvOk K G H' σ' Γ, ⟨n', by simp, Nat.zero_le _, iv1, .refl, ev.le l1⟩, ?_⟩
  rintro i c σ2 H2 ⟨rfl, hle, iv2, l2, ev2⟩
  have w2 := w G H2 l2 iv2
  by_cases hlt : i < n'
  · refine .inr ⟨(w2.1 i hlt).1, fun σ' H' => i + 1 ≤ n' ∧ G.inv H' ∧ G.le H1 H' ∧ EnvOk K G H' σ' Γ, fun σ' H' h' => ⟨n' - (i + 1), by omega, rfl, h'⟩, fun x H3 hy => ?_⟩
    obtain ⟨iv3, l3, e, pe, dq⟩ := (w2.1 i hlt).2 x H3 hy
    exact hg i G σ2 H3 x e (ev2.le l3) iv3 pe dq _ fun σ3 _ _ ev3 => hb i e hlt pe G σ3 H3 _ ev3 iv3 fun σ4 H4 i4 l4 ev4 => ⟨hlt, i4, (l2.trans l3).trans l4, ev4⟩
  · obtain rfl : i = n' := by omega
    exact .inl ⟨w2.2, k σ2 H2 iv2 (l1.trans l2) ev2⟩
theorem rs_thru (h : Thru K ts Γ Γ') (h2 : Rets K tu Γ' P) : Rets K (tSeq ts tu) Γ P := fun G σ H D ev iv k =>
  h G σ H _ ev iv fun σ' H' i' l' ev' => h2 G σ' H' D ev' i' fun v d H2 i2 l2 => k v d H2 i2 (l'.trans l2)
/-- the object of a place -/
theorem ev_varV {i : Nat} {s : Sl} (hs : s ≠ .any) (h : Γ[i]? = some s) : EvV K (tVar i) Γ s := fun G σ H e iv Q q => by
  rcases e.2 i _ h with z | ⟨v, a, b⟩
  · exact absurd z hs
  · exact ⟨v, a, q v H iv .refl b⟩
theorem th_nil : Thru K tNext Γ Γ := fun G σ H D ev iv k => k σ H iv .refl ev
theorem Thru.weak (h : Thru K ts Γ Γ') (hl : Γ'.length = Γ2.length) (hw : ∀ (i : Nat) (s : Sl), Γ2[i]? = some s → s = .any ∨ Γ'[i]? = some s) : Thru K ts Γ Γ2 := fun G σ H D ev iv k =>
  h G σ H D ev iv fun σ' H' i' l' ev' => k σ' H' i' l' (EnvOk.weak ev' hl hw)
end
end L2

set_option Elab.async false
set_option linter.all false
set_option maxRecDepth 100000
set_option maxHeartbeats 4000000
/-! A text of one sign times a number; parts of expressions that are told by a predicate. -/
namespace L2
open PySem PySem.Spec PyProof.Rows
open Evl (Ex)
theorem foldl_size (a : Array Nat) : ∀ (n : Nat) (b : Array Nat), ((List.replicate n a).foldl (· ++ ·) b).size = b.size + n * a.size
  | 0, b => by simp
  | n + 1, b => by
    rw [List.replicate_succ, List.foldl_cons, foldl_size a n, Array.size_append, Nat.succ_mul]
    omega
def repS (z : Str) (k : Nat) : Str := ⟨(List.replicate k z.cps).foldl (· ++ ·) #[]⟩
theorem repS_len {z : Str} {k : Nat} (hz : z.length = 1) : (repS z k).length = k := by
  show ((List.replicate k z.cps).foldl (· ++ ·) #[]).size = k
  rw [foldl_size]
  have hz : z.cps.size = 1 := hz
  rw [hz]
  simp
def rRepS : R2 := fun x y H Q => ∃ (z : Str) (k : Nat), x = .str z ∧ y = .int k ∧ z.length = 1 ∧ 2 ≤ k ∧ k ≤ 1000 ∧ Q (.str (repS z k)) H
section
variable {X : Cx}
theorem op_repS : OpR X (binaryOp .Mult) rRepS := by
  intro pins s σ H x y v u Q I rx ry h
  obtain ⟨z, k, rfl, rfl, hz, k1, k2, q⟩ := h
  obtain ⟨t, rfl⟩ := rx
  obtain ⟨t', rfl⟩ := ry
  have hn : ¬ ((k : Nat) : Int) < 1 := by omega
  refine PySem.P.mul_str ?_ (fun _ _ => ?_) (fun _ _ => ?_) ?_
  · rw [decide_eq_false (by omega), decide_eq_false (by omega)]
    rfl
  · rw [hz]
    have : (1 : Int) ≤ (2 ^ 63 - 1) / ((k : Nat) : Int) := Int.le_ediv_of_mul_le (by omega) (by omega)
    omega
  · rw [hz]
    show decide (_ > sizeLine) = false
    refine decide_eq_false ?_
    rw [sizeLine_eq, Int.toNat_natCast]
    omega
  · rw [if_neg hn]
    have c : ¬ (((k : Nat) : Int) == 1 || z.length == 0) = true := by
      rw [hz]
      intro c
      have c : (((k : Nat) : Int) == 1) = true := by simpa using c
      have := eq_of_beq c
      omega
    rw [if_neg c, Int.toNat_natCast]
    refine ⟨?_, .str _, _, I.tok _, ⟨_, rfl⟩, q⟩
    have := repS_len (k := k) hz
    show (repS z k).length ≤ sizeLine
    rw [this, sizeLine_eq]
    omega
end
section
variable {K : PySem.W.Frag} {Γ Γ' : List Sl} {te tb : TE} {ta : TA} {wi : TI} {g : TG} {tu ts : TS} {tt : TT} {P P' : PyData → Prop} {Q1 : List PyData → Prop} {ds fs : List PyData} {lo hi : Option Int} {tl th : TO}
/-- '1' * n -/
theorem ev_repS {z : Str} {k : Nat} (hz : z.length = 1) (k1 : 2 ≤ k) (k2 : k ≤ 1000) (h : EvD K te Γ (· = .str z)) (h2 : EvD K tb Γ (· = .int k)) : EvD K (tOp rRepS te tb) Γ (· = .str (repS z k)) := fun G σ H e i Q q =>
  h G σ H e i _ fun v d1 H1 i1 l1 p1 dq => h2 G σ H1 (e.le l1) i1 _ fun v2 d2 H2 i2 l2 p2 dq2 => by
    subst p1; subst p2
    cases dq; cases dq2
    exact ⟨z, k, rfl, rfl, hz, k1, k2, q _ _ H2 i2 (l1.trans l2) rfl (.str _)⟩
/-- l + m, m told by a predicate -/
theorem ev_catLP (h : EvD K te Γ (· = .list ds)) (h2 : EvD K tb Γ (fun d => ∃ es, d = .list es ∧ Q1 es)) (hn : ∀ es, Q1 es → ds.length + es.length ≤ 100000) : EvD K (tOp (rCatS K) te tb) Γ (fun d => ∃ es, d = .list (ds ++ es) ∧ Q1 es) := fun G σ H e i Q q =>
  h G σ H e i _ fun v d1 H1 i1 l1 p1 dq => h2 G σ H1 (e.le l1) i1 _ fun v2 d2 H2 i2 l2 ⟨es, p2, pe⟩ dq2 => by
    subst p1; subst p2
    cases dq with
    | @lst a xs _ hs ha =>
      cases dq2 with
      | @lst b ys _ ks ka =>
        refine ⟨a, b, xs, ys, rfl, rfl, Fr.upL (exL l2 hs), Fr.upL ks, by have := hn es pe; rw [ha.length, ka.length, sizeLine_eq]; omega, fun p hp => ?_⟩
        obtain ⟨i4, l4, h4⟩ := Fr.new (o := HO.lst (xs ++ ys)) i2 hp
        exact q _ _ _ i4 ((l1.trans l2).trans l4) ⟨es, rfl, pe⟩ (.lst (.inl (.inl h4)) (((ha.ex l2).append ka).ex l4))
/-- l + m, l told by a predicate -/
theorem ev_catPL (h : EvD K te Γ (fun d => ∃ es, d = .list es ∧ Q1 es)) (h2 : EvD K tb Γ (· = .list fs)) (hn : ∀ es, Q1 es → es.length + fs.length ≤ 100000) : EvD K (tOp (rCatS K) te tb) Γ (fun d => ∃ es, d = .list (es ++ fs) ∧ Q1 es) := fun G σ H e i Q q =>
  h G σ H e i _ fun v d1 H1 i1 l1 ⟨es, p1, pe⟩ dq => h2 G σ H1 (e.le l1) i1 _ fun v2 d2 H2 i2 l2 p2 dq2 => by
    subst p1; subst p2
    cases dq with
    | @lst a xs _ hs ha =>
      cases dq2 with
      | @lst b ys _ ks ka =>
        refine ⟨a, b, xs, ys, rfl, rfl, Fr.upL (exL l2 hs), Fr.upL ks, by have := hn es pe; rw [ha.length, ka.length, sizeLine_eq]; omega, fun p hp => ?_⟩
        obtain ⟨i4, l4, h4⟩ := Fr.new (o := HO.lst (xs ++ ys)) i2 hp
        exact q _ _ _ i4 ((l1.trans l2).trans l4) ⟨es, rfl, pe⟩ (.lst (.inl (.inl h4)) (((ha.ex l2).append ka).ex l4))
theorem ev_slLP (h : EvD K te Γ (fun d => ∃ es, d = .list es ∧ Q1 es)) (h1 : EvO K tl Γ lo) (h2 : EvO K th Γ hi) : EvD K (tSl (rSlL K) te tl th) Γ (fun d => ∃ es, d = .list (cutQ es lo hi) ∧ Q1 es) := fun G σ H e i Q q =>
  h G σ H e i _ fun v d H1 i1 l1 ⟨es, p1, pe⟩ dq => by
    subst p1
    cases dq with
    | @lst a xs _ hs ha =>
      refine h1 G σ H1 (e.le l1) i1 _ fun H2 i2 l2 => h2 G σ H2 (e.le (l1.trans l2)) i2 _ fun H3 i3 l3 => ?_
      refine ⟨a, xs, rfl, Fr.upL (exL (l2.trans l3) hs), fun p hp => ?_⟩
      obtain ⟨i4, l4, h4⟩ := Fr.new (o := HO.lst (cutV xs lo hi)) i3 hp
      refine q _ _ _ i4 (((l1.trans l2).trans l3).trans l4) ⟨es, rfl, pe⟩ (.lst (.inl (.inl h4)) ?_)
      have ha' := ((ha.ex l2).ex l3).ex l4
      unfold cutV cutQ
      rw [← ha.length]
      exact (ha'.drop _).take _
theorem cutQ_head (ds : List PyData) (n : Nat) : cutQ ds none (some (n : Int)) = ds.take n := by
  by_cases h : n ≤ ds.length
  · exact cutQ_take h
  · have h0 : HT.sIx ds.length 0 none = 0 := rfl
    unfold cutQ
    rw [h0, List.drop_zero, Nat.sub_zero, List.take_of_length_le (l := ds) (i := n) (by omega)]
    refine List.take_of_length_le ?_
    unfold HT.sIx
    simp only
    split <;> omega
theorem th_setP {i : Nat} (hi : i < Γ.length) (h : EvD K te Γ P) (h2 : ∀ d, P d → Thru K tu (Γ.set i (.dat d)) Γ') : Thru K (tSeq (tAsg te (gName i)) tu) Γ Γ' := fun G σ H D ev iv k =>
  h G σ H ev iv _ fun v d H1 i1 l1 p dq => h2 d p G _ H1 D ((ev.le l1).set hi dq) i1 fun σ' H' i' l' => k σ' H' i' (l1.trans l')
theorem rs_weak (h : Rets K ts Γ' P) (hl : Γ.length = Γ'.length) (hw : ∀ (i : Nat) s, Γ'[i]? = some s → s = .any ∨ Γ[i]? = some s) : Rets K ts Γ P := fun G σ H D ev iv k => h G σ H D (ev.weak hl hw) iv k
theorem rs_parP {i j : Nat} {PL : List PyData → Prop} {Q2 : PyData → PyData → Prop} (hi : i < Γ.length) (hj : j < Γ.length) (h : EvL' K ta Γ PL) (hp : ∀ ds, PL ds → ∃ a b, ds = [a, b] ∧ Q2 a b) (h2 : ∀ a b, Q2 a b → Rets K tu ((Γ.set i (.dat a)).set j (.dat b)) P) : Rets K (tSeq (tPar i j ta) tu) Γ P := fun G σ H D ev iv k =>
  h G σ H ev iv _ fun vs ss H1 i1 l1 ⟨ds, e1, e2⟩ dqs => by
    obtain ⟨a, b, e3, pq⟩ := hp ds e2
    subst e3; subst e1
    have dqs := args_dats dqs
    cases dqs with
    | cons h1 t1 =>
      cases t1 with
      | cons h3 t3 =>
        cases t3
        exact ⟨_, _, rfl, h2 a b pq G _ H1 _ (((ev.le l1).set (s := .dat a) hi h1).set (s := .dat b) (by rw [List.length_set]; exact hj) h3) i1 fun v d H' i' l' => k v d H' i' (l1.trans l')⟩
end
end L2

set_option Elab.async false
set_option linter.all false
set_option maxRecDepth 100000
set_option maxHeartbeats 4000000
/-! Lists that are read while they are filled; numbers that are added up; more of zip. -/
namespace L2
open PySem PySem.Spec PyProof.Rows
open Evl (Ex)
section
variable {K : PySem.W.Frag} {Γ Γ' Γ2 : List Sl} {te tb tc tl : TE} {ta : TA} {P P' P1 P2 : PyData → Prop} {tu ts : TS} {tt : TT} {wi : TI} {g : TG} {i j : Nat} {ds es : List PyData} {N : List PyData → List Sl → Prop}
theorem th_forI {Γl : Nat → List Sl} {n : Nat} {vs : List Nat} {Pi : Nat → PyData → Prop} {N : Nat → PyData → List Sl} (hi : EvI0 K wi (Γl 0) (· = n) Pi) (hg : ∀ i, TgOk K g vs (Γl i) (Pi i) (N i)) (hb : ∀ i e, i < n → Pi i e → Thru K ts (N i e) (Γl (i + 1))) : Thru K (tFor wi g ts) (Γl 0) (Γl n) := fun G σ H D ev iv k => by
  refine hi G σ H ev iv _ fun n' J H1 hn iv1 l1 w => ?_
  subst hn
  refine ⟨fun i c σ' H' => c = n' - i ∧ i ≤ n' ∧ G.inv H' ∧ G.le H1 H' ∧ EnvOk K G H' σ' (Γl i), ⟨n', by simp, Nat.zero_le _, iv1, .refl, ev.le l1⟩, ?_⟩
  rintro i c σ2 H2 ⟨rfl, hle, iv2, l2, ev2⟩
  have w2 := w G H2 l2 iv2
  by_cases hlt : i < n'
  · refine .inr ⟨(w2.1 i hlt).1, fun σ' H' => i + 1 ≤ n' ∧ G.inv H' ∧ G.le H1 H' ∧ EnvOk K G H' σ' (Γl (i + 1)), fun σ' H' h' => ⟨n' - (i + 1), by omega, rfl, h'⟩, fun x H3 hy => ?_⟩
    obtain ⟨iv3, l3, e, pe, dq⟩ := (w2.1 i hlt).2 x H3 hy
    exact hg i G σ2 H3 x e (ev2.le l3) iv3 pe dq _ fun σ3 _ _ ev3 => hb i e hlt pe G σ3 H3 _ ev3 iv3 fun σ4 H4 i4 l4 ev4 => ⟨hlt, i4, (l2.trans l3).trans l4, ev4⟩
  · obtain rfl : i = n' := by omega
    exact .inl ⟨w2.2, k σ2 H2 iv2 (l1.trans l2) ev2⟩
/-- x op= e of ints -/
theorem th_aug {f : Int → Int → Int} {a b : Int} (hi : i < Γ.length) (hs : Γ[i]? = some (.dat (.int a))) (h : EvD K te Γ (· = .int b)) : Thru K (tAug i te (ipI f)) Γ (Γ.set i (.dat (.int (f a b)))) := fun G σ H D ev iv k => by
  rcases ev.2 i _ hs with z | ⟨v, hv, dv⟩
  · cases z
  · have dv : Dq K (G.view H) v (.int a) := dv
    cases dv
    refine ⟨_, hv, h G σ H ev iv _ fun v2 d2 H2 i2 l2 p2 dq => ?_⟩
    subst p2
    cases dq
    exact ⟨_, _, rfl, rfl, k _ H2 i2 l2 ((ev.le l2).set hi (show Dq K _ _ _ from .int _))⟩
theorem th_drop (h : EvD K te Γ P) : Thru K (tDrop te) Γ Γ := fun G σ H D ev iv k => h G σ H ev iv _ fun v d H1 i1 l1 p1 dq => k σ H1 i1 l1 (ev.le l1)
theorem ev_sum {ns : List Int} (h : EvD K te Γ (· = .list (ns.map .int))) : EvD K (tCB (rSum K) (tCons te tNil)) Γ (· = .int ns.sum) := fun G σ H e iv Q q =>
  h G σ H e iv _ fun v d H1 i1 l1 p1 dq => by
    subst p1
    cases dq with
    | lst hs ha =>
      have key : ∀ {vs : List V} {ns : List Int}, DqAll K (G.view H1) vs (ns.map .int) → vs = ns.map V.int := by
        intro vs ns
        induction ns generalizing vs with
        | nil => intro h; cases h; rfl
        | cons n ns ih =>
          intro h
          cases h with
          | cons a t =>
            cases a
            rw [ih t]
            rfl
      have := key ha
      subst this
      exact ⟨_, ns, rfl, Fr.upL hs, q _ _ H1 i1 l1 rfl (.int _)⟩
theorem dq_atI {H : Hp} {vs : List V} {m : Int} {d : PyData} (h : DqAll K H vs ds) (hd : atI ds m = some d) : ∃ v, atI vs m = some v ∧ Dq K H v d := by
  unfold atI at hd ⊢
  rw [h.length]
  cases hx : ixN ds.length m with
  | none => rw [hx] at hd; cases hd
  | some q =>
    rw [hx] at hd
    exact h.get' hd
theorem ev_ixLm {m : Int} {d : PyData} (h : EvD K te Γ (· = .list ds)) (h2 : EvD K tb Γ (· = .int m)) (hd : atI ds m = some d) : EvD K (tOp (rIxL K) te tb) Γ (· = d) := fun G σ H e i Q q =>
  h G σ H e i _ fun v d1 H1 i1 l1 p1 dq => h2 G σ H1 (e.le l1) i1 _ fun v2 d2 H2 i2 l2 p2 dq2 => by
    subst p1; subst p2
    cases dq2
    cases dq with
    | lst hs ha =>
      obtain ⟨x, hx, dx⟩ := dq_atI ha hd
      exact ⟨_, _, _, x, rfl, rfl, Fr.upL (exL l2 hs), hx, q _ _ H2 i2 (l1.trans l2) rfl (dx.ex l2)⟩
/-- an item of a list that is kept aside -/
theorem ev_ixO {m : Int} {d : PyData} (h : Γ[i]? = some (.olst ds)) (h2 : EvD K tb Γ (· = .int m)) (hd : atI ds m = some d) : EvD K (tOp (rIxL K) (tVar i) tb) Γ (· = d) := fun G σ H ev iv Q q => by
  rcases ev.2 i _ h with z | ⟨v, hv, a, vs, e1, e2, e3⟩
  · cases z
  · subst e1
    refine ⟨_, hv, h2 G σ H ev iv _ fun v2 d2 H2 i2 l2 p2 dq2 => ?_⟩
    subst p2
    cases dq2
    obtain ⟨x, hx, dx⟩ := dq_atI e3 hd
    exact ⟨_, _, _, x, rfl, rfl, SqL.of (e2 H2 i2), hx, q _ _ H2 i2 l2 rfl (dx.ex l2)⟩
theorem atI_at {α : Type} {xs : List α} {n : Nat} {v : α} (h : xs[n]? = some v) : atI xs (n : Int) = some v := atI_nat h
theorem atI_end {α : Type} {xs : List α} {n : Nat} {v : α} (hn : xs.length = n + 1) (h : xs[n]? = some v) : atI xs (-1) = some v := by
  obtain ⟨hl, he⟩ := List.getElem?_eq_some_iff.mp h
  have e : xs = xs.dropLast ++ [v] := by
    have hne : xs ≠ [] := fun z => by subst z; cases hn
    have h1 := (List.dropLast_concat_getLast hne).symm
    have h2 : xs.getLast hne = v := by
      rw [List.getLast_eq_getElem, ← he]
      congr 1
      omega
    rw [h2] at h1
    exact h1
  rw [e]
  exact atI_last _ _
def KeepD (Γ : List Sl) (j : Nat) : Prop := ∀ (q : Nat) s, q ≠ j → Γ[q]? = some s → s = .any ∨ (∃ d, s = .dat d) ∨ ∃ C fs, s = .ins C fs
theorem KeepD.keep (h : KeepD Γ j) : Keep Γ j := fun q s hq hs => by
  rcases h q s hq hs with rfl | ⟨d, rfl⟩ | ⟨C, fs, rfl⟩ <;> rfl
theorem EnvOk.out {G : Fr} {H : Hp} {σ : L2.St} {l : Addr} {vs : List V} (ev : EnvOk K (G.own l (.lst vs)) H σ Γ) (iv : (G.own l (.lst vs)).inv H) (hj : σ[j]? = some (some (.ref l))) (hd : DqAll K ((G.own l (.lst vs)).view H) vs ds) (hk : KeepD Γ j) : EnvOk K G H σ (Γ.set j (.dat (.list ds))) := by
  refine ⟨by rw [List.length_set]; exact ev.1, fun q s hs => ?_⟩
  by_cases e : q = j
  · subst e
    by_cases hl : q < Γ.length
    · rw [List.getElem?_set_self hl] at hs
      cases hs
      exact .inr ⟨_, hj, .lst (SqL.of iv.2) (hd.ex Fr.own_sub)⟩
    · rw [List.getElem?_eq_none (by rw [List.length_set]; omega)] at hs
      cases hs
  · rw [List.getElem?_set_ne (Ne.symm e)] at hs
    rcases ev.2 q s hs with z | ⟨v, h1, h2⟩
    · exact .inl z
    · rcases hk q s e hs with rfl | ⟨d, rfl⟩ | ⟨C, fs, rfl⟩
      · exact .inl rfl
      · exact .inr ⟨v, h1, Dq.ex Fr.own_sub h2⟩
      · obtain ⟨a, dx, us, e1, e2, e3⟩ := h2
        exact .inr ⟨v, h1, a, dx, us, e1, Fr.own_sub _ _ e2, e3.ex Fr.own_sub⟩
/-- a test that may look at the list that is filled -/
theorem ap_ifV {b : Bool} (hk : KeepD Γ j) (h : EvB K tt (Γ.set j (.dat (.list ds))) (· = b)) (h1 : b = true → Apps K ts Γ j ds N) (h2 : b = false → Apps K tu Γ j ds N) : Apps K (tIfS tt ts tu) Γ j ds N := fun G σ H D l vs ev iv hj hd k =>
  h G σ H (ev.out iv hj hd hk) iv.1 _ fun c H1 i1 l1 e => by
    subst e
    have lo : (G.own l (.lst vs)).le H H1 := fun c u h => by
      obtain ⟨a1, a2⟩ := hide_some h
      show hide (G.view H1) l c = some u
      rw [hide_ne a1]
      exact l1 c u a2
    have io : (G.own l (.lst vs)).inv H1 := ⟨i1, l1 _ _ iv.2⟩
    have go : ∀ {t : TS}, Apps K t Γ j ds N → t D σ H1 := fun h => h G σ H1 D l vs (ev.le lo) io hj (hd.ex lo) fun σ' H' us es Γ' i' e' => k σ' H' us es Γ' i' fun c u h => e' c u (lo c u h)
    cases c with
    | true => exact go (h1 rfl)
    | false => exact go (h2 rfl)
/-- zip(l, t) -/
theorem e0_zipN {ds es : List PyData} (h : EvL' K ta Γ (· = [.list ds, .tuple es])) (hl : ds.length = es.length) : EvI0 K (iZipN K ta) Γ (· = ds.length) (fun i d => ∃ a b, ds[i]? = some a ∧ es[i]? = some b ∧ d = .tuple [a, b]) := fun G σ H ev iv R q =>
  h G σ H ev iv _ fun vs ss H1 iv1 l1 ⟨zs, e1, e2⟩ dqs => by
    subst e2; subst e1
    have dqs := args_dats dqs
    cases dqs with
    | cons h1 t1 =>
      cases t1 with
      | cons h2 t2 =>
        cases t2
        cases h1 with
        | lst hs ha =>
          cases h2 with
          | tup hs2 ha2 =>
            refine ⟨_, _, _, _, rfl, Fr.upL hs, Fr.upT hs2, q ds.length _ H1 rfl iv1 l1 fun G' H2 e iv2 => ⟨fun i hi => ?_, _, _, Fr.upL (exL e hs), Fr.upT (exT e hs2), ha.length, ha2.length.trans hl.symm⟩⟩
            obtain ⟨x, hx, dx⟩ := ha.get' (List.getElem?_eq_getElem hi)
            obtain ⟨y, hy, dy⟩ := ha2.get' (List.getElem?_eq_getElem (by omega : i < es.length))
            refine ⟨⟨_, _, x, y, Fr.upL (exL e hs), Fr.upT (exT e hs2), by rw [ha.length, ha2.length, hl], hx, hy⟩, fun v H3 ⟨T, x', y', e1, hT, e2, hx', hy'⟩ => ?_⟩
            subst e1; subst e2
            have := hx' _ (Fr.upL (exL e hs))
            rw [hx] at this
            cases this
            have := hy' _ (Fr.upT (exT e hs2))
            rw [hy] at this
            cases this
            obtain ⟨i3, l3, h3⟩ := Fr.new (o := HO.tup [x, y]) iv2 hT
            exact ⟨i3, l3, _, ⟨_, _, List.getElem?_eq_getElem hi, List.getElem?_eq_getElem (by omega), rfl⟩, .tup (.inl (.inl h3)) (.cons ((dx.ex e).ex l3) (.cons ((dy.ex e).ex l3) .nil))⟩
/-- zip of two tuples -/
theorem e0_zipT {ds es : List PyData} (h : EvL' K ta Γ (· = [.tuple ds, .tuple es])) (hl : ds.length = es.length) : EvI0 K (RZ.iZipA K ta) Γ (· = ds.length) (fun i d => ∃ a b, ds[i]? = some a ∧ es[i]? = some b ∧ d = .tuple [a, b]) := fun G σ H ev iv R q =>
  h G σ H ev iv _ fun vs ss H1 iv1 l1 ⟨zs, e1, e2⟩ dqs => by
    subst e2; subst e1
    have dqs := args_dats dqs
    cases dqs with
    | cons h1 t1 =>
      cases t1 with
      | cons h2 t2 =>
        cases t2
        cases h1 with
        | tup hs ha =>
          cases h2 with
          | tup hs2 ha2 =>
            refine ⟨_, _, _, _, rfl, .inr ⟨Fr.upT hs, Fr.upT hs2, q ds.length _ H1 rfl iv1 l1 fun G' H2 e iv2 => ⟨fun i hi => ?_, _, _, Fr.upT (exT e hs), Fr.upT (exT e hs2), .inl (by rw [ha.length]; exact Nat.le_refl _)⟩⟩⟩
            obtain ⟨x, hx, dx⟩ := ha.get' (List.getElem?_eq_getElem hi)
            obtain ⟨y, hy, dy⟩ := ha2.get' (List.getElem?_eq_getElem (by omega : i < es.length))
            refine ⟨⟨_, _, x, y, Fr.upT (exT e hs), Fr.upT (exT e hs2), hx, hy⟩, fun v H3 ⟨T, x', y', e1, hT, e2, hx', hy'⟩ => ?_⟩
            subst e1; subst e2
            have := hx' _ (Fr.upT (exT e hs))
            rw [hx] at this
            cases this
            have := hy' _ (Fr.upT (exT e hs2))
            rw [hy] at this
            cases this
            obtain ⟨i3, l3, h3⟩ := Fr.new (o := HO.tup [x, y]) iv2 hT
            exact ⟨i3, l3, _, ⟨_, _, List.getElem?_eq_getElem hi, List.getElem?_eq_getElem (by omega), rfl⟩, .tup (.inl (.inl h3)) (.cons ((dx.ex e).ex l3) (.cons ((dy.ex e).ex l3) .nil))⟩
theorem ev_neInt {a b : Int} (h : EvD K te Γ (· = .int a)) (h2 : EvD K tb Γ (· = .int b)) : EvD K (tOp rNe te tb) Γ (· = .bool (!decide (a = b))) := fun G σ H ev iv Q q =>
  h G σ H ev iv _ fun v d H1 i1 l1 p1 dq => h2 G σ H1 (ev.le l1) i1 _ fun v2 d2 H2 i2 l2 p2 dq2 => by
    subst p1; subst p2
    cases dq; cases dq2
    have e : decide (V.int a = V.int b) = decide (a = b) := by simp
    exact ⟨rfl, q _ _ H2 i2 (l1.trans l2) (by rw [e]) (.bl _)⟩
theorem ev_eqStr {a b : Str} (h : EvD K te Γ (· = .str a)) (h2 : EvD K tb Γ (· = .str b)) : EvD K (tOp rEq te tb) Γ (· = .bool (decide (a = b))) := fun G σ H ev iv Q q =>
  h G σ H ev iv _ fun v d H1 i1 l1 p1 dq => h2 G σ H1 (ev.le l1) i1 _ fun v2 d2 H2 i2 l2 p2 dq2 => by
    subst p1; subst p2
    cases dq; cases dq2
    have e : decide (V.str a = V.str b) = decide (a = b) := by simp
    exact ⟨rfl, q _ _ H2 i2 (l1.trans l2) (by rw [e]) (.bl _)⟩
theorem ev_neS {a b : Str} (h : EvD K te Γ (· = .str a)) (h2 : EvD K tb Γ (· = .str b)) : EvD K (tOp rNe te tb) Γ (· = .bool (!decide (a = b))) := fun G σ H ev iv Q q =>
  h G σ H ev iv _ fun v d H1 i1 l1 p1 dq => h2 G σ H1 (ev.le l1) i1 _ fun v2 d2 H2 i2 l2 p2 dq2 => by
    subst p1; subst p2
    cases dq; cases dq2
    have e : decide (V.str a = V.str b) = decide (a = b) := by simp
    exact ⟨rfl, q _ _ H2 i2 (l1.trans l2) (by rw [e]) (.bl _)⟩
/-- the slots Γ2 say less than Γ -/
def W (Γ Γ2 : List Sl) : Prop := Γ.length = Γ2.length ∧ ∀ (i : Nat) s, Γ2[i]? = some s → s = .any ∨ Γ[i]? = some s
theorem W.nil : W [] [] := ⟨rfl, fun i s h => by simp at h⟩
theorem W.eq {s : Sl} (h : W Γ Γ2) : W (s :: Γ) (s :: Γ2) := ⟨congrArg (· + 1) h.1, fun i t ht => by
  cases i with
  | zero => exact .inr ht
  | succ i => exact h.2 i t ht⟩
theorem W.any {s : Sl} (h : W Γ Γ2) : W (s :: Γ) (.any :: Γ2) := ⟨congrArg (· + 1) h.1, fun i t ht => by
  cases i with
  | zero => cases ht; exact .inl rfl
  | succ i => exact h.2 i t ht⟩
theorem th_w (h : Thru K ts Γ Γ') (w : W Γ' Γ2) : Thru K ts Γ Γ2 := Thru.weak h w.1 w.2
theorem rs_w (h : Rets K ts Γ' P) (w : W Γ Γ') : Rets K ts Γ P := rs_weak h w.1 w.2
theorem take_snoc {α : Type} {xs : List α} {i : Nat} {x : α} (h : xs[i]? = some x) : xs.take (i + 1) = xs.take i ++ [x] := by
  rw [List.take_succ, h]; rfl
def isP : Sl → Bool
  | .any => true
  | .dat _ => true
  | .ins _ _ => true
  | _ => false
def kB : List Sl → Nat → Bool
  | [], _ => true
  | _ :: Γ, 0 => Γ.all isP
  | s :: Γ, j + 1 => isP s && kB Γ j
theorem isP_or {s : Sl} (h : isP s = true) : s = .any ∨ (∃ d, s = .dat d) ∨ ∃ C fs, s = .ins C fs := by
  cases s with
  | any => exact .inl rfl
  | dat d => exact .inr (.inl ⟨d, rfl⟩)
  | ins C fs => exact .inr (.inr ⟨C, fs, rfl⟩)
  | _ => cases h
theorem keepD_of : ∀ {Γ : List Sl} {j : Nat}, kB Γ j = true → KeepD Γ j
  | [], _, _ => fun q s hq h => by simp at h
  | s :: Γ, 0, h => fun q t hq ht => by
    cases q with
    | zero => exact absurd rfl hq
    | succ q => exact isP_or (List.all_eq_true.mp h t (List.mem_of_getElem? (i := q) (by simpa using ht)))
  | s :: Γ, j + 1, h => fun q t hq ht => by
    have h : (isP s && kB Γ j) = true := h
    rw [Bool.and_eq_true] at h
    cases q with
    | zero => cases ht; exact isP_or h.1
    | succ q => exact keepD_of h.2 q t (fun e => hq (congrArg (· + 1) e)) (by simpa using ht)
end
end L2

set_option Elab.async false
set_option linter.all false
set_option maxRecDepth 100000
set_option maxHeartbeats 4000000
/-! Defs that may raise one class of one field, from slots. -/
namespace L2
open PySem PySem.Spec PyProof.Rows
open Evl (Ex)
/-- what the __init__ of such a class does -/
def spI1 (C : Addr) (f : Str) : Sp := fun vs H Q _ => ∃ (a : Addr) (x : V), vs = [.ref a, x] ∧ H a = some (exo a C none) ∧ ∀ dx, H dx = none → dx ≠ a → Q .non (upd (upd H dx (exd dx [(f, x)])) a (exo a C (some dx)))
def ExR1 (K : PySem.W.Frag) (G : Fr) (C : Addr) (E : XK) (f : Str) (PX : PyData → Prop) (H : Hp) : Prop := ∀ (dx : Addr) (H' : Hp) (x : V) (p : PyData), G.inv H' → G.le H H' → PX p → Dq K (G.view H') x p → G.view H' dx = some (.xd [(f, x)]) → E (.ref C) (some dx) H'
theorem ExR1.le {K : PySem.W.Frag} {G : Fr} {C : Addr} {E : XK} {f : Str} {PX PY : PyData → Prop} {H H1 : Hp} (h : ExR1 K G C E f PX H) (l : G.le H H1) (hp : ∀ p, PY p → PX p) : ExR1 K G C E f PY H1 := fun dx H' x p a b c d z => h dx H' x p a (l.trans b) (hp p c) d z
def RetX1 (K : PySem.W.Frag) (C : Addr) (E : XK) (f : Str) (ts : TS) (Γ : List Sl) (P : PyData → Prop) (PX : PyData → Prop) : Prop := ∀ (G : Fr) (σ : L2.St) (H : Hp) (D : Ends), EnvOk K G H σ Γ → G.inv H → (∀ v d H', G.inv H' → G.le H H' → P d → Dq K (G.view H') v d → D.rt v H') → ExR1 K G C E f PX H → ts D σ H
abbrev Res1 := Sum PyData PyData
/-- the promise of a def that may raise -/
def spY (K : PySem.W.Frag) (C : Addr) (f : Str) {γ : Type} (pre : γ → List Sl → Prop) (post : γ → Res1) : Sp := fun vs H Q E => ∃ (G : Fr) (ss : List Sl) (c : γ), G.inv H ∧ ArgsOk K G H vs ss ∧ pre c ss ∧
  (∀ v d H', G.inv H' → G.le H H' → post c = .inl d → Dq K (G.view H') v d → Q v H') ∧ ExR1 K G C E f (fun p => post c = .inr p) H
section
variable {K : PySem.W.Frag} {C : Addr} {E : XK} {f : Str} {Γ Γ' : List Sl} {te tb tv tc : TE} {ta : TA} {wi : TI} {g : TG} {tu ts : TS} {tt : TT} {P P' : PyData → Prop} {PX PY : PyData → Prop} {PL : List PyData → Prop} {j : Nat}
theorem RetX1.of (h : Rets K ts Γ P) : RetX1 K C E f ts Γ P PX := fun G σ H D ev iv k _ => h G σ H D ev iv k
theorem rx1_if (b : Bool) (h : EvB K tt Γ (· = b)) (h1 : b = true → RetX1 K C E f ts Γ P PX) (h2 : b = false → RetX1 K C E f tu Γ P PX) : RetX1 K C E f (tSeq (tIfS tt ts tNext) tu) Γ P PX := fun G σ H D ev iv k kx =>
  h G σ H ev iv _ fun c H1 iv1 l1 e => by
    subst e
    cases c with
    | true => exact h1 rfl G σ H1 _ (ev.le l1) iv1 (fun v d H2 iv2 l2 p dq => k v d H2 iv2 (l1.trans l2) p dq) (kx.le l1 fun _ h => h)
    | false => exact h2 rfl G σ H1 _ (ev.le l1) iv1 (fun v d H2 iv2 l2 p dq => k v d H2 iv2 (l1.trans l2) p dq) (kx.le l1 fun _ h => h)
theorem rx1_set {i : Nat} (hi : i < Γ.length) (h : EvD K te Γ P') (h2 : ∀ d, P' d → RetX1 K C E f tu (Γ.set i (.dat d)) P PX) : RetX1 K C E f (tSeq (tAsg te (gName i)) tu) Γ P PX := fun G σ H D ev iv k kx =>
  h G σ H ev iv _ fun v d H1 iv1 l1 p dq => h2 d p G _ H1 _ ((ev.le l1).set hi dq) iv1 (fun v d H2 iv2 l2 p dq => k v d H2 iv2 (l1.trans l2) p dq) (kx.le l1 fun _ h => h)
/-- raise C(p) -/
theorem rx1_raise (h : EvL' K ta Γ (fun ds => ∃ p, ds = [p] ∧ PX p)) : RetX1 K C E f (fun _ σ H => tMkO C (spI1 C f) [] ta σ H fun cls d H' => E cls d H') Γ P PX := fun G σ H D ev iv k kx =>
  h G σ H ev iv _ fun vs ss H1 i1 l1 ⟨ds, e1, p, e2, px⟩ dqs => by
    subst e1
    subst e2
    have dqs := args_dats dqs
    cases dqs with
    | @cons x _ _ _ q1 t1 =>
      cases t1
      refine ⟨by show 1 ≤ 1000; decide, fun a ha => ⟨a, x, rfl, upd_same, fun dx hdx hne => ⟨rfl, dx, [(f, x)], upd_same, by rw [upd_ne hne]; exact upd_same, by rwa [upd_ne hne] at hdx, ?_⟩⟩⟩
      have hdx1 : H1 dx = none := by rwa [upd_ne hne] at hdx
      have e : upd (del (upd (upd (upd H1 a (exo a C none)) dx (exd dx [(f, x)])) a (exo a C (some dx))) a) dx (.xd [(f, x)]) = upd H1 dx (.xd [(f, x)]) := by
        funext b
        by_cases hb : b = dx
        · subst hb; rw [upd_same, upd_same]
        · rw [upd_ne hb, upd_ne hb]
          by_cases hb2 : b = a
          · subst hb2; rw [del_same, ha]
          · rw [del_ne hb2, upd_ne hb2, upd_ne hb, upd_ne hb2]
      show E _ _ _
      rw [e]
      obtain ⟨i2, l2, v2⟩ := Fr.new (o := .xd [(f, x)]) i1 hdx1
      exact kx dx _ x p i2 (l1.trans l2) px (q1.ex l2) v2
theorem doneY {G : Fr} {H : Hp} {vs : List V} {ss : List Sl} {D : Ends} {N : List Str} (n : Nat) (hs : L2.start N vs = vs.map some ++ List.replicate n none) (h : RetX1 K C E f ts (ss ++ List.replicate n .any) P PX) (iv : G.inv H) (a : ArgsOk K G H vs ss)
    (k : ∀ v d H', G.inv H' → G.le H H' → P d → Dq K (G.view H') v d → D.rt v H') (kx : ExR1 K G C E f PX H) : ts D (L2.start N vs) H := by
  rw [hs]
  exact h G _ H D (envOk_of n a) iv k kx
end
end L2

set_option Elab.async false
set_option linter.all false
set_option maxRecDepth 100000
set_option maxHeartbeats 4000000
/-! Inner loops while a list is filled. -/
namespace L2
open PySem PySem.Spec PyProof.Rows
open Evl (Ex)
section
variable {K : PySem.W.Frag} {Γ Γ' Γ2 : List Sl} {te tb tc tl : TE} {ta : TA} {P P' P1 P2 : PyData → Prop} {tu ts : TS} {tt : TT} {wi : TI} {g : TG} {i j : Nat} {ds es : List PyData} {N : List PyData → List Sl → Prop}
theorem W.trans {A B C : List Sl} (h : W A B) (h2 : W B C) : W A C := ⟨h.1.trans h2.1, fun i s hs => by
  rcases h2.2 i s hs with e | e
  · exact .inl e
  · exact h.2 i s e⟩
theorem ap_weak (h : Apps K ts Γ' j ds N) (w : W Γ Γ') : Apps K ts Γ j ds N := fun G σ H D l vs ev iv hj hd k => h G σ H D l vs (ev.weak w.1 w.2) iv hj hd k
theorem ap_to {ΓE : List Sl} (h : Apps K ts Γ j ds (fun es' Γ' => es' = ds ∧ W Γ' ΓE)) (h2 : Apps K tu ΓE j ds N) : Apps K (tSeq ts tu) Γ j ds N :=
  ap_seq h fun es' Γ' ⟨e1, w⟩ => by subst e1; exact ap_weak h2 w
theorem ap_set1 (hi : i < Γ.length) (hij : i ≠ j) (h : EvD K te Γ P) (hn : ∀ d, P d → N ds (Γ.set i (.dat d))) : Apps K (tAsg te (gName i)) Γ j ds N := fun G σ H D l vs ev iv hj hd k =>
  h _ σ H ev iv _ fun v d H1 i1 l1 p1 dq => k _ H1 vs ds _ i1 l1 ((ev.le l1).set (s := .dat d) hi dq) (by rw [List.getElem?_set_ne hij]; exact hj) (hd.ex l1) (hn d p1)
theorem ap_forI {Γl : Nat → List Sl} {vs : List Nat} {n : Nat} {Pi : Nat → PyData → Prop} {Nt : Nat → PyData → List Sl} (hjv : j ∉ vs) (hjs : ∀ i, (Γl i)[j]? = some (.olst ds))
    (hi : EvI0 K wi (Γl 0) (· = n) Pi) (hg : ∀ i, TgOk K g vs (Γl i) (Pi i) (Nt i))
    (hb : ∀ i d, i < n → Pi i d → Apps K tu (Nt i d) j ds fun es' Γ' => es' = ds ∧ W Γ' (Γl (i + 1))) : Apps K (tFor wi g tu) (Γl 0) j ds fun es' Γ' => es' = ds ∧ W Γ' (Γl n) := fun G σ H D l vs0 ev iv hj hd k => by
  refine hi (G.own l (.lst vs0)) σ H ev iv _ fun n' J H1 hnn iv1 l1 w => ?_
  subst hnn
  let Iv : Nat → L2.St → Hp → Prop := fun i σ' H' => ∃ us, (G.own l (.lst us)).inv H' ∧ Ex ((G.own l (.lst vs0)).view H1) ((G.own l (.lst us)).view H') ∧ EnvOk K (G.own l (.lst us)) H' σ' (Γl i) ∧ σ'[j]? = some (some (.ref l)) ∧ DqAll K ((G.own l (.lst us)).view H') us ds
  refine ⟨fun i c σ' H' => c = n' - i ∧ i ≤ n' ∧ Iv i σ' H', ⟨n', by simp, Nat.zero_le _, vs0, iv1, fun _ _ h => h, ev.le l1, hj, hd.ex l1⟩, ?_⟩
  rintro i c σ2 H2 ⟨rfl, hle, us, iv2, e2, ev2, hj2, hd2⟩
  have w2 := w (G.own l (.lst us)) H2 e2 iv2
  by_cases hlt : i < n'
  · refine .inr ⟨(w2.1 i hlt).1, fun σ' H' => i + 1 ≤ n' ∧ Iv (i + 1) σ' H', fun σ' H' h' => ⟨n' - (i + 1), by omega, rfl, h'⟩, fun x H3 hy => ?_⟩
    obtain ⟨iv3, l3, d, pd, dq⟩ := (w2.1 i hlt).2 x H3 hy
    refine hg i (G.own l (.lst us)) σ2 H3 x d (ev2.le l3) iv3 pd dq _ fun σ3 _ hs3 ev3 => ?_
    refine hb i d hlt pd G σ3 H3 _ l us ev3 iv3 (by rw [hs3 j hjv]; exact hj2) (hd2.ex l3) fun σ4 H4 us4 es4 Γ4 iv4 e4 ev4 hj4 hd4 ⟨n4, w4⟩ => ?_
    subst n4
    exact ⟨hlt, us4, iv4, fun c u h => e4 c u (l3 c u (e2 c u h)), ev4.weak w4.1 w4.2, hj4, hd4⟩
  · obtain rfl : i = n' := by omega
    exact .inl ⟨w2.2, k σ2 H2 us ds _ iv2 (fun c u h => e2 c u (l1 c u h)) ev2 hj2 hd2 ⟨rfl, rfl, fun _ _ h => .inr h⟩⟩
theorem ev_ge {a b : Int} (h : EvD K te Γ (· = .int a)) (h2 : EvD K tb Γ (· = .int b)) : EvD K (tOp (rI0 fun i j => .bl (decide (j ≤ i))) te tb) Γ (· = .bool (decide (b ≤ a))) := ev_opC1 (g' := fun i j => .bool (decide (j ≤ i))) (fun _ _ _ => .bl _) h h2
theorem ev_intOf {a : Int} (h : EvD K te Γ (· = .int a)) : EvD K (tCB (fun xs H Q => (∃ i, xs = [V.int i] ∧ Q (V.int i) H) ∨ ∃ k, xs = [V.bl k] ∧ Q (V.int (if k = true then 1 else 0)) H) (tCons te tNil)) Γ (· = .int a) :=
  (ev_int1 (P := fun d => d = .int a) (h.imp fun d e => ⟨a, e, rfl⟩)).imp fun d ⟨n, e1, e2⟩ => by rw [e1, e2]
/-- x, found = e, [], by a tuple -/
theorem rs_asgL {a : PyData} (hi : i < Γ.length) (hij : i ≠ j) (hjl : j < Γ.length) (h : EvD K te Γ (· = a)) (h2 : RetL K tu ((Γ.set i (.dat a)).set j (.olst [])) j [] P) : Rets K (tSeq (tAsg (tTup (tCons te (tCons (tLst tNil) tNil))) (gTup K 2 (gCons (gName i) (gCons (gName j) gNil)))) tu) Γ P := fun G σ H D ev iv k =>
  h G σ H ev iv _ fun v d H1 i1 l1 p1 dq => ⟨Nat.zero_le _, fun p hp => ⟨by show 2 ≤ sizeLine; decide, fun t ht => by
    subst p1
    obtain ⟨iv1, vw1⟩ := Fr.own_new (G := G) (o := HO.lst []) i1 hp
    obtain ⟨iv2, l2, v2⟩ := Fr.new (G := G.own p (.lst [])) (o := .tup [v, .ref p]) iv1 ht
    have ev1 : EnvOk K G H1 (σ.set i (some v)) (Γ.set i (.dat d)) := (ev.le l1).set (s := .dat d) hi dq
    have ev2 := (ev1.own (l := p) (o := .lst []) (H' := upd H1 p (.lst [])) (by rw [vw1]; exact fun _ _ h => h)).set (i := j) (s := .olst []) (v := .ref p) (by rw [List.length_set]; exact hjl) ⟨p, [], rfl, fun H' i => Fr.own_at i, .nil⟩
    refine ⟨t, [v, .ref p], rfl, .inl (.inl upd_same), rfl, v, [.ref p], rfl, .ref p, [], rfl, rfl, ?_⟩
    refine h2 G _ _ D p [] (ev2.le l2) iv2 (List.getElem?_set_self (by rw [List.length_set, ev.1]; exact hjl)) .nil fun v' d' H' i' e' => k v' d' H' i' ?_
    exact fun c u h => e' c u (l2 c u (by rw [vw1]; exact l1 c u h))⟩⟩
end
end L2

set_option Elab.async false
set_option linter.all false
set_option maxRecDepth 100000
set_option maxHeartbeats 4000000
/-! Blocks that leave some places alone (S). -/
namespace L2
open PySem PySem.Spec PyProof.Rows
open Evl (Ex)
def Su (S : List Nat) (σ σ' : L2.St) : Prop := ∀ q ∈ S, σ'[q]? = σ[q]?
theorem Su.refl {S : List Nat} {σ : L2.St} : Su S σ σ := fun _ _ => rfl
theorem Su.trans {S : List Nat} {σ σ1 σ2 : L2.St} (h : Su S σ σ1) (h2 : Su S σ1 σ2) : Su S σ σ2 := fun q hq => (h2 q hq).trans (h q hq)
theorem Su.set {S : List Nat} {σ : L2.St} {i : Nat} {v : Option V} (h : i ∉ S) : Su S σ (σ.set i v) := fun q hq => List.getElem?_set_ne fun (e : i = q) => h (by rw [e]; exact hq)
theorem Su.tg {S vs : List Nat} {σ σ' : L2.St} (h : ∀ i, i ∉ vs → σ'[i]? = σ[i]?) (hv : ∀ v ∈ vs, v ∉ S) : Su S σ σ' := fun q hq => h q fun z => hv q z hq
def ThruU (K : PySem.W.Frag) (S : List Nat) (ts : TS) (Γ : List Sl) (M : List Sl → Prop) : Prop := ∀ (G : Fr) (σ : L2.St) (H : Hp) (D : Ends), EnvOk K G H σ Γ → G.inv H → (∀ σ' H' Γ', G.inv H' → G.le H H' → EnvOk K G H' σ' Γ' → M Γ' → Su S σ σ' → D.nx σ' H') → ts D σ H
def AppsU (K : PySem.W.Frag) (S : List Nat) (ts : TS) (Γ : List Sl) (j : Nat) (ds : List PyData) (N : List PyData → List Sl → Prop) : Prop := ∀ (G : Fr) (σ : L2.St) (H : Hp) (D : Ends) (l : Addr) (vs : List V), EnvOk K (G.own l (.lst vs)) H σ Γ → (G.own l (.lst vs)).inv H → σ[j]? = some (some (.ref l)) → DqAll K ((G.own l (.lst vs)).view H) vs ds →
  (∀ σ' H' us es Γ', (G.own l (.lst us)).inv H' → Ex ((G.own l (.lst vs)).view H) ((G.own l (.lst us)).view H') → EnvOk K (G.own l (.lst us)) H' σ' Γ' → σ'[j]? = some (some (.ref l)) → DqAll K ((G.own l (.lst us)).view H') us es → N es Γ' → Su S σ σ' → D.nx σ' H') → ts D σ H
section
variable {K : PySem.W.Frag} {S : List Nat} {Γ Γ' Γ2 : List Sl} {te tb tc tl : TE} {ta : TA} {P P' P1 P2 : PyData → Prop} {tu ts : TS} {tt : TT} {wi : TI} {g : TG} {i j : Nat} {ds es : List PyData} {N : List PyData → List Sl → Prop}
theorem tu_next {M : List Sl → Prop} (hm : M Γ) : ThruU K S tNext Γ M := fun G σ H D ev iv k => k σ H Γ iv .refl ev hm .refl
theorem tu_weak {M : List Sl → Prop} (h : ThruU K S ts Γ' M) (w : W Γ Γ') : ThruU K S ts Γ M := fun G σ H D ev iv k => h G σ H D (ev.weak w.1 w.2) iv k
theorem tu_seq {M M2 : List Sl → Prop} (h : ThruU K S ts Γ M2) (h2 : ∀ Γ', M2 Γ' → ThruU K S tu Γ' M) : ThruU K S (tSeq ts tu) Γ M := fun G σ H D ev iv k =>
  h G σ H _ ev iv fun σ' H' Γ' i' l' ev' m' s' => h2 Γ' m' G σ' H' D ev' i' fun σ2 H2 Γ2 i2 l2 ev2 m2 s2 => k σ2 H2 Γ2 i2 (l'.trans l2) ev2 m2 (s'.trans s2)
theorem tu_set1 {M : List Sl → Prop} (hi : i < Γ.length) (hS : i ∉ S) (h : EvD K te Γ P) (hm : ∀ d, P d → M (Γ.set i (.dat d))) : ThruU K S (tAsg te (gName i)) Γ M := fun G σ H D ev iv k =>
  h G σ H ev iv _ fun v d H1 i1 l1 p dq => k _ H1 _ i1 l1 ((ev.le l1).set (s := .dat d) hi dq) (hm d p) (Su.set hS)
theorem tu_setP {M : List Sl → Prop} (hi : i < Γ.length) (hS : i ∉ S) (h : EvD K te Γ P) (h2 : ∀ d, P d → ThruU K S tu (Γ.set i (.dat d)) M) : ThruU K S (tSeq (tAsg te (gName i)) tu) Γ M := fun G σ H D ev iv k =>
  h G σ H ev iv _ fun v d H1 i1 l1 p dq => h2 d p G _ H1 D ((ev.le l1).set hi dq) i1 fun σ' H' Γ' i' l' ev' m' s' => k σ' H' Γ' i' (l1.trans l') ev' m' ((Su.set hS).trans s')
theorem tu_asg1 {M : List Sl → Prop} {vs : List Nat} {N : PyData → List Sl} (hv : ∀ v ∈ vs, v ∉ S) (h : EvD K te Γ P) (hg : TgOk K g vs Γ P N) (hm : ∀ d, P d → M (N d)) : ThruU K S (tAsg te g) Γ M := fun G σ H D ev iv k =>
  h G σ H ev iv _ fun v d H1 i1 l1 p dq => hg G σ H1 v d (ev.le l1) i1 p dq _ fun σ2 _ hs ev2 => k σ2 H1 _ i1 l1 ev2 (hm d p) (Su.tg hs hv)
theorem tu_if {M : List Sl → Prop} {b : Bool} (h : EvB K tt Γ (· = b)) (h1 : b = true → ThruU K S ts Γ M) (h2 : b = false → ThruU K S tu Γ M) : ThruU K S (tIfS tt ts tu) Γ M := fun G σ H D ev iv k =>
  h G σ H ev iv _ fun c H1 i1 l1 e => by
    subst e
    cases c with
    | true => exact h1 rfl G σ H1 D (ev.le l1) i1 fun σ' H' Γ' i' l' => k σ' H' Γ' i' (l1.trans l')
    | false => exact h2 rfl G σ H1 D (ev.le l1) i1 fun σ' H' Γ' i' l' => k σ' H' Γ' i' (l1.trans l')
theorem au_seq {N2 : List PyData → List Sl → Prop} (h : AppsU K S ts Γ j ds N2) (h2 : ∀ es Γ', N2 es Γ' → AppsU K S tu Γ' j es N) : AppsU K S (tSeq ts tu) Γ j ds N := fun G σ H D l vs ev iv hj hd k =>
  h G σ H _ l vs ev iv hj hd fun σ' H' us es Γ' i' e' ev' hj' hd' n' s' => h2 es Γ' n' G σ' H' _ l us ev' i' hj' hd' fun σ2 H2 us2 es2 Γ2 i2 e2 ev2 hj2 hd2 n2 s2 => k σ2 H2 us2 es2 Γ2 i2 (fun c u h => e2 c u (e' c u h)) ev2 hj2 hd2 n2 (s'.trans s2)
theorem au_set {i : Nat} (hi : i < Γ.length) (hij : i ≠ j) (hS : i ∉ S) (h : EvD K te Γ P) (h2 : ∀ d, P d → AppsU K S tu (Γ.set i (.dat d)) j ds N) : AppsU K S (tSeq (tAsg te (gName i)) tu) Γ j ds N := fun G σ H D l vs ev iv hj hd k =>
  h _ σ H ev iv _ fun v d H1 i1 l1 p1 dq => h2 d p1 G _ H1 _ l vs ((ev.le l1).set hi dq) i1 (by rw [List.getElem?_set_ne hij]; exact hj) (hd.ex l1) fun σ' H' us es Γ' i' e' ev' hj' hd' n' s' => k σ' H' us es Γ' i' (fun c u h => e' c u (l1 c u h)) ev' hj' hd' n' ((Su.set hS).trans s')
/-- an append leaves all places alone -/
theorem au_app (hk : Keep Γ j) (hjl : j < Γ.length) (hlen : ds.length < 1000) (h : EvD K te Γ P) (hn : ∀ e, P e → N (ds ++ [e]) (Γ.set j (.olst (ds ++ [e])))) : AppsU K S (tDrop (tBM K "list" rAppend (tVar j) (tCons te tNil))) Γ j ds N := fun G σ H D l vs ev iv hj hd k =>
  ⟨_, hj, .inl ⟨rfl, _, SqL.of (Fr.own_at iv)⟩, h _ σ H ev iv _ fun v e H1 i1 l1 p1 dq => by
    have hlv : vs.length < 1000 := by rw [hd.length]; exact hlen
    refine ⟨l, vs, v, rfl, rfl, Fr.own_at i1, by rw [sizeLine_eq]; omega, ?_⟩
    have st := Fr.own_set (o' := .lst (vs ++ [v])) i1
    have da : DqAll K ((G.own l (.lst (vs ++ [v]))).view (upd H1 l (.lst (vs ++ [v])))) (vs ++ [v]) (ds ++ [e]) := by
      rw [st.2]
      exact (hd.ex l1).append (.cons dq .nil)
    refine k σ _ (vs ++ [v]) (ds ++ [e]) _ st.1 (by rw [st.2]; exact l1) (EnvOk.swapS (j := j) (s := .olst (ds ++ [e])) (v := .ref l) (ev.le l1) (by rw [st.2]; exact fun _ _ h => h) (by rw [List.length_set]) (fun q s hq hs => ?_) hj (List.getElem?_set_self hjl) ⟨l, vs ++ [v], rfl, fun H' i => Fr.own_at i, da⟩) hj da (hn e p1) .refl
    rw [List.getElem?_set_ne (fun z => hq z.symm)] at hs
    exact .inr ⟨hk q s hq hs, hs⟩⟩
theorem au_for {Γl : List PyData → List Sl} {vs : List Nat} {Nn : Nat → Prop} {Pi : Nat → PyData → Prop} {Nt : Nat → List PyData → PyData → List Sl} {I : Nat → List PyData → Prop} (hjv : j ∉ vs) (hv : ∀ v ∈ vs, v ∉ S) (hjs : ∀ es, (Γl es)[j]? = some (.olst es))
    (hi : EvI0 K wi (Γl ds) Nn Pi) (h0 : I 0 ds) (hg : ∀ i es, I i es → TgOk K g vs (Γl es) (Pi i) (Nt i es))
    (hb : ∀ n i es d, Nn n → i < n → I i es → Pi i d → AppsU K S tu (Nt i es d) j es fun es' Γ' => I (i + 1) es' ∧ (Γl es').length = Γ'.length ∧ ∀ (q : Nat) s, q ≠ j → (Γl es')[q]? = some s → s = .any ∨ Γ'[q]? = some s)
    (hn : ∀ n es, Nn n → I n es → N es (Γl es)) : AppsU K S (tFor wi g tu) (Γl ds) j ds N := fun G σ H D l vs0 ev iv hj hd k => by
  refine hi (G.own l (.lst vs0)) σ H ev iv _ fun n J H1 hnn iv1 l1 w => ?_
  let Iv : Nat → L2.St → Hp → Prop := fun i σ' H' => ∃ us es, (G.own l (.lst us)).inv H' ∧ Ex ((G.own l (.lst vs0)).view H1) ((G.own l (.lst us)).view H') ∧ EnvOk K (G.own l (.lst us)) H' σ' (Γl es) ∧ σ'[j]? = some (some (.ref l)) ∧ DqAll K ((G.own l (.lst us)).view H') us es ∧ I i es ∧ Su S σ σ'
  refine ⟨fun i c σ' H' => c = n - i ∧ i ≤ n ∧ Iv i σ' H', ⟨n, by simp, Nat.zero_le _, vs0, ds, iv1, fun _ _ h => h, ev.le l1, hj, hd.ex l1, h0, .refl⟩, ?_⟩
  rintro i c σ2 H2 ⟨rfl, hle, us, es, iv2, e2, ev2, hj2, hd2, ii, s2⟩
  have w2 := w (G.own l (.lst us)) H2 e2 iv2
  by_cases hlt : i < n
  · refine .inr ⟨(w2.1 i hlt).1, fun σ' H' => i + 1 ≤ n ∧ Iv (i + 1) σ' H', fun σ' H' h' => ⟨n - (i + 1), by omega, rfl, h'⟩, fun x H3 hy => ?_⟩
    obtain ⟨iv3, l3, d, pd, dq⟩ := (w2.1 i hlt).2 x H3 hy
    refine hg i es ii (G.own l (.lst us)) σ2 H3 x d (ev2.le l3) iv3 pd dq _ fun σ3 _ hs3 ev3 => ?_
    refine hb n i es d hnn hlt ii pd G σ3 H3 _ l us ev3 iv3 (by rw [hs3 j hjv]; exact hj2) (hd2.ex l3) fun σ4 H4 us4 es4 Γ4 iv4 e4 ev4 hj4 hd4 n4 s4 => ⟨hlt, us4, es4, iv4, fun c u h => e4 c u (l3 c u (e2 c u h)), ⟨ev4.1.trans n4.2.1.symm, fun q s hs => ?_⟩, hj4, hd4, n4.1, (s2.trans (Su.tg hs3 hv)).trans s4⟩
    by_cases hq : q = j
    · subst hq
      rw [hjs] at hs
      cases hs
      exact .inr ⟨_, hj4, l, us4, rfl, fun H' i' => Fr.own_at i', hd4⟩
    · rcases n4.2.2 q s hq hs with e5 | e5
      · exact .inl e5
      · exact ev4.2 q s e5
  · obtain rfl : i = n := by omega
    exact .inl ⟨w2.2, k σ2 H2 us es _ iv2 (fun c u h => e2 c u (l1 c u h)) ev2 hj2 hd2 (hn i es hnn ii) s2⟩
theorem EnvOk.put {G : Fr} {H : Hp} {σ : L2.St} {v : V} {s : Sl} (h : EnvOk K G H σ Γ) (hv : σ[i]? = some (some v)) (hs : SlOk K G H v s) : EnvOk K G H σ (Γ.set i s) := ⟨by rw [List.length_set]; exact h.1, fun q t ht => by
  by_cases e : q = i
  · subst e
    by_cases hl : q < Γ.length
    · rw [List.getElem?_set_self hl] at ht
      cases ht
      exact .inr ⟨v, hv, hs⟩
    · rw [List.getElem?_eq_none (by rw [List.length_set]; omega)] at ht
      cases ht
  · rw [List.getElem?_set_ne (Ne.symm e)] at ht
    exact h.2 q t ht⟩
/-- found = []; a loop that fills it; from then on it is data; the well in place 0 -/
theorem tu_build {M : List Sl → Prop} {Γe : List PyData → List Sl} (hjl : j < Γ.length) (hkeep : Keep Γ j) (hjS : j ∉ S) (h0S : 0 ∈ S) (h0 : Γ[0]? = some .well) (h : AppsU K S ts (Γ.set j (.olst [])) j [] N) (hN : ∀ es Γ', N es Γ' → W Γ' (Γe es) ∧ KeepD (Γe es) j ∧ 0 < (Γe es).length)
    (h2 : ∀ es Γ', N es Γ' → ThruU K S tu (((Γe es).set j (.dat (.list es))).set 0 .well) M) : ThruU K S (tSeq (tAsg (tLst tNil) (gName j)) (tSeq ts tu)) Γ M := fun G σ H D ev iv k =>
  ⟨Nat.zero_le _, fun p hp => by
    obtain ⟨iv1, vw1⟩ := Fr.own_new (G := G) (o := HO.lst []) iv hp
    rcases ev.2 0 _ h0 with z | ⟨v0, hv0, a, q, e0, w0⟩
    · cases z
    · have hσ : (σ.set j (some (.ref p)))[j]? = some (some (.ref p)) := List.getElem?_set_self (by rw [ev.1]; exact hjl)
      refine h G _ _ _ p [] ((ev.own (l := p) (o := .lst []) (H' := upd H p (.lst [])) (by rw [vw1]; exact fun _ _ h => h)).set (s := .olst []) hjl ⟨p, [], rfl, fun H' i => Fr.own_at i, .nil⟩) iv1 hσ .nil fun σ' H' us es Γ' i' e' ev' hj' hd' n' s' => ?_
      obtain ⟨w, kd, hl⟩ := hN es Γ' n'
      have evo := (ev'.weak w.1 w.2).out i' hj' hd' kd
      have hs0 : σ'[0]? = σ[0]? := (s' 0 h0S).trans (Su.set hjS 0 h0S)
      have ev2 := evo.put (i := 0) (v := v0) (s := .well) (by rw [hs0]; exact hv0) ⟨a, q, e0, w0⟩
      have le : G.le H H' := fun c u hc => (hide_some (e' c u (by rw [vw1]; exact hc))).2
      exact h2 es Γ' n' G σ' H' D ev2 i'.1 fun σ2 H2 Γ3 i2 l2 ev3 m3 s3 => k σ2 H2 Γ3 i2 (le.trans l2) ev3 m3 (((Su.set hjS).trans s').trans s3)⟩
end
end L2

set_option Elab.async false
set_option linter.all false
set_option maxRecDepth 100000
set_option maxHeartbeats 4000000
/-! A turn while two lists are kept aside. -/
namespace L2
open PySem PySem.Spec PyProof.Rows
open Evl (Ex)
section
variable {K : PySem.W.Frag} {H : Hp} {l : Addr} {xs : List V}
theorem sqT_hide {a : Addr} {zs : List V} (hl : H l = some (.lst xs)) (h : SqT K H a zs) : SqT K (hide H l) a zs := by
  rcases h with h | h
  · refine .inl ?_
    have ne : a ≠ l := fun e => by
      subst e
      rcases h with h | ⟨o, h⟩
      · rw [hl] at h; cases h
      · rw [hl] at h; cases h
    rcases h with h | ⟨o, h⟩
    · exact .inl (by rw [hide_ne ne]; exact h)
    · exact .inr ⟨o, by rw [hide_ne ne]; exact h⟩
  · exact .inr h
mutual
theorem Dq.hide (hl : H l = some (.lst xs)) : ∀ {v : V} {d : PyData}, Dq K H v d → noL d = true → Dq K (hide H l) v d
  | _, _, .non, _ => .non
  | _, _, .bl b, _ => .bl b
  | _, _, .int i, _ => .int i
  | _, _, .str x, _ => .str x
  | _, _, .lst _ _, n => by rw [noL] at n; cases n
  | _, _, .tup h t, n => .tup (sqT_hide hl h) (DqAll.hide hl t (by rw [noL] at n; exact n))
  | _, _, .dic _ _, n => by rw [noL] at n; cases n
theorem DqAll.hide (hl : H l = some (.lst xs)) : ∀ {vs : List V} {ds : List PyData}, DqAll K H vs ds → noLs ds = true → DqAll K (hide H l) vs ds
  | _, _, .nil, _ => .nil
  | _, _, .cons h t, n => by
    rw [noLs, Bool.and_eq_true] at n
    exact .cons (Dq.hide hl h n.1) (DqAll.hide hl t n.2)
end
end
theorem Fr.eq {A B : Fr} (hv : A.view = B.view) (hi : A.inv = B.inv) : A = B := by
  cases A
  cases B
  cases hv
  cases hi
  rfl
theorem hide_comm {V : Hp} {l m : Addr} : hide (hide V l) m = hide (hide V m) l := by
  funext b
  unfold hide
  by_cases h1 : b = m <;> by_cases h2 : b = l <;> simp [h1, h2]
theorem own_comm {G : Fr} {l m : Addr} {o u : HO} : (G.own l o).own m u = (G.own m u).own l o := by
  refine Fr.eq (funext fun H => hide_comm) (funext fun H => propext ⟨fun ⟨⟨a, b⟩, c⟩ => ?_, fun ⟨⟨a, b⟩, c⟩ => ?_⟩)
  · obtain ⟨d, e⟩ := hide_some c
    exact ⟨⟨a, e⟩, (hide_ne (Ne.symm d)).trans b⟩
  · obtain ⟨d, e⟩ := hide_some c
    exact ⟨⟨a, e⟩, (hide_ne (Ne.symm d)).trans b⟩
def WellAt (G : Fr) (σ : L2.St) : Prop := ∃ a q, σ[0]? = some (some (.ref a)) ∧ IsW G a q
/-- a block while the lists of the places i and j are kept aside; the well in place 0 -/
def Two (K : PySem.W.Frag) (i j : Nat) (ts : TS) (Γ : List Sl) (as ds : List PyData) (N : List PyData → List PyData → List Sl → Prop) : Prop := ∀ (G : Fr) (σ : L2.St) (H : Hp) (D : Ends) (l : Addr) (us : List V) (m : Addr) (vs : List V),
  EnvOk K (own2 G l us m vs) H σ Γ → (own2 G l us m vs).inv H → WellAt G σ → σ[i]? = some (some (.ref l)) → DqAll K ((own2 G l us m vs).view H) us as → σ[j]? = some (some (.ref m)) → DqAll K ((own2 G l us m vs).view H) vs ds →
  (∀ σ' H' us' vs' as' ds' Γ', (own2 G l us' m vs').inv H' → Ex ((own2 G l us m vs).view H) ((own2 G l us' m vs').view H') → EnvOk K (own2 G l us' m vs') H' σ' Γ' → WellAt G σ' → σ'[i]? = some (some (.ref l)) → DqAll K ((own2 G l us' m vs').view H') us' as' → σ'[j]? = some (some (.ref m)) → DqAll K ((own2 G l us' m vs').view H') vs' ds' → N as' ds' Γ' → D.nx σ' H') → ts D σ H
section
variable {K : PySem.W.Frag} {S : List Nat} {Γ Γ' Γ1 Γ2 : List Sl} {te tb : TE} {ta : TA} {P : PyData → Prop} {tu ts : TS} {tt : TT} {wi : TI} {g : TG} {i j : Nat} {as ds : List PyData} {N : List PyData → List PyData → List Sl → Prop}
/-- the slots as the bare frame has them -/
abbrev outΓ (Γ : List Sl) (i : Nat) (as : List PyData) (j : Nat) (ds : List PyData) : List Sl := ((Γ.set j (.dat (.list ds))).set i (.dat (.list as))).set 0 .well
theorem KeepD.set {d : PyData} (h : KeepD Γ j) (hi : ∀ s, Γ[j]? = some s → s = .any) : KeepD (Γ.set j (.dat d)) i := fun q s hq hs => by
  by_cases e : q = j
  · subst e
    by_cases hl : q < Γ.length
    · rw [List.getElem?_set_self hl] at hs
      cases hs
      exact .inr (.inl ⟨_, rfl⟩)
    · rw [List.getElem?_eq_none (by rw [List.length_set]; omega)] at hs
      cases hs
  · rw [List.getElem?_set_ne (Ne.symm e)] at hs
    exact h q s e hs
theorem out2 {G : Fr} {σ : L2.St} {H : Hp} {l m : Addr} {us vs : List V} (hk : KeepD Γ j) (hj0 : ∀ s, Γ[j]? = some s → s = .any) (ev : EnvOk K (own2 G l us m vs) H σ Γ) (iv : (own2 G l us m vs).inv H) (hw : WellAt G σ) (hi : σ[i]? = some (some (.ref l))) (hd : DqAll K ((own2 G l us m vs).view H) us as) (hj : σ[j]? = some (some (.ref m))) (hd2 : DqAll K ((own2 G l us m vs).view H) vs ds) :
    EnvOk K G H σ (outΓ Γ i as j ds) := by
  have e1 := ev.out iv hj hd2 hk
  have e2 := e1.out iv.1 hi (hd.ex Fr.own_sub) (hk.set hj0)
  obtain ⟨a, q, h1, h2⟩ := hw
  exact e2.put (i := 0) (v := .ref a) (s := .well) h1 ⟨a, q, rfl, h2⟩
theorem le2 {G : Fr} {H H' : Hp} {l m : Addr} {us vs : List V} (h : G.le H H') : Ex ((own2 G l us m vs).view H) ((own2 G l us m vs).view H') := fun c u hc => by
  obtain ⟨a1, a2⟩ := hide_some hc
  obtain ⟨b1, b2⟩ := hide_some a2
  show hide (hide (G.view H') l) m c = some u
  rw [hide_ne a1, hide_ne b1]
  exact h c u b2
theorem inv2 {G : Fr} {H H' : Hp} {l m : Addr} {us vs : List V} (h : (own2 G l us m vs).inv H) (i : G.inv H') (le : G.le H H') : (own2 G l us m vs).inv H' := by
  obtain ⟨⟨_, b⟩, c⟩ := h
  obtain ⟨d, e⟩ := hide_some c
  exact ⟨⟨i, le _ _ b⟩, (hide_ne d).trans (le _ _ e)⟩
theorem back2 {G : Fr} {σ σ' : L2.St} {H H' : Hp} {l m : Addr} {us vs : List V} (ev : EnvOk K (own2 G l us m vs) H σ Γ) (iv : (own2 G l us m vs).inv H) (i' : G.inv H') (le : G.le H H') (ev' : EnvOk K G H' σ' Γ1) (s : Su S σ σ') (hl : Γ1.length = Γ2.length)
    (hw : ∀ (q : Nat) t, Γ2[q]? = some t → t = .any ∨ (∃ d, t = .dat d ∧ noL d = true ∧ Γ1[q]? = some t) ∨ (q ∈ S ∧ ∃ d, t = .dat d ∧ Γ[q]? = some t)) : EnvOk K (own2 G l us m vs) H' σ' Γ2 := by
  have iv2 := inv2 iv i' le
  refine ⟨ev'.1.trans hl, fun q t ht => ?_⟩
  rcases hw q t ht with e | ⟨d, e, hn, h1⟩ | ⟨hq, d, e, h1⟩
  · exact .inl e
  · subst e
    rcases ev'.2 q _ h1 with z | ⟨v, hv, dv⟩
    · exact .inl z
    · have dv : Dq K (G.view H') v d := dv
      exact .inr ⟨v, hv, (Dq.hide iv2.2 (Dq.hide iv2.1.2 dv hn) hn : Dq K _ v d)⟩
  · subst e
    rcases ev.2 q _ h1 with z | ⟨v, hv, dv⟩
    · exact .inl z
    · exact .inr ⟨v, (s q hq).trans hv, (Dq.ex (le2 le) dv : Dq K _ v d)⟩
/-- inner work -/
theorem two_step {M : List Sl → Prop} (h0S : 0 ∈ S) (hiS : i ∈ S) (hjS : j ∈ S) (hk : KeepD Γ j) (hj0 : ∀ s, Γ[j]? = some s → s = .any) (h : ThruU K S ts (outΓ Γ i as j ds) M)
    (h2 : ∀ Γ1, M Γ1 → ∃ Γ2, Γ1.length = Γ2.length ∧ (∀ (q : Nat) t, Γ2[q]? = some t → t = .any ∨ (∃ d, t = .dat d ∧ noL d = true ∧ Γ1[q]? = some t) ∨ (q ∈ S ∧ ∃ d, t = .dat d ∧ Γ[q]? = some t)) ∧ Two K i j tu Γ2 as ds N) : Two K i j (tSeq ts tu) Γ as ds N := fun G σ H D l us m vs ev iv hwl hi hd hj hd2 k =>
  h G σ H _ (out2 hk hj0 ev iv hwl hi hd hj hd2) iv.1.1 fun σ' H' Γ1 i' le ev' m' s => by
    obtain ⟨Γ2, hl, hw, h3⟩ := h2 Γ1 m'
    exact h3 G σ' H' D l us m vs (back2 ev iv i' le ev' s hl hw) (inv2 iv i' le) (by obtain ⟨a, q, h1, h3⟩ := hwl; exact ⟨a, q, (s 0 h0S).trans h1, h3⟩) ((s i hiS).trans hi) (hd.ex (le2 le)) ((s j hjS).trans hj) (hd2.ex (le2 le)) fun σ2 H2 us2 vs2 as2 ds2 Γ3 i2 e2 => k σ2 H2 us2 vs2 as2 ds2 Γ3 i2 fun c u hc => e2 c u (le2 le c u hc)
theorem two_if {b : Bool} (hk : KeepD Γ j) (hj0 : ∀ s, Γ[j]? = some s → s = .any) (h : EvB K tt (outΓ Γ i as j ds) (· = b)) (h1 : b = true → Two K i j ts Γ as ds N) (h2 : b = false → Two K i j tu Γ as ds N) : Two K i j (tIfS tt ts tu) Γ as ds N := fun G σ H D l us m vs ev iv hwl hi hd hj hd2 k =>
  h G σ H (out2 hk hj0 ev iv hwl hi hd hj hd2) iv.1.1 _ fun c H1 i1 l1 e => by
    subst e
    have go : ∀ {t : TS}, Two K i j t Γ as ds N → t D σ H1 := fun h => h G σ H1 D l us m vs (ev.le (G := own2 G l us m vs) (le2 l1)) (inv2 iv i1 l1) hwl hi (hd.ex (le2 l1)) hj (hd2.ex (le2 l1)) fun σ2 H2 us2 vs2 as2 ds2 Γ3 i2 e2 => k σ2 H2 us2 vs2 as2 ds2 Γ3 i2 fun c u hc => e2 c u (le2 l1 c u hc)
    cases c with
    | true => exact go (h1 rfl)
    | false => exact go (h2 rfl)
theorem two_next (hn : N as ds Γ) : Two K i j tNext Γ as ds N := fun G σ H D l us m vs ev iv hwl hi hd hj hd2 k => k σ H us vs as ds Γ iv (fun _ _ h => h) ev hwl hi hd hj hd2 hn
theorem two_seq {N2 : List PyData → List PyData → List Sl → Prop} (h : Two K i j ts Γ as ds N2) (h2 : ∀ as' ds' Γ', N2 as' ds' Γ' → Two K i j tu Γ' as' ds' N) : Two K i j (tSeq ts tu) Γ as ds N := fun G σ H D l us m vs ev iv hwl hi hd hj hd2 k =>
  h G σ H _ l us m vs ev iv hwl hi hd hj hd2 fun σ' H' us' vs' as' ds' Γ' i' e' ev' w' hi' hd' hj' hd2' n' => h2 as' ds' Γ' n' G σ' H' D l us' m vs' ev' i' w' hi' hd' hj' hd2' fun σ2 H2 us2 vs2 as2 ds2 Γ3 i2 e2 => k σ2 H2 us2 vs2 as2 ds2 Γ3 i2 fun c u hc => e2 c u (e' c u hc)
/-- an append to the second list -/
theorem two_appJ (hk : Keep Γ j) (hjl : j < Γ.length) (hj0 : Γ[j]? = some .any) (hlen : ds.length < 1000) (h : EvD K te Γ P) (hn : ∀ e, P e → N as (ds ++ [e]) Γ) : Two K i j (tDrop (tBM K "list" rAppend (tVar j) (tCons te tNil))) Γ as ds N := fun G σ H D l us m vs ev iv hwl hi hd hj hd2 k =>
  au_app (S := [0, i]) (N := fun es Γ' => ∃ e, P e ∧ es = ds ++ [e] ∧ Γ' = Γ.set j (.olst (ds ++ [e]))) hk hjl hlen h (fun e he => ⟨e, he, rfl, rfl⟩) (G.own l (.lst us)) σ H D m vs ev iv hj hd2 fun σ' H' us' es Γ' i' e' ev' hj' hd' ⟨e, he, e1, e2⟩ s => by
    subst e1
    subst e2
    refine k σ' H' us us' as _ Γ i' e' (ev'.weak (by rw [List.length_set]) fun q t ht => ?_) ?_ ((s i (by simp)).trans hi) (hd.ex e') hj' hd' (hn e he)
    · by_cases hq : q = j
      · subst hq; rw [hj0] at ht; exact .inl (Option.some.inj ht).symm
      · exact .inr (by rw [List.getElem?_set_ne (Ne.symm hq)]; exact ht)
    · obtain ⟨a, q, h1, h3⟩ := hwl
      exact ⟨a, q, (s 0 (by simp)).trans h1, h3⟩
theorem two_sym (h : Two K j i ts Γ ds as fun d a Γ' => N a d Γ') : Two K i j ts Γ as ds N := fun G σ H D l us m vs ev iv hwl hi hd hj hd2 k => by
  have e0 : ∀ {us vs}, own2 G l us m vs = own2 G m vs l us := own_comm
  rw [e0] at ev iv hd hd2
  refine h G σ H D m vs l us ev iv hwl hj hd2 hi hd fun σ' H' us' vs' as' ds' Γ' i' e' ev' w' hi' hd' hj' hd2' n' => ?_
  rw [← e0] at i' ev' hd' hd2'
  exact k σ' H' vs' us' ds' as' Γ' i' (by rw [e0, e0]; exact e') ev' w' hj' hd2' hi' hd' n'
theorem two_appI (hk : Keep Γ i) (hil : i < Γ.length) (hi0 : Γ[i]? = some .any) (hlen : as.length < 1000) (h : EvD K te Γ P) (hn : ∀ e, P e → N (as ++ [e]) ds Γ) : Two K i j (tDrop (tBM K "list" rAppend (tVar i) (tCons te tNil))) Γ as ds N := two_sym (two_appJ hk hil hi0 hlen h hn)
theorem two_for {vs0 : List Nat} {n : Nat} {Pi : Nat → PyData → Prop} {Nt : Nat → PyData → List Sl} {I : Nat → List PyData → List PyData → Prop} (h0v : 0 ∉ vs0) (hiv : i ∉ vs0) (hjv : j ∉ vs0) (hi : EvI0 K wi Γ (· = n) Pi) (hg : ∀ q, TgOk K g vs0 Γ (Pi q) (Nt q)) (h0 : I 0 as ds)
    (hb : ∀ q as ds d, q < n → I q as ds → Pi q d → Two K i j tu (Nt q d) as ds fun as' ds' Γ' => I (q + 1) as' ds' ∧ W Γ' Γ) : Two K i j (tFor wi g tu) Γ as ds fun as' ds' Γ' => I n as' ds' ∧ Γ' = Γ := fun G σ H D l us0 m vs0' ev iv hwl hil hd hjm hd2 k => by
  refine hi (own2 G l us0 m vs0') σ H ev iv _ fun n' J H1 hnn iv1 l1 w => ?_
  subst hnn
  let Iv : Nat → L2.St → Hp → Prop := fun q σ' H' => ∃ us vs as ds, (own2 G l us m vs).inv H' ∧ Ex ((own2 G l us0 m vs0').view H1) ((own2 G l us m vs).view H') ∧ EnvOk K (own2 G l us m vs) H' σ' Γ ∧ WellAt G σ' ∧ σ'[i]? = some (some (.ref l)) ∧ DqAll K ((own2 G l us m vs).view H') us as ∧ σ'[j]? = some (some (.ref m)) ∧ DqAll K ((own2 G l us m vs).view H') vs ds ∧ I q as ds
  refine ⟨fun q c σ' H' => c = n' - q ∧ q ≤ n' ∧ Iv q σ' H', ⟨n', by simp, Nat.zero_le _, us0, vs0', as, ds, iv1, fun _ _ h => h, ev.le l1, hwl, hil, hd.ex l1, hjm, hd2.ex l1, h0⟩, ?_⟩
  rintro q c σ2 H2 ⟨rfl, hle, us, vs, as2, ds2, iv2, e2, ev2, hw2, hi2, hd2', hj2, hd3, ii⟩
  have w2 := w (own2 G l us m vs) H2 e2 iv2
  by_cases hlt : q < n'
  · refine .inr ⟨(w2.1 q hlt).1, fun σ' H' => q + 1 ≤ n' ∧ Iv (q + 1) σ' H', fun σ' H' h' => ⟨n' - (q + 1), by omega, rfl, h'⟩, fun x H3 hy => ?_⟩
    obtain ⟨iv3, l3, d, pd, dq⟩ := (w2.1 q hlt).2 x H3 hy
    refine hg q (own2 G l us m vs) σ2 H3 x d (ev2.le l3) iv3 pd dq _ fun σ3 _ hs3 ev3 => ?_
    refine hb q as2 ds2 d hlt ii pd G σ3 H3 _ l us m vs ev3 iv3 (by obtain ⟨a, r, h1, h3⟩ := hw2; exact ⟨a, r, (hs3 0 h0v).trans h1, h3⟩) (by rw [hs3 i hiv]; exact hi2) (hd2'.ex l3) (by rw [hs3 j hjv]; exact hj2) (hd3.ex l3) fun σ4 H4 us4 vs4 as4 ds4 Γ4 iv4 e4 ev4 w4 hi4 hd4 hj4 hd5 n4 => ?_
    exact ⟨hlt, us4, vs4, as4, ds4, iv4, fun c u h => e4 c u (l3 c u (e2 c u h)), ev4.weak n4.2.1 n4.2.2, w4, hi4, hd4, hj4, hd5, n4.1⟩
  · obtain rfl : q = n' := by omega
    exact .inl ⟨w2.2, k σ2 H2 us vs as2 ds2 _ iv2 (fun c u h => e2 c u (l1 c u h)) ev2 hw2 hi2 hd2' hj2 hd3 ⟨ii, rfl⟩⟩
/-- inner work, then an append to the first list of what is read in the bare frame -/
theorem two_stepApp {M : List Sl → Prop} {P : List Sl → PyData → Prop} (hij : i ≠ j) (h0S : 0 ∈ S) (hiS : i ∈ S) (hjS : j ∈ S) (hk : KeepD Γ j) (hj0 : ∀ s, Γ[j]? = some s → s = .any) (hlen : as.length < 1000) (h : ThruU K S ts (outΓ Γ i as j ds) M)
    (he : ∀ Γ1, M Γ1 → EvD K te Γ1 fun d => P Γ1 d ∧ noL d = true)
    (h2 : ∀ Γ1 d, M Γ1 → P Γ1 d → ∃ Γ2, Γ1.length = Γ2.length ∧ (∀ (q : Nat) t, Γ2[q]? = some t → t = .any ∨ (∃ d, t = .dat d ∧ noL d = true ∧ Γ1[q]? = some t) ∨ (q ∈ S ∧ ∃ d, t = .dat d ∧ Γ[q]? = some t)) ∧ Two K i j tu Γ2 (as ++ [d]) ds N) :
    Two K i j (tSeq ts (tSeq (tDrop (tBM K "list" rAppend (tVar i) (tCons te tNil))) tu)) Γ as ds N := fun G σ H D l us m vs ev iv hwl hi hd hj hd2 k =>
  h G σ H _ (out2 hk hj0 ev iv hwl hi hd hj hd2) iv.1.1 fun σ' H' Γ1 i' le ev' m' s => by
    have iv1 := inv2 iv i' le
    refine ⟨_, (s i hiS).trans hi, .inl ⟨rfl, _, SqL.of (G.sub iv1.1.2)⟩, he Γ1 m' G σ' H' ev' i' _ fun v d H1 i1 l1 ⟨pd, nd⟩ dq => ?_⟩
    obtain ⟨Γ2, hl, hw, h3⟩ := h2 Γ1 d m' pd
    have le1 := le.trans l1
    have iv2 := inv2 iv i1 le1
    have hlv : us.length < 1000 := by rw [hd.length]; exact hlen
    refine ⟨l, us, v, rfl, rfl, G.sub iv2.1.2, by rw [sizeLine_eq]; omega, ?_⟩
    have ev2 := back2 ev iv i1 le1 (ev'.le l1) s hl hw
    have dv : Dq K ((own2 G l us m vs).view H1) v d := Dq.hide iv2.2 (Dq.hide iv2.1.2 dq nd) nd
    have iv3 : ((G.own m (.lst vs)).own l (.lst us)).inv H1 := by rw [← own_comm]; exact iv2
    have st := Fr.own_set (o' := .lst (us ++ [v])) iv3
    have ivn : (own2 G l (us ++ [v]) m vs).inv (upd H1 l (.lst (us ++ [v]))) := by
      show ((G.own l (.lst (us ++ [v]))).own m (.lst vs)).inv _
      rw [own_comm]
      exact st.1
    have vwn : (own2 G l (us ++ [v]) m vs).view (upd H1 l (.lst (us ++ [v]))) = (own2 G l us m vs).view H1 := by
      show ((G.own l (.lst (us ++ [v]))).own m (.lst vs)).view _ = ((G.own l (.lst us)).own m (.lst vs)).view H1
      rw [own_comm, own_comm (l := l) (o := .lst us)]
      exact st.2
    have evn : EnvOk K (own2 G l (us ++ [v]) m vs) (upd H1 l (.lst (us ++ [v]))) σ' Γ2 := ⟨ev2.1, fun q t ht => by
      rcases hw q t ht with e | ⟨d', e, _⟩ | ⟨_, d', e, _⟩
      · exact .inl e
      · subst e
        rcases ev2.2 q _ ht with z | ⟨x, hx, dx⟩
        · exact .inl z
        · exact .inr ⟨x, hx, (show Dq K ((own2 G l (us ++ [v]) m vs).view _) x d' by rw [vwn]; exact dx)⟩
      · subst e
        rcases ev2.2 q _ ht with z | ⟨x, hx, dx⟩
        · exact .inl z
        · exact .inr ⟨x, hx, (show Dq K ((own2 G l (us ++ [v]) m vs).view _) x d' by rw [vwn]; exact dx)⟩⟩
    refine h3 G σ' _ D l (us ++ [v]) m vs evn ivn (by obtain ⟨a, q, h1, h4⟩ := hwl; exact ⟨a, q, (s 0 h0S).trans h1, h4⟩) ((s i hiS).trans hi) (by rw [vwn]; exact (hd.ex (le2 le1)).append (.cons dv .nil)) ((s j hjS).trans hj) (by rw [vwn]; exact hd2.ex (le2 le1)) fun σ2 H2 us2 vs2 as2 ds2 Γ3 i2 e2 => k σ2 H2 us2 vs2 as2 ds2 Γ3 i2 fun c u hc => e2 c u (by rw [vwn]; exact le2 le1 c u hc)
end
end L2

set_option Elab.async false
set_option linter.all false
set_option maxRecDepth 100000
set_option maxHeartbeats 4000000
/-! Comprehensions with a filter; names in a list of names; two new lists. -/
namespace L2
open PySem PySem.Spec PyProof.Rows
open Evl (Ex)
section
variable {K : PySem.W.Frag} {Γ Γ' : List Sl} {te tb tl : TE} {tt : TT} {ta : TA} {wi : TI} {g : TG} {P : PyData → Prop} {tu ts : TS} {i j : Nat}
theorem ev_lcB {n : Nat} {vs : List Nat} {Pi : Nat → PyData → Prop} {N : PyData → List Sl} {b : Nat → Bool} {f : Nat → PyData} (hn : n < 100000) (hi : EvI0 K wi Γ (· = n) Pi) (hg : ∀ i, TgOk K g vs (wipeΓ Γ vs) (Pi i) N)
    (ht : ∀ i d, i < n → Pi i d → EvB K tt (N d) (· = b i)) (he : ∀ i d, i < n → Pi i d → b i = true → EvD K te (N d) (· = f i)) :
    EvD K (tLc wi g tt te vs) Γ (· = .list (((List.range n).filter b).map f)) := fun G σ H ev iv Q k => by
  refine hi G σ H ev iv _ fun n' J H1 hn' iv1 l1 w D hD => ?_
  subst hn'
  have ho := Fr.own_new (G := G) (o := HO.lst []) iv1 hD
  let Iv : Nat → Hp → Prop := fun i H => ∃ (acc : List V), (G.own D (.lst acc)).inv H ∧ Ex (G.view H1) ((G.own D (.lst acc)).view H) ∧ acc.length ≤ i ∧ DqAll K ((G.own D (.lst acc)).view H) acc (((List.range i).filter b).map f)
  refine ⟨fun i m H => m = n' - i ∧ i ≤ n' ∧ Iv i H, ⟨n', by simp, Nat.zero_le _, [], ho.1, by rw [ho.2]; exact fun _ _ h => h, Nat.le_refl _, .nil⟩, ?_⟩
  rintro i m H2 ⟨rfl, hle, acc, iv2, e2, hlen, dqs⟩
  have w2 := w (G.own D (.lst acc)) H2 e2 iv2
  by_cases hlt : i < n'
  · refine .inr ⟨(w2.1 i hlt).1, fun H => i + 1 ≤ n' ∧ Iv (i + 1) H, fun H' h' => ⟨n' - (i + 1), by omega, rfl, h'⟩, fun x H3 hy => ?_⟩
    obtain ⟨iv3, l3, d, pd, dq⟩ := (w2.1 i hlt).2 x H3 hy
    have ev3 : EnvOk K (G.own D (.lst acc)) H3 σ Γ := (ev.le l1).own fun c u h => l3 c u (e2 c u h)
    refine hg i (G.own D (.lst acc)) (L2.wipe σ vs) H3 x d (ev3.wipe vs) iv3 pd dq _ fun σ2 hl2 hs2 ev4 => ⟨wipe_eq hl2 hs2, ?_⟩
    refine ht i d hlt pd (G.own D (.lst acc)) σ2 H3 ev4 iv3 _ fun c H4 i4 l4 ec => ?_
    have hr : ∀ c, b i = c → ((List.range (i + 1)).filter b).map f = ((List.range i).filter b).map f ++ (if c = true then [f i] else []) := fun c hc => by
      rw [List.range_succ, List.filter_append, List.map_append]
      congr 1
      rw [List.filter_cons, hc]
      cases c <;> rfl
    cases c with
    | false =>
      rw [if_neg (by decide)]
      refine ⟨hlt, acc, i4, fun c u h => l4 c u (l3 c u (e2 c u h)), by omega, ?_⟩
      rw [hr false ec.symm, if_neg (by decide), List.append_nil]
      exact (dqs.ex l3).ex l4
    | true =>
      rw [if_pos rfl]
      refine he i d hlt pd ec.symm (G.own D (.lst acc)) σ2 H4 (ev4.le l4) i4 _ fun y e H5 i5 l5 r5 dq5 => ⟨acc, Fr.own_at i5, by rw [sizeLine_eq]; omega, hlt, acc ++ [y], ?_⟩
      have st := Fr.own_set (o' := .lst (acc ++ [y])) i5
      subst r5
      refine ⟨st.1, fun c u h => ?_, by rw [List.length_append]; show acc.length + 1 ≤ i + 1; omega, ?_⟩
      · rw [st.2]
        exact l5 c u (l4 c u (l3 c u (e2 c u h)))
      · rw [st.2, hr true ec.symm, if_pos rfl]
        exact (((dqs.ex l3).ex l4).ex l5).append (.cons dq5 .nil)
  · obtain rfl : i = n' := by omega
    exact .inl ⟨w2.2, k (.ref D) _ H2 iv2.1 (l1.trans (Fr.own_le (Fr.blank hD) e2)) rfl (.lst (.inl (.inl iv2.2)) (dqs.ex Fr.own_sub))⟩
theorem eqV_str (x s : Str) : eqV (V.str x) (V.str s) = decide (s = x) := by
  unfold eqV
  by_cases e : s = x
  · subst e; simp
  · have e' : ¬ x = s := fun z => e z.symm
    simp [e, e']
theorem inV_strs (s : Str) : ∀ xs : List Str, inV (V.str s) (xs.map V.str) = decide (s ∈ xs)
  | [] => rfl
  | x :: xs => by
    have ih := inV_strs s xs
    unfold inV at ih ⊢
    rw [List.map_cons, List.any_cons, ih, eqV_str]
    by_cases e : s = x <;> simp [e]
/-- x not in names -/
theorem eb_notIn {s : Str} {xs : List Str} (h : EvD K te Γ (· = .str s)) (h2 : EvD K tb Γ (· = .list (xs.map .str))) : EvB K (tTest (tOp (rIn K true) te tb)) Γ (· = !decide (s ∈ xs)) := fun G σ H e i Q q =>
  h G σ H e i _ fun v d H1 i1 l1 p1 dq => h2 G σ H1 (e.le l1) i1 _ fun v2 d2 H2 i2 l2 p2 dq2 => by
    subst p1; subst p2
    cases dq
    cases dq2 with
    | lst hs ha =>
      have hx := strs_of ha
      subst hx
      have hf : (xs.map V.str).all flatV = true := by
        rw [List.all_map]
        exact List.all_eq_true.mpr fun _ _ => rfl
      have hin := inV_strs s xs
      refine ⟨_, _, rfl, .inl (Fr.upL hs), rfl, hf, ?_⟩
      refine ⟨_, rfl, ?_⟩
      exact q _ H2 i2 (l1.trans l2) (by simp [hin])
/-- x, y = [], []; ..; return (x, y) -/
theorem rs_two {N : List PyData → List PyData → List Sl → Prop} (h0 : Γ[0]? = some .well) (hi : i < Γ.length) (hj : j < Γ.length) (hij : i ≠ j) (hi0 : i ≠ 0) (hj0 : j ≠ 0) (h : Two K i j ts (((Γ.set i .any).set j .any).set 0 .any) [] [] N) (hN : ∀ as ds Γ', N as ds Γ' → P (.tuple [.list as, .list ds])) :
    Rets K (tSeq (tAsg (tTup (tCons (tLst tNil) (tCons (tLst tNil) tNil))) (gTup K 2 (gCons (gName i) (gCons (gName j) gNil)))) (tSeq ts (tRet (tTup (tCons (tVar i) (tCons (tVar j) tNil)))))) Γ P := fun G σ H D ev iv k =>
  ⟨Nat.zero_le _, fun p hp => ⟨Nat.zero_le _, fun r hr => ⟨by show 2 ≤ sizeLine; decide, fun t ht => by
    obtain ⟨iv1, vw1⟩ := Fr.own_new (G := G) (o := HO.lst []) iv hp
    obtain ⟨iv2, vw2⟩ := Fr.own_new (G := G.own p (.lst [])) (o := HO.lst []) iv1 hr
    obtain ⟨iv3, l3, v3⟩ := Fr.new (G := own2 G p [] r []) (o := .tup [.ref p, .ref r]) iv2 ht
    have base : Ex (G.view H) ((own2 G p [] r []).view (upd (upd (upd H p (HO.lst [])) r (HO.lst [])) t (.tup [.ref p, .ref r]))) := fun c u hc => l3 c u (by rw [vw2, vw1]; exact hc)
    rcases ev.2 0 _ h0 with z | ⟨v0, hv0, a, q, e0, w0⟩
    · cases z
    · subst e0
      refine ⟨t, [.ref p, .ref r], rfl, .inl (.inl upd_same), rfl, .ref p, [.ref r], rfl, .ref r, [], rfl, rfl, ?_⟩
      have hσi : ((σ.set i (some (.ref p))).set j (some (.ref r)))[i]? = some (some (.ref p)) := by
        rw [List.getElem?_set_ne (Ne.symm hij)]
        exact List.getElem?_set_self (by rw [ev.1]; exact hi)
      have hσj : ((σ.set i (some (.ref p))).set j (some (.ref r)))[j]? = some (some (.ref r)) := List.getElem?_set_self (by rw [List.length_set, ev.1]; exact hj)
      have hσ0 : ((σ.set i (some (.ref p))).set j (some (.ref r)))[0]? = some (some (.ref a)) := by
        rw [List.getElem?_set_ne hj0, List.getElem?_set_ne hi0]
        exact hv0
      have ev2 : EnvOk K (own2 G p [] r []) (upd (upd (upd H p (HO.lst [])) r (HO.lst [])) t (.tup [.ref p, .ref r])) ((σ.set i (some (.ref p))).set j (some (.ref r))) (((Γ.set i .any).set j .any).set 0 .any) := by
        refine ⟨by simp [ev.1], fun q s hs => ?_⟩
        by_cases q0 : q = 0
        · subst q0
          rw [List.getElem?_set_self (by rw [List.length_set, List.length_set]; omega)] at hs
          exact .inl (Option.some.inj hs).symm
        rw [List.getElem?_set_ne (Ne.symm q0)] at hs
        by_cases qj : q = j
        · subst qj
          rw [List.getElem?_set_self (by rw [List.length_set]; omega)] at hs
          exact .inl (Option.some.inj hs).symm
        rw [List.getElem?_set_ne (Ne.symm qj)] at hs
        by_cases qi : q = i
        · subst qi
          rw [List.getElem?_set_self hi] at hs
          exact .inl (Option.some.inj hs).symm
        rw [List.getElem?_set_ne (Ne.symm qi)] at hs
        rw [List.getElem?_set_ne (Ne.symm qj), List.getElem?_set_ne (Ne.symm qi)]
        exact ((ev.own (l := p) (o := .lst []) (H' := upd H p (.lst [])) (by rw [vw1]; exact fun _ _ h => h)).own (l := r) (o := .lst []) (H' := upd (upd (upd H p (HO.lst [])) r (HO.lst [])) t (.tup [.ref p, .ref r])) (by intro c u hc; exact l3 c u (by rw [vw2]; exact hc))).2 q s hs
      refine h G _ _ _ p [] r [] ev2 iv3 ⟨a, q, hσ0, w0⟩ hσi .nil hσj .nil fun σ' H' us vs as ds Γ' i' e' _ _ hi' hd' hj' hd2' n' => ?_
      refine ⟨_, hi', _, hj', by show 2 ≤ sizeLine; decide, fun x hx => ?_⟩
      have g1 : G.view H' p = some (.lst us) := i'.1.2
      have g2 : G.view H' r = some (.lst vs) := (hide_some i'.2).2
      obtain ⟨i4, l4, v4⟩ := Fr.new (G := G) (o := .tup [.ref p, .ref r]) i'.1.1 hx
      have sub : Ex ((own2 G p us r vs).view H') (G.view H') := fun c u hc => (hide_some (hide_some hc).2).2
      exact k _ _ _ i4 (fun c u hc => l4 c u (sub c u (e' c u (base c u hc)))) (hN as ds Γ' n') (.tup (.inl (.inl v4)) (.cons (.lst (SqL.of (l4 _ _ g1)) ((hd'.ex sub).ex l4)) (.cons (.lst (SqL.of (l4 _ _ g2)) ((hd2'.ex sub).ex l4)) .nil)))⟩⟩⟩
end
end L2

set_option Elab.async false
set_option linter.all false
set_option maxRecDepth 100000
set_option maxHeartbeats 4000000
/-! Lists compared; defs whose list is new, and may be changed by the caller. -/
namespace L2
open PySem PySem.Spec PyProof.Rows
open Evl (Ex)
section
variable {K : PySem.W.Frag} {Γ Γ' Γ2 : List Sl} {te tb tl : TE} {tt : TT} {ta : TA} {wi : TI} {g : TG} {P : PyData → Prop} {PN : List PyData → Prop} {tu ts : TS} {i j : Nat} {ds es : List PyData}
theorem dp_list {H : Hp} {n : Nat} : ∀ {xs : List V} {ds : List PyData}, (∀ e ∈ ds, okD n e = true) → DqAll K H xs ds → DpAll K H xs ds
  | _, _, _, .nil => .nil
  | _, _, hd, .cons h t => .cons (dq_dp n (hd _ List.mem_cons_self) h) (dp_list (fun e he => hd e (List.mem_cons_of_mem _ he)) t)
theorem lay_list {n : Nat} : ∀ ys : List PyData, (∀ e ∈ ys, okD n e = true) → PyData.canLayAll0 ys = true ∧ PyData.depthAll ys ≤ n
  | [], _ => ⟨by simp only [PyData.canLayAll0], by simp only [PyData.depthAll]; omega⟩
  | y :: ys, hy => by
    have h1 := okD_lay n y (hy y List.mem_cons_self)
    have h2 := lay_list ys fun e he => hy e (List.mem_cons_of_mem _ he)
    exact ⟨by simp only [PyData.canLayAll0]; rw [h1.1, h2.1]; rfl, by simp only [PyData.depthAll]; omega⟩
theorem shaped_list {n : Nat} (hn : n < 64) {ds : List PyData} (h : ∀ e ∈ ds, okD n e = true) : SeqAt.shaped (.list ds) = true := by
  have l := lay_list ds h
  show (PyData.canLay0 (.list ds) && decide (PyData.depth (.list ds) ≤ 64)) = true
  have q1 : PyData.canLay0 (.list ds) = true := by simp only [PyData.canLay0]; exact l.1
  have q2 : PyData.depth (.list ds) ≤ 64 := by simp only [PyData.depth]; omega
  rw [q1, decide_eq_true q2]
  rfl
/-- != of two lists of flat data -/
theorem ev_neL {n : Nat} (hn : n < 64) (h1 : ∀ e ∈ ds, okD n e = true) (h2 : ∀ e ∈ es, okD n e = true) (ha : EvD K te Γ (· = .list ds)) (hb : EvD K tb Γ (· = .list es)) : EvD K (tOp (rNeD K) te tb) Γ (· = .bool (!PyData.eqv (.list ds) (.list es))) := fun G σ H ev iv Q q =>
  ha G σ H ev iv _ fun v d1 H1 i1 l1 p1 dq => hb G σ H1 (ev.le l1) i1 _ fun v2 d2 H2 i2 l2 p2 dq2 => by
    subst p1; subst p2
    cases dq with
    | lst hs e3 =>
      cases dq2 with
      | lst hs2 e4 =>
        exact ⟨.list ds, .list es, .lst (Fr.upL (exL l2 hs)) (dp_list h1 ((e3.ex l2).ex fun _ _ => G.sub)), .lst (Fr.upL hs2) (dp_list h2 (e4.ex fun _ _ => G.sub)), shaped_list hn h1, shaped_list hn h2, q _ _ H2 i2 (l1.trans l2) rfl (.bl _)⟩
theorem eqv_list {n : Nat} : ∀ {ds : List PyData}, (∀ e ∈ ds, okD n e = true) → PyData.eqv (.list ds) (.list ds) = true := fun {ds} h => by
  have key : ∀ ds : List PyData, (∀ e ∈ ds, okD n e = true) → PyData.eqvAll ds ds = true := by
    intro ds
    induction ds with
    | nil => intro _; simp only [PyData.eqvAll]
    | cons d ds ih =>
      intro h
      have h1 := h d List.mem_cons_self
      simp only [PyData.eqvAll]
      rw [(eqv_iff h1 h1).mpr rfl, ih fun e he => h e (List.mem_cons_of_mem _ he)]
      rfl
  simp only [PyData.eqv]
  exact key ds h
/-- a block that returns a new list, or raises one field, or returns a text -/
def RetN (K : PySem.W.Frag) (ts : TS) (Γ : List Sl) (PN : List PyData → Prop) : Prop := ∀ (G : Fr) (σ : L2.St) (H : Hp) (D : Ends), EnvOk K G H σ Γ → G.inv H →
  (∀ l vs ds H', (G.own l (.lst vs)).inv H' → Ex (G.view H) ((G.own l (.lst vs)).view H') → PN ds → DqAll K ((G.own l (.lst vs)).view H') vs ds → D.rt (.ref l) H') → ts D σ H
theorem rn_ret (h : EvN K te Γ PN) : RetN K (tRet te) Γ PN := fun G σ H D ev iv k => h G σ H ev iv _ k
theorem rn_set (hi : i < Γ.length) (h : EvD K te Γ P) (h2 : ∀ d, P d → RetN K tu (Γ.set i (.dat d)) PN) : RetN K (tSeq (tAsg te (gName i)) tu) Γ PN := fun G σ H D ev iv k =>
  h G σ H ev iv _ fun v d H1 i1 l1 p dq => h2 d p G _ H1 D ((ev.le l1).set (s := .dat d) hi dq) i1 fun l vs ds H2 i2 e2 => k l vs ds H2 i2 fun c u hc => e2 c u (l1 c u hc)
abbrev ResN := Sum (List PyData) PyData
/-- the promise of a def that gives a new list, or raises one field -/
def spZ (K : PySem.W.Frag) (C : Addr) (f : Str) {γ : Type} (pre : γ → List Sl → Prop) (post : γ → ResN) : Sp := fun vs H Q E => ∃ (G : Fr) (ss : List Sl) (c : γ), G.inv H ∧ ArgsOk K G H vs ss ∧ pre c ss ∧
  (∀ l us ds H', (G.own l (.lst us)).inv H' → Ex (G.view H) ((G.own l (.lst us)).view H') → post c = .inl ds → DqAll K ((G.own l (.lst us)).view H') us ds → Q (.ref l) H') ∧ ExR1 K G C E f (fun p => post c = .inr p) H
/-- the promise of a def that gives a new list, or other data -/
def spM (K : PySem.W.Frag) {γ : Type} (pre : γ → List Sl → Prop) (post : γ → ResN) : Sp := fun vs H Q _ => ∃ (G : Fr) (ss : List Sl) (c : γ), G.inv H ∧ ArgsOk K G H vs ss ∧ pre c ss ∧
  (∀ l us ds H', (G.own l (.lst us)).inv H' → Ex (G.view H) ((G.own l (.lst us)).view H') → post c = .inl ds → DqAll K ((G.own l (.lst us)).view H') us ds → Q (.ref l) H') ∧
  (∀ v d H', G.inv H' → G.le H H' → post c = .inr d → Dq K (G.view H') v d → Q v H')
def RetNX (K : PySem.W.Frag) (C : Addr) (E : XK) (f : Str) (ts : TS) (Γ : List Sl) (PN : List PyData → Prop) (PX : PyData → Prop) : Prop := ∀ (G : Fr) (σ : L2.St) (H : Hp) (D : Ends), EnvOk K G H σ Γ → G.inv H →
  (∀ l vs ds H', (G.own l (.lst vs)).inv H' → Ex (G.view H) ((G.own l (.lst vs)).view H') → PN ds → DqAll K ((G.own l (.lst vs)).view H') vs ds → D.rt (.ref l) H') → ExR1 K G C E f PX H → ts D σ H
variable {C : Addr} {E : XK} {f : Str} {PX : PyData → Prop}
theorem RetNX.of (h : RetN K ts Γ PN) : RetNX K C E f ts Γ PN PX := fun G σ H D ev iv k _ => h G σ H D ev iv k
theorem rnx_set (hi : i < Γ.length) (h : EvD K te Γ P) (h2 : ∀ d, P d → RetNX K C E f tu (Γ.set i (.dat d)) PN PX) : RetNX K C E f (tSeq (tAsg te (gName i)) tu) Γ PN PX := fun G σ H D ev iv k kx =>
  h G σ H ev iv _ fun v d H1 i1 l1 p dq => h2 d p G _ H1 D ((ev.le l1).set (s := .dat d) hi dq) i1 (fun l vs ds H2 i2 e2 => k l vs ds H2 i2 fun c u hc => e2 c u (l1 c u hc)) (kx.le l1 fun _ h => h)
theorem rnx_if (b : Bool) (h : EvB K tt Γ (· = b)) (h1 : b = true → RetX1 K C E f ts Γ (fun _ => False) PX) (h2 : b = false → RetNX K C E f tu Γ PN PX) : RetNX K C E f (tSeq (tIfS tt ts tNext) tu) Γ PN PX := fun G σ H D ev iv k kx =>
  h G σ H ev iv _ fun c H1 i1 l1 e => by
    subst e
    cases c with
    | true => exact h1 rfl G σ H1 _ (ev.le l1) i1 (fun v d H2 _ _ p => p.elim) (kx.le l1 fun _ h => h)
    | false => exact h2 rfl G σ H1 D (ev.le l1) i1 (fun l vs ds H2 i2 e2 => k l vs ds H2 i2 fun c u hc => e2 c u (l1 c u hc)) (kx.le l1 fun _ h => h)
theorem doneNX {G : Fr} {H : Hp} {vs : List V} {ss : List Sl} {D : Ends} {N : List Str} (n : Nat) (hs : L2.start N vs = vs.map some ++ List.replicate n none) (h : RetNX K C E f ts (ss ++ List.replicate n .any) PN PX) (iv : G.inv H) (a : ArgsOk K G H vs ss)
    (k : ∀ l us ds H', (G.own l (.lst us)).inv H' → Ex (G.view H) ((G.own l (.lst us)).view H') → PN ds → DqAll K ((G.own l (.lst us)).view H') us ds → D.rt (.ref l) H') (kx : ExR1 K G C E f PX H) : ts D (L2.start N vs) H := by
  rw [hs]
  exact h G _ H D (envOk_of n a) iv k kx
/-- x = f(..), the new list kept aside from then on; what stands behind it leaves it in the end -/
theorem th_callM {γ : Type} {pre : γ → List Sl → Prop} {post : γ → ResN} {PS : List Sl → Prop} {Ex0 : XK} (c : γ) (hi : i < Γ.length) (h : EvS K ta Γ PS) (hp : ∀ ss, PS ss → pre c ss)
    (h1 : ∀ ds, post c = .inl ds → Apps K tu (Γ.set i (.olst ds)) i ds fun _ Γ1 => KeepD (Γ1.set i .any) Γ1.length ∧ W (Γ1.set i .any) Γ2) (h2 : ∀ d, post c = .inr d → Thru K tu (Γ.set i (.dat d)) Γ2) :
    Thru K (tSeq (tAsg (tCall (spM K pre post) [] Ex0 ta) (gName i)) tu) Γ Γ2 := fun G σ H D ev iv k =>
  h G σ H ev iv _ fun vs ss H1 i1 l1 ps a => by
    rw [List.append_nil]
    refine ⟨G, ss, c, i1, a, hp ss ps, fun l us ds H2 i2 e2 pd dq => ?_, fun v d H2 i2 l2 pd dq => ?_⟩
    · have ev2 : EnvOk K (G.own l (.lst us)) H2 σ Γ := (ev.le l1).own e2
      refine h1 ds pd G _ H2 D l us (ev2.set (s := .olst ds) (v := .ref l) hi ⟨l, us, rfl, fun H' i => Fr.own_at i, dq⟩) i2 (List.getElem?_set_self (by rw [ev.1]; exact hi)) dq fun σ' H' us' es Γ1 i' e' ev' hj' hd' ⟨kd, w⟩ => ?_
      have le : G.le H H' := fun c u hc => (hide_some (e' c u (e2 c u (l1 c u hc)))).2
      refine k σ' H' i'.1 le ?_
      have ev3 : EnvOk K (G.own l (.lst us')) H' σ' (Γ1.set i .any) := ev'.weak (by rw [List.length_set]) fun q s hs => by
        by_cases e : q = i
        · subst e
          by_cases hl : q < Γ1.length
          · rw [List.getElem?_set_self hl] at hs
            exact .inl (Option.some.inj hs).symm
          · rw [List.getElem?_eq_none (by rw [List.length_set]; omega)] at hs
            cases hs
        · rw [List.getElem?_set_ne (Ne.symm e)] at hs
          exact .inr hs
      have ev4 : EnvOk K G H' σ' (Γ1.set i .any) := ⟨ev3.1, fun q s hs => by
        have hq : q < (Γ1.set i .any).length := (List.getElem?_eq_some_iff.mp hs).1
        rw [List.length_set] at hq
        rcases ev3.2 q s hs with z | ⟨v, h1, h2⟩
        · exact .inl z
        · rcases kd q s (by omega) hs with rfl | ⟨d, rfl⟩ | ⟨C, fs, rfl⟩
          · exact .inl rfl
          · exact .inr ⟨v, h1, Dq.ex Fr.own_sub h2⟩
          · obtain ⟨a, dx, us, e1, e2, e3⟩ := h2
            exact .inr ⟨v, h1, a, dx, us, e1, Fr.own_sub _ _ e2, e3.ex Fr.own_sub⟩⟩
      exact ev4.weak w.1 w.2
    · exact h2 d pd G _ H2 D ((ev.le (l1.trans l2)).set (s := .dat d) hi dq) i2 fun σ' H' i' l' => k σ' H' i' ((l1.trans l2).trans l')
end
end L2

set_option Elab.async false
set_option linter.all false
set_option maxRecDepth 100000
set_option maxHeartbeats 4000000
/-! Blocks over places that own their lists: any number of them. -/
namespace L2
open PySem PySem.Spec PyProof.Rows
open Evl (Ex)
abbrev OS := Addr → Option HO
def hideS (H : Hp) (S : OS) : Hp := fun b => if (S b).isSome then none else H b
theorem hideS_none {H : Hp} {S : OS} {b : Addr} (h : S b = none) : hideS H S b = H b := by unfold hideS; rw [h]; rfl
theorem hideS_some {H : Hp} {S : OS} {b : Addr} {o : HO} (h : hideS H S b = some o) : S b = none ∧ H b = some o := by
  cases e : S b with
  | none => rw [hideS_none e] at h; exact ⟨rfl, h⟩
  | some u => unfold hideS at h; rw [e] at h; cases h
theorem hideS_upd {H : Hp} {S : OS} {p : Addr} {o : HO} (h : S p = none) : hideS (upd H p o) S = upd (hideS H S) p o := by
  funext b
  by_cases e : b = p
  · subst e; rw [upd_same, hideS_none h, upd_same]
  · rw [upd_ne e]
    unfold hideS
    rw [upd_ne e]
def Fr.owns (G : Fr) (S : OS) : Fr :=
  ⟨fun H => hideS (G.view H) S, fun H => G.inv H ∧ ∀ b o, S b = some o → G.view H b = some o, fun h => G.sub (hideS_some h).2, fun {H p u} i h => by
    have hp : S p = none := by
      cases e : S p with
      | none => rfl
      | some o =>
        have g := i.2 p o e
        rcases h with h | ⟨x, h⟩
        · rw [G.sub g] at h; cases h
        · have := (hideS_some h).1
          rw [e] at this; cases this
    obtain ⟨a, b⟩ := G.put (o := u) i.1 (h.imp id fun ⟨x, e⟩ => ⟨x, (hideS_some e).2⟩)
    refine ⟨⟨a, fun c o hc => ?_⟩, ?_⟩
    · rw [b, upd_ne (fun e => by rw [e, hp] at hc; cases hc)]
      exact i.2 c o hc
    · show hideS (G.view _) S = _
      rw [b, hideS_upd hp]⟩
def OS.nil : OS := fun _ => none
def OS.put (S : OS) (l : Addr) (o : HO) : OS := fun b => if b = l then some o else S b
def OS.drop (S : OS) (l : Addr) : OS := fun b => if b = l then none else S b
theorem OS.put_same {S : OS} {l : Addr} {o : HO} : S.put l o l = some o := if_pos rfl
theorem OS.put_ne {S : OS} {l b : Addr} {o : HO} (h : b ≠ l) : S.put l o b = S b := if_neg h
theorem OS.drop_same {S : OS} {l : Addr} : S.drop l l = none := if_pos rfl
theorem OS.drop_ne {S : OS} {l b : Addr} (h : b ≠ l) : S.drop l b = S b := if_neg h
theorem owns_nil {G : Fr} : G.owns OS.nil = G := Fr.eq (funext fun H => funext fun b => hideS_none (S := OS.nil) rfl) (funext fun H => propext ⟨fun h => h.1, fun h => ⟨h, fun b o e => by cases e⟩⟩)
theorem owns_own {G : Fr} {S : OS} {l : Addr} {o : HO} (hS : S l = none) : (G.owns S).own l o = G.owns (S.put l o) := by
  refine Fr.eq (funext fun H => funext fun b => ?_) (funext fun H => propext ⟨fun ⟨⟨i, h⟩, e⟩ => ⟨i, fun b u hb => ?_⟩, fun ⟨i, h⟩ => ⟨⟨i, fun b u hb => ?_⟩, ?_⟩⟩)
  · show hide (hideS (G.view H) S) l b = hideS (G.view H) (S.put l o) b
    by_cases e : b = l
    · subst e
      rw [hide_same]
      unfold hideS
      rw [OS.put_same]
      rfl
    · rw [hide_ne e]
      unfold hideS
      rw [OS.put_ne e]
  · by_cases e2 : b = l
    · subst e2
      rw [OS.put_same] at hb
      cases hb
      exact (hideS_some e).2
    · rw [OS.put_ne e2] at hb
      exact h b u hb
  · refine h b u ?_
    rw [OS.put_ne (fun e2 => by rw [e2, hS] at hb; cases hb)]
    exact hb
  · show hideS (G.view H) S l = some o
    rw [hideS_none hS]
    exact h l o OS.put_same
theorem owns_set {G : Fr} {S : OS} {H : Hp} {l : Addr} {o o' : HO} (i : (G.owns S).inv H) (hl : S l = some o) : (G.owns (S.put l o')).inv (upd H l o') ∧ (G.owns (S.put l o')).view (upd H l o') = (G.owns S).view H := by
  obtain ⟨a, b⟩ := G.put (o := o') i.1 (.inr ⟨_, i.2 l o hl⟩)
  refine ⟨⟨a, fun c u hc => ?_⟩, funext fun c => ?_⟩
  · rw [b]
    by_cases e : c = l
    · subst e
      rw [OS.put_same] at hc
      cases hc
      exact upd_same
    · rw [OS.put_ne e] at hc
      rw [upd_ne e]
      exact i.2 c u hc
  · show hideS (G.view _) (S.put l o') c = hideS (G.view H) S c
    rw [b]
    by_cases e : c = l
    · subst e
      unfold hideS
      rw [OS.put_same, hl]
      rfl
    · unfold hideS
      rw [OS.put_ne e, upd_ne e]
theorem owns_at {G : Fr} {S : OS} {H : Hp} {l : Addr} {o : HO} (i : (G.owns S).inv H) (hl : S l = some o) : H l = some o := G.sub (i.2 l o hl)
theorem owns_sub {G : Fr} {S : OS} {H : Hp} : Ex ((G.owns S).view H) (G.view H) := fun c u e => (hideS_some e).2
theorem owns_drop {G : Fr} {S : OS} {H : Hp} {l : Addr} : Ex ((G.owns S).view H) ((G.owns (S.drop l)).view H) := fun c u e => by
  obtain ⟨h1, h2⟩ := hideS_some e
  show hideS (G.view H) (S.drop l) c = _
  rw [hideS_none, h2]
  by_cases z : c = l
  · rw [z]; exact OS.drop_same
  · rw [OS.drop_ne z]; exact h1
theorem IsW.owns {G : Fr} {a : Addr} {q : Int} {S : OS} (w : IsW G a q) : IsW (G.owns S) a q where
  at_ := fun i => w.at_ i.1
  hid := fun H => by
    show hideS (G.view H) S a = none
    unfold hideS
    rw [w.hid H]
    split <;> rfl
  put := fun {H p r} i => by
    obtain ⟨a1, b1⟩ := w.put (p := p) (r := r) i.1
    refine ⟨⟨a1, fun b o e => by rw [b1]; exact i.2 b o e⟩, ?_⟩
    show hideS (G.view _) S = hideS (G.view _) S
    rw [b1]
/-- a place that owns what it holds -/
def isO : Sl → Bool
  | .olst _ => true
  | .odic _ => true
  | _ => false
def SlB (K : PySem.W.Frag) (G : Fr) (S : OS) (H : Hp) (v : V) : Sl → Prop
  | .any => True
  | .dat d => Dq K ((G.owns S).view H) v d
  | .well => ∃ a q, v = .ref a ∧ IsW G a q
  | .odic m => ∃ a kvs, v = .ref a ∧ S a = some (.dK kvs) ∧ DqKv K ((G.owns S).view H) kvs (m.map fun p => (.str p.1, p.2))
  | .fdic _ => False
  | .ins C fs => ∃ a dx vs, v = .ref a ∧ (G.owns S).view H a = some (.ins C dx vs) ∧ DqFs K ((G.owns S).view H) vs fs
  | .olst ds => ∃ a vs, v = .ref a ∧ S a = some (.lst vs) ∧ DqAll K ((G.owns S).view H) vs ds
  | .sem p => ∀ H', Ex ((G.owns S).view H) H' → p H' v
/-- only lists and dicts are owned -/
def okH : HO → Bool
  | .lst _ => true
  | .dK _ => true
  | _ => false
def OS.ok (S : OS) : Prop := ∀ b o, S b = some o → okH o = true
theorem OS.ok.put {S : OS} {l : Addr} {o : HO} (h : S.ok) (ho : okH o = true) : (S.put l o).ok := fun b u hb => by
  by_cases e : b = l
  · rw [e, OS.put_same] at hb; cases hb; exact ho
  · rw [OS.put_ne e] at hb; exact h b u hb
theorem OS.ok.drop {S : OS} {l : Addr} (h : S.ok) : (S.drop l).ok := fun b u hb => by
  by_cases e : b = l
  · rw [e, OS.drop_same] at hb; cases hb
  · rw [OS.drop_ne e] at hb; exact h b u hb
structure EnvB (K : PySem.W.Frag) (G : Fr) (S : OS) (H : Hp) (σ : L2.St) (Γ : List Sl) : Prop where
  ok : S.ok
  inv : (G.owns S).inv H
  len : σ.length = Γ.length
  sl : ∀ (i : Nat) (s : Sl), Γ[i]? = some s → s = .any ∨ ∃ v, σ[i]? = some (some v) ∧ SlB K G S H v s
  ne : ∀ (i j : Nat) (s t : Sl) (a : Addr), i ≠ j → Γ[i]? = some s → Γ[j]? = some t → isO s = true → isO t = true → σ[i]? = some (some (.ref a)) → σ[j]? = some (some (.ref a)) → False
/-- all that is owned is data again -/
def relSl : Sl → Sl
  | .olst ds => .dat (.list ds)
  | .odic m => .dat (dictD m)
  | s => s
def rel (Γ : List Sl) : List Sl := Γ.map relSl
theorem rel_len (Γ : List Sl) : (rel Γ).length = Γ.length := List.length_map _
section
variable {K : PySem.W.Frag} {G : Fr} {S S' : OS} {H H' : Hp} {σ σ' : L2.St} {Γ Γ' : List Sl}
theorem SlB.ex {v : V} {s : Sl} (h : SlB K G S H v s) (e : Ex ((G.owns S).view H) ((G.owns S).view H')) : SlB K G S H' v s := by
  cases s with
  | any => trivial
  | dat d => exact Dq.ex e h
  | well => exact h
  | odic m => obtain ⟨a, k, e1, e2, e3⟩ := h; exact ⟨a, k, e1, e2, e3.ex e⟩
  | fdic m => exact h
  | ins C fs => obtain ⟨a, dx, vs, e1, e2, e3⟩ := h; exact ⟨a, dx, vs, e1, e _ _ e2, e3.ex e⟩
  | sem p => exact fun H2 e2 => h H2 fun b o hb => e2 b o (e b o hb)
  | olst ds => obtain ⟨a, vs, e1, e2, e3⟩ := h; exact ⟨a, vs, e1, e2, e3.ex e⟩
theorem EnvB.in (h : EnvB K G S H σ Γ) : EnvOk K (G.owns S) H σ Γ := ⟨h.len, fun i s hs => (h.sl i s hs).imp id fun ⟨v, hv, q⟩ => ⟨v, hv, by
  cases s with
  | any => trivial
  | dat d => exact q
  | well => obtain ⟨a, p, e1, w⟩ := q; exact ⟨a, p, e1, w.owns⟩
  | odic m => obtain ⟨a, k, e1, e2, e3⟩ := q; exact ⟨a, k, e1, fun H' i => owns_at i e2, e3⟩
  | fdic m => cases q
  | ins C fs => exact q
  | sem p => exact q
  | olst ds => obtain ⟨a, vs, e1, e2, e3⟩ := q; exact ⟨a, vs, e1, fun H' i => owns_at i e2, e3⟩⟩⟩
theorem rel_get {i : Nat} {t : Sl} (h : (rel Γ)[i]? = some t) : ∃ s, Γ[i]? = some s ∧ t = relSl s := by
  unfold rel at h
  rw [List.getElem?_map] at h
  obtain ⟨s, h1, h2⟩ := Option.map_eq_some_iff.mp h
  exact ⟨s, h1, h2.symm⟩
theorem EnvB.out (h : EnvB K G S H σ Γ) : EnvOk K G H σ (rel Γ) := ⟨h.len.trans (rel_len Γ).symm, fun i t ht => by
  obtain ⟨s, hs, rfl⟩ := rel_get ht
  rcases h.sl i s hs with e | ⟨v, hv, q⟩
  · subst e; exact .inl rfl
  · refine .inr ⟨v, hv, ?_⟩
    cases s with
    | any => trivial
    | dat d => exact Dq.ex owns_sub q
    | well => exact q
    | odic m =>
      obtain ⟨a, k, e1, e2, e3⟩ := q
      subst e1
      exact .dic (h.inv.2 _ _ e2) (e3.ex owns_sub)
    | fdic m => cases q
    | ins C fs => obtain ⟨a, dx, vs, e1, e2, e3⟩ := q; exact ⟨a, dx, vs, e1, owns_sub _ _ e2, e3.ex owns_sub⟩
    | sem p => exact fun H2 e2 => q H2 fun b o hb => e2 b o (owns_sub b o hb)
    | olst ds =>
      obtain ⟨a, vs, e1, e2, e3⟩ := q
      subst e1
      exact .lst (.inl (.inl (h.inv.2 _ _ e2))) (e3.ex owns_sub)⟩
theorem EnvB.le1 (h : EnvB K G S H σ Γ) (i : (G.owns S).inv H') (e : (G.owns S).le H H') : EnvB K G S H' σ Γ := ⟨h.ok, i, h.len, fun i s hs => (h.sl i s hs).imp id fun ⟨v, hv, q⟩ => ⟨v, hv, q.ex e⟩, h.ne⟩
theorem le_rel (h : (G.owns S).inv H) (e : G.le H H') : (G.owns S).le H H' := fun c u hc => by
  obtain ⟨h1, h2⟩ := hideS_some hc
  show hideS (G.view H') S c = _
  rw [hideS_none h1]
  exact e c u h2
theorem inv_rel (h : (G.owns S).inv H) (i : G.inv H') (e : G.le H H') : (G.owns S).inv H' := ⟨i, fun b o hb => e b o (h.2 b o hb)⟩
theorem EnvB.le0 (h : EnvB K G S H σ Γ) (i : G.inv H') (e : G.le H H') : EnvB K G S H' σ Γ := h.le1 (inv_rel h.inv i e) (le_rel h.inv e)
theorem EnvB.weak (h : EnvB K G S H σ Γ) (w : W Γ Γ') : EnvB K G S H σ Γ' := ⟨h.ok, h.inv, h.len.trans w.1, fun i s hs => by
  rcases w.2 i s hs with e | e
  · exact .inl e
  · exact h.sl i s e, fun i j s t a hij hi hj o1 o2 => by
  rcases w.2 i s hi with e | e
  · subst e; cases o1
  · rcases w.2 j t hj with e2 | e2
    · subst e2; cases o2
    · exact h.ne i j s t a hij e e2 o1 o2⟩
theorem EnvB.set {i : Nat} {v : V} {s : Sl} (h : EnvB K G S H σ Γ) (hi : i < Γ.length) (ho : isO s = false) (hv : SlB K G S H v s) : EnvB K G S H (σ.set i (some v)) (Γ.set i s) := ⟨h.ok, h.inv, by rw [List.length_set, List.length_set]; exact h.len, fun j t hj => by
  by_cases e : i = j
  · subst e
    rw [List.getElem?_set_self hi] at hj
    cases hj
    exact .inr ⟨v, List.getElem?_set_self (by rw [h.len]; exact hi), hv⟩
  · rw [List.getElem?_set_ne e] at hj ⊢
    exact h.sl j t hj, fun p q s' t' a hpq hp hq o1 o2 => by
  by_cases e : i = p
  · subst e
    rw [List.getElem?_set_self hi] at hp
    cases hp
    rw [ho] at o1; cases o1
  · by_cases e2 : i = q
    · subst e2
      rw [List.getElem?_set_self hi] at hq
      cases hq
      rw [ho] at o2; cases o2
    · rw [List.getElem?_set_ne e] at hp ⊢
      rw [List.getElem?_set_ne e2] at hq ⊢
      exact h.ne p q s' t' a hpq hp hq o1 o2⟩
/-- what is seen stays when the owned object changes or one more is owned -/
theorem SlB.put {l : Addr} {o : HO} {v : V} {s : Sl} (h : SlB K G S H v s) (e : Ex ((G.owns S).view H) ((G.owns (S.put l o)).view H')) (hl : isO s = true → v ≠ .ref l) : SlB K G (S.put l o) H' v s := by
  cases s with
  | any => trivial
  | dat d => exact Dq.ex e h
  | well => exact h
  | odic m => obtain ⟨a, k, e1, e2, e3⟩ := h; exact ⟨a, k, e1, by rw [OS.put_ne (fun z => hl rfl (by rw [e1, z]))]; exact e2, e3.ex e⟩
  | fdic m => exact h
  | ins C fs => obtain ⟨a, dx, vs, e1, e2, e3⟩ := h; exact ⟨a, dx, vs, e1, e _ _ e2, e3.ex e⟩
  | sem p => exact fun H2 e2 => h H2 fun b o hb => e2 b o (e b o hb)
  | olst ds => obtain ⟨a, vs, e1, e2, e3⟩ := h; exact ⟨a, vs, e1, by rw [OS.put_ne (fun z => hl rfl (by rw [e1, z]))]; exact e2, e3.ex e⟩
/-- an object of its own is put into a place -/
theorem EnvB.putNew {i : Nat} {l : Addr} {o : HO} {s : Sl} (h : EnvB K G S H σ Γ) (hi : i < Γ.length) (hl : S l = none) (ho : okH o = true) (iv : (G.owns (S.put l o)).inv H') (e : Ex ((G.owns S).view H) ((G.owns (S.put l o)).view H')) (hv : SlB K G (S.put l o) H' (.ref l) s) : EnvB K G (S.put l o) H' (σ.set i (some (.ref l))) (Γ.set i s) := by
  have own_ne : ∀ {q : Nat} {t : Sl} {v : V}, Γ[q]? = some t → isO t = true → σ[q]? = some (some v) → v ≠ .ref l := fun {q t v} hq ho hv => by
    rcases h.sl q t hq with z | ⟨v', h1, h2⟩
    · subst z; cases ho
    · rw [hv] at h1
      cases h1
      intro z
      subst z
      cases t with
      | olst ds => obtain ⟨a, vs, e1, e2, _⟩ := h2; cases e1; rw [hl] at e2; cases e2
      | odic m => obtain ⟨a, vs, e1, e2, _⟩ := h2; cases e1; rw [hl] at e2; cases e2
      | any => cases ho
      | dat d => cases ho
      | well => cases ho
      | fdic m => cases ho
      | ins C fs => cases ho
      | sem p => cases ho
  refine ⟨h.ok.put ho, iv, by rw [List.length_set, List.length_set]; exact h.len, fun j t hj => ?_, fun p q s' t' a hpq hp hq o1 o2 => ?_⟩
  · by_cases z : i = j
    · subst z
      rw [List.getElem?_set_self hi] at hj
      cases hj
      exact .inr ⟨_, List.getElem?_set_self (by rw [h.len]; exact hi), hv⟩
    · rw [List.getElem?_set_ne z] at hj ⊢
      rcases h.sl j t hj with z2 | ⟨v, h1, h2⟩
      · exact .inl z2
      · exact .inr ⟨v, h1, h2.put e fun ho => own_ne hj ho h1⟩
  · by_cases z : i = p
    · subst z
      rw [List.getElem?_set_self (by rw [h.len]; exact hi)]
      intro ea
      rw [List.getElem?_set_ne hpq] at hq ⊢
      intro eb
      injection ea with ea
      injection ea with ea
      rw [← ea] at eb
      exact own_ne hq o2 eb rfl
    · by_cases z2 : i = q
      · subst z2
        rw [List.getElem?_set_self (by rw [h.len]; exact hi)]
        rw [List.getElem?_set_ne z] at hp ⊢
        intro eb ea
        injection ea with ea
        injection ea with ea
        rw [← ea] at eb
        exact own_ne hp o1 eb rfl
      · rw [List.getElem?_set_ne z] at hp ⊢
        rw [List.getElem?_set_ne z2] at hq ⊢
        exact h.ne p q s' t' a hpq hp hq o1 o2
/-- the object that a place owns changes -/
theorem EnvB.change {i : Nat} {l : Addr} {o : HO} {s s' : Sl} (h : EnvB K G S H σ Γ) (hi : Γ[i]? = some s) (ho : isO s = true) (hs : σ[i]? = some (some (.ref l))) (iv : (G.owns (S.put l o)).inv H') (e : Ex ((G.owns S).view H) ((G.owns (S.put l o)).view H')) (hv : SlB K G (S.put l o) H' (.ref l) s') (ho' : isO s' = true) (hok : okH o = true) : EnvB K G (S.put l o) H' σ (Γ.set i s') := by
  have hil : i < Γ.length := (List.getElem?_eq_some_iff.mp hi).1
  refine ⟨h.ok.put hok, iv, by rw [List.length_set]; exact h.len, fun j t hj => ?_, fun p q s1 t1 a hpq hp hq o1 o2 => ?_⟩
  · by_cases z : i = j
    · subst z
      rw [List.getElem?_set_self hil] at hj
      cases hj
      exact .inr ⟨_, hs, hv⟩
    · rw [List.getElem?_set_ne z] at hj
      rcases h.sl j t hj with z2 | ⟨v, h1, h2⟩
      · exact .inl z2
      · exact .inr ⟨v, h1, h2.put e fun ho2 z3 => h.ne i j s t l z hi hj ho ho2 hs (by rw [h1, z3])⟩
  · by_cases z : i = p
    · subst z
      rw [List.getElem?_set_ne hpq] at hq
      exact h.ne i q s t1 a hpq hi hq ho o2
    · rw [List.getElem?_set_ne z] at hp
      by_cases z2 : i = q
      · subst z2
        exact h.ne p i s1 s a hpq hp hi o1 ho
      · rw [List.getElem?_set_ne z2] at hq
        exact h.ne p q s1 t1 a hpq hp hq o1 o2
/-- a place gives back what it owned: it is data from now on -/
theorem EnvB.free {i : Nat} {ds : List PyData} (h : EnvB K G S H σ Γ) (hi : Γ[i]? = some (.olst ds)) : ∃ S', EnvB K G S' H σ (Γ.set i (.dat (.list ds))) ∧ Ex ((G.owns S).view H) ((G.owns S').view H) := by
  have hil : i < Γ.length := (List.getElem?_eq_some_iff.mp hi).1
  rcases h.sl i _ hi with z | ⟨v, hv, a, vs, e1, e2, e3⟩
  · cases z
  subst e1
  have ex : Ex ((G.owns S).view H) ((G.owns (S.drop a)).view H) := owns_drop
  have iv : (G.owns (S.drop a)).inv H := ⟨h.inv.1, fun b o hb => h.inv.2 b o (by
    by_cases z : b = a
    · rw [z, OS.drop_same] at hb; cases hb
    · rw [OS.drop_ne z] at hb; exact hb)⟩
  have va : (G.owns (S.drop a)).view H a = some (.lst vs) := by
    show hideS (G.view H) (S.drop a) a = _
    rw [hideS_none OS.drop_same]
    exact h.inv.2 _ _ e2
  refine ⟨S.drop a, ⟨h.ok.drop, iv, by rw [List.length_set]; exact h.len, fun j t hj => ?_, fun p q s1 t1 b hpq hp hq o1 o2 => ?_⟩, ex⟩
  · by_cases z : i = j
    · subst z
      rw [List.getElem?_set_self hil] at hj
      cases hj
      exact .inr ⟨_, hv, .lst (.inl (.inl va)) (e3.ex ex)⟩
    · rw [List.getElem?_set_ne z] at hj
      rcases h.sl j t hj with z2 | ⟨v, h1, h2⟩
      · exact .inl z2
      · refine .inr ⟨v, h1, ?_⟩
        have ne : isO t = true → v ≠ .ref a := fun ho z3 => h.ne i j _ t a z hi hj rfl ho hv (by rw [h1, z3])
        cases t with
        | any => trivial
        | dat d => exact Dq.ex ex h2
        | well => exact h2
        | odic m => obtain ⟨c, k, f1, f2, f3⟩ := h2; exact ⟨c, k, f1, by rw [OS.drop_ne (fun z => ne rfl (by rw [f1, z]))]; exact f2, f3.ex ex⟩
        | fdic m => exact h2
        | ins C fs => obtain ⟨c, dx, us, f1, f2, f3⟩ := h2; exact ⟨c, dx, us, f1, ex _ _ f2, f3.ex ex⟩
        | sem p => exact fun H2 e2 => h2 H2 fun b o hb => e2 b o (ex b o hb)
        | olst es => obtain ⟨c, us, f1, f2, f3⟩ := h2; exact ⟨c, us, f1, by rw [OS.drop_ne (fun z => ne rfl (by rw [f1, z]))]; exact f2, f3.ex ex⟩
  · by_cases z : i = p
    · subst z
      rw [List.getElem?_set_self hil] at hp
      cases hp
      cases o1
    · rw [List.getElem?_set_ne z] at hp
      by_cases z2 : i = q
      · subst z2
        rw [List.getElem?_set_self hil] at hq
        cases hq
        cases o2
      · rw [List.getElem?_set_ne z2] at hq
        exact h.ne p q s1 t1 b hpq hp hq o1 o2
end
/-- what is given back: a value, or a new tuple of values; a value may be a list that nobody else holds -/
inductive Rv where
  | one (s : Sl) | tup (ss : List Sl)
structure ArgsB (K : PySem.W.Frag) (G : Fr) (S : OS) (H : Hp) (vs : List V) (ss : List Sl) : Prop where
  len : vs.length = ss.length
  sl : ∀ (i : Nat) (s : Sl), ss[i]? = some s → ∃ v, vs[i]? = some v ∧ SlB K G S H v s
  ne : ∀ (i j : Nat) (s t : Sl) (v : V), i ≠ j → ss[i]? = some s → ss[j]? = some t → isO s = true → isO t = true → vs[i]? = some v → vs[j]? = some v → False
def RvOk (K : PySem.W.Frag) (G : Fr) (S : OS) (H : Hp) (v : V) : Rv → Prop
  | .one s => SlB K G S H v s
  | .tup ss => ∃ a vs, v = .ref a ∧ SqT K ((G.owns S).view H) a vs ∧ ArgsB K G S H vs ss
/-- a block: what it asks ahead, what holds behind it, what it returns, what holds where it breaks off -/
def Bk (K : PySem.W.Frag) (ts : TS) (Γ : List Sl) (M : List Sl → Prop) (R : Rv → Prop) (B C : List Sl → Prop) : Prop := ∀ (G : Fr) (S : OS) (σ : L2.St) (H : Hp) (D : Ends), EnvB K G S H σ Γ →
  (∀ σ' H' S' Γ', Ex ((G.owns S).view H) ((G.owns S').view H') → EnvB K G S' H' σ' Γ' → M Γ' → D.nx σ' H') →
  (∀ v r H' S', Ex ((G.owns S).view H) ((G.owns S').view H') → S'.ok → (G.owns S').inv H' → R r → RvOk K G S' H' v r → D.rt v H') →
  (∀ σ' H' S' Γ', Ex ((G.owns S).view H) ((G.owns S').view H') → EnvB K G S' H' σ' Γ' → B Γ' → D.bk σ' H') →
  (∀ σ' H' S' Γ', Ex ((G.owns S).view H) ((G.owns S').view H') → EnvB K G S' H' σ' Γ' → C Γ' → D.ct σ' H') → ts D σ H
def NoB : List Sl → Prop := fun _ => False
section
variable {K : PySem.W.Frag} {Γ Γ' Γ2 : List Sl} {ts tu : TS} {tt : TT} {te tb : TE} {ta : TA} {wi : TI} {g : TG} {M M' B C B' C' : List Sl → Prop} {R R' : Rv → Prop} {P : PyData → Prop} {i j : Nat}
theorem Bk.imp (h : Bk K ts Γ M' R' B' C') (hm : ∀ Γ', M' Γ' → M Γ') (hr : ∀ r, R' r → R r) (hb : ∀ Γ', B' Γ' → B Γ') (hc : ∀ Γ', C' Γ' → C Γ') : Bk K ts Γ M R B C := fun G S σ H D ev k1 k2 k3 k4 =>
  h G S σ H D ev (fun σ' H' S' Γ' e ev' m => k1 σ' H' S' Γ' e ev' (hm _ m)) (fun v r H' S' e o i' r' => k2 v r H' S' e o i' (hr _ r')) (fun σ' H' S' Γ' e ev' m => k3 σ' H' S' Γ' e ev' (hb _ m)) (fun σ' H' S' Γ' e ev' m => k4 σ' H' S' Γ' e ev' (hc _ m))
theorem Bk.impM (h : Bk K ts Γ M' R B C) (hm : ∀ Γ', M' Γ' → M Γ') : Bk K ts Γ M R B C := h.imp hm (fun _ x => x) (fun _ x => x) (fun _ x => x)
theorem b_w (w : W Γ Γ') (h : Bk K ts Γ' M R B C) : Bk K ts Γ M R B C := fun G S σ H D ev => h G S σ H D (ev.weak w)
theorem b_next (hm : M Γ) : Bk K tNext Γ M R B C := fun G S σ H D ev k1 k2 k3 k4 => k1 σ H S Γ (fun _ _ h => h) ev hm
theorem b_nextW (w : W Γ Γ') (hm : M Γ') : Bk K tNext Γ M R B C := b_w w (b_next hm)
theorem b_break (hm : B Γ) : Bk K tBreak Γ M R B C := fun G S σ H D ev k1 k2 k3 k4 => k3 σ H S Γ (fun _ _ h => h) ev hm
theorem b_cont (hm : C Γ) : Bk K tCont Γ M R B C := fun G S σ H D ev k1 k2 k3 k4 => k4 σ H S Γ (fun _ _ h => h) ev hm
theorem ext {a b c : Hp} (h : Ex a b) (h2 : Ex b c) : Ex a c := fun x u e => h2 x u (h x u e)
theorem b_seq (h : Bk K ts Γ M' R B C) (h2 : ∀ Γ', M' Γ' → Bk K tu Γ' M R B C) : Bk K (tSeq ts tu) Γ M R B C := fun G S σ H D ev k1 k2 k3 k4 =>
  h G S σ H { D with nx := tu D } ev (fun σ1 H1 S1 Γ1 e1 ev1 m1 => h2 Γ1 m1 G S1 σ1 H1 D ev1 (fun σ' H' S' Γ' e => k1 σ' H' S' Γ' (ext e1 e)) (fun v r H' S' e => k2 v r H' S' (ext e1 e)) (fun σ' H' S' Γ' e => k3 σ' H' S' Γ' (ext e1 e)) (fun σ' H' S' Γ' e => k4 σ' H' S' Γ' (ext e1 e))) k2 k3 k4
/-- go on with the state that is told -/
theorem b_to (h : Bk K ts Γ (fun Γ' => W Γ' Γ2) R B C) (h2 : Bk K tu Γ2 M R B C) : Bk K (tSeq ts tu) Γ M R B C := b_seq h fun Γ' w => b_w w h2
/-- name = e, nothing that is owned being handed on -/
theorem b_set1 (hi : i < Γ.length) (h : EvD K te Γ P) (hm : ∀ d, P d → M (Γ.set i (.dat d))) : Bk K (tAsg te (gName i)) Γ M R B C := fun G S σ H D ev k1 k2 k3 k4 =>
  h (G.owns S) σ H ev.in ev.inv _ fun v d H1 i1 l1 p1 dq => k1 _ H1 S _ l1 ((ev.le1 i1 l1).set (s := .dat d) hi rfl dq) (hm d p1)
theorem b_set (hi : i < Γ.length) (h : EvD K te Γ P) (h2 : ∀ d, P d → Bk K tu (Γ.set i (.dat d)) M R B C) : Bk K (tSeq (tAsg te (gName i)) tu) Γ M R B C := b_seq (M' := fun Γ' => ∃ d, P d ∧ Γ' = Γ.set i (.dat d)) (b_set1 hi h fun d p => ⟨d, p, rfl⟩) fun Γ' ⟨d, p, e⟩ => by rw [e]; exact h2 d p
theorem sqT_hideS {G : Fr} {S : OS} {H : Hp} (ok : S.ok) (iv : (G.owns S).inv H) {a : Addr} {zs : List V} (h : SqT K (G.view H) a zs) : SqT K ((G.owns S).view H) a zs := by
  cases e : S a with
  | none =>
    rcases h with (h | ⟨o, h⟩) | h
    · exact .inl (.inl (by show hideS _ _ _ = _; rw [hideS_none e]; exact h))
    · exact .inl (.inr ⟨o, by show hideS _ _ _ = _; rw [hideS_none e]; exact h⟩)
    · exact .inr h
  | some u =>
    have hv := iv.2 a _ e
    have ho := ok a u e
    rcases h with (h | ⟨o, h⟩) | h
    · rw [hv] at h; cases h; cases ho
    · rw [hv] at h; cases h; cases ho
    · exact .inr h
mutual
theorem Dq.hideS {G : Fr} {S : OS} {H : Hp} (ok : S.ok) (iv : (G.owns S).inv H) : ∀ {v : V} {d : PyData}, Dq K (G.view H) v d → noL d = true → Dq K ((G.owns S).view H) v d
  | _, _, .non, _ => .non
  | _, _, .bl b, _ => .bl b
  | _, _, .int i, _ => .int i
  | _, _, .str x, _ => .str x
  | _, _, .lst _ _, n => by rw [noL] at n; cases n
  | _, _, .tup h t, n => .tup (sqT_hideS ok iv h) (DqAll.hideS ok iv t (by rw [noL] at n; exact n))
  | _, _, .dic _ _, n => by rw [noL] at n; cases n
theorem DqAll.hideS {G : Fr} {S : OS} {H : Hp} (ok : S.ok) (iv : (G.owns S).inv H) : ∀ {vs : List V} {ds : List PyData}, DqAll K (G.view H) vs ds → noLs ds = true → DqAll K ((G.owns S).view H) vs ds
  | _, _, .nil, _ => .nil
  | _, _, .cons h t, n => by
    rw [noLs, Bool.and_eq_true] at n
    exact .cons (Dq.hideS ok iv h n.1) (DqAll.hideS ok iv t n.2)
end
/-- name = e, where all that is owned may be read: what comes out holds no list -/
theorem b_setR1 (hi : i < Γ.length) (h : EvD K te (rel Γ) P) (hm : ∀ d, P d → noL d = true ∧ M (Γ.set i (.dat d))) : Bk K (tAsg te (gName i)) Γ M R B C := fun G S σ H D ev k1 k2 k3 k4 =>
  h G σ H ev.out ev.inv.1 _ fun v d H1 i1 l1 p1 dq => k1 _ H1 S _ (le_rel ev.inv l1) ((ev.le0 i1 l1).set (s := .dat d) hi rfl (dq.hideS ev.ok (inv_rel ev.inv i1 l1) (hm d p1).1)) (hm d p1).2
theorem b_setR (hi : i < Γ.length) (h : EvD K te (rel Γ) P) (hn : ∀ d, P d → noL d = true) (h2 : ∀ d, P d → Bk K tu (Γ.set i (.dat d)) M R B C) : Bk K (tSeq (tAsg te (gName i)) tu) Γ M R B C := b_seq (M' := fun Γ' => ∃ d, P d ∧ Γ' = Γ.set i (.dat d)) (b_setR1 hi h fun d p => ⟨hn d p, d, p, rfl⟩) fun Γ' ⟨d, p, e⟩ => by rw [e]; exact h2 d p
/-- an object with fields is made -/
theorem b_setV {s : Sl} (hi : i < Γ.length) (ho : isP s = true) (h : EvV K te Γ s) (hm : M (Γ.set i s)) : Bk K (tAsg te (gName i)) Γ M R B C := fun G S σ H D ev k1 k2 k3 k4 =>
  h (G.owns S) σ H ev.in ev.inv _ fun v H1 i1 l1 sv => k1 _ H1 S _ l1 ((ev.le1 i1 l1).set hi (by cases s <;> first | rfl | cases ho) (by cases s <;> first | exact sv | cases ho)) hm
/-- name = a new list, nothing that is owned being handed on -/
theorem b_setN1 {PN : List PyData → Prop} (hi : i < Γ.length) (h : EvN K te Γ PN) (hm : ∀ ds, PN ds → M (Γ.set i (.olst ds))) : Bk K (tAsg te (gName i)) Γ M R B C := fun G S σ H D ev k1 k2 k3 k4 =>
  h (G.owns S) σ H ev.in ev.inv _ fun l vs ds H1 i1 l1 p1 dq => by
    have hl : S l = none := by
      cases e : S l with
      | none => rfl
      | some o =>
        have z : hideS (G.view H1) S l = some (.lst vs) := i1.2
        unfold L2.hideS at z
        rw [e] at z; cases z
    rw [owns_own hl] at i1 l1 dq
    exact k1 _ H1 _ _ l1 (ev.putNew (s := .olst ds) hi hl rfl i1 l1 ⟨l, vs, rfl, OS.put_same, dq⟩) (hm ds p1)
theorem b_setN {PN : List PyData → Prop} (hi : i < Γ.length) (h : EvN K te Γ PN) (h2 : ∀ ds, PN ds → Bk K tu (Γ.set i (.olst ds)) M R B C) : Bk K (tSeq (tAsg te (gName i)) tu) Γ M R B C := b_seq (M' := fun Γ' => ∃ d, PN d ∧ Γ' = Γ.set i (.olst d)) (b_setN1 hi h fun d p => ⟨d, p, rfl⟩) fun Γ' ⟨d, p, e⟩ => by rw [e]; exact h2 d p
/-- name = a new list, where all that is owned may be read -/
theorem b_setNR1 {PN : List PyData → Prop} (hi : i < Γ.length) (h : EvN K te (rel Γ) PN) (hm : ∀ ds, PN ds → noLs ds = true ∧ M (Γ.set i (.olst ds))) : Bk K (tAsg te (gName i)) Γ M R B C := fun G S σ H D ev k1 k2 k3 k4 =>
  h G σ H ev.out ev.inv.1 _ fun l vs ds H1 i1 l1 p1 dq => by
    have gl : G.le H H1 := fun c u hc => (hide_some (l1 c u hc)).2
    have hl : S l = none := by
      cases e : S l with
      | none => rfl
      | some o => exact absurd rfl (hide_some (l1 l o (ev.inv.2 l o e))).1
    have iv1 := inv_rel ev.inv i1.1 gl
    have iv2 : (G.owns (S.put l (.lst vs))).inv H1 := by rw [← owns_own hl]; exact ⟨iv1, by show hideS (G.view H1) S l = _; rw [hideS_none hl]; exact i1.2⟩
    have l2 : Ex ((G.owns S).view H) ((G.owns (S.put l (.lst vs))).view H1) := fun c u hc => by
      obtain ⟨h1, h2⟩ := hideS_some hc
      obtain ⟨h3, h4⟩ := hide_some (l1 c u h2)
      show hideS (G.view H1) (S.put l _) c = _
      rw [hideS_none (by rw [OS.put_ne h3]; exact h1)]
      exact h4
    have dq2 := DqAll.hideS (ev.ok.put (l := l) (o := .lst vs) rfl) iv2 (dq.ex Fr.own_sub) (hm ds p1).1
    exact k1 _ H1 _ _ l2 (ev.putNew (s := .olst ds) hi hl rfl iv2 l2 ⟨l, vs, rfl, OS.put_same, dq2⟩) (hm ds p1).2
theorem b_setNR {PN : List PyData → Prop} (hi : i < Γ.length) (h : EvN K te (rel Γ) PN) (hn : ∀ ds, PN ds → noLs ds = true) (h2 : ∀ ds, PN ds → Bk K tu (Γ.set i (.olst ds)) M R B C) : Bk K (tSeq (tAsg te (gName i)) tu) Γ M R B C := b_seq (M' := fun Γ' => ∃ d, PN d ∧ Γ' = Γ.set i (.olst d)) (b_setNR1 hi h fun d p => ⟨hn d p, d, p, rfl⟩) fun Γ' ⟨d, p, e⟩ => by rw [e]; exact h2 d p
/-- a test: all that is owned may be read -/
theorem b_ifP {Pb : Bool → Prop} (h : EvB K tt (rel Γ) Pb) (h1 : Pb true → Bk K ts Γ M R B C) (h2 : Pb false → Bk K tu Γ M R B C) : Bk K (tIfS tt ts tu) Γ M R B C := fun G S σ H D ev k1 k2 k3 k4 =>
  h G σ H ev.out ev.inv.1 _ fun b H1 i1 l1 pb => by
    have ev1 := ev.le0 i1 l1
    have lr := le_rel ev.inv l1
    have go : ∀ {t : TS}, Bk K t Γ M R B C → t D σ H1 := fun h => h G S σ H1 D ev1 (fun σ' H' S' Γ' e => k1 σ' H' S' Γ' (L2.ext lr e)) (fun v r H' S' e => k2 v r H' S' (L2.ext lr e)) (fun σ' H' S' Γ' e => k3 σ' H' S' Γ' (L2.ext lr e)) (fun σ' H' S' Γ' e => k4 σ' H' S' Γ' (L2.ext lr e))
    cases b with
    | true => exact go (h1 pb)
    | false => exact go (h2 pb)
theorem b_if {b : Bool} (h : EvB K tt (rel Γ) (· = b)) (h1 : b = true → Bk K ts Γ M R B C) (h2 : b = false → Bk K tu Γ M R B C) : Bk K (tIfS tt ts tu) Γ M R B C := b_ifP h (fun e => h1 e.symm) fun e => h2 e.symm
/-- a statement that is an expression -/
theorem b_drop (h : EvD K te (rel Γ) P) (hm : M Γ) : Bk K (tDrop te) Γ M R B C := fun G S σ H D ev k1 k2 k3 k4 =>
  h G σ H ev.out ev.inv.1 _ fun v d H1 i1 l1 p1 dq => k1 σ H1 S Γ (le_rel ev.inv l1) (ev.le0 i1 l1) hm
/-- found.append(e) -/
theorem b_app {ds : List PyData} (hj : Γ[j]? = some (.olst ds)) (hlen : ds.length < 100000) (h : EvD K te Γ P) (hm : ∀ e, P e → M (Γ.set j (.olst (ds ++ [e])))) : Bk K (tDrop (tBM K "list" rAppend (tVar j) (tCons te tNil))) Γ M R B C := fun G S σ H D ev k1 k2 k3 k4 => by
  rcases ev.sl j _ hj with z | ⟨v, hv, a, vs, e1, e2, e3⟩
  · cases z
  subst e1
  refine ⟨_, hv, .inl ⟨rfl, _, SqL.of (owns_at ev.inv e2)⟩, h (G.owns S) σ H ev.in ev.inv _ fun x e H1 i1 l1 p1 dq => ?_⟩
  refine ⟨a, vs, x, rfl, rfl, owns_at i1 e2, by rw [sizeLine_eq, e3.length]; omega, ?_⟩
  have st := owns_set (o' := .lst (vs ++ [x])) i1 e2
  have le : Ex ((G.owns S).view H) ((G.owns (S.put a (.lst (vs ++ [x])))).view (upd H1 a (.lst (vs ++ [x])))) := by rw [st.2]; exact l1
  exact k1 σ _ _ _ le (ev.change (s' := .olst (ds ++ [e])) hj rfl hv st.1 le ⟨a, _, rfl, OS.put_same, (e3.ex le).append (.cons (by rw [st.2]; exact dq) .nil)⟩ rfl rfl) (hm e p1)
theorem b_appR {ds : List PyData} (hj : Γ[j]? = some (.olst ds)) (hlen : ds.length < 100000) (h : EvD K te (rel Γ) P) (hm : ∀ e, P e → noL e = true ∧ M (Γ.set j (.olst (ds ++ [e])))) : Bk K (tDrop (tBM K "list" rAppend (tVar j) (tCons te tNil))) Γ M R B C := fun G S σ H D ev k1 k2 k3 k4 => by
  rcases ev.sl j _ hj with z | ⟨v, hv, a, vs, e1, e2, e3⟩
  · cases z
  subst e1
  refine ⟨_, hv, .inl ⟨rfl, _, SqL.of (owns_at ev.inv e2)⟩, h G σ H ev.out ev.inv.1 _ fun x e H1 i1 l1 p1 dq => ?_⟩
  have i1' := inv_rel ev.inv i1 l1
  have l1' := le_rel ev.inv l1
  refine ⟨a, vs, x, rfl, rfl, owns_at i1' e2, by rw [sizeLine_eq, e3.length]; omega, ?_⟩
  have st := owns_set (o' := .lst (vs ++ [x])) i1' e2
  have le : Ex ((G.owns S).view H) ((G.owns (S.put a (.lst (vs ++ [x])))).view (upd H1 a (.lst (vs ++ [x])))) := by rw [st.2]; exact l1'
  exact k1 σ _ _ _ le (ev.change (s' := .olst (ds ++ [e])) hj rfl hv st.1 le ⟨a, _, rfl, OS.put_same, (e3.ex le).append (.cons (by rw [st.2]; exact dq.hideS ev.ok i1' (hm e p1).1) .nil)⟩ rfl rfl) (hm e p1).2
theorem DqAll.setAt {H : Hp} {v : V} {d : PyData} : ∀ {vs : List V} {ds : List PyData} (n : Nat), DqAll K H vs ds → Dq K H v d → DqAll K H (vs.set n v) (ds.set n d)
  | _, _, _, .nil, _ => .nil
  | _, _, 0, .cons _ t, h => .cons h t
  | _, _, n + 1, .cons a t, h => .cons a (t.setAt n h)
/-- found[i] = e -/
theorem b_setIx {ds : List PyData} {k : Int} {n : Nat} (hj : Γ[j]? = some (.olst ds)) (h : EvD K te Γ P) (h2 : EvD K tb Γ (· = .int k)) (hk : ixN ds.length k = some n) (hm : ∀ e, P e → M (Γ.set j (.olst (ds.set n e)))) : Bk K (tAsg te (gSub (tVar j) tb rSetL)) Γ M R B C := fun G S σ H D ev k1 k2 k3 k4 => by
  rcases ev.sl j _ hj with z | ⟨v, hv, a, vs, e1, e2, e3⟩
  · cases z
  subst e1
  refine h (G.owns S) σ H ev.in ev.inv _ fun x e H1 i1 l1 p1 dq => ⟨_, hv, h2 (G.owns S) σ H1 (ev.le1 i1 l1).in i1 _ fun y d H2 i2 l2 p2 dq2 => ?_⟩
  subst p2
  cases dq2
  refine ⟨a, vs, k, n, rfl, rfl, owns_at i2 e2, by rw [e3.length]; exact hk, ?_⟩
  have st := owns_set (o' := .lst (vs.set n x)) i2 e2
  have le : Ex ((G.owns S).view H) ((G.owns (S.put a (.lst (vs.set n x)))).view (upd H2 a (.lst (vs.set n x)))) := by rw [st.2]; exact L2.ext l1 l2
  exact k1 σ _ _ _ le (ev.change (s' := .olst (ds.set n e)) hj rfl hv st.1 le ⟨a, _, rfl, OS.put_same, (e3.ex le).setAt n (by rw [st.2]; exact dq.ex l2)⟩ rfl rfl) (hm e p1)
/-- found[i] op= e, whole numbers -/
theorem b_augIx {ds : List PyData} {k x y : Int} {n : Nat} {f : Int → Int → Int} (hj : Γ[j]? = some (.olst ds)) (h2 : EvD K tb (rel Γ) (· = .int k)) (hk : ixN ds.length k = some n) (hx : atI ds k = some (.int x)) (h : EvD K te (rel Γ) (· = .int y)) (hm : M (Γ.set j (.olst (ds.set n (.int (f x y)))))) :
    Bk K (tAugS (tVar j) tb te (rIxL K) (ipI f) rSetL) Γ M R B C := fun G S σ H D ev k1 k2 k3 k4 => by
  rcases ev.sl j _ hj with z | ⟨v, hv, a, vs, e1, e2, e3⟩
  · cases z
  subst e1
  refine ⟨_, hv, h2 G σ H ev.out ev.inv.1 _ fun yv d H1 i1 l1 p1 dq => ?_⟩
  subst p1
  cases dq
  have iv1 := inv_rel ev.inv i1 l1
  obtain ⟨w, hw, hwd⟩ := dq_atI (e3.ex (le_rel ev.inv l1)) hx
  cases hwd
  refine ⟨a, vs, k, .int x, rfl, rfl, SqL.of (owns_at iv1 e2), hw, h G σ H1 (ev.le0 i1 l1).out i1 _ fun zv d2 H2 i2 l2 p2 dq2 => ?_⟩
  subst p2
  cases dq2
  have iv2 := inv_rel iv1 i2 l2
  refine ⟨x, y, rfl, rfl, a, vs, k, n, rfl, rfl, owns_at iv2 e2, by rw [e3.length]; exact hk, ?_⟩
  have st := owns_set (o' := .lst (vs.set n (.int (f x y)))) iv2 e2
  have le : Ex ((G.owns S).view H) ((G.owns (S.put a (.lst (vs.set n (.int (f x y)))))).view (upd H2 a (.lst (vs.set n (.int (f x y)))))) := by rw [st.2]; exact L2.ext (le_rel ev.inv l1) (le_rel iv1 l2)
  exact k1 σ _ _ _ le (ev.change (s' := .olst (ds.set n (.int (f x y)))) hj rfl hv st.1 le ⟨a, _, rfl, OS.put_same, (e3.ex le).setAt n (.int _)⟩ rfl rfl) hm
/-- name op= e, whole numbers -/
theorem b_aug {f : Int → Int → Int} {x y : Int} (hi : i < Γ.length) (hs : Γ[i]? = some (.dat (.int x))) (h : EvD K te (rel Γ) (· = .int y)) (hm : M (Γ.set i (.dat (.int (f x y))))) : Bk K (tAug i te (ipI f)) Γ M R B C := fun G S σ H D ev k1 k2 k3 k4 => by
  rcases ev.sl i _ hs with z | ⟨v, hv, q⟩
  · cases z
  cases q
  exact ⟨_, hv, h G σ H ev.out ev.inv.1 _ fun yv d H1 i1 l1 p1 dq => by
    subst p1
    cases dq
    exact ⟨x, y, rfl, rfl, k1 _ H1 S _ (le_rel ev.inv l1) ((ev.le0 i1 l1).set (s := .dat (.int (f x y))) hi rfl (.int _)) hm⟩⟩
theorem isP_isO {s : Sl} (h : isP s = true) : isO s = false := by
  cases s <;> first | rfl | cases h
/-- targets: names -/
def TgB (K : PySem.W.Frag) (g : TG) (Γ : List Sl) (P : PyData → Prop) (N : PyData → List Sl) : Prop := ∀ (G : Fr) (S : OS) (σ : L2.St) (H : Hp) (x : V) (d : PyData), EnvB K G S H σ Γ → P d → Dq K ((G.owns S).view H) x d → ∀ Q : L2.St → Hp → Prop, (∀ σ2, EnvB K G S H σ2 (N d) → Q σ2 H) → g x σ H Q
theorem TgOk.toB {vs : List Nat} {N : PyData → List Sl} (h : TgOk K g vs Γ P N) (hl : ∀ d, P d → (N d).length = Γ.length) (hn : ∀ d, P d → ∀ q, q ∉ vs → (N d)[q]? = Γ[q]?) (hv : ∀ d, P d → ∀ q ∈ vs, ∀ s, (N d)[q]? = some s → isP s = true) : TgB K g Γ P N := fun G S σ H x d ev pd dq Q q =>
  h (G.owns S) σ H x d ev.in ev.inv pd dq Q fun σ2 l2 s2 ev2 => q σ2 ⟨ev.ok, ev.inv, by rw [l2, ev.len, hl d pd], fun i s hs => by
    by_cases e : i ∈ vs
    · have hp := hv d pd i e s hs
      rcases ev2.2 i s hs with z | ⟨v, h1, h2⟩
      · exact .inl z
      · exact .inr ⟨v, h1, by cases s <;> first | exact h2 | cases hp⟩
    · rw [hn d pd i e] at hs
      rw [s2 i e]
      exact ev.sl i s hs, fun i j s t a hij hi hj o1 o2 => by
    by_cases e : i ∈ vs
    · have hp := hv d pd i e s hi
      rw [isP_isO hp] at o1; cases o1
    · by_cases e2 : j ∈ vs
      · have hp := hv d pd j e2 t hj
        rw [isP_isO hp] at o2; cases o2
      · rw [hn d pd i e] at hi
        rw [hn d pd j e2] at hj
        rw [s2 i e, s2 j e2]
        exact ev.ne i j s t a hij hi hj o1 o2⟩
end
end L2

set_option Elab.async false
set_option linter.all false
set_option maxRecDepth 100000
set_option maxHeartbeats 4000000
/-! Blocks: targets, loops, what is returned, calls. -/
namespace L2
open PySem PySem.Spec PyProof.Rows
open Evl (Ex)
def gNs : List Nat → TGs
  | [] => gNil
  | j :: js => gCons (gName j) (gNs js)
def setSs : List Sl → List Nat → List Sl → List Sl
  | Γ, j :: js, s :: ss => setSs (Γ.set j s) js ss
  | Γ, _, _ => Γ
theorem setSs_len : ∀ (js : List Nat) (ss Γ : List Sl), (setSs Γ js ss).length = Γ.length
  | [], ss, Γ => by cases ss <;> rfl
  | j :: js, [], Γ => rfl
  | j :: js, s :: ss, Γ => by rw [setSs, setSs_len js ss, List.length_set]
def unT : PyData → List PyData
  | .tuple ds => ds
  | _ => []
section
variable {K : PySem.W.Frag} {G : Fr} {S S' : OS} {H H' : Hp} {σ σ' : L2.St} {Γ Γ' Γ2 : List Sl} {ts tu : TS} {tt : TT} {te tb : TE} {ta : TA} {wi : TI} {g : TG} {M M' B C B' C' : List Sl → Prop} {R R' : Rv → Prop} {P P' : PyData → Prop} {i j : Nat}
/-- a value that no place owns yet -/
def Fresh (σ : L2.St) (Γ : List Sl) (v : V) : Prop := ∀ (q : Nat) (t : Sl), Γ[q]? = some t → isO t = true → σ[q]? ≠ some (some v)
theorem EnvB.setO {v : V} {s : Sl} (h : EnvB K G S H σ Γ) (hi : i < Γ.length) (hv : SlB K G S H v s) (hf : isO s = true → Fresh σ Γ v) : EnvB K G S H (σ.set i (some v)) (Γ.set i s) := ⟨h.ok, h.inv, by rw [List.length_set, List.length_set]; exact h.len, fun j t hj => by
  by_cases e : i = j
  · subst e
    rw [List.getElem?_set_self hi] at hj
    cases hj
    exact .inr ⟨v, List.getElem?_set_self (by rw [h.len]; exact hi), hv⟩
  · rw [List.getElem?_set_ne e] at hj ⊢
    exact h.sl j t hj, fun p q s' t' a hpq hp hq o1 o2 => by
  by_cases e : i = p
  · subst e
    rw [List.getElem?_set_self hi] at hp
    cases hp
    rw [List.getElem?_set_ne hpq] at hq ⊢
    rw [List.getElem?_set_self (by rw [h.len]; exact hi)]
    intro ea eb
    injection ea with ea
    injection ea with ea
    rw [← ea] at eb
    exact hf o1 q t' hq o2 eb
  · by_cases e2 : i = q
    · subst e2
      rw [List.getElem?_set_self hi] at hq
      cases hq
      rw [List.getElem?_set_ne e] at hp ⊢
      rw [List.getElem?_set_self (by rw [h.len]; exact hi)]
      intro eb ea
      injection ea with ea
      injection ea with ea
      rw [← ea] at eb
      exact hf o2 p s' hp o1 eb
    · rw [List.getElem?_set_ne e] at hp ⊢
      rw [List.getElem?_set_ne e2] at hq ⊢
      exact h.ne p q s' t' a hpq hp hq o1 o2⟩
theorem Fresh.set {v w : V} {s : Sl} (h : Fresh σ Γ v) (hi : i < Γ.length) (hl : σ.length = Γ.length) (hn : isO s = true → w ≠ v) : Fresh (σ.set i (some w)) (Γ.set i s) v := fun q t hq ho => by
  by_cases e : i = q
  · subst e
    rw [List.getElem?_set_self hi] at hq
    cases hq
    rw [List.getElem?_set_self (by rw [hl]; exact hi)]
    intro z
    injection z with z
    injection z with z
    exact hn ho z
  · rw [List.getElem?_set_ne e] at hq ⊢
    exact h q t hq ho
theorem gNs_run : ∀ (js : List Nat) (ss : List Sl) (xs : List V) (σ : L2.St) (Γ : List Sl), EnvB K G S H σ Γ → (∀ j ∈ js, j < Γ.length) → js.length = ss.length → ArgsB K G S H xs ss → (∀ (i : Nat) s v, ss[i]? = some s → isO s = true → xs[i]? = some v → Fresh σ Γ v) → ∀ Q : L2.St → Hp → Prop, (∀ σ2, EnvB K G S H σ2 (setSs Γ js ss) → Q σ2 H) → gNs js xs σ H Q
  | [], [], xs, σ, Γ, ev, _, _, a, _, Q, q => by
    have := a.len
    cases xs with
    | nil => exact ⟨rfl, q σ ev⟩
    | cons _ _ => cases this
  | [], s :: ss, xs, σ, Γ, ev, _, hl, a, _, Q, q => nomatch hl
  | j :: js, [], xs, σ, Γ, ev, _, hl, a, _, Q, q => nomatch hl
  | j :: js, s :: ss, xs, σ, Γ, ev, hj, hl, a, hf, Q, q => by
    have al := a.len
    cases xs with
    | nil => cases al
    | cons x xs =>
      refine ⟨x, xs, rfl, ?_⟩
      obtain ⟨v, hv, hs⟩ := a.sl 0 s rfl
      have hv : x = v := Option.some.inj hv
      subst hv
      have hj0 := hj j List.mem_cons_self
      refine gNs_run js ss xs _ (Γ.set j s) (ev.setO hj0 hs fun ho => hf 0 s x rfl ho rfl) (fun k hk => by rw [List.length_set]; exact hj k (List.mem_cons_of_mem _ hk)) (Nat.succ.inj hl) ⟨Nat.succ.inj al, fun i t ht => a.sl (i + 1) t ht, fun i k s1 t1 v1 hik h1 h2 => a.ne (i + 1) (k + 1) s1 t1 v1 (fun z => hik (Nat.succ.inj z)) h1 h2⟩ (fun i t v ht ho hv => ?_) Q q
      refine (hf (i + 1) t v ht ho hv).set hj0 ev.len fun ho2 z => ?_
      subst z
      exact a.ne 0 (i + 1) s t x (by omega) rfl ht ho2 ho rfl hv
theorem argsB_dat : ∀ {vs : List V} {ds : List PyData}, DqAll K ((G.owns S).view H) vs ds → ArgsB K G S H vs (ds.map .dat) := fun {vs ds} h => ⟨by rw [List.length_map]; exact h.length, fun i s hs => by
  rw [List.getElem?_map] at hs
  obtain ⟨d, h1, h2⟩ := Option.map_eq_some_iff.mp hs
  subst h2
  obtain ⟨v, hv, dq⟩ := h.get' h1
  exact ⟨v, hv, dq⟩, fun i j s t v hij h1 h2 o1 => by
  rw [List.getElem?_map] at h1
  obtain ⟨d, _, e⟩ := Option.map_eq_some_iff.mp h1
  subst e
  cases o1⟩
theorem tgb_name (hj : j < Γ.length) : TgB K (gName j) Γ P (fun d => Γ.set j (.dat d)) := fun G S σ H x d ev pd dq Q q => q _ (ev.set (s := .dat d) hj rfl dq)
theorem tgb_tup {n : Nat} (js : List Nat) (hj : ∀ j ∈ js, j < Γ.length) (hn : n = js.length := by rfl) : TgB K (gTup K n (gNs js)) Γ (fun d => ∃ ds : List PyData, d = .tuple ds ∧ ds.length = n) (fun d => setSs Γ js ((unT d).map .dat)) := fun G S σ H x d ev ⟨ds, e, hl⟩ dq Q q => by
  subst e
  cases dq with
  | tup hs ha => exact ⟨_, _, rfl, Fr.upT hs, ha.length.trans hl, gNs_run js _ _ σ Γ ev hj (by show js.length = (ds.map Sl.dat).length; rw [List.length_map, hl, hn]) (argsB_dat ha) (fun i s v h1 o1 => by
      have h1 : (ds.map Sl.dat)[i]? = some s := h1
      rw [List.getElem?_map] at h1
      obtain ⟨d, _, e⟩ := Option.map_eq_some_iff.mp h1
      subst e
      cases o1) Q q⟩
theorem TgB.impP {N : PyData → List Sl} (h : TgB K g Γ P N) (hp : ∀ d, P' d → P d) : TgB K g Γ P' N := fun G S σ H x d ev pd => h G S σ H x d ev (hp d pd)
theorem b_asg1 {N : PyData → List Sl} (h : EvD K te Γ P) (hg : TgB K g Γ P N) (hm : ∀ d, P d → M (N d)) : Bk K (tAsg te g) Γ M R B C := fun G S σ H D ev k1 k2 k3 k4 =>
  h (G.owns S) σ H ev.in ev.inv _ fun v d H1 i1 l1 p1 dq => hg G S σ H1 v d (ev.le1 i1 l1) p1 dq _ fun σ2 ev2 => k1 σ2 H1 S _ l1 ev2 (hm d p1)
theorem b_asg {N : PyData → List Sl} (h : EvD K te Γ P) (hg : TgB K g Γ P N) (h2 : ∀ d, P d → Bk K tu (N d) M R B C) : Bk K (tSeq (tAsg te g) tu) Γ M R B C := b_seq (M' := fun Γ' => ∃ d, P d ∧ Γ' = N d) (b_asg1 h hg fun d p => ⟨d, p, rfl⟩) fun Γ' ⟨d, p, e⟩ => by rw [e]; exact h2 d p
theorem b_asgR1 {N : PyData → List Sl} (h : EvD K te (rel Γ) P) (hn : ∀ d, P d → noL d = true) (hg : TgB K g Γ P N) (hm : ∀ d, P d → M (N d)) : Bk K (tAsg te g) Γ M R B C := fun G S σ H D ev k1 k2 k3 k4 =>
  h G σ H ev.out ev.inv.1 _ fun v d H1 i1 l1 p1 dq => hg G S σ H1 v d (ev.le0 i1 l1) p1 (dq.hideS ev.ok (inv_rel ev.inv i1 l1) (hn d p1)) _ fun σ2 ev2 => k1 σ2 H1 S _ (le_rel ev.inv l1) ev2 (hm d p1)
/-! ### loops -/
theorem b_forP {I : Nat → List Sl → Prop} {Nn : Nat → Prop} {Pi : Nat → PyData → Prop} {N : Nat → List Sl → PyData → List Sl} (hi : EvI0 K wi Γ Nn Pi) (h0 : I 0 Γ) (hg : ∀ n i Γ', Nn n → i < n → I i Γ' → TgB K g Γ' (Pi i) (N i Γ'))
    (hb : ∀ n i Γ' d, Nn n → i < n → I i Γ' → Pi i d → Bk K tu (N i Γ' d) (fun Γ2 => ∃ Γ3, W Γ2 Γ3 ∧ I (i + 1) Γ3) R M (fun Γ2 => ∃ Γ3, W Γ2 Γ3 ∧ I (i + 1) Γ3)) (hn : ∀ n Γ', Nn n → I n Γ' → M Γ') : Bk K (tFor wi g tu) Γ M R B C := fun G S σ H D ev k1 k2 k3 k4 => by
  refine hi (G.owns S) σ H ev.in ev.inv _ fun n' J H1 e1 iv1 l1 w => ?_
  let Iv : Nat → L2.St → Hp → Prop := fun i σ' H' => ∃ S' Γ', Ex ((G.owns S).view H1) ((G.owns S').view H') ∧ EnvB K G S' H' σ' Γ' ∧ I i Γ'
  refine ⟨fun i c σ' H' => c = n' - i ∧ i ≤ n' ∧ Iv i σ' H', ⟨n', by simp, Nat.zero_le _, S, Γ, fun _ _ h => h, ev.le1 iv1 l1, h0⟩, ?_⟩
  rintro i c σ2 H2 ⟨rfl, hle, S2, Γ2, e2, ev2, ii⟩
  have w2 := w (G.owns S2) H2 e2 ev2.inv
  by_cases hlt : i < n'
  · refine .inr ⟨(w2.1 i hlt).1, fun σ' H' => i + 1 ≤ n' ∧ Iv (i + 1) σ' H', fun σ' H' h' => ⟨n' - (i + 1), by omega, rfl, h'⟩, fun x H3 hy => ?_⟩
    obtain ⟨iv3, l3, d, pd, dq⟩ := (w2.1 i hlt).2 x H3 hy
    refine hg n' i Γ2 e1 hlt ii G S2 σ2 H3 x d (ev2.le1 iv3 l3) pd dq _ fun σ3 ev3 => ?_
    have en : Ex ((G.owns S).view H1) ((G.owns S2).view H3) := L2.ext e2 l3
    have go : ∀ σ' H' S' Γ', Ex ((G.owns S2).view H3) ((G.owns S').view H') → EnvB K G S' H' σ' Γ' → (∃ Γ3, W Γ' Γ3 ∧ I (i + 1) Γ3) → i + 1 ≤ n' ∧ Iv (i + 1) σ' H' := fun σ' H' S' Γ' e' ev' ⟨Γ3, w3, i3⟩ => ⟨hlt, S', Γ3, L2.ext en e', ev'.weak w3, i3⟩
    exact hb n' i Γ2 d e1 hlt ii pd G S2 σ3 H3 _ ev3 go (fun v r H' S' e' => k2 v r H' S' (L2.ext l1 (L2.ext en e'))) (fun σ' H' S' Γ' e' ev' m => k1 σ' H' S' Γ' (L2.ext l1 (L2.ext en e')) ev' m) go
  · obtain rfl : i = n' := by omega
    exact .inl ⟨w2.2, k1 σ2 H2 S2 Γ2 (L2.ext l1 e2) ev2 (hn _ Γ2 e1 ii)⟩
theorem b_for {I : Nat → List Sl → Prop} {n : Nat} {Pi : Nat → PyData → Prop} {N : Nat → List Sl → PyData → List Sl} (hi : EvI0 K wi Γ (· = n) Pi) (h0 : I 0 Γ) (hg : ∀ i Γ', i < n → I i Γ' → TgB K g Γ' (Pi i) (N i Γ'))
    (hb : ∀ i Γ' d, i < n → I i Γ' → Pi i d → Bk K tu (N i Γ' d) (fun Γ2 => ∃ Γ3, W Γ2 Γ3 ∧ I (i + 1) Γ3) R M (fun Γ2 => ∃ Γ3, W Γ2 Γ3 ∧ I (i + 1) Γ3)) (hn : ∀ Γ', I n Γ' → M Γ') : Bk K (tFor wi g tu) Γ M R B C :=
  b_forP hi h0 (fun m i Γ' e => by subst e; exact hg i Γ') (fun m i Γ' d e => by subst e; exact hb i Γ' d) fun m Γ' e => by subst e; exact hn Γ'
/-- what a loop over whole numbers walks: it looks at nothing -/
def WalkN (J : It) (n : Nat) (f : Nat → Int) : Prop := ∀ H : Hp, (∀ i, i < n → J.go i H ∧ ∀ x H', J.yld i H x H' → H' = H ∧ x = V.int (f i)) ∧ J.stop n H
def EvR (K : PySem.W.Frag) (wi : TI) (Γ : List Sl) (n : Nat) (f : Nat → Int) : Prop := ∀ (G : Fr) (σ : L2.St) (H : Hp), EnvOk K G H σ Γ → G.inv H → ∀ R : It → Hp → Prop, (∀ J H', G.inv H' → G.le H H' → WalkN J n f → R J H') → wi σ H R
theorem er_range1 {n : Nat} (hn : n < 2 ^ 62) (h : EvL' K ta Γ (· = [.int n])) : EvR K (iRng1 ta) Γ n fun i => (i : Nat) := fun G σ H ev iv R q =>
  h G σ H ev iv _ fun vs ss H1 iv1 l1 ⟨zs, e1, e2⟩ dqs => by
    subst e2; subst e1
    have dqs := args_dats dqs
    cases dqs with
    | cons h1 t1 =>
      cases t1
      cases h1
      refine ⟨n, rfl, by omega, by omega, q _ H1 iv1 l1 ?_⟩
      rw [Int.toNat_natCast]
      exact fun H2 => ⟨fun i hi => ⟨hi, fun x H3 ⟨e3, ex⟩ => ⟨e3, by rw [ex]; exact congrArg V.int (Int.zero_add _)⟩⟩, Nat.le_refl _⟩
theorem er_range2 {a b : Int} (h : EvL' K ta Γ (· = [.int a, .int b])) (ha : -(2 ^ 62) ≤ a) (ha' : a < 2 ^ 62) (hb : -(2 ^ 62) ≤ b) (hb' : b < 2 ^ 62) : EvR K (iRng2 ta) Γ (b - a).toNat fun i => a + (i : Nat) := fun G σ H ev iv R q =>
  h G σ H ev iv _ fun vs ss H1 iv1 l1 ⟨zs, e1, e2⟩ dqs => by
    subst e2; subst e1
    have dqs := args_dats dqs
    cases dqs with
    | cons h1 t1 =>
      cases t1 with
      | cons h2 t2 =>
        cases t2
        cases h1; cases h2
        exact ⟨a, b, rfl, ⟨ha, ha', hb, hb'⟩, q _ H1 iv1 l1 fun H2 => ⟨fun i hi => ⟨hi, fun x H3 ⟨e3, ex⟩ => ⟨e3, ex⟩⟩, Nat.le_refl _⟩⟩
/-- range(a, b, -1) -/
theorem er_down {a b : Int} (h : EvL' K ta Γ (· = [.int a, .int b, .int (-1)])) (ha : -(2 ^ 62) ≤ a) (ha' : a < 2 ^ 62) (hb : -(2 ^ 62) ≤ b) (hb' : b < 2 ^ 62) : EvR K (iRng3 ta) Γ (a - b).toNat fun i => a - (i : Nat) := fun G σ H ev iv R q =>
  h G σ H ev iv _ fun vs ss H1 iv1 l1 ⟨zs, e1, e2⟩ dqs => by
    subst e2; subst e1
    have dqs := args_dats dqs
    cases dqs with
    | cons h1 t1 =>
      cases t1 with
      | cons h2 t2 =>
        cases t2 with
        | cons h3 t3 =>
          cases t3
          cases h1; cases h2; cases h3
          refine ⟨a, b, -1, (a - b).toNat, rfl, RgC.neg ha ha' hb hb', q _ H1 iv1 l1 fun H2 => ⟨fun i hi => ⟨hi, fun x H3 ⟨e3, ex⟩ => ⟨e3, ?_⟩⟩, Nat.le_refl _⟩⟩
          rw [ex]
          exact congrArg V.int (by show a + (i : Nat) * (-1) = a - (i : Nat); omega)
theorem b_forN {I : Nat → List Sl → Prop} {n : Nat} {f : Nat → Int} {N : Nat → List Sl → PyData → List Sl} (hi : EvR K wi (rel Γ) n f) (h0 : I 0 Γ) (hg : ∀ i Γ', i < n → I i Γ' → TgB K g Γ' (· = .int (f i)) (N i Γ'))
    (hb : ∀ i Γ', i < n → I i Γ' → Bk K tu (N i Γ' (.int (f i))) (fun Γ2 => ∃ Γ3, W Γ2 Γ3 ∧ I (i + 1) Γ3) R M (fun Γ2 => ∃ Γ3, W Γ2 Γ3 ∧ I (i + 1) Γ3)) (hn : ∀ Γ', I n Γ' → M Γ') : Bk K (tFor wi g tu) Γ M R B C := fun G S σ H D ev k1 k2 k3 k4 => by
  refine hi G σ H ev.out ev.inv.1 _ fun J H1 iv1 l1 w => ?_
  have l1' := le_rel ev.inv l1
  let Iv : Nat → L2.St → Hp → Prop := fun i σ' H' => ∃ S' Γ', Ex ((G.owns S).view H1) ((G.owns S').view H') ∧ EnvB K G S' H' σ' Γ' ∧ I i Γ'
  refine ⟨fun i c σ' H' => c = n - i ∧ i ≤ n ∧ Iv i σ' H', ⟨n, by simp, Nat.zero_le _, S, Γ, fun _ _ h => h, ev.le0 iv1 l1, h0⟩, ?_⟩
  rintro i c σ2 H2 ⟨rfl, hle, S2, Γ2, e2, ev2, ii⟩
  have w2 := w H2
  by_cases hlt : i < n
  · refine .inr ⟨(w2.1 i hlt).1, fun σ' H' => i + 1 ≤ n ∧ Iv (i + 1) σ' H', fun σ' H' h' => ⟨n - (i + 1), by omega, rfl, h'⟩, fun x H3 hy => ?_⟩
    obtain ⟨e3, ex⟩ := (w2.1 i hlt).2 x H3 hy
    subst e3; subst ex
    refine hg i Γ2 hlt ii G S2 σ2 H3 _ _ ev2 rfl (.int _) _ fun σ3 ev3 => ?_
    have go : ∀ σ' H' S' Γ', Ex ((G.owns S2).view H3) ((G.owns S').view H') → EnvB K G S' H' σ' Γ' → (∃ Γ3, W Γ' Γ3 ∧ I (i + 1) Γ3) → i + 1 ≤ n ∧ Iv (i + 1) σ' H' := fun σ' H' S' Γ' e' ev' ⟨Γ3, w3, i3⟩ => ⟨hlt, S', Γ3, L2.ext e2 e', ev'.weak w3, i3⟩
    exact hb i Γ2 hlt ii G S2 σ3 H3 _ ev3 go (fun v r H' S' e' => k2 v r H' S' (L2.ext l1' (L2.ext e2 e'))) (fun σ' H' S' Γ' e' ev' m => k1 σ' H' S' Γ' (L2.ext l1' (L2.ext e2 e')) ev' m) go
  · obtain rfl : i = n := by omega
    exact .inl ⟨w2.2, k1 σ2 H2 S2 Γ2 (L2.ext l1' e2) ev2 (hn Γ2 ii)⟩
/-! ### what is returned -/
theorem b_ret (h : EvD K te Γ P) (hr : ∀ d, P d → R (.one (.dat d))) : Bk K (tRet te) Γ M R B C := fun G S σ H D ev k1 k2 k3 k4 =>
  h (G.owns S) σ H ev.in ev.inv _ fun v d H1 i1 l1 p1 dq => k2 v (.one (.dat d)) H1 S l1 ev.ok i1 (hr d p1) dq
theorem OS.nil_ok : OS.nil.ok := fun b o e => nomatch e
/-- all that is owned may be read, and handed on -/
theorem b_retR (h : EvD K te (rel Γ) P) (hr : ∀ d, P d → R (.one (.dat d))) : Bk K (tRet te) Γ M R B C := fun G S σ H D ev k1 k2 k3 k4 =>
  h G σ H ev.out ev.inv.1 _ fun v d H1 i1 l1 p1 dq => k2 v (.one (.dat d)) H1 OS.nil (by rw [owns_nil]; exact L2.ext owns_sub l1) OS.nil_ok (by rw [owns_nil]; exact i1) (hr d p1) (by show Dq K ((G.owns OS.nil).view H1) v d; rw [owns_nil]; exact dq)
theorem b_retO {ds : List PyData} (hj : Γ[j]? = some (.olst ds)) (hr : R (.one (.olst ds))) : Bk K (tRet (tVar j)) Γ M R B C := fun G S σ H D ev k1 k2 k3 k4 => by
  rcases ev.sl j _ hj with z | ⟨v, hv, q⟩
  · cases z
  exact ⟨v, hv, k2 v (.one (.olst ds)) H S (fun _ _ h => h) ev.ok ev.inv hr q⟩
theorem b_retN {PN : List PyData → Prop} (h : EvN K te Γ PN) (hr : ∀ ds, PN ds → R (.one (.olst ds))) : Bk K (tRet te) Γ M R B C := fun G S σ H D ev k1 k2 k3 k4 =>
  h (G.owns S) σ H ev.in ev.inv _ fun l vs ds H1 i1 l1 p1 dq => by
    have hl : S l = none := by
      cases e : S l with
      | none => rfl
      | some o =>
        have z : hideS (G.view H1) S l = some (.lst vs) := i1.2
        unfold L2.hideS at z
        rw [e] at z; cases z
    rw [owns_own hl] at i1 l1 dq
    exact k2 _ (.one (.olst ds)) H1 _ l1 (ev.ok.put rfl) i1 (hr ds p1) ⟨l, vs, rfl, OS.put_same, dq⟩
/-- values for a tuple: places that own what they hold, and data -/
def EvA (K : PySem.W.Frag) (ta : TA) (Γ : List Sl) (js : List Nat) (P : List Sl → Prop) : Prop := ∀ (G : Fr) (S : OS) (σ : L2.St) (H : Hp), EnvB K G S H σ Γ → ∀ Q : List V → Hp → Prop, (∀ vs ss H', (G.owns S).inv H' → (G.owns S).le H H' → P ss → ArgsB K G S H' vs ss → (∀ (i : Nat) s v, ss[i]? = some s → isO s = true → vs[i]? = some v → ∃ j ∈ js, σ[j]? = some (some v) ∧ ∃ t, Γ[j]? = some t ∧ isO t = true) → Q vs H') → ta σ H Q
theorem ea_nil : EvA K tNil Γ [] (· = []) := fun G S σ H ev Q q => q [] [] H ev.inv .refl rfl ⟨rfl, fun i s h => by simp at h, fun i j s t v _ h => by simp at h⟩ (fun i s v h => by simp at h)
theorem ea_dat {js : List Nat} {PS : List Sl → Prop} (h : EvD K te Γ P) (t : EvA K ta Γ js PS) : EvA K (tCons te ta) Γ js (fun ss => ∃ d r, ss = .dat d :: r ∧ P d ∧ PS r) := fun G S σ H ev Q q =>
  h (G.owns S) σ H ev.in ev.inv _ fun v d H1 i1 l1 p1 dq => t G S σ H1 (ev.le1 i1 l1) _ fun vs ss H2 i2 l2 p2 a own => by
    refine q (v :: vs) (.dat d :: ss) H2 i2 (l1.trans l2) ⟨d, ss, rfl, p1, p2⟩ ⟨congrArg (· + 1) a.len, fun i s hs => ?_, fun i j s t w hij h1 h2 o1 o2 => ?_⟩ fun i s w h1 o1 => ?_
    · cases i with
      | zero => simp at hs; subst hs; exact ⟨v, rfl, dq.ex l2⟩
      | succ i => exact a.sl i s (by simpa using hs)
    · cases i with
      | zero => simp at h1; subst h1; cases o1
      | succ i =>
        cases j with
        | zero => simp at h2; subst h2; cases o2
        | succ j => simpa using a.ne i j s t w (fun z => hij (congrArg (· + 1) z)) (by simpa using h1) (by simpa using h2) o1 o2
    · cases i with
      | zero => simp at h1; subst h1; cases o1
      | succ i => simpa using own i s w (by simpa using h1) o1
theorem ea_own {js : List Nat} {s0 : Sl} {PS : List Sl → Prop} (hj : Γ[j]? = some s0) (ho : isO s0 = true) (hn : j ∉ js) (t : EvA K ta Γ js PS) : EvA K (tCons (tVar j) ta) Γ (j :: js) (fun ss => ∃ r, ss = s0 :: r ∧ PS r) := fun G S σ H ev Q q => by
  rcases ev.sl j _ hj with z | ⟨v, hv, sv⟩
  · subst z; cases ho
  refine ⟨v, hv, t G S σ H ev _ fun vs ss H2 i2 l2 p2 a own => ?_⟩
  have vr : ∃ b, v = .ref b := by
    cases s0 with
    | olst ds => obtain ⟨b, _, e, _⟩ := sv; exact ⟨b, e⟩
    | odic m => obtain ⟨b, _, e, _⟩ := sv; exact ⟨b, e⟩
    | any => cases ho
    | dat d => cases ho
    | well => cases ho
    | fdic m => cases ho
    | ins C fs => cases ho
    | sem p => cases ho
  obtain ⟨b, rfl⟩ := vr
  have key : ∀ (i : Nat) s, ss[i]? = some s → isO s = true → vs[i]? = some (.ref b) → False := fun i s h1 o1 h2 => by
    obtain ⟨k, hk, hk2, t1, ht1, ot1⟩ := own i s _ h1 o1 h2
    exact ev.ne j k s0 t1 b (fun z => hn (z ▸ hk)) hj ht1 ho ot1 hv hk2
  refine q (.ref b :: vs) (s0 :: ss) H2 i2 l2 ⟨ss, rfl, p2⟩ ⟨congrArg (· + 1) a.len, fun i s hs => ?_, fun i k s t w hik h1 h2 o1 o2 => ?_⟩ fun i s w h1 o1 => ?_
  · cases i with
    | zero => simp at hs; subst hs; exact ⟨_, rfl, sv.ex l2⟩
    | succ i => exact a.sl i s (by simpa using hs)
  · cases i with
    | zero =>
      cases k with
      | zero => exact absurd rfl hik
      | succ k =>
        simp only [List.getElem?_cons_zero, List.getElem?_cons_succ] at *
        intro e1 e2
        cases e1
        exact key k t h2 o2 e2
    | succ i =>
      cases k with
      | zero =>
        simp only [List.getElem?_cons_zero, List.getElem?_cons_succ] at *
        intro e1 e2
        cases e2
        exact key i s h1 o1 e1
      | succ k => simpa using a.ne i k s t w (fun z => hik (congrArg (· + 1) z)) (by simpa using h1) (by simpa using h2) o1 o2
  · cases i with
    | zero =>
      simp only [List.getElem?_cons_zero] at *
      intro e1
      cases e1
      exact ⟨j, List.mem_cons_self, hv, s0, hj, ho⟩
    | succ i =>
      intro e1
      obtain ⟨k, hk, r⟩ := own i s w (by simpa using h1) o1 (by simpa using e1)
      exact ⟨k, List.mem_cons_of_mem _ hk, r⟩
/-- return (a, b, ..) -/
theorem b_retT {js : List Nat} {PS : List Sl → Prop} (h : EvA K ta Γ js PS) (hl : ∀ ss, PS ss → ss.length ≤ 1000) (hr : ∀ ss, PS ss → R (.tup ss)) : Bk K (tRet (tTup ta)) Γ M R B C := fun G S σ H D ev k1 k2 k3 k4 =>
  h G S σ H ev _ fun vs ss H1 i1 l1 p1 a _ => ⟨by rw [a.len, sizeLine_eq]; have := hl ss p1; omega, fun p hp => by
    obtain ⟨i2, l2, v2⟩ := Fr.new (G := G.owns S) (o := HO.tup vs) i1 hp
    exact k2 _ (.tup ss) _ S (L2.ext l1 l2) ev.ok i2 (hr ss p1) ⟨p, vs, rfl, .inl (.inl v2), ⟨a.len, fun i s hs => (a.sl i s hs).imp fun v ⟨e, z⟩ => ⟨e, z.ex l2⟩, a.ne⟩⟩⟩
/-! ### promises and calls -/
def spB (K : PySem.W.Frag) {γ : Type} (pre : γ → List Sl → Prop) (post : γ → Rv → Prop) : Sp := fun vs H Q _ => ∃ (G : Fr) (ss : List Sl) (c : γ), G.inv H ∧ ArgsOk K G H vs ss ∧ pre c ss ∧ ∀ v r H' S', S'.ok → (G.owns S').inv H' → Ex (G.view H) ((G.owns S').view H') → post c r → RvOk K G S' H' v r → Q v H'
def isA : Sl → Bool
  | .any => true
  | .dat _ => true
  | .well => true
  | .ins _ _ => true
  | .sem _ => true
  | _ => false
theorem isA_isO {s : Sl} (h : isA s = true) : isO s = false := by
  cases s <;> first | rfl | cases h
theorem envStartB {vs : List V} {ss : List Sl} (n : Nat) (ha : ss.all isA = true) (iv : G.inv H) (a : ArgsOk K G H vs ss) : EnvB K G OS.nil H (vs.map some ++ List.replicate n none) (ss ++ List.replicate n .any) := by
  have e := envOk_of n a
  have hA : ∀ (i : Nat) s, (ss ++ List.replicate n Sl.any)[i]? = some s → isA s = true := fun i s hs => by
    rcases List.mem_append.mp (List.mem_of_getElem? hs) with m | m
    · exact List.all_eq_true.mp ha s m
    · rw [List.eq_of_mem_replicate m]; rfl
  have sl : ∀ (i : Nat) s, (ss ++ List.replicate n Sl.any)[i]? = some s → s = .any ∨ ∃ v, (vs.map some ++ List.replicate n none)[i]? = some (some v) ∧ SlB K G OS.nil H v s := fun i s hs => by
    rcases e.2 i s hs with z | ⟨v, hv, q⟩
    · exact .inl z
    have hs' := hA i s hs
    refine .inr ⟨v, hv, ?_⟩
    cases s with
    | any => trivial
    | dat d => show Dq K ((G.owns OS.nil).view H) v d; rw [owns_nil]; exact q
    | well => exact q
    | ins C fs => show ∃ a dx vs, v = .ref a ∧ (G.owns OS.nil).view H a = some (.ins C dx vs) ∧ DqFs K ((G.owns OS.nil).view H) vs fs; rw [owns_nil]; exact q
    | sem p => show ∀ H', Ex ((G.owns OS.nil).view H) H' → p H' v; rw [owns_nil]; exact q
    | odic m => cases hs'
    | fdic m => cases hs'
    | olst m => cases hs'
  exact ⟨OS.nil_ok, by rw [owns_nil]; exact iv, e.1, sl, fun i j s t b _ hi _ o1 => by
    rw [isA_isO (hA i s hi)] at o1; cases o1⟩
/-- a def's body -/
theorem doneB {vs : List V} {ss : List Sl} {D : Ends} {N : List Str} (n : Nat) (hs : L2.start N vs = vs.map some ++ List.replicate n none) (ha : ss.all isA = true) (h : Bk K ts (ss ++ List.replicate n .any) NoB R NoB NoB) (iv : G.inv H) (a : ArgsOk K G H vs ss)
    (k : ∀ v r H' S', S'.ok → (G.owns S').inv H' → Ex (G.view H) ((G.owns S').view H') → R r → RvOk K G S' H' v r → D.rt v H') : ts D (L2.start N vs) H := by
  rw [hs]
  exact h G OS.nil _ H D (envStartB n ha iv a) (fun _ _ _ _ _ _ m => m.elim) (fun v r H' S' e o i' r' q => k v r H' S' o i' (by rw [owns_nil] at e; exact e) r' q) (fun _ _ _ _ _ _ m => m.elim) (fun _ _ _ _ _ _ m => m.elim)
/-- a def that returns data -/
def RD (P : PyData → Prop) : Rv → Prop := fun r => ∃ d, r = .one (.dat d) ∧ P d
theorem doneBD {vs : List V} {ss : List Sl} {D : Ends} {N : List Str} (n : Nat) (hs : L2.start N vs = vs.map some ++ List.replicate n none) (ha : ss.all isA = true) (h : Bk K ts (ss ++ List.replicate n .any) NoB (RD P) NoB NoB) (iv : G.inv H) (a : ArgsOk K G H vs ss)
    (k : ∀ v d H', G.inv H' → G.le H H' → P d → Dq K (G.view H') v d → D.rt v H') : ts D (L2.start N vs) H := doneB n hs ha h iv a fun v r H' S' o i' e ⟨d, e2, p⟩ q => by
  subst e2
  exact k v d H' i'.1 (L2.ext e owns_sub) p (Dq.ex owns_sub q)
/-- an expression that answers something of its own -/
def EvO2 (K : PySem.W.Frag) (te : TE) (Γ : List Sl) (PR : Rv → Prop) : Prop := ∀ (G : Fr) (σ : L2.St) (H : Hp), EnvOk K G H σ Γ → G.inv H → ∀ Q : VK, (∀ v r H' S', S'.ok → (G.owns S').inv H' → Ex (G.view H) ((G.owns S').view H') → PR r → RvOk K G S' H' v r → Q v H') → te σ H Q
theorem ev_callB {γ : Type} {pre : γ → List Sl → Prop} {post : γ → Rv → Prop} {PS : List Sl → Prop} {E : XK} (c : γ) (h : EvS K ta Γ PS) (hp : ∀ ss, PS ss → pre c ss) : EvO2 K (tCall (spB K pre post) [] E ta) Γ (post c) := fun G σ H e i Q q =>
  h G σ H e i _ fun vs ss H1 i1 l1 p1 as => by
    rw [List.append_nil]
    exact ⟨G, ss, c, i1, as, hp ss p1, fun v r H' S' o i' l' p' z => q v r H' S' o i' (L2.ext l1 l') p' z⟩
/-- all that comes back is data: then it is an expression like any other -/
theorem ev_callBD {γ : Type} {pre : γ → List Sl → Prop} {post : γ → Rv → Prop} {PS : List Sl → Prop} {E : XK} (c : γ) (h : EvS K ta Γ PS) (hp : ∀ ss, PS ss → pre c ss) (hd : ∀ r, post c r → ∃ ds, r = .one (.olst ds) ∧ P (.list ds)) : EvD K (tCall (spB K pre post) [] E ta) Γ P := fun G σ H e i Q q =>
  ev_callB c h hp G σ H e i Q fun v r H' S' o i' l' p' z => by
    obtain ⟨ds, e1, p⟩ := hd r p'
    subst e1
    obtain ⟨a, vs, e2, e3, e4⟩ := z
    subst e2
    exact q _ _ H' i'.1 (L2.ext l' owns_sub) p (.lst (.inl (.inl (i'.2 _ _ e3))) (e4.ex owns_sub))
end
end L2

set_option Elab.async false
set_option linter.all false
set_option maxRecDepth 100000
set_option maxHeartbeats 4000000
/-! Blocks: several new things at once. -/
namespace L2
open PySem PySem.Spec PyProof.Rows
open Evl (Ex)
def OS.un (S S2 : OS) : OS := fun b => match S b with
  | some o => some o
  | none => S2 b
theorem OS.un_none {S S2 : OS} {b : Addr} (h : S b = none) : S.un S2 b = S2 b := by unfold OS.un; rw [h]
theorem OS.un_some {S S2 : OS} {b : Addr} {o : HO} (h : S b = some o) : S.un S2 b = some o := by unfold OS.un; rw [h]
theorem OS.ok.un {S S2 : OS} (h : S.ok) (h2 : S2.ok) : (S.un S2).ok := fun b o hb => by
  cases e : S b with
  | some u => rw [OS.un_some e] at hb; cases hb; exact h b _ e
  | none => rw [OS.un_none e] at hb; exact h2 b o hb
theorem owns_un {G : Fr} {S S2 : OS} (hd : ∀ b o, S2 b = some o → S b = none) : (G.owns S).owns S2 = G.owns (S.un S2) := by
  refine Fr.eq (funext fun H => funext fun b => ?_) (funext fun H => propext ⟨fun ⟨⟨i, h⟩, e⟩ => ⟨i, fun b u hb => ?_⟩, fun ⟨i, h⟩ => ⟨⟨i, fun b u hb => h b u (OS.un_some hb)⟩, fun b u hb => ?_⟩⟩)
  · show hideS (hideS (G.view H) S) S2 b = hideS (G.view H) (S.un S2) b
    unfold hideS
    cases e : S b with
    | some u => rw [OS.un_some e]; simp
    | none => rw [OS.un_none e]; cases S2 b <;> rfl
  · cases e2 : S b with
    | some o => rw [OS.un_some e2] at hb; cases hb; exact h b _ e2
    | none => rw [OS.un_none e2] at hb; exact (hideS_some (e b u hb)).2
  · show hideS (G.view H) S b = some u
    rw [hideS_none (hd b u hb)]
    exact h b u (by rw [OS.un_none (hd b u hb)]; exact hb)
theorem disj_of {G : Fr} {S S2 : OS} {H : Hp} (i : ((G.owns S).owns S2).inv H) : ∀ b o, S2 b = some o → S b = none := fun b o hb => (hideS_some (i.2 b o hb)).1
/-- what may come back from a call -/
def okR : Sl → Bool
  | .any => true
  | .dat _ => true
  | .ins _ _ => true
  | .sem _ => true
  | .olst _ => true
  | .odic _ => true
  | _ => false
section
variable {K : PySem.W.Frag} {G : Fr} {S S' S2 : OS} {H H' : Hp} {σ σ' : L2.St} {Γ Γ' Γ2 : List Sl} {ts tu : TS} {tt : TT} {te tb : TE} {ta : TA} {wi : TI} {g : TG} {M M' B C B' C' : List Sl → Prop} {R R' : Rv → Prop} {P P' : PyData → Prop} {i j : Nat}
theorem SlB.lift {v : V} {s : Sl} (h : SlB K (G.owns S) S2 H v s) (hr : okR s = true) (hd : ∀ b o, S2 b = some o → S b = none) : SlB K G (S.un S2) H v s := by
  have e := owns_un (G := G) hd
  cases s with
  | any => trivial
  | dat d => show Dq K _ v d; rw [← e]; exact h
  | well => cases hr
  | odic m => obtain ⟨a, k, e1, e2, e3⟩ := h; exact ⟨a, k, e1, by rw [OS.un_none (hd _ _ e2)]; exact e2, by rw [← e]; exact e3⟩
  | fdic m => exact h
  | ins C fs => obtain ⟨a, dx, vs, e1, e2, e3⟩ := h; exact ⟨a, dx, vs, e1, by rw [← e]; exact e2, by rw [← e]; exact e3⟩
  | sem p => show ∀ H', _ → p H' v; rw [← e]; exact h
  | olst ds => obtain ⟨a, vs, e1, e2, e3⟩ := h; exact ⟨a, vs, e1, by rw [OS.un_none (hd _ _ e2)]; exact e2, by rw [← e]; exact e3⟩
theorem SlB.un {v : V} {s : Sl} (h : SlB K G S H v s) (e : Ex ((G.owns S).view H) ((G.owns (S.un S2)).view H')) : SlB K G (S.un S2) H' v s := by
  cases s with
  | any => trivial
  | dat d => exact Dq.ex e h
  | well => exact h
  | odic m => obtain ⟨a, k, e1, e2, e3⟩ := h; exact ⟨a, k, e1, OS.un_some e2, e3.ex e⟩
  | fdic m => exact h
  | ins C fs => obtain ⟨a, dx, vs, e1, e2, e3⟩ := h; exact ⟨a, dx, vs, e1, e _ _ e2, e3.ex e⟩
  | sem p => exact fun H2 e2 => h H2 fun b o hb => e2 b o (e b o hb)
  | olst ds => obtain ⟨a, vs, e1, e2, e3⟩ := h; exact ⟨a, vs, e1, OS.un_some e2, e3.ex e⟩
theorem EnvB.grow (h : EnvB K G S H σ Γ) (o2 : S2.ok) (i : ((G.owns S).owns S2).inv H') (e : Ex ((G.owns S).view H) (((G.owns S).owns S2).view H')) : EnvB K G (S.un S2) H' σ Γ ∧ Ex ((G.owns S).view H) ((G.owns (S.un S2)).view H') := by
  have hd := disj_of i
  rw [owns_un hd] at i e
  exact ⟨⟨h.ok.un o2, i, h.len, fun i s hs => (h.sl i s hs).imp id fun ⟨v, hv, q⟩ => ⟨v, hv, q.un e⟩, h.ne⟩, e⟩
theorem owned_ref {v : V} {s : Sl} (h : SlB K G S H v s) (ho : isO s = true) : ∃ a o, v = .ref a ∧ S a = some o := by
  cases s with
  | olst ds => obtain ⟨a, vs, e, e2, _⟩ := h; exact ⟨a, _, e, e2⟩
  | odic m => obtain ⟨a, kvs, e, e2, _⟩ := h; exact ⟨a, _, e, e2⟩
  | any => cases ho
  | dat d => cases ho
  | well => cases ho
  | fdic m => cases ho
  | ins C fs => cases ho
  | sem p => cases ho
theorem EnvB.fresh (h : EnvB K G S H σ Γ) {a : Addr} (ha : S a = none) : Fresh σ Γ (.ref a) := fun q t hq ho hv => by
  rcases h.sl q t hq with z | ⟨v, h1, h2⟩
  · subst z; cases ho
  · obtain ⟨b, o, e1, e2⟩ := owned_ref h2 ho
    rw [hv] at h1
    cases h1
    cases e1
    rw [ha] at e2; cases e2
/-- name = something of its own -/
theorem b_setO1 {PR : Rv → Prop} (hi : i < Γ.length) (h : EvO2 K te Γ PR) (hm : ∀ r, PR r → ∃ s, r = .one s ∧ okR s = true ∧ M (Γ.set i s)) : Bk K (tAsg te (gName i)) Γ M R B C := fun G S σ H D ev k1 k2 k3 k4 =>
  h (G.owns S) σ H ev.in ev.inv _ fun v r H1 S2 o2 i1 l1 p1 q => by
    obtain ⟨s, e, hr, hm⟩ := hm r p1
    subst e
    have hd := disj_of i1
    obtain ⟨ev1, l2⟩ := ev.grow o2 i1 l1
    have q : SlB K (G.owns S) S2 H1 v s := q
    refine k1 _ H1 _ _ l2 (ev1.setO hi (q.lift hr hd) fun ho => ?_) hm
    obtain ⟨a, o, e1, e2⟩ := owned_ref q ho
    subst e1
    exact ev.fresh (hd _ _ e2)
theorem b_setO {PR : Rv → Prop} (hi : i < Γ.length) (h : EvO2 K te Γ PR) (hm : ∀ r, PR r → ∃ s, r = .one s ∧ okR s = true ∧ Bk K tu (Γ.set i s) M R B C) : Bk K (tSeq (tAsg te (gName i)) tu) Γ M R B C := b_seq (M' := fun Γ' => Bk K tu Γ' M R B C) (b_setO1 hi h hm) fun Γ' h => h
/-- a, b, .. = a call that gives several things of their own -/
theorem b_asgT1 {PR : Rv → Prop} {n : Nat} (js : List Nat) (hj : ∀ j ∈ js, j < Γ.length) (h : EvO2 K te Γ PR) (hm : ∀ r, PR r → ∃ ss, r = .tup ss ∧ ss.length = n ∧ ss.all okR = true ∧ M (setSs Γ js ss)) (hn : n = js.length := by rfl) : Bk K (tAsg te (gTup K n (gNs js))) Γ M R B C := fun G S σ H D ev k1 k2 k3 k4 =>
  h (G.owns S) σ H ev.in ev.inv _ fun v r H1 S2 o2 i1 l1 p1 q => by
    obtain ⟨ss, e, hl, hr, hm⟩ := hm r p1
    subst e
    have hd := disj_of i1
    obtain ⟨ev1, l2⟩ := ev.grow o2 i1 l1
    obtain ⟨a, vs, e1, sq, ab⟩ := q
    subst e1
    have ab : ArgsB K (G.owns S) S2 H1 vs ss := ab
    refine ⟨a, vs, rfl, exT (fun _ _ h => G.sub (owns_sub _ _ (owns_sub _ _ h))) sq, ab.len.trans hl, gNs_run js ss vs σ Γ ev1 hj (by rw [hl, hn]) ⟨ab.len, fun i s hs => (ab.sl i s hs).imp fun v ⟨h1, h2⟩ => ⟨h1, h2.lift (List.all_eq_true.mp hr s (List.mem_of_getElem? hs)) hd⟩, ab.ne⟩ (fun i s v hs ho hv => ?_) _ fun σ2 ev2 => k1 σ2 H1 _ _ l2 ev2 hm⟩
    obtain ⟨v', h1, h2⟩ := ab.sl i s hs
    rw [hv] at h1
    cases h1
    obtain ⟨b, o, e1, e2⟩ := owned_ref h2 ho
    subst e1
    exact ev.fresh (hd _ _ e2)
theorem b_asgT {PR : Rv → Prop} {n : Nat} (js : List Nat) (hj : ∀ j ∈ js, j < Γ.length) (h : EvO2 K te Γ PR) (hm : ∀ r, PR r → ∃ ss, r = .tup ss ∧ ss.length = n ∧ ss.all okR = true ∧ Bk K tu (setSs Γ js ss) M R B C) (hn : n = js.length := by rfl) : Bk K (tSeq (tAsg te (gTup K n (gNs js))) tu) Γ M R B C := b_seq (M' := fun Γ' => Bk K tu Γ' M R B C) (b_asgT1 js hj h hm hn) fun Γ' h => h
/-! ### several values, some of their own -/
theorem eo_dat (h : EvD K te Γ P) : EvO2 K te Γ (fun r => ∃ d, r = .one (.dat d) ∧ P d) := fun G σ H ev iv Q q =>
  h G σ H ev iv _ fun v d H1 i1 l1 p1 dq => q v (.one (.dat d)) H1 OS.nil OS.nil_ok (by rw [owns_nil]; exact i1) (by rw [owns_nil]; exact l1) ⟨d, rfl, p1⟩ (by show Dq K ((G.owns OS.nil).view H1) v d; rw [owns_nil]; exact dq)
theorem own_put {G : Fr} {l : Addr} {o : HO} : G.own l o = G.owns (OS.nil.put l o) := by
  have := owns_own (G := G) (S := OS.nil) (l := l) (o := o) rfl
  rw [owns_nil] at this
  exact this
theorem eo_new {PN : List PyData → Prop} (h : EvN K te Γ PN) : EvO2 K te Γ (fun r => ∃ ds, r = .one (.olst ds) ∧ PN ds) := fun G σ H ev iv Q q =>
  h G σ H ev iv _ fun l vs ds H1 i1 l1 p1 dq => by
    rw [own_put] at i1 l1 dq
    exact q _ (.one (.olst ds)) H1 _ (OS.nil_ok.put rfl) i1 l1 ⟨ds, rfl, p1⟩ ⟨l, vs, rfl, OS.put_same, dq⟩
def EvT (K : PySem.W.Frag) (ta : TA) (Γ : List Sl) (PS : List Sl → Prop) : Prop := ∀ (G : Fr) (σ : L2.St) (H : Hp), EnvOk K G H σ Γ → G.inv H → ∀ Q : List V → Hp → Prop, (∀ vs ss H' S', S'.ok → (G.owns S').inv H' → Ex (G.view H) ((G.owns S').view H') → PS ss → ss.all okR = true → ArgsB K G S' H' vs ss → Q vs H') → ta σ H Q
theorem et_nil : EvT K tNil Γ (· = []) := fun G σ H ev iv Q q => q [] [] H OS.nil OS.nil_ok (by rw [owns_nil]; exact iv) (by rw [owns_nil]; exact fun _ _ h => h) rfl rfl ⟨rfl, fun i s h => by simp at h, fun i j s t v _ h => by simp at h⟩
theorem et_cons {PR : Rv → Prop} {Ps : Sl → Prop} {PS : List Sl → Prop} (h : EvO2 K te Γ PR) (hr : ∀ r, PR r → ∃ s, r = .one s ∧ okR s = true ∧ Ps s) (t : EvT K ta Γ PS) : EvT K (tCons te ta) Γ (fun ss => ∃ s r, ss = s :: r ∧ Ps s ∧ PS r) := fun G σ H ev iv Q q =>
  h G σ H ev iv _ fun v r H1 S1 o1 i1 l1 p1 q1 => by
    obtain ⟨s, e, hk, ps⟩ := hr r p1
    subst e
    have evo : EnvOk K (G.owns S1) H1 σ Γ := ⟨ev.1, fun i s hs => (ev.2 i s hs).imp id fun ⟨v, hv, z⟩ => ⟨v, hv, by
      cases s with
      | any => trivial
      | dat d => exact Dq.ex l1 z
      | well => obtain ⟨a, p, e1, w⟩ := z; exact ⟨a, p, e1, w.owns⟩
      | odic m => obtain ⟨a, k, e1, e2, e3⟩ := z; exact ⟨a, k, e1, fun H' i => e2 H' i.1, e3.ex l1⟩
      | fdic m => obtain ⟨a, o, k, e1, e2, e3⟩ := z; exact ⟨a, o, k, e1, fun H' i => e2 H' i.1, e3.ex l1⟩
      | ins C fs => obtain ⟨a, dx, vs, e1, e2, e3⟩ := z; exact ⟨a, dx, vs, e1, l1 _ _ e2, e3.ex l1⟩
      | sem p => exact fun H2 e2 => z H2 fun b o hb => e2 b o (l1 b o hb)
      | olst ds => obtain ⟨a, vs, e1, e2, e3⟩ := z; exact ⟨a, vs, e1, fun H' i => e2 H' i.1, e3.ex l1⟩⟩⟩
    refine t (G.owns S1) σ H1 evo i1 _ fun vs ss H2 S2 o2 i2 l2 p2 hk2 a => ?_
    have hd := disj_of i2
    have e := owns_un (G := G) hd
    have l3 : Ex ((G.owns S1).view H1) ((G.owns (S1.un S2)).view H2) := by rw [← e]; exact l2
    have q1 : SlB K G S1 H1 v s := q1
    refine q (v :: vs) (s :: ss) H2 (S1.un S2) (o1.un o2) (by rw [← e]; exact i2) (L2.ext l1 l3) ⟨s, ss, rfl, ps, p2⟩ (by rw [List.all_cons, hk, hk2]; rfl) ⟨congrArg (· + 1) a.len, fun i t ht => ?_, fun i j s1 t1 w hij h1 h2 ho1 ho2 => ?_⟩
    · cases i with
      | zero => simp at ht; subst ht; exact ⟨v, rfl, q1.un l3⟩
      | succ i =>
        have ht : ss[i]? = some t := by simpa using ht
        obtain ⟨w, h1, h2⟩ := a.sl i t ht
        exact ⟨w, by simpa using h1, h2.lift (List.all_eq_true.mp hk2 t (List.mem_of_getElem? ht)) hd⟩
    · have key : ∀ (i : Nat) t, ss[i]? = some t → isO t = true → isO s = true → vs[i]? = some v → False := fun i t h1 o1 o2 h2 => by
        obtain ⟨b, o, e1, e2⟩ := owned_ref q1 o2
        obtain ⟨w, h3, h4⟩ := a.sl i t h1
        rw [h2] at h3
        cases h3
        obtain ⟨c, u, e3, e4⟩ := owned_ref h4 o1
        rw [e1] at e3
        cases e3
        have := hd _ _ e4
        rw [e2] at this; cases this
      cases i with
      | zero =>
        cases j with
        | zero => exact absurd rfl hij
        | succ j =>
          simp only [List.getElem?_cons_zero, List.getElem?_cons_succ] at *
          intro e1 e2
          cases e1
          cases h1
          exact key j t1 h2 ho2 ho1 e2
      | succ i =>
        cases j with
        | zero =>
          simp only [List.getElem?_cons_zero, List.getElem?_cons_succ] at *
          intro e1 e2
          cases e2
          cases h2
          exact key i s1 h1 ho1 ho2 e1
        | succ j => simpa using a.ne i j s1 t1 w (fun z => hij (congrArg (· + 1) z)) (by simpa using h1) (by simpa using h2) ho1 ho2
theorem et_dat {PS : List Sl → Prop} (h : EvD K te Γ P) (t : EvT K ta Γ PS) : EvT K (tCons te ta) Γ (fun ss => ∃ s r, ss = s :: r ∧ (∃ d, s = .dat d ∧ P d) ∧ PS r) := et_cons (eo_dat h) (fun r ⟨d, e, p⟩ => ⟨.dat d, e, rfl, d, rfl, p⟩) t
theorem et_new {PN : List PyData → Prop} {PS : List Sl → Prop} (h : EvN K te Γ PN) (t : EvT K ta Γ PS) : EvT K (tCons te ta) Γ (fun ss => ∃ s r, ss = s :: r ∧ (∃ ds, s = .olst ds ∧ PN ds) ∧ PS r) := et_cons (eo_new h) (fun r ⟨d, e, p⟩ => ⟨.olst d, e, rfl, d, rfl, p⟩) t
theorem eo_tup {PS : List Sl → Prop} (h : EvT K ta Γ PS) (hl : ∀ ss, PS ss → ss.length ≤ 1000) : EvO2 K (tTup ta) Γ (fun r => ∃ ss, r = .tup ss ∧ PS ss ∧ ss.all okR = true) := fun G σ H ev iv Q q =>
  h G σ H ev iv _ fun vs ss H1 S1 o1 i1 l1 p1 hk a => ⟨by rw [a.len, sizeLine_eq]; have := hl ss p1; omega, fun p hp => by
    obtain ⟨i2, l2, v2⟩ := Fr.new (G := G.owns S1) (o := HO.tup vs) i1 hp
    exact q _ (.tup ss) _ S1 o1 i2 (L2.ext l1 l2) ⟨ss, rfl, p1, hk⟩ ⟨p, vs, rfl, .inl (.inl v2), ⟨a.len, fun i s hs => (a.sl i s hs).imp fun v ⟨e, z⟩ => ⟨e, z.ex l2⟩, a.ne⟩⟩⟩
/-- a, b = x, y -/
theorem b_par1 {PS : List Sl → Prop} (hi : i < Γ.length) (hj : j < Γ.length) (h : EvT K ta Γ PS) (hm : ∀ ss, PS ss → ∃ s t, ss = [s, t] ∧ M ((Γ.set i s).set j t)) : Bk K (tPar i j ta) Γ M R B C := fun G S σ H D ev k1 k2 k3 k4 =>
  h (G.owns S) σ H ev.in ev.inv _ fun vs ss H1 S2 o2 i1 l1 p1 hk ab => by
    obtain ⟨s, t, e, hm⟩ := hm ss p1
    subst e
    have hd := disj_of i1
    obtain ⟨ev1, l2⟩ := ev.grow o2 i1 l1
    rw [List.all_cons, List.all_cons, Bool.and_eq_true, Bool.and_eq_true] at hk
    obtain ⟨v, hv, hs⟩ := ab.sl 0 s rfl
    obtain ⟨w, hw, ht⟩ := ab.sl 1 t rfl
    have hl := ab.len
    obtain ⟨v', w', rfl⟩ := (by match vs, hl with | [v', w'], _ => exact ⟨v', w', rfl⟩ : ∃ v' w', vs = [v', w'])
    cases hv
    cases hw
    have fr : ∀ {x : V} {u : Sl}, SlB K (G.owns S) S2 H1 x u → isO u = true → Fresh σ Γ x := fun hx ho => by
      obtain ⟨b, o, e1, e2⟩ := owned_ref hx ho
      subst e1
      exact ev.fresh (hd _ _ e2)
    refine ⟨_, _, rfl, k1 _ H1 _ _ l2 ((ev1.setO hi (hs.lift hk.1 hd) fun ho => fr hs ho).setO (by rw [List.length_set]; exact hj) (ht.lift hk.2.1 hd) fun ho => (fr ht ho).set hi ev1.len fun ho2 z => ?_) hm⟩
    subst z
    exact ab.ne 0 1 s t _ (by decide) rfl rfl ho2 ho rfl rfl
theorem b_par {PS : List Sl → Prop} (hi : i < Γ.length) (hj : j < Γ.length) (h : EvT K ta Γ PS) (hm : ∀ ss, PS ss → ∃ s t, ss = [s, t] ∧ Bk K tu ((Γ.set i s).set j t) M R B C) : Bk K (tSeq (tPar i j ta) tu) Γ M R B C := b_seq (M' := fun Γ' => Bk K tu Γ' M R B C) (b_par1 hi hj h hm) fun Γ' h => h
end
end L2

set_option Elab.async false
set_option linter.all false
set_option maxRecDepth 100000
set_option maxHeartbeats 4000000
/-! Items of lists and tuples alike; new lists by repetition. -/
namespace L2
open PySem PySem.Spec PyProof.Rows
open Evl (Ex)
section
variable {K : PySem.W.Frag} {Γ Γ' : List Sl} {te tb tc : TE} {ta : TA} {P : PyData → Prop} {ds : List PyData}
theorem ev_ixQ {m : Int} {d : PyData} (h : EvD K te Γ (fun d => d = .list ds ∨ d = .tuple ds)) (h2 : EvD K tb Γ (· = .int m)) (hd : atI ds m = some d) : EvD K (tOp (rIx K) te tb) Γ (· = d) := fun G σ H e i Q q =>
  h G σ H e i _ fun v d1 H1 i1 l1 p1 dq => h2 G σ H1 (e.le l1) i1 _ fun v2 d2 H2 i2 l2 p2 dq2 => by
    subst p2
    cases dq2
    rcases p1 with p1 | p1
    · subst p1
      cases dq with
      | lst hs ha =>
        obtain ⟨w, hw, dw⟩ := dq_atI ha hd
        exact .inl ⟨_, _, m, w, rfl, rfl, Fr.upL (exL l2 hs), hw, q w d H2 i2 (l1.trans l2) rfl (dw.ex l2)⟩
    · subst p1
      cases dq with
      | tup hs ha =>
        obtain ⟨w, hw, dw⟩ := dq_atI ha hd
        exact .inr (.inl ⟨_, _, m, w, rfl, rfl, Fr.upT (exT l2 hs), hw, q w d H2 i2 (l1.trans l2) rfl (dw.ex l2)⟩)
theorem ev_ixTm {m : Int} {d : PyData} (h : EvD K te Γ (· = .tuple ds)) (h2 : EvD K tb Γ (· = .int m)) (hd : atI ds m = some d) : EvD K (tOp (rIxT K) te tb) Γ (· = d) := fun G σ H e i Q q =>
  h G σ H e i _ fun v d1 H1 i1 l1 p1 dq => h2 G σ H1 (e.le l1) i1 _ fun v2 d2 H2 i2 l2 p2 dq2 => by
    subst p1; subst p2
    cases dq2
    cases dq with
    | tup hs ha =>
      obtain ⟨w, hw, dw⟩ := dq_atI ha hd
      exact ⟨_, _, m, w, rfl, rfl, Fr.upT (exT l2 hs), hw, q w d H2 i2 (l1.trans l2) rfl (dw.ex l2)⟩
theorem ev_eqI {a b : Int} (h : EvD K te Γ (· = .int a)) (h2 : EvD K tb Γ (· = .int b)) : EvD K (tOp rEq te tb) Γ (· = .bool (decide (a = b))) := fun G σ H ev iv Q q =>
  h G σ H ev iv _ fun v d H1 i1 l1 p1 dq => h2 G σ H1 (ev.le l1) i1 _ fun v2 d2 H2 i2 l2 p2 dq2 => by
    subst p1; subst p2
    cases dq; cases dq2
    have e : decide (V.int a = V.int b) = decide (a = b) := by simp
    exact ⟨rfl, q _ _ H2 i2 (l1.trans l2) (by rw [e]) (.bl _)⟩
theorem ev_tup2 {a b : PyData} (h : EvD K te Γ (· = a)) (h2 : EvD K tb Γ (· = b)) : EvD K (tTup (tCons te (tCons tb tNil))) Γ (· = .tuple [a, b]) := (ev_tup (elc h (elc h2 el_nil)) (fun ds e => by rw [e]; show 2 ≤ 100000; omega)).imp fun d ⟨ds, e1, e2⟩ => by rw [e1, e2]
theorem ev_tup3' {a b c : PyData} (h : EvD K te Γ (· = a)) (h2 : EvD K tb Γ (· = b)) (h3 : EvD K tc Γ (· = c)) : EvD K (tTup (tCons te (tCons tb (tCons tc tNil)))) Γ (· = .tuple [a, b, c]) := (ev_tup (elc h (elc h2 (elc h3 el_nil))) (fun ds e => by rw [e]; show 3 ≤ 100000; omega)).imp fun d ⟨ds, e1, e2⟩ => by rw [e1, e2]
/-- range(n) -/
theorem e0_rangeL {n : Nat} (hn : n < 100000) (h : EvL' K ta Γ (· = [.int (n : Nat)])) : EvI0 K (iRng1 ta) Γ (· = n) (fun i d => d = .int i) := e0_range1 (Nn := (· = n)) (fun G σ H e i Q q => h G σ H e i Q fun vs ss H' i' l' ⟨zs, e1, e2⟩ a => q vs ss H' i' l' ⟨n, rfl, by rw [e1, e2]; rfl⟩ a) fun m e => by omega
/-- range(a, b) -/
theorem e0_rangeAB {a b : Nat} (ha : a < 100000) (hb : b < 100000) (h : EvL' K ta Γ (· = [.int a, .int b])) : EvI0 K (iRng2 ta) Γ (· = b - a) (fun i d => d = .int ((a + i : Nat) : Int)) := fun G σ H ev iv R q =>
  h G σ H ev iv _ fun vs ss H1 iv1 l1 ⟨zs, e1, e2⟩ dqs => by
    subst e2; subst e1
    have dqs := args_dats dqs
    cases dqs with
    | cons h1 t1 =>
      cases t1 with
      | cons h2 t2 =>
        cases t2
        cases h1
        cases h2
        · refine ⟨(a : Nat), (b : Nat), rfl, ⟨by omega, by omega, by omega, by omega⟩, ?_⟩
          rw [show ((b : Int) - (a : Int)).toNat = b - a by omega]
          refine q (b - a) _ H1 rfl iv1 l1 fun G' H2 e iv2 => ⟨fun i hi => ⟨hi, fun y H3 ⟨e3, ey⟩ => ?_⟩, Nat.le_refl _⟩
          subst e3; subst ey
          exact ⟨iv2, .refl, _, rfl, by rw [show ((a : Nat) : Int) + (i : Nat) = ((a + i : Nat) : Int) by omega]; exact .int _⟩
/-- [d] * n, a list of its own -/
theorem en_repN {d : PyData} {n : Nat} (hn : n ≤ 1000) (h : EvN K te Γ (· = [d])) (h2 : EvD K tb Γ (· = .int n)) : EvN K (tOp rRep te tb) Γ (· = List.replicate n d) := fun G σ H ev iv Q q =>
  h G σ H ev iv _ fun l vs ds H1 i1 l1 e1 dq => by
    subst e1
    cases dq with
    | @cons v _ _ _ dq t =>
      cases t
      refine h2 _ σ H1 (ev.own l1) i1 _ fun v2 d2 H2 i2 l2 p2 dq2 => ?_
      subst p2
      cases dq2
      refine ⟨l, n, [v], rfl, rfl, Fr.own_at i2, by omega, by omega, by rw [sizeLine_eq]; simp only [List.length_singleton, Int.toNat_natCast]; omega, fun p hp => ?_⟩
      rw [Int.toNat_natCast, flat_rep]
      obtain ⟨i3, v3⟩ := Fr.own_new (G := G.own l (.lst [v])) (o := HO.lst (List.replicate n v)) i2 hp
      rw [own_comm] at i3 v3
      have ex : Ex ((G.own l (.lst [v])).view H2) ((G.own p (.lst (List.replicate n v))).view (upd H2 p (.lst (List.replicate n v)))) := by rw [← v3]; exact Fr.own_sub
      exact q p _ _ _ i3.1 (fun c u hc => ex c u (l2 c u (l1 c u hc))) rfl (dq_rep ((dq.ex l2).ex ex) n)
end
end L2

set_option Elab.async false
set_option linter.all false
set_option maxRecDepth 100000
set_option maxHeartbeats 4000000
/-! Places that are told by a meaning of their own: a tuple that is plain, an object one of whose fields is such a tuple. -/
namespace L2
open PySem PySem.Spec PyProof.Rows
open Evl (Ex)
/-- a plain tuple of the data ds -/
def PTup (K : PySem.W.Frag) (ds : List PyData) (H : Hp) (v : V) : Prop := ∃ a o vs, v = .ref a ∧ H a = some (.frz o (.tup vs)) ∧ o.dict = none ∧ DqAll K H vs ds
/-- an object whose field f is a plain tuple of the data ds -/
def InsP (K : PySem.W.Frag) (C : Addr) (fs : List (Str × PyData)) (f : Str) (ds : List PyData) (H : Hp) (v : V) : Prop := ∃ a dx vs, v = .ref a ∧ H a = some (.ins C dx vs) ∧ DqFs K H vs fs ∧ ∃ u, vs.lookup f = some u ∧ PTup K ds H u
def EvP (K : PySem.W.Frag) (te : TE) (Γ : List Sl) (ds : List PyData) : Prop := ∀ (G : Fr) (σ : L2.St) (H : Hp), EnvOk K G H σ Γ → G.inv H → ∀ Q : VK, (∀ v H', G.inv H' → G.le H H' → PTup K ds (G.view H') v → Q v H') → te σ H Q
def RetsP (K : PySem.W.Frag) (ts : TS) (Γ : List Sl) (ds : List PyData) : Prop := ∀ (G : Fr) (σ : L2.St) (H : Hp) (D : Ends), EnvOk K G H σ Γ → G.inv H → (∀ v H', G.inv H' → G.le H H' → PTup K ds (G.view H') v → D.rt v H') → ts D σ H
/-- a def that answers a plain tuple -/
def spPl (K : PySem.W.Frag) (pre : List PyData → Prop) (f : List PyData → List PyData) : Sp := fun vs H Q _ => ∃ (G : Fr) (ds : List PyData), G.inv H ∧ DqAll K (G.view H) vs ds ∧ pre ds ∧ ∀ v H', G.inv H' → G.le H H' → PTup K (f ds) (G.view H') v → Q v H'
section
variable {K : PySem.W.Frag} {Γ Γ' : List Sl} {te tb tc : TE} {ta : TA} {tt : TT} {ts tu : TS} {wi : TI} {g : TG} {i j : Nat} {ds : List PyData} {C : Addr} {f0 f1 : List (Str × PyData)} {P : PyData → Prop}
theorem PTup.ex {H H' : Hp} {v : V} (e : Ex H H') (h : PTup K ds H v) : PTup K ds H' v := let ⟨a, o, vs, e1, e2, e3, e4⟩ := h; ⟨a, o, vs, e1, e _ _ e2, e3, e4.ex e⟩
theorem PTup.dq {H : Hp} {v : V} (h : PTup K ds H v) : Dq K H v (.tuple ds) := by
  obtain ⟨a, o, vs, e1, e2, e3, e4⟩ := h
  subst e1
  exact .tup (.inl (.inr ⟨o, e2⟩)) e4
theorem PTup.sl {G : Fr} {H : Hp} {v : V} (h : PTup K ds (G.view H) v) : SlOk K G H v (.sem (PTup K ds)) := fun H' e => h.ex e
theorem ev_varP (h : Γ[i]? = some (.sem (PTup K ds))) : EvD K (tVar i) Γ (· = .tuple ds) := fun G σ H e i' Q q => by
  rcases e.2 i _ h with z | ⟨v, a, b⟩
  · cases z
  · exact ⟨v, a, q v _ H i' .refl rfl (b _ (Ex.refl _)).dq⟩
theorem ep_call {pre : List PyData → Prop} {f : List PyData → List PyData} {E : XK} (es : List PyData) (h : EvL' K ta Γ (· = es)) (hp : pre es) : EvP K (tCall (spPl K pre f) [] E ta) Γ (f es) := fun G σ H e i Q q =>
  h G σ H e i _ fun vs ss H1 i1 l1 ⟨zs, e1, e2⟩ dqs => by
    subst e2; subst e1
    rw [List.append_nil]
    exact ⟨G, zs, i1, args_dats dqs, hp, fun v H' i2 l2 z => q v H' i2 (l1.trans l2) z⟩
theorem EvP.cast {es : List PyData} (h : EvP K te Γ es) (e : es = ds) : EvP K te Γ ds := e ▸ h
theorem rp_if (h : EvB K tt Γ (· = false)) (h2 : RetsP K tu Γ ds) : RetsP K (tSeq (tIfS tt ts tNext) tu) Γ ds := fun G σ H D ev iv k =>
  h G σ H ev iv _ fun c H1 iv1 l1 e => by
    subst e
    exact h2 G σ H1 _ (ev.le l1) iv1 fun v H2 iv2 l2 p => k v H2 iv2 (l1.trans l2) p
theorem rp_build {vs : List Nat} {m : List (Str × PyData)} {Pi : Nat → PyData → Prop} {N : Nat → PyData → List Sl} {Ne : Nat → PyData → List Sl} {es : List PyData} (hm : m.length ≤ 100) (hjl : j < Γ.length)
    (hΓ : ∀ (q : Nat) s, q ≠ j → Γ[q]? = some s → s = .any ∨ ∃ z, s = .dat z) (hnew : ∀ i p, m[i]? = some p → (m.take i).lookup p.1 = none) (hjv : j ∉ vs)
    (hi : EvI0 K wi (Γ.set j (.odic [])) (· = m.length) Pi)
    (hg : ∀ i, TgOk K g vs (Γ.set j (.odic (m.take i))) (Pi i) (N i))
    (hb : ∀ i e p, Pi i e → m[i]? = some p → Puts K tu (N i e) j p.1 (· = p.2) (Ne i e))
    (hw : ∀ (i : Nat) e, Pi i e → Γ.length = (Ne i e).length ∧ ∀ (k : Nat) s, k ≠ j → Γ[k]? = some s → s = .any ∨ (Ne i e)[k]? = some s)
    (hc : EvD K tc (Γ.set j (.fdic m)) (· = .list es)) :
    RetsP K (tSeq (tAsg tDNewK (gName j)) (tSeq (tFor wi g tu) (tRet (tThen (tLockE tc) (kTupF K))))) Γ es := fun G σ H D ev iv k p hp => by
  have hgv : G.view H p = none := Fr.blank hp
  obtain ⟨iv1, vw1⟩ := Fr.own_new (G := G) (o := HO.dK []) iv hp
  have set_ne : ∀ {s : Sl} {q : Nat} {t : Sl}, q ≠ j → (Γ.set j s)[q]? = some t → Γ[q]? = some t := fun h e => by rwa [List.getElem?_set_ne (fun z => h z.symm)] at e
  have set_j : ∀ {s : Sl}, (Γ.set j s)[j]? = some s := List.getElem?_set_self hjl
  have hj1 : (σ.set j (some (.ref p)))[j]? = some (some (.ref p)) := List.getElem?_set_self (by rw [ev.1]; exact hjl)
  have ev1 : EnvOk K (G.own p (.dK [])) (upd H p (.dK [])) (σ.set j (some (.ref p))) (Γ.set j (.odic [])) :=
    (ev.own (l := p) (o := .dK []) (H' := upd H p (.dK [])) (by rw [vw1]; exact fun _ _ h => h)).set hjl ⟨p, [], rfl, fun H' i => Fr.own_at i, .nil⟩
  refine loop_put (Γl := fun m' => Γ.set j (.odic m')) hm (fun m' => set_j) hnew hjv hi hg hb (fun i e m' pe => ?_) (fun m' q s hq hs => hΓ q s hq (set_ne hq hs)) ev1 iv1 hj1 ?_
  · have h := hw i e pe
    exact ⟨by rw [List.length_set]; exact h.1, fun k s hk hs => h.2 k s hk (set_ne hk hs)⟩
  · intro σ' H' kvs iv2 e2 ev2 hj2 dk2
    refine ⟨p, .dK kvs, Fr.own_at iv2, trivial, fun od => ?_⟩
    have st := Fr.own_set (o' := .frz od (.dK kvs)) iv2
    have evf : EnvOk K (G.own p (.frz od (.dK kvs))) (upd H' p (.frz od (.dK kvs))) σ' (Γ.set j (.fdic m)) := by
      refine EnvOk.swap (j := j) (s := .fdic m) (v := .ref p) ev2 (by rw [st.2]; exact fun _ _ h => h) (by rw [List.length_set, List.length_set]) (fun q s hq hs => ?_) hj2 set_j ⟨p, od, kvs, rfl, fun H' i => Fr.own_at i, by rw [st.2]; exact dk2⟩
      rcases hΓ q s hq (set_ne hq hs) with e | ⟨z, e⟩
      · exact .inl e
      · exact .inr ⟨z, e, by rw [List.getElem?_set_ne (fun z => hq z.symm)]; exact set_ne hq hs⟩
    refine hc (G.own p (.frz od (.dK kvs))) σ' _ evf st.1 _ fun v d H3 iv3 l3 pd dq => ⟨Fr.own_at iv3, ?_⟩
    subst pd
    have st3 := Fr.own_set (o' := .dK kvs) iv3
    cases dq with
    | @lst aa xx _ hs ha =>
      have hs3 : SqL K ((G.own p (.dK kvs)).view (upd H3 p (.dK kvs))) aa xx := by rw [st3.2]; exact hs
      refine ⟨aa, xx, rfl, Fr.upL hs3, fun q o hq ho => ?_⟩
      obtain ⟨iv4, l4, h4⟩ := Fr.new (o := HO.frz o (HO.tup xx)) st3.1 hq
      have ha4 := ha.ex fun c u h => l4 c u (by rw [st3.2]; exact h)
      refine k _ _ iv4.1 (Fr.own_le (l := p) (o := .dK kvs) hgv fun c u h => l4 c u (by rw [st3.2]; exact l3 c u (by rw [st.2]; exact e2 c u (by rw [vw1]; exact h)))) ⟨_, o, _, rfl, Fr.own_sub _ _ h4, ho, ha4.ex Fr.own_sub⟩
theorem doneSP {G : Fr} {H : Hp} {vs : List V} {es : List PyData} {D : Ends} {N : List Str} (n : Nat) (hs : L2.start N vs = vs.map some ++ List.replicate n none) (h : RetsP K ts (es.map .dat ++ List.replicate n .any) ds) (iv : G.inv H) (a : DqAll K (G.view H) vs es)
    (k : ∀ v H', G.inv H' → G.le H H' → PTup K ds (G.view H') v → D.rt v H') : ts D (L2.start N vs) H :=
  h G _ H D (envStart n hs a) iv k
/-! ### an __init__ one of whose fields is such a tuple -/
def Zf (K : PySem.W.Frag) (z : Option (Str × List PyData)) (H : Hp) (vs : List (Str × V)) : Prop := ∀ f ds, z = some (f, ds) → ∃ u, vs.lookup f = some u ∧ PTup K ds H u
theorem Zf.ex {z : Option (Str × List PyData)} {H H' : Hp} {vs : List (Str × V)} (e : Ex H H') (h : Zf K z H vs) : Zf K z H' vs := fun f ds q => let ⟨u, h1, h2⟩ := h f ds q; ⟨u, h1, h2.ex e⟩
theorem lookup_app {f g : Str} {u v : V} : ∀ {vs : List (Str × V)}, vs.lookup f = some u → (vs ++ [(g, v)]).lookup f = some u
  | [], h => by cases h
  | (e, w) :: vs, h => by
    rw [List.cons_append, List.lookup_cons] at *
    cases z : (f == e) with
    | true => rw [z] at h; exact h
    | false => rw [z] at h; exact lookup_app h
theorem lookup_last {f : Str} {v : V} : ∀ {vs : List (Str × V)}, vs.lookup f = none → (vs ++ [(f, v)]).lookup f = some v
  | [], h => by rw [List.nil_append, List.lookup_cons, beq_self_eq_true]
  | (e, w) :: vs, h => by
    rw [List.cons_append, List.lookup_cons] at *
    cases z : (f == e) with
    | true => rw [z] at h; cases h
    | false => rw [z] at h; exact lookup_last h
def Inits2 (K : PySem.W.Frag) (C : Addr) (ts : TS) (Γ : List Sl) (j : Nat) (f0 : List (Str × PyData)) (z0 : Option (Str × List PyData)) (f1 : List (Str × PyData)) (z1 : Option (Str × List PyData)) : Prop := ∀ (G : Fr) (σ : L2.St) (H : Hp) (D : Ends) (x dx : Addr) (vs : List (Str × V)), EnvOk K (G.own x (.ins C dx vs)) H σ Γ → (G.own x (.ins C dx vs)).inv H → σ[j]? = some (some (.ref x)) → DqFs K ((G.own x (.ins C dx vs)).view H) vs f0 → Zf K z0 ((G.own x (.ins C dx vs)).view H) vs →
  (∀ σ' H' us, (G.own x (.ins C dx us)).inv H' → Ex ((G.own x (.ins C dx vs)).view H) ((G.own x (.ins C dx us)).view H') → DqFs K ((G.own x (.ins C dx us)).view H') us f1 → Zf K z1 ((G.own x (.ins C dx us)).view H') us → D.nx σ' H') → ts D σ H
variable {z0 z1 : Option (Str × List PyData)}
theorem i2_if (h : EvB K tt Γ (· = false)) (h2 : Inits2 K C tu Γ j f0 z0 f1 z1) : Inits2 K C (tSeq (tIfS tt ts tNext) tu) Γ j f0 z0 f1 z1 := fun G σ H D x dx vs ev iv hj hf hz k =>
  h _ σ H ev iv _ fun b H1 i1 l1 e => by
    subst e
    exact h2 G σ H1 _ x dx vs (ev.le l1) i1 hj (hf.ex l1) (hz.ex l1) fun σ' H' us i' e' => k σ' H' us i' fun c u h => e' c u (l1 c u h)
theorem i2_set {d : PyData} (hi : i < Γ.length) (hij : i ≠ j) (h : EvD K te Γ (· = d)) (h2 : Inits2 K C tu (Γ.set i (.dat d)) j f0 z0 f1 z1) : Inits2 K C (tSeq (tAsg te (gName i)) tu) Γ j f0 z0 f1 z1 := fun G σ H D x dx vs ev iv hj hf hz k =>
  h _ σ H ev iv _ fun v e H1 i1 l1 p1 dq => by
    subst p1
    exact h2 G _ H1 _ x dx vs ((ev.le l1).set hi dq) i1 (by rw [List.getElem?_set_ne hij]; exact hj) (hf.ex l1) (hz.ex l1) fun σ' H' us i' e' => k σ' H' us i' fun c u h => e' c u (l1 c u h)
theorem i2_setP (hi : i < Γ.length) (hij : i ≠ j) (h : EvP K te Γ ds) (h2 : Inits2 K C tu (Γ.set i (.sem (PTup K ds))) j f0 z0 f1 z1) : Inits2 K C (tSeq (tAsg te (gName i)) tu) Γ j f0 z0 f1 z1 := fun G σ H D x dx vs ev iv hj hf hz k =>
  h _ σ H ev iv _ fun v H1 i1 l1 p1 => h2 G _ H1 _ x dx vs ((ev.le l1).set hi p1.sl) i1 (by rw [List.getElem?_set_ne hij]; exact hj) (hf.ex l1) (hz.ex l1) fun σ' H' us i' e' => k σ' H' us i' fun c u h => e' c u (l1 c u h)
theorem fld_step2 {f : Str} {d : PyData} {s : Sl} (hc : Cls K C) (hn : NoAttr K C f) (hi : Γ[i]? = some s) (hs : s = .dat d ∨ ∃ es, s = .sem (PTup K es) ∧ d = .tuple es) (hnew : f0.lookup f = none) (hlen : f0.length < 100) (hΓ : ∀ (q : Nat) s, q ≠ j → Γ[q]? = some s → okS s = true) (hjΓ : Γ[j]? = some .any)
    {G : Fr} {σ : L2.St} {H : Hp} {D : Ends} {x dx : Addr} {vs : List (Str × V)} (ev : EnvOk K (G.own x (.ins C dx vs)) H σ Γ) (iv : (G.own x (.ins C dx vs)).inv H) (hj : σ[j]? = some (some (.ref x))) (hf : DqFs K ((G.own x (.ins C dx vs)).view H) vs f0)
    (k : ∀ v, vs.lookup f = none → SlOk K (G.own x (.ins C dx vs)) H v s → EnvOk K (G.own x (.ins C dx (vs ++ [(f, v)]))) (upd H x (.ins C dx (vs ++ [(f, v)]))) σ Γ → (G.own x (.ins C dx (vs ++ [(f, v)]))).inv (upd H x (.ins C dx (vs ++ [(f, v)]))) → (G.own x (.ins C dx (vs ++ [(f, v)]))).view (upd H x (.ins C dx (vs ++ [(f, v)]))) = (G.own x (.ins C dx vs)).view H → DqFs K ((G.own x (.ins C dx (vs ++ [(f, v)]))).view (upd H x (.ins C dx (vs ++ [(f, v)])))) (vs ++ [(f, v)]) (f0 ++ [(f, d)]) → D.nx σ (upd H x (.ins C dx (vs ++ [(f, v)])))) :
    sFld K (tVar j) (tVar i) f D σ H := by
  have ne : s ≠ .any := fun z => by
    rcases hs with h | ⟨es, h, _⟩
    · rw [z] at h; cases h
    · rw [z] at h; cases h
  rcases ev.2 i _ hi with z | ⟨v, hv, sv⟩
  · exact absurd z ne
  have dv : Dq K ((G.own x (.ins C dx vs)).view H) v d := by
    rcases hs with h | ⟨es, h, e⟩
    · subst h; exact sv
    · subst h; subst e; exact (sv _ (Ex.refl _)).dq
  have hn2 := hf.none hnew
  refine ⟨v, hv, _, hj, x, C, dx, vs, rfl, Fr.own_at iv, hc, hn, by omega, ?_⟩
  rw [putF_new hn2.1]
  have st := Fr.own_set (o' := .ins C dx (vs ++ [(f, v)])) iv
  refine k v hn2.1 sv (EnvOk.swapS (j := j) (s := .any) (v := .ref x) ev (by rw [st.2]; exact fun _ _ h => h) rfl (fun q s hq hs => .inr ⟨hΓ q s hq hs, hs⟩) hj hjΓ trivial) st.1 st.2 (by rw [st.2]; exact hf.append dv)
theorem i2_fld {f : Str} {d : PyData} (hc : Cls K C) (hn : NoAttr K C f) (hi : Γ[i]? = some (.dat d)) (hnew : f0.lookup f = none) (hlen : f0.length < 100) (hΓ : ∀ (q : Nat) s, q ≠ j → Γ[q]? = some s → okS s = true) (hjΓ : Γ[j]? = some .any)
    (h2 : Inits2 K C tu Γ j (f0 ++ [(f, d)]) z0 f1 z1) : Inits2 K C (tSeq (sFld K (tVar j) (tVar i) f) tu) Γ j f0 z0 f1 z1 := fun G σ H D x dx vs ev iv hj hf hz k =>
  fld_step2 hc hn hi (.inl rfl) hnew hlen hΓ hjΓ ev iv hj hf fun v hno sv ev' iv' vw' hf' => h2 G σ _ _ x dx _ ev' iv' hj hf' (fun g es q => by
    obtain ⟨u, h1, h3⟩ := hz g es q
    exact ⟨u, lookup_app h1, by rw [vw']; exact h3⟩) fun σ' H' us' i' e' => k σ' H' us' i' fun c u h => e' c u (by rw [vw']; exact h)
theorem i2_fldP {f : Str} (hc : Cls K C) (hn : NoAttr K C f) (hi : Γ[i]? = some (.sem (PTup K ds))) (hnew : f0.lookup f = none) (hlen : f0.length < 100) (hΓ : ∀ (q : Nat) s, q ≠ j → Γ[q]? = some s → okS s = true) (hjΓ : Γ[j]? = some .any)
    (h2 : Inits2 K C tu Γ j (f0 ++ [(f, .tuple ds)]) (some (f, ds)) f1 z1) : Inits2 K C (tSeq (sFld K (tVar j) (tVar i) f) tu) Γ j f0 z0 f1 z1 := fun G σ H D x dx vs ev iv hj hf hz k =>
  fld_step2 hc hn hi (.inr ⟨ds, rfl, rfl⟩) hnew hlen hΓ hjΓ ev iv hj hf fun v hno sv ev' iv' vw' hf' => h2 G σ _ _ x dx _ ev' iv' hj hf' (fun g es q => by
    cases q
    exact ⟨v, lookup_last hno, by rw [vw']; exact sv _ (Ex.refl _)⟩) fun σ' H' us' i' e' => k σ' H' us' i' fun c u h => e' c u (by rw [vw']; exact h)
theorem i2_last {f : Str} {d : PyData} (hc : Cls K C) (hn : NoAttr K C f) (hi : Γ[i]? = some (.dat d)) (hnew : f0.lookup f = none) (hlen : f0.length < 100) (hΓ : ∀ (q : Nat) s, q ≠ j → Γ[q]? = some s → okS s = true) (hjΓ : Γ[j]? = some .any) :
    Inits2 K C (sFld K (tVar j) (tVar i) f) Γ j f0 z0 (f0 ++ [(f, d)]) z0 := fun G σ H D x dx vs ev iv hj hf hz k =>
  fld_step2 hc hn hi (.inl rfl) hnew hlen hΓ hjΓ ev iv hj hf fun v hno sv ev' iv' vw' hf' => k σ _ _ iv' (by rw [vw']; exact fun _ _ h => h) hf' fun g es q => by
    obtain ⟨u, h1, h3⟩ := hz g es q
    exact ⟨u, lookup_app h1, by rw [vw']; exact h3⟩
/-- what such an __init__ promises -/
def spInitP (K : PySem.W.Frag) (C : Addr) (pre : List PyData → Prop) (fields : List PyData → List (Str × PyData)) (f : Str) (g : List PyData → List PyData) : Sp := fun vs H Q _ => ∃ (G : Fr) (x dx : Addr) (ws : List V) (ds : List PyData), vs = .ref x :: ws ∧ (G.own x (.ins C dx [])).inv H ∧ DqAll K ((G.own x (.ins C dx [])).view H) ws ds ∧ pre ds ∧
  ∀ H' us, (G.own x (.ins C dx us)).inv H' → Ex ((G.own x (.ins C dx [])).view H) ((G.own x (.ins C dx us)).view H') → DqFs K ((G.own x (.ins C dx us)).view H') us (fields ds) → Zf K (some (f, g ds)) ((G.own x (.ins C dx us)).view H') us → Q .non H'
theorem ev_makeP {pre : List PyData → Prop} {fields : List PyData → List (Str × PyData)} {f : Str} {g : List PyData → List PyData} {E : XK} (ds : List PyData) (h : EvL' K ta Γ (· = ds)) (hp : pre ds) : EvV K (tMake C (spInitP K C pre fields f g) [] E ta) Γ (.sem (InsP K C (fields ds) f (g ds))) := fun G σ H ev iv Q q =>
  h G σ H ev iv _ fun vs ss H1 i1 l1 ⟨es, e1, e2⟩ dqs x dx hx hdx hne => by
    subst e2; subst e1
    have dqs := args_dats dqs
    obtain ⟨i2, l2, _⟩ := Fr.new (o := HO.own x) i1 hdx
    have hx2 : upd H1 dx (HO.own x) x = none := by rw [upd_ne (Ne.symm hne)]; exact hx
    obtain ⟨i3, v3⟩ := Fr.own_new (G := G) (o := HO.ins C dx []) i2 hx2
    rw [List.append_nil]
    refine ⟨G, x, dx, vs, es, rfl, i3, by rw [v3]; exact dqs.ex l2, hp, fun H' us i' e' f' z' => ⟨rfl, q (.ref x) H' i'.1 ?_ fun H2 e2 => ⟨x, dx, us, rfl, e2 _ _ i'.2, (f'.ex Fr.own_sub).ex e2, ?_⟩⟩⟩
    · refine (l1.trans l2).trans fun c u hc => (hide_some (e' c u ?_)).2
      rw [v3]
      exact hc
    · obtain ⟨u, h1, h2⟩ := z' _ _ rfl
      exact ⟨u, h1, (h2.ex Fr.own_sub).ex e2⟩
/-- such an object is an object -/
theorem InsP.ins {G : Fr} {H : Hp} {v : V} {fs : List (Str × PyData)} {f : Str} (h : SlOk K G H v (.sem (InsP K C fs f ds))) : SlOk K G H v (.ins C fs) := let ⟨a, dx, vs, e1, e2, e3, _⟩ := h _ (Ex.refl _); ⟨a, dx, vs, e1, e2, e3⟩
theorem es_lower {fs : List (Str × PyData)} {f : Str} {PS : List Sl → Prop} (h : Γ[i]? = some (.sem (InsP K C fs f ds))) (t : EvS K ta Γ PS) : EvS K (tCons (tVar i) ta) Γ (fun ss => ∃ r, ss = .ins C fs :: r ∧ PS r) := fun G σ H e i' Q q => by
  rcases e.2 i _ h with z | ⟨v, a, b⟩
  · cases z
  · exact ⟨v, a, t G σ H e i' _ fun vs ss H2 i2 l2 p2 dqs => q (v :: vs) (.ins C fs :: ss) H2 i2 l2 ⟨ss, rfl, p2⟩ (.cons ((InsP.ins b).le l2) dqs)⟩
/-- dict(o.f) of such an object's plain tuple of pairs -/
theorem ev_dictP {fs : List (Str × PyData)} {f : Str} {m : List (Str × PyData)} (hc : Cls K C) (hf : NoAttr K C f) (hi : Γ[i]? = some (.sem (InsP K C fs f (m.map fun p => .tuple [.str p.1, p.2])))) (hn : (m.map (·.1)).Nodup) :
    EvD K (tCB (rDictT K) (tCons (tFld K (tVar i) f) tNil)) Γ (· = dictD m) := fun G σ H ev iv Q q => by
  rcases ev.2 i _ hi with z | ⟨x, hx, b⟩
  · cases z
  obtain ⟨a, dx, vs, ex, h1, h2, u, hu, c, o, xs, e1, e2, e3, e4⟩ := b _ (Ex.refl _)
  subst ex
  subst e1
  refine ⟨_, hx, a, C, dx, vs, _, rfl, G.sub h1, hc, hf, hu, ?_⟩
  obtain ⟨ps, kvs, f1, f2, f3, f4⟩ := pairsQ_of e4
  subst f1
  refine ⟨c, o, ps, kvs, rfl, G.sub e2, e3, paired_mono (fun _ _ h => Fr.upT h) f2, fun p hp => ?_⟩
  have hm : mergeK [] kvs = kvs := by
    rw [mergeK_new kvs [] ?_]
    · rfl
    · rw [List.nil_append, f4]
      have : (m.map fun p => (Sum.inr p.1 : Key)) = (m.map (·.1)).map Sum.inr := by rw [List.map_map]; rfl
      rw [this]
      exact List.Pairwise.map _ (fun a b h e => h (by injection e)) hn
  rw [hm]
  obtain ⟨i2, l2, g2⟩ := Fr.new (o := HO.dK kvs) iv hp
  exact q _ _ _ i2 l2 rfl (.dic g2 (f3.ex l2))
/-- [e for .. in ..], a new list of known items -/
theorem en_lcI {vs : List Nat} {Pi : Nat → PyData → Prop} {N : PyData → List Sl} {es : List PyData} (hn : es.length < 100000) (hi : EvI K wi Γ (· = es.length) Pi) (hg : ∀ i, TgOk K g vs (wipeΓ Γ vs) (Pi i) N) (he : ∀ i d e, Pi i d → es[i]? = some e → EvD K te (N d) (· = e)) :
    EvN K (tLc wi g tYes te vs) Γ (· = es) := by
  have hi' : EvI K wi Γ (· = es.length) (fun i d => i < es.length ∧ Pi i d) := fun G σ H ev iv R q => hi G σ H ev iv R fun n J H' hn i' l' w => q n J H' hn i' l' fun G' H2 hG e2 i2 => by
    subst hn
    have w2 := w G' H2 hG e2 i2
    refine ⟨fun i h => ⟨(w2.1 i h).1, fun x H3 hy => ?_⟩, w2.2⟩
    obtain ⟨a, b, d, pd, dq⟩ := (w2.1 i h).2 x H3 hy
    exact ⟨a, b, d, ⟨h, pd⟩, dq⟩
  have key := en_lc (R := fun i d e => ∀ x, es[i]? = some x → e = x) (fun n e => by rw [e]; exact hn) hi' (fun i G σ H x d ev iv pd => hg i G σ H x d ev iv pd.2) fun i d pd => (he i d es[i] pd.2 (List.getElem?_eq_getElem pd.1)).imp fun e h y hy => by
    rw [List.getElem?_eq_getElem pd.1] at hy
    cases hy
    exact h
  exact fun G σ H ev iv Q q => key G σ H ev iv Q fun l vs ds H' i' l' ⟨hl, hR⟩ dqs => q l vs ds H' i' l' (List.ext_getElem? fun i => by
    by_cases hlt : i < ds.length
    · obtain ⟨d, _, h2⟩ := hR i _ (List.getElem?_eq_getElem hlt)
      have hx : es[i]? = some es[i] := List.getElem?_eq_getElem (by omega)
      rw [hx, List.getElem?_eq_getElem hlt, h2 _ hx]
    · rw [List.getElem?_eq_none (by omega), List.getElem?_eq_none (by omega)]) dqs
/-- in a block that owns: such an object is an object from now on -/
theorem b_lower {M B C' : List Sl → Prop} {R : Rv → Prop} {fs : List (Str × PyData)} {f : Str} (hi : Γ[i]? = some (.sem (InsP K C fs f ds))) (h : Bk K ts (Γ.set i (.ins C fs)) M R B C') : Bk K ts Γ M R B C' := fun G S σ H D ev k1 k2 k3 k4 => by
  have hil : i < Γ.length := (List.getElem?_eq_some_iff.mp hi).1
  refine h G S σ H D ⟨ev.ok, ev.inv, by rw [List.length_set]; exact ev.len, fun j t hj => ?_, fun p q s t a hpq hp hq o1 o2 => ?_⟩ k1 k2 k3 k4
  · by_cases z : i = j
    · subst z
      rw [List.getElem?_set_self hil] at hj
      cases hj
      rcases ev.sl i _ hi with z | ⟨v, hv, b⟩
      · cases z
      · obtain ⟨a, dx, vs, e1, e2, e3, _⟩ := b _ (Ex.refl _)
        exact .inr ⟨v, hv, a, dx, vs, e1, e2, e3⟩
    · rw [List.getElem?_set_ne z] at hj
      exact ev.sl j t hj
  · have hp' : Γ[p]? = some s := by
      by_cases z : i = p
      · subst z
        rw [List.getElem?_set_self hil] at hp
        cases hp
        cases o1
      · rwa [List.getElem?_set_ne z] at hp
    have hq' : Γ[q]? = some t := by
      by_cases z : i = q
      · subst z
        rw [List.getElem?_set_self hil] at hq
        cases hq
        cases o2
      · rwa [List.getElem?_set_ne z] at hq
    exact ev.ne p q s t a hpq hp' hq' o1 o2
end
end L2

set_option Elab.async false
set_option linter.all false
set_option maxRecDepth 100000
set_option maxHeartbeats 4000000
/-! Blocks over places that own lists, which may raise one class of two fields: what is owned is given back. -/
namespace L2
open PySem PySem.Spec PyProof.Rows
open Evl (Ex)
def ExB (K : PySem.W.Frag) (G : Fr) (S : OS) (H : Hp) (Cx : Addr) (E : XK) (f g : Str) (PX : PyData → PyData → Prop) : Prop := ∀ (dx : Addr) (H' : Hp) (x y : V) (p i : PyData), G.inv H' → Ex ((G.owns S).view H) (G.view H') → PX p i → Dq K (G.view H') x p → Dq K (G.view H') y i → G.view H' dx = some (.xd [(g, y), (f, x)]) → E (.ref Cx) (some dx) H'
theorem ExB.le {K : PySem.W.Frag} {G : Fr} {S S' : OS} {H H' : Hp} {Cx : Addr} {E : XK} {f g : Str} {PX PY : PyData → PyData → Prop} (h : ExB K G S H Cx E f g PX) (e : Ex ((G.owns S).view H) ((G.owns S').view H')) (hp : ∀ p i, PY p i → PX p i) : ExB K G S' H' Cx E f g PY := fun dx H2 x y p i a l c => h dx H2 x y p i a (L2.ext e l) (hp p i c)
def BkX (K : PySem.W.Frag) (Cx : Addr) (E : XK) (f g : Str) (ts : TS) (Γ : List Sl) (M : List Sl → Prop) (R : Rv → Prop) (B C : List Sl → Prop) (PX : PyData → PyData → Prop) : Prop := ∀ (G : Fr) (S : OS) (σ : L2.St) (H : Hp) (D : Ends), EnvB K G S H σ Γ →
  (∀ σ' H' S' Γ', Ex ((G.owns S).view H) ((G.owns S').view H') → EnvB K G S' H' σ' Γ' → M Γ' → D.nx σ' H') →
  (∀ v r H' S', Ex ((G.owns S).view H) ((G.owns S').view H') → S'.ok → (G.owns S').inv H' → R r → RvOk K G S' H' v r → D.rt v H') →
  (∀ σ' H' S' Γ', Ex ((G.owns S).view H) ((G.owns S').view H') → EnvB K G S' H' σ' Γ' → B Γ' → D.bk σ' H') →
  (∀ σ' H' S' Γ', Ex ((G.owns S).view H) ((G.owns S').view H') → EnvB K G S' H' σ' Γ' → C Γ' → D.ct σ' H') → ExB K G S H Cx E f g PX → ts D σ H
section
variable {K : PySem.W.Frag} {Cx : Addr} {E : XK} {f g' : Str} {Γ Γ' Γ2 : List Sl} {ts tu : TS} {tt : TT} {te tb : TE} {ta : TA} {wi : TI} {g : TG} {M M' B C : List Sl → Prop} {R R' : Rv → Prop} {P : PyData → Prop} {PX PY : PyData → PyData → Prop} {i j : Nat}
theorem bx_of (h : Bk K ts Γ M R B C) : BkX K Cx E f g' ts Γ M R B C PX := fun G S σ H D ev k1 k2 k3 k4 _ => h G S σ H D ev k1 k2 k3 k4
theorem bx_seq (h : BkX K Cx E f g' ts Γ M' R B C PX) (h2 : ∀ Γ', M' Γ' → BkX K Cx E f g' tu Γ' M R B C PX) : BkX K Cx E f g' (tSeq ts tu) Γ M R B C PX := fun G S σ H D ev k1 k2 k3 k4 kx =>
  h G S σ H { D with nx := tu D } ev (fun σ1 H1 S1 Γ1 e1 ev1 m1 => h2 Γ1 m1 G S1 σ1 H1 D ev1 (fun σ' H' S' Γ' e => k1 σ' H' S' Γ' (L2.ext e1 e)) (fun v r H' S' e => k2 v r H' S' (L2.ext e1 e)) (fun σ' H' S' Γ' e => k3 σ' H' S' Γ' (L2.ext e1 e)) (fun σ' H' S' Γ' e => k4 σ' H' S' Γ' (L2.ext e1 e)) (kx.le e1 fun _ _ h => h)) k2 k3 k4 kx
theorem bx_w (w : W Γ Γ') (h : BkX K Cx E f g' ts Γ' M R B C PX) : BkX K Cx E f g' ts Γ M R B C PX := fun G S σ H D ev => h G S σ H D (ev.weak w)
theorem bx_if {b : Bool} (h : EvB K tt (rel Γ) (· = b)) (h1 : b = true → BkX K Cx E f g' ts Γ M R B C PX) (h2 : b = false → BkX K Cx E f g' tu Γ M R B C PX) : BkX K Cx E f g' (tIfS tt ts tu) Γ M R B C PX := fun G S σ H D ev k1 k2 k3 k4 kx =>
  h G σ H ev.out ev.inv.1 _ fun c H1 i1 l1 pb => by
    subst pb
    have ev1 := ev.le0 i1 l1
    have lr := le_rel ev.inv l1
    have go : ∀ {t : TS}, BkX K Cx E f g' t Γ M R B C PX → t D σ H1 := fun h => h G S σ H1 D ev1 (fun σ' H' S' Γ' e => k1 σ' H' S' Γ' (L2.ext lr e)) (fun v r H' S' e => k2 v r H' S' (L2.ext lr e)) (fun σ' H' S' Γ' e => k3 σ' H' S' Γ' (L2.ext lr e)) (fun σ' H' S' Γ' e => k4 σ' H' S' Γ' (L2.ext lr e)) (kx.le lr fun _ _ h => h)
    cases c with
    | true => exact go (h1 rfl)
    | false => exact go (h2 rfl)
/-- raise C(p, i) -/
theorem bx_raise (h : EvL' K ta (rel Γ) (fun ds => ∃ p i, ds = [p, i] ∧ PX p i)) : BkX K Cx E f g' (fun _ σ H => tMkO Cx (spI2 Cx f g') [] ta σ H fun cls d H' => E cls d H') Γ M R B C PX := fun G S σ H D ev k1 k2 k3 k4 kx =>
  h G σ H ev.out ev.inv.1 _ fun vs ss H1 i1 l1 ⟨ds, e1, p, i, e2, px⟩ dqs => by
    subst e1
    subst e2
    have dqs := args_dats dqs
    cases dqs with
    | @cons x _ _ _ q1 t1 =>
      cases t1 with
      | @cons y _ _ _ q2 t2 =>
        cases t2
        refine ⟨by show 2 ≤ 1000; decide, fun a ha => ⟨a, x, y, rfl, upd_same, fun dx hdx hne => ⟨rfl, dx, [(g', y), (f, x)], by rw [upd_ne (Ne.symm hne)]; exact upd_same, upd_same, by rwa [upd_ne hne] at hdx, ?_⟩⟩⟩
        have hdx1 : H1 dx = none := by rwa [upd_ne hne] at hdx
        have e : upd (del (upd (upd (upd (upd H1 a (exo a Cx none)) dx (exd dx [(f, x)])) a (exo a Cx (some dx))) dx (exd dx [(g', y), (f, x)])) a) dx (.xd [(g', y), (f, x)]) = upd H1 dx (.xd [(g', y), (f, x)]) := by
          funext b
          by_cases hb : b = dx
          · subst hb; rw [upd_same, upd_same]
          · rw [upd_ne hb, upd_ne hb]
            by_cases hb2 : b = a
            · subst hb2; rw [del_same, ha]
            · rw [del_ne hb2, upd_ne hb, upd_ne hb2, upd_ne hb, upd_ne hb2]
        show E _ _ _
        rw [e]
        obtain ⟨i2, l2, v2⟩ := Fr.new (o := .xd [(g', y), (f, x)]) i1 hdx1
        exact kx dx _ x y p i i2 (L2.ext owns_sub (L2.ext l1 l2)) px (q1.ex l2) (q2.ex l2) v2
/-- x = f(..), f may raise -/
theorem bx_call {pre : List PyData → Res → Prop} (ds : List PyData) (r : Res) (hi : i < Γ.length) (h : EvL' K ta Γ (· = ds)) (hp : pre ds r) (hx : ∀ p i, r = .inr (p, i) → PX p i) (h2 : ∀ d, r = .inl d → M (Γ.set i (.dat d))) :
    BkX K Cx E f g' (tAsg (tCall (spX K Cx f g' pre) [] E ta) (gName i)) Γ M R B C PX := fun G S σ H D ev k1 k2 k3 k4 kx =>
  h (G.owns S) σ H ev.in ev.inv _ fun vs ss H1 i1 l1 ⟨es, e1, e2⟩ dqs => by
    subst e1
    subst e2
    rw [List.append_nil]
    refine ⟨G.owns S, es, r, i1, args_dats dqs, hp, fun v d H2 i2 l2 pv dq => ?_, fun dx H2 x y p i a l c d1 d2 z => kx dx H2 x y p i a.1 (L2.ext l1 (L2.ext l owns_sub)) (hx p i c) (d1.ex owns_sub) (d2.ex owns_sub) (owns_sub _ _ z)⟩
    exact k1 _ H2 S _ (L2.ext l1 l2) ((ev.le1 i2 (L2.ext l1 l2)).set (s := .dat d) hi rfl dq) (h2 d pv)
theorem bx_for {I : Nat → List Sl → Prop} {n : Nat} {Pi : Nat → PyData → Prop} {N : Nat → List Sl → PyData → List Sl} (hi : EvI0 K wi Γ (· = n) Pi) (h0 : I 0 Γ) (hg : ∀ i Γ', i < n → I i Γ' → TgB K g Γ' (Pi i) (N i Γ'))
    (hb : ∀ i Γ' d, i < n → I i Γ' → Pi i d → BkX K Cx E f g' tu (N i Γ' d) (fun Γ2 => ∃ Γ3, W Γ2 Γ3 ∧ I (i + 1) Γ3) R M (fun Γ2 => ∃ Γ3, W Γ2 Γ3 ∧ I (i + 1) Γ3) PX) (hn : ∀ Γ', I n Γ' → M Γ') : BkX K Cx E f g' (tFor wi g tu) Γ M R B C PX := fun G S σ H D ev k1 k2 k3 k4 kx => by
  refine hi (G.owns S) σ H ev.in ev.inv _ fun n' J H1 e1 iv1 l1 w => ?_
  subst e1
  let Iv : Nat → L2.St → Hp → Prop := fun i σ' H' => ∃ S' Γ', Ex ((G.owns S).view H1) ((G.owns S').view H') ∧ EnvB K G S' H' σ' Γ' ∧ I i Γ'
  refine ⟨fun i c σ' H' => c = n' - i ∧ i ≤ n' ∧ Iv i σ' H', ⟨n', by simp, Nat.zero_le _, S, Γ, fun _ _ h => h, ev.le1 iv1 l1, h0⟩, ?_⟩
  rintro i c σ2 H2 ⟨rfl, hle, S2, Γ2, e2, ev2, ii⟩
  have w2 := w (G.owns S2) H2 e2 ev2.inv
  by_cases hlt : i < n'
  · refine .inr ⟨(w2.1 i hlt).1, fun σ' H' => i + 1 ≤ n' ∧ Iv (i + 1) σ' H', fun σ' H' h' => ⟨n' - (i + 1), by omega, rfl, h'⟩, fun x H3 hy => ?_⟩
    obtain ⟨iv3, l3, d, pd, dq⟩ := (w2.1 i hlt).2 x H3 hy
    refine hg i Γ2 hlt ii G S2 σ2 H3 x d (ev2.le1 iv3 l3) pd dq _ fun σ3 ev3 => ?_
    have en : Ex ((G.owns S).view H1) ((G.owns S2).view H3) := L2.ext e2 l3
    have go : ∀ σ' H' S' Γ', Ex ((G.owns S2).view H3) ((G.owns S').view H') → EnvB K G S' H' σ' Γ' → (∃ Γ3, W Γ' Γ3 ∧ I (i + 1) Γ3) → i + 1 ≤ n' ∧ Iv (i + 1) σ' H' := fun σ' H' S' Γ' e' ev' ⟨Γ3, w3, i3⟩ => ⟨hlt, S', Γ3, L2.ext en e', ev'.weak w3, i3⟩
    exact hb i Γ2 d hlt ii pd G S2 σ3 H3 _ ev3 go (fun v r H' S' e' => k2 v r H' S' (L2.ext l1 (L2.ext en e'))) (fun σ' H' S' Γ' e' ev' m => k1 σ' H' S' Γ' (L2.ext l1 (L2.ext en e')) ev' m) go (kx.le (L2.ext l1 en) fun _ _ h => h)
  · obtain rfl : i = n' := by omega
    exact .inl ⟨w2.2, k1 σ2 H2 S2 Γ2 (L2.ext l1 e2) ev2 (hn Γ2 ii)⟩
theorem isA_dats (ds : List PyData) : (ds.map Sl.dat).all isA = true := List.all_eq_true.mpr fun s h => by
  obtain ⟨d, _, e⟩ := List.mem_map.mp h
  subst e
  rfl
theorem doneBX {G : Fr} {H : Hp} {vs : List V} {ds : List PyData} {D : Ends} {N : List Str} (n : Nat) (hs : L2.start N vs = vs.map some ++ List.replicate n none) (h : BkX K Cx E f g' ts (ds.map .dat ++ List.replicate n .any) NoB (RD P) NoB NoB PX) (iv : G.inv H) (a : DqAll K (G.view H) vs ds)
    (k : ∀ v d H', G.inv H' → G.le H H' → P d → Dq K (G.view H') v d → D.rt v H') (kx : ExR K G Cx E f g' PX H) : ts D (L2.start N vs) H := by
  rw [hs]
  refine h G OS.nil _ H D (envStartB n (isA_dats ds) iv (argsOf a)) (fun _ _ _ _ _ _ m => m.elim) (fun v r H' S' e o i' ⟨d, e2, p⟩ q => ?_) (fun _ _ _ _ _ _ m => m.elim) (fun _ _ _ _ _ _ m => m.elim) fun dx H' x y p i a l c d1 d2 z => kx dx H' x y p i a (by rw [owns_nil] at l; exact l) c d1 d2 z
  subst e2
  rw [owns_nil] at e
  exact k v d H' i'.1 (L2.ext e owns_sub) p (Dq.ex owns_sub q)
end
end L2

set_option Elab.async false
set_option linter.all false
set_option maxRecDepth 100000
set_option maxHeartbeats 4000000
/-! An __init__ that may raise, its fields told where it does not; a def that does not raise at good arguments. -/
namespace L2
open PySem PySem.Spec PyProof.Rows
open Evl (Ex)
/-- what such an __init__ answers: fields, or the two fields of what it raises -/
abbrev ResF := Sum (List (Str × PyData)) (PyData × PyData)
def InitXF (K : PySem.W.Frag) (C Cx : Addr) (E : XK) (f g : Str) (ts : TS) (Γ : List Sl) (j : Nat) (PF : List (Str × PyData) → Prop) (PX : PyData → PyData → Prop) : Prop := ∀ (G : Fr) (σ : L2.St) (H : Hp) (D : Ends) (x dx : Addr), EnvOk K (G.own x (.ins C dx [])) H σ Γ → (G.own x (.ins C dx [])).inv H → σ[j]? = some (some (.ref x)) →
  (∀ σ' H' us fs, (G.own x (.ins C dx us)).inv H' → Ex ((G.own x (.ins C dx [])).view H) ((G.own x (.ins C dx us)).view H') → PF fs → DqFs K ((G.own x (.ins C dx us)).view H') us fs → D.nx σ' H') → ExR K (G.own x (.ins C dx [])) Cx E f g PX H → ts D σ H
def spInitXF (K : PySem.W.Frag) (C Cx : Addr) (f g : Str) (pre : List PyData → ResF → Prop) : Sp := fun vs H Q E => ∃ (G : Fr) (x dx : Addr) (ws : List V) (ds : List PyData) (r : ResF), vs = .ref x :: ws ∧ (G.own x (.ins C dx [])).inv H ∧ DqAll K ((G.own x (.ins C dx [])).view H) ws ds ∧ pre ds r ∧
  (∀ H' us fs, (G.own x (.ins C dx us)).inv H' → Ex ((G.own x (.ins C dx [])).view H) ((G.own x (.ins C dx us)).view H') → r = .inl fs → DqFs K ((G.own x (.ins C dx us)).view H') us fs → Q .non H') ∧ ExR K (G.own x (.ins C dx [])) Cx E f g (fun p i => r = .inr (p, i)) H
section
variable {K : PySem.W.Frag} {C Cx : Addr} {E : XK} {f g' : Str} {Γ Γ' : List Sl} {te tb tv tc : TE} {ta : TA} {tu ts : TS} {tt : TT} {P P' : PyData → Prop} {PX : PyData → PyData → Prop} {PF : List (Str × PyData) → Prop} {j : Nat}
theorem if_of {f1 : List (Str × PyData)} (hg : PF f1) (h : Inits K C ts Γ j [] f1) : InitXF K C Cx E f g' ts Γ j PF PX := fun G σ H D x dx ev iv hj k _ => h G σ H D x dx [] ev iv hj .nil fun σ' H' us i' e' q => k σ' H' us _ i' e' hg q
theorem if_if (b : Bool) (h : EvB K tt Γ (· = b)) (h1 : b = true → RetX K Cx E f g' ts Γ (fun _ => False) PX) (h2 : b = false → InitXF K C Cx E f g' tu Γ j PF PX) : InitXF K C Cx E f g' (tSeq (tIfS tt ts tNext) tu) Γ j PF PX := fun G σ H D x dx ev iv hj k kx =>
  h _ σ H ev iv _ fun c H1 i1 l1 e => by
    subst e
    cases c with
    | true => exact h1 rfl _ σ H1 _ (ev.le l1) i1 (fun v d H' _ _ h => h.elim) (kx.le l1 fun _ _ h => h)
    | false => exact h2 rfl G σ H1 _ x dx (ev.le l1) i1 hj (fun σ' H' us fs i' e' => k σ' H' us fs i' fun c u h => e' c u (l1 c u h)) (kx.le l1 fun _ _ h => h)
theorem if_call {i : Nat} {pre : List PyData → Res → Prop} (ds : List PyData) (r : Res) (hi : i < Γ.length) (hij : i ≠ j) (h : EvL' K ta Γ (· = ds)) (hp : pre ds r) (hx : ∀ p i, r = .inr (p, i) → PX p i) (h2 : ∀ d, r = .inl d → InitXF K C Cx E f g' tu (Γ.set i (.dat d)) j PF PX) :
    InitXF K C Cx E f g' (tSeq (tAsg (tCall (spX K Cx f g' pre) [] E ta) (gName i)) tu) Γ j PF PX := fun G σ H D x dx ev iv hj k kx =>
  h _ σ H ev iv _ fun vs ss H1 i1 l1 ⟨es, e1, e2⟩ dqs => by
    subst e1
    subst e2
    rw [List.append_nil]
    refine ⟨_, es, r, i1, args_dats dqs, hp, fun v d H2 i2 l2 pv dq => ?_, kx.le l1 hx⟩
    exact h2 d pv G _ H2 _ x dx ((ev.le (l1.trans l2)).set hi dq) i2 (by rw [List.getElem?_set_ne hij]; exact hj) (fun σ' H' us fs i' e' => k σ' H' us fs i' fun c u h => e' c u ((l1.trans l2) c u h)) (kx.le (l1.trans l2) fun _ _ h => h)
end
theorem codeX_no {P : Program} {w : World} {outer : List Env} {H : Hp} {s : Shared} {u : Value} {s' : Shared} (h : L2.CX P w outer H s E0 u s') : False := by
  obtain ⟨a, B, H', cls, d, h⟩ := h
  exact h.2.2.2.2.2.2.2
/-- where no way out is asked for, nothing is raised -/
theorem FnOk.noX {P : Program} {w : World} {K : PySem.W.Frag} {mg : Str → Option Value} {base : Heap} {k : Nat} {f : Addr} {fd : FuncData} {ps : List Str} {sp sp0 : Sp} (F : FnOk P w K mg base (L2.CX P w) k f fd ps sp) (hs : ∀ vs H Q E, sp0 vs H Q E → sp vs H Q E0) : FnOk P w K mg base CX0 k f fd ps sp0 :=
  ⟨fun vs H Q E q => F.len vs H Q E0 (hs vs H Q E q), fun A outer s H args us vs Q E hr env b v q => codeAny_mono (F.run A outer s H args us vs Q E0 hr env b v (hs vs H Q E q)) fun r s' z => by
    rcases r with e | fl
    · exact (codeX_no z).elim
    · cases fl <;> exact z⟩
theorem exr_no {K : PySem.W.Frag} {G : Fr} {C : Addr} {E : XK} {f g : Str} {PX : PyData → PyData → Prop} {H : Hp} (h : ∀ p i, ¬ PX p i) : ExR K G C E f g PX H := fun dx H' x y p i _ _ c => (h p i c).elim
/-- the answer alone, of a def that may raise elsewhere -/
theorem FnOk.good {P : Program} {w : World} {K : PySem.W.Frag} {mg : Str → Option Value} {base : Heap} {k : Nat} {fa : Addr} {fd : FuncData} {ps : List Str} {Cx : Addr} {f g : Str} {pre : List PyData → Res → Prop} (pre0 : List PyData → Prop) (fn : List PyData → PyData) (F : FnOk P w K mg base (L2.CX P w) k fa fd ps (spX K Cx f g pre)) (h : ∀ ds, pre0 ds → pre ds (.inl (fn ds))) :
    FnOk P w K mg base CX0 k fa fd ps (spD K pre0 fn) := F.noX fun vs H Q E ⟨G, ds, iv, a, hp, q⟩ => ⟨G, ds, .inl (fn ds), iv, a, h ds hp, fun v d H' i l e dq => q v H' i l (by cases e; exact dq), exr_no fun p i z => nomatch z⟩
/-- the object alone, of an __init__ that may raise elsewhere -/
theorem FnOk.goodI {P : Program} {w : World} {K : PySem.W.Frag} {mg : Str → Option Value} {base : Heap} {k : Nat} {fa : Addr} {fd : FuncData} {ps : List Str} {C Cx : Addr} {f g : Str} {pre : List PyData → ResF → Prop} (pre0 : List PyData → Prop) (fields : List PyData → List (Str × PyData)) (F : FnOk P w K mg base (L2.CX P w) k fa fd ps (spInitXF K C Cx f g pre)) (h : ∀ ds, pre0 ds → pre ds (.inl (fields ds))) :
    FnOk P w K mg base CX0 k fa fd ps (spInit K C pre0 fields) := F.noX fun vs H Q E ⟨G, x, dx, ws, ds, e, iv, a, hp, q⟩ => ⟨G, x, dx, ws, ds, .inl (fields ds), e, iv, a, h ds hp, fun H' us fs i l e dq => q H' us i l (by cases e; exact dq), exr_no fun p i z => nomatch z⟩
/-- whether it raises alone -/
theorem FnOk.rais {P : Program} {w : World} {K : PySem.W.Frag} {mg : Str → Option Value} {base : Heap} {k : Nat} {fa : Addr} {fd : FuncData} {ps : List Str} {C Cx : Addr} {f g : Str} {pre : List PyData → ResF → Prop} (pre0 : List PyData → Res → Prop) (F : FnOk P w K mg base (L2.CX P w) k fa fd ps (spInitXF K C Cx f g pre)) (h : ∀ ds r, pre0 ds r → (∃ fs d, r = .inl d ∧ pre ds (.inl fs)) ∨ ∃ p, r = .inr p ∧ pre ds (.inr p)) :
    FnOk P w K mg base (L2.CX P w) k fa fd ps (spInitX K C Cx f g pre0) := F.imp fun vs H Q E ⟨G, x, dx, ws, ds, r, e, iv, a, hp, q, qx⟩ => by
  rcases h ds r hp with ⟨fs, d, e1, e2⟩ | ⟨p, e1, e2⟩
  · subst e1
    exact ⟨G, x, dx, ws, ds, .inl fs, e, iv, a, e2, fun H' us fs i l _ _ => q H' us i l ⟨d, rfl⟩, exr_no fun p i z => nomatch z⟩
  · subst e1
    exact ⟨G, x, dx, ws, ds, .inr p, e, iv, a, e2, ⟨fun H' us fs i l z _ => (by cases z), fun dx' H' x' y p' i' a' l' c => qx dx' H' x' y p' i' a' l' (by cases c; rfl)⟩⟩
end L2

set_option Elab.async false
set_option linter.all false
set_option maxRecDepth 100000
set_option maxHeartbeats 4000000
namespace K39
open PySem PySem.Spec PyProof.Rows L2
def topS (i : Nat) : Stmt := PySem.Challenge.pw_leastattr_k39_codes_made_and_refused.main.body.getD i (.Pass ⟨0, 0, 0, 0⟩)
/-- a def of the text behind the top -/
structure Df (K : PySem.W.Frag) (mg : Str → Option Value) (x : Str) (st : Stmt) (ps : List Str) : Type where
  f : Addr
  fd : FuncData
  F : Fun K x x st f fd
  g : mg x = some (.ref f)
  b : Binds K fd ps []
structure TB (mg : Str → Option Value) : Type where
  int : mg "int" = none
  bool : mg "bool" = none
  str : mg "str" = none
  list : mg "list" = none
  tuple : mg "tuple" = none
  dict : mg "dict" = none
  set : mg "set" = none
  len : mg "len" = none
  all : mg "all" = none
  isinstance : mg "isinstance" = none
  range : mg "range" = none
  zip : mg "zip" = none
  enumerate : mg "enumerate" = none
section
variable {P : Program} {w : World} {K : PySem.W.Frag} {mg : Str → Option Value} {base : Heap}
/-! ### what the checks answer -/
def isInt : PyData → Bool
  | .int _ => true
  | _ => false
def isBet (d : PyData) (lo hi : Int) : Bool := match d with
  | .int i => decide (lo ≤ i) && decide (i ≤ hi)
  | _ => false
theorem kit_int (d : PyData) : kitB (tyD d) "int" = some (match d with | .int _ => true | .bool _ => true | _ => false) := by
  cases d
  · exact (by decide +kernel : kitB "NoneType" "int" = some false)
  · exact (by decide +kernel : kitB "bool" "int" = some true)
  · exact (by decide +kernel : kitB "int" "int" = some true)
  · exact (by decide +kernel : kitB "str" "int" = some false)
  · exact (by decide +kernel : kitB "list" "int" = some false)
  · exact (by decide +kernel : kitB "tuple" "int" = some false)
  · exact (by decide +kernel : kitB "dict" "int" = some false)
theorem kit_bool (d : PyData) : kitB (tyD d) "bool" = some (match d with | .bool _ => true | _ => false) := by
  cases d
  · exact (by decide +kernel : kitB "NoneType" "bool" = some false)
  · exact (by decide +kernel : kitB "bool" "bool" = some true)
  · exact (by decide +kernel : kitB "int" "bool" = some false)
  · exact (by decide +kernel : kitB "str" "bool" = some false)
  · exact (by decide +kernel : kitB "list" "bool" = some false)
  · exact (by decide +kernel : kitB "tuple" "bool" = some false)
  · exact (by decide +kernel : kitB "dict" "bool" = some false)
theorem kit_str (d : PyData) : kitB (tyD d) "str" = some (match d with | .str _ => true | _ => false) := by
  cases d
  · exact (by decide +kernel : kitB "NoneType" "str" = some false)
  · exact (by decide +kernel : kitB "bool" "str" = some false)
  · exact (by decide +kernel : kitB "int" "str" = some false)
  · exact (by decide +kernel : kitB "str" "str" = some true)
  · exact (by decide +kernel : kitB "list" "str" = some false)
  · exact (by decide +kernel : kitB "tuple" "str" = some false)
  · exact (by decide +kernel : kitB "dict" "str" = some false)
theorem kit_tuple (d : PyData) : kitB (tyD d) "tuple" = some (match d with | .tuple _ => true | _ => false) := by
  cases d
  · exact (by decide +kernel : kitB "NoneType" "tuple" = some false)
  · exact (by decide +kernel : kitB "bool" "tuple" = some false)
  · exact (by decide +kernel : kitB "int" "tuple" = some false)
  · exact (by decide +kernel : kitB "str" "tuple" = some false)
  · exact (by decide +kernel : kitB "list" "tuple" = some false)
  · exact (by decide +kernel : kitB "tuple" "tuple" = some true)
  · exact (by decide +kernel : kitB "dict" "tuple" = some false)
theorem kit_seq (d : PyData) : PySem.W.kitAny K (.type (tyD d)) [.type "list", .type "tuple"] = some (match d with | .list _ => true | .tuple _ => true | _ => false) := by
  have h1 : PySem.W.kitOne K (.type (tyD d)) (.type "list") = some (match d with | .list _ => true | _ => false) := kit_ty (by
    cases d
    · exact (by decide +kernel : kitB "NoneType" "list" = some false)
    · exact (by decide +kernel : kitB "bool" "list" = some false)
    · exact (by decide +kernel : kitB "int" "list" = some false)
    · exact (by decide +kernel : kitB "str" "list" = some false)
    · exact (by decide +kernel : kitB "list" "list" = some true)
    · exact (by decide +kernel : kitB "tuple" "list" = some false)
    · exact (by decide +kernel : kitB "dict" "list" = some false))
  have h2 := kit_ty (K := K) (kit_tuple d)
  simp only [PySem.W.kitAny, h1, h2]
  cases d <;> rfl
/-! ### the heads -/
abbrev s_is_integer : Stmt := topS 1
abbrev N_is_integer : List Str := ["thing"]
theorem sc_is_integer : FnScope N_is_integer ["thing"] (defScope s_is_integer) := ⟨rfl, rfl, rfl, by decide +kernel, rfl, by decide +kernel, by decide +kernel⟩
abbrev s_is_between : Stmt := topS 2
abbrev N_is_between : List Str := ["thing", "low", "high"]
theorem sc_is_between : FnScope N_is_between ["thing", "low", "high"] (defScope s_is_between) := ⟨rfl, rfl, rfl, by decide +kernel, rfl, by decide +kernel, by decide +kernel⟩
abbrev s_is_width : Stmt := topS 3
abbrev N_is_width : List Str := ["thing"]
theorem sc_is_width : FnScope N_is_width ["thing"] (defScope s_is_width) := ⟨rfl, rfl, rfl, by decide +kernel, rfl, by decide +kernel, by decide +kernel⟩
abbrev s_is_sequence : Stmt := topS 4
abbrev N_is_sequence : List Str := ["thing", "low", "high"]
theorem sc_is_sequence : FnScope N_is_sequence ["thing", "low", "high"] (defScope s_is_sequence) := ⟨rfl, rfl, rfl, by decide +kernel, rfl, by decide +kernel, by decide +kernel⟩
abbrev s_is_tuple : Stmt := topS 5
abbrev N_is_tuple : List Str := ["thing", "low", "high"]
theorem sc_is_tuple : FnScope N_is_tuple ["thing", "low", "high"] (defScope s_is_tuple) := ⟨rfl, rfl, rfl, by decide +kernel, rfl, by decide +kernel, by decide +kernel⟩
abbrev s_is_row : Stmt := topS 6
abbrev N_is_row : List Str := ["thing", "size", "number"]
theorem sc_is_row : FnScope N_is_row ["thing", "size"] (defScope s_is_row) := ⟨rfl, rfl, rfl, by decide +kernel, rfl, by decide +kernel, by decide +kernel⟩
abbrev s_is_integers : Stmt := topS 7
abbrev N_is_integers : List Str := ["thing", "size"]
theorem sc_is_integers : FnScope N_is_integers ["thing", "size"] (defScope s_is_integers) := ⟨rfl, rfl, rfl, by decide +kernel, rfl, by decide +kernel, by decide +kernel⟩
abbrev s_is_form : Stmt := topS 12
abbrev N_is_form : List Str := ["thing", "many"]
theorem sc_is_form : FnScope N_is_form ["thing", "many"] (defScope s_is_form) := ⟨rfl, rfl, rfl, by decide +kernel, rfl, by decide +kernel, by decide +kernel⟩
abbrev s_is_sum : Stmt := topS 14
abbrev N_is_sum : List Str := ["thing", "sizes", "numbers", "most", "term"]
theorem sc_is_sum : FnScope N_is_sum ["thing", "sizes", "numbers", "most"] (defScope s_is_sum) := ⟨rfl, rfl, rfl, by decide +kernel, rfl, by decide +kernel, by decide +kernel⟩
abbrev s_is_term : Stmt := topS 15
abbrev N_is_term : List Str := ["thing", "sizes", "numbers", "factor", "picks", "number", "pick", "size"]
theorem sc_is_term : FnScope N_is_term ["thing", "sizes", "numbers"] (defScope s_is_term) := ⟨rfl, rfl, rfl, by decide +kernel, rfl, by decide +kernel, by decide +kernel⟩
abbrev s_is_pick : Stmt := topS 16
abbrev N_is_pick : List Str := ["thing", "many"]
theorem sc_is_pick : FnScope N_is_pick ["thing", "many"] (defScope s_is_pick) := ⟨rfl, rfl, rfl, by decide +kernel, rfl, by decide +kernel, by decide +kernel⟩
abbrev s_reduced : Stmt := topS 17
abbrev N_reduced : List Str := ["numbers", "width", "modulus", "number"]
theorem sc_reduced : FnScope N_reduced ["numbers", "width"] (defScope s_reduced) := ⟨rfl, rfl, rfl, by decide +kernel, rfl, by decide +kernel, by decide +kernel⟩
abbrev s_reduced_sum : Stmt := topS 18
abbrev N_reduced_sum : List Str := ["terms", "width", "modulus", "factor", "picks", "number"]
theorem sc_reduced_sum : FnScope N_reduced_sum ["terms", "width"] (defScope s_reduced_sum) := ⟨rfl, rfl, rfl, by decide +kernel, rfl, by decide +kernel, by decide +kernel⟩
structure TC (K : PySem.W.Frag) (mg : Str → Option Value) extends TB mg where
  is_integer : Df K mg "is_integer" s_is_integer ["thing"]
  is_between : Df K mg "is_between" s_is_between ["thing", "low", "high"]
  is_width : Df K mg "is_width" s_is_width ["thing"]
  is_sequence : Df K mg "is_sequence" s_is_sequence ["thing", "low", "high"]
  is_tuple : Df K mg "is_tuple" s_is_tuple ["thing", "low", "high"]
  is_row : Df K mg "is_row" s_is_row ["thing", "size"]
  is_integers : Df K mg "is_integers" s_is_integers ["thing", "size"]
  is_form : Df K mg "is_form" s_is_form ["thing", "many"]
  is_sum : Df K mg "is_sum" s_is_sum ["thing", "sizes", "numbers", "most"]
  is_term : Df K mg "is_term" s_is_term ["thing", "sizes", "numbers"]
  is_pick : Df K mg "is_pick" s_is_pick ["thing", "many"]
  reduced : Df K mg "reduced" s_reduced ["numbers", "width"]
  reduced_sum : Df K mg "reduced_sum" s_reduced_sum ["terms", "width"]
theorem one : ∀ {vs : List V}, vs.length = 1 → ∃ a, vs = [a]
  | [a], _ => ⟨a, rfl⟩
theorem two : ∀ {vs : List V}, vs.length = 2 → ∃ a b, vs = [a, b]
  | [a, b], _ => ⟨a, b, rfl⟩
theorem three : ∀ {vs : List V}, vs.length = 3 → ∃ a b c, vs = [a, b, c]
  | [a, b, c], _ => ⟨a, b, c, rfl⟩
theorem four : ∀ {vs : List V}, vs.length = 4 → ∃ a b c d, vs = [a, b, c, d]
  | [a, b, c, d], _ => ⟨a, b, c, d, rfl⟩
theorem five : ∀ {vs : List V}, vs.length = 5 → ∃ a b c d e, vs = [a, b, c, d, e]
  | [a, b, c, d, e], _ => ⟨a, b, c, d, e, rfl⟩
/-! ### small things: no long text, no long list -/
mutual
def smallD : PyData → Bool
  | .str s => decide (s.length ≤ 1000)
  | .list xs => decide (xs.length ≤ 1000) && smallAll xs
  | .tuple xs => decide (xs.length ≤ 1000) && smallAll xs
  | _ => true
def smallAll : List PyData → Bool
  | [] => true
  | d :: r => smallD d && smallAll r
end
theorem small_mem : ∀ {ds : List PyData}, smallAll ds = true → ∀ {d : PyData}, d ∈ ds → smallD d = true
  | [], _, d, h => by cases h
  | e :: r, h, d, hm => by
    rw [smallAll, Bool.and_eq_true] at h
    rcases List.mem_cons.mp hm with z | z
    · rw [z]; exact h.1
    · exact small_mem h.2 z
theorem small_str {s : Str} (h : smallD (.str s) = true) : s.length ≤ 1000 := by rw [smallD] at h; exact of_decide_eq_true h
theorem small_list {xs : List PyData} (h : smallD (.list xs) = true) : xs.length ≤ 1000 ∧ smallAll xs = true := by
  rw [smallD, Bool.and_eq_true] at h
  exact ⟨of_decide_eq_true h.1, h.2⟩
theorem small_tuple {xs : List PyData} (h : smallD (.tuple xs) = true) : xs.length ≤ 1000 ∧ smallAll xs = true := by
  rw [smallD, Bool.and_eq_true] at h
  exact ⟨of_decide_eq_true h.1, h.2⟩
/-! ### whole numbers -/
def f1 (f : PyData → Bool) : List PyData → PyData
  | [d] => .bool (f d)
  | _ => .none
abbrev spI (K : PySem.W.Frag) (f : PyData → Bool) : Sp := spD K (fun ds => ∃ d, ds = [d]) (f1 f)
theorem ok_is_integer (T : TC K mg) : FnOk P w K mg base CX0 1 T.is_integer.f T.is_integer.fd ["thing"] (spI K isInt) := by
  refine T.is_integer.F.ok sc_is_integer (fun vs H Q E ⟨G, ds, iv, a, ⟨d, hp⟩, k⟩ => len1 a (by rw [hp]; rfl)) (fun cdv A outer s H vs Q E hr ⟨G, ds, iv, a, ⟨d, hp⟩, k⟩ => ?_)
  subst hp
  obtain ⟨v, rfl⟩ := one a.length
  refine ⟨_, (pss_one (ps_ret (pe_and (pe_callB call_isi (by rfl) T.isinstance (by decide +kernel) (pa_cons (pv 0) (pa_cons (pe_bltn (v := .ty "int") (by rfl) T.int (by decide +kernel) rfl) pa_nil))) (pe_one (pe_not (pe_callB call_isi (by rfl) T.isinstance (by decide +kernel) (pa_cons (pv 0) (pa_cons (pe_bltn (v := .ty "bool") (by rfl) T.bool (by decide +kernel) rfl) pa_nil)))))))), ?_⟩
  refine doneR 0 rfl ?_ iv a k
  exact ev_b (ev_and (ev_isi (ev_var rfl) (kit_int d)) fun _ => ev_notB (ev_isi (ev_var rfl) (kit_bool d))) (by cases d <;> rfl)
def fBet : List PyData → PyData
  | [d, .int lo, .int hi] => .bool (isBet d lo hi)
  | _ => .none
abbrev spBet (K : PySem.W.Frag) : Sp := spD K (fun ds => ∃ d lo hi, ds = [d, .int lo, .int hi]) fBet
theorem ok_is_between (T : TC K mg) : FnOk P w K mg base CX0 2 T.is_between.f T.is_between.fd ["thing", "low", "high"] (spBet K) := by
  have G_is_integer : FnOk P w K mg base CX0 1 T.is_integer.f T.is_integer.fd ["thing"] (spI K isInt) := ok_is_integer T
  refine T.is_between.F.ok sc_is_between (fun vs H Q E ⟨G, ds, iv, a, ⟨d, lo, hi, hp⟩, k⟩ => len1 a (by rw [hp]; rfl)) (fun cdv A outer s H vs Q E hr ⟨G, ds, iv, a, ⟨d, lo, hi, hp⟩, k⟩ => ?_)
  subst hp
  obtain ⟨v, x, y, rfl⟩ := three a.length
  refine ⟨_, (pss_one (ps_ret (pe_and (pe_call G_is_integer (hr.mono (by decide)) rfl T.is_integer.g T.is_integer.F.kp T.is_integer.b .nil pass0 (pa_cons (pv 0) pa_nil)) (pe_one (pe_chain op_le op_le (pv 1) (pv 0) (pv 2)))))), ?_⟩
  refine doneR 0 rfl ?_ iv a k
  by_cases hd : isInt d = true
  · obtain ⟨i, rfl⟩ : ∃ i, d = .int i := by cases d <;> first | exact ⟨_, rfl⟩ | cases hd
    exact ev_and (b1 := true) (ev_call1 [.int i] (elc (ev_var rfl) el_nil) ⟨_, rfl⟩ rfl) fun _ => ev_chainLe (a := lo) (x := i) (b := hi) (ev_var rfl) (ev_var rfl) (ev_var rfl)
  · have hd : isInt d = false := by simpa using hd
    refine ev_eq (ev_and (b1 := false) (b2 := true) (ev_call1 [d] (elc (ev_var rfl) el_nil) ⟨_, rfl⟩ (congrArg PyData.bool hd)) fun z => nomatch z) (by cases d <;> first | rfl | cases hd)
theorem ok_is_width (T : TC K mg) : FnOk P w K mg base CX0 3 T.is_width.f T.is_width.fd ["thing"] (spI K fun d => isBet d 1 64) := by
  have G_is_between : FnOk P w K mg base CX0 2 T.is_between.f T.is_between.fd ["thing", "low", "high"] (spBet K) := ok_is_between T
  refine T.is_width.F.ok sc_is_width (fun vs H Q E ⟨G, ds, iv, a, ⟨d, hp⟩, k⟩ => len1 a (by rw [hp]; rfl)) (fun cdv A outer s H vs Q E hr ⟨G, ds, iv, a, ⟨d, hp⟩, k⟩ => ?_)
  subst hp
  obtain ⟨v, rfl⟩ := one a.length
  refine ⟨_, (pss_one (ps_ret (pe_call G_is_between (hr.mono (by decide)) rfl T.is_between.g T.is_between.F.kp T.is_between.b .nil pass0 (pa_cons (pv 0) (pa_cons pe_int (pa_cons pe_int pa_nil)))))), ?_⟩
  refine doneR 0 rfl ?_ iv a k
  exact ev_call1 [d, .int 1, .int 64] (elc (ev_var rfl) (elc ev_int (elc ev_int el_nil))) ⟨_, _, _, rfl⟩ rfl
def fPick : List PyData → PyData
  | [d, .int m] => .bool (isBet d (-1) (m - 1))
  | _ => .none
abbrev spPick (K : PySem.W.Frag) : Sp := spD K (fun ds => ∃ d m, ds = [d, .int m]) fPick
theorem ok_is_pick (T : TC K mg) : FnOk P w K mg base CX0 3 T.is_pick.f T.is_pick.fd ["thing", "many"] (spPick K) := by
  have G_is_between : FnOk P w K mg base CX0 2 T.is_between.f T.is_between.fd ["thing", "low", "high"] (spBet K) := ok_is_between T
  refine T.is_pick.F.ok sc_is_pick (fun vs H Q E ⟨G, ds, iv, a, ⟨d, m, hp⟩, k⟩ => len1 a (by rw [hp]; rfl)) (fun cdv A outer s H vs Q E hr ⟨G, ds, iv, a, ⟨d, m, hp⟩, k⟩ => ?_)
  subst hp
  obtain ⟨v, x, rfl⟩ := two a.length
  refine ⟨_, (pss_one (ps_ret (pe_call G_is_between (hr.mono (by decide)) rfl T.is_between.g T.is_between.F.kp T.is_between.b .nil pass0 (pa_cons (pv 0) (pa_cons (pe_un un_neg pe_int) (pa_cons (pe_op op_sub (pv 1) pe_int) pa_nil)))))), ?_⟩
  refine doneR 0 rfl ?_ iv a k
  exact ev_call1 [d, .int (-1), .int (m - 1)] (elc (ev_var rfl) (elc (ev_neg ev_int) (elc (ev_opC1 (fun _ _ _ => .int _) (ev_var rfl) ev_int) el_nil))) ⟨_, _, _, rfl⟩ rfl
/-! ### names -/
abbrev spSm (K : PySem.W.Frag) (f : PyData → Bool) : Sp := spD K (fun ds => ∃ d, ds = [d] ∧ smallD d = true) (f1 f)
def seqOf : PyData → Option (List PyData)
  | .list xs => some xs
  | .tuple xs => some xs
  | _ => none
def tupOf : PyData → Option (List PyData)
  | .tuple xs => some xs
  | _ => none
def within (o : Option (List PyData)) (lo hi : Int) : Bool := match o with
  | some xs => decide (lo ≤ (xs.length : Nat)) && decide (((xs.length : Nat) : Int) ≤ hi)
  | none => false
def fSeq : List PyData → PyData
  | [d, .int lo, .int hi] => .bool (within (seqOf d) lo hi)
  | _ => .none
def fTup : List PyData → PyData
  | [d, .int lo, .int hi] => .bool (within (tupOf d) lo hi)
  | _ => .none
abbrev spSeq (K : PySem.W.Frag) : Sp := spD K (fun ds => ∃ d lo hi, ds = [d, .int lo, .int hi]) fSeq
abbrev spTup (K : PySem.W.Frag) : Sp := spD K (fun ds => ∃ d lo hi, ds = [d, .int lo, .int hi]) fTup
theorem ok_is_sequence (T : TC K mg) : FnOk P w K mg base CX0 1 T.is_sequence.f T.is_sequence.fd ["thing", "low", "high"] (spSeq K) := by
  refine T.is_sequence.F.ok sc_is_sequence (fun vs H Q E ⟨G, ds, iv, a, ⟨d, lo, hi, hp⟩, k⟩ => len1 a (by rw [hp]; rfl)) (fun cdv A outer s H vs Q E hr ⟨G, ds, iv, a, ⟨d, lo, hi, hp⟩, k⟩ => ?_)
  subst hp
  obtain ⟨v, x, y, rfl⟩ := three a.length
  refine ⟨_, (pss_one (ps_ret (pe_and (pe_callB call_isiT (by rfl) T.isinstance (by decide +kernel) (pa_cons (pv 0) (pa_cons (pe_tup (pa_cons (pe_bltn (v := .ty "list") (by rfl) T.list (by decide +kernel) rfl) (pa_cons (pe_bltn (v := .ty "tuple") (by rfl) T.tuple (by decide +kernel) rfl) pa_nil))) pa_nil))) (pe_one (pe_chain op_le op_le (pv 1) (pe_callB call_len_seq (by rfl) T.len (by decide +kernel) (pa_cons (pv 0) pa_nil)) (pv 2)))))), ?_⟩
  refine doneR 0 rfl ?_ iv a k
  cases d with
  | list xs => exact ev_and (b1 := true) (ev_isi2 (ev_var rfl) (kit_seq _)) fun _ => ev_chainLe (ev_var rfl) (ev_len (ds := xs) (el_list (ev_var rfl))) (ev_var rfl)
  | tuple xs => exact ev_and (b1 := true) (ev_isi2 (ev_var rfl) (kit_seq _)) fun _ => ev_chainLe (ev_var rfl) (ev_len (ds := xs) (el_tuple (ev_var rfl))) (ev_var rfl)
  | _ => exact ev_eq (ev_and (b1 := false) (b2 := true) (ev_isi2 (ev_var rfl) (kit_seq _)) fun z => nomatch z) rfl
theorem ok_is_tuple (T : TC K mg) : FnOk P w K mg base CX0 1 T.is_tuple.f T.is_tuple.fd ["thing", "low", "high"] (spTup K) := by
  refine T.is_tuple.F.ok sc_is_tuple (fun vs H Q E ⟨G, ds, iv, a, ⟨d, lo, hi, hp⟩, k⟩ => len1 a (by rw [hp]; rfl)) (fun cdv A outer s H vs Q E hr ⟨G, ds, iv, a, ⟨d, lo, hi, hp⟩, k⟩ => ?_)
  subst hp
  obtain ⟨v, x, y, rfl⟩ := three a.length
  refine ⟨_, (pss_one (ps_ret (pe_and (pe_callB call_isi (by rfl) T.isinstance (by decide +kernel) (pa_cons (pv 0) (pa_cons (pe_bltn (v := .ty "tuple") (by rfl) T.tuple (by decide +kernel) rfl) pa_nil))) (pe_one (pe_chain op_le op_le (pv 1) (pe_callB call_len_seq (by rfl) T.len (by decide +kernel) (pa_cons (pv 0) pa_nil)) (pv 2)))))), ?_⟩
  refine doneR 0 rfl ?_ iv a k
  cases d with
  | tuple xs => exact ev_and (b1 := true) (ev_isi (ev_var rfl) (kit_tuple _)) fun _ => ev_chainLe (ev_var rfl) (ev_len (ds := xs) (el_tuple (ev_var rfl))) (ev_var rfl)
  | _ => exact ev_eq (ev_and (b1 := false) (b2 := true) (ev_isi (ev_var rfl) (kit_tuple _)) fun z => nomatch z) rfl
/-! ### rows, forms -/
def isRow (d : PyData) (n : Int) : Bool := within (seqOf d) n n && (match seqOf d with
  | some xs => xs.all isInt
  | none => false)
def fRow : List PyData → PyData
  | [d, .int n] => .bool (isRow d n)
  | _ => .none
abbrev spRow (K : PySem.W.Frag) (f : List PyData → PyData) : Sp := spD K (fun ds => ∃ d n, ds = [d, .int n] ∧ smallD d = true) f
theorem ok_is_row (T : TC K mg) : FnOk P w K mg base CX0 2 T.is_row.f T.is_row.fd ["thing", "size"] (spRow K fRow) := by
  have G_is_integer : FnOk P w K mg base CX0 1 T.is_integer.f T.is_integer.fd ["thing"] (spI K isInt) := ok_is_integer T
  have G_is_sequence : FnOk P w K mg base CX0 1 T.is_sequence.f T.is_sequence.fd ["thing", "low", "high"] (spSeq K) := ok_is_sequence T
  refine T.is_row.F.ok sc_is_row (fun vs H Q E ⟨G, ds, iv, a, ⟨d, n, hp, hs⟩, k⟩ => len1 a (by rw [hp]; rfl)) (fun cdv A outer s H vs Q E hr ⟨G, ds, iv, a, ⟨d, n, hp, hs⟩, k⟩ => ?_)
  subst hp
  obtain ⟨v, x, rfl⟩ := two a.length
  refine ⟨_, (pss_one (ps_ret (pe_and (pe_call G_is_sequence (hr.mono (by decide)) rfl T.is_sequence.g T.is_sequence.F.kp T.is_sequence.b .nil pass0 (pa_cons (pv 0) (pa_cons (pv 1) (pa_cons (pv 1) pa_nil)))) (pe_one (pe_callB (cr_all rfl) (by rfl) T.all (by decide +kernel) (pa_cons (pe_lc (own := [("number", 2)]) (g := gName 2) (tt := tYes) rfl sc_is_row.nd (pi_seq (pv 0)) (blkOk_by (own := [("number", 2)]) (N := N_is_row) (sc := defScope s_is_row) (by decide +kernel)) (fun _ _ _ _ _ => (pg_name (i := 2) sc_is_row.nd rfl (by first | exact Or.inl rfl | exact Or.inr rfl))) (fun _ _ _ _ _ => pts_nil) (fun _ _ _ _ _ => (pe_call G_is_integer (hr.mono (by decide)) rfl T.is_integer.g T.is_integer.F.kp T.is_integer.b .nil pass0 (pa_cons (pv 2) pa_nil)))) pa_nil)))))), ?_⟩
  refine doneR 1 rfl ?_ iv a k
  cases d with
  | list xs =>
    exact ev_and (ev_call1 [.list xs, .int n, .int n] (elc (ev_var rfl) (elc (ev_var rfl) (elc (ev_var rfl) el_nil))) ⟨_, _, _, rfl⟩ rfl) fun _ =>
      ev_allF (by have := (small_list hs).1; omega) (el_list (ev_var rfl)) (tg_name (by show 2 < 3; omega)) fun d _ => ev_call1 [d] (elc (ev_var rfl) el_nil) ⟨_, rfl⟩ rfl
  | tuple xs =>
    exact ev_and (ev_call1 [.tuple xs, .int n, .int n] (elc (ev_var rfl) (elc (ev_var rfl) (elc (ev_var rfl) el_nil))) ⟨_, _, _, rfl⟩ rfl) fun _ =>
      ev_allF (by have := (small_tuple hs).1; omega) (el_tuple (ev_var rfl)) (tg_name (by show 2 < 3; omega)) fun d _ => ev_call1 [d] (elc (ev_var rfl) el_nil) ⟨_, rfl⟩ rfl
  | none => exact ev_eq (ev_and (b1 := false) (b2 := true) (ev_call1 [.none, .int n, .int n] (elc (ev_var rfl) (elc (ev_var rfl) (elc (ev_var rfl) el_nil))) ⟨_, _, _, rfl⟩ rfl) fun z => nomatch z) rfl
  | bool b => exact ev_eq (ev_and (b1 := false) (b2 := true) (ev_call1 [.bool b, .int n, .int n] (elc (ev_var rfl) (elc (ev_var rfl) (elc (ev_var rfl) el_nil))) ⟨_, _, _, rfl⟩ rfl) fun z => nomatch z) rfl
  | int b => exact ev_eq (ev_and (b1 := false) (b2 := true) (ev_call1 [.int b, .int n, .int n] (elc (ev_var rfl) (elc (ev_var rfl) (elc (ev_var rfl) el_nil))) ⟨_, _, _, rfl⟩ rfl) fun z => nomatch z) rfl
  | str b => exact ev_eq (ev_and (b1 := false) (b2 := true) (ev_call1 [.str b, .int n, .int n] (elc (ev_var rfl) (elc (ev_var rfl) (elc (ev_var rfl) el_nil))) ⟨_, _, _, rfl⟩ rfl) fun z => nomatch z) rfl
  | dict b => exact ev_eq (ev_and (b1 := false) (b2 := true) (ev_call1 [.dict b, .int n, .int n] (elc (ev_var rfl) (elc (ev_var rfl) (elc (ev_var rfl) el_nil))) ⟨_, _, _, rfl⟩ rfl) fun z => nomatch z) rfl
def isInts (d : PyData) (n : Int) : Bool := (tupOf d).isSome && isRow d n
def fInts : List PyData → PyData
  | [d, .int n] => .bool (isInts d n)
  | _ => .none
theorem ok_is_integers (T : TC K mg) : FnOk P w K mg base CX0 3 T.is_integers.f T.is_integers.fd ["thing", "size"] (spRow K fInts) := by
  have G_is_row : FnOk P w K mg base CX0 2 T.is_row.f T.is_row.fd ["thing", "size"] (spRow K fRow) := ok_is_row T
  refine T.is_integers.F.ok sc_is_integers (fun vs H Q E ⟨G, ds, iv, a, ⟨d, n, hp, hs⟩, k⟩ => len1 a (by rw [hp]; rfl)) (fun cdv A outer s H vs Q E hr ⟨G, ds, iv, a, ⟨d, n, hp, hs⟩, k⟩ => ?_)
  subst hp
  obtain ⟨v, x, rfl⟩ := two a.length
  refine ⟨_, (pss_one (ps_ret (pe_and (pe_callB call_isi (by rfl) T.isinstance (by decide +kernel) (pa_cons (pv 0) (pa_cons (pe_bltn (v := .ty "tuple") (by rfl) T.tuple (by decide +kernel) rfl) pa_nil))) (pe_one (pe_call G_is_row (hr.mono (by decide)) rfl T.is_row.g T.is_row.F.kp T.is_row.b .nil pass0 (pa_cons (pv 0) (pa_cons (pv 1) pa_nil))))))), ?_⟩
  refine doneR 0 rfl ?_ iv a k
  cases d with
  | tuple xs => exact ev_and (b1 := true) (ev_isi (ev_var rfl) (kit_tuple _)) fun _ => ev_call1 [.tuple xs, .int n] (elc (ev_var rfl) (elc (ev_var rfl) el_nil)) ⟨_, _, rfl, hs⟩ rfl
  | _ => exact ev_eq (ev_and (b1 := false) (b2 := true) (ev_isi (ev_var rfl) (kit_tuple _)) fun z => nomatch z) rfl
def fForm : List PyData → PyData
  | [d, .int n] => .bool (isInts d (n + 1))
  | _ => .none
theorem ok_is_form (T : TC K mg) : FnOk P w K mg base CX0 4 T.is_form.f T.is_form.fd ["thing", "many"] (spRow K fForm) := by
  have G_is_integers : FnOk P w K mg base CX0 3 T.is_integers.f T.is_integers.fd ["thing", "size"] (spRow K fInts) := ok_is_integers T
  refine T.is_form.F.ok sc_is_form (fun vs H Q E ⟨G, ds, iv, a, ⟨d, n, hp, hs⟩, k⟩ => len1 a (by rw [hp]; rfl)) (fun cdv A outer s H vs Q E hr ⟨G, ds, iv, a, ⟨d, n, hp, hs⟩, k⟩ => ?_)
  subst hp
  obtain ⟨v, x, rfl⟩ := two a.length
  refine ⟨_, (pss_one (ps_ret (pe_call G_is_integers (hr.mono (by decide)) rfl T.is_integers.g T.is_integers.F.kp T.is_integers.b .nil pass0 (pa_cons (pv 0) (pa_cons (pe_op op_add (pv 1) pe_int) pa_nil))))), ?_⟩
  refine doneR 0 rfl ?_ iv a k
  exact ev_call1 [d, .int (n + 1)] (elc (ev_var rfl) (elc (ev_opC1 (fun _ _ _ => .int _) (ev_var rfl) ev_int) el_nil)) ⟨_, _, rfl, hs⟩ rfl
end
end K39

set_option Elab.async false
set_option linter.all false
set_option maxRecDepth 100000
set_option maxHeartbeats 4000000
namespace K39
open PySem PySem.Spec PyProof.Rows L2
section
variable {P : Program} {w : World} {K : PySem.W.Frag} {mg : Str → Option Value} {base : Heap}
/-! ### terms and sums -/
def picksOk (o : Option (List PyData)) (ns : List Int) : Bool := within o (ns.length : Nat) (ns.length : Nat) && (match o with
  | some ps => (ps.zip ns).all fun q => isBet q.1 (-1) (q.2 - 1)
  | none => false)
def isTerm (d : PyData) (ns : List Int) (m : Int) : Bool := match d with
  | .tuple [f, p, n] => isInt f && isBet n (-1) (m - 1) && picksOk (tupOf p) ns
  | _ => false
def intsD (ns : List Int) : PyData := .list (ns.map .int)
def unints : PyData → List Int
  | .list xs => xs.filterMap fun x => match x with
    | .int i => some i
    | _ => none
  | _ => []
theorem unints_intsD (ns : List Int) : unints (intsD ns) = ns := by
  induction ns with
  | nil => rfl
  | cons n ns ih => exact congrArg (List.cons n) ih
def fTerm : List PyData → PyData
  | [d, s, .int m] => .bool (isTerm d (unints s) m)
  | _ => .none
abbrev spTerm (K : PySem.W.Frag) : Sp := spD K (fun ds => ∃ d ns m, ds = [d, intsD ns, .int m] ∧ smallD d = true ∧ ns.length ≤ 1000) fTerm
theorem three_of {d : PyData} (h : within (tupOf d) 3 3 = true) : ∃ f p n, d = .tuple [f, p, n] := by
  cases d with
  | tuple xs =>
    have h : (decide ((3 : Int) ≤ (xs.length : Nat)) && decide (((xs.length : Nat) : Int) ≤ 3)) = true := h
    rw [Bool.and_eq_true] at h
    have h1 := of_decide_eq_true h.1
    have h2 := of_decide_eq_true h.2
    match xs, (by omega : xs.length = 3) with
    | [a, b, c], _ => exact ⟨a, b, c, rfl⟩
  | _ => cases h
theorem not_three {d : PyData} {ns : List Int} {m : Int} (h : within (tupOf d) 3 3 = false) : isTerm d ns m = false := by
  unfold isTerm
  split
  · cases h
  · rfl
theorem ok_is_term (T : TC K mg) : FnOk P w K mg base CX0 4 T.is_term.f T.is_term.fd ["thing", "sizes", "numbers"] (spTerm K) := by
  have G_is_integer : FnOk P w K mg base CX0 1 T.is_integer.f T.is_integer.fd ["thing"] (spI K isInt) := ok_is_integer T
  have G_is_tuple : FnOk P w K mg base CX0 1 T.is_tuple.f T.is_tuple.fd ["thing", "low", "high"] (spTup K) := ok_is_tuple T
  have G_is_pick : FnOk P w K mg base CX0 3 T.is_pick.f T.is_pick.fd ["thing", "many"] (spPick K) := ok_is_pick T
  refine T.is_term.F.ok sc_is_term (fun vs H Q E ⟨G, ds, iv, a, ⟨d, ns, m, hp, hs, hl⟩, k⟩ => len1 a (by rw [hp]; rfl)) (fun cdv A outer s H vs Q E hr ⟨G, ds, iv, a, ⟨d, ns, m, hp, hs, hl⟩, k⟩ => ?_)
  subst hp
  obtain ⟨v, x, y, rfl⟩ := three a.length
  refine ⟨_, (pss_cons (ps_if (pt_not (pt_val (pe_call G_is_tuple (hr.mono (by decide)) rfl T.is_tuple.g T.is_tuple.F.kp T.is_tuple.b .nil pass0 (pa_cons (pv 0) (pa_cons pe_int (pa_cons pe_int pa_nil)))))) (pss_one (ps_ret pe_bl)) pss_nil)
    (pss_cons (ps_asg (pv 0) (pg_tup rfl (pgs_cons (pg_name (i := 3) sc_is_term.nd rfl (by first | exact Or.inl rfl | exact Or.inr rfl)) (pgs_cons (pg_name (i := 4) sc_is_term.nd rfl (by first | exact Or.inl rfl | exact Or.inr rfl)) (pgs_cons (pg_name (i := 5) sc_is_term.nd rfl (by first | exact Or.inl rfl | exact Or.inr rfl)) pgs_nil)))))
    (pss_cons (ps_if (PW.pt (pw_or (pt_not (pt_val (pe_call G_is_integer (hr.mono (by decide)) rfl T.is_integer.g T.is_integer.F.kp T.is_integer.b .nil pass0 (pa_cons (pv 3) pa_nil)))) (pw_or1 (pt_not (pt_val (pe_call G_is_pick (hr.mono (by decide)) rfl T.is_pick.g T.is_pick.F.kp T.is_pick.b .nil pass0 (pa_cons (pv 5) (pa_cons (pv 2) pa_nil)))))))) (pss_one (ps_ret pe_bl)) pss_nil)
    (pss_cons (ps_if (pt_not (pt_val (pe_call G_is_tuple (hr.mono (by decide)) rfl T.is_tuple.g T.is_tuple.F.kp T.is_tuple.b .nil pass0 (pa_cons (pv 4) (pa_cons (pe_callB call_len_seq (by rfl) T.len (by decide +kernel) (pa_cons (pv 1) pa_nil)) (pa_cons (pe_callB call_len_seq (by rfl) T.len (by decide +kernel) (pa_cons (pv 1) pa_nil)) pa_nil)))))) (pss_one (ps_ret pe_bl)) pss_nil)
    (pss_one (ps_ret (pe_callB (cr_all rfl) (by rfl) T.all (by decide +kernel) (pa_cons (pe_lc (own := [("pick", 6), ("size", 7)]) (g := gTup K 2 (gCons (gName 6) (gCons (gName 7) gNil))) (tt := tYes) rfl sc_is_term.nd (pi_zipM (by rfl) T.zip (pa_cons (pv 4) (pa_cons (pv 1) pa_nil))) (blkOk_by (own := [("pick", 6), ("size", 7)]) (N := N_is_term) (sc := defScope s_is_term) (by decide +kernel)) (fun _ _ _ _ _ => (pg_tup rfl (pgs_cons (pg_name (i := 6) sc_is_term.nd rfl (by first | exact Or.inl rfl | exact Or.inr rfl)) (pgs_cons (pg_name (i := 7) sc_is_term.nd rfl (by first | exact Or.inl rfl | exact Or.inr rfl)) pgs_nil)))) (fun _ _ _ _ _ => pts_nil) (fun _ _ _ _ _ => (pe_call G_is_pick (hr.mono (by decide)) rfl T.is_pick.g T.is_pick.F.kp T.is_pick.b .nil pass0 (pa_cons (pv 6) (pa_cons (pv 7) pa_nil))))) pa_nil)))))))), ?_⟩
  refine doneS 5 rfl ?_ iv a k
  refine Rets.imp (P := (· = .bool (isTerm d ns m))) ?_ (fun e he => by rw [he]; exact congrArg (fun z => PyData.bool (isTerm d z m)) (unints_intsD ns).symm)
  refine rs_if (!within (tupOf d) 3 3) (eb_not (eb_val (ev_call1 [d, .int 3, .int 3] (elc (ev_var rfl) (elc ev_int (elc ev_int el_nil))) ⟨_, _, _, rfl⟩ rfl))) (fun e => ?_) (fun e => ?_)
  · rw [Bool.not_eq_true'] at e
    exact rs_ret (ev_eq ev_bl (congrArg PyData.bool (not_three e).symm))
  · rw [Bool.not_eq_false'] at e
    obtain ⟨f, p, n, rfl⟩ := three_of e
    have hsm := small_tuple hs
    refine rs_asg (P' := (· = .tuple [f, p, n])) (ev_var rfl) (tg_tup (ds := [f, p, n]) rfl (tgs_cons (tg_name1 (by show 3 < 8; omega)) (tgs_cons (tg_name1 (by show 4 < 8; omega)) (tgs_cons (tg_name1 (by show 5 < 8; omega)) tgs_nil)))) fun d' e' => ?_
    refine rs_if (!(isInt f && isBet n (-1) (m - 1))) ((eb_or (eb_not (b := isInt f) (eb_val (ev_call1 [f] (elc (ev_var rfl) el_nil) ⟨_, rfl⟩ rfl))) fun _ => eb_not (b := isBet n (-1) (m - 1)) (eb_val (ev_call1 [n, .int m] (elc (ev_var rfl) (elc (ev_var rfl) el_nil)) ⟨_, _, rfl⟩ rfl))).imp fun b e => by rw [e, Bool.not_and]) (fun e => ?_) (fun e => ?_)
    · rw [Bool.not_eq_true'] at e
      exact rs_ret (ev_eq ev_bl (congrArg PyData.bool (by show false = _; unfold isTerm; simp only [e, Bool.false_and])))
    · rw [Bool.not_eq_false'] at e
      have ht : isTerm (.tuple [f, p, n]) ns m = picksOk (tupOf p) ns := by unfold isTerm; simp only [e, Bool.true_and]
      rw [ht]
      have hlen : ∀ {Γ : List Sl}, Γ[1]? = some (.dat (intsD ns)) → EvD K (tCB (fun xs H Q => ∃ p ys, xs = [V.ref p] ∧ (SqL K H p ys ∨ SqT K H p ys) ∧ Q (V.int (ys.length : Nat)) H) (tCons (tVar 1) tNil)) Γ (· = .int (ns.length : Nat)) := fun h => ev_eq (ev_len (el_list (ev_var h))) (by rw [List.length_map])
      refine rs_if (!within (tupOf p) (ns.length : Nat) (ns.length : Nat)) (eb_not (eb_val (ev_call1 [p, .int (ns.length : Nat), .int (ns.length : Nat)] (elc (ev_var rfl) (elc (hlen rfl) (elc (hlen rfl) el_nil))) ⟨_, _, _, rfl⟩ rfl))) (fun e => ?_) (fun e => ?_)
      · rw [Bool.not_eq_true'] at e
        exact rs_ret (ev_eq ev_bl (congrArg PyData.bool (by show false = _; unfold picksOk; rw [e, Bool.false_and])))
      · rw [Bool.not_eq_false'] at e
        cases p with
        | tuple ps =>
          have e2 : (decide (((ns.length : Nat) : Int) ≤ (ps.length : Nat)) && decide (((ps.length : Nat) : Int) ≤ (ns.length : Nat))) = true := e
          rw [Bool.and_eq_true] at e2
          have h1 := of_decide_eq_true e2.1
          have h2 := of_decide_eq_true e2.2
          refine rs_ret (ev_eq (ev_allZ (ds := ps) (es := ns.map .int) (f := fun a b => match b with
            | .int z => isBet a (-1) (z - 1)
            | _ => false) (by omega) (elc (ev_var rfl) (elc (ev_var rfl) el_nil)) (by rw [List.length_map]; omega) (by show 6 < 8; omega) (by show 7 < 8; omega) fun a b hb => ?_) (congrArg PyData.bool ?_))
          · obtain ⟨z, _, rfl⟩ := List.mem_map.mp hb
            exact ev_call1 [a, .int z] (elc (ev_var rfl) (elc (ev_var rfl) el_nil)) ⟨_, _, rfl⟩ rfl
          · unfold picksOk
            rw [show within (tupOf (.tuple ps)) (ns.length : Nat) (ns.length : Nat) = true from e, Bool.true_and, List.zip_map_right, List.all_map]
            rfl
        | _ => cases e
def fSum : List PyData → PyData
  | [d, s, .int m, .int t] => .bool (within (tupOf d) 0 t && (match tupOf d with
    | some xs => xs.all fun x => isTerm x (unints s) m
    | none => false))
  | _ => .none
abbrev spSum (K : PySem.W.Frag) : Sp := spD K (fun ds => ∃ d ns m t, ds = [d, intsD ns, .int m, .int t] ∧ smallD d = true ∧ ns.length ≤ 1000) fSum
theorem ok_is_sum (T : TC K mg) : FnOk P w K mg base CX0 5 T.is_sum.f T.is_sum.fd ["thing", "sizes", "numbers", "most"] (spSum K) := by
  have G_is_tuple : FnOk P w K mg base CX0 1 T.is_tuple.f T.is_tuple.fd ["thing", "low", "high"] (spTup K) := ok_is_tuple T
  have G_is_term : FnOk P w K mg base CX0 4 T.is_term.f T.is_term.fd ["thing", "sizes", "numbers"] (spTerm K) := ok_is_term T
  refine T.is_sum.F.ok sc_is_sum (fun vs H Q E ⟨G, ds, iv, a, ⟨d, ns, m, t, hp, hs, hl⟩, k⟩ => len1 a (by rw [hp]; rfl)) (fun cdv A outer s H vs Q E hr ⟨G, ds, iv, a, ⟨d, ns, m, t, hp, hs, hl⟩, k⟩ => ?_)
  subst hp
  obtain ⟨v, x, y, z, rfl⟩ := four a.length
  refine ⟨_, (pss_one (ps_ret (pe_and (pe_call G_is_tuple (hr.mono (by decide)) rfl T.is_tuple.g T.is_tuple.F.kp T.is_tuple.b .nil pass0 (pa_cons (pv 0) (pa_cons pe_int (pa_cons (pv 3) pa_nil)))) (pe_one (pe_callB (cr_all rfl) (by rfl) T.all (by decide +kernel) (pa_cons (pe_lc (own := [("term", 4)]) (g := gName 4) (tt := tYes) rfl sc_is_sum.nd (pi_seq (pv 0)) (blkOk_by (own := [("term", 4)]) (N := N_is_sum) (sc := defScope s_is_sum) (by decide +kernel)) (fun _ _ _ _ _ => (pg_name (i := 4) sc_is_sum.nd rfl (by first | exact Or.inl rfl | exact Or.inr rfl))) (fun _ _ _ _ _ => pts_nil) (fun _ _ _ _ _ => (pe_call G_is_term (hr.mono (by decide)) rfl T.is_term.g T.is_term.F.kp T.is_term.b .nil pass0 (pa_cons (pv 4) (pa_cons (pv 1) (pa_cons (pv 2) pa_nil)))))) pa_nil)))))), ?_⟩
  refine doneR 1 rfl ?_ iv a k
  by_cases hw : within (tupOf d) 0 t = true
  · cases d with
    | tuple xs =>
      refine ev_and (ev_call1 [.tuple xs, .int 0, .int t] (elc (ev_var rfl) (elc ev_int (elc (ev_var rfl) el_nil))) ⟨_, _, _, rfl⟩ rfl) fun _ =>
        ev_allF (f := fun x => isTerm x (unints (intsD ns)) m) (by have := (small_tuple hs).1; omega) (el_tuple (ev_var rfl)) (tg_name (by show 4 < 5; omega)) fun d hd => ?_
      exact ev_call1 [d, intsD ns, .int m] (elc (ev_var rfl) (elc (ev_var rfl) (elc (ev_var rfl) el_nil))) ⟨_, _, _, rfl, small_mem (small_tuple hs).2 hd, hl⟩ rfl
    | _ => cases hw
  · have hw : within (tupOf d) 0 t = false := by simpa using hw
    refine ev_eq (ev_and (b1 := false) (b2 := true) (ev_call1 [d, .int 0, .int t] (elc (ev_var rfl) (elc ev_int (elc (ev_var rfl) el_nil))) ⟨_, _, _, rfl⟩ (congrArg PyData.bool hw)) fun z => nomatch z) ?_
    show _ = PyData.bool (within (tupOf d) 0 t && _)
    rw [hw]
    rfl
/-! ### reduced numbers -/
def modW (n : Int) (w : Int) : Int := n % (1 * 2 ^ w.toNat)
def fRed : List PyData → PyData
  | [.tuple xs, .int w] => .tuple (xs.map fun x => match x with
    | .int n => .int (modW n w)
    | y => y)
  | _ => .none
def intsT (ns : List Int) : PyData := .tuple (ns.map .int)
abbrev spRed (K : PySem.W.Frag) : Sp := spD K (fun ds => ∃ ns w, ds = [intsT ns, .int w] ∧ ns.length ≤ 1000 ∧ 0 ≤ w ∧ w ≤ 64) fRed
theorem mod_pos (w : Int) : (0 : Int) < 1 * 2 ^ w.toNat := by
  rw [Int.one_mul]
  exact Int.pow_pos (by decide)
theorem ok_reduced (T : TC K mg) : FnOk P w K mg base CX0 1 T.reduced.f T.reduced.fd ["numbers", "width"] (spRed K) := by
  refine T.reduced.F.ok sc_reduced (fun vs H Q E ⟨G, ds, iv, a, ⟨ns, w, hp, hl, h0, h1⟩, k⟩ => len1 a (by rw [hp]; rfl)) (fun cdv A outer s H vs Q E hr ⟨G, ds, iv, a, ⟨ns, w, hp, hl, h0, h1⟩, k⟩ => ?_)
  subst hp
  obtain ⟨v, x, rfl⟩ := two a.length
  refine ⟨_, (pss_cons (ps_set (i := 2) sc_reduced.nd rfl (by first | exact Or.inl rfl | exact Or.inr rfl) (pe_op op_shl pe_int (pv 1)))
    (pss_one (ps_ret (pe_tupleOf (by rfl) T.tuple (pe_lc (own := [("number", 3)]) (g := gName 3) (tt := tYes) rfl sc_reduced.nd (pi_seq (pv 0)) (blkOk_by (own := [("number", 3)]) (N := N_reduced) (sc := defScope s_reduced) (by decide +kernel)) (fun _ _ _ _ _ => (pg_name (i := 3) sc_reduced.nd rfl (by first | exact Or.inl rfl | exact Or.inr rfl))) (fun _ _ _ _ _ => pts_nil) (fun _ _ _ _ _ => (pe_op op_mod (pv 3) (pv 2)))))))), ?_⟩
  refine doneS 2 rfl ?_ iv a k
  refine rs_set (by show 2 < 4; omega) (ev_opI1 (g' := fun i j => .int (i * 2 ^ j.toNat)) (fun _ _ _ => .int _) ev_int (ev_var rfl) ⟨h0, by omega, by decide⟩) fun d' e' => ?_
  subst e'
  refine rs_ret (ev_tupleOf (el_list (ev_lcF (by rw [List.length_map]; omega) (el_tuple (ev_var rfl)) (tg_name (by show 3 < 4; omega)) fun d hd => ?_)))
  obtain ⟨n, _, rfl⟩ := List.mem_map.mp hd
  exact ev_opI1 (g' := fun i j => .int (i % j)) (fun _ _ _ => .int _) (ev_var rfl) (ev_var rfl) (mod_pos w)
/-- a term that is one -/
structure Tm where
  f : Int
  p : List Int
  n : Int
def Tm.D (t : Tm) : PyData := .tuple [.int t.f, intsT t.p, .int t.n]
def Tm.red (t : Tm) (w : Int) : Tm := ⟨modW t.f w, t.p, t.n⟩
def redT (w : Int) : PyData → PyData
  | .tuple [.int f, p, n] => .tuple [.int (modW f w), p, n]
  | y => y
def sumD (ts : List Tm) : PyData := .tuple (ts.map Tm.D)
def fRedS : List PyData → PyData
  | [.tuple xs, .int w] => .tuple (xs.map (redT w))
  | _ => .none
abbrev spRedS (K : PySem.W.Frag) : Sp := spD K (fun ds => ∃ ts w, ds = [sumD ts, .int w] ∧ ts.length ≤ 1000 ∧ 0 ≤ w ∧ w ≤ 64) fRedS
theorem ok_reduced_sum (T : TC K mg) : FnOk P w K mg base CX0 1 T.reduced_sum.f T.reduced_sum.fd ["terms", "width"] (spRedS K) := by
  refine T.reduced_sum.F.ok sc_reduced_sum (fun vs H Q E ⟨G, ds, iv, a, ⟨ns, w, hp, hl, h0, h1⟩, k⟩ => len1 a (by rw [hp]; rfl)) (fun cdv A outer s H vs Q E hr ⟨G, ds, iv, a, ⟨ns, w, hp, hl, h0, h1⟩, k⟩ => ?_)
  subst hp
  obtain ⟨v, x, rfl⟩ := two a.length
  refine ⟨_, (pss_cons (ps_set (i := 2) sc_reduced_sum.nd rfl (by first | exact Or.inl rfl | exact Or.inr rfl) (pe_op op_shl pe_int (pv 1)))
    (pss_one (ps_ret (pe_tupleOf (by rfl) T.tuple (pe_lc (own := [("factor", 3), ("picks", 4), ("number", 5)]) (g := gTup K 3 (gCons (gName 3) (gCons (gName 4) (gCons (gName 5) gNil)))) (tt := tYes) (te := tTup (tCons (tOp (rI (fun _ j => 0 < j) fun i j => V.int (i % j)) (tVar 3) (tVar 2)) (tCons (tThen (tVar 4) (kTup K)) (tCons (tVar 5) tNil)))) rfl sc_reduced_sum.nd (pi_seq (pv 0)) (blkOk_by (own := [("factor", 3), ("picks", 4), ("number", 5)]) (N := N_reduced_sum) (sc := defScope s_reduced_sum) (by decide +kernel)) (fun _ _ _ _ _ => (pg_tup rfl (pgs_cons (pg_name (i := 3) sc_reduced_sum.nd rfl (by first | exact Or.inl rfl | exact Or.inr rfl)) (pgs_cons (pg_name (i := 4) sc_reduced_sum.nd rfl (by first | exact Or.inl rfl | exact Or.inr rfl)) (pgs_cons (pg_name (i := 5) sc_reduced_sum.nd rfl (by first | exact Or.inl rfl | exact Or.inr rfl)) pgs_nil))))) (fun _ _ _ _ _ => pts_nil) (fun _ _ _ _ _ => (pe_tup (pa_cons (pe_op op_mod (pv 3) (pv 2)) (pa_cons (pe_tupleOf (by rfl) T.tuple (pv 4)) (pa_cons (pv 5) pa_nil)))))))))), ?_⟩
  refine doneS 4 rfl ?_ iv a k
  refine rs_set (by show 2 < 6; omega) (ev_opI1 (g' := fun i j => .int (i * 2 ^ j.toNat)) (fun _ _ _ => .int _) ev_int (ev_var rfl) ⟨h0, by omega, by decide⟩) fun d' e' => ?_
  subst e'
  refine rs_ret (ev_tupleOf (el_list (ev_lcF (ds := ns.map Tm.D) (f := redT w) (N := NT [.dat (sumD ns), .dat (.int w), .dat (.int (1 * 2 ^ w.toNat)), .any, .any, .any] 3 4 5) (by rw [List.length_map]; omega) (el_tuple (ev_var rfl)) (fun G σ H x d ev iv pd => ?_) fun d hd => ?_)))
  · obtain ⟨t, _, rfl⟩ := List.mem_map.mp pd
    exact tg_triple (Pq := fun _ => True) (by show 3 < 6; omega) (by show 4 < 6; omega) (by show 5 < 6; omega) G σ H x _ ev iv ⟨_, _, _, rfl, trivial⟩
  · obtain ⟨t, _, rfl⟩ := List.mem_map.mp hd
    exact ev_tupE [.int (modW t.f w), intsT t.p, .int t.n] (elc (ev_opI1 (g' := fun i j => .int (i % j)) (fun _ _ _ => .int _) (ev_var rfl) (ev_var rfl) (mod_pos w)) (elc (ev_tupleOf (el_tuple (ev_var rfl))) (elc (ev_var rfl) el_nil)))
end
end K39

set_option Elab.async false
set_option linter.all false
set_option maxRecDepth 100000
set_option maxHeartbeats 4000000
namespace K39
open PySem PySem.Spec PyProof.Rows L2
section
variable {P : Program} {w : World} {K : PySem.W.Frag} {mg : Str → Option Value} {base : Heap}
abbrev s_NoCode_init__ : Stmt := inClass (topS 10) 0
abbrev N_NoCode_init__ : List Str := ["self", "part", "index"]
theorem sc_NoCode_init__ : FnScope N_NoCode_init__ ["self", "part", "index"] (defScope s_NoCode_init__) := ⟨rfl, rfl, rfl, by decide +kernel, rfl, by decide +kernel, by decide +kernel⟩
/-- an exception class of the text, with its own __init__ -/
structure Ec (K : PySem.W.Frag) (mg : Str → Option Value) (x q : Str) (st : Stmt) (ps : List Str) : Type where
  C : Addr
  fI : Addr
  fd : FuncData
  o : OexC K C
  i : PySem.W.findIn K (.ref C) "__init__" = some (some (.ref fI))
  t : PySem.W.typeIn K (.ref fI) = some (.type "function")
  m : mg x = some (.ref C)
  F : Fun K "__init__" q st fI fd
  b : Binds K fd ("self" :: ps) []
  xf : XfC K C
  ex : PySem.W.exmOne K (.ref C) (.ref C) = some true
  no : ∀ f ∈ ps, PySem.W.findIn K (.ref C) f = some none
theorem ok_NoCode (T : Ec K mg "NoCode" "NoCode.__init__" s_NoCode_init__ ["part", "index"]) : FnOk P w K mg base CX0 1 T.fI T.fd ["self", "part", "index"] (spI2 T.C "part" "index") := by
  refine T.F.ok sc_NoCode_init__ (fun vs H Q E h => ?_) (fun cdv A outer s H vs Q E hr h => ?_)
  · obtain ⟨a, x, y, rfl, _⟩ := h
    rfl
  · obtain ⟨a, x, y, rfl, ha, k⟩ := h
    refine ⟨_, pss_cons (ps_ost (pv 0) (pv 1)) (pss_one (ps_ost (pv 0) (pv 2))), ?_⟩
    refine ⟨_, rfl, _, rfl, a, T.C, rfl, T.o, T.no _ (by decide +kernel), .inl ⟨ha, fun dx hd hne => ?_⟩⟩
    exact ⟨_, rfl, _, rfl, a, T.C, rfl, T.o, T.no _ (by decide +kernel), .inr ⟨dx, _, upd_same, by rw [upd_ne hne]; exact upd_same, by show 1 ≤ 900; decide, k dx hd hne⟩⟩
abbrev s_checked_counts : Stmt := topS 28
abbrev N_checked_counts : List Str := ["counts", "index", "item"]
theorem sc_checked_counts : FnScope N_checked_counts ["counts"] (defScope s_checked_counts) := ⟨rfl, rfl, rfl, by decide +kernel, rfl, by decide +kernel, by decide +kernel⟩
abbrev s_checked_code_rules : Stmt := topS 29
abbrev N_checked_code_rules : List Str := ["rules", "counts", "width", "found", "index", "item", "kind", "children", "numbers", "values", "terms"]
theorem sc_checked_code_rules : FnScope N_checked_code_rules ["rules", "counts", "width"] (defScope s_checked_code_rules) := ⟨rfl, rfl, rfl, by decide +kernel, rfl, by decide +kernel, by decide +kernel⟩
abbrev s_is_code_rule : Stmt := topS 30
abbrev N_is_code_rule : List Str := ["thing", "counts", "kind", "children", "numbers", "values", "last", "child_counts", "child", "terms"]
theorem sc_is_code_rule : FnScope N_is_code_rule ["thing", "counts"] (defScope s_is_code_rule) := ⟨rfl, rfl, rfl, by decide +kernel, rfl, by decide +kernel, by decide +kernel⟩
abbrev s_wrong_answers : Stmt := topS 13
abbrev N_wrong_answers : List Str := ["thing", "many", "most", "wrong", "index", "item"]
theorem sc_wrong_answers : FnScope N_wrong_answers ["thing", "many", "most"] (defScope s_wrong_answers) := ⟨rfl, rfl, rfl, by decide +kernel, rfl, by decide +kernel, by decide +kernel⟩
abbrev s_checked_code_answers : Stmt := topS 31
abbrev N_checked_code_answers : List Str := ["answers", "many", "width", "wrong", "form"]
theorem sc_checked_code_answers : FnScope N_checked_code_answers ["answers", "many", "width"] (defScope s_checked_code_answers) := ⟨rfl, rfl, rfl, by decide +kernel, rfl, by decide +kernel, by decide +kernel⟩
structure TG1 (K : PySem.W.Frag) (mg : Str → Option Value) extends TC K mg where
  NoCode : Ec K mg "NoCode" "NoCode.__init__" s_NoCode_init__ ["part", "index"]
  MOST_KINDS : ∃ t, mg "MOST_KINDS" = some (.int 5 t)
  MOST_RULES : ∃ t, mg "MOST_RULES" = some (.int 12 t)
  MOST_CHILDREN : ∃ t, mg "MOST_CHILDREN" = some (.int 2 t)
  MOST_NUMBERS : ∃ t, mg "MOST_NUMBERS" = some (.int 2 t)
  MOST_ANSWERS : ∃ t, mg "MOST_ANSWERS" = some (.int 4 t)
  MOST_REGISTERS : ∃ t, mg "MOST_REGISTERS" = some (.int 16 t)
  MOST_CODE_TERMS : ∃ t, mg "MOST_CODE_TERMS" = some (.int 400 t)
  checked_counts : Df K mg "checked_counts" s_checked_counts ["counts"]
  checked_code_rules : Df K mg "checked_code_rules" s_checked_code_rules ["rules", "counts", "width"]
  is_code_rule : Df K mg "is_code_rule" s_is_code_rule ["thing", "counts"]
  wrong_answers : Df K mg "wrong_answers" s_wrong_answers ["thing", "many", "most"]
  checked_code_answers : Df K mg "checked_code_answers" s_checked_code_answers ["answers", "many", "width"]
/-! ### a rule of a code -/
def allOf (o : Option (List PyData)) (f : PyData → Bool) : Bool := match o with
  | some xs => xs.all f
  | none => false
def itemsOf (o : Option (List PyData)) : List PyData := o.getD []
def unI : PyData → Int
  | .int n => n
  | _ => 0
def sumOkC (ns : List Int) (m : Int) (d : PyData) : Bool := within (tupOf d) 0 400 && allOf (tupOf d) fun x => isTerm x ns m
/-- how many registers the kind d has -/
def szC (cs : List Int) (d : PyData) : Int := cs.getD (unI d).toNat 0
def isKC (cs : List Int) (d : PyData) : Bool := isBet d 0 ((cs.length : Int) - 1)
def isCR (cs : List Int) (d : PyData) : Bool := match d with
  | .tuple [ki, ch, nu, va] => isKC cs ki && ((within (tupOf ch) 0 2 && allOf (tupOf ch) (isKC cs)) && ((isBet nu 0 2 && within (tupOf va) (szC cs ki) (szC cs ki)) && allOf (tupOf va) (sumOkC ((itemsOf (tupOf ch)).map (szC cs)) (unI nu))))
  | _ => false
theorem isKC_get {cs : List Int} {d : PyData} (h : isKC cs d = true) : ∃ n : Nat, d = .int n ∧ n < cs.length ∧ (cs.map PyData.int)[n]? = some (.int (szC cs d)) := by
  cases d with
  | int i =>
    have h : (decide (0 ≤ i) && decide (i ≤ (cs.length : Int) - 1)) = true := h
    rw [Bool.and_eq_true, decide_eq_true_iff, decide_eq_true_iff] at h
    refine ⟨i.toNat, by rw [Int.toNat_of_nonneg h.1], by omega, ?_⟩
    have hl : i.toNat < cs.length := by omega
    show _ = some (PyData.int (cs.getD i.toNat 0))
    rw [List.getElem?_map, List.getD_eq_getElem?_getD, List.getElem?_eq_getElem hl]
    rfl
  | _ => cases h
theorem four_of {d : PyData} (h : within (tupOf d) 4 4 = true) : ∃ a b c e, d = .tuple [a, b, c, e] := by
  cases d with
  | tuple xs =>
    have h : (decide ((4 : Int) ≤ (xs.length : Nat)) && decide (((xs.length : Nat) : Int) ≤ 4)) = true := h
    rw [Bool.and_eq_true, decide_eq_true_iff, decide_eq_true_iff] at h
    have hl : xs.length = 4 := by omega
    match xs, hl with
    | [a, b, c, e], _ => exact ⟨a, b, c, e, rfl⟩
  | _ => cases h
theorem tup_of {o : PyData} {lo hi : Int} (h : within (tupOf o) lo hi = true) : ∃ xs, o = .tuple xs := by
  cases o with
  | tuple xs => exact ⟨xs, rfl⟩
  | _ => cases h
def fCR : List PyData → PyData
  | [d, .tuple cs] => .bool (isCR (cs.map unI) d)
  | _ => .none
abbrev spCR (K : PySem.W.Frag) : Sp := spD K (fun ds => ∃ d cs, ds = [d, intsT cs] ∧ smallD d = true) fCR
def seqD (b : Bool) (ds : List PyData) : PyData := if b then .list ds else .tuple ds
theorem seqOf_seqD (b : Bool) (ds : List PyData) : seqOf (seqD b ds) = some ds := by cases b <;> rfl
theorem unI_ints (cs : List Int) : (cs.map PyData.int).map unI = cs := by
  rw [List.map_map]
  exact (List.map_congr_left fun _ _ => rfl).trans (List.map_id cs)
theorem ok_is_code_rule (T : TG1 K mg) : FnOk P w K mg base CX0 6 T.is_code_rule.f T.is_code_rule.fd ["thing", "counts"] (spCR K) := by
  have G_is_tuple : FnOk P w K mg base CX0 1 T.is_tuple.f T.is_tuple.fd ["thing", "low", "high"] (spTup K) := ok_is_tuple T.toTC
  have G_is_between : FnOk P w K mg base CX0 2 T.is_between.f T.is_between.fd ["thing", "low", "high"] (spBet K) := ok_is_between T.toTC
  have G_is_sum : FnOk P w K mg base CX0 5 T.is_sum.f T.is_sum.fd ["thing", "sizes", "numbers", "most"] (spSum K) := ok_is_sum T.toTC
  refine T.is_code_rule.F.ok sc_is_code_rule (fun vs H Q E ⟨G, ds, iv, a, ⟨d, cs, hp, hs⟩, k⟩ => len1 a (by rw [hp]; rfl)) (fun cdv A outer s H vs Q E hr ⟨G, ds, iv, a, ⟨d, cs, hp, hs⟩, k⟩ => ?_)
  subst hp
  obtain ⟨v, x, rfl⟩ := two a.length
  obtain ⟨t3, hMOST_CHILDREN⟩ := T.MOST_CHILDREN
  obtain ⟨t4, hMOST_NUMBERS⟩ := T.MOST_NUMBERS
  obtain ⟨t5, hMOST_CODE_TERMS⟩ := T.MOST_CODE_TERMS
  refine ⟨_, (pss_cons (ps_if (pt_not (pt_val (pe_call G_is_tuple (hr.mono (by decide)) rfl T.is_tuple.g T.is_tuple.F.kp T.is_tuple.b .nil pass0 (pa_cons (pv 0) (pa_cons pe_int (pa_cons pe_int pa_nil)))))) (pss_one (ps_ret pe_bl)) pss_nil)
    (pss_cons (ps_asg (pv 0) (pg_tup rfl (pgs_cons (pg_name (i := 2) sc_is_code_rule.nd rfl (by first | exact Or.inl rfl | exact Or.inr rfl)) (pgs_cons (pg_name (i := 3) sc_is_code_rule.nd rfl (by first | exact Or.inl rfl | exact Or.inr rfl)) (pgs_cons (pg_name (i := 4) sc_is_code_rule.nd rfl (by first | exact Or.inl rfl | exact Or.inr rfl)) (pgs_cons (pg_name (i := 5) sc_is_code_rule.nd rfl (by first | exact Or.inl rfl | exact Or.inr rfl)) pgs_nil))))))
    (pss_cons (ps_set (i := 6) sc_is_code_rule.nd rfl (by first | exact Or.inl rfl | exact Or.inr rfl) (pe_op op_sub (pe_callB call_len_seq (by rfl) T.len (by decide +kernel) (pa_cons (pv 1) pa_nil)) pe_int))
    (pss_cons (ps_if (pt_not (pt_val (pe_call G_is_between (hr.mono (by decide)) rfl T.is_between.g T.is_between.F.kp T.is_between.b .nil pass0 (pa_cons (pv 2) (pa_cons pe_int (pa_cons (pv 6) pa_nil)))))) (pss_one (ps_ret pe_bl)) pss_nil)
    (pss_cons (ps_if (PW.pt (pw_or (pt_not (pt_val (pe_call G_is_tuple (hr.mono (by decide)) rfl T.is_tuple.g T.is_tuple.F.kp T.is_tuple.b .nil pass0 (pa_cons (pv 3) (pa_cons pe_int (pa_cons (pe_glob (v := .int 2) rfl hMOST_CHILDREN ⟨_, rfl⟩) pa_nil)))))) (pw_or1 (pt_not (pt_val (pe_callB (cr_all rfl) (by rfl) T.all (by decide +kernel) (pa_cons (pe_lc (own := [("child", 8)]) (g := gName 8) (tt := tYes) rfl sc_is_code_rule.nd (pi_seq (pv 3)) (blkOk_by (own := [("child", 8)]) (N := N_is_code_rule) (sc := defScope s_is_code_rule) (by decide +kernel)) (fun _ _ _ _ _ => (pg_name (i := 8) sc_is_code_rule.nd rfl (by first | exact Or.inl rfl | exact Or.inr rfl))) (fun _ _ _ _ _ => pts_nil) (fun _ _ _ _ _ => (pe_call G_is_between (hr.mono (by decide)) rfl T.is_between.g T.is_between.F.kp T.is_between.b .nil pass0 (pa_cons (pv 8) (pa_cons pe_int (pa_cons (pv 6) pa_nil)))))) pa_nil))))))) (pss_one (ps_ret pe_bl)) pss_nil)
    (pss_cons (ps_if (PW.pt (pw_or (pt_not (pt_val (pe_call G_is_between (hr.mono (by decide)) rfl T.is_between.g T.is_between.F.kp T.is_between.b .nil pass0 (pa_cons (pv 4) (pa_cons pe_int (pa_cons (pe_glob (v := .int 2) rfl hMOST_NUMBERS ⟨_, rfl⟩) pa_nil)))))) (pw_or1 (pt_not (pt_val (pe_call G_is_tuple (hr.mono (by decide)) rfl T.is_tuple.g T.is_tuple.F.kp T.is_tuple.b .nil pass0 (pa_cons (pv 5) (pa_cons (pe_ix ix_tup (pv 1) (pv 2) (fun _ _ => rfl)) (pa_cons (pe_ix ix_tup (pv 1) (pv 2) (fun _ _ => rfl)) pa_nil))))))))) (pss_one (ps_ret pe_bl)) pss_nil)
    (pss_cons (ps_set (i := 7) sc_is_code_rule.nd rfl (Or.inr rfl) (pe_lc (own := [("child", 8)]) (g := gName 8) (tt := tYes) (te := tOp (rIxT K) (tVar 1) (tVar 8)) rfl sc_is_code_rule.nd (pi_seq (pv 3)) (blkOk_by (own := [("child", 8)]) (N := N_is_code_rule) (sc := defScope s_is_code_rule) (by decide +kernel)) (fun _ _ _ _ _ => (pg_name (i := 8) sc_is_code_rule.nd rfl (by first | exact Or.inl rfl | exact Or.inr rfl))) (fun _ _ _ _ _ => pts_nil) (fun _ _ _ _ _ => (pe_ix ix_tup (pv 1) (pv 8) (fun _ _ => rfl)))))
    (pss_one (ps_ret (pe_callB (cr_all rfl) (by rfl) T.all (by decide +kernel) (pa_cons (pe_lc (own := [("terms", 9)]) (g := gName 9) (tt := tYes) rfl sc_is_code_rule.nd (pi_seq (pv 5)) (blkOk_by (own := [("terms", 9)]) (N := N_is_code_rule) (sc := defScope s_is_code_rule) (by decide +kernel)) (fun _ _ _ _ _ => (pg_name (i := 9) sc_is_code_rule.nd rfl (by first | exact Or.inl rfl | exact Or.inr rfl))) (fun _ _ _ _ _ => pts_nil) (fun _ _ _ _ _ => (pe_call G_is_sum (hr.mono (by decide)) rfl T.is_sum.g T.is_sum.F.kp T.is_sum.b .nil pass0 (pa_cons (pv 9) (pa_cons (pv 7) (pa_cons (pv 4) (pa_cons (pe_glob (v := .int 400) rfl hMOST_CODE_TERMS ⟨_, rfl⟩) pa_nil))))))) pa_nil))))))))))), ?_⟩
  refine doneS 8 rfl ?_ iv a k
  refine Rets.imp (P := (· = .bool (isCR cs d))) ?_ (fun e he => by rw [he]; show _ = PyData.bool (isCR ((cs.map PyData.int).map unI) d); rw [unI_ints])
  refine rs_if (!within (tupOf d) 4 4) (eb_not (eb_val (ev_call1 [d, .int 4, .int 4] (elc (ev_var rfl) (elc ev_int (elc ev_int el_nil))) ⟨_, _, _, rfl⟩ rfl))) (fun e => ?_) (fun e => ?_)
  · rw [Bool.not_eq_true'] at e
    refine rs_ret (ev_eq ev_bl (congrArg PyData.bool ?_))
    unfold isCR
    split
    · cases e
    · rfl
  rw [Bool.not_eq_false'] at e
  obtain ⟨ki, ch, nu, va, rfl⟩ := four_of e
  have hsm := small_tuple hs
  have hsc := small_mem hsm.2 (d := ch) (by simp)
  have hsv := small_mem hsm.2 (d := va) (by simp)
  refine rs_asg (P' := (· = .tuple [ki, ch, nu, va])) (ev_var rfl) (tg_tup (ds := [ki, ch, nu, va]) rfl (tgs_cons (tg_name1 (by show 2 < 10; omega)) (tgs_cons (tg_name1 (by show 3 < 10; omega)) (tgs_cons (tg_name1 (by show 4 < 10; omega)) (tgs_cons (tg_name1 (by show 5 < 10; omega)) tgs_nil))))) fun d' e' => ?_
  show Rets K _ _ (· = PyData.bool (isKC cs ki && ((within (tupOf ch) 0 2 && allOf (tupOf ch) (isKC cs)) && ((isBet nu 0 2 && within (tupOf va) (szC cs ki) (szC cs ki)) && allOf (tupOf va) (sumOkC ((itemsOf (tupOf ch)).map (szC cs)) (unI nu))))))
  refine rs_set (i := 6) (P' := (· = .int ((cs.length : Int) - 1))) (by show 6 < 10; omega) (ev_opC1 (a := (cs.length : Nat)) (b := 1) (g' := fun i j => .int (i - j)) (fun _ _ _ => .int _) (ev_eq (ev_len (ds := cs.map .int) (el_tuple (ev_var rfl))) (by rw [List.length_map])) ev_int) fun d' e' => ?_
  subst e'
  -- the kind
  refine rs_if (!isKC cs ki) (eb_not (eb_val (ev_call1 [ki, .int 0, .int ((cs.length : Int) - 1)] (elc (ev_var rfl) (elc ev_int (elc (ev_var rfl) el_nil))) ⟨_, _, _, rfl⟩ rfl))) (fun e => ?_) (fun e => ?_)
  · rw [Bool.not_eq_true'] at e
    exact rs_ret (ev_eq ev_bl (congrArg PyData.bool (by rw [e, Bool.false_and])))
  rw [Bool.not_eq_false'] at e
  rw [e, Bool.true_and]
  obtain ⟨n, rfl, hn, hsk⟩ := isKC_get e
  -- the children
  refine rs_if (!(within (tupOf ch) 0 2 && allOf (tupOf ch) (isKC cs))) ((eb_or (eb_not (b := within (tupOf ch) 0 2) (eb_val (ev_call1 [ch, .int 0, .int 2] (elc (ev_var rfl) (elc ev_int (elc (ev_c fun _ => .int _) el_nil))) ⟨_, _, _, rfl⟩ rfl))) (b2 := !allOf (tupOf ch) (isKC cs)) fun hb => ?_).imp fun b e => by rw [e, Bool.not_and]) (fun e => ?_) (fun e => ?_)
  · rw [Bool.not_eq_false'] at hb
    obtain ⟨xs, rfl⟩ := tup_of hb
    exact eb_not (eb_val (ev_allF (f := isKC cs) (by have := (small_tuple hsc).1; omega) (el_tuple (ev_var rfl)) (tg_name (by show 8 < 10; omega)) fun d hd => ev_call1 [d, .int 0, .int ((cs.length : Int) - 1)] (elc (ev_var rfl) (elc ev_int (elc (ev_var rfl) el_nil))) ⟨_, _, _, rfl⟩ rfl))
  · rw [Bool.not_eq_true'] at e
    exact rs_ret (ev_eq ev_bl (congrArg PyData.bool (by rw [e, Bool.false_and])))
  rw [Bool.not_eq_false'] at e
  rw [e, Bool.true_and]
  rw [Bool.and_eq_true] at e
  obtain ⟨xs, rfl⟩ := tup_of e.1
  have hall : ∀ c ∈ xs, isKC cs c = true := fun c hc => List.all_eq_true.mp e.2 c hc
  -- the numbers and the values
  have hget : ∀ {Γ : List Sl}, Γ[1]? = some (.dat (intsT cs)) → Γ[2]? = some (.dat (.int (n : Nat))) → EvD K (tOp (rIxT K) (tVar 1) (tVar 2)) Γ (· = .int (szC cs (.int (n : Nat)))) := fun h1 h2 => ev_ixT (n := n) (ds := cs.map .int) (ev_var h1) (ev_var h2) hsk
  refine rs_if (!(isBet nu 0 2 && within (tupOf va) (szC cs (.int (n : Nat))) (szC cs (.int (n : Nat))))) ((eb_or (eb_not (b := isBet nu 0 2) (eb_val (ev_call1 [nu, .int 0, .int 2] (elc (ev_var rfl) (elc ev_int (elc (ev_c fun _ => .int _) el_nil))) ⟨_, _, _, rfl⟩ rfl))) fun _ => eb_not (b := within (tupOf va) (szC cs (.int (n : Nat))) (szC cs (.int (n : Nat)))) (eb_val (ev_call1 [va, .int (szC cs (.int (n : Nat))), .int (szC cs (.int (n : Nat)))] (elc (ev_var rfl) (elc (hget rfl rfl) (elc (hget rfl rfl) el_nil))) ⟨_, _, _, rfl⟩ rfl))).imp fun b e => by rw [e, Bool.not_and]) (fun e => ?_) (fun e => ?_)
  · rw [Bool.not_eq_true'] at e
    exact rs_ret (ev_eq ev_bl (congrArg PyData.bool (by rw [e, Bool.false_and])))
  rw [Bool.not_eq_false'] at e
  rw [e, Bool.true_and]
  rw [Bool.and_eq_true] at e
  obtain ⟨us, rfl⟩ := tup_of e.2
  obtain ⟨nn, rfl⟩ : ∃ n, nu = .int n := by
    cases nu with
    | int n => exact ⟨n, rfl⟩
    | _ => cases e.1
  have hcl := (small_tuple hsc).1
  refine rs_set (i := 7) (P' := (· = intsD (xs.map (szC cs)))) (by show 7 < 10; omega) ((ev_lcF (ds := xs) (f := fun c => .int (szC cs c)) (by omega) (el_tuple (ev_var rfl)) (tg_name (by show 8 < 10; omega)) fun d hd => ?_).imp fun d e => by rw [e]; unfold intsD; rw [List.map_map]; rfl) fun d' e' => ?_
  · obtain ⟨nd, rfl, hnd, hsd⟩ := isKC_get (hall d hd)
    exact ev_ixT (n := nd) (ds := cs.map .int) (ev_var rfl) (ev_var rfl) hsd
  subst e'
  refine rs_ret (ev_eq (ev_allF (f := sumOkC (xs.map (szC cs)) nn) (by have := (small_tuple hsv).1; omega) (el_tuple (ev_var rfl)) (tg_name (by show 9 < 10; omega)) fun d hd => ?_) rfl)
  refine ev_call1 [d, intsD (xs.map (szC cs)), .int nn, .int 400] (elc (ev_var rfl) (elc (ev_var rfl) (elc (ev_var rfl) (elc (ev_c fun _ => .int _) el_nil)))) ⟨_, _, _, _, rfl, small_mem (small_tuple hsv).2 hd, by rw [List.length_map]; omega⟩ (congrArg PyData.bool ?_)
  rw [unints_intsD]
  rfl
end
end K39

set_option Elab.async false
set_option linter.all false
set_option maxRecDepth 100000
set_option maxHeartbeats 4000000
namespace L2
open PySem PySem.Spec PyProof.Rows
section
variable {K : PySem.W.Frag} {Γ : List Sl} {wi : TI} {g : TG} {ts tu : TS} {tt : TT} {P : PyData → Prop}
/-- a loop that does nothing -/
theorem rs_for_skip {n : Nat} {vs : List Nat} {Pi : Nat → PyData → Prop} {N : Nat → PyData → List Sl} (hi : EvI0 K wi Γ (· = n) Pi) (hg : ∀ i, TgOk K g vs Γ (Pi i) (N i)) (hb : ∀ i e, Pi i e → EvB K tt (N i e) (· = false))
    (hw : ∀ (i : Nat) e, Pi i e → (N i e).length = Γ.length ∧ ∀ (k : Nat) s, Γ[k]? = some s → s = .any ∨ (N i e)[k]? = some s) (h2 : Rets K tu Γ P) : Rets K (tSeq (tFor wi g (tIfS tt ts tNext)) tu) Γ P := fun G σ H D ev iv k => by
  refine hi G σ H ev iv _ fun n' J H1 hn iv1 l1 w => ?_
  subst hn
  refine ⟨fun i c σ' H' => c = n' - i ∧ i ≤ n' ∧ G.inv H' ∧ G.le H1 H' ∧ EnvOk K G H' σ' Γ, ⟨n', by simp, Nat.zero_le _, iv1, .refl, ev.le l1⟩, ?_⟩
  rintro i c σ2 H2 ⟨rfl, hle, iv2, l2, ev2⟩
  have w2 := w G H2 l2 iv2
  by_cases hlt : i < n'
  · refine .inr ⟨(w2.1 i hlt).1, fun σ' H' => i + 1 ≤ n' ∧ G.inv H' ∧ G.le H1 H' ∧ EnvOk K G H' σ' Γ, fun σ' H' h' => ⟨n' - (i + 1), by omega, rfl, h'⟩, fun x H3 hy => ?_⟩
    obtain ⟨iv3, l3, e, pe, dq⟩ := (w2.1 i hlt).2 x H3 hy
    refine hg i G σ2 H3 x e (ev2.le l3) iv3 pe dq _ fun σ3 _ _ ev3 => hb i e pe G σ3 H3 ev3 iv3 _ fun b H4 iv4 l4 eb => ?_
    subst eb
    have h := hw i e pe
    exact ⟨hlt, iv4, (l2.trans l3).trans l4, EnvOk.weak (ev3.le l4) h.1 h.2⟩
  · obtain rfl : i = n' := by omega
    exact .inl ⟨w2.2, h2 G σ2 H2 D ev2 iv2 fun v d H' i' l' => k v d H' i' ((l1.trans l2).trans l')⟩
/-- a comprehension whose test is never true -/
theorem ev_lc0 {n : Nat} {vs : List Nat} {Pi : Nat → PyData → Prop} {N : PyData → List Sl} {te : TE} (hi : EvI0 K wi Γ (· = n) Pi) (hg : ∀ i, TgOk K g vs (wipeΓ Γ vs) (Pi i) N) (ht : ∀ i d, Pi i d → EvB K tt (N d) (· = false)) :
    EvD K (tLc wi g tt te vs) Γ (· = .list []) := fun G σ H ev iv Q q => by
  refine hi G σ H ev iv _ fun n' J H1 hn iv1 l1 w D hD => ?_
  subst hn
  have ho := Fr.own_new (G := G) (o := HO.lst []) iv1 hD
  let Iv : Hp → Prop := fun H => (G.own D (.lst [])).inv H ∧ Evl.Ex (G.view H1) ((G.own D (.lst [])).view H)
  refine ⟨fun i m H => m = n' - i ∧ i ≤ n' ∧ Iv H, ⟨n', by simp, Nat.zero_le _, ho.1, by rw [ho.2]; exact fun _ _ h => h⟩, ?_⟩
  rintro i m H2 ⟨rfl, hle, iv2, e2⟩
  have w2 := w (G.own D (.lst [])) H2 e2 iv2
  by_cases hlt : i < n'
  · refine .inr ⟨(w2.1 i hlt).1, fun H => i + 1 ≤ n' ∧ Iv H, fun H' h' => ⟨n' - (i + 1), by omega, rfl, h'⟩, fun x H3 hy => ?_⟩
    obtain ⟨iv3, l3, d, pd, dq⟩ := (w2.1 i hlt).2 x H3 hy
    have ev3 : EnvOk K (G.own D (.lst [])) H3 σ Γ := (ev.le l1).own fun c u h => l3 c u (e2 c u h)
    refine hg i (G.own D (.lst [])) (L2.wipe σ vs) H3 x d (ev3.wipe vs) iv3 pd dq _ fun σ2 hl2 hs2 ev4 => ⟨wipe_eq hl2 hs2, ?_⟩
    refine ht i d pd (G.own D (.lst [])) σ2 H3 ev4 iv3 _ fun b H4 iv4 l4 eb => ?_
    subst eb
    rw [if_neg (by decide)]
    exact ⟨hlt, iv4, fun c u h => l4 c u (l3 c u (e2 c u h))⟩
  · exact .inl ⟨by obtain rfl : i = n' := by omega
                   exact w2.2, q (.ref D) (.list []) H2 iv2.1 (l1.trans (Fr.own_le (Fr.blank hD) e2)) rfl (.lst (.inl (.inl iv2.2)) .nil)⟩
/-- the truth of an empty list -/
theorem eb_tru0 {te : TE} (h : EvD K te Γ (· = .list [])) : EvB K (fun σ H Q => te σ H fun x H' => ∃ k, TruV K x H' k ∧ Q k H') Γ (· = false) := fun G σ H e i Q q =>
  h G σ H e i _ fun v d H1 i1 l1 p1 dq => by
    subst p1
    cases dq with
    | lst hs ha =>
      cases ha
      exact ⟨false, .inl ⟨_, Fr.upL hs, rfl⟩, q false H1 i1 l1 rfl⟩
theorem ev_ifF {te tv : TE} (h : EvB K tt Γ (· = false)) (hv : EvD K tv Γ P) : EvD K (tIf tt te tv) Γ P := fun G σ H e i Q q => h G σ H e i _ fun b H1 i1 l1 eb => by
  subst eb
  rw [if_neg (by decide)]
  exact hv G σ H1 (e.le l1) i1 Q fun v d H2 i2 l2 => q v d H2 i2 (l1.trans l2)
theorem ev_nonC : EvD K (tC .non) Γ (· = .none) := ev_c fun _ => .non
/-- x is not None, x being None -/
theorem eb_notN {te : TE} (h : EvD K te Γ (· = .none)) : EvB K (tTest (tOp (fun x y H Q => y = .non ∧ Q (.bl (!decide (x = .non))) H) te (tC .non))) Γ (· = false) := fun G σ H e i Q q =>
  h G σ H e i _ fun v d H1 i1 l1 p1 dq => by
    subst p1
    cases dq
    exact ⟨rfl, _, rfl, q _ H1 i1 l1 (by simp)⟩
end
end L2
namespace K39
open PySem PySem.Spec PyProof.Rows L2
section
variable {P : Program} {w : World} {K : PySem.W.Frag} {mg : Str → Option Value} {base : Heap}
/-! ### the answers -/
def answersOk (many : Int) (fs : List (List Int)) : Prop := 1 ≤ fs.length ∧ fs.length ≤ 4 ∧ ∀ f ∈ fs, isInts (intsT f) (many + 1) = true ∧ f.length ≤ 1000
def redF (w : Int) : PyData → PyData
  | .tuple xs => .tuple (xs.map fun x => match x with
    | .int n => .int (modW n w)
    | y => y)
  | y => y
def fAns : List PyData → PyData
  | [d, _, .int w] => .tuple (((seqOf d).getD []).map (redF w))
  | _ => .none
/-- forms of which one is wrong -/
def formsBad (many : Int) (fs : List (List Int)) (x : PyData) (rest : List PyData) : Prop := (∀ f ∈ fs, isInts (intsT f) (many + 1) = true ∧ f.length ≤ 1000) ∧ isInts x (many + 1) = false ∧ smallD x = true ∧ ∀ y ∈ rest, smallD y = true
abbrev spAns (K : PySem.W.Frag) (C : Addr) : Sp := spX K C "part" "index" fun ds r => (∃ x many w, ds = [x, .int many, .int w] ∧ r = .inr (.str "answers", .int (-1)) ∧ within (seqOf x) 1 4 = false) ∨
  (∃ b fs x rest many w, ds = [seqD b (fs.map intsT ++ x :: rest), .int many, .int w] ∧ r = .inr (.str "answers", .int (fs.length : Nat)) ∧ fs.length + rest.length < 4 ∧ formsBad many fs x rest) ∨
  (∃ b fs many w, ds = [seqD b (fs.map intsT), .int many, .int w] ∧ r = .inl (fAns ds) ∧ answersOk many fs ∧ 0 ≤ w ∧ w ≤ 64)
theorem behind {α : Type} {l : List α} {x : α} {rest : List α} {i : Nat} {a : α} (h : (l ++ x :: rest)[i]? = some a) (hi : l.length < i) : a ∈ rest := by
  rw [List.getElem?_append_right (by omega)] at h
  obtain ⟨j, e⟩ : ∃ j, i - l.length = j + 1 := ⟨i - l.length - 1, by omega⟩
  rw [e, List.getElem?_cons_succ] at h
  exact List.mem_of_getElem? h
theorem small_ints : ∀ (ns : List Int), smallAll (ns.map .int) = true
  | [] => rfl
  | n :: ns => by
    rw [List.map_cons, smallAll, small_ints ns]
    rfl
theorem small_intsT {ns : List Int} (h : ns.length ≤ 1000) : smallD (intsT ns) = true := by
  unfold intsT
  rw [smallD, small_ints, List.length_map, decide_eq_true h]
  rfl
abbrev spWrong (K : PySem.W.Frag) : Sp := spP K fun ds d => (∃ x many, ds = [x, .int many, .int 4] ∧ d = .int (-1) ∧ within (seqOf x) 1 4 = false) ∨
  (∃ b fs x rest many, ds = [seqD b (fs.map intsT ++ x :: rest), .int many, .int 4] ∧ d = .int (fs.length : Nat) ∧ fs.length + rest.length < 4 ∧ formsBad many fs x rest) ∨
  (∃ b fs many, ds = [seqD b (fs.map intsT), .int many, .int 4] ∧ d = .none ∧ answersOk many fs)
theorem ok_wrong_answers (T : TG1 K mg) : FnOk P w K mg base CX0 5 T.wrong_answers.f T.wrong_answers.fd ["thing", "many", "most"] (spWrong K) := by
  have G_is_sequence : FnOk P w K mg base CX0 1 T.is_sequence.f T.is_sequence.fd ["thing", "low", "high"] (spSeq K) := ok_is_sequence T.toTC
  have G_is_form : FnOk P w K mg base CX0 4 T.is_form.f T.is_form.fd ["thing", "many"] (spRow K fForm) := ok_is_form T.toTC
  have hl : ∀ {H : Hp} {vs : List V} {ds : List PyData} {d : PyData}, DqAll K H vs ds → ((∃ x many, ds = [x, .int many, .int 4] ∧ d = .int (-1) ∧ within (seqOf x) 1 4 = false) ∨ (∃ b fs x rest many, ds = [seqD b (fs.map intsT ++ x :: rest), .int many, .int 4] ∧ d = .int (fs.length : Nat) ∧ fs.length + rest.length < 4 ∧ formsBad many fs x rest) ∨ (∃ b fs many, ds = [seqD b (fs.map intsT), .int many, .int 4] ∧ d = .none ∧ answersOk many fs)) → vs.length = 3 := fun a hp => by
    rw [a.length]
    rcases hp with ⟨x, many, hp, _⟩ | ⟨b, fs, x, rest, many, hp, _⟩ | ⟨b, fs, many, hp, _⟩ <;> (rw [hp]; rfl)
  refine T.wrong_answers.F.ok sc_wrong_answers (fun vs H Q E ⟨G, ds, d, iv, a, hp, k⟩ => hl a hp) (fun cdv A outer s H vs Q E hr ⟨G, ds, d, iv, a, hp, k⟩ => ?_)
  have hv := hl a hp
  obtain ⟨v, x, y, rfl⟩ := three hv
  refine ⟨_, (pss_cons (ps_if (pt_not (pt_val (pe_call G_is_sequence (hr.mono (by decide)) rfl T.is_sequence.g T.is_sequence.F.kp T.is_sequence.b .nil pass0 (pa_cons (pv 0) (pa_cons pe_int (pa_cons (pv 2) pa_nil)))))) (pss_one (ps_ret (pe_un un_neg pe_int))) pss_nil)
    (pss_cons (ps_setLc (i := 3) (tt := tNot (tB (tCall (spRow K fForm) [] E0 (tCons (tVar 5) (tCons (tVar 1) tNil))))) (own := [("index", 4), ("item", 5)]) (g := gTup K 2 (gCons (gName 4) (gCons (gName 5) gNil)))  rfl sc_wrong_answers.nd rfl rfl (sw_true rfl rfl rfl (by decide +kernel)) (pi_enumA (by rfl) T.enumerate (pa_cons (pv 0) pa_nil)) (blkOk_by (own := [("index", 4), ("item", 5)]) (N := N_wrong_answers) (sc := defScope s_wrong_answers) (by decide +kernel)) (fun _ _ _ _ _ => (pg_tup rfl (pgs_cons (pg_name (i := 4) sc_wrong_answers.nd rfl (by first | exact Or.inl rfl | exact Or.inr rfl)) (pgs_cons (pg_name (i := 5) sc_wrong_answers.nd rfl (by first | exact Or.inl rfl | exact Or.inr rfl)) pgs_nil)))) (fun _ _ _ _ _ => (pts_one (pt_not (pt_val (pe_call G_is_form (hr.mono (by decide)) rfl T.is_form.g T.is_form.F.kp T.is_form.b .nil pass0 (pa_cons (pv 5) (pa_cons (pv 1) pa_nil))))))) (fun _ _ _ _ _ => (pv 4)))
    (pss_one (ps_ret (pe_ifExp (pt_truth (pv 3) (by intro _; rfl)) (pe_ix ix_list (pv 3) pe_int (fun _ _ => rfl)) pe_non))))), ?_⟩
  rcases hp with ⟨x, many, rfl, rfl, hw⟩ | ⟨b, fs, x, rest, many, rfl, rfl, hlen, hf, hx, hsx, hsr⟩ | ⟨b, fs, many, rfl, rfl, hk⟩
  · refine doneS 3 rfl ?_ iv a k
    exact rs_if true ((eb_not (eb_val (ev_call1 [x, .int 1, .int 4] (elc (ev_var rfl) (elc ev_int (elc (ev_var rfl) el_nil))) ⟨_, _, _, rfl⟩ rfl))).imp fun c e => by rw [e, hw]; rfl) (fun _ => rs_ret (ev_neg ev_int)) (fun e => nomatch e)
  · refine doneS 3 rfl ?_ iv a k
    refine rs_if false ((eb_not (eb_val (ev_call1 [seqD b (fs.map intsT ++ x :: rest), .int 1, .int 4] (elc (ev_var rfl) (elc ev_int (elc (ev_var rfl) el_nil))) ⟨_, _, _, rfl⟩ rfl))).imp fun c e => ?_) (fun e => nomatch e) fun _ => ?_
    · rw [e, seqOf_seqD]
      show (!(decide ((1 : Int) ≤ ((fs.map intsT ++ x :: rest).length : Nat)) && decide (((fs.map intsT ++ x :: rest).length : Int) ≤ 4))) = false
      rw [List.length_append, List.length_map, List.length_cons, decide_eq_true (by omega), decide_eq_true (by omega)]
      rfl
    have hform : ∀ {Γ : List Sl} {d : PyData}, Γ[5]? = some (.dat d) → Γ[1]? = some (.dat (.int many)) → smallD d = true → EvB K (tNot (tB (tCall (spRow K fForm) [] E0 (tCons (tVar 5) (tCons (tVar 1) tNil))))) Γ (· = !isInts d (many + 1)) := fun h5 h1 hs => eb_not (eb_val (ev_call1 [_, .int many] (elc (ev_var h5) (elc (ev_var h1) el_nil)) ⟨_, _, rfl, hs⟩ rfl))
    refine rs_set (i := 3) (P' := fun d => ∃ es, d = .list (.int (fs.length : Nat) :: es)) (by show 3 < 6; omega) (ev_lcFirst (n := (fs.map intsT ++ x :: rest).length) (q := fs.length) (Pi := fun i d => ∃ a, (fs.map intsT ++ x :: rest)[i]? = some a ∧ d = .tuple [.int i, a]) (N := NP (wipeΓ [.dat (seqD b (fs.map intsT ++ x :: rest)), .dat (.int many), .dat (.int 4), .any, .any, .any] [4, 5]) 4 5)
      (by simp only [List.length_append, List.length_cons, List.length_map]; omega) (by simp only [List.length_append, List.length_cons, List.length_map]; omega) ?_ (fun i => ?_) (fun i d hi pe => ?_) (fun d pe => ?_) (fun i d hi pe => ?_) fun i d pe => ?_) fun d ⟨es, e⟩ => ?_
    · exact e0_enum (EvL'.imp (elc (ev_var (i := 0) (d := seqD b (fs.map intsT ++ x :: rest)) rfl) el_nil) fun zs e => by rw [e]; cases b <;> simp [seqD])
    · exact fun G σ H x d ev iv ⟨a, h1, h2⟩ => tg_pair (Pq := fun _ _ => True) (by show 4 < 6; omega) (by show 5 < 6; omega) G σ H x d ev iv ⟨_, _, h2, trivial⟩
    · obtain ⟨a', h1, rfl⟩ := pe
      rw [List.getElem?_append_left (by rw [List.length_map]; exact hi), List.getElem?_map] at h1
      obtain ⟨f, h3, rfl⟩ := Option.map_eq_some_iff.mp h1
      have hf' := hf f (List.mem_of_getElem? h3)
      exact (hform (d := intsT f) rfl rfl (small_intsT hf'.2)).imp fun c e => by rw [e, hf'.1]; rfl
    · obtain ⟨a', h1, rfl⟩ := pe
      rw [List.getElem?_append_right (by rw [List.length_map]; exact Nat.le_refl _), List.length_map, Nat.sub_self] at h1
      obtain rfl := Option.some.inj h1
      exact (hform (d := x) rfl rfl hsx).imp fun c e => by rw [e, hx]; rfl
    · obtain ⟨a', h1, rfl⟩ := pe
      have hm := behind h1 (by rw [List.length_map]; exact hi)
      exact (hform (d := a') rfl rfl (hsr a' hm)).imp fun _ _ => trivial
    · obtain ⟨a', h1, rfl⟩ := pe
      exact ev_var rfl
    · subst e
      exact rs_ret (ev_ifT (eb_tru1 (ev_var rfl)) (ev_ixL (n := 0) (ev_var (d := .list (.int (fs.length : Nat) :: es)) rfl) ev_int rfl))
  · refine doneS 3 rfl ?_ iv a k
    obtain ⟨k1, k2, k3⟩ := hk
    refine rs_if false ((eb_not (eb_val (ev_call1 [seqD b (fs.map intsT), .int 1, .int 4] (elc (ev_var rfl) (elc ev_int (elc (ev_var rfl) el_nil))) ⟨_, _, _, rfl⟩ rfl))).imp fun c e => ?_) (fun e => nomatch e) fun _ => ?_
    · rw [e, seqOf_seqD]
      show (!(decide ((1 : Int) ≤ ((fs.map intsT).length : Nat)) && decide (((fs.map intsT).length : Int) ≤ 4))) = false
      rw [List.length_map, decide_eq_true (by omega), decide_eq_true (by omega)]
      rfl
    refine rs_set (i := 3) (P' := (· = .list [])) (by show 3 < 6; omega) (ev_lc0 (n := (fs.map intsT).length) (Pi := fun i d => ∃ a, (fs.map intsT)[i]? = some a ∧ d = .tuple [.int i, a]) (N := NP (wipeΓ [.dat (seqD b (fs.map intsT)), .dat (.int many), .dat (.int 4), .any, .any, .any] [4, 5]) 4 5) ?_ (fun i => ?_) fun i e pe => ?_) fun d e => ?_
    · exact e0_enum (EvL'.imp (elc (ev_var (i := 0) (d := seqD b (fs.map intsT)) rfl) el_nil) fun zs e => by rw [e]; cases b <;> simp [seqD])
    · exact fun G σ H x d ev iv ⟨a, h1, h2⟩ => tg_pair (Pq := fun _ _ => True) (by show 4 < 6; omega) (by show 5 < 6; omega) G σ H x d ev iv ⟨_, _, h2, trivial⟩
    · obtain ⟨a', h1, rfl⟩ := pe
      rw [List.getElem?_map] at h1
      obtain ⟨f, h3, rfl⟩ := Option.map_eq_some_iff.mp h1
      have hf := k3 f (List.mem_of_getElem? h3)
      exact (eb_not (b := true) (eb_val (ev_call1 [intsT f, .int many] (elc (ev_var rfl) (elc (ev_var rfl) el_nil)) ⟨_, _, rfl, small_intsT hf.2⟩ (congrArg PyData.bool hf.1)))).imp fun c e => e
    · subst e
      exact rs_ret (ev_ifF (eb_tru0 (ev_var rfl)) ev_nonC)
theorem ok_checked_code_answers (T : TG1 K mg) : FnOk P w K mg base (L2.CX P w) 6 T.checked_code_answers.f T.checked_code_answers.fd ["answers", "many", "width"] (spAns K T.NoCode.C) := by
  have G_wrong_answers : FnOk P w K mg base CX0 5 T.wrong_answers.f T.wrong_answers.fd ["thing", "many", "most"] (spWrong K) := ok_wrong_answers T
  have G_reduced : FnOk P w K mg base CX0 1 T.reduced.f T.reduced.fd ["numbers", "width"] (spRed K) := ok_reduced T.toTC
  have hl : ∀ {H : Hp} {vs : List V} {ds : List PyData} {r : Res}, DqAll K H vs ds → ((∃ x many w, ds = [x, .int many, .int w] ∧ r = .inr (.str "answers", .int (-1)) ∧ within (seqOf x) 1 4 = false) ∨ (∃ b fs x rest many w, ds = [seqD b (fs.map intsT ++ x :: rest), .int many, .int w] ∧ r = .inr (.str "answers", .int (fs.length : Nat)) ∧ fs.length + rest.length < 4 ∧ formsBad many fs x rest) ∨ (∃ b fs many w, ds = [seqD b (fs.map intsT), .int many, .int w] ∧ r = .inl (fAns ds) ∧ answersOk many fs ∧ 0 ≤ w ∧ w ≤ 64)) → vs.length = 3 := fun a hp => by
    rw [a.length]
    rcases hp with ⟨x, many, w, hp, _⟩ | ⟨b, fs, x, rest, many, w, hp, _⟩ | ⟨b, fs, many, w, hp, _⟩ <;> (rw [hp]; rfl)
  refine T.checked_code_answers.F.okX sc_checked_code_answers (fun vs H Q E ⟨G, ds, r, iv, a, hp, k, kx⟩ => hl a hp) (fun cdv A outer s H vs Q E hr ⟨G, ds, r, iv, a, hp, k, kx⟩ => ?_)
  have hv := hl a hp
  obtain ⟨v, x, y, rfl⟩ := three hv
  obtain ⟨t3, hMOST_ANSWERS⟩ := T.MOST_ANSWERS
  refine ⟨_, (pss_cons (ps_set (i := 3) sc_checked_code_answers.nd rfl (by first | exact Or.inl rfl | exact Or.inr rfl) (pe_call G_wrong_answers (hr.mono (by decide)) rfl T.wrong_answers.g T.wrong_answers.F.kp T.wrong_answers.b .nil pass0 (pa_cons (pv 0) (pa_cons (pv 1) (pa_cons (pe_glob (v := .int 4) rfl hMOST_ANSWERS ⟨_, rfl⟩) pa_nil)))))
    (pss_cons (ps_if (pt_cmpR op_notN (pv 3) pe_non (nomark _)) (pss_one (ps_raise rfl (takes_of rfl rfl rfl rfl) (pmk_oex T.NoCode.o T.NoCode.i T.NoCode.t (ok_NoCode T.NoCode) (hr.mono (by decide)) T.NoCode.b .nil pass0 rfl T.NoCode.m (pa_cons pe_str (pa_cons (pv 3) pa_nil))))) pss_nil)
    (pss_one (ps_ret (pe_tupleOf (by rfl) T.tuple (pe_lc (own := [("form", 4)]) (g := gName 4) (tt := tYes) rfl sc_checked_code_answers.nd (pi_seq (pv 0)) (blkOk_by (own := [("form", 4)]) (N := N_checked_code_answers) (sc := defScope s_checked_code_answers) (by decide +kernel)) (fun _ _ _ _ _ => (pg_name (i := 4) sc_checked_code_answers.nd rfl (by first | exact Or.inl rfl | exact Or.inr rfl))) (fun _ _ _ _ _ => pts_nil) (fun _ _ _ _ _ => (pe_call G_reduced (hr.mono (by decide)) rfl T.reduced.g T.reduced.F.kp T.reduced.b .nil pass0 (pa_cons (pv 4) (pa_cons (pv 2) pa_nil)))))))))), ?_⟩
  rcases hp with ⟨x, many, w, rfl, rfl, hw⟩ | ⟨b, fs, x, rest, many, w, rfl, rfl, hlen, hbad⟩ | ⟨b, fs, many, w, rfl, rfl, hk, h0, h1⟩
  · refine doneX 2 rfl ?_ iv a k kx
    refine rx_set (i := 3) (P' := (· = .int (-1))) (by show 3 < 5; omega) (ev_callP [x, .int many, .int 4] (elc (ev_var rfl) (elc (ev_var rfl) (elc (ev_c fun _ => .int _) el_nil))) (.inl ⟨x, many, rfl, rfl, hw⟩)) fun d e => ?_
    subst e
    exact rx_if true (eb_notNi (ev_var rfl)) (fun _ => rx_raise ((elc ev_str (elc (ev_var rfl) el_nil)).imp fun zs e => ⟨_, _, e, rfl⟩)) (fun e => nomatch e)
  · refine doneX 2 rfl ?_ iv a k kx
    refine rx_set (i := 3) (P' := (· = .int (fs.length : Nat))) (by show 3 < 5; omega) (ev_callP [seqD b (fs.map intsT ++ x :: rest), .int many, .int 4] (elc (ev_var rfl) (elc (ev_var rfl) (elc (ev_c fun _ => .int _) el_nil))) (.inr (.inl ⟨b, fs, x, rest, many, rfl, rfl, hlen, hbad⟩))) fun d e => ?_
    subst e
    exact rx_if true (eb_notNi (ev_var rfl)) (fun _ => rx_raise ((elc ev_str (elc (ev_var rfl) el_nil)).imp fun zs e => ⟨_, _, e, rfl⟩)) (fun e => nomatch e)
  · refine doneX 2 rfl (RetX.of ?_) iv a k kx
    refine Rets.imp (P := (· = fAns [seqD b (fs.map intsT), .int many, .int w])) ?_ fun d e => by rw [e]
    have hk' := hk
    obtain ⟨k1, k2, k3⟩ := hk
    refine rs_set (i := 3) (P' := (· = .none)) (by show 3 < 5; omega) (ev_callP [seqD b (fs.map intsT), .int many, .int 4] (elc (ev_var rfl) (elc (ev_var rfl) (elc (ev_c fun _ => .int _) el_nil))) (.inr (.inr ⟨b, fs, many, rfl, rfl, hk'⟩))) fun d e => ?_
    subst e
    refine rs_if false (eb_notN (ev_var rfl)) (fun e => nomatch e) fun _ => ?_
    refine rs_ret (ev_eq (ev_tupleOf (el_list (ev_lcF (ds := fs.map intsT) (f := redF w) (by rw [List.length_map]; omega) ((ev_var (i := 0) (d := seqD b (fs.map intsT)) rfl).imp fun d e => by rw [e]; cases b <;> simp [seqD]) (tg_name (by show 4 < 5; omega)) fun d hd => ?_))) ?_)
    · obtain ⟨f, hf, rfl⟩ := List.mem_map.mp hd
      exact ev_call1 [intsT f, .int w] (elc (ev_var rfl) (elc (ev_var rfl) el_nil)) ⟨_, _, rfl, (k3 f hf).2, h0, h1⟩ rfl
    · show _ = PyData.tuple (((seqOf (seqD b (fs.map intsT))).getD []).map (redF w))
      rw [seqOf_seqD]
      rfl
/-! ### the rules -/
end
end K39

set_option Elab.async false
set_option linter.all false
set_option maxRecDepth 100000
set_option maxHeartbeats 4000000
namespace K39
open PySem PySem.Spec PyProof.Rows L2
section
variable {P : Program} {w : World} {K : PySem.W.Frag} {mg : Str → Option Value} {base : Heap}
theorem map_get {α β : Type} {xs : List α} {f : α → β} {i : Nat} {y : β} (h : (xs.map f)[i]? = some y) : ∃ x, xs[i]? = some x ∧ y = f x := by
  rw [List.getElem?_map] at h
  obtain ⟨x, h1, h2⟩ := Option.map_eq_some_iff.mp h
  exact ⟨x, h1, h2.symm⟩
theorem el1S {Γ : List Sl} {te : TE} {b : Bool} {ds : List PyData} (h : EvD K te Γ (· = seqD b ds)) : EvL' K (tCons te tNil) Γ (fun zs => zs = [.list ds] ∨ zs = [.tuple ds]) := (elc h el_nil).imp fun zs e => by
  rw [e]
  cases b
  · exact .inr rfl
  · exact .inl rfl
theorem el_seqD {Γ : List Sl} {te : TE} {b : Bool} {ds : List PyData} (h : EvD K te Γ (· = seqD b ds)) : EvD K te Γ (fun d => d = .list ds ∨ d = .tuple ds) := h.imp fun d e => by
  rw [e]
  cases b
  · exact .inr rfl
  · exact .inl rfl
/-! ### the counts -/
def countsOk (cs : List Int) : Prop := 1 ≤ cs.length ∧ cs.length ≤ 5 ∧ ∀ c ∈ cs, 0 ≤ c ∧ c ≤ 16
theorem bet_ok {c lo hi : Int} (h : lo ≤ c ∧ c ≤ hi) : isBet (.int c) lo hi = true := by
  show (decide (lo ≤ c) && decide (c ≤ hi)) = true
  rw [decide_eq_true h.1, decide_eq_true h.2]
  rfl
abbrev spCnt (K : PySem.W.Frag) (C : Addr) : Sp := spX K C "part" "index" fun ds r => (∃ d, ds = [d] ∧ r = .inr (.str "counts", .int (-1)) ∧ within (seqOf d) 1 5 = false) ∨
  (∃ (b : Bool) (cs : List Int) (x : PyData) (rest : List PyData), ds = [seqD b (cs.map .int ++ x :: rest)] ∧ r = .inr (.str "counts", .int ((cs.length : Nat) : Int)) ∧ cs.length + rest.length < 5 ∧ (∀ c ∈ cs, (0 : Int) ≤ c ∧ c ≤ 16) ∧ isBet x 0 16 = false) ∨ (∃ (b : Bool) (cs : List Int), ds = [seqD b (cs.map .int)] ∧ r = .inl (intsT cs) ∧ countsOk cs)
theorem seq_ok {b : Bool} {ds : List PyData} {hi : Nat} (h1 : 1 ≤ ds.length) (h2 : ds.length ≤ hi) : within (seqOf (seqD b ds)) 1 (hi : Nat) = true := by
  rw [seqOf_seqD]
  show (decide ((1 : Int) ≤ (ds.length : Nat)) && decide (((ds.length : Nat) : Int) ≤ (hi : Nat))) = true
  rw [decide_eq_true (by omega), decide_eq_true (by omega)]
  rfl
theorem get_mid {α : Type} {l : List α} {x : α} {rest : List α} : (l ++ x :: rest)[l.length]? = some x := by
  rw [List.getElem?_append_right (Nat.le_refl _), Nat.sub_self]
  rfl
theorem ok_checked_counts (T : TG1 K mg) : FnOk P w K mg base (L2.CX P w) 3 T.checked_counts.f T.checked_counts.fd ["counts"] (spCnt K T.NoCode.C) := by
  have G_is_sequence : FnOk P w K mg base CX0 1 T.is_sequence.f T.is_sequence.fd ["thing", "low", "high"] (spSeq K) := ok_is_sequence T.toTC
  have G_is_between : FnOk P w K mg base CX0 2 T.is_between.f T.is_between.fd ["thing", "low", "high"] (spBet K) := ok_is_between T.toTC
  refine T.checked_counts.F.okX sc_checked_counts (fun vs H Q E ⟨G, ds, r, iv, a, hp, k, kx⟩ => len1 a (by rcases hp with ⟨d, hp, _⟩ | ⟨b, ks, x, rest, hp, _⟩ | ⟨b, ks, hp, _⟩ <;> (rw [hp]; rfl))) (fun cdv A outer s H vs Q E hr ⟨G, ds, r, iv, a, hp, k, kx⟩ => ?_)
  have hl1 : vs.length = 1 := len1 (ps := ["counts"]) a (by rcases hp with ⟨d, hp, _⟩ | ⟨b, ks, x, rest, hp, _⟩ | ⟨b, ks, hp, _⟩ <;> (rw [hp]; rfl))
  obtain ⟨v, rfl⟩ := one hl1
  obtain ⟨t3, hMOST_KINDS⟩ := T.MOST_KINDS
  obtain ⟨t4, hMOST_REGISTERS⟩ := T.MOST_REGISTERS
  refine ⟨_, (pss_cons (ps_if (pt_not (pt_val (pe_call G_is_sequence (hr.mono (by decide)) rfl T.is_sequence.g T.is_sequence.F.kp T.is_sequence.b .nil pass0 (pa_cons (pv 0) (pa_cons pe_int (pa_cons (pe_glob (v := .int 5) rfl hMOST_KINDS ⟨_, rfl⟩) pa_nil)))))) (pss_one (ps_raise rfl (takes_of rfl rfl rfl rfl) (pmk_oex T.NoCode.o T.NoCode.i T.NoCode.t (ok_NoCode T.NoCode) (hr.mono (by decide)) T.NoCode.b .nil pass0 rfl T.NoCode.m (pa_cons pe_str (pa_cons (pe_un un_neg pe_int) pa_nil))))) pss_nil)
    (pss_cons (ps_for (passes_of rfl) rfl (pi_enumA (by rfl) T.enumerate (pa_cons (pv 0) pa_nil)) (pg_tup rfl (pgs_cons (pg_name (i := 1) sc_checked_counts.nd rfl (by first | exact Or.inl rfl | exact Or.inr rfl)) (pgs_cons (pg_name (i := 2) sc_checked_counts.nd rfl (by first | exact Or.inl rfl | exact Or.inr rfl)) pgs_nil)))
      (pss_one (ps_if (pt_not (pt_val (pe_call G_is_between (hr.mono (by decide)) rfl T.is_between.g T.is_between.F.kp T.is_between.b .nil pass0 (pa_cons (pv 2) (pa_cons pe_int (pa_cons (pe_glob (v := .int 16) rfl hMOST_REGISTERS ⟨_, rfl⟩) pa_nil)))))) (pss_one (ps_raise rfl (takes_of rfl rfl rfl rfl) (pmk_oex T.NoCode.o T.NoCode.i T.NoCode.t (ok_NoCode T.NoCode) (hr.mono (by decide)) T.NoCode.b .nil pass0 rfl T.NoCode.m (pa_cons pe_str (pa_cons (pv 1) pa_nil))))) pss_nil)))
    (pss_one (ps_ret (pe_tupleOf (by rfl) T.tuple (pv 0)))))), ?_⟩
  rcases hp with ⟨d, rfl, rfl, hw⟩ | ⟨b, cs, x, rest, rfl, rfl, hlen, hcs, hx⟩ | ⟨b, cs, rfl, rfl, h1, h2, hcs⟩
  · refine doneBX (P := fun d => False) 2 rfl ?_ iv a (fun _ _ _ _ _ h => h.elim) kx
    exact bx_seq (M' := fun _ => False) (bx_if (b := true) (eb_not (b := false) (eb_val (ev_eq (ev_call1 [d, .int 1, .int 5] (elc (ev_var rfl) (elc ev_int (elc (ev_c fun _ => .int _) el_nil))) ⟨_, _, _, rfl⟩ rfl) (congrArg PyData.bool hw)))) (fun _ => bx_raise ((elc ev_str (elc (ev_neg ev_int) el_nil)).imp fun zs e => ⟨_, _, e, rfl⟩)) (fun e => nomatch e)) fun _ h => h.elim
  · let ds : List PyData := cs.map .int ++ x :: rest
    have hdl : ds.length = cs.length + rest.length + 1 := by show (cs.map PyData.int ++ x :: rest).length = _; rw [List.length_append, List.length_map, List.length_cons]; omega
    let Γ0 : List Sl := [.dat (seqD b ds), .any, .any]
    refine doneBX (P := fun d => False) 2 rfl ?_ iv a (fun _ _ _ _ _ h => h.elim) kx
    show BkX K _ _ _ _ _ Γ0 _ _ _ _ _
    refine bx_seq (M' := (· = Γ0)) (bx_if (b := false) (eb_not (b := true) (eb_val (ev_eq (ev_call1 [seqD b ds, .int 1, .int 5] (elc (ev_var rfl) (elc ev_int (elc (ev_c fun _ => .int _) el_nil))) ⟨_, _, _, rfl⟩ rfl) (congrArg PyData.bool (seq_ok (hi := 5) (by omega) (by omega)))))) (fun e => nomatch e) fun _ => bx_of (b_next rfl)) fun Γ' e => ?_
    subst e
    refine bx_seq (M' := fun _ => False) (bx_for (I := fun i Γ' => Γ' = Γ0 ∧ i ≤ cs.length) (n := ds.length) (Pi := fun i d => ∃ a, ds[i]? = some a ∧ d = .tuple [.int i, a]) (N := fun i Γ' d => setSs Γ' [1, 2] ((unT d).map .dat)) (e0_enum (el1S (ev_var rfl))) ⟨rfl, Nat.zero_le _⟩ (fun i Γ' hi ⟨e, _⟩ => by subst e; exact (tgb_tup [1, 2] (by intro j hj; simp at hj; show j < 3; omega)).impP fun d ⟨a, _, e⟩ => ⟨_, e, rfl⟩) (fun i Γ' d hi ⟨e, hic⟩ pd => ?_) fun Γ' ⟨_, h⟩ => by omega) fun _ h => h.elim
    subst e
    obtain ⟨y, hy, rfl⟩ := pd
    let Γ1 : List Sl := [.dat (seqD b ds), .dat (.int (i : Nat)), .dat y]
    show BkX K _ _ _ _ _ Γ1 _ _ _ _ _
    have hcall : ∀ {c : Bool}, isBet y 0 16 = c → EvB K (tNot (tB (tCall (spBet K) [] E0 (tCons (tVar 2) (tCons (tC (.int 0)) (tCons (tC (.int 16)) tNil)))))) (rel Γ1) (· = !c) := fun {c} hc => eb_not (b := c) (eb_val (ev_eq (ev_call1 [y, .int 0, .int 16] (elc (ev_var rfl) (elc ev_int (elc (ev_c fun _ => .int _) el_nil))) ⟨_, _, _, rfl⟩ rfl) (congrArg PyData.bool hc)))
    by_cases hil : i < cs.length
    · have hy : (cs.map PyData.int ++ x :: rest)[i]? = some y := hy
      rw [List.getElem?_append_left (by rw [List.length_map]; exact hil), List.getElem?_map, List.getElem?_eq_getElem hil] at hy
      cases hy
      refine bx_if (b := false) (hcall (bet_ok (hcs _ (List.getElem_mem hil)))) (fun e => nomatch e) fun _ => bx_of (b_next ⟨Γ0, ?_, rfl, hil⟩)
      show W [_, _, _] [_, _, _]
      (repeat (first | exact L2.W.nil | refine L2.W.any ?_ | refine L2.W.eq ?_))
    · have hic2 : i = cs.length := by omega
      subst hic2
      have hy : (cs.map PyData.int ++ x :: rest)[cs.length]? = some y := hy
      have hm := get_mid (l := cs.map PyData.int) (x := x) (rest := rest)
      rw [List.length_map] at hm
      rw [hm] at hy
      cases hy
      exact bx_if (b := true) (hcall hx) (fun _ => bx_raise ((elc ev_str (elc (ev_var rfl) el_nil)).imp fun zs e => ⟨_, _, e, rfl⟩)) (fun e => nomatch e)
  · let ds : List PyData := cs.map .int
    have hdl : ds.length = cs.length := List.length_map _
    let Γ0 : List Sl := [.dat (seqD b ds), .any, .any]
    refine doneBX (P := (· = intsT cs)) 2 rfl ?_ iv a (fun v d H' i l e q => k v d H' i l (congrArg Sum.inl e.symm) q) kx
    show BkX K _ _ _ _ _ Γ0 _ _ _ _ _
    refine bx_seq (M' := (· = Γ0)) (bx_if (b := false) (eb_not (b := true) (eb_val (ev_eq (ev_call1 [seqD b ds, .int 1, .int 5] (elc (ev_var rfl) (elc ev_int (elc (ev_c fun _ => .int _) el_nil))) ⟨_, _, _, rfl⟩ rfl) (congrArg PyData.bool (seq_ok (hi := 5) (by omega) (by omega)))))) (fun e => nomatch e) fun _ => bx_of (b_next rfl)) fun Γ' e => ?_
    subst e
    refine bx_seq (M' := (· = Γ0)) (bx_for (I := fun i Γ' => Γ' = Γ0) (n := ds.length) (Pi := fun i d => ∃ a, ds[i]? = some a ∧ d = .tuple [.int i, a]) (N := fun i Γ' d => setSs Γ' [1, 2] ((unT d).map .dat)) (e0_enum (el1S (ev_var rfl))) rfl (fun i Γ' hi e => by subst e; exact (tgb_tup [1, 2] (by intro j hj; simp at hj; show j < 3; omega)).impP fun d ⟨a, _, e⟩ => ⟨_, e, rfl⟩) (fun i Γ' d hi e pd => ?_) fun Γ' h => h) fun Γ' e => ?_
    · subst e
      obtain ⟨y, hy, rfl⟩ := pd
      obtain ⟨c, hc, rfl⟩ := map_get hy
      let Γ1 : List Sl := [.dat (seqD b ds), .dat (.int (i : Nat)), .dat (.int c)]
      show BkX K _ _ _ _ _ Γ1 _ _ _ _ _
      refine bx_if (b := false) (eb_not (b := true) (eb_val (ev_eq (ev_call1 [.int c, .int 0, .int 16] (elc (ev_var rfl) (elc ev_int (elc (ev_c fun _ => .int _) el_nil))) ⟨_, _, _, rfl⟩ rfl) (congrArg PyData.bool (bet_ok (hcs _ (List.mem_of_getElem? hc))))))) (fun e => nomatch e) fun _ => bx_of (b_next ⟨Γ0, ?_, rfl⟩)
      show W [_, _, _] [_, _, _]
      (repeat (first | exact L2.W.nil | refine L2.W.any ?_ | refine L2.W.eq ?_))
    · subst e
      exact bx_of (b_ret (P := (· = intsT cs)) (ev_eq (ev_tupleOf (ds := ds) (el_seqD (ev_var rfl))) rfl) fun d e => ⟨d, rfl, e⟩)
end
end K39

set_option Elab.async false
set_option linter.all false
set_option maxRecDepth 100000
set_option maxHeartbeats 4000000
namespace K39
open PySem PySem.Spec PyProof.Rows L2
section
variable {P : Program} {w : World} {K : PySem.W.Frag} {mg : Str → Option Value} {base : Heap}
/-! ### the lines of a code -/
structure Cr where
  kind : Int
  ch : List Int
  num : Int
  sums : List (List Tm)
def Cr.D (r : Cr) : PyData := .tuple [.int r.kind, intsT r.ch, .int r.num, .tuple (r.sums.map sumD)]
def redS (w : Int) : PyData → PyData
  | .tuple ys => .tuple (ys.map (redT w))
  | y => y
def Cr.R (w : Int) (r : Cr) : PyData := .tuple [.int r.kind, intsT r.ch, .int r.num, .tuple ((r.sums.map sumD).map (redS w))]
def crGood (cs : List Int) (r : Cr) : Prop := isCR cs r.D = true ∧ smallD r.D = true
def linesOk (cs : List Int) (rs : List Cr) : Prop := 1 ≤ rs.length ∧ rs.length ≤ 12 ∧ ∀ r ∈ rs, crGood cs r
def linesBad (cs : List Int) (rs : List Cr) (x : PyData) : Prop := (∀ r ∈ rs, crGood cs r) ∧ smallD x = true ∧ isCR cs x = false
abbrev spLines (K : PySem.W.Frag) (C : Addr) : Sp := spX K C "part" "index" fun ds r => (∃ (x : PyData) (cs : List Int) (w : Int), ds = [x, intsT cs, .int w] ∧ r = .inr (.str "rules", .int (-1)) ∧ within (seqOf x) 1 12 = false) ∨
  (∃ (b : Bool) (rs : List Cr) (x : PyData) (rest : List PyData) (cs : List Int) (w : Int), ds = [seqD b (rs.map Cr.D ++ x :: rest), intsT cs, .int w] ∧ r = .inr (.str "rules", .int ((rs.length : Nat) : Int)) ∧ rs.length + rest.length < 12 ∧ linesBad cs rs x ∧ 0 ≤ w ∧ w ≤ 64) ∨
  (∃ (b : Bool) (rs : List Cr) (cs : List Int) (w : Int), ds = [seqD b (rs.map Cr.D), intsT cs, .int w] ∧ r = .inl (.tuple (rs.map (Cr.R w))) ∧ linesOk cs rs ∧ 0 ≤ w ∧ w ≤ 64)
theorem ok_checked_code_rules (T : TG1 K mg) : FnOk P w K mg base (L2.CX P w) 7 T.checked_code_rules.f T.checked_code_rules.fd ["rules", "counts", "width"] (spLines K T.NoCode.C) := by
  have G_is_sequence : FnOk P w K mg base CX0 1 T.is_sequence.f T.is_sequence.fd ["thing", "low", "high"] (spSeq K) := ok_is_sequence T.toTC
  have G_is_code_rule : FnOk P w K mg base CX0 6 T.is_code_rule.f T.is_code_rule.fd ["thing", "counts"] (spCR K) := ok_is_code_rule T
  have G_reduced_sum : FnOk P w K mg base CX0 1 T.reduced_sum.f T.reduced_sum.fd ["terms", "width"] (spRedS K) := ok_reduced_sum T.toTC
  refine T.checked_code_rules.F.okX sc_checked_code_rules (fun vs H Q E ⟨G, ds, r, iv, a, hp, k, kx⟩ => len1 a (by rcases hp with ⟨_, _, _, hp, _⟩ | ⟨_, _, _, _, _, _, hp, _⟩ | ⟨_, _, _, _, hp, _⟩ <;> (rw [hp]; rfl))) (fun cdv A outer s H vs Q E hr ⟨G, ds, r, iv, a, hp, k, kx⟩ => ?_)
  have hl1 : vs.length = 3 := len1 (ps := ["rules", "counts", "width"]) a (by rcases hp with ⟨_, _, _, hp, _⟩ | ⟨_, _, _, _, _, _, hp, _⟩ | ⟨_, _, _, _, hp, _⟩ <;> (rw [hp]; rfl))
  obtain ⟨v, v2, v3, rfl⟩ := three hl1
  obtain ⟨t3, hMOST_RULES⟩ := T.MOST_RULES
  refine ⟨_, (pss_cons (ps_if (pt_not (pt_val (pe_call G_is_sequence (hr.mono (by decide)) rfl T.is_sequence.g T.is_sequence.F.kp T.is_sequence.b .nil pass0 (pa_cons (pv 0) (pa_cons pe_int (pa_cons (pe_glob (v := .int 12) rfl hMOST_RULES ⟨_, rfl⟩) pa_nil)))))) (pss_one (ps_raise rfl (takes_of rfl rfl rfl rfl) (pmk_oex T.NoCode.o T.NoCode.i T.NoCode.t (ok_NoCode T.NoCode) (hr.mono (by decide)) T.NoCode.b .nil pass0 rfl T.NoCode.m (pa_cons pe_str (pa_cons (pe_un un_neg pe_int) pa_nil))))) pss_nil)
    (pss_cons (ps_set (i := 3) sc_checked_code_rules.nd rfl (by first | exact Or.inl rfl | exact Or.inr rfl) (pe_lst pa_nil))
    (pss_cons (ps_for (passes_of rfl) rfl (pi_enumA (by rfl) T.enumerate (pa_cons (pv 0) pa_nil)) (pg_tup rfl (pgs_cons (pg_name (i := 4) sc_checked_code_rules.nd rfl (by first | exact Or.inl rfl | exact Or.inr rfl)) (pgs_cons (pg_name (i := 5) sc_checked_code_rules.nd rfl (by first | exact Or.inl rfl | exact Or.inr rfl)) pgs_nil)))
      (pss_cons (ps_if (pt_not (pt_val (pe_call G_is_code_rule (hr.mono (by decide)) rfl T.is_code_rule.g T.is_code_rule.F.kp T.is_code_rule.b .nil pass0 (pa_cons (pv 5) (pa_cons (pv 1) pa_nil))))) (pss_one (ps_raise rfl (takes_of rfl rfl rfl rfl) (pmk_oex T.NoCode.o T.NoCode.i T.NoCode.t (ok_NoCode T.NoCode) (hr.mono (by decide)) T.NoCode.b .nil pass0 rfl T.NoCode.m (pa_cons pe_str (pa_cons (pv 4) pa_nil))))) pss_nil)
      (pss_cons (ps_asg (pv 5) (pg_tup rfl (pgs_cons (pg_name (i := 6) sc_checked_code_rules.nd rfl (by first | exact Or.inl rfl | exact Or.inr rfl)) (pgs_cons (pg_name (i := 7) sc_checked_code_rules.nd rfl (by first | exact Or.inl rfl | exact Or.inr rfl)) (pgs_cons (pg_name (i := 8) sc_checked_code_rules.nd rfl (by first | exact Or.inl rfl | exact Or.inr rfl)) (pgs_cons (pg_name (i := 9) sc_checked_code_rules.nd rfl (by first | exact Or.inl rfl | exact Or.inr rfl)) pgs_nil))))))
      (pss_one (ps_expr (pe_bm PySem.F.plainAttrs_list PySem.F.slot_list_append PySem.F.type_list_append mt_append (pv 3) (pa_cons (pe_tup (pa_cons (pv 6) (pa_cons (pe_tupleOf (by rfl) T.tuple (pv 7)) (pa_cons (pv 8) (pa_cons (pe_tupleOf (by rfl) T.tuple (pe_lc (own := [("terms", 10)]) (g := gName 10) (tt := tYes) rfl sc_checked_code_rules.nd (pi_seq (pv 9)) (blkOk_by (own := [("terms", 10)]) (N := N_checked_code_rules) (sc := defScope s_checked_code_rules) (by decide +kernel)) (fun _ _ _ _ _ => (pg_name (i := 10) sc_checked_code_rules.nd rfl (by first | exact Or.inl rfl | exact Or.inr rfl))) (fun _ _ _ _ _ => pts_nil) (fun _ _ _ _ _ => (pe_call G_reduced_sum (hr.mono (by decide)) rfl T.reduced_sum.g T.reduced_sum.F.kp T.reduced_sum.b .nil pass0 (pa_cons (pv 10) (pa_cons (pv 2) pa_nil)))))) pa_nil))))) pa_nil)))))))
    (pss_one (ps_ret (pe_tupleOf (by rfl) T.tuple (pv 3))))))), ?_⟩
  have hcr : ∀ {Γ : List Sl} {d : PyData} {cs : List Int} {c : Bool}, Γ[5]? = some (.dat d) → Γ[1]? = some (.dat (intsT cs)) → smallD d = true → isCR cs d = c → EvB K (tNot (tB (tCall (spCR K) [] E0 (tCons (tVar 5) (tCons (tVar 1) tNil))))) Γ (· = !c) := fun {Γ d cs c} h5 h1 hs hc => eb_not (b := c) (eb_val (ev_eq (ev_call1 [d, intsT cs] (elc (ev_var h5) (elc (ev_var h1) el_nil)) ⟨d, cs, rfl, hs⟩ rfl) (congrArg PyData.bool (by show isCR ((cs.map PyData.int).map unI) d = c; rw [unI_ints, hc]))))
  have hmerge : (∃ (d : PyData) (cs : List Int) (w : Int), ds = [d, intsT cs, .int w] ∧ r = .inr (.str "rules", .int (-1)) ∧ within (seqOf d) 1 12 = false) ∨
      ∃ (b : Bool) (rs : List Cr) (tl : List PyData) (cs : List Int) (w : Int), ds = [seqD b (rs.map Cr.D ++ tl), intsT cs, .int w] ∧ 1 ≤ rs.length + tl.length ∧ rs.length + tl.length ≤ 12 ∧ (∀ r ∈ rs, crGood cs r) ∧ 0 ≤ w ∧ w ≤ 64 ∧
        ((tl = [] ∧ r = .inl (.tuple (rs.map (Cr.R w)))) ∨ ∃ x rest, tl = x :: rest ∧ smallD x = true ∧ isCR cs x = false ∧ r = .inr (.str "rules", .int ((rs.length : Nat) : Int))) := by
    rcases hp with ⟨d, cs, w, e1, e2, hw⟩ | ⟨b, rs, x, rest, cs, w, e1, e2, hlen, ⟨hrs, hsx, hx⟩, h0, h64⟩ | ⟨b, rs, cs, w, e1, e2, ⟨h1, h2, hrs⟩, h0, h64⟩
    · exact .inl ⟨d, cs, w, e1, e2, hw⟩
    · exact .inr ⟨b, rs, x :: rest, cs, w, e1, by rw [List.length_cons]; omega, by rw [List.length_cons]; omega, hrs, h0, h64, .inr ⟨x, rest, rfl, hsx, hx, e2⟩⟩
    · exact .inr ⟨b, rs, [], cs, w, by rw [List.append_nil]; exact e1, by show 1 ≤ rs.length + 0; omega, by show rs.length + 0 ≤ 12; omega, hrs, h0, h64, .inl ⟨rfl, e2⟩⟩
  rcases hmerge with ⟨d, cs, w, rfl, rfl, hw⟩ | ⟨b, rs, tl, cs, w, rfl, h1, h2, hrs, h0, h64, htl⟩
  · refine doneBX (P := fun d => False) 8 rfl ?_ iv a (fun _ _ _ _ _ h => h.elim) kx
    exact bx_seq (M' := fun _ => False) (bx_if (b := true) (eb_not (b := false) (eb_val (ev_eq (ev_call1 [d, .int 1, .int 12] (elc (ev_var rfl) (elc ev_int (elc (ev_c fun _ => .int _) el_nil))) ⟨_, _, _, rfl⟩ rfl) (congrArg PyData.bool hw)))) (fun _ => bx_raise ((elc ev_str (elc (ev_neg ev_int) el_nil)).imp fun zs e => ⟨_, _, e, rfl⟩)) (fun e => nomatch e)) fun _ h => h.elim
  · let ds : List PyData := rs.map Cr.D ++ tl
    have hdl : ds.length = rs.length + tl.length := by show (rs.map Cr.D ++ tl).length = _; rw [List.length_append, List.length_map]
    let Γl : Nat → List Sl := fun i => [.dat (seqD b ds), .dat (intsT cs), .dat (.int w), .olst ((rs.take i).map (Cr.R w)), .any, .any, .any, .any, .any, .any, .any]
    refine doneBX (P := fun d => r = .inl d) 8 rfl ?_ iv a (fun v d H' i l e q => k v d H' i l e q) kx
    show BkX K _ _ _ _ _ [.dat (seqD b ds), .dat (intsT cs), .dat (.int w), .any, .any, .any, .any, .any, .any, .any, .any] _ _ _ _ _
    refine bx_seq (M' := (· = [.dat (seqD b ds), .dat (intsT cs), .dat (.int w), .any, .any, .any, .any, .any, .any, .any, .any])) (bx_if (b := false) (eb_not (b := true) (eb_val (ev_eq (ev_call1 [seqD b ds, .int 1, .int 12] (elc (ev_var rfl) (elc ev_int (elc (ev_c fun _ => .int _) el_nil))) ⟨_, _, _, rfl⟩ rfl) (congrArg PyData.bool (seq_ok (hi := 12) (by omega) (by omega)))))) (fun e => nomatch e) fun _ => bx_of (b_next rfl)) fun Γ' e => ?_
    subst e
    refine bx_seq (M' := (· = Γl 0)) (bx_of (b_setN1 (i := 3) (PN := (· = [])) (by show 3 < 11; omega) (en_lst el_nil) fun ds e => by subst e; rfl)) fun Γ' e => ?_
    subst e
    refine bx_seq (M' := fun Γ' => Γ' = Γl rs.length ∧ tl = []) (bx_for (I := fun i Γ' => Γ' = Γl i ∧ i ≤ rs.length) (n := ds.length) (Pi := fun i d => ∃ a, ds[i]? = some a ∧ d = .tuple [.int i, a]) (N := fun i Γ' d => setSs Γ' [4, 5] ((unT d).map .dat)) (e0_enum (el1S (ev_var rfl))) ⟨rfl, Nat.zero_le _⟩ (fun i Γ' hi ⟨e, _⟩ => by subst e; exact (tgb_tup [4, 5] (by intro j hj; simp at hj; show j < 11; omega)).impP fun d ⟨a, _, e⟩ => ⟨_, e, rfl⟩) (fun i Γ' d hi ⟨e, hic⟩ pd => ?_) fun Γ' ⟨e, h⟩ => by
      have ht : tl = [] := List.eq_nil_of_length_eq_zero (by omega)
      have hn : ds.length = rs.length := by omega
      rw [hn] at e
      exact ⟨e, ht⟩) fun Γ' ⟨e, ht⟩ => ?_
    · subst e
      obtain ⟨y, hy, rfl⟩ := pd
      have hy : (rs.map Cr.D ++ tl)[i]? = some y := hy
      let Γ1 : List Sl := [.dat (seqD b ds), .dat (intsT cs), .dat (.int w), .olst ((rs.take i).map (Cr.R w)), .dat (.int (i : Nat)), .dat y, .any, .any, .any, .any, .any]
      show BkX K _ _ _ _ _ Γ1 _ _ _ _ _
      by_cases hil : i < rs.length
      · rw [List.getElem?_append_left (by rw [List.length_map]; exact hil)] at hy
        obtain ⟨x, hx, rfl⟩ := map_get hy
        have hg := hrs x (List.mem_of_getElem? hx)
        have hsm := small_tuple hg.2
        have hsv := small_mem hsm.2 (d := .tuple (x.sums.map sumD)) (by simp)
        refine bx_seq (M' := (· = Γ1)) (bx_if (b := false) (hcr (c := true) rfl rfl hg.2 hg.1) (fun e => nomatch e) fun _ => bx_of (b_next rfl)) fun Γ' e => ?_
        subst e
        refine bx_of (b_asg (P := (· = x.D)) (ev_var rfl) ((tgb_tup [6, 7, 8, 9] (by intro j hj; simp at hj; show j < 11; omega)).impP fun d e => ⟨_, e, rfl⟩) fun d e => ?_)
        subst e
        let Γ2 : List Sl := [.dat (seqD b ds), .dat (intsT cs), .dat (.int w), .olst ((rs.take i).map (Cr.R w)), .dat (.int (i : Nat)), .dat x.D, .dat (.int x.kind), .dat (intsT x.ch), .dat (.int x.num), .dat (.tuple (x.sums.map sumD)), .any]
        show Bk K _ Γ2 _ _ _ _
        refine b_app (j := 3) (P := (· = x.R w)) (ds := (rs.take i).map (Cr.R w)) rfl (by rw [List.length_map, List.length_take]; omega) (ev_eq (ev_tupE [.int x.kind, intsT x.ch, .int x.num, .tuple ((x.sums.map sumD).map (redS w))] (elc (ev_var rfl) (elc (ev_tupleOf (ds := x.ch.map .int) (el_tuple (ev_var rfl))) (elc (ev_var rfl) (elc (ev_tupleOf (el_list (ev_lcF (ds := x.sums.map sumD) (f := redS w) (by have := (small_tuple hsv).1; omega) (el_tuple (ev_var rfl)) (tg_name (by show 10 < 11; omega)) fun d hd => ?_))) el_nil))))) rfl) fun e he => ?_
        · obtain ⟨ts, hts, rfl⟩ := List.mem_map.mp hd
          have hsl := (small_tuple (small_mem (small_tuple hsv).2 hd)).1
          rw [List.length_map] at hsl
          exact ev_call1 [sumD ts, .int w] (elc (ev_var rfl) (elc (ev_var rfl) el_nil)) ⟨_, _, rfl, hsl, h0, h64⟩ rfl
        · subst he
          refine ⟨Γl (i + 1), ?_, rfl, hil⟩
          have e5 : (rs.take i).map (Cr.R w) ++ [x.R w] = (rs.take (i + 1)).map (Cr.R w) := by
            rw [List.take_add_one, hx, List.map_append]
            rfl
          show W [_, _, _, Sl.olst ((rs.take i).map (Cr.R w) ++ [x.R w]), _, _, _, _, _, _, _] [_, _, _, Sl.olst ((rs.take (i + 1)).map (Cr.R w)), _, _, _, _, _, _, _]
          rw [e5]
          (repeat (first | exact L2.W.nil | refine L2.W.any ?_ | refine L2.W.eq ?_))
      · have hie : i = rs.length := by omega
        subst hie
        rcases htl with ⟨rfl, _⟩ | ⟨x, rest, rfl, hsx, hx, hr2⟩
        · have : ds.length = rs.length + 0 := hdl
          omega
        · have hm := get_mid (l := rs.map Cr.D) (x := x) (rest := rest)
          rw [List.length_map] at hm
          rw [hm] at hy
          cases hy
          exact bx_seq (M' := fun _ => False) (bx_if (b := true) (hcr (c := false) rfl rfl hsx hx) (fun _ => bx_raise ((elc ev_str (elc (ev_var rfl) el_nil)).imp fun zs e => ⟨_, _, e, hr2⟩)) (fun e => nomatch e)) fun _ h => h.elim
    · subst e
      rcases htl with ⟨_, hr2⟩ | ⟨x, rest, e, _⟩
      · exact bx_of (b_retR (P := (· = .tuple (rs.map (Cr.R w)))) (ev_tupleOf (ds := rs.map (Cr.R w)) (el_list (ev_eq (ev_var rfl) (by rw [List.take_of_length_le (Nat.le_refl _)])))) fun d e => ⟨d, rfl, by rw [hr2, e]⟩)
      · rw [ht] at e
        cases e
end
end K39

set_option Elab.async false
set_option linter.all false
set_option maxRecDepth 100000
set_option maxHeartbeats 4000000
namespace K39
open PySem PySem.Spec PyProof.Rows L2
section
variable {P : Program} {w : World} {K : PySem.W.Frag} {mg : Str → Option Value} {base : Heap}
abbrev s_Code_init__ : Stmt := inClass (topS 27) 0
abbrev N_Code_init__ : List Str := ["self", "width", "counts", "rules", "top", "answers", "own_counts", "own_rules", "own_answers"]
theorem sc_Code_init__ : FnScope N_Code_init__ ["self", "width", "counts", "rules", "top", "answers"] (defScope s_Code_init__) := ⟨rfl, rfl, rfl, by decide +kernel, rfl, by decide +kernel, by decide +kernel⟩
structure TGr (K : PySem.W.Frag) (mg : Str → Option Value) extends TG1 K mg where
  gC : Addr
  gI : Addr
  dI : FuncData
  gm : mg "Code" = some (.ref gC)
  FI : Fun K "__init__" "Code.__init__" s_Code_init__ gI dI
  bI : Binds K dI ["self", "width", "counts", "rules", "top", "answers"] []
  cl : Cls K gC
  nW : NoAttr K gC "width"
  nC : NoAttr K gC "counts"
  nR : NoAttr K gC "rules"
  nT : NoAttr K gC "top"
  nA : NoAttr K gC "answers"
  mkc : Mk K gC gI
structure GArgs where
  w : Int
  bc : Bool
  cs : List Int
  br : Bool
  rs : List Cr
  t : Nat
  ba : Bool
  fs : List (List Int)
def GArgs.ds (g : GArgs) : List PyData := [.int g.w, seqD g.bc (g.cs.map .int), seqD g.br (g.rs.map Cr.D), .int (g.t : Nat), seqD g.ba (g.fs.map intsT)]
def GArgs.ok (g : GArgs) : Prop := 1 ≤ g.w ∧ g.w ≤ 64 ∧ countsOk g.cs ∧ linesOk g.cs g.rs ∧ g.t < g.cs.length ∧ answersOk (g.cs.getD g.t 0) g.fs
def GArgs.F (g : GArgs) : List (Str × PyData) := [("width", .int g.w), ("counts", intsT g.cs), ("rules", .tuple (g.rs.map (Cr.R g.w))), ("top", .int (g.t : Nat)), ("answers", fAns [seqD g.ba (g.fs.map intsT), .int (g.cs.getD g.t 0), .int g.w])]
/-- what is wrong with the counts, the rules, the answers -/
def badC (d : PyData) (i : Int) : Prop := (i = -1 ∧ within (seqOf d) 1 5 = false) ∨ ∃ (b : Bool) (cs : List Int) (x : PyData) (rest : List PyData), d = seqD b (cs.map .int ++ x :: rest) ∧ i = (cs.length : Nat) ∧ cs.length + rest.length < 5 ∧ (∀ c ∈ cs, (0 : Int) ≤ c ∧ c ≤ 16) ∧ isBet x 0 16 = false
def badR (cs : List Int) (d : PyData) (i : Int) : Prop := (i = -1 ∧ within (seqOf d) 1 12 = false) ∨ ∃ (b : Bool) (rs : List Cr) (x : PyData) (rest : List PyData), d = seqD b (rs.map Cr.D ++ x :: rest) ∧ i = (rs.length : Nat) ∧ rs.length + rest.length < 12 ∧ linesBad cs rs x
def badA (many : Int) (d : PyData) (i : Int) : Prop := (i = -1 ∧ within (seqOf d) 1 4 = false) ∨ ∃ (b : Bool) (fs : List (List Int)) (x : PyData) (rest : List PyData), d = seqD b (fs.map intsT ++ x :: rest) ∧ i = (fs.length : Nat) ∧ fs.length + rest.length < 4 ∧ formsBad many fs x rest
/-- what Code answers: r tells the part and the index, or the fields -/
inductive GX : List PyData → ResF → Prop
  | w (wd a b c e : PyData) (h : isBet wd 1 64 = false) : GX [wd, a, b, c, e] (.inr (.str "width", .int (-1)))
  | k (w : Int) (kd b c e : PyData) (i : Int) (h1 : 1 ≤ w) (h2 : w ≤ 64) (h : badC kd i) : GX [.int w, kd, b, c, e] (.inr (.str "counts", .int i))
  | r (w : Int) (bc : Bool) (cs : List Int) (rd c e : PyData) (i : Int) (h1 : 1 ≤ w) (h2 : w ≤ 64) (hk : countsOk cs) (h : badR cs rd i) : GX [.int w, seqD bc (cs.map .int), rd, c, e] (.inr (.str "rules", .int i))
  | t (w : Int) (bc : Bool) (cs : List Int) (br : Bool) (rs : List Cr) (td e : PyData) (h1 : 1 ≤ w) (h2 : w ≤ 64) (hk : countsOk cs) (hr : linesOk cs rs) (h : isKC cs td = false) : GX [.int w, seqD bc (cs.map .int), seqD br (rs.map Cr.D), td, e] (.inr (.str "top", .int (-1)))
  | a (w : Int) (bc : Bool) (cs : List Int) (br : Bool) (rs : List Cr) (t : Nat) (ad : PyData) (i : Int) (h1 : 1 ≤ w) (h2 : w ≤ 64) (hk : countsOk cs) (hr : linesOk cs rs) (ht : t < cs.length) (h : badA (cs.getD t 0) ad i) : GX [.int w, seqD bc (cs.map .int), seqD br (rs.map Cr.D), .int (t : Nat), ad] (.inr (.str "answers", .int i))
  | g (g : GArgs) (h : g.ok) : GX g.ds (.inl g.F)
abbrev spGX (K : PySem.W.Frag) (C Cx : Addr) : Sp := spInitXF K C Cx "part" "index" GX
theorem GX.len {ds : List PyData} {r : ResF} (h : GX ds r) : ds.length = 5 := by cases h <;> rfl
theorem top_ok {cs : List Int} {t : Nat} (ht : t < cs.length) : isKC cs (.int (t : Nat)) = true := bet_ok ⟨by omega, by omega⟩
theorem ok_init (T : TGr K mg) : FnOk P w K mg base (L2.CX P w) 8 T.gI T.dI ["self", "width", "counts", "rules", "top", "answers"] (spGX K T.gC T.NoCode.C) := by
  have G_is_width : FnOk P w K mg base CX0 3 T.is_width.f T.is_width.fd ["thing"] (spI K fun d => isBet d 1 64) := ok_is_width T.toTC
  have G_is_between : FnOk P w K mg base CX0 2 T.is_between.f T.is_between.fd ["thing", "low", "high"] (spBet K) := ok_is_between T.toTC
  have G_checked_counts : FnOk P w K mg base (L2.CX P w) 3 T.checked_counts.f T.checked_counts.fd ["counts"] (spCnt K T.NoCode.C) := ok_checked_counts T.toTG1
  have G_checked_code_rules : FnOk P w K mg base (L2.CX P w) 7 T.checked_code_rules.f T.checked_code_rules.fd ["rules", "counts", "width"] (spLines K T.NoCode.C) := ok_checked_code_rules T.toTG1
  have G_checked_code_answers : FnOk P w K mg base (L2.CX P w) 6 T.checked_code_answers.f T.checked_code_answers.fd ["answers", "many", "width"] (spAns K T.NoCode.C) := ok_checked_code_answers T.toTG1
  refine T.FI.okX sc_Code_init__ (fun vs H Q E ⟨G, x, dx, ws, ds, r, ev, iv, a, hp, _⟩ => by rw [ev, List.length_cons, a.length, hp.len]; rfl) (fun cdv A outer s0 H vs Q E hr ⟨G, x, dx, ws, ds, r, ev, iv, a, hp, k, kx⟩ => ?_)
  subst ev
  obtain ⟨v1, v2, v3, v4, v5, rfl⟩ := five (a.length.trans hp.len)
  refine ⟨_, (pss_cons (ps_if (pt_not (pt_val (pe_call G_is_width (hr.mono (by decide)) rfl T.is_width.g T.is_width.F.kp T.is_width.b .nil pass0 (pa_cons (pv 1) pa_nil)))) (pss_one (ps_raise rfl (takes_of rfl rfl rfl rfl) (pmk_oex T.NoCode.o T.NoCode.i T.NoCode.t (ok_NoCode T.NoCode) (hr.mono (by decide)) T.NoCode.b .nil pass0 rfl T.NoCode.m (pa_cons pe_str (pa_cons (pe_un un_neg pe_int) pa_nil))))) pss_nil)
    (pss_cons (ps_set (i := 6) sc_Code_init__.nd rfl (by first | exact Or.inl rfl | exact Or.inr rfl) (pe_call G_checked_counts (hr.mono (by decide)) rfl T.checked_counts.g T.checked_counts.F.kp T.checked_counts.b .nil (passes_call (takes_of rfl rfl rfl rfl) fun _ _ _ _ h => h) (pa_cons (pv 2) pa_nil)))
    (pss_cons (ps_set (i := 7) sc_Code_init__.nd rfl (by first | exact Or.inl rfl | exact Or.inr rfl) (pe_call G_checked_code_rules (hr.mono (by decide)) rfl T.checked_code_rules.g T.checked_code_rules.F.kp T.checked_code_rules.b .nil (passes_call (takes_of rfl rfl rfl rfl) fun _ _ _ _ h => h) (pa_cons (pv 3) (pa_cons (pv 6) (pa_cons (pv 1) pa_nil)))))
    (pss_cons (ps_if (pt_not (pt_val (pe_call G_is_between (hr.mono (by decide)) rfl T.is_between.g T.is_between.F.kp T.is_between.b .nil pass0 (pa_cons (pv 4) (pa_cons pe_int (pa_cons (pe_op op_sub (pe_callB call_len_seq (by rfl) T.len (by decide +kernel) (pa_cons (pv 6) pa_nil)) pe_int) pa_nil)))))) (pss_one (ps_raise rfl (takes_of rfl rfl rfl rfl) (pmk_oex T.NoCode.o T.NoCode.i T.NoCode.t (ok_NoCode T.NoCode) (hr.mono (by decide)) T.NoCode.b .nil pass0 rfl T.NoCode.m (pa_cons pe_str (pa_cons (pe_un un_neg pe_int) pa_nil))))) pss_nil)
    (pss_cons (ps_set (i := 8) sc_Code_init__.nd rfl (by first | exact Or.inl rfl | exact Or.inr rfl) (pe_call G_checked_code_answers (hr.mono (by decide)) rfl T.checked_code_answers.g T.checked_code_answers.F.kp T.checked_code_answers.b .nil (passes_call (takes_of rfl rfl rfl rfl) fun _ _ _ _ h => h) (pa_cons (pv 5) (pa_cons (pe_ix ix_tup (pv 6) (pv 4) (fun _ _ => rfl)) (pa_cons (pv 1) pa_nil)))))
    (pss_cons (ps_fld (pv 0) (pv 1) rfl)
    (pss_cons (ps_fld (pv 0) (pv 6) rfl)
    (pss_cons (ps_fld (pv 0) (pv 7) rfl)
    (pss_cons (ps_fld (pv 0) (pv 4) rfl)
    (pss_one (ps_fld (pv 0) (pv 8) rfl))))))))))), ?_⟩
  have hgo : ∀ {d1 d2 d3 d4 d5 : PyData} {ts : TS}, ds = [d1, d2, d3, d4, d5] → InitXF K T.gC T.NoCode.C E "part" "index" ts [.any, .dat d1, .dat d2, .dat d3, .dat d4, .dat d5, .any, .any, .any] 0 (fun fs => r = .inl fs) (fun p i => r = .inr (p, i)) →
      ts { nx := fun _ H' => Q .non H', rt := Q } (L2.start N_Code_init__ [.ref x, v1, v2, v3, v4, v5]) H := fun e h => by
    subst e
    exact h G _ H _ x dx (envOk_of (vs := [.ref x, v1, v2, v3, v4, v5]) (ss := [.any, .dat _, .dat _, .dat _, .dat _, .dat _]) 3 (.cons trivial (argsOf a))) iv rfl (fun σ' H' us fs i' e' hg q => k H' us fs i' e' hg q) kx
  have hwok : ∀ {w : Int}, 1 ≤ w → w ≤ 64 → isBet (.int w) 1 64 = true := fun {w} w1 w2 => bet_ok ⟨w1, w2⟩
  have hw : ∀ {Γ : List Sl} {w : Int}, Γ[1]? = some (.dat (.int w)) → 1 ≤ w → w ≤ 64 → EvB K (tNot (tB (tCall (spI K fun d => isBet d 1 64) [] E0 (tCons (tVar 1) tNil)))) Γ (· = false) := fun {Γ w} h1 w1 w2 => (eb_not (b := true) (eb_val (ev_call1 [.int w] (elc (ev_var h1) el_nil) ⟨_, rfl⟩ (congrArg PyData.bool (hwok w1 w2))))).imp fun b e => e
  have hcnt : ∀ {Γ : List Sl} {bc : Bool} {cs : List Int} {tu : TS} {PF : List (Str × PyData) → Prop} {PX : PyData → PyData → Prop}, 6 < Γ.length → Γ[2]? = some (.dat (seqD bc (cs.map .int))) → countsOk cs → InitXF K T.gC T.NoCode.C E "part" "index" tu (Γ.set 6 (.dat (intsT cs))) 0 PF PX → InitXF K T.gC T.NoCode.C E "part" "index" (tSeq (tAsg (tCall (spCnt K T.NoCode.C) [] E (tCons (tVar 2) tNil)) (gName 6)) tu) Γ 0 PF PX := fun {Γ bc cs tu PF PX} hl h2 hc h => if_call (i := 6) [seqD bc (cs.map .int)] (.inl (intsT cs)) hl (by decide) (elc (ev_var h2) el_nil) (.inr (.inr ⟨bc, cs, rfl, rfl, hc⟩)) (fun p i e => nomatch e) fun d e => by cases e; exact h
  have hlin : ∀ {Γ : List Sl} {br : Bool} {cs : List Int} {rs : List Cr} {w : Int} {tu : TS} {PF : List (Str × PyData) → Prop} {PX : PyData → PyData → Prop}, 7 < Γ.length → Γ[3]? = some (.dat (seqD br (rs.map Cr.D))) → Γ[6]? = some (.dat (intsT cs)) → Γ[1]? = some (.dat (.int w)) → linesOk cs rs → 0 ≤ w → w ≤ 64 → InitXF K T.gC T.NoCode.C E "part" "index" tu (Γ.set 7 (.dat (.tuple (rs.map (Cr.R w))))) 0 PF PX → InitXF K T.gC T.NoCode.C E "part" "index" (tSeq (tAsg (tCall (spLines K T.NoCode.C) [] E (tCons (tVar 3) (tCons (tVar 6) (tCons (tVar 1) tNil)))) (gName 7)) tu) Γ 0 PF PX := fun {Γ br cs rs w tu PF PX} hl h3 h6 h1 hc w0 w1 h => if_call (i := 7) [seqD br (rs.map Cr.D), intsT cs, .int w] (.inl (.tuple (rs.map (Cr.R w)))) hl (by decide) (elc (ev_var h3) (elc (ev_var h6) (elc (ev_var h1) el_nil))) (.inr (.inr ⟨br, rs, cs, w, rfl, rfl, hc, w0, w1⟩)) (fun p i e => nomatch e) fun d e => by cases e; exact h
  have htop : ∀ {Γ : List Sl} {cs : List Int} {d : PyData} {c : Bool}, Γ[4]? = some (.dat d) → Γ[6]? = some (.dat (intsT cs)) → isKC cs d = c → EvB K (tNot (tB (tCall (spBet K) [] E0 (tCons (tVar 4) (tCons (tC (.int 0)) (tCons (tOp (rI0 fun i j => V.int (i - j)) (tCB (fun xs H Q => ∃ p ys, xs = [V.ref p] ∧ (SqL K H p ys ∨ SqT K H p ys) ∧ Q (V.int (ys.length : Nat)) H) (tCons (tVar 6) tNil)) (tC (.int 1))) tNil)))))) Γ (· = !c) := fun {Γ cs d c} h4 h6 hc => eb_not (b := c) (eb_val (ev_eq (ev_call1 [d, .int 0, .int ((cs.length : Int) - 1)] (elc (ev_var h4) (elc ev_int (elc (ev_opC1 (a := (cs.length : Nat)) (b := 1) (g' := fun i j => .int (i - j)) (fun _ _ _ => .int _) (ev_eq (ev_len (ds := cs.map .int) (el_tuple (ev_var h6))) (by rw [List.length_map])) ev_int) el_nil))) ⟨_, _, _, rfl⟩ rfl) (congrArg PyData.bool hc)))
  have hmany : ∀ {Γ : List Sl} {cs : List Int} {t : Nat}, Γ[6]? = some (.dat (intsT cs)) → Γ[4]? = some (.dat (.int (t : Nat))) → t < cs.length → EvD K (tOp (rIxT K) (tVar 6) (tVar 4)) Γ (· = .int (cs.getD t 0)) := fun {Γ cs t} h6 h4 ht => ev_ixT (n := t) (ds := cs.map .int) (ev_var h6) (ev_var h4) (by rw [List.getElem?_map, List.getD_eq_getElem?_getD, List.getElem?_eq_getElem ht]; rfl)
  cases hp with
  | w wd b c d e h =>
    refine hgo rfl ?_
    exact if_if true ((eb_not (b := false) (eb_val (ev_call1 [wd] (elc (ev_var rfl) el_nil) ⟨_, rfl⟩ (congrArg PyData.bool h)))).imp fun b e => e) (fun _ => rx_raise ((elc ev_str (elc (ev_neg ev_int) el_nil)).imp fun zs e => ⟨_, _, e, rfl⟩)) (fun e => nomatch e)
  | k w kd b c e i w1 w2 h =>
    refine hgo rfl ?_
    refine if_if false (hw rfl w1 w2) (fun e => nomatch e) fun _ => ?_
    refine if_call (i := 6) [kd] (.inr (.str "counts", .int i)) (by show 6 < 9; omega) (by decide) (elc (ev_var rfl) el_nil) ?_ (fun p i e => by cases e; rfl) (fun d e => nomatch e)
    rcases h with ⟨rfl, h⟩ | ⟨b, cs, x, rest, rfl, rfl, h1, h2, h3⟩
    · exact .inl ⟨kd, rfl, rfl, h⟩
    · exact .inr (.inl ⟨b, cs, x, rest, rfl, rfl, h1, h2, h3⟩)
  | r w bc cs rd c e i w1 w2 hk h =>
    refine hgo rfl ?_
    refine if_if false (hw rfl w1 w2) (fun e => nomatch e) fun _ => ?_
    refine hcnt (by show 6 < 9; omega) rfl hk ?_
    refine if_call (i := 7) [rd, intsT cs, .int w] (.inr (.str "rules", .int i)) (by show 7 < 9; omega) (by decide) (elc (ev_var rfl) (elc (ev_var rfl) (elc (ev_var rfl) el_nil))) ?_ (fun p i e => by cases e; rfl) (fun d e => nomatch e)
    rcases h with ⟨rfl, h⟩ | ⟨b, rs, x, rest, rfl, rfl, h1, h2⟩
    · exact .inl ⟨rd, _, _, rfl, rfl, h⟩
    · exact .inr (.inl ⟨b, rs, x, rest, _, _, rfl, rfl, h1, h2, by omega, w2⟩)
  | t w bc cs br rs td e w1 w2 hk hrs h =>
    refine hgo rfl ?_
    refine if_if false (hw rfl w1 w2) (fun e => nomatch e) fun _ => ?_
    refine hcnt (by show 6 < 9; omega) rfl hk ?_
    refine hlin (by show 7 < 9; omega) rfl rfl rfl hrs (by omega) w2 ?_
    exact if_if true (htop (c := false) rfl rfl h) (fun _ => rx_raise ((elc ev_str (elc (ev_neg ev_int) el_nil)).imp fun zs e => ⟨_, _, e, rfl⟩)) (fun e => nomatch e)
  | a w bc cs br rs t ad i w1 w2 hk hrs ht h =>
    refine hgo rfl ?_
    refine if_if false (hw rfl w1 w2) (fun e => nomatch e) fun _ => ?_
    refine hcnt (by show 6 < 9; omega) rfl hk ?_
    refine hlin (by show 7 < 9; omega) rfl rfl rfl hrs (by omega) w2 ?_
    refine if_if false (htop (c := true) rfl rfl (top_ok ht)) (fun e => nomatch e) fun _ => ?_
    refine if_call (i := 8) [ad, .int (cs.getD t 0), .int w] (.inr (.str "answers", .int i)) (by show 8 < 9; omega) (by decide) (elc (ev_var rfl) (elc (hmany rfl rfl ht) (elc (ev_var rfl) el_nil))) ?_ (fun p i e => by cases e; rfl) (fun d e => nomatch e)
    rcases h with ⟨rfl, h⟩ | ⟨b, fs, x, rest, rfl, rfl, h1, h2⟩
    · exact .inl ⟨ad, _, _, rfl, rfl, h⟩
    · exact .inr (.inl ⟨b, fs, x, rest, _, _, rfl, rfl, h1, h2⟩)
  | g g hg =>
    refine hgo rfl ?_
    obtain ⟨w1, w2, hk, hrs, ht, ha⟩ := hg
    refine if_if false (hw rfl w1 w2) (fun e => nomatch e) fun _ => ?_
    refine hcnt (by show 6 < 9; omega) rfl hk ?_
    refine hlin (by show 7 < 9; omega) rfl rfl rfl hrs (by omega) w2 ?_
    refine if_if false (htop (c := true) rfl rfl (top_ok ht)) (fun e => nomatch e) fun _ => ?_
    refine if_call (i := 8) [seqD g.ba (g.fs.map intsT), .int (g.cs.getD g.t 0), .int g.w] (.inl (fAns [seqD g.ba (g.fs.map intsT), .int (g.cs.getD g.t 0), .int g.w])) (by show 8 < 9; omega) (by decide) (elc (ev_var rfl) (elc (hmany rfl rfl ht) (elc (ev_var rfl) el_nil))) (.inr (.inr ⟨_, _, _, _, rfl, rfl, ha, by omega, w2⟩)) (fun p i e => nomatch e) fun d e => ?_
    cases e
    generalize hdA : fAns [seqD g.ba (g.fs.map intsT), .int (g.cs.getD g.t 0), .int g.w] = dA
    have hΓ : ∀ (q : Nat) s, q ≠ 0 → ([.any, .dat (.int g.w), .dat (seqD g.bc (g.cs.map .int)), .dat (seqD g.br (g.rs.map Cr.D)), .dat (.int (g.t : Nat)), .dat (seqD g.ba (g.fs.map intsT)), .dat (intsT g.cs), .dat (.tuple (g.rs.map (Cr.R g.w))), .dat dA] : List Sl)[q]? = some s → s = .any ∨ ∃ z, s = .dat z := fun q s hq hs => by
      match q, hs with
      | 0, hs => exact absurd rfl hq
      | 1, hs => exact .inr ⟨_, (Option.some.inj hs).symm⟩
      | 2, hs => exact .inr ⟨_, (Option.some.inj hs).symm⟩
      | 3, hs => exact .inr ⟨_, (Option.some.inj hs).symm⟩
      | 4, hs => exact .inr ⟨_, (Option.some.inj hs).symm⟩
      | 5, hs => exact .inr ⟨_, (Option.some.inj hs).symm⟩
      | 6, hs => exact .inr ⟨_, (Option.some.inj hs).symm⟩
      | 7, hs => exact .inr ⟨_, (Option.some.inj hs).symm⟩
      | 8, hs => exact .inr ⟨_, (Option.some.inj hs).symm⟩
      | q + 9, hs => cases hs
    refine if_of (f1 := [("width", .int g.w), ("counts", intsT g.cs), ("rules", .tuple (g.rs.map (Cr.R g.w))), ("top", .int (g.t : Nat)), ("answers", dA)]) (by rw [← hdA]; rfl) ?_
    refine in_fld (i := 1) (d := .int g.w) T.cl T.nW rfl rfl (Nat.le_of_ble_eq_true rfl) hΓ rfl ?_
    refine in_fld (i := 6) (d := intsT g.cs) T.cl T.nC rfl rfl (Nat.le_of_ble_eq_true rfl) hΓ rfl ?_
    refine in_fld (i := 7) (d := .tuple (g.rs.map (Cr.R g.w))) T.cl T.nR rfl rfl (Nat.le_of_ble_eq_true rfl) hΓ rfl ?_
    refine in_fld (i := 4) (d := .int (g.t : Nat)) T.cl T.nT rfl rfl (Nat.le_of_ble_eq_true rfl) hΓ rfl ?_
    exact in_last (K := K) (C := T.gC) (j := 0) (i := 8) (f := "answers") (d := dA) (f0 := [("width", .int g.w), ("counts", intsT g.cs), ("rules", .tuple (g.rs.map (Cr.R g.w))), ("top", .int (g.t : Nat))]) T.cl T.nA rfl rfl (Nat.le_of_ble_eq_true rfl) hΓ rfl
end
end K39

set_option Elab.async false
set_option linter.all false
set_option maxRecDepth 100000
set_option maxHeartbeats 4000000
namespace K39
open PySem PySem.Spec PyProof.Rows L2
/-! ### what the law draws: kinds and rules of a grammar, told by data -/
def letters : Str := "abcdefghijklmnopqrstuvwxyz"
def signIn (z : Str) : Bool := !(Builtin.Str.occurrences letters z 0 letters.length 1).isEmpty
def nameS (s : Str) : Bool := (decide ((1 : Int) ≤ (s.length : Nat)) && decide (((s.length : Nat) : Int) ≤ 8)) && s.cps.toList.all fun c => signIn ⟨#[c]⟩
def isName : PyData → Bool
  | .str s => nameS s
  | _ => false
def strsIn (xs : List PyData) : List Str := xs.filterMap fun x => match x with
  | .str s => some s
  | _ => none
def attrsOk (o : Option (List PyData)) : Bool := match o with
  | some xs => xs.all isName && decide (strsIn xs).Nodup
  | none => false
def isKind (d : PyData) : Bool := match d with
  | .tuple [n, a] => (isName n && within (tupOf a) 1 3) && attrsOk (tupOf a)
  | _ => false
theorem two_of {d : PyData} (h : within (tupOf d) 2 2 = true) : ∃ n a, d = .tuple [n, a] := by
  cases d with
  | tuple xs =>
    have h : (decide ((2 : Int) ≤ (xs.length : Nat)) && decide (((xs.length : Nat) : Int) ≤ 2)) = true := h
    rw [Bool.and_eq_true] at h
    have h1 := of_decide_eq_true h.1
    have h2 := of_decide_eq_true h.2
    match xs, (by omega : xs.length = 2) with
    | [a, b], _ => exact ⟨a, b, rfl⟩
  | _ => cases h
theorem names_strs : ∀ {xs : List PyData}, xs.all isName = true → xs = (strsIn xs).map .str
  | [], _ => rfl
  | x :: xs, h => by
    rw [List.all_cons, Bool.and_eq_true] at h
    have ih := names_strs h.2
    cases x with
    | str s => exact congrArg (List.cons _) ih
    | _ => cases h.1
structure Kd where
  name : Str
  attrs : List Str
def Kd.D (k : Kd) : PyData := .tuple [.str k.name, .tuple (k.attrs.map .str)]
def kindsOk (ks : List Kd) : Prop := 1 ≤ ks.length ∧ ks.length ≤ 5 ∧ (ks.map Kd.name).Nodup ∧ ∀ k ∈ ks, isKind k.D = true ∧ smallD k.D = true
theorem lookup_none {m : List (Str × PyData)} {s : Str} (h : s ∉ m.map (·.1)) : m.lookup s = none := by
  induction m with
  | nil => rfl
  | cons p m ih =>
    rw [List.lookup_cons]
    have h1 : (s == p.1) = false := beq_eq_false_iff_ne.mpr fun e => h (by simp [e])
    rw [h1]
    exact ih fun z => h (by simp at z ⊢; exact .inr z)
theorem new_of_nodup {m : List (Str × PyData)} (h : (m.map (·.1)).Nodup) (i : Nat) (p : Str × PyData) (hp : m[i]? = some p) : (m.take i).lookup p.1 = none := by
  refine lookup_none fun z => ?_
  have hi := (List.getElem?_eq_some_iff.mp hp).1
  have e1 : m.map (·.1) = (m.take i).map (·.1) ++ (m.drop i).map (·.1) := by rw [← List.map_append, List.take_append_drop]
  rw [e1, List.nodup_append] at h
  have h2 : p.1 ∈ (m.drop i).map (·.1) := by
    refine List.mem_map.mpr ⟨p, ?_, rfl⟩
    refine List.mem_of_getElem? (i := 0) ?_
    rw [List.getElem?_drop]
    exact hp
  exact h.2.2 _ z _ h2 rfl
theorem lookup_at : ∀ {m : List (Str × PyData)}, (m.map (·.1)).Nodup → ∀ {i : Nat} {s : Str} {d : PyData}, m[i]? = some (s, d) → m.lookup s = some d
  | [], _, i, s, d, h => by simp at h
  | (t, e) :: m, hn, i, s, d, h => by
    rw [List.map_cons, List.nodup_cons] at hn
    rw [List.lookup_cons]
    cases i with
    | zero =>
      simp at h
      rw [h.1, h.2, beq_self_eq_true]
    | succ i =>
      have h2 : m[i]? = some (s, d) := by simpa using h
      have hne : (s == t) = false := beq_eq_false_iff_ne.mpr fun z => hn.1 (by
        subst z
        exact List.mem_map.mpr ⟨(s, d), List.mem_of_getElem? h2, rfl⟩)
      rw [hne]
      exact lookup_at hn.2 h2
def szs (ks : List Kd) : List (Str × PyData) := ks.map fun k => (k.name, .int (k.attrs.length : Nat))
def isKn (m : List (Str × PyData)) : PyData → Bool
  | .str s => (m.lookup s).isSome
  | _ => false
def szI (m : List (Str × PyData)) : PyData → Int
  | .str s => match m.lookup s with
    | some (.int n) => n
    | _ => 0
  | _ => 0
def intsOk (m : List (Str × PyData)) : Prop := ∀ s d, m.lookup s = some d → ∃ n, d = .int n
theorem szI_get {m : List (Str × PyData)} (hm : intsOk m) {d : PyData} (h : isKn m d = true) : ∃ s, d = .str s ∧ m.lookup s = some (.int (szI m d)) := by
  cases d with
  | str s =>
    refine ⟨s, rfl, ?_⟩
    have h : (m.lookup s).isSome = true := h
    obtain ⟨e, he⟩ := Option.isSome_iff_exists.mp h
    obtain ⟨n, rfl⟩ := hm s e he
    show _ = some (PyData.int (match m.lookup s with
      | some (.int n) => n
      | _ => 0))
    rw [he]
  | _ => cases h
def sumOk (ns : List Int) (m : Int) (d : PyData) : Bool := within (tupOf d) 0 12 && allOf (tupOf d) fun x => isTerm x ns m
def isRule (m : List (Str × PyData)) (d : PyData) : Bool := match d with
  | .tuple [na, ki, ch, nu, va] => (isName na && isKn m ki) && ((within (tupOf ch) 0 2 && allOf (tupOf ch) (isKn m)) && ((isBet nu 0 2 && within (tupOf va) (szI m ki) (szI m ki)) && allOf (tupOf va) (sumOk ((itemsOf (tupOf ch)).map (szI m)) (unI nu))))
  | _ => false
theorem five_of {d : PyData} (h : within (tupOf d) 5 5 = true) : ∃ a b c e f, d = .tuple [a, b, c, e, f] := by
  cases d with
  | tuple xs =>
    have h : (decide ((5 : Int) ≤ (xs.length : Nat)) && decide (((xs.length : Nat) : Int) ≤ 5)) = true := h
    rw [Bool.and_eq_true] at h
    have h1 := of_decide_eq_true h.1
    have h2 := of_decide_eq_true h.2
    match xs, (by omega : xs.length = 5) with
    | [a, b, c, d, e], _ => exact ⟨a, b, c, d, e, rfl⟩
  | _ => cases h
structure Ru where
  name : Str
  kind : Str
  ch : List Str
  num : Int
  sums : List (List Tm)
def Ru.D (r : Ru) : PyData := .tuple [.str r.name, .str r.kind, .tuple (r.ch.map .str), .int r.num, .tuple (r.sums.map sumD)]
def redR (w : Int) : PyData → PyData
  | .tuple [a, b, c, d, .tuple xs] => .tuple [a, b, c, d, .tuple (xs.map (redS w))]
  | y => y
def rulesOk (m : List (Str × PyData)) (rs : List Ru) : Prop := 1 ≤ rs.length ∧ rs.length ≤ 12 ∧ (rs.map Ru.name).Nodup ∧ ∀ r ∈ rs, isRule m r.D = true ∧ smallD r.D = true
theorem szs_ints (ks : List Kd) : intsOk (szs ks) := fun s d h => by
  unfold szs at h
  induction ks with
  | nil => cases h
  | cons k ks ih =>
    rw [List.map_cons, List.lookup_cons] at h
    split at h
    · exact ⟨_, (Option.some.inj h).symm⟩
    · exact ih h
section
variable {P : Program} {w : World} {K : PySem.W.Frag} {mg : Str → Option Value} {base : Heap}
theorem doneF {G : Fr} {H : Hp} {vs : List V} {ss : List Sl} {D : Ends} {Pd : PyData → Prop} {N : List Str} {ts : TS} (n : Nat) (hs : L2.start N vs = vs.map some ++ List.replicate n none) (h : Rets K ts (ss ++ List.replicate n .any) Pd) (iv : G.inv H) (a : ArgsOk K G H vs ss) (k : ∀ v d H', G.inv H' → G.le H H' → Pd d → Dq K (G.view H') v d → D.rt v H') : ts D (L2.start N vs) H := by
  rw [hs]
  exact h G _ H D (envOk_of n a) iv k
def cnt : PyData → Str × PyData
  | .tuple [.str n, .tuple as] => (n, .int (as.length : Nat))
  | _ => ("", .none)
theorem szs_cnt (ks : List Kd) : (ks.map Kd.D).map cnt = szs ks := by
  unfold szs
  rw [List.map_map]
  refine List.map_congr_left fun k _ => ?_
  show (k.name, PyData.int ((k.attrs.map PyData.str).length : Nat)) = _
  rw [List.length_map]
end
end K39

set_option Elab.async false
set_option linter.all false
set_option maxRecDepth 100000
set_option maxHeartbeats 4000000
namespace K39
open PySem PySem.Spec PyProof.Rows L2
section
variable {P : Program} {w : World} {K : PySem.W.Frag} {mg : Str → Option Value} {base : Heap}
/-! ### the law's draws -/
abbrev s_law_draw : Stmt := topS 33
abbrev N_law_draw : List Str := ["_law_well", "_law_many", "_law_found", "_law_number_here"]
theorem sc_law_draw : FnScope N_law_draw ["_law_well", "_law_many"] (defScope s_law_draw) := ⟨rfl, rfl, rfl, by decide +kernel, rfl, by decide +kernel, by decide +kernel⟩
abbrev s_law_one : Stmt := topS 34
abbrev N_law_one : List Str := ["_law_well", "_law_some"]
theorem sc_law_one : FnScope N_law_one ["_law_well", "_law_some"] (defScope s_law_one) := ⟨rfl, rfl, rfl, by decide +kernel, rfl, by decide +kernel, by decide +kernel⟩
abbrev s_law_number : Stmt := topS 35
abbrev N_law_number : List Str := ["_law_well", "_law_width_so", "_law_great", "_law_some"]
theorem sc_law_number : FnScope N_law_number ["_law_well", "_law_width_so"] (defScope s_law_number) := ⟨rfl, rfl, rfl, by decide +kernel, rfl, by decide +kernel, by decide +kernel⟩
structure TL1 (K : PySem.W.Frag) (mg : Str → Option Value) extends TGr K mg where
  law_draw : Df K mg "_law_draw" s_law_draw ["_law_well", "_law_many"]
  law_one : Df K mg "_law_one" s_law_one ["_law_well", "_law_some"]
  law_number : Df K mg "_law_number" s_law_number ["_law_well", "_law_width_so"]
def Well (H : Hp) (a : Addr) (p q r : Int) : Prop := H a = some (.lst [.int p, .int q, .int r])
def spDraw0 : Sp := fun vs H Q _ => ∃ (a : Addr) (p q r m : Int), vs = [.ref a, .int m] ∧ Well H a p q r ∧ 0 < m ∧ m.natAbs < 2 ^ 100 ∧
  ∀ n p' r', 0 ≤ n → n < m → Q (.int n) (upd H a (.lst [.int p', .int q, .int r']))
theorem ok_law_draw0 (T : TL1 K mg) : FnOk P w K mg base CX0 1 T.law_draw.f T.law_draw.fd ["_law_well", "_law_many"] spDraw0 := by
  refine T.law_draw.F.ok sc_law_draw (fun vs H Q E h => ?_) (fun cdv A outer s H vs Q E hr h => ?_)
  · obtain ⟨a, p, q, r, m, rfl, _⟩ := h
    rfl
  · obtain ⟨a, p, q, r, m, rfl, hW, hm, hm2, k⟩ := h
    have hd : ∀ i : Int, CDivW i m := fun i => wide_div hm hm2 (by decide) (by decide)
    refine ⟨_, (pss_cons (ps_if (pt_cmpR op_gt (pe_ix ix_list (pv 0) pe_int (fun _ _ => rfl)) pe_int (nomark _)) (pss_cons (ps_set (i := 2) sc_law_draw.nd rfl (by first | exact Or.inl rfl | exact Or.inr rfl) (pe_op op_mod (pe_callTy call_int1 (by rfl) T.int (by decide +kernel) (pa_cons (pe_ix ix_list (pv 0) pe_int (fun _ _ => rfl)) pa_nil)) (pv 1)))
      (pss_cons (ps_asg (pe_op op_fdivW (pe_ix ix_list (pv 0) pe_int (fun _ _ => rfl)) (pv 1)) (pg_sub (pv 0) pe_int set_list))
      (pss_one (ps_ret (pv 2))))) pss_nil)
    (pss_cons (ps_asg (pe_op op_add (pe_ix ix_list (pv 0) pe_int (fun _ _ => rfl)) pe_int) (pg_sub (pv 0) pe_int set_list))
    (pss_cons (ps_set (i := 3) sc_law_draw.nd rfl (by first | exact Or.inl rfl | exact Or.inr rfl) (pe_op op_mod (pe_callTy call_int1 (by rfl) T.int (by decide +kernel) (pa_cons (pe_op op_mul (pe_op op_add (pe_op op_add (pe_ix ix_list (pv 0) pe_int (fun _ _ => rfl)) (pe_op op_mul pe_int (pe_ix ix_list (pv 0) pe_int (fun _ _ => rfl)))) pe_int) pe_int) pa_nil)) pe_int))
    (pss_cons (ps_set (i := 3) sc_law_draw.nd rfl (by first | exact Or.inl rfl | exact Or.inr rfl) (pe_op op_mod (pe_callTy call_int1 (by rfl) T.int (by decide +kernel) (pa_cons (pe_op op_mul (pv 3) (pe_op op_add (pe_op op_fdivW (pv 3) pe_int) pe_int)) pa_nil)) pe_int))
    (pss_one (ps_ret (pe_op op_mod (pe_callTy call_int1 (by rfl) T.int (by decide +kernel) (pa_cons (pe_op op_mod (pe_callTy call_int1 (by rfl) T.int (by decide +kernel) (pa_cons (pe_op op_mul (pv 3) (pe_op op_add (pe_op op_fdivW (pv 3) pe_int) pe_int)) pa_nil)) pe_int) pa_nil)) (pv 1)))))))), ?_⟩
    refine ⟨_, rfl, a, _, _, _, rfl, rfl, SqL.of hW, rfl, _, _, rfl, rfl, _, rfl, ite2 (fun c => ?_) (fun c => ?_)⟩
    · refine ⟨_, rfl, a, _, _, _, rfl, rfl, SqL.of hW, rfl, .inl ⟨_, rfl, _, rfl, _, _, rfl, rfl, hm, ?_⟩⟩
      refine ⟨_, rfl, a, _, _, _, rfl, rfl, SqL.of hW, rfl, _, rfl, _, _, rfl, rfl, hd _, _, rfl, a, _, _, _, rfl, rfl, hW, rfl, ?_⟩
      exact ⟨_, rfl, k _ _ _ (Int.emod_nonneg _ (by omega)) (Int.emod_lt_of_pos _ hm)⟩
    · refine ⟨_, rfl, a, _, _, _, rfl, rfl, SqL.of hW, rfl, _, _, rfl, rfl, _, rfl, a, _, _, _, rfl, rfl, hW, rfl, ?_⟩
      refine ⟨_, rfl, a, _, _, _, rfl, rfl, SqL.of upd_same, rfl, _, rfl, a, _, _, _, rfl, rfl, SqL.of upd_same, rfl, _, _, rfl, rfl, .inl ⟨by decide, by decide⟩, _, _, rfl, rfl, _, _, rfl, rfl, _, _, rfl, rfl, .inr ⟨by decide, by decide⟩, .inl ⟨_, rfl, _, _, rfl, rfl, (by show (0 : Int) < 2147483647; decide), ?_⟩⟩
      generalize hg : ((q + 104729 * (r + 1) + 1) * 48271 % 2147483647 : Int) = g
      have hg0 : 0 ≤ g := by omega
      have hg1 : g < 2147483647 := by omega
      have hd1 : ∀ i : Int, CDivW i 1009 := fun i => wide_div (by decide) (b := 20) (by decide) (by decide) (by decide)
      have hd2 : ∀ i : Int, CDivW i 2003 := fun i => wide_div (by decide) (b := 20) (by decide) (by decide) (by decide)
      refine ⟨_, rfl, _, rfl, _, _, rfl, rfl, hd1 _, _, _, rfl, rfl, _, _, rfl, rfl, .inl ⟨by omega, by omega⟩, .inl ⟨_, rfl, _, _, rfl, rfl, (by show (0 : Int) < 2147483647; decide), ?_⟩⟩
      generalize hg' : (g * (g / 1009 + 69621) % 2147483647 : Int) = g'
      have hg0' : 0 ≤ g' := by rw [← hg']; exact Int.emod_nonneg _ (by decide)
      have hg1' : g' < 2147483647 := by rw [← hg']; exact Int.emod_lt_of_pos _ (by decide)
      refine ⟨_, rfl, _, rfl, _, _, rfl, rfl, hd2 _, _, _, rfl, rfl, _, _, rfl, rfl, .inl ⟨by omega, by omega⟩, .inl ⟨_, rfl, _, _, rfl, rfl, (by show (0 : Int) < 2147483399; decide), .inl ⟨_, rfl, _, rfl, _, _, rfl, rfl, hm, ?_⟩⟩⟩
      exact k _ _ _ (Int.emod_nonneg _ (by omega)) (Int.emod_lt_of_pos _ hm)
def drawPre (ss : List Sl) : Prop := ∃ m : Int, ss = [.well, .dat (.int m)] ∧ 0 < m ∧ m.natAbs < 2 ^ 100
def drawPost (ss : List Sl) (d : PyData) : Prop := ∀ m : Int, ss = [.well, .dat (.int m)] → ∃ n : Nat, d = .int n ∧ (n : Int) < m
abbrev spDraw (K : PySem.W.Frag) : Sp := spF K drawPre drawPost
theorem ok_law_draw (T : TL1 K mg) : FnOk P w K mg base CX0 1 T.law_draw.f T.law_draw.fd ["_law_well", "_law_many"] (spDraw K) := (ok_law_draw0 T).imp fun vs H Q E ⟨G, ss, iv, ar, ⟨m, hp, h0, h1⟩, k⟩ => by
  subst hp
  cases ar with
  | cons a1 t1 =>
    cases t1 with
    | cons a2 t2 =>
      cases t2
      obtain ⟨a, q, rfl, hw⟩ := a1
      cases a2
      obtain ⟨p, r, ha⟩ := hw.at_ iv
      refine ⟨a, p, q, r, m, rfl, ha, h0, h1, fun n p' r' n0 n1 => ?_⟩
      have st := hw.put (p := p') (r := r') iv
      refine k (.int n) (.int n) _ st.1 (fun c u h => by rw [st.2]; exact h) (fun m' e => ?_) (.int n)
      injection e with _ e
      injection e with e
      injection e with e
      injection e with e
      exact ⟨n.toNat, by rw [Int.toNat_of_nonneg n0], by omega⟩
/-- a draw as an expression -/
theorem ev_draw {Γ : List Sl} {E : XK} {te : TE} {i : Nat} {m : Int} (hi : Γ[i]? = some .well) (h : EvD K te Γ (· = .int m)) (h0 : 0 < m) (h1 : m.natAbs < 2 ^ 100) : EvD K (tCall (spDraw K) [] E (tCons (tVar i) (tCons te tNil))) Γ (fun d => ∃ n : Nat, d = .int n ∧ (n : Int) < m) :=
  (ev_call (es_well hi (es_cons h es_nil)) fun ss ⟨r, e1, d, r2, e2, e3, e4⟩ => ⟨m, by rw [e1, e2, e3, e4], h0, h1⟩).imp fun d ⟨ss, ⟨r, e1, d', r2, e2, e3, e4⟩, hp⟩ => hp m (by rw [e1, e2, e3, e4])
/-! ### one of some values -/
abbrev spOne (K : PySem.W.Frag) : Sp := spF K (fun ss => ∃ ds : List PyData, ss = [.well, .dat (.list ds)] ∧ 0 < ds.length ∧ ds.length ≤ 1000) (fun ss d => ∀ ds : List PyData, ss = [.well, .dat (.list ds)] → d ∈ ds)
theorem ok_law_one (T : TL1 K mg) : FnOk P w K mg base CX0 2 T.law_one.f T.law_one.fd ["_law_well", "_law_some"] (spOne K) := by
  have G_law_draw : FnOk P w K mg base CX0 1 T.law_draw.f T.law_draw.fd ["_law_well", "_law_many"] (spDraw K) := ok_law_draw T
  refine T.law_one.F.ok sc_law_one (fun vs H Q E ⟨G, ss, iv, a, ⟨ds, hp, _⟩, k⟩ => a.length.trans (by rw [hp]; rfl)) (fun cdv A outer s H vs Q E hr ⟨G, ss, iv, a, ⟨ds, hp, h0, h1⟩, k⟩ => ?_)
  subst hp
  obtain ⟨v, x, rfl⟩ := two a.length
  refine ⟨_, (pss_one (ps_ret (pe_ix ix_list (pv 1) (pe_call G_law_draw (hr.mono (by decide)) rfl T.law_draw.g T.law_draw.F.kp T.law_draw.b .nil pass0 (pa_cons (pv 0) (pa_cons (pe_callB call_len_seq (by rfl) T.len (by decide +kernel) (pa_cons (pv 1) pa_nil)) pa_nil))) (fun _ _ => rfl)))), ?_⟩
  refine (ev_ixLW (Γ := [.well, .dat (.list ds)]) (ev_var rfl) ((ev_draw (i := 0) (m := ds.length) rfl (ev_len (el_list (ev_var rfl))) (by omega) ?_).imp fun d ⟨n, e1, e2⟩ => ⟨n, e1, by omega⟩)) G _ H (envOk_of 0 a) iv _ fun v d H' i' l' p' dq => k v d H' i' l' (fun ds' e => ?_) dq
  · have : (2 : Nat) ^ 100 > 1000 := by decide
    omega
  · cases e
    exact p'
end
end K39

set_option Elab.async false
set_option linter.all false
set_option maxRecDepth 100000
set_option maxHeartbeats 4000000
namespace K39
open PySem PySem.Spec PyProof.Rows L2
section
variable {P : Program} {w : World} {K : PySem.W.Frag} {mg : Str → Option Value} {base : Heap}
def isI (d : PyData) : Prop := ∃ n : Int, d = .int n
def AllI (k : Nat) (ds : List PyData) : Prop := ds.length = k ∧ ∀ d ∈ ds, isI d
theorem elI0 {Γ : List Sl} : EvL' K tNil Γ (AllI 0) := el_nil.imp fun ds e => by rw [e]; exact ⟨rfl, fun d h => nomatch h⟩
theorem elI {Γ : List Sl} {te : TE} {ta : TA} {k : Nat} (h : EvD K te Γ isI) (t : EvL' K ta Γ (AllI k)) : EvL' K (tCons te ta) Γ (AllI (k + 1)) := (el_cons h t).imp fun ds ⟨d, r, e, hd, hr⟩ => by
  rw [e]
  exact ⟨congrArg (· + 1) hr.1, fun x hx => (List.mem_cons.mp hx).elim (fun z => z ▸ hd) fun z => hr.2 x z⟩
theorem toI {Γ : List Sl} {te : TE} {n : Int} (h : EvD K te Γ (· = .int n)) : EvD K te Γ isI := h.imp fun d e => ⟨n, e⟩
/-- a number of the width w -/
def inW (w : Int) (d : PyData) : Prop := ∃ n : Int, d = .int n ∧ 0 ≤ n ∧ n < 1 * 2 ^ w.toNat
abbrev spNum (K : PySem.W.Frag) : Sp := spF K (fun ss => ∃ w, ss = [.well, .dat (.int w)] ∧ 0 ≤ w ∧ w ≤ 64) (fun ss d => ∀ w, ss = [.well, .dat (.int w)] → inW w d)
theorem dat_int {a b : Int} (h : ([.well, .dat (.int a)] : List Sl) = [.well, .dat (.int b)]) : a = b := by
  injection h with _ h
  injection h with h
  injection h with h
  injection h with h
theorem ok_law_number (T : TL1 K mg) : FnOk P w K mg base CX0 2 T.law_number.f T.law_number.fd ["_law_well", "_law_width_so"] (spNum K) := by
  have G_law_draw : FnOk P w K mg base CX0 1 T.law_draw.f T.law_draw.fd ["_law_well", "_law_many"] (spDraw K) := ok_law_draw T
  refine T.law_number.F.ok sc_law_number (fun vs H Q E ⟨G, ss, iv, a, ⟨w, hp, _⟩, k⟩ => a.length.trans (by rw [hp]; rfl)) (fun cdv A outer s H vs Q E hr ⟨G, ss, iv, a, ⟨w, hp, h0, h1⟩, k⟩ => ?_)
  subst hp
  obtain ⟨v, x, rfl⟩ := two a.length
  refine ⟨_, (pss_cons (ps_set (i := 2) sc_law_number.nd rfl (by first | exact Or.inl rfl | exact Or.inr rfl) (pe_op op_add (pe_op op_mul (pe_call G_law_draw (hr.mono (by decide)) rfl T.law_draw.g T.law_draw.F.kp T.law_draw.b .nil pass0 (pa_cons (pv 0) (pa_cons (pe_op op_pow pe_int pe_int) pa_nil))) (pe_op op_pow pe_int pe_int)) (pe_call G_law_draw (hr.mono (by decide)) rfl T.law_draw.g T.law_draw.F.kp T.law_draw.b .nil pass0 (pa_cons (pv 0) (pa_cons (pe_op op_pow pe_int pe_int) pa_nil)))))
    (pss_cons (ps_set (i := 3) sc_law_number.nd rfl (by first | exact Or.inl rfl | exact Or.inr rfl) (pe_lst (pa_cons pe_int (pa_cons pe_int (pa_cons pe_int (pa_cons pe_int (pa_cons pe_int (pa_cons (pe_op op_sub (pe_op op_shl pe_int (pv 1)) pe_int) (pa_cons (pe_op op_fdivW (pe_op op_shl pe_int (pv 1)) pe_int) (pa_cons (pv 2) pa_nil))))))))))
    (pss_one (ps_ret (pe_op op_mod (pe_callTy call_int1 (by rfl) T.int (by decide +kernel) (pa_cons (pe_ix ix_list (pv 3) (pe_call G_law_draw (hr.mono (by decide)) rfl T.law_draw.g T.law_draw.F.kp T.law_draw.b .nil pass0 (pa_cons (pv 0) (pa_cons pe_int pa_nil))) (fun _ _ => rfl)) pa_nil)) (pe_op op_shl pe_int (pv 1))))))), ?_⟩
  refine doneF (Pd := inW w) 2 rfl ?_ iv a fun v d H' i' l' p' dq => k v d H' i' l' (fun w' e => dat_int e ▸ p') dq
  have hpow : ∀ {Γ : List Sl} (n : Nat), n ≤ 1000 → EvD K (tOp (rI CPow fun i j => V.int (i ^ j.toNat)) (tC (.int 2)) (tC (.int (n : Int)))) Γ (· = .int (2 ^ n)) := fun n hn => ev_eq (ev_opI1 (g' := fun i j => .int (i ^ j.toNat)) (fun _ _ _ => .int _) ev_int ev_int ⟨by omega, by omega, by decide⟩) (by rw [Int.toNat_natCast])
  have hshl : ∀ {Γ : List Sl}, Γ[1]? = some (.dat (.int w)) → EvD K (tOp (rI CPow fun i j => V.int (i * 2 ^ j.toNat)) (tC (.int 1)) (tVar 1)) Γ (· = .int (1 * 2 ^ w.toNat)) := fun h => ev_opI1 (g' := fun i j => .int (i * 2 ^ j.toNat)) (fun _ _ _ => .int _) ev_int (ev_var h) ⟨h0, by omega, by decide⟩
  refine rs_set (i := 2) (P' := isI) (by show 2 < 4; omega) ?_ fun great hgreat => ?_
  · refine (ev_opC (P1 := fun _ => True) (P2 := fun _ => True) (g' := fun i j => .int (i + j)) (fun _ _ _ => .int _) ?_ ?_).imp fun d ⟨i, j, _, _, e⟩ => ⟨_, e⟩
    · refine (ev_opI (P1 := fun _ => True) (P2 := fun j => j = 2 ^ 33) (g := fun i j => .int (i * j)) (fun _ _ _ => .int _) ((ev_draw (i := 0) rfl (hpow 31 (by decide)) (by decide) (by decide)).imp fun d ⟨n, e, _⟩ => ⟨_, e, trivial⟩) ((hpow 33 (by decide)).imp fun d e => ⟨_, e, rfl⟩) fun i j _ e => ?_).imp fun d ⟨i, j, _, _, e⟩ => ⟨_, e, trivial⟩
      rw [e]
      exact .inr ⟨by decide, by decide⟩
    · exact (ev_draw (i := 0) rfl (hpow 33 (by decide)) (by decide) (by decide)).imp fun d ⟨n, e, _⟩ => ⟨_, e, trivial⟩
  obtain ⟨gr, rfl⟩ := hgreat
  refine rs_set (i := 3) (P' := fun d => ∃ ds, d = .list ds ∧ AllI 8 ds) (by show 3 < 4; omega) (ev_lst (elI (toI ev_int) (elI (toI ev_int) (elI (toI ev_int) (elI (toI ev_int) (elI (toI ev_int) (elI (toI (ev_opC1 (g' := fun i j => .int (i - j)) (fun _ _ _ => .int _) (hshl rfl) ev_int)) (elI (toI (ev_opI1 (g' := fun i j => .int (i / j)) (fun _ _ _ => .int _) (hshl rfl) ev_int (wide_div (by decide) (b := 20) (by decide) (by decide) (by decide)))) (elI (toI (ev_var rfl)) elI0)))))))) fun ds h => by rw [h.1]; decide) fun d hd => ?_
  obtain ⟨ds, rfl, hlen, hall⟩ := hd
  refine rs_ret ((ev_opI (P1 := fun _ => True) (P2 := fun j => j = 1 * 2 ^ w.toNat) (g := fun i j => .int (i % j)) (fun _ _ _ => .int _) ?_ ((hshl rfl).imp fun d e => ⟨_, e, rfl⟩) fun i j _ e => by rw [e]; exact mod_pos w).imp fun d ⟨i, j, _, ej, e⟩ => ⟨_, e, by rw [ej]; exact Int.emod_nonneg _ (by have := mod_pos w; omega), by rw [ej]; exact Int.emod_lt_of_pos _ (mod_pos w)⟩)
  refine (ev_int1 (P := fun _ => True) ((ev_ixLW (ds := ds) (ev_var rfl) ((ev_draw (i := 0) (m := 8) rfl ev_int (by decide) (by decide)).imp fun d ⟨n, e, e2⟩ => ⟨n, e, by omega⟩)).imp fun d hm => ?_)).imp fun d ⟨n, e, _⟩ => ⟨n, e, trivial⟩
  obtain ⟨n, e⟩ := hall d hm
  exact ⟨n, e, trivial⟩
/-- a number drawn -/
theorem ev_num {Γ : List Sl} {E : XK} {i j : Nat} {w : Int} (hi : Γ[i]? = some .well) (hj : Γ[j]? = some (.dat (.int w))) (h0 : 0 ≤ w) (h1 : w ≤ 64) : EvD K (tCall (spNum K) [] E (tCons (tVar i) (tCons (tVar j) tNil))) Γ (inW w) :=
  (ev_call (es_well hi (es_cons (ev_var hj) es_nil)) fun ss ⟨r, e1, d, r2, e2, e3, e4⟩ => ⟨w, by rw [e1, e2, e3, e4], h0, h1⟩).imp fun d ⟨ss, ⟨r, e1, d', r2, e2, e3, e4⟩, hp⟩ => hp w (by rw [e1, e2, e3, e4])
end
end K39

set_option Elab.async false
set_option linter.all false
set_option maxRecDepth 100000
set_option maxHeartbeats 4000000
namespace K39
open PySem PySem.Spec PyProof.Rows L2
section
variable {P : Program} {w : World} {K : PySem.W.Frag} {mg : Str → Option Value} {base : Heap}
abbrev s_law_sum : Stmt := topS 36
abbrev N_law_sum : List Str := ["_law_well", "_law_width_so", "_law_sizes", "_law_numbers", "_law_found", "_law_turn", "_law_picks", "_law_size"]
theorem sc_law_sum : FnScope N_law_sum ["_law_well", "_law_width_so", "_law_sizes", "_law_numbers"] (defScope s_law_sum) := ⟨rfl, rfl, rfl, by decide +kernel, rfl, by decide +kernel, by decide +kernel⟩
structure TL2 (K : PySem.W.Frag) (mg : Str → Option Value) extends TL1 K mg where
  law_sum : Df K mg "_law_sum" s_law_sum ["_law_well", "_law_width_so", "_law_sizes", "_law_numbers"]
/-- a draw below a drawn number -/
theorem ev_drawP {Γ : List Sl} {E : XK} {te : TE} {i : Nat} {Q : Int → Prop} (hi : Γ[i]? = some .well) (h : EvD K te Γ (fun d => ∃ m, d = .int m ∧ Q m)) (h0 : ∀ m, Q m → 0 < m ∧ m.natAbs < 2 ^ 100) : EvD K (tCall (spDraw K) [] E (tCons (tVar i) (tCons te tNil))) Γ (fun d => ∃ (n : Nat) (m : Int), d = .int n ∧ (n : Int) < m ∧ Q m) :=
  (ev_call (es_well hi (es_cons h es_nil)) fun ss ⟨r, e1, d, r2, e2, ⟨m, e3, hq⟩, e4⟩ => ⟨m, by rw [e1, e2, e3, e4], (h0 m hq).1, (h0 m hq).2⟩).imp fun d ⟨ss, ⟨r, e1, d', r2, e2, ⟨m, e3, hq⟩, e4⟩, hp⟩ => by
    obtain ⟨n, e5, e6⟩ := hp m (by rw [e1, e2, e3, e4])
    exact ⟨n, m, e5, e6, hq⟩
def tmOk (w : Int) (ns : List Int) (m : Int) (t : Tm) : Prop := 0 ≤ t.f ∧ t.f < 1 * 2 ^ w.toNat ∧ isTerm t.D ns m = true ∧ t.p.length = ns.length
def sumGood (w : Int) (ns : List Int) (m : Int) (ts : List Tm) : Prop := ts.length ≤ 12 ∧ ∀ t ∈ ts, tmOk w ns m t
/-- picks that are drawn are picks -/
theorem picks_of : ∀ (ns : List Int) (es : List PyData), es.length = ns.length → (∀ (i : Nat) e, es[i]? = some e → ∃ n k : Int, ns[i]? = some n ∧ e = .int k ∧ -1 ≤ k ∧ k ≤ n - 1) → ∃ p : List Int, es = p.map .int ∧ p.length = ns.length ∧ (es.zip ns).all (fun q => isBet q.1 (-1) (q.2 - 1)) = true
  | [], [], _, _ => ⟨[], rfl, rfl, rfl⟩
  | n :: ns, e :: es, hl, h => by
    obtain ⟨n', k, e1, e2, e3, e4⟩ := h 0 e rfl
    cases e1
    subst e2
    obtain ⟨p, p1, p2, p3⟩ := picks_of ns es (by simpa using hl) fun i x hx => h (i + 1) x hx
    refine ⟨k :: p, by rw [p1]; rfl, by rw [List.length_cons, p2]; rfl, ?_⟩
    rw [List.zip_cons_cons, List.all_cons, p3, Bool.and_true]
    show (decide (-1 ≤ k) && decide (k ≤ n - 1)) = true
    rw [decide_eq_true e3, decide_eq_true e4]
    rfl
theorem e0_range1' {Γ : List Sl} {ta : TA} {Nn : Nat → Prop} (h : EvS K ta Γ (fun ss => ∃ m : Nat, Nn m ∧ ss = [.dat (.int m)])) (hb : ∀ m, Nn m → m < 100000) : EvI0 K (iRng1 ta) Γ Nn (fun i d => d = .int i) := e0_range1 h hb
abbrev spSumL (K : PySem.W.Frag) : Sp := spF K (fun ss => ∃ w ns m, ss = [.well, .dat (.int w), .dat (intsD ns), .dat (.int m)] ∧ 0 ≤ w ∧ w ≤ 64 ∧ ns.length ≤ 1000 ∧ (∀ n ∈ ns, 0 ≤ n ∧ n ≤ 1000) ∧ 0 ≤ m ∧ m ≤ 1000)
  (fun ss d => ∀ w ns m, ss = [.well, .dat (.int w), .dat (intsD ns), .dat (.int m)] → ∃ ts, d = sumD ts ∧ sumGood w ns m ts)
theorem small_lt {n : Int} (h0 : 0 ≤ n) (h1 : n ≤ 1000) : 0 < n + 1 ∧ (n + 1).natAbs < 2 ^ 100 := by
  have : (2 : Nat) ^ 100 > 1002 := by decide
  exact ⟨by omega, by omega⟩
theorem inj4 {w w' m m' : Int} {ns ns' : List Int} (e : ([.well, .dat (.int w), .dat (intsD ns), .dat (.int m)] : List Sl) = [.well, .dat (.int w'), .dat (intsD ns'), .dat (.int m')]) : w = w' ∧ ns = ns' ∧ m = m' := by
  injection e with _ e
  injection e with e1 e
  injection e with e2 e
  injection e with e3 e
  injection e1 with e1
  injection e1 with e1
  injection e2 with e2
  injection e3 with e3
  injection e3 with e3
  have e4 := congrArg unints e2
  rw [unints_intsD, unints_intsD] at e4
  exact ⟨e1, e4, e3⟩
theorem ok_law_sum (T : TL2 K mg) : FnOk P w K mg base CX0 3 T.law_sum.f T.law_sum.fd ["_law_well", "_law_width_so", "_law_sizes", "_law_numbers"] (spSumL K) := by
  have G_law_draw : FnOk P w K mg base CX0 1 T.law_draw.f T.law_draw.fd ["_law_well", "_law_many"] (spDraw K) := ok_law_draw T.toTL1
  have G_law_number : FnOk P w K mg base CX0 2 T.law_number.f T.law_number.fd ["_law_well", "_law_width_so"] (spNum K) := ok_law_number T.toTL1
  refine T.law_sum.F.ok sc_law_sum (fun vs H Q E ⟨G, ss, iv, a, ⟨w, ns, m, hp, _⟩, k⟩ => a.length.trans (by rw [hp]; rfl)) (fun cdv A outer s H vs Q E hr ⟨G, ss, iv, a, ⟨w, ns, m, hp, h0, h1, h2, h3, h4, h5⟩, k⟩ => ?_)
  subst hp
  obtain ⟨v, x, y, z, rfl⟩ := four a.length
  refine ⟨_, (pss_cons (ps_set (i := 4) sc_law_sum.nd rfl (by first | exact Or.inl rfl | exact Or.inr rfl) (pe_lst pa_nil))
    (pss_cons (ps_for PassesOwn.never rfl (pi_range1 rfl T.range (pa_cons (pe_call G_law_draw (hr.mono (by decide)) rfl T.law_draw.g T.law_draw.F.kp T.law_draw.b .nil pass0 (pa_cons (pv 0) (pa_cons pe_int pa_nil))) pa_nil)) (pg_name (i := 5) sc_law_sum.nd rfl (by first | exact Or.inl rfl | exact Or.inr rfl))
      (pss_cons (ps_set (i := 6) sc_law_sum.nd rfl (by first | exact Or.inl rfl | exact Or.inr rfl) (pe_tupleOf (by rfl) T.tuple (pe_lc (own := [("_law_size", 7)]) (g := gName 7) (tt := tYes) rfl sc_law_sum.nd (pi_seq (pv 2)) (blkOk_by (own := [("_law_size", 7)]) (N := N_law_sum) (sc := defScope s_law_sum) (by decide +kernel)) (fun _ _ _ _ _ => (pg_name (i := 7) sc_law_sum.nd rfl (by first | exact Or.inl rfl | exact Or.inr rfl))) (fun _ _ _ _ _ => pts_nil) (fun _ _ _ _ _ => (pe_op op_sub (pe_call G_law_draw (hr.mono (by decide)) rfl T.law_draw.g T.law_draw.F.kp T.law_draw.b .nil pass0 (pa_cons (pv 0) (pa_cons (pe_op op_add (pv 7) pe_int) pa_nil))) pe_int)))))
      (pss_one (ps_expr (pe_bm PySem.F.plainAttrs_list PySem.F.slot_list_append PySem.F.type_list_append mt_append (pv 4) (pa_cons (pe_tup (pa_cons (pe_call G_law_number (hr.mono (by decide)) rfl T.law_number.g T.law_number.F.kp T.law_number.b .nil pass0 (pa_cons (pv 0) (pa_cons (pv 1) pa_nil))) (pa_cons (pv 6) (pa_cons (pe_op op_sub (pe_call G_law_draw (hr.mono (by decide)) rfl T.law_draw.g T.law_draw.F.kp T.law_draw.b .nil pass0 (pa_cons (pv 0) (pa_cons (pe_op op_add (pv 3) pe_int) pa_nil))) pe_int) pa_nil)))) pa_nil))))))
    (pss_one (ps_ret (pe_tupleOf (by rfl) T.tuple (pv 4)))))), ?_⟩
  refine doneF (Pd := fun d => ∃ ts, d = sumD ts ∧ sumGood w ns m ts) 4 rfl ?_ iv a fun v d H' i' l' p' dq => k v d H' i' l' (fun w' ns' m' e => by obtain ⟨e1, e2, e3⟩ := inj4 e; rw [← e1, ← e2, ← e3]; exact p') dq
  refine rs_newL (j := 4) (by show 4 < 8; omega) (fun q s hq hs => ?_) ?_
  · match q, hs with
    | 0, hs => cases hs; rfl
    | 1, hs => cases hs; rfl
    | 2, hs => cases hs; rfl
    | 3, hs => cases hs; rfl
    | 4, hs => cases hs; rfl
    | 5, hs => cases hs; rfl
    | 6, hs => cases hs; rfl
    | 7, hs => cases hs; rfl
    | q + 8, hs => cases hs
  let Γl : List PyData → List Sl := fun es => [.well, .dat (.int w), .dat (intsD ns), .dat (.int m), .olst es, .any, .any, .any]
  refine rl_seq (N := fun es Γ' => Γ' = Γl es ∧ ∃ ts : List Tm, es = ts.map Tm.D ∧ sumGood w ns m ts) (ap_for (Γl := Γl) (vs := [5]) (Nn := fun n => n < 13) (Pi := fun i d => d = .int (i : Nat)) (Nt := fun i es d => (Γl es).set 5 (.dat d)) (I := fun i es => ∃ ts : List Tm, es = ts.map Tm.D ∧ ts.length = i ∧ ∀ t ∈ ts, tmOk w ns m t) (by decide) (fun es => rfl) (fun es q s hq hs => ?_) ?_ ⟨[], rfl, rfl, fun t h => nomatch h⟩ (fun i es _ => tg_name (by show 5 < 8; omega)) ?_ (fun n es hn ⟨ts, e1, e2, e3⟩ => ⟨rfl, ts, e1, by omega, e3⟩)) (fun es Γ' ⟨e, ts, e1, e2⟩ => by
      subst e
      subst e1
      exact rl_ret ((ev_tupleO (i := 4) rfl).imp fun d hd => ⟨ts, hd, e2⟩))
  · match q, hs with
    | 0, hs => cases hs; rfl
    | 1, hs => cases hs; rfl
    | 2, hs => cases hs; rfl
    | 3, hs => cases hs; rfl
    | 4, hs => exact absurd rfl hq
    | 5, hs => cases hs; rfl
    | 6, hs => cases hs; rfl
    | 7, hs => cases hs; rfl
    | q + 8, hs => cases hs
  · refine e0_range1 (fun G σ H ev iv Q q => es_cons (P := fun d => ∃ n : Nat, d = .int n ∧ n < 13) ?_ es_nil G σ H ev iv Q fun vs ss H' i' l' ⟨d, r, e1, ⟨n, e2, e3⟩, e4⟩ dqs => q vs ss H' i' l' ⟨n, e3, by rw [e1, e2, e4]⟩ dqs) fun m hm => by omega
    exact (ev_draw (i := 0) (m := 4) rfl ev_int (by decide) (by decide)).imp fun d ⟨n, e, e2⟩ => ⟨n, e, by omega⟩
  · rintro n i es d hn hlt ⟨ts, rfl, e2, e3⟩ rfl
    refine ap_set (i := 6) (P := fun d => ∃ p : List Int, d = intsT p ∧ p.length = ns.length ∧ picksOk (some (p.map .int)) ns = true) (by show 6 < 8; omega) (by decide) ?_ fun d hd => ?_
    · have hlc := ev_lc (K := K) (Γ := (Γl (ts.map Tm.D)).set 5 (.dat (.int (i : Nat)))) (wi := iSeq K (tVar 2)) (g := gName 7) (vs := [7]) (te := tOp (rI0 fun i j => V.int (i - j)) (tCall (spDraw K) [] E0 (tCons (tVar 0) (tCons (tOp (rI0 fun i j => V.int (i + j)) (tVar 7) (tC (.int 1))) tNil))) (tC (.int 1))) (Nn := (· = (ns.map PyData.int).length)) (P := fun i d => (ns.map PyData.int)[i]? = some d)
        (N := fun d => [.well, .dat (.int w), .dat (intsD ns), .dat (.int m), .olst (ts.map Tm.D), .dat (.int (i : Nat)), .any, .dat d]) (R := fun _ d e => ∃ s k : Int, d = .int s ∧ e = .int k ∧ -1 ≤ k ∧ k ≤ s - 1) (fun n e => by rw [e, List.length_map]; omega) (ei_seq (el_list (ev_var rfl))) (fun i => tg_name (by show 7 < 8; omega)) (fun i d pd => by
        rw [List.getElem?_map] at pd
        obtain ⟨n', hn', rfl⟩ := Option.map_eq_some_iff.mp pd
        have hb' := h3 n' (List.mem_of_getElem? hn')
        have hs := small_lt hb'.1 hb'.2
        refine (ev_opC (P1 := fun k => 0 ≤ k ∧ k < n' + 1) (P2 := fun j => j = 1) (g' := fun i j => .int (i - j)) (fun _ _ _ => .int _) ((ev_draw (i := 0) (m := n' + 1) rfl (ev_opC1 (g' := fun i j => .int (i + j)) (fun _ _ _ => .int _) (ev_var rfl) ev_int) hs.1 hs.2).imp fun d ⟨k, e, e2⟩ => ⟨k, e, by omega, e2⟩) (ev_is ev_int)).imp fun d ⟨k, j, e1, e2, e⟩ => ⟨n', k - 1, rfl, by rw [e, e2], by omega, by omega⟩)
      refine (ev_tupleP (Q := fun es => es.length = ns.length ∧ ∀ (i : Nat) e, es[i]? = some e → ∃ n k : Int, ns[i]? = some n ∧ e = .int k ∧ -1 ≤ k ∧ k ≤ n - 1) (hlc.imp fun d ⟨es, e1, e2, e3⟩ => ⟨es, e1, by rw [e2, List.length_map], fun i e he => ?_⟩)).imp fun d ⟨es, e1, e2, e3⟩ => ?_
      · obtain ⟨d', h6, s', k', h7, h8, h9, h10⟩ := e3 i e he
        subst h7
        rw [List.getElem?_map] at h6
        obtain ⟨n', hn', e'⟩ := Option.map_eq_some_iff.mp h6
        injection e' with e'
        subst e'
        exact ⟨n', k', hn', h8, h9, h10⟩
      · obtain ⟨p, p1, p2, p3⟩ := picks_of ns es e2 e3
        refine ⟨p, by rw [e1, p1]; rfl, p2, ?_⟩
        rw [← p1]
        show ((decide ((ns.length : Int) ≤ (es.length : Nat)) && decide (((es.length : Nat) : Int) ≤ (ns.length : Nat))) && (es.zip ns).all fun q => isBet q.1 (-1) (q.2 - 1)) = true
        rw [e2, decide_eq_true (Int.le_refl _), p3]
        rfl
    · obtain ⟨p, rfl, hp1, hp2⟩ := hd
      have hs := small_lt h4 h5
      refine ap_app (P := fun e => ∃ t : Tm, e = t.D ∧ tmOk w ns m t) (fun q s hq hs => ?_) (by show 4 < 8; omega) (by rw [List.length_map]; omega) ?_ fun e ⟨t, e1, e4⟩ => ⟨⟨ts ++ [t], by rw [e1, List.map_append]; rfl, by simp [e2], fun t' ht => ?_⟩, rfl, fun q s hq hs => ?_⟩
      · match q, hs with
        | 0, hs => cases hs; rfl
        | 1, hs => cases hs; rfl
        | 2, hs => cases hs; rfl
        | 3, hs => cases hs; rfl
        | 4, hs => exact absurd rfl hq
        | 5, hs => cases hs; rfl
        | 6, hs => cases hs; rfl
        | 7, hs => cases hs; rfl
        | q + 8, hs => cases hs
      · refine (ev_tup3 (ta' := tNil) (P3 := fun c => ∃ k : Int, c = .int k ∧ -1 ≤ k ∧ k ≤ m - 1) (ev_num (i := 0) (j := 1) rfl rfl h0 h1) (ev_var rfl) ((ev_opC (P1 := fun k => 0 ≤ k ∧ k < m + 1) (P2 := fun j => j = 1) (g' := fun i j => .int (i - j)) (fun _ _ _ => .int _) ((ev_draw (i := 0) (m := m + 1) rfl (ev_opC1 (g' := fun i j => .int (i + j)) (fun _ _ _ => .int _) (ev_var rfl) ev_int) hs.1 hs.2).imp fun d ⟨k, e, e2⟩ => ⟨k, e, by omega, e2⟩) (ev_is ev_int)).imp fun d ⟨k, j, e1, e2, e⟩ => ⟨k - 1, by rw [e, e2], by omega, by omega⟩)).imp fun d ⟨a', b', c', e1, ⟨f, e4, e5, e6⟩, e7, k', e8, e9, e10⟩ => ⟨⟨f, p, k'⟩, by rw [e1, e4, e7, e8]; rfl, e5, e6, ?_, hp1⟩
        show (isInt (.int f) && isBet (.int k') (-1) (m - 1) && picksOk (some (p.map .int)) ns) = true
        rw [hp2, Bool.and_true]
        show (true && (decide (-1 ≤ k') && decide (k' ≤ m - 1))) = true
        rw [decide_eq_true e9, decide_eq_true e10]
        rfl
      · rcases List.mem_append.mp ht with h | h
        · exact e3 t' h
        · rw [List.mem_singleton.mp h]; exact e4
      · match q, hs with
        | 0, hs => exact .inr hs
        | 1, hs => exact .inr hs
        | 2, hs => exact .inr hs
        | 3, hs => exact .inr hs
        | 4, hs => exact absurd rfl hq
        | 5, hs => exact .inl (Option.some.inj hs).symm
        | 6, hs => exact .inl (Option.some.inj hs).symm
        | 7, hs => exact .inl (Option.some.inj hs).symm
        | q + 8, hs => cases hs
end
end K39

set_option Elab.async false
set_option linter.all false
set_option maxRecDepth 100000
set_option maxHeartbeats 4000000
namespace K39
open PySem PySem.Spec PyProof.Rows L2
section
variable {P : Program} {w : World} {K : PySem.W.Frag} {mg : Str → Option Value} {base : Heap}
abbrev s_law_form : Stmt := topS 40
abbrev N_law_form : List Str := ["_law_well", "_law_width_so", "_law_many", "_law_turn"]
theorem sc_law_form : FnScope N_law_form ["_law_well", "_law_width_so", "_law_many"] (defScope s_law_form) := ⟨rfl, rfl, rfl, by decide +kernel, rfl, by decide +kernel, by decide +kernel⟩
structure TL3 (K : PySem.W.Frag) (mg : Str → Option Value) extends TL2 K mg where
  law_form : Df K mg "_law_form" s_law_form ["_law_well", "_law_width_so", "_law_many"]
/-! ### a drawn form -/
def formOk (w : Int) (many : Int) (f : List Int) : Prop := (f.length : Int) = many + 1 ∧ ∀ x ∈ f, 0 ≤ x ∧ x < 1 * 2 ^ w.toNat
theorem ints_of : ∀ (es : List PyData) (Q : Int → Prop), (∀ e ∈ es, ∃ n : Int, e = .int n ∧ Q n) → ∃ f : List Int, es = f.map .int ∧ ∀ x ∈ f, Q x
  | [], _, _ => ⟨[], rfl, fun x h => nomatch h⟩
  | e :: es, Q, h => by
    obtain ⟨n, rfl, hn⟩ := h e List.mem_cons_self
    obtain ⟨f, e1, e2⟩ := ints_of es Q fun e he => h e (List.mem_cons_of_mem _ he)
    exact ⟨n :: f, by rw [e1]; rfl, fun x hx => (List.mem_cons.mp hx).elim (fun z => z ▸ hn) fun z => e2 x z⟩
theorem pow_le {w : Int} (h0 : 0 ≤ w) (h1 : w ≤ 64) : (1 : Int) * 2 ^ w.toNat ≤ 2 ^ 64 := by
  rw [Int.one_mul]
  have : (2 : Nat) ^ w.toNat ≤ 2 ^ 64 := Nat.pow_le_pow_right (by decide) (by omega)
  exact_mod_cast this
abbrev spForm (K : PySem.W.Frag) : Sp := spF K (fun ss => ∃ w m, ss = [.well, .dat (.int w), .dat (.int m)] ∧ 0 ≤ w ∧ w ≤ 64 ∧ 0 ≤ m ∧ m ≤ 1000) (fun ss d => ∀ w m, ss = [.well, .dat (.int w), .dat (.int m)] → ∃ f, d = intsT f ∧ formOk w m f)
theorem inj3 {a a' b b' : PyData} (e : ([.well, .dat a, .dat b] : List Sl) = [.well, .dat a', .dat b']) : a = a' ∧ b = b' := by
  injection e with _ e
  injection e with e1 e
  injection e with e2 e
  injection e1 with e1
  injection e2 with e2
  exact ⟨e1, e2⟩
theorem ok_law_form (T : TL3 K mg) : FnOk P w K mg base CX0 3 T.law_form.f T.law_form.fd ["_law_well", "_law_width_so", "_law_many"] (spForm K) := by
  have G_law_draw : FnOk P w K mg base CX0 1 T.law_draw.f T.law_draw.fd ["_law_well", "_law_many"] (spDraw K) := ok_law_draw T.toTL1
  have G_law_number : FnOk P w K mg base CX0 2 T.law_number.f T.law_number.fd ["_law_well", "_law_width_so"] (spNum K) := ok_law_number T.toTL1
  refine T.law_form.F.ok sc_law_form (fun vs H Q E ⟨G, ss, iv, a, ⟨w, m, hp, _⟩, k⟩ => a.length.trans (by rw [hp]; rfl)) (fun cdv A outer s H vs Q E hr ⟨G, ss, iv, a, ⟨w, m, hp, h0, h1, h2, h3⟩, k⟩ => ?_)
  subst hp
  obtain ⟨v, x, y, rfl⟩ := three a.length
  refine ⟨_, (pss_one (ps_ret (pe_tupleOf (by rfl) T.tuple (pe_lc (own := [("_law_turn", 3)]) (g := gName 3) (tt := tYes) rfl sc_law_form.nd (pi_range1 rfl T.range (pa_cons (pe_op op_add (pv 2) pe_int) pa_nil)) (blkOk_by (own := [("_law_turn", 3)]) (N := N_law_form) (sc := defScope s_law_form) (by decide +kernel)) (fun _ _ _ _ _ => (pg_name (i := 3) sc_law_form.nd rfl (by first | exact Or.inl rfl | exact Or.inr rfl))) (fun _ _ _ _ _ => pts_nil) (fun _ _ _ _ _ => (pe_op op_mul (pe_call G_law_number (hr.mono (by decide)) rfl T.law_number.g T.law_number.F.kp T.law_number.b .nil pass0 (pa_cons (pv 0) (pa_cons (pv 1) pa_nil))) (pe_callTy call_int1 (by rfl) T.int (by decide +kernel) (pa_cons (pe_cmpR op_gt (pe_call G_law_draw (hr.mono (by decide)) rfl T.law_draw.g T.law_draw.F.kp T.law_draw.b .nil pass0 (pa_cons (pv 0) (pa_cons pe_int pa_nil))) pe_int (nomark _)) pa_nil)))))))), ?_⟩
  refine doneF (Pd := fun d => ∃ f, d = intsT f ∧ formOk w m f) 1 rfl ?_ iv a fun v d H' i' l' p' dq => k v d H' i' l' (fun w' m' e => by obtain ⟨e1, e2⟩ := inj3 e; injection e1 with e1; injection e2 with e2; rw [← e1, ← e2]; exact p') dq
  have hw := pow_le h0 h1
  refine rs_ret ((ev_tupleP (Q := fun es => es.length = (m + 1).toNat ∧ ∀ e ∈ es, ∃ n : Int, e = .int n ∧ 0 ≤ n ∧ n < 1 * 2 ^ w.toNat) ((ev_lc (Nn := fun n => n = (m + 1).toNat) (P := fun i d => d = .int (i : Nat)) (N := fun d => [.well, .dat (.int w), .dat (.int m), .dat d]) (R := fun _ d e => ∃ n : Int, e = .int n ∧ 0 ≤ n ∧ n < 1 * 2 ^ w.toNat) (fun n e => by omega) (ei_range1 (fun G σ H ev iv Q q => es_cons (ev_opC1 (g' := fun i j => .int (i + j)) (fun _ _ _ => .int _) (ev_var rfl) ev_int) es_nil G σ H ev iv Q fun vs ss H' i' l' ⟨d, r, e1, e2, e4⟩ dqs => q vs ss H' i' l' ⟨(m + 1).toNat, rfl, by rw [e1, e2, e4, Int.toNat_of_nonneg (by omega)]⟩ dqs) fun n e => by omega) (fun i => tg_name (by show 3 < 4; omega)) (fun i d pd => ?_)).imp fun d ⟨es, e1, e2, e3⟩ => ⟨es, e1, e2, fun e he => ?_⟩)).imp fun d ⟨es, e1, e2, e3⟩ => ?_)
  · refine (ev_opI (P1 := fun n => 0 ≤ n ∧ n < 1 * 2 ^ w.toNat) (P2 := fun j => j = 0 ∨ j = 1) (g := fun i j => .int (i * j)) (fun _ _ _ => .int _) ((ev_num (i := 0) (j := 1) rfl rfl h0 h1).imp fun d h => h) ?_ (fun i j _ hj => .inr (by rcases hj with e | e <;> rw [e] <;> decide))).imp fun d ⟨i, j, hi, hj, e⟩ => ?_
    · intro G σ H ev iv Q q
      refine ev_draw (i := 0) (m := 3) rfl ev_int (by decide) (by decide) G σ H ev iv _ fun v d H1 i1 l1 ⟨n, e, hn⟩ dq => ?_
      subst e
      cases dq
      refine ⟨n, 0, rfl, rfl, .inr ⟨_, rfl, q _ _ H1 i1 l1 ⟨_, rfl, ?_⟩ (.int _)⟩⟩
      split
      · exact .inr rfl
      · exact .inl rfl
    · rcases hj with e' | e'
      · exact ⟨0, by rw [e, e', Int.mul_zero], Int.le_refl _, mod_pos w⟩
      · exact ⟨i, by rw [e, e', Int.mul_one], hi.1, hi.2⟩
  · obtain ⟨i, hi⟩ := List.getElem?_of_mem he
    obtain ⟨_, _, h⟩ := e3 i e hi
    exact h
  · obtain ⟨f, f1, f2⟩ := ints_of es _ e3
    refine ⟨f, by rw [e1, f1]; rfl, ?_, f2⟩
    rw [f1, List.length_map] at e2
    omega
/-! ### numbers that mean the same -/
/-- one of some values -/
theorem ev_one {Γ : List Sl} {E : XK} {te : TE} {i : Nat} {ds : List PyData} (hi : Γ[i]? = some .well) (h : EvD K te Γ (· = .list ds)) (h0 : 0 < ds.length) (h1 : ds.length ≤ 1000) : EvD K (tCall (spOne K) [] E (tCons (tVar i) (tCons te tNil))) Γ (· ∈ ds) :=
  (ev_call (es_well hi (es_cons h es_nil)) fun ss ⟨r, e1, d, r2, e2, e3, e4⟩ => ⟨ds, by rw [e1, e2, e3, e4], h0, h1⟩).imp fun d ⟨ss, ⟨r, e1, d', r2, e2, e3, e4⟩, hp⟩ => hp ds (by rw [e1, e2, e3, e4])
end
end K39

set_option Elab.async false
set_option linter.all false
set_option maxRecDepth 100000
set_option maxHeartbeats 4000000
namespace K39
open PySem PySem.Spec PyProof.Rows L2
section
variable {P : Program} {w : World} {K : PySem.W.Frag} {mg : Str → Option Value} {base : Heap}
abbrev s_law_answers : Stmt := topS 41
abbrev N_law_answers : List Str := ["_law_well", "_law_width_so", "_law_kinds_here", "_law_top_so", "_law_many", "_law_turn"]
theorem sc_law_answers : FnScope N_law_answers ["_law_well", "_law_width_so", "_law_kinds_here", "_law_top_so"] (defScope s_law_answers) := ⟨rfl, rfl, rfl, by decide +kernel, rfl, by decide +kernel, by decide +kernel⟩
abbrev s_law_rule : Stmt := topS 37
abbrev N_law_rule : List Str := ["_law_well", "_law_width_so", "_law_kinds_here", "_law_name", "_law_kind", "_law_children", "_law_sizes", "_law_numbers", "_law_under", "_law_values", "_law_one_here", "_law_names", "_law_child", "_law_turn"]
theorem sc_law_rule : FnScope N_law_rule ["_law_well", "_law_width_so", "_law_kinds_here", "_law_name", "_law_kind", "_law_children"] (defScope s_law_rule) := ⟨rfl, rfl, rfl, by decide +kernel, rfl, by decide +kernel, by decide +kernel⟩
structure TL4 (K : PySem.W.Frag) (mg : Str → Option Value) extends TL3 K mg where
  law_answers : Df K mg "_law_answers" s_law_answers ["_law_well", "_law_width_so", "_law_kinds_here", "_law_top_so"]
  law_rule : Df K mg "_law_rule" s_law_rule ["_law_well", "_law_width_so", "_law_kinds_here", "_law_name", "_law_kind", "_law_children"]
def kdm (ks : List Kd) : List (Str × PyData) := ks.map fun k => (k.name, .tuple (k.attrs.map .str))
theorem kdm_D (ks : List Kd) : (kdm ks).map (fun p => PyData.tuple [.str p.1, p.2]) = ks.map Kd.D := by
  unfold kdm
  rw [List.map_map]
  rfl
theorem kdm_names (ks : List Kd) : (kdm ks).map (·.1) = ks.map Kd.name := by
  unfold kdm
  rw [List.map_map]
  rfl
theorem find_kd {ks : List Kd} (hn : (ks.map Kd.name).Nodup) {k : Kd} (hk : k ∈ ks) : (kdm ks).lookup k.name = some (.tuple (k.attrs.map .str)) ∧ (szs ks).lookup k.name = some (.int (k.attrs.length : Nat)) := by
  obtain ⟨i, hi⟩ := List.getElem?_of_mem hk
  constructor
  · refine lookup_at (i := i) (by rw [kdm_names]; exact hn) ?_
    unfold kdm
    rw [List.getElem?_map, hi]
    rfl
  · refine lookup_at (i := i) ?_ ?_
    · unfold szs
      rw [List.map_map]
      exact hn
    · unfold szs
      rw [List.getElem?_map, hi]
      rfl
def ansGood (w : Int) (many : Int) (fs : List (List Int)) : Prop := 1 ≤ fs.length ∧ fs.length ≤ 4 ∧ ∀ f ∈ fs, formOk w many f
abbrev spAnsL (K : PySem.W.Frag) : Sp := spF K (fun ss => ∃ (w : Int) (ks : List Kd) (k : Kd), ss = [.well, .dat (.int w), .dat (.list (ks.map Kd.D)), .dat (.str k.name)] ∧ 0 ≤ w ∧ w ≤ 64 ∧ (ks.map Kd.name).Nodup ∧ k ∈ ks ∧ k.attrs.length ≤ 3)
  (fun ss d => ∀ (w : Int) (ks : List Kd) (k : Kd), ss = [.well, .dat (.int w), .dat (.list (ks.map Kd.D)), .dat (.str k.name)] → ∃ (fs : List (List Int)) (k' : Kd), k' ∈ ks ∧ k'.name = k.name ∧ d = .list (fs.map intsT) ∧ ansGood w (k'.attrs.length : Nat) fs)
theorem Kd.D_inj {a b : Kd} (h : a.D = b.D) : a = b := by
  cases a; cases b
  unfold Kd.D at h
  injection h with h
  injection h with h1 h2
  injection h1 with h1
  injection h2 with h2
  injection h2 with h2
  have h3 := (List.map_inj_right (f := PyData.str) (fun a b h => by injection h)).mp h2
  simp only at h1 h3
  subst h1
  subst h3
  rfl
theorem inj4' {a a' b b' c c' : PyData} (e : ([.well, .dat a, .dat b, .dat c] : List Sl) = [.well, .dat a', .dat b', .dat c']) : a = a' ∧ b = b' ∧ c = c' := by
  injection e with _ e
  injection e with e1 e
  injection e with e2 e
  injection e with e3 e
  injection e1 with e1
  injection e2 with e2
  injection e3 with e3
  exact ⟨e1, e2, e3⟩
theorem ok_law_answers (T : TL4 K mg) : FnOk P w K mg base CX0 4 T.law_answers.f T.law_answers.fd ["_law_well", "_law_width_so", "_law_kinds_here", "_law_top_so"] (spAnsL K) := by
  have G_law_draw : FnOk P w K mg base CX0 1 T.law_draw.f T.law_draw.fd ["_law_well", "_law_many"] (spDraw K) := ok_law_draw T.toTL1
  have G_law_form : FnOk P w K mg base CX0 3 T.law_form.f T.law_form.fd ["_law_well", "_law_width_so", "_law_many"] (spForm K) := ok_law_form T.toTL3
  refine T.law_answers.F.ok sc_law_answers (fun vs H Q E ⟨G, ss, iv, a, ⟨w, ks, kk, hp, _⟩, k⟩ => a.length.trans (by rw [hp]; rfl)) (fun cdv A outer s H vs Q E hr ⟨G, ss, iv, a, ⟨w, ks, kk, hp, h0, h1, h2, h3, h4⟩, k⟩ => ?_)
  subst hp
  obtain ⟨v, x, y, z, rfl⟩ := four a.length
  refine ⟨_, (pss_cons (ps_set (i := 4) sc_law_answers.nd rfl (by first | exact Or.inl rfl | exact Or.inr rfl) (pe_callB call_len_seq (by rfl) T.len (by decide +kernel) (pa_cons (pe_dget (hu_of hr) (pe_callTy (call_dictP rfl) (by rfl) T.dict (by decide +kernel) (pa_cons (pv 2) pa_nil)) (pv 3) (fun _ _ => rfl)) pa_nil)))
    (pss_one (ps_ret (pe_lc (own := [("_law_turn", 5)]) (g := gName 5) (tt := tYes) rfl sc_law_answers.nd (pi_range1 rfl T.range (pa_cons (pe_op op_add pe_int (pe_call G_law_draw (hr.mono (by decide)) rfl T.law_draw.g T.law_draw.F.kp T.law_draw.b .nil pass0 (pa_cons (pv 0) (pa_cons pe_int pa_nil)))) pa_nil)) (blkOk_by (own := [("_law_turn", 5)]) (N := N_law_answers) (sc := defScope s_law_answers) (by decide +kernel)) (fun _ _ _ _ _ => (pg_name (i := 5) sc_law_answers.nd rfl (by first | exact Or.inl rfl | exact Or.inr rfl))) (fun _ _ _ _ _ => pts_nil) (fun _ _ _ _ _ => (pe_call G_law_form (hr.mono (by decide)) rfl T.law_form.g T.law_form.F.kp T.law_form.b .nil pass0 (pa_cons (pv 0) (pa_cons (pv 1) (pa_cons (pv 4) pa_nil))))))))), ?_⟩
  refine doneF (Pd := fun d => ∃ (fs : List (List Int)), d = .list (fs.map intsT) ∧ ansGood w (kk.attrs.length : Nat) fs) 2 rfl ?_ iv a fun v d H' i' l' ⟨fs, p1, p2⟩ dq => k v d H' i' l' (fun w' ks' k' e => by
    obtain ⟨e1, e2, e3⟩ := inj4' e
    injection e1 with e1
    injection e2 with e2
    injection e3 with e3
    have e4 := (List.map_inj_right (f := Kd.D) (fun a b h => Kd.D_inj h)).mp e2
    exact ⟨fs, kk, e4 ▸ h3, e3, p1, e1 ▸ p2⟩) dq
  refine rs_set (i := 4) (P' := (· = .int (kk.attrs.length : Nat))) (by show 4 < 6; omega) (ev_eq (ev_len (ds := kk.attrs.map .str) (el_tuple (ev_dget (m := kdm ks) (ev_dict (by rw [kdm_names]; exact h2) (ev_eq (ev_var (d := .list (ks.map Kd.D)) rfl) (by rw [kdm_D]))) (ev_var rfl) (find_kd h2 h3).1))) (by rw [List.length_map])) fun d e => ?_
  subst e
  refine rs_ret ((ev_lc (Nn := fun n => 1 ≤ n ∧ n ≤ 4) (P := fun i d => d = .int (i : Nat)) (N := fun d => [.well, .dat (.int w), .dat (.list (ks.map Kd.D)), .dat (.str kk.name), .dat (.int (kk.attrs.length : Nat)), .dat d]) (R := fun _ d e => ∃ f, e = intsT f ∧ formOk w (kk.attrs.length : Nat) f) (fun n e => by omega) (ei_range1 (fun G σ H ev iv Q q => es_cons (P := fun d => ∃ n : Nat, d = .int n ∧ 1 ≤ n ∧ n ≤ 4) ((ev_opC (P1 := fun i => i = 1) (P2 := fun j => 0 ≤ j ∧ j < 4) (g' := fun i j => .int (i + j)) (fun _ _ _ => .int _) (ev_is ev_int) ((ev_draw (i := 0) (m := 4) rfl ev_int (by decide) (by decide)).imp fun d ⟨n, e, e2⟩ => ⟨n, e, by omega, e2⟩)).imp fun d ⟨i, j, e1, e2, e⟩ => ⟨(i + j).toNat, by rw [e, Int.toNat_of_nonneg (by omega)], by omega, by omega⟩) es_nil G σ H ev iv Q fun vs ss H' i' l' ⟨d, r, e1, ⟨n, e2, e3⟩, e4⟩ dqs => q vs ss H' i' l' ⟨n, e3, by rw [e1, e2, e4]⟩ dqs) fun n e => by omega) (fun i => tg_name (by show 5 < 6; omega)) (fun i d pd => ?_)).imp fun d ⟨es, e1, e2, e3⟩ => ?_)
  · exact (ev_call (es_well rfl (es_cons (ev_var rfl) (es_cons (ev_var rfl) es_nil))) fun ss ⟨r, e1, d1, r2, e2, e3, d3, r3, e4, e5, e6⟩ => ⟨w, (kk.attrs.length : Nat), by rw [e1, e2, e3, e4, e5, e6], h0, h1, by omega, by omega⟩).imp fun d ⟨ss, ⟨r, e1, d1, r2, e2, e3, d3, r3, e4, e5, e6⟩, hp⟩ => hp w _ (by rw [e1, e2, e3, e4, e5, e6])
  · have key : ∀ (es : List PyData), (∀ e ∈ es, ∃ f, e = intsT f ∧ formOk w (kk.attrs.length : Nat) f) → ∃ fs : List (List Int), es = fs.map intsT ∧ ∀ f ∈ fs, formOk w (kk.attrs.length : Nat) f := by
      intro es
      induction es with
      | nil => exact fun _ => ⟨[], rfl, fun f h => nomatch h⟩
      | cons e es ih =>
        intro h
        obtain ⟨f, h1, h2⟩ := h e List.mem_cons_self
        obtain ⟨fs, h3, h4⟩ := ih fun e he => h e (List.mem_cons_of_mem _ he)
        exact ⟨f :: fs, by rw [h1, h3]; rfl, fun g hg => (List.mem_cons.mp hg).elim (fun z => z ▸ h2) fun z => h4 g z⟩
    obtain ⟨fs, f1, f2⟩ := key es fun e he => by
      obtain ⟨i, hi⟩ := List.getElem?_of_mem he
      obtain ⟨_, _, h⟩ := e3 i e hi
      exact h
    rw [f1, List.length_map] at e2
    exact ⟨fs, by rw [e1, f1], e2.1, e2.2, f2⟩
/-! ### a drawn rule -/
def sumSm (w : Int) (ts : List Tm) : Prop := ∀ t ∈ ts, 0 ≤ t.f ∧ t.f < 1 * 2 ^ w.toNat
def ruleGood (w : Int) (ks : List Kd) (r : Ru) : Prop := isRule (szs ks) r.D = true ∧ smallD r.D = true ∧ (∀ ts ∈ r.sums, sumSm w ts) ∧ (∀ ts ∈ r.sums, ts.length ≤ 12)
theorem small_tm {w m : Int} {ns : List Int} {t : Tm} (h : tmOk w ns m t) (hn : ns.length ≤ 1000) : smallD t.D = true := by
  have h4 := h.2.2.2
  show smallD (.tuple [.int t.f, intsT t.p, .int t.n]) = true
  rw [smallD, smallAll, smallAll, smallAll, smallAll, small_intsT (by omega)]
  rfl
theorem small_all {ds : List PyData} (h : ∀ d ∈ ds, smallD d = true) : smallAll ds = true := by
  induction ds with
  | nil => rfl
  | cons d ds ih => rw [smallAll, h d List.mem_cons_self, ih fun e he => h e (List.mem_cons_of_mem _ he)]; rfl
theorem small_sum {w m : Int} {ns : List Int} {ts : List Tm} (h : sumGood w ns m ts) (hn : ns.length ≤ 1000) : smallD (sumD ts) = true := by
  unfold sumD
  rw [smallD, List.length_map, decide_eq_true (by have := h.1; omega), small_all]
  · rfl
  · intro d hd
    obtain ⟨t, ht, rfl⟩ := List.mem_map.mp hd
    exact small_tm (h.2 t ht) hn
theorem sumOk_of {w m : Int} {ns : List Int} {ts : List Tm} (h : sumGood w ns m ts) : sumOk ns m (sumD ts) = true := by
  show ((decide ((0 : Int) ≤ ((ts.map Tm.D).length : Nat)) && decide (((ts.map Tm.D).length : Int) ≤ 12)) && (ts.map Tm.D).all fun x => isTerm x ns m) = true
  rw [List.length_map, decide_eq_true (by omega), decide_eq_true (by have := h.1; omega), List.all_map]
  exact List.all_eq_true.mpr fun t ht => (h.2 t ht).2.2.1
abbrev spRuleL (K : PySem.W.Frag) : Sp := spF K (fun ss => ∃ (w : Int) (ks : List Kd) (na ki : Str) (ch : List Str), ss = [.well, .dat (.int w), .dat (.list (ks.map Kd.D)), .dat (.str na), .dat (.str ki), .dat (.tuple (ch.map .str))] ∧ 0 ≤ w ∧ w ≤ 64 ∧ (ks.map Kd.name).Nodup ∧ (∀ k ∈ ks, k.attrs.length ≤ 3 ∧ smallD (.str k.name) = true) ∧ ks.length ≤ 5 ∧ ki ∈ ks.map Kd.name ∧ (∀ c ∈ ch, c ∈ ks.map Kd.name) ∧ ch.length ≤ 2 ∧ nameS na = true ∧ smallD (.str na) = true)
  (fun ss d => ∀ (w : Int) (ks : List Kd) (na ki : Str) (ch : List Str), ss = [.well, .dat (.int w), .dat (.list (ks.map Kd.D)), .dat (.str na), .dat (.str ki), .dat (.tuple (ch.map .str))] → ∃ r : Ru, d = r.D ∧ r.name = na ∧ r.kind = ki ∧ r.ch = ch ∧ ruleGood w ks r)
theorem sz_le {ks : List Kd} (h : ∀ k ∈ ks, k.attrs.length ≤ 3 ∧ smallD (.str k.name) = true) (hn : (ks.map Kd.name).Nodup) {c : Str} (hc : c ∈ ks.map Kd.name) : ∃ n : Nat, (szs ks).lookup c = some (.int (n : Nat)) ∧ n ≤ 3 := by
  obtain ⟨k, hk, rfl⟩ := List.mem_map.mp hc
  exact ⟨_, (find_kd hn hk).2, (h k hk).1⟩
theorem inj6 {a a' b b' c c' d d' f f' : PyData} (e : ([.well, .dat a, .dat b, .dat c, .dat d, .dat f] : List Sl) = [.well, .dat a', .dat b', .dat c', .dat d', .dat f']) : a = a' ∧ b = b' ∧ c = c' ∧ d = d' ∧ f = f' := by
  injection e with _ e
  injection e with e1 e
  injection e with e2 e
  injection e with e3 e
  injection e with e4 e
  injection e with e5 e
  injection e1 with e1
  injection e2 with e2
  injection e3 with e3
  injection e4 with e4
  injection e5 with e5
  exact ⟨e1, e2, e3, e4, e5⟩
theorem ok_law_rule (T : TL4 K mg) : FnOk P w K mg base CX0 4 T.law_rule.f T.law_rule.fd ["_law_well", "_law_width_so", "_law_kinds_here", "_law_name", "_law_kind", "_law_children"] (spRuleL K) := by
  have G_law_draw : FnOk P w K mg base CX0 1 T.law_draw.f T.law_draw.fd ["_law_well", "_law_many"] (spDraw K) := ok_law_draw T.toTL1
  have G_law_sum : FnOk P w K mg base CX0 3 T.law_sum.f T.law_sum.fd ["_law_well", "_law_width_so", "_law_sizes", "_law_numbers"] (spSumL K) := ok_law_sum T.toTL2
  refine T.law_rule.F.ok sc_law_rule (fun vs H Q E ⟨G, ss, iv, a, ⟨w, ks, na, ki, ch, hp, _⟩, k⟩ => a.length.trans (by rw [hp]; rfl)) (fun cdv A outer s H vs Q E hr ⟨G, ss, iv, a, ⟨w, ks, na, ki, ch, hp, h0, h1, h2, h3, hk5, h4, h5, h6, h7, h8⟩, k⟩ => ?_)
  subst hp
  have hvl := a.length
  match vs, hvl with
  | [v1, v2, v3, v4, v5, v6], _ =>
  refine ⟨_, (pss_cons (ps_set (i := 6) sc_law_rule.nd rfl (by first | exact Or.inl rfl | exact Or.inr rfl) (pe_callTy (call_dictP rfl) (by rfl) T.dict (by decide +kernel) (pa_cons (pe_lc (own := [("_law_one_here", 10), ("_law_names", 11)]) (g := gTup K 2 (gCons (gName 10) (gCons (gName 11) gNil))) (tt := tYes) (te := tTup (tCons (tVar 10) (tCons (tCB (fun xs H Q => ∃ p ys, xs = [V.ref p] ∧ (SqL K H p ys ∨ SqT K H p ys) ∧ Q (V.int (ys.length : Nat)) H) (tCons (tVar 11) tNil)) tNil))) rfl sc_law_rule.nd (pi_seq (pv 2)) (blkOk_by (own := [("_law_one_here", 10), ("_law_names", 11)]) (N := N_law_rule) (sc := defScope s_law_rule) (by decide +kernel)) (fun _ _ _ _ _ => (pg_tup rfl (pgs_cons (pg_name (i := 10) sc_law_rule.nd rfl (by first | exact Or.inl rfl | exact Or.inr rfl)) (pgs_cons (pg_name (i := 11) sc_law_rule.nd rfl (by first | exact Or.inl rfl | exact Or.inr rfl)) pgs_nil)))) (fun _ _ _ _ _ => pts_nil) (fun _ _ _ _ _ => (pe_tup (pa_cons (pv 10) (pa_cons (pe_callB call_len_seq (by rfl) T.len (by decide +kernel) (pa_cons (pv 11) pa_nil)) pa_nil))))) pa_nil)))
    (pss_cons (ps_set (i := 7) sc_law_rule.nd rfl (by first | exact Or.inl rfl | exact Or.inr rfl) (pe_call G_law_draw (hr.mono (by decide)) rfl T.law_draw.g T.law_draw.F.kp T.law_draw.b .nil pass0 (pa_cons (pv 0) (pa_cons pe_int pa_nil))))
    (pss_cons (ps_set (i := 8) sc_law_rule.nd rfl (Or.inr rfl) (pe_lc (own := [("_law_child", 12)]) (g := gName 12) (tt := tYes) rfl sc_law_rule.nd (pi_seq (pv 5)) (blkOk_by (own := [("_law_child", 12)]) (N := N_law_rule) (sc := defScope s_law_rule) (by decide +kernel)) (fun _ _ _ _ _ => (pg_name (i := 12) sc_law_rule.nd rfl (by first | exact Or.inl rfl | exact Or.inr rfl))) (fun _ _ _ _ _ => pts_nil) (fun _ _ _ _ _ => (pe_dget (hu_of hr) (pv 6) (pv 12) (fun _ _ => rfl)))))
    (pss_cons (ps_set (i := 9) sc_law_rule.nd rfl (by first | exact Or.inl rfl | exact Or.inr rfl) (pe_tupleOf (by rfl) T.tuple (pe_lc (own := [("_law_turn", 13)]) (g := gName 13) (tt := tYes) rfl sc_law_rule.nd (pi_range1 rfl T.range (pa_cons (pe_dget (hu_of hr) (pv 6) (pv 4) (fun _ _ => rfl)) pa_nil)) (blkOk_by (own := [("_law_turn", 13)]) (N := N_law_rule) (sc := defScope s_law_rule) (by decide +kernel)) (fun _ _ _ _ _ => (pg_name (i := 13) sc_law_rule.nd rfl (by first | exact Or.inl rfl | exact Or.inr rfl))) (fun _ _ _ _ _ => pts_nil) (fun _ _ _ _ _ => (pe_call G_law_sum (hr.mono (by decide)) rfl T.law_sum.g T.law_sum.F.kp T.law_sum.b .nil pass0 (pa_cons (pv 0) (pa_cons (pv 1) (pa_cons (pv 8) (pa_cons (pv 7) pa_nil)))))))))
    (pss_one (ps_ret (pe_tup (pa_cons (pv 3) (pa_cons (pv 4) (pa_cons (pv 5) (pa_cons (pv 7) (pa_cons (pv 9) pa_nil)))))))))))), ?_⟩
  refine doneF (Pd := fun d => ∃ r : Ru, d = r.D ∧ r.name = na ∧ r.kind = ki ∧ r.ch = ch ∧ ruleGood w ks r) 8 rfl ?_ iv a fun v d H' i' l' ⟨r, p1, p2, p3, p4, p5⟩ dq => k v d H' i' l' (fun w' ks' na' ki' ch' e => by
    obtain ⟨e1, e2, e3, e4, e5⟩ := inj6 e
    injection e1 with e1
    injection e2 with e2
    injection e3 with e3
    injection e4 with e4
    injection e5 with e5
    have e6 := (List.map_inj_right (f := Kd.D) (fun a b h => Kd.D_inj h)).mp e2
    have e7 := (List.map_inj_right (f := PyData.str) (fun a b h => by injection h)).mp e5
    exact ⟨r, p1, p2.trans e3, p3.trans e4, p4.trans e7, e1 ▸ e6 ▸ p5⟩) dq
  let m := szs ks
  obtain ⟨sk, hsk, hsk3⟩ := sz_le h3 h2 h4
  refine rs_set (i := 6) (P' := (· = dictD m)) (by show 6 < 14; omega) (ev_dict (m := m) (by show ((szs ks).map (·.1)).Nodup; unfold szs; rw [List.map_map]; exact h2) (ev_eq (ev_lcF (ds := ks.map Kd.D) (f := fun d => .tuple [.str (cnt d).1, (cnt d).2]) (N := NP (wipeΓ [.well, .dat (.int w), .dat (.list (ks.map Kd.D)), .dat (.str na), .dat (.str ki), .dat (.tuple (ch.map .str)), .any, .any, .any, .any, .any, .any, .any, .any] [10, 11]) 10 11) (by rw [List.length_map]; omega) (el_list (ev_var rfl)) (fun G σ H x d ev iv pd => ?_) (fun d hd => ?_)) ?_)) fun d e => ?_
  · obtain ⟨kd, _, rfl⟩ := List.mem_map.mp pd
    exact tg_pair (Pq := fun _ _ => True) (by show 10 < 14; omega) (by show 11 < 14; omega) G σ H x _ ev iv ⟨_, _, rfl, trivial⟩
  · obtain ⟨kd, _, rfl⟩ := List.mem_map.mp hd
    exact ev_tupE [.str kd.name, .int ((kd.attrs.map PyData.str).length : Nat)] (elc (ev_var rfl) (elc (ev_len (ds := kd.attrs.map .str) (el_tuple (ev_var rfl))) el_nil))
  · show _ = PyData.list ((szs ks).map fun p => .tuple [.str p.1, p.2])
    rw [← szs_cnt, List.map_map (f := cnt)]
    rfl
  subst e
  refine rs_set (i := 7) (P' := fun d => ∃ n : Nat, d = .int n ∧ (n : Int) < 3) (by show 7 < 14; omega) (ev_draw (i := 0) (m := 3) rfl ev_int (by decide) (by decide)) fun d ⟨nn, e, hnn⟩ => ?_
  subst e
  let us : List Int := ch.map fun c => szI m (.str c)
  refine rs_set (i := 8) (P' := (· = intsD us)) (by show 8 < 14; omega) (ev_eq (ev_lcF (ds := ch.map .str) (f := fun c => .int (szI m c)) (by rw [List.length_map]; omega) (el_tuple (ev_var rfl)) (tg_name (by show 12 < 14; omega)) fun d hd => ?_) (by show _ = PyData.list (us.map .int); rw [List.map_map, List.map_map]; rfl)) fun d e => ?_
  · obtain ⟨c, hc, rfl⟩ := List.mem_map.mp hd
    obtain ⟨n, hn, _⟩ := sz_le h3 h2 (h5 c hc)
    refine ev_dget (m := m) (ev_var rfl) (ev_var rfl) ?_
    show (szs ks).lookup c = some (.int (match (szs ks).lookup c with
      | some (.int n) => n
      | _ => 0))
    rw [hn]
  subst e
  have hus : ∀ n ∈ us, 0 ≤ n ∧ n ≤ 1000 := fun n hn => by
    obtain ⟨c, hc, rfl⟩ := List.mem_map.mp hn
    obtain ⟨n, hn, hn3⟩ := sz_le h3 h2 (h5 c hc)
    show 0 ≤ (match (szs ks).lookup c with
      | some (.int n) => n
      | _ => 0) ∧ (match (szs ks).lookup c with
      | some (.int n) => n
      | _ => 0) ≤ 1000
    rw [hn]
    exact ⟨by show (0 : Int) ≤ (n : Nat); omega, by show ((n : Nat) : Int) ≤ 1000; omega⟩
  have husl : us.length = ch.length := List.length_map _
  refine rs_set (i := 9) (P' := fun d => ∃ sums : List (List Tm), d = .tuple (sums.map sumD) ∧ sums.length = sk ∧ ∀ ts ∈ sums, sumGood w us nn ts) (by show 9 < 14; omega) ((ev_tupleP (Q := fun es => es.length = sk ∧ ∀ e ∈ es, ∃ ts, e = sumD ts ∧ sumGood w us nn ts) ((ev_lc (Nn := fun n => n = sk) (P := fun i d => d = .int (i : Nat)) (N := fun d => [.well, .dat (.int w), .dat (.list (ks.map Kd.D)), .dat (.str na), .dat (.str ki), .dat (.tuple (ch.map .str)), .dat (dictD m), .dat (.int (nn : Nat)), .dat (intsD us), .any, .any, .any, .any, .dat d]) (R := fun _ d e => ∃ ts, e = sumD ts ∧ sumGood w us nn ts) (fun n e => by omega) (ei_range1 (fun G σ H ev iv Q q => es_cons (ev_dget (m := m) (ev_var rfl) (ev_var rfl) hsk) es_nil G σ H ev iv Q fun vs ss H' i' l' ⟨d, r, e1, e2, e4⟩ dqs => q vs ss H' i' l' ⟨sk, rfl, by rw [e1, e2, e4]⟩ dqs) fun n e => by omega) (fun i => tg_name (by show 13 < 14; omega)) (fun i d pd => ?_)).imp fun d ⟨es, e1, e2, e3⟩ => ⟨es, e1, e2, fun e he => ?_⟩)).imp fun d ⟨es, e1, e2, e3⟩ => ?_) fun d ⟨sums, e, hs1, hs2⟩ => ?_
  · exact (ev_call (es_well rfl (es_cons (ev_var rfl) (es_cons (ev_var rfl) (es_cons (ev_var rfl) es_nil)))) fun ss ⟨r, e1, d1, r2, e2, e3, d3, r3, e4, e5, d5, r5, e6, e7, e8⟩ => ⟨w, us, nn, by rw [e1, e2, e3, e4, e5, e6, e7, e8], h0, h1, by omega, hus, by omega, by omega⟩).imp fun d ⟨ss, ⟨r, e1, d1, r2, e2, e3, d3, r3, e4, e5, d5, r5, e6, e7, e8⟩, hp⟩ => hp w us nn (by rw [e1, e2, e3, e4, e5, e6, e7, e8])
  · obtain ⟨i, hi⟩ := List.getElem?_of_mem he
    obtain ⟨_, _, h⟩ := e3 i e hi
    exact h
  · have key : ∀ (es : List PyData), (∀ e ∈ es, ∃ ts, e = sumD ts ∧ sumGood w us nn ts) → ∃ sums : List (List Tm), es = sums.map sumD ∧ ∀ ts ∈ sums, sumGood w us nn ts := by
      intro es
      induction es with
      | nil => exact fun _ => ⟨[], rfl, fun f h => nomatch h⟩
      | cons e es ih =>
        intro h
        obtain ⟨f, h1, h2⟩ := h e List.mem_cons_self
        obtain ⟨fs, h3, h4⟩ := ih fun e he => h e (List.mem_cons_of_mem _ he)
        exact ⟨f :: fs, by rw [h1, h3]; rfl, fun g hg => (List.mem_cons.mp hg).elim (fun z => z ▸ h2) fun z => h4 g z⟩
    obtain ⟨sums, f1, f2⟩ := key es e3
    exact ⟨sums, by rw [e1, f1], by rw [← e2, f1, List.length_map], f2⟩
  subst e
  refine rs_ret ((ev_tupE [.str na, .str ki, .tuple (ch.map .str), .int (nn : Nat), .tuple (sums.map sumD)] (elc (ev_var rfl) (elc (ev_var rfl) (elc (ev_var rfl) (elc (ev_var rfl) (elc (ev_var rfl) el_nil)))))).imp fun d e => ⟨⟨na, ki, ch, nn, sums⟩, e, rfl, rfl, rfl, ?_, ?_, fun ts ht t htt => ⟨((hs2 ts ht).2 t htt).1, ((hs2 ts ht).2 t htt).2.1⟩, fun ts ht => (hs2 ts ht).1⟩)
  · have hki : szI m (.str ki) = sk := by
      show (match (szs ks).lookup ki with
        | some (.int n) => n
        | _ => 0) = _
      rw [hsk]
    have q1 : isKn m (.str ki) = true := by show ((szs ks).lookup ki).isSome = true; rw [hsk]; rfl
    have q2 : (ch.map PyData.str).all (isKn m) = true := List.all_eq_true.mpr fun c hc => by
      obtain ⟨c', hc', rfl⟩ := List.mem_map.mp hc
      obtain ⟨n, hn, _⟩ := sz_le h3 h2 (h5 c' hc')
      show ((szs ks).lookup c').isSome = true
      rw [hn]
      rfl
    have q3 : (sums.map sumD).all (sumOk us nn) = true := List.all_eq_true.mpr fun c hc => by
      obtain ⟨ts, hts, rfl⟩ := List.mem_map.mp hc
      exact sumOk_of (hs2 ts hts)
    have q4 : (ch.map PyData.str).map (szI m) = us := by rw [List.map_map]; rfl
    show ((nameS na && isKn m (.str ki)) && (((decide ((0 : Int) ≤ ((ch.map PyData.str).length : Nat)) && decide (((ch.map PyData.str).length : Int) ≤ 2)) && (ch.map PyData.str).all (isKn m)) && (((decide ((0 : Int) ≤ (nn : Nat)) && decide (((nn : Nat) : Int) ≤ 2)) && (decide (szI m (.str ki) ≤ ((sums.map sumD).length : Nat)) && decide (((sums.map sumD).length : Int) ≤ szI m (.str ki)))) && (sums.map sumD).all (sumOk ((ch.map PyData.str).map (szI m)) nn)))) = true
    rw [q4, q3, q2, q1, h7, hki, List.length_map, List.length_map, hs1, decide_eq_true (by omega : (0 : Int) ≤ (ch.length : Nat)), decide_eq_true (by omega : ((ch.length : Nat) : Int) ≤ 2), decide_eq_true (by omega : (0 : Int) ≤ (nn : Nat)), decide_eq_true (by omega : ((nn : Nat) : Int) ≤ 2), decide_eq_true (Int.le_refl _)]
    rfl
  · have q1 : smallAll (sums.map sumD) = true := small_all fun d hd => by
      obtain ⟨ts, hts, rfl⟩ := List.mem_map.mp hd
      exact small_sum (hs2 ts hts) (by omega)
    have nm : ∀ c ∈ ks.map Kd.name, smallD (.str c) = true := fun c hc => by
      obtain ⟨k, hk, rfl⟩ := List.mem_map.mp hc
      exact (h3 k hk).2
    have q2 : smallAll (ch.map PyData.str) = true := small_all fun d hd => by
      obtain ⟨c, hc, rfl⟩ := List.mem_map.mp hd
      exact nm c (h5 c hc)
    show smallD (.tuple [.str na, .str ki, .tuple (ch.map .str), .int (nn : Nat), .tuple (sums.map sumD)]) = true
    have q3 : smallD (.tuple (ch.map .str)) = true := by rw [smallD, q2, List.length_map, decide_eq_true (by omega)]; rfl
    have q4 : smallD (.tuple (sums.map sumD)) = true := by rw [smallD, q1, List.length_map, decide_eq_true (by omega)]; rfl
    rw [smallD, smallAll, smallAll, smallAll, smallAll, smallAll, smallAll, q3, q4, h8, nm ki h4]
    rfl
end
end K39

set_option Elab.async false
set_option linter.all false
set_option maxRecDepth 100000
set_option maxHeartbeats 4000000
namespace K39
open PySem PySem.Spec PyProof.Rows L2
section
variable {P : Program} {w : World} {K : PySem.W.Frag} {mg : Str → Option Value} {base : Heap}
abbrev s_law_kinds : Stmt := topS 38
abbrev N_law_kinds : List Str := ["_law_well", "_law_most", "_law_many", "_law_names", "_law_parts", "_law_found", "_law_at"]
theorem sc_law_kinds : FnScope N_law_kinds ["_law_well", "_law_most", "_law_many"] (defScope s_law_kinds) := ⟨rfl, rfl, rfl, by decide +kernel, rfl, by decide +kernel, by decide +kernel⟩
structure TL5 (K : PySem.W.Frag) (mg : Str → Option Value) extends TL4 K mg where
  law_kinds : Df K mg "_law_kinds" s_law_kinds ["_law_well", "_law_most", "_law_many"]
theorem rs_par {Γ : List Sl} {ta : TA} {tu : TS} {Pd : PyData → Prop} {i j : Nat} {a b : PyData} (hi : i < Γ.length) (hj : j < Γ.length) (h : EvL' K ta Γ (· = [a, b])) (h2 : Rets K tu ((Γ.set i (.dat a)).set j (.dat b)) Pd) : Rets K (tSeq (tPar i j ta) tu) Γ Pd := fun G σ H D ev iv k =>
  h G σ H ev iv _ fun vs ss H1 i1 l1 ⟨ds, e1, e2⟩ dqs => by
    subst e2; subst e1
    have dqs := args_dats dqs
    cases dqs with
    | cons h1 t1 =>
      cases t1 with
      | cons h3 t3 =>
        cases t3
        exact ⟨_, _, rfl, h2 G _ H1 _ (((ev.le l1).set (s := .dat a) hi h1).set (s := .dat b) (by rw [List.length_set]; exact hj) h3) i1 fun v d H' i' l' => k v d H' i' (l1.trans l')⟩
def names5 : List Str := ["zed", "row", "a", "leaf", "k"]
def parts3 : List Str := ["y", "x", "n"]
def kdGood (i : Nat) (k : Kd) : Prop := names5[i]? = some k.name ∧ ∃ j : Nat, 1 ≤ j ∧ j ≤ 3 ∧ k.attrs = parts3.take j
def kindsGood (ks : List Kd) : Prop := 1 ≤ ks.length ∧ ks.length ≤ 5 ∧ ∀ i k, ks[i]? = some k → kdGood i k
theorem kd_table : (names5.all fun n => [1, 2, 3].all fun j => isKind (Kd.D ⟨n, parts3.take j⟩) && smallD (Kd.D ⟨n, parts3.take j⟩) && nameS n && smallD (.str n)) = true := by decide +kernel
theorem kdGood.ok {i : Nat} {k : Kd} (h : kdGood i k) : isKind k.D = true ∧ smallD k.D = true ∧ nameS k.name = true ∧ smallD (.str k.name) = true ∧ 1 ≤ k.attrs.length ∧ k.attrs.length ≤ 3 := by
  obtain ⟨h1, j, h2, h3, h4⟩ := h
  have t := List.all_eq_true.mp kd_table k.name (List.mem_of_getElem? h1)
  have t2 := List.all_eq_true.mp t j (by
    rcases (by omega : j = 1 ∨ j = 2 ∨ j = 3) with e | e | e <;> rw [e] <;> simp)
  rw [Bool.and_eq_true, Bool.and_eq_true, Bool.and_eq_true] at t2
  have e : k = ⟨k.name, parts3.take j⟩ := by rw [← h4]
  rw [← e] at t2
  refine ⟨t2.1.1.1, t2.1.1.2, t2.1.2, t2.2, ?_, ?_⟩ <;> rw [h4] <;> rcases (by omega : j = 1 ∨ j = 2 ∨ j = 3) with e | e | e <;> rw [e] <;> decide
theorem kindsGood.names {ks : List Kd} (h : kindsGood ks) : ks.map Kd.name = names5.take ks.length := by
  refine List.ext_getElem? fun i => ?_
  rw [List.getElem?_map, List.getElem?_take]
  by_cases hi : i < ks.length
  · rw [if_pos hi, List.getElem?_eq_getElem hi]
    exact (h.2.2 i _ (List.getElem?_eq_getElem hi)).1.symm
  · rw [if_neg hi, List.getElem?_eq_none (by omega)]
    rfl
theorem kindsGood.ok {ks : List Kd} (h : kindsGood ks) : kindsOk ks := ⟨h.1, h.2.1, by rw [h.names]; exact List.Nodup.sublist (List.take_sublist _ _) (by decide), fun k hk => by
  obtain ⟨i, hi⟩ := List.getElem?_of_mem hk
  have := (h.2.2 i k hi).ok
  exact ⟨this.1, this.2.1⟩⟩
/-- l[:j] of a list of three -/
theorem ev_cut3 {Γ : List Sl} {te th : TE} {a b c : PyData} (h : EvD K te Γ (· = .list [a, b, c])) (h2 : EvD K th Γ (fun d => ∃ j : Nat, d = .int j ∧ 1 ≤ j ∧ j ≤ 3)) : EvD K (tSl (rSlL K) te tNoPart (tPart th)) Γ (fun d => ∃ j : Nat, 1 ≤ j ∧ j ≤ 3 ∧ d = .list ([a, b, c].take j)) := fun G σ H e i Q q =>
  h G σ H e i _ fun v d1 H1 i1 l1 p1 dq => h2 G σ H1 (e.le l1) i1 _ fun v2 d2 H2 i2 l2 ⟨j, p2, j1, j2⟩ dq2 => by
    subst p1; subst p2
    cases dq2
    cases dq with
    | @lst ad xs _ hs ha =>
      refine ⟨_, rfl, ad, xs, rfl, Fr.upL (exL l2 hs), fun p hp => ?_⟩
      have ec : cutV xs none (some (j : Int)) = xs.take j := by
        have hl := ha.length
        match xs, hl with
        | [x, y, z], _ => rcases (by omega : j = 1 ∨ j = 2 ∨ j = 3) with e | e | e <;> rw [e] <;> rfl
      rw [ec]
      obtain ⟨i3, l3, h3⟩ := Fr.new (o := HO.lst (xs.take j)) i2 hp
      exact q _ _ _ i3 ((l1.trans l2).trans l3) ⟨j, j1, j2, rfl⟩ (.lst (.inl (.inl h3)) (((ha.take j).ex l2).ex l3))
abbrev spKindsL (K : PySem.W.Frag) : Sp := spF K (fun ss => ss = [.well, .dat (.int 5), .dat (.int 3)]) (fun ss d => ∃ ks, d = .list (ks.map Kd.D) ∧ kindsGood ks ∧ ks.length ≤ 5)
theorem ok_law_kinds (T : TL5 K mg) : FnOk P w K mg base CX0 2 T.law_kinds.f T.law_kinds.fd ["_law_well", "_law_most", "_law_many"] (spKindsL K) := by
  have G_law_draw : FnOk P w K mg base CX0 1 T.law_draw.f T.law_draw.fd ["_law_well", "_law_many"] (spDraw K) := ok_law_draw T.toTL1
  refine T.law_kinds.F.ok sc_law_kinds (fun vs H Q E ⟨G, ss, iv, a, hp, k⟩ => a.length.trans (by rw [hp]; rfl)) (fun cdv A outer s H vs Q E hr ⟨G, ss, iv, a, hp, k⟩ => ?_)
  subst hp
  obtain ⟨v, x, y, rfl⟩ := three a.length
  refine ⟨_, (pss_cons (ps_par (i := 3) (j := 4) (by rfl) sc_law_kinds.nd rfl rfl (by decide) rfl rfl (pa_cons (pe_lst (pa_cons pe_str (pa_cons pe_str (pa_cons pe_str (pa_cons pe_str (pa_cons pe_str pa_nil)))))) (pa_cons (pe_lst (pa_cons pe_str (pa_cons pe_str (pa_cons pe_str pa_nil)))) pa_nil)) (by rfl))
    (pss_cons (ps_set (i := 5) sc_law_kinds.nd rfl (by first | exact Or.inl rfl | exact Or.inr rfl) (pe_lst pa_nil))
    (pss_cons (ps_for PassesOwn.never rfl (pi_range1 rfl T.range (pa_cons (pe_op op_add pe_int (pe_call G_law_draw (hr.mono (by decide)) rfl T.law_draw.g T.law_draw.F.kp T.law_draw.b .nil pass0 (pa_cons (pv 0) (pa_cons (pv 1) pa_nil)))) pa_nil)) (pg_name (i := 6) sc_law_kinds.nd rfl (by first | exact Or.inl rfl | exact Or.inr rfl))
      (pss_one (ps_expr (pe_bm PySem.F.plainAttrs_list PySem.F.slot_list_append PySem.F.type_list_append mt_append (pv 5) (pa_cons (pe_tup (pa_cons (pe_ix ix_list (pv 3) (pv 6) (fun _ _ => rfl)) (pa_cons (pe_tupleOf (by rfl) T.tuple (pe_slice sl_list (pv 4) po_none (po_some (pe_op op_add pe_int (pe_call G_law_draw (hr.mono (by decide)) rfl T.law_draw.g T.law_draw.F.kp T.law_draw.b .nil pass0 (pa_cons (pv 0) (pa_cons (pv 2) pa_nil))))))) pa_nil))) pa_nil)))))
    (pss_one (ps_ret (pv 5)))))), ?_⟩
  refine doneF (Pd := fun d => ∃ ks, d = .list (ks.map Kd.D) ∧ kindsGood ks ∧ ks.length ≤ 5) 4 rfl ?_ iv a fun v d H' i' l' p' dq => k v d H' i' l' p' dq
  refine rs_par (a := .list (names5.map .str)) (b := .list (parts3.map .str)) (by show 3 < 7; omega) (by show 4 < 7; omega) (elc (ev_lstE [.str "zed", .str "row", .str "a", .str "leaf", .str "k"] (elc ev_str (elc ev_str (elc ev_str (elc ev_str (elc ev_str el_nil)))))) (elc (ev_lstE [.str "y", .str "x", .str "n"] (elc ev_str (elc ev_str (elc ev_str el_nil)))) el_nil)) ?_
  refine rs_newL (j := 5) (by show 5 < 7; omega) (fun q s hq hs => ?_) ?_
  · match q, hs with
    | 0, hs => cases hs; rfl
    | 1, hs => cases hs; rfl
    | 2, hs => cases hs; rfl
    | 3, hs => cases hs; rfl
    | 4, hs => cases hs; rfl
    | 5, hs => cases hs; rfl
    | 6, hs => cases hs; rfl
    | q + 7, hs => cases hs
  let Γl : List PyData → List Sl := fun es => [.well, .dat (.int 5), .dat (.int 3), .dat (.list (names5.map .str)), .dat (.list (parts3.map .str)), .olst es, .any]
  have hkeep : ∀ es, Keep (Γl es) 5 := fun es q s hq hs => by
    match q, hs with
    | 0, hs => cases hs; rfl
    | 1, hs => cases hs; rfl
    | 2, hs => cases hs; rfl
    | 3, hs => cases hs; rfl
    | 4, hs => cases hs; rfl
    | 5, hs => exact absurd rfl hq
    | 6, hs => cases hs; rfl
    | q + 7, hs => cases hs
  refine rl_seq (N := fun es Γ' => ∃ ks : List Kd, es = ks.map Kd.D ∧ kindsGood ks ∧ ks.length ≤ 5) (ap_for (Γl := Γl) (vs := [6]) (Nn := fun n => 1 ≤ n ∧ n ≤ 5) (Pi := fun i d => d = .int (i : Nat)) (Nt := fun i es d => (Γl es).set 6 (.dat d)) (I := fun i es => ∃ ks : List Kd, es = ks.map Kd.D ∧ ks.length = i ∧ ∀ q k, ks[q]? = some k → kdGood q k) (by decide) (fun es => rfl) hkeep ?_ ⟨[], rfl, rfl, fun q k h => by simp at h⟩ (fun i es _ => tg_name (by show 6 < 7; omega)) ?_ (fun n es hn ⟨ks, e1, e2, e3⟩ => ⟨ks, e1, ⟨by omega, by omega, e3⟩, by omega⟩)) (fun es Γ' ⟨ks, e1, e2⟩ => by
      subst e1
      exact fun G σ H D l vs ev iv hj hd k => rl_retL (K := K) (Γ := Γ') G σ H D l vs ev iv hj hd fun v d H' i' e' p' => k v d H' i' e' ⟨ks, p', e2⟩)
  · refine e0_range1 (fun G σ H ev iv Q q => es_cons (P := fun d => ∃ n : Nat, d = .int n ∧ 1 ≤ n ∧ n ≤ 5) ((ev_opC (P1 := fun i => i = 1) (P2 := fun j => 0 ≤ j ∧ j < 5) (g' := fun i j => .int (i + j)) (fun _ _ _ => .int _) (ev_is ev_int) ((ev_draw (i := 0) (m := 5) rfl (ev_var rfl) (by decide) (by decide)).imp fun d ⟨n, e, e2⟩ => ⟨n, e, by omega, by omega⟩)).imp fun d ⟨i, j, e1, e2, e⟩ => ⟨(i + j).toNat, by rw [e, Int.toNat_of_nonneg (by omega)], by omega, by omega⟩) es_nil G σ H ev iv Q fun vs ss H' i' l' ⟨d, r, e1, ⟨n, e2, e3⟩, e4⟩ dqs => q vs ss H' i' l' ⟨n, e3, by rw [e1, e2, e4]⟩ dqs) fun n e => by omega
  · rintro n i es d hn hlt ⟨ks, rfl, e2, e3⟩ rfl
    have hi5 : i < 5 := by omega
    have hnm : (names5.map PyData.str)[i]? = some (.str (names5[i]'hi5)) := by rw [List.getElem?_map, List.getElem?_eq_getElem (show i < names5.length from hi5)]; rfl
    refine ap_app (P := fun e => ∃ k : Kd, e = k.D ∧ kdGood i k) (fun q s hq hs => ?_) (by show 5 < 7; omega) (by rw [List.length_map]; omega) ?_ fun e ⟨k, e1, e4⟩ => ⟨⟨ks ++ [k], by rw [e1, List.map_append]; rfl, by simp [e2], fun q k' hk => ?_⟩, rfl, fun q s hq hs => ?_⟩
    · match q, hs with
      | 0, hs => cases hs; rfl
      | 1, hs => cases hs; rfl
      | 2, hs => cases hs; rfl
      | 3, hs => cases hs; rfl
      | 4, hs => cases hs; rfl
      | 5, hs => exact absurd rfl hq
      | 6, hs => cases hs; rfl
      | q + 7, hs => cases hs
    · refine (ev_tup (el_cons (ev_ixL (n := i) (ds := names5.map .str) (ev_var rfl) (ev_var rfl) hnm) (el_cons (ev_tupleP (Q := fun es => ∃ j : Nat, 1 ≤ j ∧ j ≤ 3 ∧ es = (parts3.map PyData.str).take j) ((ev_cut3 (a := .str "y") (b := .str "x") (c := .str "n") (ev_var rfl) ((ev_opC (P1 := fun i => i = 1) (P2 := fun j => 0 ≤ j ∧ j < 3) (g' := fun i j => .int (i + j)) (fun _ _ _ => .int _) (ev_is ev_int) ((ev_draw (i := 0) (m := 3) rfl (ev_var rfl) (by decide) (by decide)).imp fun d ⟨n, e, e2⟩ => ⟨n, e, by omega, e2⟩)).imp fun d ⟨i, j, e1, e2, e⟩ => ⟨(i + j).toNat, by rw [e, Int.toNat_of_nonneg (by omega)], by omega, by omega⟩)).imp fun d ⟨j, j1, j2, e⟩ => ⟨_, e, j, j1, j2, rfl⟩)) el_nil)) fun ds ⟨a, r, e, _, b, r2, e2, _, e3⟩ => by rw [e, e2, e3]; exact Nat.le_of_ble_eq_true rfl).imp fun d ⟨ds, e0, a, r, e, p1, b, r2, e2, ⟨es, p2, j, j1, j2, p3⟩, e3⟩ => ⟨⟨names5[i]'hi5, parts3.take j⟩, by rw [e0, e, e2, e3, p1, p2, p3]; unfold Kd.D; rw [List.map_take], List.getElem?_eq_getElem (show i < names5.length from hi5), j, j1, j2, rfl⟩
    · by_cases hq : q < ks.length
      · rw [List.getElem?_append_left hq] at hk
        exact e3 q k' hk
      · have : q = i := by
          have := (List.getElem?_eq_some_iff.mp hk).1
          simp at this
          omega
        subst this
        rw [List.getElem?_append_right (by omega)] at hk
        rw [show q - ks.length = 0 by omega] at hk
        simp at hk
        subst hk
        exact e4
    · match q, hs with
      | 0, hs => exact .inr hs
      | 1, hs => exact .inr hs
      | 2, hs => exact .inr hs
      | 3, hs => exact .inr hs
      | 4, hs => exact .inr hs
      | 5, hs => exact absurd rfl hq
      | 6, hs => exact .inl (Option.some.inj hs).symm
      | q + 7, hs => cases hs
end
end K39

set_option Elab.async false
set_option linter.all false
set_option maxRecDepth 100000
set_option maxHeartbeats 4000000
namespace L2
open PySem PySem.Spec PyProof.Rows
open Evl (Ex)
section
variable {K : PySem.W.Frag} {Γ : List Sl} {te tb : TE} {ta : TA} {tu ts : TS} {tt : TT} {j : Nat} {ds : List PyData} {P : PyData → Prop} {N : List PyData → List Sl → Prop}
theorem ap_ifP {Pb : Bool → Prop} (h : EvB K tt Γ Pb) (h1 : Pb true → Apps K ts Γ j ds N) (h2 : Pb false → Apps K tu Γ j ds N) : Apps K (tIfS tt ts tu) Γ j ds N := fun G σ H D l vs ev iv hj hd k =>
  h _ σ H ev iv _ fun c H1 i1 l1 e => by
    have go : ∀ {t : TS}, Apps K t Γ j ds N → t D σ H1 := fun h => h G σ H1 D l vs (ev.le l1) i1 hj (hd.ex l1) fun σ' H' us es Γ' i' e' => k σ' H' us es Γ' i' fun c u h => e' c u (l1 c u h)
    cases c with
    | true => exact go (h1 e)
    | false => exact go (h2 e)
/-- x, found = e, []; .. -/
theorem rs_parL {i : Nat} {a : PyData} (hi : i < Γ.length) (hij : i ≠ j) (hjl : j < Γ.length) (h : EvD K te Γ (· = a)) (h2 : RetL K tu ((Γ.set i (.dat a)).set j (.olst [])) j [] P) : Rets K (tSeq (tPar i j (tCons te (tCons (tLst tNil) tNil))) tu) Γ P := fun G σ H D ev iv k =>
  h G σ H ev iv _ fun v d H1 i1 l1 p1 dq => ⟨Nat.zero_le _, fun p hp => by
    subst p1
    refine ⟨_, _, rfl, ?_⟩
    obtain ⟨iv1, vw1⟩ := Fr.own_new (G := G) (o := HO.lst []) i1 hp
    have ev1 : EnvOk K G H1 (σ.set i (some v)) (Γ.set i (.dat d)) := (ev.le l1).set hi dq
    refine h2 G _ _ D p [] ((ev1.own (l := p) (o := .lst []) (H' := upd H1 p (.lst [])) (by rw [vw1]; exact fun _ _ h => h)).set (by rw [List.length_set]; exact hjl) ⟨p, [], rfl, fun H' i => Fr.own_at i, .nil⟩) iv1 (List.getElem?_set_self (by rw [List.length_set, ev.1]; exact hjl)) .nil fun v d H' i' e' => k v d H' i' ?_
    rw [vw1] at e'
    exact fun c u h => e' c u (l1 c u h)⟩
/-- found == [] -/
theorem eb_isNil {n : Nat} (hn : n < 64) (hj : Γ[j]? = some (.olst ds)) (ho : ∀ e ∈ ds, okD n e = true) : EvB K (tTest (tOp (rEqD K) (tVar j) (tLst tNil))) Γ (· = ds.isEmpty) := fun G σ H ev iv Q q => by
  rcases ev.2 j _ hj with z | ⟨v, hv, a, vs, e1, e2, e3⟩
  · cases z
  · subst e1
    refine ⟨_, hv, Nat.zero_le _, fun p hp => ?_⟩
    obtain ⟨i2, l2, h2⟩ := Fr.new (o := HO.lst []) iv hp
    have hd : DqAll K (upd H p (HO.lst [])) vs ds := (e3.ex l2).ex fun _ _ => G.sub
    have key : ∀ (xs : List V) (ds : List PyData), (∀ e ∈ ds, okD n e = true) → DqAll K (upd H p (HO.lst [])) xs ds → DpAll K (upd H p (HO.lst [])) xs ds := by
      intro xs
      induction xs with
      | nil => intro ds _ a; cases a; exact .nil
      | cons x xs ih =>
        intro ds hd a
        cases a with
        | cons h1 t1 => exact .cons (dq_dp n (hd _ List.mem_cons_self) h1) (ih _ (fun e he => hd e (List.mem_cons_of_mem _ he)) t1)
    have lay : ∀ ys : List PyData, (∀ e ∈ ys, okD n e = true) → PyData.canLayAll0 ys = true ∧ PyData.depthAll ys ≤ n := by
      intro ys
      induction ys with
      | nil => exact fun _ => ⟨by simp only [PyData.canLayAll0], by simp only [PyData.depthAll]; omega⟩
      | cons y ys ih =>
        intro hy
        have h1 := okD_lay n y (hy y List.mem_cons_self)
        have h2 := ih fun e he => hy e (List.mem_cons_of_mem _ he)
        exact ⟨by simp only [PyData.canLayAll0]; rw [h1.1, h2.1]; rfl, by simp only [PyData.depthAll]; omega⟩
    have sh : SeqAt.shaped (.list ds) = true := by
      have l := lay ds ho
      show (PyData.canLay0 (.list ds) && decide (PyData.depth (.list ds) ≤ 64)) = true
      have q1 : PyData.canLay0 (.list ds) = true := by simp only [PyData.canLay0]; exact l.1
      have q2 : PyData.depth (.list ds) ≤ 64 := by simp only [PyData.depth]; omega
      rw [q1, decide_eq_true q2]
      rfl
    refine ⟨.list ds, .list [], .lst (SqL.of (e2 _ i2)) (key vs ds ho hd), .lst (SqL.of upd_same) .nil, sh, by decide, _, rfl, q _ _ i2 l2 ?_⟩
    cases ds with
    | nil => rfl
    | cons d ds => simp only [PyData.eqv, PyData.eqvAll]; rfl
theorem ev_ixTP {α : Type} {Q : α → Prop} {f g : α → PyData} {h' : α → List PyData} (hf : ∀ a, f a = .tuple (g a :: h' a)) (h : EvD K te Γ (fun d => ∃ a, Q a ∧ d = f a)) : EvD K (tOp (rIxT K) te (tC (.int 0))) Γ (fun d => ∃ a, Q a ∧ d = g a) := fun G σ H e i Qv q =>
  h G σ H e i _ fun v d1 H1 i1 l1 ⟨a, p1, p2⟩ dq => by
    rw [hf] at p2
    subst p2
    cases dq with
    | tup hs ha =>
      cases ha with
      | cons a1 t1 => exact ⟨_, _, _, _, rfl, rfl, Fr.upT hs, atI_nat (j := 0) (List.getElem?_cons_zero), q _ _ H1 i1 l1 ⟨a, p1, rfl⟩ a1⟩
end
end L2
namespace K39
open PySem PySem.Spec PyProof.Rows L2
section
variable {P : Program} {w : World} {K : PySem.W.Frag} {mg : Str → Option Value} {base : Heap}
abbrev s_law_rules : Stmt := topS 39
abbrev N_law_rules : List Str := ["_law_well", "_law_width_so", "_law_kinds_here", "_law_most", "_law_words", "_law_found", "_law_kind", "_law_names", "_law_turn", "_law_children", "_law_one_here"]
theorem sc_law_rules : FnScope N_law_rules ["_law_well", "_law_width_so", "_law_kinds_here", "_law_most"] (defScope s_law_rules) := ⟨rfl, rfl, rfl, by decide +kernel, rfl, by decide +kernel, by decide +kernel⟩
structure TL6 (K : PySem.W.Frag) (mg : Str → Option Value) extends TL5 K mg where
  law_rules : Df K mg "_law_rules" s_law_rules ["_law_well", "_law_width_so", "_law_kinds_here", "_law_most"]
def words12 : List Str := ["one", "r", "put", "nil", "f", "g", "h", "abcdefgh", "s", "t", "u", "v"]
theorem words_table : (words12.all fun n => nameS n && smallD (.str n) && PyData.strOk n) = true := by decide +kernel
theorem names_table : (names5.all fun n => smallD (.str n) && PyData.strOk n) = true := by decide +kernel
def ruGood (w : Int) (ks : List Kd) (i : Nat) (r : Ru) : Prop := words12[i]? = some r.name ∧ ruleGood w ks r ∧ okD 8 r.D = true
def rulesGood (w : Int) (ks : List Kd) (rs : List Ru) : Prop := 1 ≤ rs.length ∧ rs.length ≤ 12 ∧ ∀ i r, rs[i]? = some r → ruGood w ks i r
theorem okD_ints (n : Nat) (ns : List Int) : okD (n + 1) (intsT ns) = true := by
  show (ns.map PyData.int).all (okD n) = true
  rw [List.all_map]
  exact List.all_eq_true.mpr fun x _ => by cases n <;> rfl
theorem okD_sum (ts : List Tm) : okD 7 (sumD ts) = true := by
  show (ts.map Tm.D).all (okD 6) = true
  rw [List.all_map]
  refine List.all_eq_true.mpr fun t _ => ?_
  show ([PyData.int t.f, intsT t.p, .int t.n].all (okD 5)) = true
  rw [List.all_cons, List.all_cons, List.all_cons, okD_ints 4]
  rfl
theorem okD_strs (n : Nat) {cs : List Str} (h : ∀ c ∈ cs, PyData.strOk c = true) : okD (n + 1) (.tuple (cs.map .str)) = true := by
  show (cs.map PyData.str).all (okD n) = true
  rw [List.all_map]
  exact List.all_eq_true.mpr fun c hc => by cases n <;> exact h c hc
theorem okD_ru {r : Ru} (h1 : PyData.strOk r.name = true) (h2 : PyData.strOk r.kind = true) (h3 : ∀ c ∈ r.ch, PyData.strOk c = true) : okD 8 r.D = true := by
  show ([PyData.str r.name, .str r.kind, .tuple (r.ch.map .str), .int r.num, .tuple (r.sums.map sumD)].all (okD 7)) = true
  have q : okD 7 (.tuple (r.sums.map sumD)) = true := by
    show (r.sums.map sumD).all (okD 6) = true
    rw [List.all_map]
    refine List.all_eq_true.mpr fun ts _ => ?_
    show (ts.map Tm.D).all (okD 5) = true
    rw [List.all_map]
    refine List.all_eq_true.mpr fun t _ => ?_
    show ([PyData.int t.f, intsT t.p, .int t.n].all (okD 4)) = true
    rw [List.all_cons, List.all_cons, List.all_cons, okD_ints 3]
    rfl
  rw [List.all_cons, List.all_cons, List.all_cons, List.all_cons, List.all_cons, okD_strs 6 h3, q]
  show (PyData.strOk r.name && (PyData.strOk r.kind && _)) = true
  rw [h1, h2]
  rfl
abbrev spRulesL (K : PySem.W.Frag) : Sp := spF K (fun ss => ∃ (w : Int) (ks : List Kd), ss = [.well, .dat (.int w), .dat (.list (ks.map Kd.D)), .dat (.int 7)] ∧ 0 ≤ w ∧ w ≤ 64 ∧ kindsGood ks)
  (fun ss d => ∀ (w : Int) (ks : List Kd), ss = [.well, .dat (.int w), .dat (.list (ks.map Kd.D)), .dat (.int 7)] → ∃ rs, d = .list (rs.map Ru.D) ∧ rulesGood w ks rs)
theorem ok_law_rules (T : TL6 K mg) : FnOk P w K mg base CX0 5 T.law_rules.f T.law_rules.fd ["_law_well", "_law_width_so", "_law_kinds_here", "_law_most"] (spRulesL K) := by
  have G_law_draw : FnOk P w K mg base CX0 1 T.law_draw.f T.law_draw.fd ["_law_well", "_law_many"] (spDraw K) := ok_law_draw T.toTL1
  have G_law_one : FnOk P w K mg base CX0 2 T.law_one.f T.law_one.fd ["_law_well", "_law_some"] (spOne K) := ok_law_one T.toTL1
  have G_law_rule : FnOk P w K mg base CX0 4 T.law_rule.f T.law_rule.fd ["_law_well", "_law_width_so", "_law_kinds_here", "_law_name", "_law_kind", "_law_children"] (spRuleL K) := ok_law_rule T.toTL4
  refine T.law_rules.F.ok sc_law_rules (fun vs H Q E ⟨G, ss, iv, a, ⟨w, ks, hp, _⟩, k⟩ => a.length.trans (by rw [hp]; rfl)) (fun cdv A outer s H vs Q E hr ⟨G, ss, iv, a, ⟨w, ks, hp, h0, h1, hk⟩, k⟩ => ?_)
  subst hp
  obtain ⟨v, x, y, z, rfl⟩ := four a.length
  refine ⟨_, (pss_cons (ps_par (i := 4) (j := 5) (by rfl) sc_law_rules.nd rfl rfl (by decide) rfl rfl (pa_cons (pe_lst (pa_cons pe_str (pa_cons pe_str (pa_cons pe_str (pa_cons pe_str (pa_cons pe_str (pa_cons pe_str (pa_cons pe_str (pa_cons pe_str (pa_cons pe_str (pa_cons pe_str (pa_cons pe_str (pa_cons pe_str pa_nil))))))))))))) (pa_cons (pe_lst pa_nil) pa_nil)) (by rfl))
    (pss_cons (ps_for PassesOwn.never rfl (pi_seq (pv 2)) (pg_tup rfl (pgs_cons (pg_name (i := 6) sc_law_rules.nd rfl (by first | exact Or.inl rfl | exact Or.inr rfl)) (pgs_cons (pg_name (i := 7) sc_law_rules.nd rfl (by first | exact Or.inl rfl | exact Or.inr rfl)) pgs_nil)))
      (pss_one (ps_if (PW.pt (pw_or (pt_cmpR (op_eqD hr.units) (pv 5) (pe_lst pa_nil) (nomark _)) (pw_or1 (pt_cmpR op_gt (pe_call G_law_draw (hr.mono (by decide)) rfl T.law_draw.g T.law_draw.F.kp T.law_draw.b .nil pass0 (pa_cons (pv 0) (pa_cons pe_int pa_nil))) pe_int (nomark _))))) (pss_one (ps_expr (pe_bm PySem.F.plainAttrs_list PySem.F.slot_list_append PySem.F.type_list_append mt_append (pv 5) (pa_cons (pe_call G_law_rule (hr.mono (by decide)) rfl T.law_rule.g T.law_rule.F.kp T.law_rule.b .nil pass0 (pa_cons (pv 0) (pa_cons (pv 1) (pa_cons (pv 2) (pa_cons (pe_ix ix_list (pv 4) (pe_callB call_len_seq (by rfl) T.len (by decide +kernel) (pa_cons (pv 5) pa_nil)) (fun _ _ => rfl)) (pa_cons (pv 6) (pa_cons (pe_tup pa_nil) pa_nil))))))) pa_nil)))) pss_nil)))
    (pss_cons (ps_for PassesOwn.never rfl (pi_range1 rfl T.range (pa_cons (pe_op op_add pe_int (pe_call G_law_draw (hr.mono (by decide)) rfl T.law_draw.g T.law_draw.F.kp T.law_draw.b .nil pass0 (pa_cons (pv 0) (pa_cons (pv 3) pa_nil)))) pa_nil)) (pg_name (i := 8) sc_law_rules.nd rfl (by first | exact Or.inl rfl | exact Or.inr rfl))
      (pss_cons (ps_set (i := 9) sc_law_rules.nd rfl (by first | exact Or.inl rfl | exact Or.inr rfl) (pe_tupleOf (by rfl) T.tuple (pe_lc (own := [("_law_one_here", 10)]) (g := gName 10) (tt := tYes) (te := tOp (rIxT K) (tCall (spOne K) [] E0 (tCons (tVar 0) (tCons (tVar 2) tNil))) (tC (.int 0))) rfl sc_law_rules.nd (pi_range1 rfl T.range (pa_cons (pe_op op_add pe_int (pe_call G_law_draw (hr.mono (by decide)) rfl T.law_draw.g T.law_draw.F.kp T.law_draw.b .nil pass0 (pa_cons (pv 0) (pa_cons pe_int pa_nil)))) pa_nil)) (blkOk_by (own := [("_law_one_here", 10)]) (N := N_law_rules) (sc := defScope s_law_rules) (by decide +kernel)) (fun _ _ _ _ _ => (pg_name (i := 10) sc_law_rules.nd rfl (by first | exact Or.inl rfl | exact Or.inr rfl))) (fun _ _ _ _ _ => pts_nil) (fun _ _ _ _ _ => (pe_ix ix_tup (pe_call G_law_one (hr.mono (by decide)) rfl T.law_one.g T.law_one.F.kp T.law_one.b .nil pass0 (pa_cons (pv 0) (pa_cons (pv 2) pa_nil))) pe_int (fun _ _ => rfl))))))
      (pss_one (ps_expr (pe_bm PySem.F.plainAttrs_list PySem.F.slot_list_append PySem.F.type_list_append mt_append (pv 5) (pa_cons (pe_call G_law_rule (hr.mono (by decide)) rfl T.law_rule.g T.law_rule.F.kp T.law_rule.b .nil pass0 (pa_cons (pv 0) (pa_cons (pv 1) (pa_cons (pv 2) (pa_cons (pe_ix ix_list (pv 4) (pe_callB call_len_seq (by rfl) T.len (by decide +kernel) (pa_cons (pv 5) pa_nil)) (fun _ _ => rfl)) (pa_cons (pe_ix ix_tup (pe_call G_law_one (hr.mono (by decide)) rfl T.law_one.g T.law_one.F.kp T.law_one.b .nil pass0 (pa_cons (pv 0) (pa_cons (pv 2) pa_nil))) pe_int (fun _ _ => rfl)) (pa_cons (pv 9) pa_nil))))))) pa_nil))))))
    (pss_one (ps_ret (pv 5)))))), ?_⟩
  refine doneF (Pd := fun d => ∃ rs, d = .list (rs.map Ru.D) ∧ rulesGood w ks rs) 7 rfl ?_ iv a fun v d H' i' l' p' dq => k v d H' i' l' (fun w' ks' e => by
    obtain ⟨e1, e2, _⟩ := inj4' e
    injection e1 with e1
    injection e2 with e2
    have e3 := (List.map_inj_right (f := Kd.D) (fun a b h => Kd.D_inj h)).mp e2
    rw [← e1, ← e3]
    exact p') dq
  refine rs_parL (a := .list (words12.map .str)) (by show 4 < 11; omega) (by decide) (by show 5 < 11; omega) (ev_lstE (words12.map .str) (elc ev_str (elc ev_str (elc ev_str (elc ev_str (elc ev_str (elc ev_str (elc ev_str (elc ev_str (elc ev_str (elc ev_str (elc ev_str (elc ev_str el_nil))))))))))))) ?_
  let Γl : List PyData → List Sl := fun es => [.well, .dat (.int w), .dat (.list (ks.map Kd.D)), .dat (.int 7), .dat (.list (words12.map .str)), .olst es, .any, .any, .any, .any, .any]
  have hkeep : ∀ es, Keep (Γl es) 5 := fun es q s hq hs => by
    match q, hs with
    | 0, hs => cases hs; rfl
    | 1, hs => cases hs; rfl
    | 2, hs => cases hs; rfl
    | 3, hs => cases hs; rfl
    | 4, hs => cases hs; rfl
    | 5, hs => exact absurd rfl hq
    | 6, hs => cases hs; rfl
    | 7, hs => cases hs; rfl
    | 8, hs => cases hs; rfl
    | 9, hs => cases hs; rfl
    | 10, hs => cases hs; rfl
    | q + 11, hs => cases hs
  have hkok := hk.ok
  have hkd : ∀ k ∈ ks, k.attrs.length ≤ 3 ∧ smallD (.str k.name) = true := fun k hm => by
    obtain ⟨i, hi⟩ := List.getElem?_of_mem hm
    have := (hk.2.2 i k hi).ok
    exact ⟨this.2.2.2.2.2, this.2.2.2.1⟩
  have hso : ∀ k ∈ ks, PyData.strOk k.name = true := fun k hm => by
    obtain ⟨i, hi⟩ := List.getElem?_of_mem hm
    have t := List.all_eq_true.mp names_table k.name (List.mem_of_getElem? (hk.2.2 i k hi).1)
    exact (Bool.and_eq_true _ _ ▸ t).2
  have hrule : ∀ {Γ : List Sl} {tk tc : TE} {E : XK} (rs : List Ru), Γ[0]? = some .well → Γ[1]? = some (.dat (.int w)) → Γ[2]? = some (.dat (.list (ks.map Kd.D))) → Γ[4]? = some (.dat (.list (words12.map .str))) → Γ[5]? = some (.olst (rs.map Ru.D)) → rs.length < 12 →
      EvD K tk Γ (fun d => ∃ k, k ∈ ks ∧ d = .str k.name) → EvD K tc Γ (fun d => ∃ ch : List Str, d = .tuple (ch.map .str) ∧ (∀ c ∈ ch, c ∈ ks.map Kd.name) ∧ ch.length ≤ 2) →
      EvD K (tCall (spRuleL K) [] E (tCons (tVar 0) (tCons (tVar 1) (tCons (tVar 2) (tCons (tOp (rIxL K) (tVar 4) (tCB (fun xs H Q => ∃ p ys, xs = [V.ref p] ∧ (SqL K H p ys ∨ SqT K H p ys) ∧ Q (V.int (ys.length : Nat)) H) (tCons (tVar 5) tNil))) (tCons tk (tCons tc tNil))))))) Γ (fun d => ∃ r : Ru, d = r.D ∧ ruGood w ks rs.length r) := fun {Γ tk tc E} rs g0 g1 g2 g4 g5 hl htk htc => by
    have hw0 : words12[rs.length]? = some (words12[rs.length]'hl) := List.getElem?_eq_getElem (show rs.length < words12.length from hl)
    have hwd : (words12.map PyData.str)[rs.length]? = some (.str (words12[rs.length]'hl)) := by rw [List.getElem?_map, hw0]; rfl
    have hwt := List.all_eq_true.mp words_table _ (List.mem_of_getElem? hw0)
    rw [Bool.and_eq_true, Bool.and_eq_true] at hwt
    refine (ev_call (es_well g0 (es_cons (ev_var g1) (es_cons (ev_var g2) (es_cons (ev_ixL (n := rs.length) (ev_var g4) (ev_eq (ev_lenO g5) (by rw [List.length_map])) hwd) (es_cons htk (es_cons htc es_nil)))))) fun ss ⟨r1, e1, d1, r2, e2, p1, d2, r3, e3, p2, d3, r4, e4, p3, d4, r5, e5, ⟨k, hm, p4⟩, d5, r6, e6, ⟨ch, p5, p6, p7⟩, p8⟩ => ⟨w, ks, _, k.name, ch, by rw [e1, e2, p1, e3, p2, e4, p3, e5, p4, e6, p5, p8], h0, h1, hkok.2.2.1, hkd, hk.2.1, List.mem_map.mpr ⟨k, hm, rfl⟩, p6, p7, hwt.1.1, hwt.1.2⟩).imp fun d ⟨ss, ⟨r1, e1, d1, r2, e2, p1, d2, r3, e3, p2, d3, r4, e4, p3, d4, r5, e5, ⟨k, hm, p4⟩, d5, r6, e6, ⟨ch, p5, p6, p7⟩, p8⟩, hp⟩ => ?_
    obtain ⟨r, q1, q2, q3, q4, q5⟩ := hp w ks _ k.name ch (by rw [e1, e2, p1, e3, p2, e4, p3, e5, p4, e6, p5, p8])
    refine ⟨r, q1, by rw [q2]; exact hw0, q5, okD_ru (by rw [q2]; exact hwt.2) (by rw [q3]; exact hso k hm) fun c hc => ?_⟩
    rw [q4] at hc
    obtain ⟨k', hk', rfl⟩ := List.mem_map.mp (p6 c hc)
    exact hso k' hk'
  have hend : ∀ (rs : List Ru) (r : Ru), (∀ q r, rs[q]? = some r → ruGood w ks q r) → ruGood w ks rs.length r → ∀ q r', (rs ++ [r])[q]? = some r' → ruGood w ks q r' := fun rs r h1 h2 q r' hq => by
    by_cases hlt : q < rs.length
    · rw [List.getElem?_append_left hlt] at hq
      exact h1 q r' hq
    · have : q = rs.length := by
        have := (List.getElem?_eq_some_iff.mp hq).1
        simp at this
        omega
      subst this
      rw [List.getElem?_append_right (Nat.le_refl _), Nat.sub_self] at hq
      simp at hq
      subst hq
      exact h2
  refine rl_seq (N := fun es Γ' => Γ' = Γl es ∧ ∃ rs : List Ru, es = rs.map Ru.D ∧ 1 ≤ rs.length ∧ rs.length ≤ 5 ∧ ∀ q r, rs[q]? = some r → ruGood w ks q r) (ap_for (Γl := Γl) (vs := [6, 7]) (Nn := fun n => n = (ks.map Kd.D).length) (Pi := fun i d => (ks.map Kd.D)[i]? = some d) (Nt := fun i es d => NP (Γl es) 6 7 d) (I := fun i es => ∃ rs : List Ru, es = rs.map Ru.D ∧ rs.length ≤ i ∧ (1 ≤ i → 1 ≤ rs.length) ∧ ∀ q r, rs[q]? = some r → ruGood w ks q r) (by decide) (fun es => rfl) hkeep (e0_seq (el_list (ev_var rfl))) ⟨[], rfl, Nat.le_refl _, fun h => by omega, fun q r h => by simp at h⟩ (fun i es _ G σ H x d ev iv pd => ?_) ?_ (fun n es hn ⟨rs, e1, e2, e3, e4⟩ => ?_)) (fun es Γ' ⟨e, rs, e1, e2, e3, e4⟩ => ?_)
  · rw [List.getElem?_map] at pd
    obtain ⟨kd, _, rfl⟩ := Option.map_eq_some_iff.mp pd
    exact tg_pair (Pq := fun _ _ => True) (by show 6 < 11; omega) (by show 7 < 11; omega) G σ H x _ ev iv ⟨_, _, rfl, trivial⟩
  · rintro n i es d hn hlt ⟨rs, rfl, e2, e3, e4⟩ pd
    rw [hn, List.length_map] at hlt
    rw [List.getElem?_map] at pd
    obtain ⟨kd, hkd', rfl⟩ := Option.map_eq_some_iff.mp pd
    have hk5 := hk.2.1
    have hwk : ∀ (es' : List PyData) (Γ' : List Sl), Γ' = [.well, .dat (.int w), .dat (.list (ks.map Kd.D)), .dat (.int 7), .dat (.list (words12.map .str)), .olst es', .dat (.str kd.name), .dat (.tuple (kd.attrs.map .str)), .any, .any, .any] → (Γl es').length = Γ'.length ∧ ∀ (q : Nat) s, q ≠ 5 → (Γl es')[q]? = some s → s = .any ∨ Γ'[q]? = some s := fun es' Γ' e => by
      subst e
      refine ⟨rfl, fun q s hq hs => ?_⟩
      match q, hs with
      | 0, hs => exact .inr hs
      | 1, hs => exact .inr hs
      | 2, hs => exact .inr hs
      | 3, hs => exact .inr hs
      | 4, hs => exact .inr hs
      | 5, hs => exact absurd rfl hq
      | 6, hs => exact .inl (Option.some.inj hs).symm
      | 7, hs => exact .inl (Option.some.inj hs).symm
      | 8, hs => exact .inl (Option.some.inj hs).symm
      | 9, hs => exact .inl (Option.some.inj hs).symm
      | 10, hs => exact .inl (Option.some.inj hs).symm
      | q + 11, hs => cases hs
    refine ap_ifP (Pb := fun b => rs = [] → b = true) ?_ (fun _ => ?_) (fun hb => ap_next ⟨⟨rs, rfl, by omega, fun _ => ?_, e4⟩, hwk _ _ rfl⟩)
    · refine fun G σ H ev iv Q q => eb_isNil (n := 8) (by decide) (j := 5) (ds := rs.map Ru.D) rfl (fun e he => ?_) G σ H ev iv _ fun b H1 i1 l1 eb => ?_
      · obtain ⟨r, hr', rfl⟩ := List.mem_map.mp he
        obtain ⟨q, hq⟩ := List.getElem?_of_mem hr'
        exact (e4 q r hq).2.2
      · subst eb
        cases rs with
        | nil => exact q true H1 i1 l1 fun _ => rfl
        | cons r rs =>
          refine ev_draw (i := 0) (m := 5) rfl ev_int (by decide) (by decide) G σ H1 (ev.le l1) i1 _ fun v d H2 i2 l2 ⟨n, e, hn⟩ dq => ?_
          subst e
          cases dq
          exact ⟨n, 0, rfl, rfl, _, rfl, q _ H2 i2 (l1.trans l2) fun z => nomatch z⟩
    · refine ap_app (P := fun e => ∃ r : Ru, e = r.D ∧ ruGood w ks rs.length r) (fun q s hq hs => ?_) (by show 5 < 11; omega) (by rw [List.length_map]; omega) (hrule rs rfl rfl rfl rfl rfl (by omega) ((ev_var rfl).imp fun d e => ⟨kd, List.mem_of_getElem? hkd', e⟩) ((ev_tupE [] el_nil).imp fun d e => ⟨[], e, (fun c h => nomatch h), Nat.zero_le _⟩)) fun e ⟨r, e5, e6⟩ => ⟨⟨rs ++ [r], by rw [e5, List.map_append]; rfl, by simp; omega, fun _ => by simp, hend rs r e4 e6⟩, hwk _ _ rfl⟩
      match q, hs with
      | 0, hs => cases hs; rfl
      | 1, hs => cases hs; rfl
      | 2, hs => cases hs; rfl
      | 3, hs => cases hs; rfl
      | 4, hs => cases hs; rfl
      | 5, hs => exact absurd rfl hq
      | 6, hs => cases hs; rfl
      | 7, hs => cases hs; rfl
      | 8, hs => cases hs; rfl
      | 9, hs => cases hs; rfl
      | 10, hs => cases hs; rfl
      | q + 11, hs => cases hs
    · cases rs with
      | nil => exact absurd (hb rfl) (by decide)
      | cons r rs => simp
  · rw [hn, List.length_map] at e2 e3
    exact ⟨rfl, rs, e1, e3 hk.1, by have := hk.2.1; omega, e4⟩
  subst e
  subst e1
  refine rl_seq (N := fun es Γ' => ∃ rs : List Ru, es = rs.map Ru.D ∧ rulesGood w ks rs) (ap_for (Γl := Γl) (vs := [8]) (Nn := fun n => 1 ≤ n ∧ n ≤ 7) (Pi := fun i d => d = .int (i : Nat)) (Nt := fun i es d => (Γl es).set 8 (.dat d)) (I := fun i es => ∃ rs : List Ru, es = rs.map Ru.D ∧ 1 ≤ rs.length ∧ rs.length ≤ 5 + i ∧ ∀ q r, rs[q]? = some r → ruGood w ks q r) (by decide) (fun es => rfl) hkeep ?_ ⟨rs, rfl, e2, by omega, e4⟩ (fun i es _ => tg_name (by show 8 < 11; omega)) ?_ (fun n es hn ⟨rs, e1, e2, e3, e4⟩ => ⟨rs, e1, e2, by omega, e4⟩)) (fun es Γ' ⟨rs, e1, e2⟩ => by
      subst e1
      exact fun G σ H D l vs ev iv hj hd k => rl_retL (K := K) (Γ := Γ') G σ H D l vs ev iv hj hd fun v d H' i' e' p' => k v d H' i' e' ⟨rs, p', e2⟩)
  · refine e0_range1 (fun G σ H ev iv Q q => es_cons (P := fun d => ∃ n : Nat, d = .int n ∧ 1 ≤ n ∧ n ≤ 7) ((ev_opC (P1 := fun i => i = 1) (P2 := fun j => 0 ≤ j ∧ j < 7) (g' := fun i j => .int (i + j)) (fun _ _ _ => .int _) (ev_is ev_int) ((ev_draw (i := 0) (m := 7) rfl (ev_var rfl) (by decide) (by decide)).imp fun d ⟨n, e, e2⟩ => ⟨n, e, by omega, e2⟩)).imp fun d ⟨i, j, e1, e2, e⟩ => ⟨(i + j).toNat, by rw [e, Int.toNat_of_nonneg (by omega)], by omega, by omega⟩) es_nil G σ H ev iv Q fun vs ss H' i' l' ⟨d, r, e1, ⟨n, e2, e3⟩, e4⟩ dqs => q vs ss H' i' l' ⟨n, e3, by rw [e1, e2, e4]⟩ dqs) fun n e => by omega
  · rintro n i es d hn hlt ⟨rs, rfl, e2, e3, e4⟩ rfl
    have hone : ∀ {Γ : List Sl} {E : XK}, Γ[0]? = some .well → Γ[2]? = some (.dat (.list (ks.map Kd.D))) → EvD K (tOp (rIxT K) (tCall (spOne K) [] E (tCons (tVar 0) (tCons (tVar 2) tNil))) (tC (.int 0))) Γ (fun d => ∃ k, k ∈ ks ∧ d = .str k.name) := fun g0 g2 =>
      ev_ixTP (Q := fun k => k ∈ ks) (f := Kd.D) (g := fun k => .str k.name) (h' := fun k => [.tuple (k.attrs.map .str)]) (fun k => rfl) ((ev_one (ds := ks.map Kd.D) g0 (ev_var g2) (by rw [List.length_map]; exact hk.1) (by rw [List.length_map]; have := hk.2.1; omega)).imp fun d hd => by
        obtain ⟨k, h1, h2⟩ := List.mem_map.mp hd
        exact ⟨k, h1, h2.symm⟩)
    refine ap_set (i := 9) (P := fun d => ∃ ch : List Str, d = .tuple (ch.map .str) ∧ (∀ c ∈ ch, c ∈ ks.map Kd.name) ∧ ch.length ≤ 2) (by show 9 < 11; omega) (by decide) ((ev_tupleP (Q := fun es => es.length ≤ 2 ∧ ∀ e ∈ es, ∃ k, k ∈ ks ∧ e = .str k.name) ((ev_lc (Nn := fun n => n ≤ 2) (P := fun i d => d = .int (i : Nat)) (N := fun d => [.well, .dat (.int w), .dat (.list (ks.map Kd.D)), .dat (.int 7), .dat (.list (words12.map .str)), .olst (rs.map Ru.D), .any, .any, .dat (.int (i : Nat)), .any, .dat d]) (R := fun _ d e => ∃ k, k ∈ ks ∧ e = .str k.name) (fun n e => by omega) (ei_range1 (fun G σ H ev iv Q q => es_cons (P := fun d => ∃ n : Nat, d = .int n ∧ n ≤ 2) ((ev_opC (P1 := fun i => i = 1) (P2 := fun j => 0 ≤ j ∧ j < 2) (g' := fun i j => .int (i + j)) (fun _ _ _ => .int _) (ev_is ev_int) ((ev_draw (i := 0) (m := 2) rfl ev_int (by decide) (by decide)).imp fun d ⟨n, e, e2⟩ => ⟨n, e, by omega, e2⟩)).imp fun d ⟨i, j, e1, e2, e⟩ => ⟨(i + j).toNat, by rw [e, Int.toNat_of_nonneg (by omega)], by omega⟩) es_nil G σ H ev iv Q fun vs ss H' i' l' ⟨d, r, e1, ⟨n, e2, e3⟩, e4⟩ dqs => q vs ss H' i' l' ⟨n, e3, by rw [e1, e2, e4]⟩ dqs) fun n e => by omega) (fun i => tg_name (by show 10 < 11; omega)) (fun i d pd => hone rfl rfl)).imp fun d ⟨es, e1, e2, e3⟩ => ⟨es, e1, e2, fun e he => by
        obtain ⟨i, hi⟩ := List.getElem?_of_mem he
        obtain ⟨_, _, h⟩ := e3 i e hi
        exact h⟩)).imp fun d ⟨es, e1, e2, e3⟩ => ?_) fun d ⟨ch, hd, hc1, hc2⟩ => ?_
    · have key : ∀ (es : List PyData), (∀ e ∈ es, ∃ k, k ∈ ks ∧ e = .str k.name) → ∃ ch : List Str, es = ch.map .str ∧ ∀ c ∈ ch, c ∈ ks.map Kd.name := by
        intro es
        induction es with
        | nil => exact fun _ => ⟨[], rfl, fun f h => nomatch h⟩
        | cons e es ih =>
          intro h
          obtain ⟨k, h1, h2⟩ := h e List.mem_cons_self
          obtain ⟨fs, h3, h4⟩ := ih fun e he => h e (List.mem_cons_of_mem _ he)
          exact ⟨k.name :: fs, by rw [h2, h3]; rfl, fun g hg => (List.mem_cons.mp hg).elim (fun z => z ▸ List.mem_map.mpr ⟨k, h1, rfl⟩) fun z => h4 g z⟩
      obtain ⟨ch, f1, f2⟩ := key es e3
      rw [f1, List.length_map] at e2
      exact ⟨ch, by rw [e1, f1], f2, e2⟩
    subst hd
    refine ap_app (P := fun e => ∃ r : Ru, e = r.D ∧ ruGood w ks rs.length r) (fun q s hq hs => ?_) (by show 5 < 11; omega) (by rw [List.length_map]; omega) (hrule rs rfl rfl rfl rfl rfl (by omega) (hone rfl rfl) ((ev_var rfl).imp fun d e => ⟨ch, e, hc1, hc2⟩)) fun e ⟨r, e5, e6⟩ => ⟨⟨rs ++ [r], by rw [e5, List.map_append]; rfl, by simp, by simp; omega, hend rs r e4 e6⟩, rfl, fun q s hq hs => ?_⟩
    · match q, hs with
      | 0, hs => cases hs; rfl
      | 1, hs => cases hs; rfl
      | 2, hs => cases hs; rfl
      | 3, hs => cases hs; rfl
      | 4, hs => cases hs; rfl
      | 5, hs => exact absurd rfl hq
      | 6, hs => cases hs; rfl
      | 7, hs => cases hs; rfl
      | 8, hs => cases hs; rfl
      | 9, hs => cases hs; rfl
      | 10, hs => cases hs; rfl
      | q + 11, hs => cases hs
    · match q, hs with
      | 0, hs => exact .inr hs
      | 1, hs => exact .inr hs
      | 2, hs => exact .inr hs
      | 3, hs => exact .inr hs
      | 4, hs => exact .inr hs
      | 5, hs => exact absurd rfl hq
      | 6, hs => exact .inl (Option.some.inj hs).symm
      | 7, hs => exact .inl (Option.some.inj hs).symm
      | 8, hs => exact .inl (Option.some.inj hs).symm
      | 9, hs => exact .inl (Option.some.inj hs).symm
      | 10, hs => exact .inl (Option.some.inj hs).symm
      | q + 11, hs => cases hs
end
end K39

set_option Elab.async false
set_option linter.all false
set_option maxRecDepth 100000
set_option maxHeartbeats 4000000
namespace K39
open PySem PySem.Spec PyProof.Rows L2
/-! what is drawn is good -/
theorem lookup_kd : ∀ {ks : List Kd}, (ks.map Kd.name).Nodup → ∀ {k : Kd}, k ∈ ks → (szs ks).lookup k.name = some (.int (k.attrs.length : Nat))
  | [], _, _, h => by cases h
  | z :: ks, hn, k, h => by
    rw [List.map_cons, List.nodup_cons] at hn
    show List.lookup k.name ((z.name, PyData.int (z.attrs.length : Nat)) :: szs ks) = _
    rw [List.lookup_cons]
    rcases List.mem_cons.mp h with e | e
    · rw [e]
      simp
    · have : (k.name == z.name) = false := by
        rw [beq_eq_false_iff_ne]
        intro c
        exact hn.1 (by rw [← c]; exact List.mem_map.mpr ⟨k, e, rfl⟩)
      rw [this]
      exact lookup_kd hn.2 e
/-- the same grammar with another name of one attribute -/
theorem kd_of : ∀ {ks : List Kd} {t : Str} {d : PyData}, (szs ks).lookup t = some d → ∃ k ∈ ks, k.name = t ∧ d = .int (k.attrs.length : Nat)
  | [], _, _, h => by cases h
  | z :: ks, t, d, h => by
    have h : List.lookup t ((z.name, PyData.int (z.attrs.length : Nat)) :: szs ks) = some d := h
    rw [List.lookup_cons] at h
    split at h
    · rename_i e
      exact ⟨z, List.mem_cons_self .., (eq_of_beq e).symm, (Option.some.inj h).symm⟩
    · obtain ⟨k, a, b⟩ := kd_of h
      exact ⟨k, List.mem_cons_of_mem _ a, b⟩
def Ru.red (w : Int) (r : Ru) : Ru := ⟨r.name, r.kind, r.ch, r.num, r.sums.map (·.map (·.red w))⟩
theorem redS_D (w : Int) (ts : List Tm) : redS w (sumD ts) = sumD (ts.map (·.red w)) := by
  show PyData.tuple ((ts.map Tm.D).map (redT w)) = PyData.tuple ((ts.map (·.red w)).map Tm.D)
  rw [List.map_map, List.map_map]
  rfl
theorem redR_D (w : Int) (r : Ru) : redR w r.D = (r.red w).D := by
  show PyData.tuple [.str r.name, .str r.kind, .tuple (r.ch.map .str), .int r.num, .tuple ((r.sums.map sumD).map (redS w))] = PyData.tuple [.str r.name, .str r.kind, .tuple (r.ch.map .str), .int r.num, .tuple ((r.sums.map (·.map (·.red w))).map sumD)]
  rw [List.map_map, List.map_map, show (redS w ∘ sumD) = (sumD ∘ fun ts => ts.map (·.red w)) from funext fun ts => redS_D w ts]
theorem map_id' {α : Type} {f : α → α} : ∀ {l : List α}, (∀ x ∈ l, f x = x) → l.map f = l
  | [], _ => rfl
  | x :: l, h => by rw [List.map_cons, h x List.mem_cons_self, map_id' fun y hy => h y (List.mem_cons_of_mem _ hy)]
theorem Ru.red_self {w : Int} {r : Ru} (h : ∀ ts ∈ r.sums, sumSm w ts) : r.red w = r := by
  obtain ⟨na, ki, ch, nu, su⟩ := r
  unfold Ru.red
  rw [map_id' fun ts hts => map_id' fun t ht => ?_]
  obtain ⟨a, b⟩ := h ts hts t ht
  obtain ⟨f, p, n⟩ := t
  show (⟨f % (1 * 2 ^ w.toNat), p, n⟩ : Tm) = ⟨f, p, n⟩
  rw [Int.emod_eq_of_lt a b]
theorem redF_T (w : Int) (f : List Int) : redF w (intsT f) = intsT (f.map (modW · w)) := by
  show PyData.tuple ((f.map PyData.int).map _) = PyData.tuple ((f.map (modW · w)).map PyData.int)
  rw [List.map_map, List.map_map]
  rfl
theorem rulesGood.names {w : Int} {ks : List Kd} {rs : List Ru} (h : rulesGood w ks rs) : rs.map Ru.name = words12.take rs.length := by
  refine List.ext_getElem? fun i => ?_
  rw [List.getElem?_map, List.getElem?_take]
  by_cases hi : i < rs.length
  · rw [if_pos hi, List.getElem?_eq_getElem hi, (h.2.2 i _ (List.getElem?_eq_getElem hi)).1]
    rfl
  · rw [if_neg hi, List.getElem?_eq_none (by omega)]
    rfl
theorem rulesGood.nodup {w : Int} {ks : List Kd} {rs : List Ru} (h : rulesGood w ks rs) : (rs.map Ru.name).Nodup := by
  rw [h.names]
  exact List.Nodup.sublist (List.take_sublist _ _) (by decide)
theorem rulesGood.at {w : Int} {ks : List Kd} {rs : List Ru} (h : rulesGood w ks rs) {r : Ru} (hr : r ∈ rs) : ruleGood w ks r ∧ okD 8 r.D = true ∧ r.name ≠ "other" := by
  obtain ⟨i, hi⟩ := List.getElem?_of_mem hr
  have g := h.2.2 i r hi
  exact ⟨g.2.1, g.2.2, fun e => by
    have := List.mem_of_getElem? g.1
    rw [e] at this
    exact absurd this (by decide)⟩
theorem rulesGood.ok {w : Int} {ks : List Kd} {rs : List Ru} (h : rulesGood w ks rs) : rulesOk (szs ks) rs := ⟨h.1, h.2.1, h.nodup, fun r hr => ⟨(h.at hr).1.1, (h.at hr).1.2.1⟩⟩
theorem isInts_len {f : List Int} {n : Int} (h : (f.length : Int) = n) : isInts (intsT f) n = true := by
  show (true && (within (some (f.map PyData.int)) n n && (f.map PyData.int).all isInt)) = true
  have e : (f.map PyData.int).all isInt = true := by
    rw [List.all_map]
    exact List.all_eq_true.mpr fun _ _ => rfl
  rw [e]
  show (true && ((decide (n ≤ ((f.map PyData.int).length : Nat)) && decide (((f.map PyData.int).length : Int) ≤ n)) && true)) = true
  rw [List.length_map, decide_eq_true (by omega), decide_eq_true (by omega)]
  rfl
theorem ansOk_of {many : Int} {fs : List (List Int)} (h1 : 1 ≤ fs.length) (h2 : fs.length ≤ 4) (hm : many ≤ 3) (h : ∀ f ∈ fs, (f.length : Int) = many + 1) : answersOk many fs := ⟨h1, h2, fun f hf => ⟨isInts_len (h f hf), by have := h f hf; omega⟩⟩
theorem ansGood.ok {w many : Int} {fs : List (List Int)} (h : ansGood w many fs) (hm : many ≤ 3) : answersOk many fs := ansOk_of h.1 h.2.1 hm fun f hf => (h.2.2 f hf).1
theorem modW_self {n w : Int} (h0 : 0 ≤ n) (h1 : n < 1 * 2 ^ w.toNat) : modW n w = n := Int.emod_eq_of_lt h0 h1
theorem ansGood.red {w many : Int} {fs : List (List Int)} (h : ansGood w many fs) : (fs.map intsT).map (redF w) = fs.map intsT := by
  rw [List.map_map]
  refine List.map_congr_left fun f hf => ?_
  show redF w (intsT f) = _
  rw [redF_T]
  refine congrArg intsT (map_id' fun x hx => ?_)
  have := (h.2.2 f hf).2 x hx
  exact modW_self this.1 this.2
theorem rulesGood.redR {w : Int} {ks : List Kd} {rs : List Ru} (h : rulesGood w ks rs) : (rs.map Ru.D).map (redR w) = rs.map Ru.D := by
  rw [List.map_map]
  refine List.map_congr_left fun r hr => ?_
  show K39.redR w r.D = _
  rw [redR_D, Ru.red_self (h.at hr).1.2.2.1]
def szN (ks : List Kd) (c : Str) : Nat := (szI (szs ks) (.str c)).toNat
theorem bet_iff {i lo hi : Int} (h : isBet (.int i) lo hi = true) : lo ≤ i ∧ i ≤ hi := by
  have h : (decide (lo ≤ i) && decide (i ≤ hi)) = true := h
  rw [Bool.and_eq_true] at h
  exact ⟨of_decide_eq_true h.1, of_decide_eq_true h.2⟩
theorem within_iff {xs : List PyData} {lo hi : Int} (h : within (some xs) lo hi = true) : lo ≤ (xs.length : Nat) ∧ (xs.length : Int) ≤ hi := by
  have h : (decide (lo ≤ (xs.length : Nat)) && decide (((xs.length : Nat) : Int) ≤ hi)) = true := h
  rw [Bool.and_eq_true] at h
  exact ⟨of_decide_eq_true h.1, of_decide_eq_true h.2⟩
structure RuFit (ks : List Kd) (r : Ru) : Prop where
  kn : isKn (szs ks) (.str r.kind) = true
  ch : r.ch.length ≤ 2
  len : (r.sums.length : Int) = szI (szs ks) (.str r.kind)
  num : 0 ≤ r.num ∧ r.num ≤ 2
  chk : ∀ c ∈ r.ch, isKn (szs ks) (.str c) = true
  tm : ∀ ts ∈ r.sums, ∀ t ∈ ts, t.p.length = r.ch.length ∧ (∀ (i : Nat) p c, t.p[i]? = some p → r.ch[i]? = some c → -1 ≤ p ∧ p < (szN ks c : Nat)) ∧ -1 ≤ t.n ∧ t.n < r.num
theorem ruFit {ks : List Kd} {r : Ru} (h : isRule (szs ks) r.D = true) : RuFit ks r := by
  have hr : ((isName (.str r.name) && isKn (szs ks) (.str r.kind)) && ((within (some (r.ch.map .str)) 0 2 && (r.ch.map PyData.str).all (isKn (szs ks))) && ((isBet (.int r.num) 0 2 && within (some (r.sums.map sumD)) (szI (szs ks) (.str r.kind)) (szI (szs ks) (.str r.kind))) && (r.sums.map sumD).all (sumOk ((r.ch.map PyData.str).map (szI (szs ks))) r.num)))) = true := h
  simp only [Bool.and_eq_true] at hr
  obtain ⟨⟨a1, a2⟩, ⟨a3, a4⟩, ⟨a5, a6⟩, a7⟩ := hr
  have b3 := within_iff a3
  have b6 := within_iff a6
  rw [List.length_map] at b3 b6
  refine ⟨a2, by omega, by omega, bet_iff a5, fun c hc => List.all_eq_true.mp a4 _ (List.mem_map_of_mem hc), fun ts hts t ht => ?_⟩
  have h1 : sumOk ((r.ch.map PyData.str).map (szI (szs ks))) r.num (sumD ts) = true := List.all_eq_true.mp a7 _ (List.mem_map_of_mem hts)
  have h1 : (within (some (ts.map Tm.D)) 0 12 && (ts.map Tm.D).all fun x => isTerm x ((r.ch.map PyData.str).map (szI (szs ks))) r.num) = true := h1
  rw [Bool.and_eq_true] at h1
  have h2 := List.all_eq_true.mp h1.2 _ (List.mem_map_of_mem ht)
  have h2 : ((isInt (.int t.f) && isBet (.int t.n) (-1) (r.num - 1)) && (within (some (t.p.map .int)) (((r.ch.map PyData.str).map (szI (szs ks))).length : Nat) (((r.ch.map PyData.str).map (szI (szs ks))).length : Nat) && ((t.p.map PyData.int).zip ((r.ch.map PyData.str).map (szI (szs ks)))).all fun q => isBet q.1 (-1) (q.2 - 1))) = true := h2
  simp only [Bool.and_eq_true] at h2
  obtain ⟨⟨_, c2⟩, c3, c4⟩ := h2
  have d2 := bet_iff c2
  have d3 := within_iff c3
  rw [List.length_map, List.length_map, List.length_map] at d3
  refine ⟨by omega, fun i p c hp hc => ?_, d2.1, by omega⟩
  have hz : ((t.p.map PyData.int).zip ((r.ch.map PyData.str).map (szI (szs ks))))[i]? = some (.int p, szI (szs ks) (.str c)) := zip_get (by rw [List.getElem?_map, hp]; rfl) (by rw [List.getElem?_map, List.getElem?_map, hc]; rfl)
  have e := bet_iff (List.all_eq_true.mp c4 _ (List.mem_of_getElem? hz))
  unfold szN
  simp only at e
  omega
theorem szN_of {ks : List Kd} (hk : kindsGood ks) {k : Kd} (h : k ∈ ks) : szN ks k.name = k.attrs.length ∧ 1 ≤ k.attrs.length ∧ k.attrs.length ≤ 3 := by
  obtain ⟨i, hi⟩ := List.getElem?_of_mem h
  refine ⟨?_, (hk.2.2 i k hi).ok.2.2.2.2⟩
  have hl := lookup_kd hk.ok.2.2.1 h
  unfold szN
  show (match (szs ks).lookup k.name with | some (.int n) => n | _ => 0).toNat = _
  rw [hl]
  rfl
theorem kn_kd {ks : List Kd} {c : Str} (h : isKn (szs ks) (.str c) = true) : ∃ k ∈ ks, k.name = c := by
  obtain ⟨s, e1, e2⟩ := szI_get (szs_ints ks) h
  injection e1 with e1
  subst e1
  obtain ⟨k, h1, h2, _⟩ := kd_of e2
  exact ⟨k, h1, h2⟩
end K39

set_option Elab.async false
set_option linter.all false
set_option maxRecDepth 100000
set_option maxHeartbeats 4000000
namespace K39
open PySem PySem.Spec PyProof.Rows L2
/-! ### names become numbers -/
def ixS : List Str → Str → Nat
  | [], _ => 0
  | n :: ns, c => if n = c then 0 else ixS ns c + 1
theorem ixS_at : ∀ {ns : List Str} {c : Str}, c ∈ ns → ns[ixS ns c]? = some c ∧ ixS ns c < ns.length ∧ ∀ m, m < ixS ns c → ∀ z, ns[m]? = some z → z ≠ c
  | [], c, h => by cases h
  | n :: ns, c, h => by
    unfold ixS
    by_cases e : n = c
    · rw [if_pos e]
      subst e
      exact ⟨rfl, Nat.zero_lt_succ _, fun m hm => absurd hm (Nat.not_lt_zero m)⟩
    · rw [if_neg e]
      have hc : c ∈ ns := (List.mem_cons.mp h).resolve_left fun z => e z.symm
      obtain ⟨a, b, k⟩ := ixS_at hc
      refine ⟨by rw [List.getElem?_cons_succ]; exact a, by rw [List.length_cons]; omega, fun m hm z hz => ?_⟩
      cases m with
      | zero => cases hz; exact e
      | succ m => exact k m (by omega) z (by rw [List.getElem?_cons_succ] at hz; exact hz)
def kix (ks : List Kd) (c : Str) : Nat := ixS (ks.map Kd.name) c
def cnts (ks : List Kd) : List Int := ks.map fun k => ((k.attrs.length : Nat) : Int)
def Ru.C (ks : List Kd) (r : Ru) : Cr := ⟨(kix ks r.kind : Nat), r.ch.map fun c => ((kix ks c : Nat) : Int), r.num, r.sums⟩
section
variable {K : PySem.W.Frag} {Γ : List Sl}
/-- names.index(c) -/
theorem ev_index {te tb : TE} {ns : List Str} {c : Str} (hc : c ∈ ns) (h : EvD K te Γ (· = .list (ns.map .str))) (h2 : EvD K tb Γ (· = .str c)) : EvD K (tBM K "list" (rIndex K) te (tCons tb tNil)) Γ (· = .int (ixS ns c : Nat)) := fun G σ H ev iv Q q =>
  h G σ H ev iv _ fun v d1 H1 i1 l1 p1 dq => by
    subst p1
    cases dq with
    | @lst a xs _ hs ha =>
      refine ⟨.inl ⟨rfl, _, Fr.upL hs⟩, h2 G σ H1 (ev.le l1) i1 _ fun v2 d2 H2 i2 l2 p2 dq2 => ?_⟩
      subst p2
      cases dq2
      have ha2 := ha.ex l2
      have hat : ∀ (m : Nat) (z : V), xs[m]? = some z → ∃ s, ns[m]? = some s ∧ z = .str s := fun m z hz => by
        obtain ⟨d, hd, dz⟩ := ha.get hz
        obtain ⟨s, hs, rfl⟩ := map_get hd
        cases dz
        exact ⟨s, hs, rfl⟩
      obtain ⟨g1, g2, g3⟩ := ixS_at hc
      obtain ⟨z, hz, dz⟩ := ha.get' (i := ixS ns c) (d := .str c) (by rw [List.getElem?_map, g1]; rfl)
      cases dz
      refine ⟨a, xs, .str c, ixS ns c, .str c, rfl, rfl, Fr.upL (exL l2 hs), rfl, List.all_eq_true.mpr fun z hz => ?_, hz, by show (c == c) = true; exact beq_self_eq_true c, fun m z' hm hz' => ?_, q _ _ H2 i2 (l1.trans l2) rfl (.int _)⟩
      · obtain ⟨m, hm⟩ := List.mem_iff_getElem?.mp hz
        obtain ⟨s, _, rfl⟩ := hat m z hm
        rfl
      · obtain ⟨s, hs', rfl⟩ := hat m z' hz'
        show (s == c) = false
        exact beq_eq_false_iff_ne.mpr (g3 m hm s hs')
end
theorem kix_at {ks : List Kd} (hn : (ks.map Kd.name).Nodup) {k : Kd} (hk : k ∈ ks) : kix ks k.name < ks.length ∧ (cnts ks).getD (kix ks k.name) 0 = (k.attrs.length : Nat) := by
  obtain ⟨g1, g2, _⟩ := ixS_at (List.mem_map_of_mem (f := Kd.name) hk)
  rw [List.length_map] at g2
  refine ⟨g2, ?_⟩
  rw [List.getElem?_map] at g1
  obtain ⟨k', h1, h2⟩ := Option.map_eq_some_iff.mp g1
  have hm := List.mem_of_getElem? h1
  have e : k'.attrs.length = k.attrs.length := by
    have e1 := lookup_kd hn hm
    have e2 := lookup_kd hn hk
    rw [h2, e2] at e1
    injection e1 with e1
    injection e1 with e1
    omega
  show (cnts ks).getD (ixS (ks.map Kd.name) k.name) 0 = _
  unfold cnts
  rw [List.getD_eq_getElem?_getD, List.getElem?_map, h1]
  show ((k'.attrs.length : Nat) : Int) = _
  rw [e]
theorem isKC_nat {cs : List Int} {n : Nat} (h : n < cs.length) : isKC cs (.int (n : Nat)) = true := bet_ok ⟨by omega, by omega⟩
theorem kix_sz {ks : List Kd} (hk : kindsGood ks) {c : Str} (h : isKn (szs ks) (.str c) = true) : kix ks c < (cnts ks).length ∧ szC (cnts ks) (.int (kix ks c : Nat)) = szI (szs ks) (.str c) := by
  obtain ⟨k, hm, rfl⟩ := kn_kd h
  obtain ⟨a, b⟩ := kix_at hk.ok.2.2.1 hm
  refine ⟨by unfold cnts; rw [List.length_map]; exact a, ?_⟩
  show (cnts ks).getD ((kix ks k.name : Nat) : Int).toNat 0 = _
  rw [Int.toNat_natCast, b]
  show _ = match (szs ks).lookup k.name with | some (.int n) => n | _ => 0
  rw [lookup_kd hk.ok.2.2.1 hm]
theorem cnts_ok {ks : List Kd} (hk : kindsGood ks) : countsOk (cnts ks) := ⟨by unfold cnts; rw [List.length_map]; exact hk.1, by unfold cnts; rw [List.length_map]; exact hk.2.1, fun c hc => by
  obtain ⟨k, hm, rfl⟩ := List.mem_map.mp hc
  have := (szN_of hk hm).2
  omega⟩
/-- a drawn rule is a line -/
theorem line_ok {ks : List Kd} (hk : kindsGood ks) {r : Ru} (h : isRule (szs ks) r.D = true) (hs : smallD r.D = true) : crGood (cnts ks) (r.C ks) := by
  have f := ruFit h
  have hr : ((isName (.str r.name) && isKn (szs ks) (.str r.kind)) && ((within (some (r.ch.map .str)) 0 2 && (r.ch.map PyData.str).all (isKn (szs ks))) && ((isBet (.int r.num) 0 2 && within (some (r.sums.map sumD)) (szI (szs ks) (.str r.kind)) (szI (szs ks) (.str r.kind))) && (r.sums.map sumD).all (sumOk ((r.ch.map PyData.str).map (szI (szs ks))) r.num)))) = true := h
  simp only [Bool.and_eq_true] at hr
  obtain ⟨⟨a1, a2⟩, ⟨a3, a4⟩, ⟨a5, a6⟩, a7⟩ := hr
  have k1 := kix_sz hk f.kn
  have hsm := small_tuple hs
  have hsv := small_mem hsm.2 (d := .tuple (r.sums.map sumD)) (by simp)
  have hch : (r.ch.map fun c => ((kix ks c : Nat) : Int)).length = r.ch.length := List.length_map _
  have hszs : ((r.ch.map fun c => ((kix ks c : Nat) : Int)).map PyData.int).map (szC (cnts ks)) = (r.ch.map PyData.str).map (szI (szs ks)) := by
    rw [List.map_map, List.map_map, List.map_map]
    exact List.map_congr_left fun c hc => (kix_sz hk (f.chk c hc)).2
  refine ⟨?_, ?_⟩
  · show (isKC (cnts ks) (.int (kix ks r.kind : Nat)) && ((within (some ((r.ch.map fun c => ((kix ks c : Nat) : Int)).map PyData.int)) 0 2 && ((r.ch.map fun c => ((kix ks c : Nat) : Int)).map PyData.int).all (isKC (cnts ks))) && ((isBet (.int r.num) 0 2 && within (some (r.sums.map sumD)) (szC (cnts ks) (.int (kix ks r.kind : Nat))) (szC (cnts ks) (.int (kix ks r.kind : Nat)))) && (r.sums.map sumD).all (sumOkC (((r.ch.map fun c => ((kix ks c : Nat) : Int)).map PyData.int).map (szC (cnts ks))) r.num)))) = true
    rw [hszs, k1.2]
    simp only [Bool.and_eq_true]
    refine ⟨isKC_nat k1.1, ⟨?_, List.all_eq_true.mpr fun d hd => ?_⟩, ⟨a5, a6⟩, List.all_eq_true.mpr fun d hd => ?_⟩
    · have b3 := within_iff a3
      rw [List.length_map] at b3
      show (decide ((0 : Int) ≤ (((r.ch.map fun c => ((kix ks c : Nat) : Int)).map PyData.int).length : Nat)) && decide (((((r.ch.map fun c => ((kix ks c : Nat) : Int)).map PyData.int).length : Nat) : Int) ≤ 2)) = true
      rw [List.length_map, List.length_map, decide_eq_true (by omega), decide_eq_true (by omega)]
      rfl
    · obtain ⟨i, hi, rfl⟩ := List.mem_map.mp hd
      obtain ⟨c, hc, rfl⟩ := List.mem_map.mp hi
      exact isKC_nat (kix_sz hk (f.chk c hc)).1
    · have h1 := List.all_eq_true.mp a7 d hd
      obtain ⟨ts, _, rfl⟩ := List.mem_map.mp hd
      have h1 : (within (some (ts.map Tm.D)) 0 12 && (ts.map Tm.D).all fun x => isTerm x ((r.ch.map PyData.str).map (szI (szs ks))) r.num) = true := h1
      rw [Bool.and_eq_true] at h1
      have h2 := within_iff h1.1
      show (within (some (ts.map Tm.D)) 0 400 && (ts.map Tm.D).all fun x => isTerm x ((r.ch.map PyData.str).map (szI (szs ks))) r.num) = true
      rw [Bool.and_eq_true]
      refine ⟨?_, h1.2⟩
      show (decide ((0 : Int) ≤ ((ts.map Tm.D).length : Nat)) && decide ((((ts.map Tm.D).length : Nat) : Int) ≤ 400)) = true
      rw [decide_eq_true (by omega), decide_eq_true (by omega)]
      rfl
  · have hc := small_intsT (ns := r.ch.map fun c => ((kix ks c : Nat) : Int)) (by rw [hch]; have := f.ch; omega)
    show smallD (.tuple [.int (kix ks r.kind : Nat), intsT (r.ch.map fun c => ((kix ks c : Nat) : Int)), .int r.num, .tuple (r.sums.map sumD)]) = true
    rw [smallD, smallAll, smallAll, smallAll, smallAll, hc, hsv]
    rfl
theorem lines_ok {w : Int} {ks : List Kd} {rs : List Ru} (hk : kindsGood ks) (h : rulesGood w ks rs) : linesOk (cnts ks) (rs.map (Ru.C ks)) := ⟨by rw [List.length_map]; exact h.1, by rw [List.length_map]; exact h.2.1, fun r hr => by
  obtain ⟨x, hx, rfl⟩ := List.mem_map.mp hr
  exact line_ok hk (h.ok.2.2.2 x hx).1 (h.ok.2.2.2 x hx).2⟩
section
variable {P : Program} {w : World} {K : PySem.W.Frag} {mg : Str → Option Value} {base : Heap}
abbrev s_law_plain : Stmt := topS 42
abbrev N_law_plain : List Str := ["_law_kinds_here", "_law_rules_so", "_law_top_so", "_law_answers_so", "_law_names", "_law_lines", "_law_name", "_law_kind", "_law_children", "_law_numbers", "_law_values", "_law_parts", "_law_child", "_law_form_here"]
theorem sc_law_plain : FnScope N_law_plain ["_law_kinds_here", "_law_rules_so", "_law_top_so", "_law_answers_so"] (defScope s_law_plain) := ⟨rfl, rfl, rfl, by decide +kernel, rfl, by decide +kernel, by decide +kernel⟩
structure TL7 (K : PySem.W.Frag) (mg : Str → Option Value) extends TL6 K mg where
  law_plain : Df K mg "_law_plain" s_law_plain ["_law_kinds_here", "_law_rules_so", "_law_top_so", "_law_answers_so"]
def plainD (ks : List Kd) (rs : List Ru) (k0 : Kd) (fs : List (List Int)) : PyData := .tuple [.list ((cnts ks).map .int), .list ((rs.map (Ru.C ks)).map Cr.D), .int (kix ks k0.name : Nat), .list (fs.map intsT)]
abbrev spPlain (K : PySem.W.Frag) : L2.Sp := spP K fun ds d => ∃ (w : Int) (ks : List Kd) (rs : List Ru) (k0 : Kd) (fs : List (List Int)), ds = [.list (ks.map Kd.D), .list (rs.map Ru.D), .str k0.name, .list (fs.map intsT)] ∧ kindsGood ks ∧ rulesGood w ks rs ∧ k0 ∈ ks ∧ fs.length ≤ 100 ∧ d = plainD ks rs k0 fs
theorem ok_law_plain (T : TL7 K mg) : FnOk P w K mg base CX0 1 T.law_plain.f T.law_plain.fd ["_law_kinds_here", "_law_rules_so", "_law_top_so", "_law_answers_so"] (spPlain K) := by
  refine T.law_plain.F.ok sc_law_plain (fun vs H Q E ⟨G, ds, d, iv, a, ⟨w, ks, rs, k0, fs, hp, _⟩, k⟩ => len1 a (by rw [hp]; rfl)) (fun cdv A outer s0 H vs Q E hr ⟨G, ds, d, iv, a, ⟨w, ks, rs, k0, fs, hp, hk, hrs, hk0, hfs, hd⟩, k⟩ => ?_)
  subst hp
  subst hd
  obtain ⟨v1, v2, v3, v4, rfl⟩ := four a.length
  refine ⟨_, (pss_cons (ps_set (i := 4) sc_law_plain.nd rfl (Or.inr rfl) (pe_lc (own := [("_law_kind", 7), ("_law_parts", 11)]) (g := gTup K 2 (gCons (gName 7) (gCons (gName 11) gNil))) (tt := tYes) rfl sc_law_plain.nd (pi_seq (pv 0)) (blkOk_by (own := [("_law_kind", 7), ("_law_parts", 11)]) (N := N_law_plain) (sc := defScope s_law_plain) (by decide +kernel)) (fun _ _ _ _ _ => (pg_tup rfl (pgs_cons (pg_name (i := 7) sc_law_plain.nd rfl (by first | exact Or.inl rfl | exact Or.inr rfl)) (pgs_cons (pg_name (i := 11) sc_law_plain.nd rfl (by first | exact Or.inl rfl | exact Or.inr rfl)) pgs_nil)))) (fun _ _ _ _ _ => pts_nil) (fun _ _ _ _ _ => (pv 7))))
    (pss_cons (ps_set (i := 5) sc_law_plain.nd rfl (by first | exact Or.inl rfl | exact Or.inr rfl) (pe_lst pa_nil))
    (pss_cons (ps_for PassesOwn.never rfl (pi_seq (pv 1)) (pg_tup rfl (pgs_cons (pg_name (i := 6) sc_law_plain.nd rfl (by first | exact Or.inl rfl | exact Or.inr rfl)) (pgs_cons (pg_name (i := 7) sc_law_plain.nd rfl (by first | exact Or.inl rfl | exact Or.inr rfl)) (pgs_cons (pg_name (i := 8) sc_law_plain.nd rfl (by first | exact Or.inl rfl | exact Or.inr rfl)) (pgs_cons (pg_name (i := 9) sc_law_plain.nd rfl (by first | exact Or.inl rfl | exact Or.inr rfl)) (pgs_cons (pg_name (i := 10) sc_law_plain.nd rfl (by first | exact Or.inl rfl | exact Or.inr rfl)) pgs_nil))))))
      (pss_one (ps_expr (pe_bm PySem.F.plainAttrs_list PySem.F.slot_list_append PySem.F.type_list_append mt_append (pv 5) (pa_cons (pe_tup (pa_cons (pe_bm PySem.F.plainAttrs_list PySem.F.slot_list_index PySem.F.type_list_index mt_index (pv 4) (pa_cons (pv 7) pa_nil)) (pa_cons (pe_tupleOf (by rfl) T.tuple (pe_lc (own := [("_law_child", 12)]) (g := gName 12) (tt := tYes) (te := tBM K "list" (rIndex K) (tVar 4) (tCons (tVar 12) tNil)) rfl sc_law_plain.nd (pi_seq (pv 8)) (blkOk_by (own := [("_law_child", 12)]) (N := N_law_plain) (sc := defScope s_law_plain) (by decide +kernel)) (fun _ _ _ _ _ => (pg_name (i := 12) sc_law_plain.nd rfl (by first | exact Or.inl rfl | exact Or.inr rfl))) (fun _ _ _ _ _ => pts_nil) (fun _ _ _ _ _ => (pe_bm PySem.F.plainAttrs_list PySem.F.slot_list_index PySem.F.type_list_index mt_index (pv 4) (pa_cons (pv 12) pa_nil))))) (pa_cons (pv 9) (pa_cons (pv 10) pa_nil))))) pa_nil)))))
    (pss_one (ps_ret (pe_tup (pa_cons (pe_lc (own := [("_law_kind", 7), ("_law_parts", 11)]) (g := gTup K 2 (gCons (gName 7) (gCons (gName 11) gNil))) (tt := tYes) (te := tCB (fun xs H Q => ∃ p ys, xs = [V.ref p] ∧ (SqL K H p ys ∨ SqT K H p ys) ∧ Q (V.int (ys.length : Nat)) H) (tCons (tVar 11) tNil)) rfl sc_law_plain.nd (pi_seq (pv 0)) (blkOk_by (own := [("_law_kind", 7), ("_law_parts", 11)]) (N := N_law_plain) (sc := defScope s_law_plain) (by decide +kernel)) (fun _ _ _ _ _ => (pg_tup rfl (pgs_cons (pg_name (i := 7) sc_law_plain.nd rfl (by first | exact Or.inl rfl | exact Or.inr rfl)) (pgs_cons (pg_name (i := 11) sc_law_plain.nd rfl (by first | exact Or.inl rfl | exact Or.inr rfl)) pgs_nil)))) (fun _ _ _ _ _ => pts_nil) (fun _ _ _ _ _ => (pe_callB call_len_seq (by rfl) T.len (by decide +kernel) (pa_cons (pv 11) pa_nil)))) (pa_cons (pv 5) (pa_cons (pe_bm PySem.F.plainAttrs_list PySem.F.slot_list_index PySem.F.type_list_index mt_index (pv 4) (pa_cons (pv 2) pa_nil)) (pa_cons (pe_lc (own := [("_law_form_here", 13)]) (g := gName 13) (tt := tYes) (te := tThen (tVar 13) (kTup K)) rfl sc_law_plain.nd (pi_seq (pv 3)) (blkOk_by (own := [("_law_form_here", 13)]) (N := N_law_plain) (sc := defScope s_law_plain) (by decide +kernel)) (fun _ _ _ _ _ => (pg_name (i := 13) sc_law_plain.nd rfl (by first | exact Or.inl rfl | exact Or.inr rfl))) (fun _ _ _ _ _ => pts_nil) (fun _ _ _ _ _ => (pe_tupleOf (by rfl) T.tuple (pv 13)))) pa_nil)))))))))), ?_⟩
  refine doneBD (P := (· = plainD ks rs k0 fs)) 10 rfl (isA_dats [.list (ks.map Kd.D), .list (rs.map Ru.D), .str k0.name, .list (fs.map intsT)]) ?_ iv (argsOf a) fun v d H' i l e q => k v H' i l (e ▸ q)
  have hko := hk.ok
  let ns : List Str := ks.map Kd.name
  let Γa : Sl → Sl → List Sl := fun s4 s5 => [.dat (.list (ks.map Kd.D)), .dat (.list (rs.map Ru.D)), .dat (.str k0.name), .dat (.list (fs.map intsT)), s4, s5, .any, .any, .any, .any, .any, .any, .any, .any]
  show Bk K _ (Γa .any .any) _ _ _ _
  have hkl : ks.length ≤ 5 := hko.2.1
  have hrl : rs.length ≤ 12 := hrs.2.1
  have hin : ∀ {c : Str}, isKn (szs ks) (.str c) = true → c ∈ ns := fun {c} h => by
    obtain ⟨k, hm, e⟩ := kn_kd h
    exact List.mem_map.mpr ⟨k, hm, e⟩
  refine b_set (i := 4) (P := (· = .list (ns.map .str))) (by show 4 < 14; omega) (ev_lcI (vs := [7, 11]) (es := ns.map .str) (N := fun d => NP (Γa .any .any) 7 11 d) (Pi := fun i d => (ks.map Kd.D)[i]? = some d) (by show ((ks.map Kd.name).map PyData.str).length < 100000; rw [List.length_map, List.length_map]; omega) (by rw [show (ns.map PyData.str).length = (ks.map Kd.D).length by show ((ks.map Kd.name).map PyData.str).length = _; rw [List.length_map, List.length_map, List.length_map]]; exact (e0_seq (el_list (ev_var rfl))).toI) (fun q G σ H x d ev iv pd => by
    obtain ⟨k, _, rfl⟩ := map_get pd
    exact tg_pair (Pq := fun _ _ => True) (by show 7 < 14; omega) (by show 11 < 14; omega) G σ H x _ ev iv ⟨_, _, rfl, trivial⟩) fun q d e pd he => ?_) fun d e => ?_
  · obtain ⟨k, hq, rfl⟩ := map_get pd
    have he : ((ks.map Kd.name).map PyData.str)[q]? = some e := he
    rw [List.getElem?_map, List.getElem?_map, hq] at he
    cases he
    exact ev_var rfl
  subst e
  refine b_setN (i := 5) (PN := (· = [])) (by show 5 < 14; omega) (en_lst el_nil) fun ds e => ?_
  subst e
  let Γl : Nat → List Sl := fun i => Γa (.dat (.list (ns.map .str))) (.olst ((rs.take i).map fun r => (r.C ks).D))
  show Bk K _ (Γl 0) _ _ _ _
  refine b_seq (M' := (· = Γl rs.length)) (b_for (I := fun i Γ' => Γ' = Γl i) (n := (rs.map Ru.D).length) (Pi := fun i d => (rs.map Ru.D)[i]? = some d) (N := fun i Γ' d => setSs Γ' [6, 7, 8, 9, 10] ((unT d).map .dat)) (e0_seq (el_list (ev_var rfl))) rfl (fun i Γ' hi e => by subst e; exact (tgb_tup [6, 7, 8, 9, 10] (by intro j hj; simp at hj; show j < 14; omega)).impP fun d pd => by obtain ⟨r, _, rfl⟩ := map_get pd; exact ⟨_, rfl, rfl⟩) (fun i Γ' d hi e pd => ?_) fun Γ' e => by rw [List.length_map] at e; exact e) fun Γ' e => ?_
  · subst e
    obtain ⟨r, hr, rfl⟩ := map_get pd
    have hg := (hrs.ok.2.2.2 r (List.mem_of_getElem? hr)).1
    have f := ruFit hg
    have hcl := f.ch
    let Γ2 : List Sl := [.dat (.list (ks.map Kd.D)), .dat (.list (rs.map Ru.D)), .dat (.str k0.name), .dat (.list (fs.map intsT)), .dat (.list (ns.map .str)), .olst ((rs.take i).map fun r => (r.C ks).D), .dat (.str r.name), .dat (.str r.kind), .dat (.tuple (r.ch.map .str)), .dat (.int r.num), .dat (.tuple (r.sums.map sumD)), .any, .any, .any]
    show Bk K _ Γ2 _ _ _ _
    let cc : List Int := r.ch.map fun c => ((kix ks c : Nat) : Int)
    have hccl : (cc.map PyData.int).length = (r.ch.map PyData.str).length := by show ((r.ch.map fun c => ((kix ks c : Nat) : Int)).map PyData.int).length = _; rw [List.length_map, List.length_map, List.length_map]
    refine b_app (j := 5) (P := (· = (r.C ks).D)) (ds := (rs.take i).map fun r => (r.C ks).D) rfl (by rw [List.length_map, List.length_take]; omega) (ev_eq (ev_tupE [.int (kix ks r.kind : Nat), intsT cc, .int r.num, .tuple (r.sums.map sumD)] (elc (ev_index (ns := ns) (hin f.kn) (ev_var rfl) (ev_var rfl)) (elc (ev_eq (ev_tupleOf (ds := cc.map .int) (el_list (ev_lcI (vs := [12]) (es := cc.map .int) (N := fun d => Γ2.set 12 (.dat d)) (Pi := fun i d => (r.ch.map PyData.str)[i]? = some d) (by rw [hccl, List.length_map]; omega) (by rw [hccl]; exact (e0_seq (ds := r.ch.map PyData.str) (el_tuple (ev_var rfl))).toI) (fun q => tg_name (by show 12 < 14; omega)) fun q d e pd he => ?_))) rfl) (elc (ev_var rfl) (elc (ev_var rfl) el_nil))))) rfl) fun e he => ?_
    · obtain ⟨c, hq, rfl⟩ := map_get pd
      have he : ((r.ch.map fun c => ((kix ks c : Nat) : Int)).map PyData.int)[q]? = some e := he
      rw [List.getElem?_map, List.getElem?_map, hq] at he
      cases he
      exact ev_index (ns := ns) (hin (f.chk c (List.mem_of_getElem? hq))) (ev_var rfl) (ev_var rfl)
    · subst he
      have e5 : ((rs.take i).map fun r => (r.C ks).D) ++ [(r.C ks).D] = (rs.take (i + 1)).map fun r => (r.C ks).D := by
        rw [List.take_add_one, hr, List.map_append]
        rfl
      refine ⟨Γl (i + 1), ?_, rfl⟩
      show W [_, _, _, _, _, Sl.olst (((rs.take i).map fun r => (r.C ks).D) ++ [(r.C ks).D]), _, _, _, _, _, _, _, _] [_, _, _, _, _, Sl.olst ((rs.take (i + 1)).map fun r => (r.C ks).D), _, _, _, _, _, _, _, _]
      rw [e5]
      (repeat (first | exact L2.W.nil | refine L2.W.any ?_ | refine L2.W.eq ?_))
  · subst e
    have hlines : (rs.take rs.length).map (fun r => (r.C ks).D) = (rs.map (Ru.C ks)).map Cr.D := by
      rw [List.take_of_length_le (Nat.le_refl _), List.map_map]
      rfl
    have hcl : ((cnts ks).map PyData.int).length = (ks.map Kd.D).length := by unfold cnts; rw [List.length_map, List.length_map, List.length_map]
    let Γr : List Sl := rel (Γl rs.length)
    refine b_retR (P := (· = plainD ks rs k0 fs)) (ev_eq (ev_tupE [.list ((cnts ks).map .int), .list ((rs.map (Ru.C ks)).map Cr.D), .int (kix ks k0.name : Nat), .list (fs.map intsT)] (elc (ev_lcI (vs := [7, 11]) (es := (cnts ks).map .int) (N := fun d => NP Γr 7 11 d) (Pi := fun i d => (ks.map Kd.D)[i]? = some d) (by rw [hcl, List.length_map]; omega) (by rw [hcl]; exact (e0_seq (ds := ks.map Kd.D) (el_list (ev_var rfl))).toI) (fun q G σ H x d ev iv pd => by
      obtain ⟨k, _, rfl⟩ := map_get pd
      exact tg_pair (Pq := fun _ _ => True) (by show 7 < 14; omega) (by show 11 < 14; omega) G σ H x _ ev iv ⟨_, _, rfl, trivial⟩) fun q d e pd he => ?_) (elc (ev_eq (ev_var rfl) (congrArg PyData.list hlines)) (elc (ev_index (ns := ns) (List.mem_map_of_mem hk0) (ev_var rfl) (ev_var rfl)) (elc (ev_lcI (vs := [13]) (es := fs.map intsT) (N := fun d => Γr.set 13 (.dat d)) (Pi := fun i d => (fs.map intsT)[i]? = some d) (by rw [List.length_map]; omega) ((e0_seq (ds := fs.map intsT) (el_list (ev_var rfl))).toI) (fun q => tg_name (by show 13 < 14; omega)) fun q d e pd he => ?_) el_nil))))) rfl) fun d e => ⟨d, rfl, e⟩
    · obtain ⟨k, hq, rfl⟩ := map_get pd
      have he : ((ks.map fun k => ((k.attrs.length : Nat) : Int)).map PyData.int)[q]? = some e := he
      rw [List.getElem?_map, List.getElem?_map, hq] at he
      cases he
      exact ev_eq (ev_len (ds := k.attrs.map .str) (el_tuple (ev_var rfl))) (by rw [List.length_map])
    · rw [pd] at he
      cases he
      obtain ⟨f, _, rfl⟩ := map_get pd
      exact ev_eq (ev_tupleOf (ds := f.map .int) (el_tuple (ev_var rfl))) rfl
end
end K39

set_option Elab.async false
set_option linter.all false
set_option maxRecDepth 100000
set_option maxHeartbeats 4000000
namespace K39
open PySem PySem.Spec PyProof.Rows L2
section
variable {P : Program} {w : World} {K : PySem.W.Frag} {mg : Str → Option Value} {base : Heap}
abbrev s_Code_eq__ : Stmt := inClass (topS 27) 1
abbrev N_Code_eq__ : List Str := ["self", "other"]
theorem sc_Code_eq__ : FnScope N_Code_eq__ ["self", "other"] (defScope s_Code_eq__) := ⟨rfl, rfl, rfl, by decide +kernel, rfl, by decide +kernel, by decide +kernel⟩
abbrev s_law_raised : Stmt := topS 47
abbrev N_law_raised : List Str := ["_law_width_so", "_law_counts_so", "_law_rules_so", "_law_top_so", "_law_answers_so", "_law_found", "e"]
theorem sc_law_raised : FnScope N_law_raised ["_law_width_so", "_law_counts_so", "_law_rules_so", "_law_top_so", "_law_answers_so"] (defScope s_law_raised) := ⟨rfl, rfl, rfl, by decide +kernel, rfl, by decide +kernel, by decide +kernel⟩
structure TQ (K : PySem.W.Frag) (mg : Str → Option Value) extends TL7 K mg where
  gE : Addr
  dE : FuncData
  FE : Fun K "__eq__" "Code.__eq__" s_Code_eq__ gE dE
  bE : Binds K dE ["self", "other"] []
  eqc : EqC K gC gE
  cc : PySem.W.findIn K (.ref gC) "__class__" = some (some (.builtin "object.__class__"))
  cs : PySem.W.specialIn K (.builtin "object.__class__") "__get__" = some (some (.builtin "getset_descriptor.__get__"))
  ct : PySem.W.takesIn K (.builtin "object.__class__") = some true
  co : PySem.W.mroIn K gC (.type "object") = some true
  k1 : PySem.W.kitOne K (.ref gC) (.ref gC) = some true
  law_raised : Df K mg "_law_raised" s_law_raised ["_law_width_so", "_law_counts_so", "_law_rules_so", "_law_top_so", "_law_answers_so"]
/-- what a Code holds -/
structure Gr where
  w : Int
  ks : PyData
  rs : PyData
  t : Int
  as : PyData
def Gr.F (g : Gr) : List (Str × PyData) := [("width", .int g.w), ("counts", g.ks), ("rules", g.rs), ("top", .int g.t), ("answers", g.as)]
def Gr.eq (g h : Gr) : Bool := PyData.eqv (.int g.w) (.int h.w) && (PyData.eqv g.ks h.ks && (PyData.eqv g.rs h.rs && (PyData.eqv (.int g.t) (.int h.t) && PyData.eqv g.as h.as)))
def Gr.ok (g : Gr) : Prop := okD 8 g.ks = true ∧ okD 8 g.rs = true ∧ okD 8 (.int g.t) = true ∧ okD 8 g.as = true
theorem ev_isiIns (T : TQ K mg) {Γ : List Sl} {i : Nat} {fs : List (Str × PyData)} (h : Γ[i]? = some (.ins T.gC fs)) : EvD K (tCB (rIsi K) (tCons (tVar i) (tCons (tC (.ref T.gC)) tNil))) Γ (· = .bool true) := fun G σ H e iv Q q => by
  rcases e.2 i _ h with z | ⟨v, hv, a, dx, vs, ev, h1, h2⟩
  · cases z
  · subst ev
    exact ⟨_, hv, .ref a, .ref T.gC, .ref T.gC, .ref T.gC, true, rfl, .own T.gC, .base (.ins (G.sub h1) T.cl T.cc T.cs T.ct T.co), T.k1, q _ _ H iv .refl rfl (.bl _)⟩
def getF (f : Str) (fs : List (Str × PyData)) : PyData := (fs.lookup f).getD .none
/-- what == answers -/
def eqSl (g : Gr) : Sl → Bool
  | .ins _ fs => PyData.eqv (.int g.w) (getF "width" fs) && (PyData.eqv g.ks (getF "counts" fs) && (PyData.eqv g.rs (getF "rules" fs) && (PyData.eqv (.int g.t) (getF "top" fs) && PyData.eqv g.as (getF "answers" fs))))
  | _ => false
def spEqG (K : PySem.W.Frag) (C : Addr) : Sp := fun vs H Q _ => ∃ (G : Fr) (g : Gr) (s : Sl), G.inv H ∧ ArgsOk K G H vs [.ins C g.F, s] ∧ g.ok ∧ (∃ h : Gr, s = .ins C h.F ∧ h.ok) ∧ ∀ H', G.inv H' → G.le H H' → Q (.bl (eqSl g s)) H'
theorem ok_eq (T : TQ K mg) : FnOk P w K mg base CX0 1 T.gE T.dE ["self", "other"] (spEqG K T.gC) := by
  refine T.FE.ok sc_Code_eq__ (fun vs H Q E ⟨G, g, s, iv, a, _⟩ => a.length) (fun cdv A outer s0 H vs Q E hr ⟨G, g, s, iv, a, go, hs, k⟩ => ?_)
  obtain ⟨v, x, rfl⟩ := two a.length
  refine ⟨_, (pss_one (ps_ret (pe_and (pe_callB call_isi (by rfl) T.isinstance (by decide +kernel) (pa_cons (pv 1) (pa_cons (pe_glob (v := .ref T.gC) rfl T.gm rfl) pa_nil))) (pe_and (pe_cmpR (op_eqD hr.units) (pe_fld (pv 0) rfl) (pe_fld (pv 1) rfl) (nomark _)) (pe_and (pe_cmpR (op_eqD hr.units) (pe_fld (pv 0) rfl) (pe_fld (pv 1) rfl) (nomark _)) (pe_and (pe_cmpR (op_eqD hr.units) (pe_fld (pv 0) rfl) (pe_fld (pv 1) rfl) (nomark _)) (pe_and (pe_cmpR (op_eqD hr.units) (pe_fld (pv 0) rfl) (pe_fld (pv 1) rfl) (nomark _)) (pe_one (pe_cmpR (op_eqD hr.units) (pe_fld (pv 0) rfl) (pe_fld (pv 1) rfl) (nomark _)))))))))), ?_⟩
  have ev0 : EnvOk K G H (L2.start N_Code_eq__ [v, x]) [.ins T.gC g.F, s] := envOk_of 0 a
  have fin : ∀ {te : TE} {b : Bool}, EvD K te [.ins T.gC g.F, s] (· = .bool b) → b = eqSl g s → te (L2.start N_Code_eq__ [v, x]) H Q := fun h e => h G _ H ev0 iv _ fun v d H' i' l' p' dq => by
    subst p'
    cases dq
    rw [e]
    exact k H' i' l'
  obtain ⟨g1, g2, g3, g4⟩ := go
  obtain ⟨h, rfl, h1, h2, h3, h4⟩ := hs
  · refine fin (b := true && Gr.eq g h) (ev_and (ev_isiIns T rfl) fun _ => ?_) rfl
    exact ev_and (ev_eqD (n := 8) (by decide) rfl rfl (ev_fld T.cl T.nW rfl rfl) (ev_fld T.cl T.nW rfl rfl)) fun _ => ev_and (ev_eqD (n := 8) (by decide) g1 h1 (ev_fld T.cl T.nC rfl rfl) (ev_fld T.cl T.nC rfl rfl)) fun _ => ev_and (ev_eqD (n := 8) (by decide) g2 h2 (ev_fld T.cl T.nR rfl rfl) (ev_fld T.cl T.nR rfl rfl)) fun _ => ev_and (ev_eqD (n := 8) (by decide) g3 h3 (ev_fld T.cl T.nT rfl rfl) (ev_fld T.cl T.nT rfl rfl)) fun _ => ev_eqD (n := 8) (by decide) g4 h4 (ev_fld T.cl T.nA rfl rfl) (ev_fld T.cl T.nA rfl rfl)
def resD : Res → PyData
  | .inl _ => .none
  | .inr (p, i) => .tuple [p, i]
/-- the parts of what Code raises, or nothing -/
def GXR (ds : List PyData) (r : Res) : Prop := (∃ fs d, r = .inl d ∧ GX ds (.inl fs)) ∨ ∃ p, r = .inr p ∧ GX ds (.inr p)
theorem GXR.len {ds : List PyData} {r : Res} (h : GXR ds r) : ds.length = 5 := by
  rcases h with ⟨_, _, _, h⟩ | ⟨_, _, h⟩ <;> exact h.len
abbrev spGXR (K : PySem.W.Frag) (C Cx : Addr) : Sp := spInitX K C Cx "part" "index" GXR
abbrev spRaised (K : PySem.W.Frag) : Sp := spP K fun ds d => ∃ r, GXR ds r ∧ d = resD r
def tSuite (K : PySem.W.Frag) (C : Addr) : Addr → Value → Option Addr → TS := fun a cls d => tAsg (tTup (tCons (tXf a cls d C "part" (tVar 6)) (tCons (tXf a cls d C "index" (tVar 6)) tNil))) (gName 5)
theorem ok_law_raised (T : TQ K mg) : FnOk P w K mg base CX0 10 T.law_raised.f T.law_raised.fd ["_law_width_so", "_law_counts_so", "_law_rules_so", "_law_top_so", "_law_answers_so"] (spRaised K) := by
  have G_init : FnOk P w K mg base (L2.CX P w) 8 T.gI T.dI ["self", "width", "counts", "rules", "top", "answers"] (spGXR K T.gC T.NoCode.C) := (ok_init T.toTGr).rais GXR fun ds r h => h
  refine T.law_raised.F.ok sc_law_raised (fun vs H Q E ⟨G, ds, d, iv, a, ⟨r, hp, _⟩, k⟩ => a.length.trans hp.len) (fun cdv A outer s H vs Q E hr ⟨G, ds, d, iv, a, ⟨r, hp, hd⟩, k⟩ => ?_)
  have hl := hp.len
  obtain ⟨v1, v2, v3, v4, v5, rfl⟩ := five (a.length.trans hl)
  refine ⟨_, pss_cons (ps_set (i := 5) sc_law_raised.nd rfl (by first | exact Or.inl rfl | exact Or.inr rfl) pe_non)
    (pss_cons (ps_try_as (i := 6) (tb := fun W => tDrop (tMakeS T.gC (spGXR K T.gC T.NoCode.C) (WE W) (tCons (tVar 0) (tCons (tVar 1) (tCons (tVar 2) (tCons (tVar 3) (tCons (tVar 4) tNil))))))) (ts := tSuite K T.NoCode.C) (Wout := fun _ _ _ _ => False) rfl rfl sc_law_raised.nd rfl rfl ⟨rfl, by decide, Or.inl T.NoCode.m⟩ takes0
        (fun W pn xe tk _ => pss_one (ps_expr (by exact (pe_makeS T.mkc G_init (hr.mono (by decide)) rfl T.gm T.bI (fun σ => passAt tk σ) (pa_cons (pv 0) (pa_cons (pv 1) (pa_cons (pv 2) (pa_cons (pv 3) (pa_cons (pv 4) pa_nil)))))))))
        (fun a oe cls d pn hz hf => pss_one (ps_set (i := 5) sc_law_raised.nd rfl (by first | exact Or.inl rfl | exact Or.inr rfl) (by exact (pe_tup (pa_cons (pe_xf T.NoCode.xf (T.NoCode.no _ (by decide +kernel)) hz hf (pv 6)) (pa_cons (pe_xf T.NoCode.xf (T.NoCode.no _ (by decide +kernel)) hz hf (pv 6)) pa_nil)))))))
    (pss_one (ps_ret (pv 5)))), ?_⟩
  -- the object's making, the object and its dict aside
  refine ⟨_, rfl, _, rfl, _, rfl, _, rfl, _, rfl, fun x dx hx hdx hne => ?_⟩
  obtain ⟨i2, l2, _⟩ := Fr.new (o := HO.own x) iv hdx
  have hx2 : upd H dx (HO.own x) x = none := by rw [upd_ne (Ne.symm hne)]; exact hx
  obtain ⟨i3, v3'⟩ := Fr.own_new (G := G) (o := HO.ins T.gC dx []) i2 hx2
  have l3 : ∀ {H' : Hp} {us : List (Str × V)}, Evl.Ex ((G.own x (.ins T.gC dx [])).view (upd (upd H dx (HO.own x)) x (.ins T.gC dx []))) ((G.own x (.ins T.gC dx us)).view H') → G.le H H' := fun {H' us} h => l2.trans fun c u hc => (hide_some (h c u (by rw [v3']; exact hc))).2
  refine ⟨G, x, dx, [v1, v2, v3, v4, v5], ds, r, rfl, i3, by rw [v3']; exact a.ex l2, hp, fun H' us i' e' ⟨d', hr'⟩ => ⟨rfl, ?_⟩, fun ex H' y1 y2 p i i' e' hr' q1 q2 hxd => ?_⟩
  · -- nothing was raised
    subst hd
    subst hr'
    exact ⟨_, rfl, k _ H' i'.1 (l3 e') .non⟩
  · subst hd
    subst hr'
    have e4 := l3 e'
    have hxd' : H' ex = some (.xd [("index", y2), ("part", y1)]) := (G.own x _).sub hxd
    refine ⟨true, T.NoCode.ex, fun _ ea hea => ?_, fun q => nomatch q⟩
    refine ⟨_, rfl, rfl, rfl, ex, [("index", y2), ("part", y1)], y1, rfl, hxd', rfl, _, rfl, rfl, rfl, ex, [("index", y2), ("part", y1)], y2, rfl, hxd', rfl, by show 2 ≤ sizeLine; decide, fun t ht => ?_⟩
    obtain ⟨i5, l5, h5⟩ := Fr.new (G := G) (o := HO.tup [y1, y2]) i'.1 ht
    refine ⟨_, rfl, k _ _ i5 (e4.trans l5) (.tup (.inl (.inl h5)) (.cons ((q1.ex Fr.own_sub).ex l5) (.cons ((q2.ex Fr.own_sub).ex l5) .nil)))⟩
end
end K39

set_option Elab.async false
set_option linter.all false
set_option maxRecDepth 100000
set_option maxHeartbeats 4000000
namespace K39
open PySem PySem.Spec PyProof.Rows L2
theorem noL_ints (xs : List Int) : noL (intsT xs) = true := noLs_all fun d hd => by obtain ⟨z, _, rfl⟩ := List.mem_map.mp hd; rfl
theorem noL_sum (ts : List Tm) : noL (sumD ts) = true := noLs_all fun d hd => by
  obtain ⟨t, _, rfl⟩ := List.mem_map.mp hd
  show (true && (noL (intsT t.p) && (true && true))) = true
  rw [noL_ints]
  rfl
theorem wRefl (Γ : List Sl) : L2.W Γ Γ := ⟨rfl, fun i s h => .inr h⟩
/-- a line that means the same -/
def sameT (w : Int) (us ts : List Tm) : Prop := us.map (Tm.red · w) = ts.map (Tm.red · w)
structure samR (w : Int) (r' r : Cr) : Prop where
  k : r'.kind = r.kind
  c : r'.ch = r.ch
  n : r'.num = r.num
  s : r'.sums.map (fun ts => ts.map (Tm.red · w)) = r.sums.map (fun ts => ts.map (Tm.red · w))
theorem isTerm_red (t : Tm) (w : Int) (ns : List Int) (m : Int) : isTerm t.D ns m = isTerm (t.red w).D ns m := rfl
theorem all_red {w : Int} {ns : List Int} {m : Int} (ts : List Tm) : ((ts.map Tm.D).all fun x => isTerm x ns m) = (((ts.map (Tm.red · w)).map Tm.D).all fun x => isTerm x ns m) := by
  rw [List.all_map, List.all_map, List.all_map]
  rfl
theorem sumOk_red {w : Int} {ns : List Int} {m : Int} (ts : List Tm) : sumOkC ns m (sumD ts) = sumOkC ns m (sumD (ts.map (Tm.red · w))) := by
  show (within (some (ts.map Tm.D)) 0 400 && (ts.map Tm.D).all fun x => isTerm x ns m) = (within (some ((ts.map (Tm.red · w)).map Tm.D)) 0 400 && ((ts.map (Tm.red · w)).map Tm.D).all fun x => isTerm x ns m)
  rw [all_red (w := w) ts]
  congr 1
  show (decide ((0 : Int) ≤ ((ts.map Tm.D).length : Nat)) && decide ((((ts.map Tm.D).length : Nat) : Int) ≤ 400)) = (decide ((0 : Int) ≤ (((ts.map (Tm.red · w)).map Tm.D).length : Nat)) && decide (((((ts.map (Tm.red · w)).map Tm.D).length : Nat) : Int) ≤ 400))
  rw [List.length_map, List.length_map, List.length_map]
theorem small_red {w : Int} : ∀ ts : List Tm, smallAll (ts.map Tm.D) = smallAll ((ts.map (Tm.red · w)).map Tm.D)
  | [] => rfl
  | t :: ts => by
    show (smallD t.D && smallAll (ts.map Tm.D)) = (smallD (t.red w).D && smallAll ((ts.map (Tm.red · w)).map Tm.D))
    rw [small_red ts]
    rfl
theorem smallS_red {w : Int} (ts : List Tm) : smallD (sumD ts) = smallD (sumD (ts.map (Tm.red · w))) := by
  show (decide ((ts.map Tm.D).length ≤ 1000) && smallAll (ts.map Tm.D)) = (decide (((ts.map (Tm.red · w)).map Tm.D).length ≤ 1000) && smallAll ((ts.map (Tm.red · w)).map Tm.D))
  rw [small_red (w := w) ts, List.length_map, List.length_map, List.length_map]
theorem smallV_red {w : Int} : ∀ (us ts : List (List Tm)), us.map (fun ts => ts.map (Tm.red · w)) = ts.map (fun ts => ts.map (Tm.red · w)) → smallAll (us.map sumD) = smallAll (ts.map sumD)
  | [], [], _ => rfl
  | [], _ :: _, h => by cases h
  | _ :: _, [], h => by cases h
  | u :: us, t :: ts, h => by
    rw [List.map_cons, List.map_cons] at h
    injection h with h1 h2
    show (smallD (sumD u) && smallAll (us.map sumD)) = (smallD (sumD t) && smallAll (ts.map sumD))
    rw [smallV_red us ts h2, smallS_red (w := w) u, smallS_red (w := w) t, h1]
theorem allV_red {w : Int} {ns : List Int} {m : Int} : ∀ (us ts : List (List Tm)), us.map (fun ts => ts.map (Tm.red · w)) = ts.map (fun ts => ts.map (Tm.red · w)) → (us.map sumD).all (sumOkC ns m) = (ts.map sumD).all (sumOkC ns m)
  | [], [], _ => rfl
  | [], _ :: _, h => by cases h
  | _ :: _, [], h => by cases h
  | u :: us, t :: ts, h => by
    rw [List.map_cons, List.map_cons] at h
    injection h with h1 h2
    rw [List.map_cons, List.map_cons, List.all_cons, List.all_cons, allV_red us ts h2, sumOk_red (w := w) u, sumOk_red (w := w) t, h1]
theorem redV {w : Int} : ∀ (us ts : List (List Tm)), us.map (fun ts => ts.map (Tm.red · w)) = ts.map (fun ts => ts.map (Tm.red · w)) → (us.map sumD).map (redS w) = (ts.map sumD).map (redS w)
  | [], [], _ => rfl
  | [], _ :: _, h => by cases h
  | _ :: _, [], h => by cases h
  | u :: us, t :: ts, h => by
    rw [List.map_cons, List.map_cons] at h
    injection h with h1 h2
    rw [List.map_cons, List.map_cons, List.map_cons, List.map_cons, redV us ts h2, redS_D, redS_D]
    exact congrArg (fun z => sumD z :: _) h1
theorem samR.R {w : Int} {r' r : Cr} (h : samR w r' r) : r'.R w = r.R w := by
  show PyData.tuple [.int r'.kind, intsT r'.ch, .int r'.num, .tuple ((r'.sums.map sumD).map (redS w))] = .tuple [.int r.kind, intsT r.ch, .int r.num, .tuple ((r.sums.map sumD).map (redS w))]
  rw [h.k, h.c, h.n, redV _ _ h.s]
theorem samR.good {w : Int} {r' r : Cr} (h : samR w r' r) {cs : List Int} (g : crGood cs r) : crGood cs r' := by
  obtain ⟨g1, g2⟩ := g
  have hl : r'.sums.length = r.sums.length := by
    have := congrArg List.length h.s
    rwa [List.length_map, List.length_map] at this
  refine ⟨?_, ?_⟩
  · have g1 : (isKC cs (.int r.kind) && ((within (some (r.ch.map PyData.int)) 0 2 && (r.ch.map PyData.int).all (isKC cs)) && ((isBet (.int r.num) 0 2 && within (some (r.sums.map sumD)) (szC cs (.int r.kind)) (szC cs (.int r.kind))) && (r.sums.map sumD).all (sumOkC ((r.ch.map PyData.int).map (szC cs)) r.num)))) = true := g1
    show (isKC cs (.int r'.kind) && ((within (some (r'.ch.map PyData.int)) 0 2 && (r'.ch.map PyData.int).all (isKC cs)) && ((isBet (.int r'.num) 0 2 && within (some (r'.sums.map sumD)) (szC cs (.int r'.kind)) (szC cs (.int r'.kind))) && (r'.sums.map sumD).all (sumOkC ((r'.ch.map PyData.int).map (szC cs)) r'.num)))) = true
    rw [h.k, h.c, h.n, allV_red _ _ h.s]
    have hw : ∀ lo hi, within (some (r'.sums.map sumD)) lo hi = within (some (r.sums.map sumD)) lo hi := fun lo hi => by
      show (decide (lo ≤ ((r'.sums.map sumD).length : Nat)) && decide ((((r'.sums.map sumD).length : Nat) : Int) ≤ hi)) = (decide (lo ≤ ((r.sums.map sumD).length : Nat)) && decide ((((r.sums.map sumD).length : Nat) : Int) ≤ hi))
      rw [List.length_map, List.length_map, hl]
    rw [hw]
    exact g1
  · have g2 : (decide (4 ≤ 1000) && (true && (smallD (intsT r.ch) && (true && ((decide ((r.sums.map sumD).length ≤ 1000) && smallAll (r.sums.map sumD)) && true))))) = true := g2
    show (decide (4 ≤ 1000) && (true && (smallD (intsT r'.ch) && (true && ((decide ((r'.sums.map sumD).length ≤ 1000) && smallAll (r'.sums.map sumD)) && true))))) = true
    rw [h.c, smallV_red _ _ h.s, List.length_map, hl]
    rw [List.length_map] at g2
    exact g2
section
variable {P : Program} {w : World} {K : PySem.W.Frag} {mg : Str → Option Value} {base : Heap}
abbrev s_law_grown_line : Stmt := topS 48
abbrev N_law_grown_line : List Str := ["_law_well", "_law_width_so", "_law_line", "_law_values", "_law_terms", "_law_some", "_law_factor", "_law_picks", "_law_number_here"]
theorem sc_law_grown_line : FnScope N_law_grown_line ["_law_well", "_law_width_so", "_law_line"] (defScope s_law_grown_line) := ⟨rfl, rfl, rfl, by decide +kernel, rfl, by decide +kernel, by decide +kernel⟩
abbrev s_law_bad_line : Stmt := topS 49
abbrev N_law_bad_line : List Str := ["_law_well", "_law_counts_so", "_law_line", "_law_kind", "_law_children", "_law_numbers", "_law_values", "_law_odd", "_law_good", "_law_bad"]
theorem sc_law_bad_line : FnScope N_law_bad_line ["_law_well", "_law_counts_so", "_law_line"] (defScope s_law_bad_line) := ⟨rfl, rfl, rfl, by decide +kernel, rfl, by decide +kernel, by decide +kernel⟩
structure TL8 (K : PySem.W.Frag) (mg : Str → Option Value) extends TQ K mg where
  law_grown_line : Df K mg "_law_grown_line" s_law_grown_line ["_law_well", "_law_width_so", "_law_line"]
  law_bad_line : Df K mg "_law_bad_line" s_law_bad_line ["_law_well", "_law_counts_so", "_law_line"]
abbrev spGrownL (K : PySem.W.Frag) : L2.Sp := spS K (fun (c : Int × List Int × Cr) ss => ss = [.well, .dat (.int c.1), .dat c.2.2.D] ∧ 0 ≤ c.1 ∧ c.1 ≤ 64 ∧ crGood c.2.1 c.2.2) fun c d => ∃ r', d = r'.D ∧ samR c.1 r' c.2.2
theorem ok_law_grown_line (T : TL8 K mg) : FnOk P w K mg base CX0 3 T.law_grown_line.f T.law_grown_line.fd ["_law_well", "_law_width_so", "_law_line"] (spGrownL K) := by
  have G_law_one : FnOk P w K mg base CX0 2 T.law_one.f T.law_one.fd ["_law_well", "_law_some"] (spOne K) := ok_law_one T.toTL1
  refine T.law_grown_line.F.ok sc_law_grown_line (fun vs H Q E ⟨G, ss, c, iv, a, ⟨hp, _⟩, k⟩ => a.length.trans (by rw [hp]; rfl)) (fun cdv A outer s0 H vs Q E hr ⟨G, sl, ⟨w, cs, r⟩, iv, a, ⟨hp, h0, h1, hg⟩, k⟩ => ?_)
  have hp : sl = [.well, .dat (.int w), .dat r.D] := hp
  have h0 : 0 ≤ w := h0
  have h1 : w ≤ 64 := h1
  have hg : crGood cs r := hg
  subst hp
  obtain ⟨v1, v2, v3, rfl⟩ := three a.length
  refine ⟨_, (pss_cons (ps_set (i := 3) sc_law_grown_line.nd rfl (by first | exact Or.inl rfl | exact Or.inr rfl) (pe_lst pa_nil))
    (pss_cons (ps_for PassesOwn.never rfl (pi_seq (pe_ix ix_tup (pv 2) pe_int (fun _ _ => rfl))) (pg_name (i := 4) sc_law_grown_line.nd rfl (by first | exact Or.inl rfl | exact Or.inr rfl))
      (pss_cons (ps_set (i := 5) sc_law_grown_line.nd rfl (by first | exact Or.inl rfl | exact Or.inr rfl) (pe_lst pa_nil))
      (pss_cons (ps_for PassesOwn.never rfl (pi_seq (pv 4)) (pg_tup rfl (pgs_cons (pg_name (i := 6) sc_law_grown_line.nd rfl (by first | exact Or.inl rfl | exact Or.inr rfl)) (pgs_cons (pg_name (i := 7) sc_law_grown_line.nd rfl (by first | exact Or.inl rfl | exact Or.inr rfl)) (pgs_cons (pg_name (i := 8) sc_law_grown_line.nd rfl (by first | exact Or.inl rfl | exact Or.inr rfl)) pgs_nil))))
        (pss_one (ps_expr (pe_bm PySem.F.plainAttrs_list PySem.F.slot_list_append PySem.F.type_list_append mt_append (pv 5) (pa_cons (pe_tup (pa_cons (pe_op op_add (pv 6) (pe_op op_mulW (pe_op op_shl pe_int (pv 1)) (pe_call G_law_one (hr.mono (by decide)) rfl T.law_one.g T.law_one.F.kp T.law_one.b .nil pass0 (pa_cons (pv 0) (pa_cons (pe_lst (pa_cons pe_int (pa_cons pe_int (pa_cons (pe_un un_neg pe_int) (pa_cons (pe_op op_pow pe_int pe_int) pa_nil))))) pa_nil))))) (pa_cons (pv 7) (pa_cons (pv 8) pa_nil)))) pa_nil)))))
      (pss_one (ps_expr (pe_bm PySem.F.plainAttrs_list PySem.F.slot_list_append PySem.F.type_list_append mt_append (pv 3) (pa_cons (pe_tupleOf (by rfl) T.tuple (pv 5)) pa_nil)))))))
    (pss_one (ps_ret (pe_op op_catA (pe_slice sl_tupA (pv 2) po_none (po_some pe_int)) (pe_tup (pa_cons (pe_tupleOf (by rfl) T.tuple (pv 3)) pa_nil))))))), ?_⟩
  refine doneBD (P := fun d => ∃ r', d = r'.D ∧ samR w r' r) 6 rfl rfl ?_ iv a k
  have hsm := small_tuple hg.2
  have hsv := small_mem hsm.2 (d := .tuple (r.sums.map sumD)) (by simp)
  have hsl := (small_tuple hsv).1
  rw [List.length_map] at hsl
  have hw := pow_le h0 h1
  let Γl : List (List Tm) → List Sl := fun us => [.well, .dat (.int w), .dat r.D, .olst (us.map sumD), .any, .any, .any, .any, .any]
  refine b_setN (i := 3) (PN := (· = [])) (by show 3 < 9; omega) (en_lst el_nil) fun ds e => ?_
  subst e
  show Bk K _ (Γl []) _ _ _ _
  refine b_seq (M' := fun Γ' => ∃ us, Γ' = Γl us ∧ us.map (fun ts => ts.map (Tm.red · w)) = r.sums.map (fun ts => ts.map (Tm.red · w))) (b_for (I := fun i Γ' => ∃ us, Γ' = Γl us ∧ us.map (fun ts => ts.map (Tm.red · w)) = (r.sums.take i).map (fun ts => ts.map (Tm.red · w))) (n := (r.sums.map sumD).length) (Pi := fun i d => (r.sums.map sumD)[i]? = some d) (N := fun i Γ' d => Γ'.set 4 (.dat d)) (e0_seq (el_tuple (ev_ixT (n := 3) (ds := [.int r.kind, intsT r.ch, .int r.num, .tuple (r.sums.map sumD)]) (ev_var rfl) ev_int rfl))) ⟨[], rfl, rfl⟩ (fun i Γ' hi ⟨us, e, _⟩ => by subst e; exact tgb_name (by show 4 < 9; omega)) (fun i Γ' d hi ⟨us, e, hus⟩ pd => ?_) fun Γ' ⟨us, e, hus⟩ => ⟨us, e, by rw [List.length_map, List.take_of_length_le (Nat.le_refl _)] at hus; exact hus⟩) fun Γ' ⟨us, e, hus⟩ => ?_
  · subst e
    obtain ⟨ts, hts, rfl⟩ := map_get pd
    have htl := (small_tuple (small_mem (small_tuple hsv).2 (d := sumD ts) (List.mem_of_getElem? pd))).1
    rw [List.length_map] at htl
    have hul : us.length ≤ 1000 := by
      have := congrArg List.length hus
      rw [List.length_map, List.length_map, List.length_take] at this
      omega
    let Γi : List Tm → List Sl := fun vs => [.well, .dat (.int w), .dat r.D, .olst (us.map sumD), .dat (sumD ts), .olst (vs.map Tm.D), .any, .any, .any]
    refine b_setN (i := 5) (PN := (· = [])) (by show 5 < 9; omega) (en_lst el_nil) fun ds e => ?_
    subst e
    show Bk K _ (Γi []) _ _ _ _
    refine b_seq (M' := fun Γ' => ∃ vs, Γ' = Γi vs ∧ vs.map (Tm.red · w) = ts.map (Tm.red · w)) (b_for (I := fun q Γ' => ∃ vs, Γ' = Γi vs ∧ vs.map (Tm.red · w) = (ts.take q).map (Tm.red · w)) (n := (ts.map Tm.D).length) (Pi := fun q d => (ts.map Tm.D)[q]? = some d) (N := fun q Γ' d => setSs Γ' [6, 7, 8] ((unT d).map .dat)) (e0_seq (el_tuple (ev_var rfl))) ⟨[], rfl, rfl⟩ (fun q Γ' hi ⟨vs, e, _⟩ => by subst e; exact (tgb_tup [6, 7, 8] (by intro j hj; simp at hj; show j < 9; omega)).impP fun d pd => by obtain ⟨t, _, rfl⟩ := map_get pd; exact ⟨_, rfl, rfl⟩) (fun q Γ' d hi ⟨vs, e, hvs⟩ pd => ?_) fun Γ' ⟨vs, e, hvs⟩ => ⟨vs, e, by rw [List.length_map, List.take_of_length_le (Nat.le_refl _)] at hvs; exact hvs⟩) fun Γ' ⟨vs, e, hvs⟩ => ?_
    · subst e
      obtain ⟨t, ht, rfl⟩ := map_get pd
      have hvl : vs.length ≤ 1000 := by
        have := congrArg List.length hvs
        rw [List.length_map, List.length_map, List.length_take] at this
        omega
      let Γ2 : List Sl := [.well, .dat (.int w), .dat r.D, .olst (us.map sumD), .dat (sumD ts), .olst (vs.map Tm.D), .dat (.int t.f), .dat (intsT t.p), .dat (.int t.n)]
      show Bk K _ Γ2 _ _ _ _
      refine b_app (j := 5) (P := fun d => ∃ t' : Tm, d = t'.D ∧ t'.red w = t.red w) (ds := vs.map Tm.D) rfl (by rw [List.length_map]; omega) ((ev_tup3 (ta' := tNil) (P1 := fun d => ∃ m, d = .int m ∧ modW m w = modW t.f w) ((ev_opC (P1 := fun i => i = t.f) (P2 := fun j => ∃ k, j = (1 * 2 ^ w.toNat) * k) (g' := fun i j => .int (i + j)) (fun _ _ _ => .int _) (ev_is (ev_var rfl)) ?_).imp fun d ⟨i, j, e1, ⟨k, e2⟩, e⟩ => ⟨_, e, ?_⟩) (ev_var rfl) (ev_var rfl)).imp fun d ⟨a, b, c, e, ⟨m, e1, e2⟩, e3, e4⟩ => ⟨⟨m, t.p, t.n⟩, by rw [e, e1, e3, e4]; rfl, by show (⟨modW m w, t.p, t.n⟩ : Tm) = ⟨modW t.f w, t.p, t.n⟩; rw [e2]⟩) fun e ⟨t', he, hr'⟩ => ?_
      · refine (ev_opI (P1 := fun i => i = 1 * 2 ^ w.toNat) (P2 := fun j => j ∈ ([0, 1, -1, 10 ^ 30] : List Int)) (g := fun i j => .int (i * j)) (fun _ _ _ => .int _) (ev_is (ev_opI1 (g' := fun i j => .int (i * 2 ^ j.toNat)) (fun _ _ _ => .int _) ev_int (ev_var rfl) ⟨h0, by omega, by decide⟩)) ((ev_one (i := 0) (ds := [.int 0, .int 1, .int (-1), .int (10 ^ 30)]) rfl (ev_lstE [.int 0, .int 1, .int (-1), .int (10 ^ 30)] (elc ev_int (elc ev_int (elc (ev_neg ev_int) (elc (ev_eq (ev_opI1 (g' := fun i j => .int (i ^ j.toNat)) (fun _ _ _ => .int _) ev_int ev_int ⟨by decide, by decide, by decide⟩) rfl) el_nil))))) (by decide) (by decide)).imp fun d hd => ?_) (fun i j hi hj => ?_)).imp fun d ⟨i, j, e1, e2, e⟩ => ⟨_, e, j, by rw [e1]⟩
        · simp only [List.mem_cons, List.not_mem_nil, or_false] at hd
          rcases hd with e | e | e | e <;> exact ⟨_, e, by simp⟩
        · refine wide_mul (a := 70) (b := 110) ?_ ?_ (by decide) (by decide) (by decide)
          · have h70 : (2 : Nat) ^ 70 > 2 ^ 64 := by decide
            have h64 : ((2 : Int) ^ 64) = ((2 ^ 64 : Nat) : Int) := by decide
            have hpp := mod_pos w
            rw [hi]
            omega
          · simp only [List.mem_cons, List.not_mem_nil, or_false] at hj
            rcases hj with e | e | e | e <;> rw [e] <;> decide
      · rw [e1, e2]
        unfold modW
        exact Int.add_mul_emod_self_left t.f _ k
      · subst he
        refine ⟨Γi (vs ++ [t']), ?_, vs ++ [t'], rfl, ?_⟩
        · show W [_, _, _, _, _, Sl.olst (vs.map Tm.D ++ [t'.D]), _, _, _] [_, _, _, _, _, Sl.olst ((vs ++ [t']).map Tm.D), _, _, _]
          rw [List.map_append]
          (repeat (first | exact L2.W.nil | refine L2.W.any ?_ | refine L2.W.eq ?_))
        · rw [List.map_append, hvs, List.take_add_one, ht, List.map_append]
          exact congrArg (fun z => _ ++ [z]) hr'
    · subst e
      refine b_appR (j := 3) (P := (· = sumD vs)) (ds := us.map sumD) rfl (by rw [List.length_map]; omega) (ev_eq (ev_tupleOf (ds := vs.map Tm.D) (el_list (ev_var rfl))) rfl) fun e he => ?_
      subst he
      refine ⟨noL_sum vs, Γl (us ++ [vs]), ?_, us ++ [vs], rfl, ?_⟩
      · show W [_, _, _, Sl.olst (us.map sumD ++ [sumD vs]), _, _, _, _, _] [_, _, _, Sl.olst ((us ++ [vs]).map sumD), _, _, _, _, _]
        rw [List.map_append]
        (repeat (first | exact L2.W.nil | refine L2.W.any ?_ | refine L2.W.eq ?_))
      · rw [List.map_append, hus, List.take_add_one, hts, List.map_append]
        exact congrArg (fun z => _ ++ [z]) hvs
  · subst e
    have hcut : cutQ [.int r.kind, intsT r.ch, .int r.num, .tuple (r.sums.map sumD)] none (some ((3 : Nat) : Int)) = [.int r.kind, intsT r.ch, .int r.num] := cutQ_take (n := 3) (by show 3 ≤ 4; omega)
    refine b_retR (P := (· = (⟨r.kind, r.ch, r.num, us⟩ : Cr).D)) (ev_eq (ev_catT (ds := [.int r.kind, intsT r.ch, .int r.num]) (es := [.tuple (us.map sumD)]) (by show 3 + 1 ≤ 100000; omega) (ev_eq (ev_slT (ds := [.int r.kind, intsT r.ch, .int r.num, .tuple (r.sums.map sumD)]) (lo := none) (hi := some ((3 : Nat) : Int)) (ev_var rfl) eo_none (eo_some ev_int)) (congrArg PyData.tuple hcut)) (ev_tupE [.tuple (us.map sumD)] (elc (ev_tupleOf (ds := us.map sumD) (el_list (ev_var rfl))) el_nil))) rfl) fun d e => ⟨d, rfl, _, e, rfl, rfl, rfl, hus⟩
end
end K39

set_option Elab.async false
set_option linter.all false
set_option maxRecDepth 100000
set_option maxHeartbeats 4000000
namespace K39
open PySem PySem.Spec PyProof.Rows L2
/-! ### lines that are none -/
def isBad (cs : List Int) (x : PyData) : Prop := smallD x = true ∧ isCR cs x = false
section
variable {cs : List Int} {ki ch nu va : PyData}
theorem cr_k (h : isKC cs ki = false) : isCR cs (.tuple [ki, ch, nu, va]) = false := by
  show (isKC cs ki && _) = false
  rw [h]
  rfl
theorem cr_c (h : (within (tupOf ch) 0 2 && allOf (tupOf ch) (isKC cs)) = false) : isCR cs (.tuple [ki, ch, nu, va]) = false := by
  show (isKC cs ki && ((within (tupOf ch) 0 2 && allOf (tupOf ch) (isKC cs)) && _)) = false
  rw [h, Bool.false_and, Bool.and_false]
theorem cr_n (h : isBet nu 0 2 = false) : isCR cs (.tuple [ki, ch, nu, va]) = false := by
  show (isKC cs ki && (_ && ((isBet nu 0 2 && _) && _))) = false
  rw [h, Bool.false_and, Bool.false_and, Bool.and_false, Bool.and_false]
theorem cr_v (h : within (tupOf va) (szC cs ki) (szC cs ki) = false) : isCR cs (.tuple [ki, ch, nu, va]) = false := by
  show (isKC cs ki && (_ && ((isBet nu 0 2 && within (tupOf va) (szC cs ki) (szC cs ki)) && _))) = false
  rw [h, Bool.and_false, Bool.false_and, Bool.and_false, Bool.and_false]
theorem cr_s (h : allOf (tupOf va) (sumOkC ((itemsOf (tupOf ch)).map (szC cs)) (unI nu)) = false) : isCR cs (.tuple [ki, ch, nu, va]) = false := by
  show (isKC cs ki && (_ && (_ && allOf (tupOf va) (sumOkC ((itemsOf (tupOf ch)).map (szC cs)) (unI nu))))) = false
  rw [h, Bool.and_false, Bool.and_false, Bool.and_false]
theorem small_tup {xs : List PyData} (hl : xs.length ≤ 1000) (h : ∀ x ∈ xs, smallD x = true) : smallD (.tuple xs) = true := by
  have key : ∀ ys : List PyData, (∀ x ∈ ys, smallD x = true) → smallAll ys = true := fun ys => by
    induction ys with
    | nil => intro _; rfl
    | cons y ys ih =>
      intro h
      rw [smallAll, h y List.mem_cons_self, ih fun x hx => h x (List.mem_cons_of_mem _ hx)]
      rfl
  rw [smallD, key xs h, decide_eq_true hl]
  rfl
theorem small_lst {xs : List PyData} (h : smallD (.tuple xs) = true) : smallD (.list xs) = true := h
theorem small4 (h1 : smallD ki = true) (h2 : smallD ch = true) (h3 : smallD nu = true) (h4 : smallD va = true) : smallD (.tuple [ki, ch, nu, va]) = true := small_tup (by show 4 ≤ 1000; omega) fun x hx => by
  simp only [List.mem_cons, List.not_mem_nil, or_false] at hx
  rcases hx with e | e | e | e <;> rw [e] <;> assumption
end
section
variable (cs : List Int) (r : Cr)
def vsD : List PyData := r.sums.map sumD
def oA : List PyData := [.none, .tuple [], .list [.int r.kind, intsT r.ch, .int r.num, .tuple (vsD r)], .tuple [.int r.kind, intsT r.ch, .int r.num], .tuple [.int r.kind, intsT r.ch, .int r.num, .tuple (vsD r), .int 0], .tuple [.int (cs.length : Nat), intsT r.ch, .int r.num, .tuple (vsD r)]]
def oB : List PyData := [.tuple [.int (-1), intsT r.ch, .int r.num, .tuple (vsD r)], .tuple [.none, intsT r.ch, .int r.num, .tuple (vsD r)], .tuple [.bool true, intsT r.ch, .int r.num, .tuple (vsD r)]]
def oC : List PyData := [.tuple [.int r.kind, .list (r.ch.map .int), .int r.num, .tuple (vsD r)]]
def oD : List PyData := [.tuple [.int r.kind, intsT (r.ch ++ [(cs.length : Int)]), .int r.num, .tuple (vsD r)], .tuple [.int r.kind, .tuple (List.replicate 3 (.int r.kind)), .int r.num, .tuple (vsD r)]]
def oE : List PyData := [.tuple [.int r.kind, intsT r.ch, .int 3, .tuple (vsD r)], .tuple [.int r.kind, intsT r.ch, .none, .tuple (vsD r)], .tuple [.int r.kind, intsT r.ch, .int r.num, .tuple (vsD r ++ [.tuple []])]]
def oF : List PyData := [.tuple [.int r.kind, intsT r.ch, .int r.num, .list (vsD r)], .tuple [.int r.kind, intsT r.ch, .int r.num, .none]]
def tG : Tm := ⟨1, List.replicate r.ch.length (-1), -1⟩
def sB (x : PyData) : PyData := .tuple [.int r.kind, intsT r.ch, .int r.num, .tuple (x :: (vsD r).drop 1)]
def tB1 : Tm := ⟨1, List.replicate (r.ch.length + 1) (-1), -1⟩
def tB2 : Tm := ⟨1, List.replicate r.ch.length (-1), r.num⟩
def tB3 : Tm := ⟨1, cs.getD (r.ch.getD 0 0).toNat 0 :: List.replicate (r.ch.length - 1) (-1), -1⟩
def oG1 : List PyData := [sB r (.tuple [(tG r).D, (tB1 r).D])]
def oG2 : List PyData := [sB r (.tuple [(tG r).D, (tB2 r).D])]
def oG3 : List PyData := [sB r (.tuple [(tG r).D, .none]), .tuple [.int r.kind, intsT r.ch, .int r.num, .tuple ((vsD r).drop 1)]]
def oG4 : List PyData := [sB r (.tuple (List.replicate 401 (tG r).D))]
def oH : List PyData := [sB r (.tuple [(tG r).D, (tB3 cs r).D])]
end
section
variable {cs : List Int} {r : Cr}
structure CrF (cs : List Int) (r : Cr) : Prop where
  k : isKC cs (.int r.kind) = true
  c2 : r.ch.length ≤ 2
  ck : ∀ c ∈ r.ch, isKC cs (.int c) = true
  n : 0 ≤ r.num ∧ r.num ≤ 2
  v : (r.sums.length : Int) = szC cs (.int r.kind)
  sc : smallD (intsT r.ch) = true
  sv : r.sums.length ≤ 1000 ∧ ∀ x ∈ vsD r, smallD x = true
  v16 : r.sums.length ≤ 16
theorem crF (hco : countsOk cs) (g : crGood cs r) : CrF cs r := by
  obtain ⟨g1, g2⟩ := g
  have g1 : (isKC cs (.int r.kind) && ((within (some (r.ch.map PyData.int)) 0 2 && (r.ch.map PyData.int).all (isKC cs)) && ((isBet (.int r.num) 0 2 && within (some (r.sums.map sumD)) (szC cs (.int r.kind)) (szC cs (.int r.kind))) && (r.sums.map sumD).all (sumOkC ((r.ch.map PyData.int).map (szC cs)) r.num)))) = true := g1
  simp only [Bool.and_eq_true] at g1
  obtain ⟨a1, ⟨a2, a3⟩, ⟨a4, a5⟩, _⟩ := g1
  have b2 := within_iff a2
  have b5 := within_iff a5
  rw [List.length_map] at b2 b5
  have hs := small_tuple g2
  have hsv := small_tuple (small_mem hs.2 (d := .tuple (r.sums.map sumD)) (by simp))
  refine ⟨a1, by omega, fun c hc => List.all_eq_true.mp a3 _ (List.mem_map_of_mem hc), bet_iff a4, by omega, small_mem hs.2 (d := intsT r.ch) (by simp), ⟨by have := hsv.1; rw [List.length_map] at this; exact this, fun x hx => small_mem hsv.2 hx⟩, ?_⟩
  obtain ⟨n, _, _, hz⟩ := isKC_get a1
  rw [List.getElem?_map] at hz
  obtain ⟨z, h1, h2⟩ := Option.map_eq_some_iff.mp hz
  injection h2 with h2
  have h3 := (hco.2.2 z (List.mem_of_getElem? h1)).2
  omega
theorem small_tmL {f n : Int} {p : List Int} (h : p.length ≤ 1000) : smallD (Tm.D ⟨f, p, n⟩) = true := small_tup (by show 3 ≤ 1000; omega) fun x hx => by
  simp only [List.mem_cons, List.not_mem_nil, or_false] at hx
  rcases hx with e | e | e <;> rw [e]
  · rfl
  · exact small_intsT h
  · rfl
theorem bet_no {c lo hi : Int} (h : c < lo ∨ hi < c) : isBet (.int c) lo hi = false := by
  show (decide (lo ≤ c) && decide (c ≤ hi)) = false
  rcases h with h | h
  · rw [decide_eq_false (by omega)]; rfl
  · rw [decide_eq_false (show ¬ c ≤ hi by omega), Bool.and_false]
theorem within_no {xs : List PyData} {lo hi : Int} (h : (xs.length : Int) < lo ∨ hi < (xs.length : Nat)) : within (some xs) lo hi = false := by
  show (decide (lo ≤ (xs.length : Nat)) && decide (((xs.length : Nat) : Int) ≤ hi)) = false
  rcases h with h | h
  · rw [decide_eq_false (by omega)]; rfl
  · rw [decide_eq_false (show ¬ (xs.length : Int) ≤ hi by omega), Bool.and_false]
theorem bad_oA (f : CrF cs r) : ∀ x ∈ oA cs r, isBad cs x := fun x hx => by
  have sv : smallD (.tuple (vsD r)) = true := small_tup (by unfold vsD; rw [List.length_map]; exact f.sv.1) f.sv.2
  have s4 : smallD (.tuple [.int r.kind, intsT r.ch, .int r.num, .tuple (vsD r)]) = true := small4 rfl f.sc rfl sv
  unfold oA at hx
  simp only [List.mem_cons, List.not_mem_nil, or_false] at hx
  rcases hx with e | e | e | e | e | e <;> rw [e]
  · exact ⟨rfl, rfl⟩
  · exact ⟨rfl, rfl⟩
  · exact ⟨small_lst s4, rfl⟩
  · refine ⟨small_tup (by show 3 ≤ 1000; omega) fun x hx => ?_, rfl⟩
    simp only [List.mem_cons, List.not_mem_nil, or_false] at hx
    rcases hx with e | e | e <;> rw [e]
    · rfl
    · exact f.sc
    · rfl
  · refine ⟨small_tup (by show 5 ≤ 1000; omega) fun x hx => ?_, rfl⟩
    simp only [List.mem_cons, List.not_mem_nil, or_false] at hx
    rcases hx with e | e | e | e | e <;> rw [e]
    · rfl
    · exact f.sc
    · rfl
    · exact sv
    · rfl
  · exact ⟨small4 rfl f.sc rfl sv, cr_k (bet_no (.inr (by omega)))⟩
theorem bad_oBF (f : CrF cs r) : ∀ x ∈ oB r ++ oC r ++ oD cs r ++ oE r ++ oF r, isBad cs x := fun x hx => by
  have hvl : (vsD r).length = r.sums.length := List.length_map _
  have sv : smallD (.tuple (vsD r)) = true := small_tup (by rw [hvl]; exact f.sv.1) f.sv.2
  have hc2 := f.c2
  have hv := f.v
  unfold oB oC oD oE oF at hx
  simp only [List.cons_append, List.nil_append, List.mem_cons, List.not_mem_nil, or_false] at hx
  rcases hx with e | e | e | e | e | e | e | e | e | e | e <;> rw [e]
  · exact ⟨small4 rfl f.sc rfl sv, cr_k (bet_no (.inl (by omega)))⟩
  · exact ⟨small4 rfl f.sc rfl sv, cr_k rfl⟩
  · exact ⟨small4 rfl f.sc rfl sv, cr_k rfl⟩
  · exact ⟨small4 rfl (small_lst f.sc) rfl sv, cr_c rfl⟩
  · refine ⟨small4 rfl (small_intsT (by rw [List.length_append]; show r.ch.length + 1 ≤ 1000; omega)) rfl sv, cr_c ?_⟩
    show (_ && ((r.ch ++ [(cs.length : Int)]).map PyData.int).all (isKC cs)) = false
    rw [List.map_append, List.all_append]
    show (_ && (_ && (isKC cs (.int (cs.length : Nat)) && true))) = false
    rw [show isKC cs (.int (cs.length : Nat)) = false from bet_no (.inr (by omega)), Bool.false_and, Bool.and_false, Bool.and_false]
  · refine ⟨small4 rfl (small_tup (by rw [List.length_replicate]; omega) fun x hx => by rw [List.eq_of_mem_replicate hx]; rfl) rfl sv, cr_c ?_⟩
    show (within (some (List.replicate 3 (PyData.int r.kind))) 0 2 && _) = false
    rw [within_no (.inr (by rw [List.length_replicate]; omega)), Bool.false_and]
  · exact ⟨small4 rfl f.sc rfl sv, cr_n rfl⟩
  · exact ⟨small4 rfl f.sc rfl sv, cr_n rfl⟩
  · refine ⟨small4 rfl f.sc rfl (small_tup (by rw [List.length_append, hvl]; show r.sums.length + 1 ≤ 1000; have := f.v16; omega) fun x hx => ?_), cr_v (within_no (.inr (by rw [List.length_append, hvl]; show _ < ((r.sums.length + 1 : Nat) : Int); omega)))⟩
    rcases List.mem_append.mp hx with h | h
    · exact f.sv.2 x h
    · rw [List.mem_singleton.mp h]; rfl
  · exact ⟨small4 rfl f.sc rfl (small_lst sv), cr_v rfl⟩
  · exact ⟨small4 rfl f.sc rfl rfl, cr_v rfl⟩
theorem drop_small (f : CrF cs r) {x : PyData} (hx : smallD x = true) : smallD (sB r x) = true := small4 rfl f.sc rfl (small_tup (by rw [List.length_cons, List.length_drop]; unfold vsD; rw [List.length_map]; have := f.sv.1; omega) fun y hy => by
  rcases List.mem_cons.mp hy with e | h
  · rw [e]; exact hx
  · exact f.sv.2 y (List.mem_of_mem_drop h))
theorem small_two {a b : PyData} (h1 : smallD a = true) (h2 : smallD b = true) : smallD (.tuple [a, b]) = true := small_tup (by show 2 ≤ 1000; omega) fun x hx => by
  simp only [List.mem_cons, List.not_mem_nil, or_false] at hx
  rcases hx with e | e <;> rw [e] <;> assumption
theorem sB_bad (f : CrF cs r) {b : PyData} (hs : smallD b = true) (h : isTerm b ((r.ch.map PyData.int).map (szC cs)) r.num = false) : isBad cs (sB r (.tuple [(tG r).D, b])) := by
  refine ⟨drop_small f (small_two (small_tmL (by rw [List.length_replicate]; have := f.c2; omega)) hs), cr_s ?_⟩
  show ((PyData.tuple [(tG r).D, b] :: (vsD r).drop 1).all (sumOkC ((r.ch.map PyData.int).map (szC cs)) r.num)) = false
  rw [List.all_cons]
  have e : sumOkC ((r.ch.map PyData.int).map (szC cs)) r.num (.tuple [(tG r).D, b]) = false := by
    show (_ && (isTerm (tG r).D _ _ && (isTerm b ((r.ch.map PyData.int).map (szC cs)) r.num && true))) = false
    rw [h, Bool.false_and, Bool.and_false, Bool.and_false]
  rw [e, Bool.false_and]
theorem picks_len {p : List Int} {ns : List Int} (h : p.length ≠ ns.length) : picksOk (some (p.map PyData.int)) ns = false := by
  show (within (some (p.map PyData.int)) _ _ && _) = false
  rw [within_no (by rw [List.length_map]; omega), Bool.false_and]
theorem bad_oG (f : CrF cs r) (hne : r.sums ≠ []) : ∀ x ∈ oG1 r ++ oG2 r ++ oG3 r ++ oG4 r, isBad cs x := fun x hx => by
  have hc2 := f.c2
  have hv := f.v
  have hvl : (vsD r).length = r.sums.length := List.length_map _
  have hnl : ((r.ch.map PyData.int).map (szC cs)).length = r.ch.length := by rw [List.length_map, List.length_map]
  have hpos : 0 < r.sums.length := List.length_pos_iff.mpr hne
  unfold oG1 oG2 oG3 oG4 at hx
  simp only [List.cons_append, List.nil_append, List.mem_cons, List.not_mem_nil, or_false] at hx
  rcases hx with e | e | e | e | e <;> rw [e]
  · refine sB_bad f (small_tmL (by rw [List.length_replicate]; omega)) ?_
    show (_ && picksOk (some ((List.replicate (r.ch.length + 1) (-1 : Int)).map PyData.int)) _) = false
    rw [picks_len (by rw [List.length_replicate, hnl]; omega), Bool.and_false]
  · refine sB_bad f (small_tmL (by rw [List.length_replicate]; omega)) ?_
    show ((_ && isBet (.int r.num) (-1) (r.num - 1)) && _) = false
    rw [bet_no (.inr (by omega)), Bool.and_false, Bool.false_and]
  · exact sB_bad f rfl rfl
  · refine ⟨small4 rfl f.sc rfl (small_tup (by rw [List.length_drop, hvl]; have := f.sv.1; omega) fun y hy => f.sv.2 y (List.mem_of_mem_drop hy)), cr_v (within_no (.inl (by rw [List.length_drop, hvl]; omega)))⟩
  · refine ⟨drop_small f (small_tup (by rw [List.length_replicate]; omega) fun y hy => by rw [List.eq_of_mem_replicate hy]; exact small_tmL (by rw [List.length_replicate]; omega)), cr_s ?_⟩
    show ((PyData.tuple (List.replicate 401 (tG r).D) :: (vsD r).drop 1).all _) = false
    rw [List.all_cons]
    have e : ∀ ns m, sumOkC ns m (.tuple (List.replicate 401 (tG r).D)) = false := fun ns m => by
      show (within (some (List.replicate 401 (tG r).D)) 0 400 && _) = false
      rw [within_no (.inr (by rw [List.length_replicate]; omega)), Bool.false_and]
    rw [e, Bool.false_and]
theorem bad_oH (f : CrF cs r) (hne : r.sums ≠ []) (hch : r.ch ≠ []) : ∀ x ∈ oH cs r, isBad cs x := fun x hx => by
  have hc2 := f.c2
  unfold oH at hx
  rw [List.mem_singleton.mp hx]
  refine sB_bad f (small_tmL (by rw [List.length_cons, List.length_replicate]; omega)) ?_
  obtain ⟨c, cs', hc⟩ : ∃ c l, r.ch = c :: l := by
    cases h : r.ch with
    | nil => exact absurd h hch
    | cons c l => exact ⟨c, l, rfl⟩
  show (_ && picksOk (some ((cs.getD (r.ch.getD 0 0).toNat 0 :: List.replicate (r.ch.length - 1) (-1)).map PyData.int)) ((r.ch.map PyData.int).map (szC cs))) = false
  rw [hc]
  show (_ && (_ && (((PyData.int (cs.getD c.toNat 0) :: _).zip (szC cs (.int c) :: _)).all _))) = false
  rw [List.zip_cons_cons, List.all_cons]
  have e : isBet (.int (cs.getD c.toNat 0)) (-1) (szC cs (.int c) - 1) = false := bet_no (.inr (by show cs.getD c.toNat 0 - 1 < cs.getD c.toNat 0; omega))
  show (_ && (_ && (isBet (.int (cs.getD c.toNat 0)) (-1) (szC cs (.int c) - 1) && _))) = false
  rw [e, Bool.false_and, Bool.and_false, Bool.and_false]
end
end K39

set_option Elab.async false
set_option linter.all false
set_option maxRecDepth 100000
set_option maxHeartbeats 4000000
namespace K39
open PySem PySem.Spec PyProof.Rows L2
section
variable {K : PySem.W.Frag} {Γ : List Sl}
theorem okD_rows {n : Nat} (ds : List PyData) (h : ∀ d ∈ ds, okD n d = true) : okD (n + 1) (.tuple ds) = true := by
  show (ds.all fun e => okD n e) = true
  exact List.all_eq_true.mpr h
/-- x != () -/
theorem eb_neEmpty {te : TE} {n : Nat} {ds : List PyData} (hn : n ≤ 64) (h : okD n (.tuple ds) = true) (h0 : okD n (.tuple []) = true) (ha : EvD K te Γ (· = .tuple ds)) : EvB K (tTest (tOp (rNeD K) te (tTup tNil))) Γ (· = !ds.isEmpty) :=
  eb_test (ev_eq (ev_neD hn h h0 ha (ev_tupE [] el_nil)) (congrArg PyData.bool (by
    cases ds with
    | nil => rw [SeqAt.eqv_refl _ (okD_lay n _ h).1]; rfl
    | cons x xs =>
      cases e : PyData.eqv (.tuple (x :: xs)) (.tuple []) with
      | false => rfl
      | true => have := (eqv_iff h h0).mp e; cases this)))
theorem ev_quad {t1 t2 t3 t4 : TE} {a b c d : PyData} (h1 : EvD K t1 Γ (· = a)) (h2 : EvD K t2 Γ (· = b)) (h3 : EvD K t3 Γ (· = c)) (h4 : EvD K t4 Γ (· = d)) : EvD K (tTup (tCons t1 (tCons t2 (tCons t3 (tCons t4 tNil))))) Γ (· = .tuple [a, b, c, d]) := ev_tupE [a, b, c, d] (elc h1 (elc h2 (elc h3 (elc h4 el_nil))))
end
section
variable {P : Program} {w : World} {K : PySem.W.Frag} {mg : Str → Option Value} {base : Heap}
abbrev spBadL (K : PySem.W.Frag) : L2.Sp := spS K (fun (c : List Int × Cr) ss => ss = [.well, .dat (.list (c.1.map .int)), .dat c.2.D] ∧ countsOk c.1 ∧ crGood c.1 c.2) fun c d => isBad c.1 d
theorem ok_law_bad_line (T : TL8 K mg) : FnOk P w K mg base CX0 3 T.law_bad_line.f T.law_bad_line.fd ["_law_well", "_law_counts_so", "_law_line"] (spBadL K) := by
  have G_law_one : FnOk P w K mg base CX0 2 T.law_one.f T.law_one.fd ["_law_well", "_law_some"] (spOne K) := ok_law_one T.toTL1
  refine T.law_bad_line.F.ok sc_law_bad_line (fun vs H Q E ⟨G, ss, c, iv, a, ⟨hp, _⟩, k⟩ => a.length.trans (by rw [hp]; rfl)) (fun cdv A outer s0 H vs Q E hr ⟨G, sl, ⟨cs, r⟩, iv, a, ⟨hp, hco, hg⟩, k⟩ => ?_)
  have hp : sl = [.well, .dat (.list (cs.map .int)), .dat r.D] := hp
  have hco : countsOk cs := hco
  have hg : crGood cs r := hg
  subst hp
  obtain ⟨v1, v2, v3, rfl⟩ := three a.length
  refine ⟨_, (pss_cons (ps_asg (pv 2) (pg_tup rfl (pgs_cons (pg_name (i := 3) sc_law_bad_line.nd rfl (by first | exact Or.inl rfl | exact Or.inr rfl)) (pgs_cons (pg_name (i := 4) sc_law_bad_line.nd rfl (by first | exact Or.inl rfl | exact Or.inr rfl)) (pgs_cons (pg_name (i := 5) sc_law_bad_line.nd rfl (by first | exact Or.inl rfl | exact Or.inr rfl)) (pgs_cons (pg_name (i := 6) sc_law_bad_line.nd rfl (by first | exact Or.inl rfl | exact Or.inr rfl)) pgs_nil))))))
    (pss_cons (ps_set (i := 7) sc_law_bad_line.nd rfl (by first | exact Or.inl rfl | exact Or.inr rfl) (pe_lst (pa_cons pe_non (pa_cons (pe_tup pa_nil) (pa_cons (pe_callTy call_list_of (by rfl) T.list (by decide +kernel) (pa_cons (pv 2) pa_nil)) (pa_cons (pe_slice sl_tupA (pv 2) po_none (po_some pe_int)) (pa_cons (pe_op op_catA (pv 2) (pe_tup (pa_cons pe_int pa_nil))) (pa_cons (pe_tup (pa_cons (pe_callB call_len_seq (by rfl) T.len (by decide +kernel) (pa_cons (pv 1) pa_nil)) (pa_cons (pv 4) (pa_cons (pv 5) (pa_cons (pv 6) pa_nil))))) pa_nil))))))))
    (pss_cons (ps_set (i := 7) sc_law_bad_line.nd rfl (by first | exact Or.inl rfl | exact Or.inr rfl) (pe_op op_catS (pv 7) (pe_lst (pa_cons (pe_tup (pa_cons (pe_un un_neg pe_int) (pa_cons (pv 4) (pa_cons (pv 5) (pa_cons (pv 6) pa_nil))))) (pa_cons (pe_tup (pa_cons pe_non (pa_cons (pv 4) (pa_cons (pv 5) (pa_cons (pv 6) pa_nil))))) (pa_cons (pe_tup (pa_cons pe_bl (pa_cons (pv 4) (pa_cons (pv 5) (pa_cons (pv 6) pa_nil))))) pa_nil))))))
    (pss_cons (ps_set (i := 7) sc_law_bad_line.nd rfl (by first | exact Or.inl rfl | exact Or.inr rfl) (pe_op op_catS (pv 7) (pe_lst (pa_cons (pe_tup (pa_cons (pv 3) (pa_cons (pe_callTy call_list_of (by rfl) T.list (by decide +kernel) (pa_cons (pv 4) pa_nil)) (pa_cons (pv 5) (pa_cons (pv 6) pa_nil))))) pa_nil))))
    (pss_cons (ps_set (i := 7) sc_law_bad_line.nd rfl (by first | exact Or.inl rfl | exact Or.inr rfl) (pe_op op_catS (pv 7) (pe_lst (pa_cons (pe_tup (pa_cons (pv 3) (pa_cons (pe_op op_catA (pv 4) (pe_tup (pa_cons (pe_callB call_len_seq (by rfl) T.len (by decide +kernel) (pa_cons (pv 1) pa_nil)) pa_nil))) (pa_cons (pv 5) (pa_cons (pv 6) pa_nil))))) (pa_cons (pe_tup (pa_cons (pv 3) (pa_cons (pe_op op_repA (pe_tup (pa_cons (pv 3) pa_nil)) pe_int) (pa_cons (pv 5) (pa_cons (pv 6) pa_nil))))) pa_nil)))))
    (pss_cons (ps_set (i := 7) sc_law_bad_line.nd rfl (by first | exact Or.inl rfl | exact Or.inr rfl) (pe_op op_catS (pv 7) (pe_lst (pa_cons (pe_tup (pa_cons (pv 3) (pa_cons (pv 4) (pa_cons pe_int (pa_cons (pv 6) pa_nil))))) (pa_cons (pe_tup (pa_cons (pv 3) (pa_cons (pv 4) (pa_cons pe_non (pa_cons (pv 6) pa_nil))))) (pa_cons (pe_tup (pa_cons (pv 3) (pa_cons (pv 4) (pa_cons (pv 5) (pa_cons (pe_op op_catA (pv 6) (pe_tup (pa_cons (pe_tup pa_nil) pa_nil))) pa_nil))))) pa_nil))))))
    (pss_cons (ps_set (i := 7) sc_law_bad_line.nd rfl (by first | exact Or.inl rfl | exact Or.inr rfl) (pe_op op_catS (pv 7) (pe_lst (pa_cons (pe_tup (pa_cons (pv 3) (pa_cons (pv 4) (pa_cons (pv 5) (pa_cons (pe_callTy call_list_of (by rfl) T.list (by decide +kernel) (pa_cons (pv 6) pa_nil)) pa_nil))))) (pa_cons (pe_tup (pa_cons (pv 3) (pa_cons (pv 4) (pa_cons (pv 5) (pa_cons pe_non pa_nil))))) pa_nil)))))
    (pss_cons (ps_if (pt_cmpR (op_neD hr.units) (pv 6) (pe_tup pa_nil) (nomark _)) (pss_cons (ps_set (i := 8) sc_law_bad_line.nd rfl (by first | exact Or.inl rfl | exact Or.inr rfl) (pe_tup (pa_cons pe_int (pa_cons (pe_op op_repA (pe_tup (pa_cons (pe_un un_neg pe_int) pa_nil)) (pe_callB call_len_seq (by rfl) T.len (by decide +kernel) (pa_cons (pv 4) pa_nil))) (pa_cons (pe_un un_neg pe_int) pa_nil)))))
      (pss_cons (ps_set (i := 7) sc_law_bad_line.nd rfl (by first | exact Or.inl rfl | exact Or.inr rfl) (pe_op op_catS (pv 7) (pe_lst (pa_cons (pe_tup (pa_cons (pv 3) (pa_cons (pv 4) (pa_cons (pv 5) (pa_cons (pe_op op_catA (pe_tup (pa_cons (pe_tup (pa_cons (pv 8) (pa_cons (pe_tup (pa_cons pe_int (pa_cons (pe_op op_repA (pe_tup (pa_cons (pe_un un_neg pe_int) pa_nil)) (pe_op op_add (pe_callB call_len_seq (by rfl) T.len (by decide +kernel) (pa_cons (pv 4) pa_nil)) pe_int)) (pa_cons (pe_un un_neg pe_int) pa_nil)))) pa_nil))) pa_nil)) (pe_slice sl_tupA (pv 6) (po_some pe_int) po_none)) pa_nil))))) pa_nil))))
      (pss_cons (ps_set (i := 7) sc_law_bad_line.nd rfl (by first | exact Or.inl rfl | exact Or.inr rfl) (pe_op op_catS (pv 7) (pe_lst (pa_cons (pe_tup (pa_cons (pv 3) (pa_cons (pv 4) (pa_cons (pv 5) (pa_cons (pe_op op_catA (pe_tup (pa_cons (pe_tup (pa_cons (pv 8) (pa_cons (pe_tup (pa_cons pe_int (pa_cons (pe_op op_repA (pe_tup (pa_cons (pe_un un_neg pe_int) pa_nil)) (pe_callB call_len_seq (by rfl) T.len (by decide +kernel) (pa_cons (pv 4) pa_nil))) (pa_cons (pv 5) pa_nil)))) pa_nil))) pa_nil)) (pe_slice sl_tupA (pv 6) (po_some pe_int) po_none)) pa_nil))))) pa_nil))))
      (pss_cons (ps_set (i := 7) sc_law_bad_line.nd rfl (by first | exact Or.inl rfl | exact Or.inr rfl) (pe_op op_catS (pv 7) (pe_lst (pa_cons (pe_tup (pa_cons (pv 3) (pa_cons (pv 4) (pa_cons (pv 5) (pa_cons (pe_op op_catA (pe_tup (pa_cons (pe_tup (pa_cons (pv 8) (pa_cons pe_non pa_nil))) pa_nil)) (pe_slice sl_tupA (pv 6) (po_some pe_int) po_none)) pa_nil))))) (pa_cons (pe_tup (pa_cons (pv 3) (pa_cons (pv 4) (pa_cons (pv 5) (pa_cons (pe_slice sl_tupA (pv 6) (po_some pe_int) po_none) pa_nil))))) pa_nil)))))
      (pss_cons (ps_set (i := 7) sc_law_bad_line.nd rfl (by first | exact Or.inl rfl | exact Or.inr rfl) (pe_op op_catS (pv 7) (pe_lst (pa_cons (pe_tup (pa_cons (pv 3) (pa_cons (pv 4) (pa_cons (pv 5) (pa_cons (pe_op op_catA (pe_tup (pa_cons (pe_op op_repA (pe_tup (pa_cons (pv 8) pa_nil)) pe_int) pa_nil)) (pe_slice sl_tupA (pv 6) (po_some pe_int) po_none)) pa_nil))))) pa_nil))))
      (pss_one (ps_if (pt_cmpR (op_neD hr.units) (pv 4) (pe_tup pa_nil) (nomark _)) (pss_cons (ps_set (i := 9) sc_law_bad_line.nd rfl (by first | exact Or.inl rfl | exact Or.inr rfl) (pe_tup (pa_cons pe_int (pa_cons (pe_op op_catA (pe_tup (pa_cons (pe_ix ix_list (pv 1) (pe_ix ix_tup (pv 4) pe_int (fun _ _ => rfl)) (fun _ _ => rfl)) pa_nil)) (pe_op op_repA (pe_tup (pa_cons (pe_un un_neg pe_int) pa_nil)) (pe_op op_sub (pe_callB call_len_seq (by rfl) T.len (by decide +kernel) (pa_cons (pv 4) pa_nil)) pe_int))) (pa_cons (pe_un un_neg pe_int) pa_nil)))))
        (pss_one (ps_set (i := 7) sc_law_bad_line.nd rfl (by first | exact Or.inl rfl | exact Or.inr rfl) (pe_op op_catS (pv 7) (pe_lst (pa_cons (pe_tup (pa_cons (pv 3) (pa_cons (pv 4) (pa_cons (pv 5) (pa_cons (pe_op op_catA (pe_tup (pa_cons (pe_tup (pa_cons (pv 8) (pa_cons (pv 9) pa_nil))) pa_nil)) (pe_slice sl_tupA (pv 6) (po_some pe_int) po_none)) pa_nil))))) pa_nil)))))) pss_nil))))))) pss_nil)
    (pss_one (ps_ret (pe_call G_law_one (hr.mono (by decide)) rfl T.law_one.g T.law_one.F.kp T.law_one.b .nil pass0 (pa_cons (pv 0) (pa_cons (pv 7) pa_nil))))))))))))), ?_⟩
  refine doneBD (P := isBad cs) 7 rfl rfl ?_ iv a k
  have f := crF hco hg
  have hc2 := f.c2
  have hv16 := f.v16
  have hvl : (vsD r).length = r.sums.length := List.length_map _
  let Γo : Sl → Sl → Sl → List Sl := fun s7 s8 s9 => [.well, .dat (.list (cs.map .int)), .dat r.D, .dat (.int r.kind), .dat (intsT r.ch), .dat (.int r.num), .dat (.tuple (vsD r)), s7, s8, s9]
  refine b_asg (P := (· = r.D)) (ev_var rfl) ((tgb_tup [3, 4, 5, 6] (by intro j hj; simp at hj; show j < 10; omega)).impP fun d e => ⟨_, e, rfl⟩) fun d e => ?_
  subst e
  show Bk K _ (Γo .any .any .any) _ _ _ _
  have hlen : ∀ {Γ : List Sl}, Γ[1]? = some (.dat (.list (cs.map .int))) → EvD K (tCB (fun xs H Q => ∃ p ys, xs = [V.ref p] ∧ (SqL K H p ys ∨ SqT K H p ys) ∧ Q (V.int (ys.length : Nat)) H) (tCons (tVar 1) tNil)) Γ (· = .int (cs.length : Nat)) := fun h => ev_eq (ev_len (ds := cs.map .int) (el_list (ev_var h))) (by rw [List.length_map])
  have hclen : ∀ {Γ : List Sl}, Γ[4]? = some (.dat (intsT r.ch)) → EvD K (tCB (fun xs H Q => ∃ p ys, xs = [V.ref p] ∧ (SqL K H p ys ∨ SqT K H p ys) ∧ Q (V.int (ys.length : Nat)) H) (tCons (tVar 4) tNil)) Γ (· = .int (r.ch.length : Nat)) := fun h => ev_eq (ev_len (ds := r.ch.map .int) (el_tuple (ev_var h))) (by rw [List.length_map])
  have hcut : cutQ [.int r.kind, intsT r.ch, .int r.num, .tuple (vsD r)] none (some ((3 : Nat) : Int)) = [.int r.kind, intsT r.ch, .int r.num] := cutQ_take (n := 3) (by show 3 ≤ 4; omega)
  refine b_set (i := 7) (P := (· = .list (oA cs r))) (by show 7 < 10; omega) (ev_lstE (oA cs r) (elc (ev_c fun _ => .non) (elc (ev_tupE [] el_nil) (elc (ev_listOf (ds := [.int r.kind, intsT r.ch, .int r.num, .tuple (vsD r)]) (el1T (ev_var rfl))) (elc (ev_eq (ev_slT (ds := [.int r.kind, intsT r.ch, .int r.num, .tuple (vsD r)]) (lo := none) (hi := some ((3 : Nat) : Int)) (ev_var rfl) eo_none (eo_some ev_int)) (congrArg PyData.tuple hcut)) (elc (ev_eq (ev_catT (ds := [.int r.kind, intsT r.ch, .int r.num, .tuple (vsD r)]) (es := [.int 0]) (by show 4 + 1 ≤ 100000; omega) (ev_var rfl) (ev_tupE [.int 0] (elc ev_int el_nil))) rfl) (elc (ev_quad (hlen rfl) (ev_var rfl) (ev_var rfl) (ev_var rfl)) el_nil))))))) fun d e => ?_
  subst e
  have hadd : ∀ {L M' : List PyData} {s8 s9 : Sl} {ta : TA} {tu : TS} {M B C : List Sl → Prop} {R : Rv → Prop}, L.length + M'.length ≤ 100000 → EvL' K ta (Γo (.dat (.list L)) s8 s9) (· = M') → Bk K tu (Γo (.dat (.list (L ++ M'))) s8 s9) M R B C → M'.length ≤ 100000 → Bk K (tSeq (tAsg (tOp (rCatS K) (tVar 7) (tLst ta)) (gName 7)) tu) (Γo (.dat (.list L)) s8 s9) M R B C := fun {L M' s8 s9 ta tu M B C R} hl h h2 hm => b_set (i := 7) (P := (· = .list (L ++ M'))) (by show 7 < 10; omega) (ev_catL hl (ev_var rfl) (ev_lstE M' h hm)) fun d e => by subst e; exact h2
  have hlo : ∀ {Γ : List Sl}, Γ[4]? = some (.dat (intsT r.ch)) → EvD K (tCB (fun xs H Q => ∃ p ys, xs = [V.ref p] ∧ (SqL K H p ys ∨ SqT K H p ys) ∧ ∀ l, H l = none → Q (.ref l) (upd H l (.lst ys))) (tCons (tVar 4) tNil)) Γ (· = .list (r.ch.map .int)) := fun h => ev_listOf (ds := r.ch.map .int) (el1T (ev_var h))
  refine hadd (L := oA cs r) (M' := oB r) (by show 6 + 3 ≤ 100000; omega) (elc (ev_quad (ev_neg ev_int) (ev_var rfl) (ev_var rfl) (ev_var rfl)) (elc (ev_quad (ev_c fun _ => .non) (ev_var rfl) (ev_var rfl) (ev_var rfl)) (elc (ev_quad ev_bl (ev_var rfl) (ev_var rfl) (ev_var rfl)) el_nil))) ?_ (by show 3 ≤ 100000; omega)
  refine hadd (M' := oC r) (by show 9 + 1 ≤ 100000; omega) (elc (ev_quad (ev_var rfl) (hlo rfl) (ev_var rfl) (ev_var rfl)) el_nil) ?_ (by show 1 ≤ 100000; omega)
  refine hadd (M' := oD cs r) (by show 10 + 2 ≤ 100000; omega) (elc (ev_quad (ev_var rfl) (ev_eq (ev_catT (ds := r.ch.map .int) (es := [.int (cs.length : Nat)]) (by rw [List.length_map]; show r.ch.length + 1 ≤ 100000; omega) (ev_var rfl) (ev_tupE [.int (cs.length : Nat)] (elc (hlen rfl) el_nil))) (by show PyData.tuple _ = .tuple ((r.ch ++ [(cs.length : Int)]).map .int); rw [List.map_append]; rfl)) (ev_var rfl) (ev_var rfl)) (elc (ev_quad (ev_var rfl) (ev_rep1 (n := 3) (d := .int r.kind) (by omega) (ev_tupE [.int r.kind] (elc (ev_var rfl) el_nil)) ev_int) (ev_var rfl) (ev_var rfl)) el_nil)) ?_ (by show 2 ≤ 100000; omega)
  refine hadd (M' := oE r) (by show 12 + 3 ≤ 100000; omega) (elc (ev_quad (ev_var rfl) (ev_var rfl) ev_int (ev_var rfl)) (elc (ev_quad (ev_var rfl) (ev_var rfl) (ev_c fun _ => .non) (ev_var rfl)) (elc (ev_quad (ev_var rfl) (ev_var rfl) (ev_var rfl) (ev_catT (ds := vsD r) (es := [.tuple []]) (by rw [hvl]; show r.sums.length + 1 ≤ 100000; omega) (ev_var rfl) (ev_tupE [.tuple []] (elc (ev_tupE [] el_nil) el_nil)))) el_nil))) ?_ (by show 3 ≤ 100000; omega)
  refine hadd (M' := oF r) (by show 15 + 2 ≤ 100000; omega) (elc (ev_quad (ev_var rfl) (ev_var rfl) (ev_var rfl) (ev_listOf (ds := vsD r) (el1T (ev_var rfl)))) (elc (ev_quad (ev_var rfl) (ev_var rfl) (ev_var rfl) (ev_c fun _ => .non)) el_nil)) ?_ (by show 2 ≤ 100000; omega)
  let L0 : List PyData := oA cs r ++ oB r ++ oC r ++ oD cs r ++ oE r ++ oF r
  have hL0 : ∀ x ∈ L0, isBad cs x := fun x hx => by
    have hx : x ∈ oA cs r ++ oB r ++ oC r ++ oD cs r ++ oE r ++ oF r := hx
    have e : oA cs r ++ oB r ++ oC r ++ oD cs r ++ oE r ++ oF r = oA cs r ++ (oB r ++ oC r ++ oD cs r ++ oE r ++ oF r) := by simp only [List.append_assoc]
    rw [e] at hx
    rcases List.mem_append.mp hx with h | h
    · exact bad_oA f x h
    · exact bad_oBF f x h
  have hl0 : L0.length = 17 := rfl
  show Bk K _ (Γo (.dat (.list L0)) .any .any) _ _ _ _
  let good : List Sl → Prop := fun Γ' => ∃ (L : List PyData) (s8 s9 : Sl), Γ' = Γo (.dat (.list L)) s8 s9 ∧ (∀ x ∈ L, isBad cs x) ∧ 0 < L.length ∧ L.length ≤ 1000
  have hokv : okD 8 (.tuple (vsD r)) = true := okD_rows _ fun d hd => by obtain ⟨ts, _, rfl⟩ := List.mem_map.mp hd; exact okD_sum ts
  refine b_seq (M' := good) (b_if (b := !(vsD r).isEmpty) (eb_neEmpty (n := 8) (by omega) hokv rfl (ev_var rfl)) (fun hb => ?_) fun hb => b_next ⟨L0, .any, .any, rfl, hL0, by omega, by omega⟩) fun Γ' ⟨L, s8, s9, e, hL, h1, h2⟩ => ?_
  · have hne : r.sums ≠ [] := fun e => by unfold vsD at hb; rw [e] at hb; cases hb
    have hrep : ∀ {n : Nat}, PyData.tuple (List.replicate n (.int (-1))) = intsT (List.replicate n (-1)) := fun {n} => by
      show _ = PyData.tuple ((List.replicate n (-1 : Int)).map .int)
      rw [List.map_replicate]
    have hneg1 : ∀ {Γ : List Sl} {te : TE} {n : Nat}, n ≤ 1000 → EvD K te Γ (· = .int (n : Nat)) → EvD K (tOp (rRepA K) (tTup (tCons (tUn (rU fun i => V.int (-i)) (tC (.int 1))) tNil)) te) Γ (· = intsT (List.replicate n (-1))) := fun {Γ te n} hn h => ev_eq (ev_rep1 (n := n) (d := .int (-1)) hn (ev_tupE [.int (-1)] (elc (ev_neg ev_int) el_nil)) h) hrep
    have htri : ∀ {Γ : List Sl} {t1 t2 t3 : TE} {a b c : PyData}, EvD K t1 Γ (· = a) → EvD K t2 Γ (· = b) → EvD K t3 Γ (· = c) → EvD K (tTup (tCons t1 (tCons t2 (tCons t3 tNil)))) Γ (· = .tuple [a, b, c]) := fun {Γ t1 t2 t3 a b c} h1 h2 h3 => ev_tupE [a, b, c] (elc h1 (elc h2 (elc h3 el_nil)))
    refine b_set (i := 8) (P := (· = (tG r).D)) (by show 8 < 10; omega) (htri ev_int (hneg1 (by omega) (hclen rfl)) (ev_neg ev_int)) fun d e => ?_
    subst e
    have hdrop : cutQ (vsD r) (some ((1 : Nat) : Int)) none = (vsD r).drop 1 := cutQ_drop (n := 1) (by rw [hvl]; have := List.length_pos_iff.mpr hne; omega)
    have hsl : ∀ {Γ : List Sl}, Γ[6]? = some (.dat (.tuple (vsD r))) → EvD K (tSl (rSlA K) (tVar 6) (tPart (tC (.int 1))) tNoPart) Γ (· = .tuple ((vsD r).drop 1)) := fun h => ev_eq (ev_slT (ds := vsD r) (lo := some ((1 : Nat) : Int)) (hi := none) (ev_var h) (eo_some ev_int) eo_none) (congrArg PyData.tuple hdrop)
    have hsB : ∀ {Γ : List Sl} {te : TE} {x : PyData}, Γ[3]? = some (.dat (.int r.kind)) → Γ[4]? = some (.dat (intsT r.ch)) → Γ[5]? = some (.dat (.int r.num)) → Γ[6]? = some (.dat (.tuple (vsD r))) → EvD K te Γ (· = x) → EvD K (tTup (tCons (tVar 3) (tCons (tVar 4) (tCons (tVar 5) (tCons (tOp (rCatA K) (tTup (tCons te tNil)) (tSl (rSlA K) (tVar 6) (tPart (tC (.int 1))) tNoPart)) tNil))))) Γ (· = sB r x) := fun {Γ te x} h3 h4 h5 h6 h => ev_quad (ev_var h3) (ev_var h4) (ev_var h5) (ev_eq (ev_catT (ds := [x]) (es := (vsD r).drop 1) (by rw [List.length_drop, hvl]; show 1 + (r.sums.length - 1) ≤ 100000; omega) (ev_tupE [x] (elc h el_nil)) (hsl h6)) rfl)
    have hpair : ∀ {Γ : List Sl} {t1 t2 : TE} {a b : PyData}, EvD K t1 Γ (· = a) → EvD K t2 Γ (· = b) → EvD K (tTup (tCons t1 (tCons t2 tNil))) Γ (· = .tuple [a, b]) := fun {Γ t1 t2 a b} h1 h2 => ev_tupE [a, b] (elc h1 (elc h2 el_nil))
    show Bk K _ (Γo (.dat (.list L0)) (.dat (tG r).D) .any) _ _ _ _
    refine hadd (L := L0) (M' := oG1 r) (by show 17 + 1 ≤ 100000; omega) (elc (hsB rfl rfl rfl rfl (hpair (ev_var rfl) (htri ev_int (hneg1 (n := r.ch.length + 1) (by omega) (ev_eq (ev_opC1 (a := (r.ch.length : Nat)) (b := 1) (g' := fun i j => .int (i + j)) (fun _ _ _ => .int _) (hclen rfl) ev_int) rfl)) (ev_neg ev_int)))) el_nil) ?_ (by show 1 ≤ 100000; omega)
    refine hadd (M' := oG2 r) (by show 18 + 1 ≤ 100000; omega) (elc (hsB rfl rfl rfl rfl (hpair (ev_var rfl) (htri ev_int (hneg1 (by omega) (hclen rfl)) (ev_var rfl)))) el_nil) ?_ (by show 1 ≤ 100000; omega)
    refine hadd (M' := oG3 r) (by show 19 + 2 ≤ 100000; omega) (elc (hsB rfl rfl rfl rfl (hpair (ev_var rfl) (ev_c fun _ => .non))) (elc (ev_quad (ev_var rfl) (ev_var rfl) (ev_var rfl) (hsl rfl)) el_nil)) ?_ (by show 2 ≤ 100000; omega)
    refine hadd (M' := oG4 r) (by show 21 + 1 ≤ 100000; omega) (elc (hsB rfl rfl rfl rfl (ev_rep1 (n := 401) (d := (tG r).D) (by omega) (ev_tupE [(tG r).D] (elc (ev_var rfl) el_nil)) ev_int)) el_nil) ?_ (by show 1 ≤ 100000; omega)
    let L1 : List PyData := L0 ++ oG1 r ++ oG2 r ++ oG3 r ++ oG4 r
    have hl1 : L1.length = 22 := rfl
    have hL1 : ∀ x ∈ L1, isBad cs x := fun x hx => by
      have hx : x ∈ L0 ++ oG1 r ++ oG2 r ++ oG3 r ++ oG4 r := hx
      have e : L0 ++ oG1 r ++ oG2 r ++ oG3 r ++ oG4 r = L0 ++ (oG1 r ++ oG2 r ++ oG3 r ++ oG4 r) := by simp only [List.append_assoc]
      rw [e] at hx
      rcases List.mem_append.mp hx with h | h
      · exact hL0 x h
      · exact bad_oG f hne x h
    show Bk K _ (Γo (.dat (.list L1)) (.dat (tG r).D) .any) _ _ _ _
    refine b_if (b := !(r.ch.map PyData.int).isEmpty) (eb_neEmpty (n := 1) (by omega) (okD_ints 0 r.ch) rfl (ev_var rfl)) (fun hb2 => ?_) fun _ => b_next ⟨L1, _, _, rfl, hL1, by omega, by omega⟩
    have hne2 : r.ch ≠ [] := fun e => by rw [e] at hb2; cases hb2
    have hpos : 0 < r.ch.length := List.length_pos_iff.mpr hne2
    have hc0 : r.ch[0]? = some (r.ch.getD 0 0) := by rw [List.getD_eq_getElem?_getD, List.getElem?_eq_getElem hpos]; rfl
    obtain ⟨n0, e0, hn0, hz0⟩ := isKC_get (f.ck _ (List.mem_of_getElem? hc0))
    injection e0 with e0
    have hsz : szC cs (.int (r.ch.getD 0 0)) = cs.getD (r.ch.getD 0 0).toNat 0 := rfl
    refine b_set (i := 9) (P := (· = (tB3 cs r).D)) (by show 9 < 10; omega) (ev_eq (htri ev_int (ev_catT (ds := [.int (cs.getD (r.ch.getD 0 0).toNat 0)]) (es := (List.replicate (r.ch.length - 1) (-1)).map .int) (by rw [List.length_map, List.length_replicate]; show 1 + (r.ch.length - 1) ≤ 100000; omega) (ev_tupE [.int (cs.getD (r.ch.getD 0 0).toNat 0)] (elc (ev_ixL (n := n0) (ds := cs.map .int) (ev_var rfl) (ev_eq (ev_ixT (n := 0) (ds := r.ch.map .int) (ev_var rfl) ev_int (by rw [List.getElem?_map, hc0]; rfl)) (by rw [e0])) (by rw [hz0, hsz])) el_nil)) (hneg1 (n := r.ch.length - 1) (by omega) (ev_eq (ev_opC1 (a := (r.ch.length : Nat)) (b := 1) (g' := fun i j => .int (i - j)) (fun _ _ _ => .int _) (hclen rfl) ev_int) (congrArg PyData.int (by omega))))) (ev_neg ev_int)) rfl) fun d e => ?_
    subst e
    show Bk K _ (Γo (.dat (.list L1)) (.dat (tG r).D) (.dat (tB3 cs r).D)) _ _ _ _
    refine b_set1 (i := 7) (P := (· = .list (L1 ++ oH cs r))) (by show 7 < 10; omega) (ev_catL (by show 22 + 1 ≤ 100000; omega) (ev_var rfl) (ev_lstE (oH cs r) (elc (hsB rfl rfl rfl rfl (hpair (ev_var rfl) (ev_var rfl))) el_nil) (by show 1 ≤ 100000; omega))) fun d e => ⟨L1 ++ oH cs r, .dat (tG r).D, .dat (tB3 cs r).D, by rw [e]; rfl, fun x hx => (List.mem_append.mp hx).elim (hL1 x) (bad_oH f hne hne2 x), by rw [List.length_append]; omega, by rw [List.length_append]; show L1.length + 1 ≤ 1000; omega⟩
  · subst e
    exact b_ret (P := (· ∈ L)) (ev_one rfl (ev_var rfl) h1 h2) fun d hd => ⟨d, rfl, hL d hd⟩
end
end K39

set_option Elab.async false
set_option linter.all false
set_option maxRecDepth 100000
set_option maxHeartbeats 4000000
namespace K39
open PySem PySem.Spec PyProof.Rows L2
section
variable {K : PySem.W.Frag} {Γ : List Sl}
theorem eb_neSame {te tb : TE} {n : Nat} {d : PyData} (hn : n ≤ 64) (h : okD n d = true) (ha : EvD K te Γ (· = d)) (hb : EvD K tb Γ (· = d)) : EvB K (tTest (tOp (rNeD K) te tb)) Γ (· = false) :=
  eb_test (ev_eq (ev_neD hn h h ha hb) (by rw [SeqAt.eqv_refl d (okD_lay n d h).1]; rfl))
theorem w_set {i : Nat} {s : Sl} (h : Γ[i]? = some .any) : L2.W (Γ.set i s) Γ := ⟨by rw [List.length_set], fun q t hq => by
  by_cases e : i = q
  · subst e
    rw [h] at hq
    exact .inl (Option.some.inj hq).symm
  · exact .inr (by rw [List.getElem?_set_ne e]; exact hq)⟩
theorem ev_catLQ {te tb : TE} {es : List PyData} {Q1 : List PyData → Prop} (hn : ∀ ds, Q1 ds → ds.length + es.length ≤ 100000) (h : EvD K te Γ (fun d => ∃ ds, d = .list ds ∧ Q1 ds)) (h2 : EvD K tb Γ (· = .list es)) : EvD K (tOp (rCatS K) te tb) Γ (fun d => ∃ ds, d = .list (ds ++ es) ∧ Q1 ds) := ev_catPL h h2 hn
theorem cutQ_min {ds : List PyData} (n : Nat) : cutQ ds none (some (n : Int)) = ds.take n := by
  by_cases h : n ≤ ds.length
  · exact cutQ_take h
  · unfold cutQ HT.sIx
    have h1 : ¬ ((n : Int) < 0) := by omega
    simp only [h1, if_false, Int.toNat_natCast, List.drop_zero, Nat.sub_zero]
    rw [Nat.min_eq_right (by omega), List.take_of_length_le (Nat.le_refl _), List.take_of_length_le (by omega)]
/-- a loop over some values, each of which is passed -/
theorem b_odds {tl : TE} {tb : TS} {j : Nat} {R : Rv → Prop} {B C : List Sl → Prop} (L : List PyData) (hj : Γ[j]? = some .any) (hL : EvD K tl Γ (· = .list L))
    (hb : ∀ x ∈ L, ∀ B' C', Bk K tb (Γ.set j (.dat x)) (fun Γ2 => ∃ Γ3, L2.W Γ2 Γ3 ∧ Γ3 = Γ) R B' C') : Bk K (tFor (iSeq K tl) (gName j) tb) Γ (· = Γ) R B C :=
  b_for (I := fun _ Γ' => Γ' = Γ) (n := L.length) (Pi := fun i d => L[i]? = some d) (N := fun i Γ' d => Γ'.set j (.dat d)) (e0_seq (el_list hL)) rfl (fun i Γ' hi e => by subst e; exact tgb_name (List.getElem?_eq_some_iff.mp hj).1) (fun i Γ' d hi e pd => by subst e; exact hb d (List.mem_of_getElem? pd) _ _) fun Γ' e => e
end
theorem within_lst {xs : List PyData} {d : PyData} (h : seqOf d = none) (lo hi : Int) : within (seqOf d) lo hi = false := by rw [h]; rfl
structure SpG where
  w : Int
  cs : List Int
  rs : List Cr
  t : Nat
  fs : List (List Int)
structure SpOk (g : SpG) : Prop where
  w1 : 1 ≤ g.w
  w2 : g.w ≤ 64
  co : countsOk g.cs
  li : linesOk g.cs g.rs
  t : g.t < g.cs.length
  m : 1 ≤ g.cs.getD g.t 0
  an : answersOk (g.cs.getD g.t 0) g.fs
def odW : List PyData := [.int 0, .int 65, .bool true, .none, .str "8"]
def odC : List PyData := [.none, .list [], .tuple [], .dict [], .int 5, .list (List.replicate 6 (.int 1))]
def odN : List PyData := [.int (-1), .int 17, .bool true, .none, .str "1", .list [.int 1]]
def odR (n : Nat) : List PyData := [.none, .list [], .tuple [], .dict [], .int 5, .list (List.replicate n .none)]
def odT (n : Nat) : List PyData := [.int (-1), .int (n : Nat), .none, .bool true, .str "0", .list [.int 0]]
def odA (c : Nat) : List PyData := [.none, .tuple (List.replicate (c + 2) (.int 1)), .tuple (List.replicate c (.int 1)), .list (List.replicate (c + 1) (.int 1)), .tuple (List.replicate (c + 1) (.bool true)), .tuple (List.replicate (c + 1) .none)]
theorem odW_bad : ∀ x ∈ odW, isBet x 1 64 = false := fun x hx => by
  unfold odW at hx
  simp only [List.mem_cons, List.not_mem_nil, or_false] at hx
  rcases hx with e | e | e | e | e <;> rw [e] <;> rfl
theorem seq_no (n lo hi : Nat) (h1 : 1 ≤ lo) (h : hi < n) (y : PyData) : ∀ x ∈ ([.none, .list [], .tuple [], .dict [], .int 5, .list (List.replicate n y)] : List PyData), within (seqOf x) lo hi = false := fun x hx => by
  simp only [List.mem_cons, List.not_mem_nil, or_false] at hx
  rcases hx with e | e | e | e | e | e <;> rw [e]
  · rfl
  · exact within_no (.inl (by show ((0 : Nat) : Int) < (lo : Nat); omega))
  · exact within_no (.inl (by show ((0 : Nat) : Int) < (lo : Nat); omega))
  · rfl
  · rfl
  · exact within_no (.inr (by rw [List.length_replicate]; omega))
theorem odN_bad : ∀ x ∈ odN, isBet x 0 16 = false := fun x hx => by
  unfold odN at hx
  simp only [List.mem_cons, List.not_mem_nil, or_false] at hx
  rcases hx with e | e | e | e | e | e <;> rw [e] <;> rfl
theorem odT_bad (cs : List Int) : ∀ x ∈ odT cs.length, isKC cs x = false := fun x hx => by
  unfold odT at hx
  simp only [List.mem_cons, List.not_mem_nil, or_false] at hx
  rcases hx with e | e | e | e | e | e <;> rw [e]
  · exact bet_no (.inl (by omega))
  · exact bet_no (.inr (by omega))
  · rfl
  · rfl
  · rfl
  · rfl
theorem row_len {xs : List PyData} {n : Int} (h : (xs.length : Int) ≠ n) : isInts (.tuple xs) n = false := by
  show (true && (within (some xs) n n && _)) = false
  rw [within_no (by omega), Bool.false_and, Bool.and_false]
theorem row_no {n : Nat} {y : PyData} (hy : isInt y = false) : isInts (.tuple (List.replicate (n + 1) y)) ((n : Nat) + 1 : Int) = false := by
  show (true && (_ && (List.replicate (n + 1) y).all isInt)) = false
  rw [List.replicate_succ, List.all_cons, hy, Bool.false_and, Bool.and_false, Bool.and_false]
theorem odA_bad {c : Nat} (h1 : 1 ≤ c) (h2 : c ≤ 100) : ∀ x ∈ odA c, isInts x ((c : Nat) + 1 : Int) = false ∧ smallD x = true := fun x hx => by
  have sr : ∀ (n : Nat) (y : PyData), n ≤ 1000 → smallD y = true → smallD (.tuple (List.replicate n y)) = true := fun n y hn hy => small_tup (by rw [List.length_replicate]; exact hn) fun z hz => by rw [List.eq_of_mem_replicate hz]; exact hy
  unfold odA at hx
  simp only [List.mem_cons, List.not_mem_nil, or_false] at hx
  rcases hx with e | e | e | e | e | e <;> rw [e]
  · exact ⟨rfl, rfl⟩
  · exact ⟨row_len (by rw [List.length_replicate]; omega), sr _ _ (by omega) rfl⟩
  · exact ⟨row_len (by rw [List.length_replicate]; omega), sr _ _ (by omega) rfl⟩
  · exact ⟨rfl, small_lst (sr _ _ (by omega) rfl)⟩
  · exact ⟨row_no rfl, sr _ _ (by omega) rfl⟩
  · exact ⟨row_no rfl, sr _ _ (by omega) rfl⟩
section
variable {P : Program} {w : World} {K : PySem.W.Frag} {mg : Str → Option Value} {base : Heap}
abbrev s_law_spoilt_right : Stmt := topS 50
abbrev N_law_spoilt_right : List Str := ["_law_well", "_law_width_so", "_law_counts_so", "_law_lines", "_law_front", "_law_asks", "_law_odd", "_law_at", "_law_bent", "_law_turn", "_law_many"]
theorem sc_law_spoilt_right : FnScope N_law_spoilt_right ["_law_well", "_law_width_so", "_law_counts_so", "_law_lines", "_law_front", "_law_asks"] (defScope s_law_spoilt_right) := ⟨rfl, rfl, rfl, by decide +kernel, rfl, by decide +kernel, by decide +kernel⟩
structure TL9 (K : PySem.W.Frag) (mg : Str → Option Value) extends TL8 K mg where
  law_spoilt_right : Df K mg "_law_spoilt_right" s_law_spoilt_right ["_law_well", "_law_width_so", "_law_counts_so", "_law_lines", "_law_front", "_law_asks"]
abbrev spSpoilt (K : PySem.W.Frag) : L2.Sp := spS K (fun (g : SpG) ss => ss = [.well, .dat (.int g.w), .dat (.list (g.cs.map .int)), .dat (.list (g.rs.map Cr.D)), .dat (.int (g.t : Nat)), .dat (.list (g.fs.map intsT))] ∧ SpOk g) fun c d => d = .bool true
theorem six : ∀ {vs : List V}, vs.length = 6 → ∃ a b c d e f, vs = [a, b, c, d, e, f]
  | [a, b, c, d, e, f], _ => ⟨a, b, c, d, e, f, rfl⟩
theorem ok_law_spoilt_right (T : TL9 K mg) : FnOk P w K mg base CX0 12 T.law_spoilt_right.f T.law_spoilt_right.fd ["_law_well", "_law_width_so", "_law_counts_so", "_law_lines", "_law_front", "_law_asks"] (spSpoilt K) := by
  have G_law_raised := ok_law_raised (P := P) (w := w) (base := base) T.toTQ
  have G_law_draw : FnOk P w K mg base CX0 1 T.law_draw.f T.law_draw.fd ["_law_well", "_law_many"] (spDraw K) := ok_law_draw T.toTL1
  have G_law_bad_line := ok_law_bad_line (P := P) (w := w) (base := base) T.toTL8
  refine T.law_spoilt_right.F.ok sc_law_spoilt_right (fun vs H Q E ⟨G, ss, c, iv, a, ⟨hp, _⟩, k⟩ => a.length.trans (by rw [hp]; rfl)) (fun cdv A outer s0 H vs Q E hr ⟨G, sl, ⟨w, cs, rs, t, fs⟩, iv, a, ⟨hp, hok⟩, k⟩ => ?_)
  have hp : sl = [.well, .dat (.int w), .dat (.list (cs.map .int)), .dat (.list (rs.map Cr.D)), .dat (.int (t : Nat)), .dat (.list (fs.map intsT))] := hp
  subst hp
  obtain ⟨v1, v2, v3, v4, v5, v6, rfl⟩ := six a.length
  refine ⟨_, (pss_cons (ps_for PassesOwn.never rfl (pi_seq (pe_lst (pa_cons pe_int (pa_cons pe_int (pa_cons pe_bl (pa_cons pe_non (pa_cons pe_str pa_nil))))))) (pg_name (i := 6) sc_law_spoilt_right.nd rfl (by first | exact Or.inl rfl | exact Or.inr rfl))
      (pss_one (ps_if (pt_cmpR (op_neD hr.units) (pe_call G_law_raised (hr.mono (by decide)) rfl T.law_raised.g T.law_raised.F.kp T.law_raised.b .nil pass0 (pa_cons (pv 6) (pa_cons pe_non (pa_cons pe_non (pa_cons pe_non (pa_cons pe_non pa_nil)))))) (pe_tup (pa_cons pe_str (pa_cons (pe_un un_neg pe_int) pa_nil))) (nomark _)) (pss_one (ps_ret pe_bl)) pss_nil)))
    (pss_cons (ps_for PassesOwn.never rfl (pi_seq (pe_lst (pa_cons pe_non (pa_cons (pe_lst pa_nil) (pa_cons (pe_tup pa_nil) (pa_cons pe_dnewK (pa_cons pe_int (pa_cons (pe_op op_rep (pe_lst (pa_cons pe_int pa_nil)) pe_int) pa_nil)))))))) (pg_name (i := 6) sc_law_spoilt_right.nd rfl (by first | exact Or.inl rfl | exact Or.inr rfl))
      (pss_one (ps_if (pt_cmpR (op_neD hr.units) (pe_call G_law_raised (hr.mono (by decide)) rfl T.law_raised.g T.law_raised.F.kp T.law_raised.b .nil pass0 (pa_cons (pv 1) (pa_cons (pv 6) (pa_cons pe_non (pa_cons pe_non (pa_cons pe_non pa_nil)))))) (pe_tup (pa_cons pe_str (pa_cons (pe_un un_neg pe_int) pa_nil))) (nomark _)) (pss_one (ps_ret pe_bl)) pss_nil)))
    (pss_cons (ps_set (i := 7) sc_law_spoilt_right.nd rfl (by first | exact Or.inl rfl | exact Or.inr rfl) (pe_call G_law_draw (hr.mono (by decide)) rfl T.law_draw.g T.law_draw.F.kp T.law_draw.b .nil pass0 (pa_cons (pv 0) (pa_cons (pe_callB call_len_seq (by rfl) T.len (by decide +kernel) (pa_cons (pv 2) pa_nil)) pa_nil))))
    (pss_cons (ps_for PassesOwn.never rfl (pi_seq (pe_lst (pa_cons (pe_un un_neg pe_int) (pa_cons pe_int (pa_cons pe_bl (pa_cons pe_non (pa_cons pe_str (pa_cons (pe_lst (pa_cons pe_int pa_nil)) pa_nil)))))))) (pg_name (i := 6) sc_law_spoilt_right.nd rfl (by first | exact Or.inl rfl | exact Or.inr rfl))
      (pss_cons (ps_set (i := 8) sc_law_spoilt_right.nd rfl (by first | exact Or.inl rfl | exact Or.inr rfl) (pe_op op_catS (pe_slice sl_list (pv 2) po_none (po_some (pv 7))) (pe_slice sl_list (pe_lst (pa_cons (pv 6) (pa_cons pe_non pa_nil))) po_none (po_some (pe_op op_sub (pe_callB call_len_seq (by rfl) T.len (by decide +kernel) (pa_cons (pv 2) pa_nil)) (pv 7))))))
      (pss_one (ps_if (pt_cmpR (op_neD hr.units) (pe_call G_law_raised (hr.mono (by decide)) rfl T.law_raised.g T.law_raised.F.kp T.law_raised.b .nil pass0 (pa_cons (pv 1) (pa_cons (pv 8) (pa_cons pe_non (pa_cons pe_non (pa_cons pe_non pa_nil)))))) (pe_tup (pa_cons pe_str (pa_cons (pv 7) pa_nil))) (nomark _)) (pss_one (ps_ret pe_bl)) pss_nil))))
    (pss_cons (ps_for PassesOwn.never rfl (pi_seq (pe_lst (pa_cons pe_non (pa_cons (pe_lst pa_nil) (pa_cons (pe_tup pa_nil) (pa_cons pe_dnewK (pa_cons pe_int (pa_cons (pe_op op_rep (pe_lst (pa_cons pe_non pa_nil)) pe_int) pa_nil)))))))) (pg_name (i := 6) sc_law_spoilt_right.nd rfl (by first | exact Or.inl rfl | exact Or.inr rfl))
      (pss_one (ps_if (pt_cmpR (op_neD hr.units) (pe_call G_law_raised (hr.mono (by decide)) rfl T.law_raised.g T.law_raised.F.kp T.law_raised.b .nil pass0 (pa_cons (pv 1) (pa_cons (pv 2) (pa_cons (pv 6) (pa_cons pe_non (pa_cons pe_non pa_nil)))))) (pe_tup (pa_cons pe_str (pa_cons (pe_un un_neg pe_int) pa_nil))) (nomark _)) (pss_one (ps_ret pe_bl)) pss_nil)))
    (pss_cons (ps_for PassesOwn.never rfl (pi_range1 rfl T.range (pa_cons pe_int pa_nil)) (pg_name (i := 9) sc_law_spoilt_right.nd rfl (by first | exact Or.inl rfl | exact Or.inr rfl))
      (pss_cons (ps_set (i := 7) sc_law_spoilt_right.nd rfl (by first | exact Or.inl rfl | exact Or.inr rfl) (pe_call G_law_draw (hr.mono (by decide)) rfl T.law_draw.g T.law_draw.F.kp T.law_draw.b .nil pass0 (pa_cons (pv 0) (pa_cons (pe_callB call_len_seq (by rfl) T.len (by decide +kernel) (pa_cons (pv 3) pa_nil)) pa_nil))))
      (pss_cons (ps_set (i := 8) sc_law_spoilt_right.nd rfl (by first | exact Or.inl rfl | exact Or.inr rfl) (pe_op op_catS (pe_op op_catS (pe_slice sl_list (pv 3) po_none (po_some (pv 7))) (pe_lst (pa_cons (pe_call G_law_bad_line (hr.mono (by decide)) rfl T.law_bad_line.g T.law_bad_line.F.kp T.law_bad_line.b .nil pass0 (pa_cons (pv 0) (pa_cons (pv 2) (pa_cons (pe_ix ix_list (pv 3) (pv 7) (fun _ _ => rfl)) pa_nil)))) pa_nil))) (pe_op op_rep (pe_lst (pa_cons pe_non pa_nil)) (pe_op op_sub (pe_op op_sub (pe_callB call_len_seq (by rfl) T.len (by decide +kernel) (pa_cons (pv 3) pa_nil)) (pv 7)) pe_int))))
      (pss_one (ps_if (pt_cmpR (op_neD hr.units) (pe_call G_law_raised (hr.mono (by decide)) rfl T.law_raised.g T.law_raised.F.kp T.law_raised.b .nil pass0 (pa_cons (pv 1) (pa_cons (pv 2) (pa_cons (pv 8) (pa_cons pe_non (pa_cons pe_non pa_nil)))))) (pe_tup (pa_cons pe_str (pa_cons (pv 7) pa_nil))) (nomark _)) (pss_one (ps_ret pe_bl)) pss_nil)))))
    (pss_cons (ps_for PassesOwn.never rfl (pi_seq (pe_lst (pa_cons (pe_un un_neg pe_int) (pa_cons (pe_callB call_len_seq (by rfl) T.len (by decide +kernel) (pa_cons (pv 2) pa_nil)) (pa_cons pe_non (pa_cons pe_bl (pa_cons pe_str (pa_cons (pe_lst (pa_cons pe_int pa_nil)) pa_nil)))))))) (pg_name (i := 6) sc_law_spoilt_right.nd rfl (by first | exact Or.inl rfl | exact Or.inr rfl))
      (pss_one (ps_if (pt_cmpR (op_neD hr.units) (pe_call G_law_raised (hr.mono (by decide)) rfl T.law_raised.g T.law_raised.F.kp T.law_raised.b .nil pass0 (pa_cons (pv 1) (pa_cons (pv 2) (pa_cons (pv 3) (pa_cons (pv 6) (pa_cons pe_non pa_nil)))))) (pe_tup (pa_cons pe_str (pa_cons (pe_un un_neg pe_int) pa_nil))) (nomark _)) (pss_one (ps_ret pe_bl)) pss_nil)))
    (pss_cons (ps_for PassesOwn.never rfl (pi_seq (pe_lst (pa_cons pe_non (pa_cons (pe_lst pa_nil) (pa_cons (pe_tup pa_nil) (pa_cons pe_dnewK (pa_cons pe_int (pa_cons (pe_op op_rep (pe_lst (pa_cons pe_non pa_nil)) pe_int) pa_nil)))))))) (pg_name (i := 6) sc_law_spoilt_right.nd rfl (by first | exact Or.inl rfl | exact Or.inr rfl))
      (pss_one (ps_if (pt_cmpR (op_neD hr.units) (pe_call G_law_raised (hr.mono (by decide)) rfl T.law_raised.g T.law_raised.F.kp T.law_raised.b .nil pass0 (pa_cons (pv 1) (pa_cons (pv 2) (pa_cons (pv 3) (pa_cons (pv 4) (pa_cons (pv 6) pa_nil)))))) (pe_tup (pa_cons pe_str (pa_cons (pe_un un_neg pe_int) pa_nil))) (nomark _)) (pss_one (ps_ret pe_bl)) pss_nil)))
    (pss_cons (ps_set (i := 10) sc_law_spoilt_right.nd rfl (by first | exact Or.inl rfl | exact Or.inr rfl) (pe_op op_add (pe_ix ix_list (pv 2) (pv 4) (fun _ _ => rfl)) pe_int))
    (pss_cons (ps_for PassesOwn.never rfl (pi_seq (pe_lst (pa_cons pe_non (pa_cons (pe_op op_repA (pe_tup (pa_cons pe_int pa_nil)) (pe_op op_add (pv 10) pe_int)) (pa_cons (pe_op op_repA (pe_tup (pa_cons pe_int pa_nil)) (pe_op op_sub (pv 10) pe_int)) (pa_cons (pe_op op_rep (pe_lst (pa_cons pe_int pa_nil)) (pv 10)) (pa_cons (pe_op op_repA (pe_tup (pa_cons pe_bl pa_nil)) (pv 10)) (pa_cons (pe_op op_repA (pe_tup (pa_cons pe_non pa_nil)) (pv 10)) pa_nil)))))))) (pg_name (i := 6) sc_law_spoilt_right.nd rfl (by first | exact Or.inl rfl | exact Or.inr rfl))
      (pss_one (ps_if (pt_cmpR (op_neD hr.units) (pe_call G_law_raised (hr.mono (by decide)) rfl T.law_raised.g T.law_raised.F.kp T.law_raised.b .nil pass0 (pa_cons (pv 1) (pa_cons (pv 2) (pa_cons (pv 3) (pa_cons (pv 4) (pa_cons (pe_op op_catS (pe_slice sl_list (pv 5) po_none (po_some pe_int)) (pe_lst (pa_cons (pv 6) (pa_cons pe_non pa_nil)))) pa_nil)))))) (pe_tup (pa_cons pe_str (pa_cons pe_int pa_nil))) (nomark _)) (pss_one (ps_ret pe_bl)) pss_nil)))
    (pss_one (ps_ret pe_bl)))))))))))), ?_⟩
  refine doneBD (P := fun d => d = .bool true) 5 rfl rfl ?_ iv a k
  have w1 : 1 ≤ w := hok.w1
  have w2 : w ≤ 64 := hok.w2
  have hco : countsOk cs := hok.co
  have hli : linesOk cs rs := hok.li
  have ht : t < cs.length := hok.t
  have hm1 : 1 ≤ cs.getD t 0 := hok.m
  have han : answersOk (cs.getD t 0) fs := hok.an
  have hc5 := hco.2.1
  have hr12 := hli.2.1
  let Γo : Sl → Sl → Sl → Sl → Sl → List Sl := fun s6 s7 s8 s9 s10 => [.well, .dat (.int w), .dat (.list (cs.map .int)), .dat (.list (rs.map Cr.D)), .dat (.int (t : Nat)), .dat (.list (fs.map intsT)), s6, s7, s8, s9, s10]
  show Bk K _ (Γo .any .any .any .any .any) _ _ _ _
  have hrs : ∀ {Γ : List Sl} {ta : TA} {te : TE} {ds : List PyData} {part : Str} {i : Int}, EvL' K ta Γ (· = ds) → GX ds (.inr (.str part, .int i)) → PyData.strOk part = true → EvD K te Γ (· = .int i) → EvB K (tTest (tOp (rNeD K) (tCall (spRaised K) [] E0 ta) (tTup (tCons (tC (.str part)) (tCons te tNil))))) Γ (· = false) := fun {Γ ta te ds part i} h hx hs hi => eb_neSame (n := 1) (by omega) (d := .tuple [.str part, .int i]) (okD_rows _ fun d hd => by
    simp only [List.mem_cons, List.not_mem_nil, or_false] at hd
    rcases hd with e | e <;> rw [e]
    · exact hs
    · rfl) (ev_callP ds h ⟨.inr (.str part, .int i), .inr ⟨_, rfl, hx⟩, rfl⟩) (ev_tupE [.str part, .int i] (elc ev_str (elc hi el_nil)))
  have back : ∀ {s6 s8 : Sl} {Γ0 : List Sl} {s7 s10 : Sl}, Γ0 = Γo .any s7 .any .any s10 → ∃ Γ3, L2.W (Γo s6 s7 s8 .any s10) Γ3 ∧ Γ3 = Γ0 := fun {s6 s8 Γ0 s7 s10} e => ⟨Γ0, by
    subst e
    show L2.W [_, _, _, _, _, _, _, _, _, _, _] [_, _, _, _, _, _, _, _, _, _, _]
    (repeat (first | exact L2.W.nil | refine L2.W.any ?_ | refine L2.W.eq ?_)), rfl⟩
  have hN : ∀ {Γ : List Sl}, EvD K (tC .non) Γ (· = .none) := ev_c fun _ => .non
  -- the width
  refine b_seq (b_odds (j := 6) odW rfl (ev_lstE odW (elc ev_int (elc ev_int (elc ev_bl (elc (ev_c fun _ => .non) (elc ev_str el_nil)))))) fun x hx B' C' => b_if (b := false) (hrs (ds := [x, .none, .none, .none, .none]) (elc (ev_var rfl) (elc hN (elc hN (elc hN (elc hN el_nil))))) (GX.w x _ _ _ _ (odW_bad x hx)) (by decide +kernel) (ev_neg ev_int)) (fun e => nomatch e) fun _ => b_next (back rfl)) fun Γ' e => ?_
  subst e
  -- the counts
  refine b_seq (b_odds (j := 6) odC rfl (ev_lstE odC (elc hN (elc (ev_lstE [] el_nil) (elc (ev_tupE [] el_nil) (elc ev_dnew (elc ev_int (elc (ev_repN (n := 6) (d := .int 1) (by omega) (en_lst (elc ev_int el_nil)) ev_int) el_nil))))))) fun x hx B' C' => b_if (b := false) (hrs (ds := [.int w, x, .none, .none, .none]) (elc (ev_var rfl) (elc (ev_var rfl) (elc hN (elc hN (elc hN el_nil))))) (GX.k w x _ _ _ (-1) w1 w2 (.inl ⟨rfl, seq_no 6 1 5 (by omega) (by omega) (.int 1) x hx⟩)) (by decide +kernel) (ev_neg ev_int)) (fun e => nomatch e) fun _ => b_next (back rfl)) fun Γ' e => ?_
  subst e
  have hlen : ∀ {Γ : List Sl}, Γ[2]? = some (.dat (.list (cs.map .int))) → EvD K (tCB (fun xs H Q => ∃ p ys, xs = [V.ref p] ∧ (SqL K H p ys ∨ SqT K H p ys) ∧ Q (V.int (ys.length : Nat)) H) (tCons (tVar 2) tNil)) Γ (· = .int (cs.length : Nat)) := fun h => ev_eq (ev_len (ds := cs.map .int) (el_list (ev_var h))) (by rw [List.length_map])
  have hrlen : ∀ {Γ : List Sl}, Γ[3]? = some (.dat (.list (rs.map Cr.D))) → EvD K (tCB (fun xs H Q => ∃ p ys, xs = [V.ref p] ∧ (SqL K H p ys ∨ SqT K H p ys) ∧ Q (V.int (ys.length : Nat)) H) (tCons (tVar 3) tNil)) Γ (· = .int (rs.length : Nat)) := fun h => ev_eq (ev_len (ds := rs.map Cr.D) (el_list (ev_var h))) (by rw [List.length_map])
  have h1c := hco.1
  have h1r := hli.1
  refine b_set (i := 7) (P := fun d => ∃ n : Nat, d = .int n ∧ (n : Int) < (cs.length : Nat)) (by show 7 < 11; omega) (ev_draw (i := 0) (m := (cs.length : Nat)) rfl (hlen rfl) (by omega) (by omega)) fun d ⟨n, e, hn⟩ => ?_
  subst e
  have hn : n < cs.length := by omega
  show Bk K _ (Γo .any (.dat (.int (n : Nat))) .any .any .any) _ _ _ _
  refine b_seq (b_odds (j := 6) odN rfl (ev_lstE odN (elc (ev_neg ev_int) (elc ev_int (elc ev_bl (elc hN (elc ev_str (elc (ev_lstE [.int 1] (elc ev_int el_nil)) el_nil))))))) fun x hx B' C' => ?_) fun Γ' e => ?_
  · let rest : List PyData := ([.none] : List PyData).take (cs.length - n - 1)
    let bent : List PyData := (cs.take n).map .int ++ x :: rest
    have hrl : rest.length ≤ 1 ∧ n + 1 + rest.length ≤ cs.length := by
      show (([.none] : List PyData).take (cs.length - n - 1)).length ≤ 1 ∧ n + 1 + (([.none] : List PyData).take (cs.length - n - 1)).length ≤ cs.length
      rw [List.length_take]
      show min (cs.length - n - 1) 1 ≤ 1 ∧ n + 1 + min (cs.length - n - 1) 1 ≤ cs.length
      omega
    have hcut : cutQ [x, .none] none (some ((cs.length - n : Nat) : Int)) = x :: rest := by
      show cutQ [x, .none] none (some ((cs.length - n : Nat) : Int)) = x :: ([.none] : List PyData).take (cs.length - n - 1)
      rw [cutQ_min]
      obtain ⟨m, hm⟩ : ∃ m, cs.length - n = m + 1 := ⟨cs.length - n - 1, by omega⟩
      rw [hm, Nat.add_sub_cancel]
      rfl
    refine b_set (i := 8) (P := (· = .list bent)) (by show 8 < 11; omega) (ev_eq (ev_catL (ds := (cs.take n).map .int) (es := x :: rest) (by rw [List.length_map, List.length_take, List.length_cons]; omega) (ev_eq (ev_slL (ds := cs.map .int) (lo := none) (hi := some ((n : Nat) : Int)) (ev_var rfl) eo_none (eo_some (ev_var rfl))) (by rw [cutQ_take (n := n) (by rw [List.length_map]; omega), ← List.map_take])) (ev_eq (ev_slL (ds := [x, .none]) (lo := none) (hi := some ((cs.length - n : Nat) : Int)) (ev_lstE [x, .none] (elc (ev_var rfl) (elc hN el_nil)) (by show 2 ≤ 100000; omega)) eo_none (eo_some (ev_eq (ev_opC1 (a := (cs.length : Nat)) (b := (n : Nat)) (g' := fun i j => .int (i - j)) (fun _ _ _ => .int _) (hlen rfl) (ev_var rfl)) (congrArg PyData.int (by omega))))) (congrArg PyData.list hcut))) rfl) fun d e => ?_
    subst e
    show Bk K _ (Γo (.dat x) (.dat (.int (n : Nat))) (.dat (.list bent)) .any .any) _ _ _ _
    have htl : (cs.take n).length = n := by rw [List.length_take]; omega
    exact b_if (b := false) (hrs (ds := [.int w, .list bent, .none, .none, .none]) (elc (ev_var rfl) (elc (ev_var rfl) (elc hN (elc hN (elc hN el_nil))))) (GX.k w _ _ _ _ (n : Nat) w1 w2 (.inr ⟨true, cs.take n, x, rest, rfl, by rw [htl], by rw [htl]; omega, fun c hc => hco.2.2 c (List.mem_of_mem_take hc), odN_bad x hx⟩)) (by decide +kernel) (ev_var rfl)) (fun e => nomatch e) fun _ => b_next (back rfl)
  subst e
  -- the lines
  refine b_seq (b_odds (j := 6) (odR 13) rfl (ev_lstE (odR 13) (elc hN (elc (ev_lstE [] el_nil) (elc (ev_tupE [] el_nil) (elc ev_dnew (elc ev_int (elc (ev_repN (n := 13) (d := .none) (by omega) (en_lst (elc hN el_nil)) ev_int) el_nil))))))) fun x hx B' C' => b_if (b := false) (hrs (ds := [.int w, .list (cs.map .int), x, .none, .none]) (elc (ev_var rfl) (elc (ev_var rfl) (elc (ev_var rfl) (elc hN (elc hN el_nil))))) (GX.r w true cs x _ _ (-1) w1 w2 hco (.inl ⟨rfl, seq_no 13 1 12 (by omega) (by omega) .none x hx⟩)) (by decide +kernel) (ev_neg ev_int)) (fun e => nomatch e) fun _ => b_next (back rfl)) fun Γ' e => ?_
  subst e
  refine b_w (Γ' := Γo .any .any .any .any .any) (by
    show L2.W [_, _, _, _, _, _, _, _, _, _, _] [_, _, _, _, _, _, _, _, _, _, _]
    (repeat (first | exact L2.W.nil | refine L2.W.any ?_ | refine L2.W.eq ?_))) ?_
  refine b_seq (M' := (· = Γo .any .any .any .any .any)) (b_for (I := fun _ Γ' => Γ' = Γo .any .any .any .any .any) (n := 3) (Pi := fun i d => d = .int (i : Nat)) (N := fun i Γ' d => Γ'.set 9 (.dat d)) (e0_rangeL (by omega) (elc ev_int el_nil)) rfl (fun i Γ' hi e => by subst e; exact tgb_name (by show 9 < 11; omega)) (fun i Γ' d hi e pd => ?_) fun Γ' e => e) fun Γ' e => ?_
  · subst e
    subst pd
    show Bk K _ (Γo .any .any .any (.dat (.int (i : Nat))) .any) _ _ _ _
    refine b_set (i := 7) (P := fun d => ∃ n : Nat, d = .int n ∧ (n : Int) < (rs.length : Nat)) (by show 7 < 11; omega) (ev_draw (i := 0) (m := (rs.length : Nat)) rfl (hrlen rfl) (by omega) (by omega)) fun d ⟨n, e, hn⟩ => ?_
    subst e
    have hn : n < rs.length := by omega
    obtain ⟨r, hr⟩ : ∃ r, rs[n]? = some r := ⟨_, List.getElem?_eq_getElem hn⟩
    have hg := hli.2.2 r (List.mem_of_getElem? hr)
    show Bk K _ (Γo .any (.dat (.int (n : Nat))) .any (.dat (.int (i : Nat))) .any) _ _ _ _
    let rest : List PyData := List.replicate (rs.length - n - 1) .none
    have htl : (rs.take n).length = n := by rw [List.length_take]; omega
    refine b_set (i := 8) (P := fun d => ∃ x, isBad cs x ∧ d = .list ((rs.take n).map Cr.D ++ x :: rest)) (by show 8 < 11; omega) ((ev_catLQ (Q1 := fun es => ∃ x, isBad cs x ∧ es = (rs.take n).map Cr.D ++ [x]) (es := rest) (fun es ⟨x, _, e⟩ => by rw [e, List.length_append, List.length_map, htl, List.length_replicate]; show n + 1 + (rs.length - n - 1) ≤ 100000; omega) ((ev_catLP (ds := (rs.take n).map Cr.D) (Q1 := fun es => ∃ x, isBad cs x ∧ es = [x]) (ev_eq (ev_slL (ds := rs.map Cr.D) (lo := none) (hi := some ((n : Nat) : Int)) (ev_var rfl) eo_none (eo_some (ev_var rfl))) (by rw [cutQ_take (n := n) (by rw [List.length_map]; omega), ← List.map_take])) ((ev_lst (el_cons (ev_callG (cs, r) (es_well rfl (es_cons (ev_var (d := .list (cs.map .int)) rfl) (es_cons (ev_ixL (n := n) (ds := rs.map Cr.D) (d := r.D) (ev_var rfl) (ev_var rfl) (by rw [List.getElem?_map, hr]; rfl)) es_nil))) fun sl ⟨r0, e1, d, r2, e2, e3, d', r3, e4, e5, e6⟩ => ⟨by rw [e1, e2, e3, e4, e5, e6], hco, hg⟩) el_nil) fun es ⟨d, r0, e1, _, e2⟩ => by rw [e1, e2]; show 1 ≤ 100000; omega).imp fun d ⟨es, e1, x, r0, e2, hx, e3⟩ => ⟨es, e1, x, hx, by rw [e2, e3]⟩) fun es ⟨x, _, e⟩ => by rw [e, List.length_map, htl]; show n + 1 ≤ 100000; omega).imp fun d ⟨es, e1, x, hx, e2⟩ => ⟨_, e1, x, hx, by rw [e2]⟩) (ev_repN (n := rs.length - n - 1) (d := .none) (by omega) (en_lst (elc hN el_nil)) (ev_eq (ev_opC1 (a := (rs.length : Int) - (n : Nat)) (b := 1) (g' := fun i j => .int (i - j)) (fun _ _ _ => .int _) (ev_opC1 (a := (rs.length : Nat)) (b := (n : Nat)) (g' := fun i j => .int (i - j)) (fun _ _ _ => .int _) (hrlen rfl) (ev_var rfl)) ev_int) (congrArg PyData.int (by omega))))).imp fun d ⟨es, e1, x, hx, e2⟩ => ⟨x, hx, by rw [e1, e2, List.append_assoc]; rfl⟩) fun d ⟨x, hx, e⟩ => ?_
    subst e
    refine b_if (b := false) (hrs (ds := [.int w, .list (cs.map .int), .list ((rs.take n).map Cr.D ++ x :: rest), .none, .none]) (elc (ev_var rfl) (elc (ev_var rfl) (elc (ev_var rfl) (elc hN (elc hN el_nil))))) (GX.r w true cs _ _ _ (n : Nat) w1 w2 hco (.inr ⟨true, rs.take n, x, rest, rfl, by rw [htl], by rw [htl]; show n + (List.replicate (rs.length - n - 1) PyData.none).length < 12; rw [List.length_replicate]; omega, fun r hr => hli.2.2 r (List.mem_of_mem_take hr), hx.1, hx.2⟩)) (by decide +kernel) (ev_var rfl)) (fun e => nomatch e) fun _ => b_next ⟨_, ?_, rfl⟩
    show L2.W [_, _, _, _, _, _, _, _, _, _, _] [_, _, _, _, _, _, _, _, _, _, _]
    (repeat (first | exact L2.W.nil | refine L2.W.any ?_ | refine L2.W.eq ?_))
  subst e
  -- the top
  refine b_seq (b_odds (j := 6) (odT cs.length) rfl (ev_lstE (odT cs.length) (elc (ev_neg ev_int) (elc (hlen rfl) (elc hN (elc ev_bl (elc ev_str (elc (ev_lstE [.int 0] (elc ev_int el_nil)) el_nil))))))) fun x hx B' C' => b_if (b := false) (hrs (ds := [.int w, .list (cs.map .int), .list (rs.map Cr.D), x, .none]) (elc (ev_var rfl) (elc (ev_var rfl) (elc (ev_var rfl) (elc (ev_var rfl) (elc hN el_nil))))) (GX.t w true cs true rs x _ w1 w2 hco hli (odT_bad cs x hx)) (by decide +kernel) (ev_neg ev_int)) (fun e => nomatch e) fun _ => b_next (back rfl)) fun Γ' e => ?_
  subst e
  -- the answers
  refine b_seq (b_odds (j := 6) (odR 5) rfl (ev_lstE (odR 5) (elc hN (elc (ev_lstE [] el_nil) (elc (ev_tupE [] el_nil) (elc ev_dnew (elc ev_int (elc (ev_repN (n := 5) (d := .none) (by omega) (en_lst (elc hN el_nil)) ev_int) el_nil))))))) fun x hx B' C' => b_if (b := false) (hrs (ds := [.int w, .list (cs.map .int), .list (rs.map Cr.D), .int (t : Nat), x]) (elc (ev_var rfl) (elc (ev_var rfl) (elc (ev_var rfl) (elc (ev_var rfl) (elc (ev_var rfl) el_nil))))) (GX.a w true cs true rs t x (-1) w1 w2 hco hli ht (.inl ⟨rfl, seq_no 5 1 4 (by omega) (by omega) .none x hx⟩)) (by decide +kernel) (ev_neg ev_int)) (fun e => nomatch e) fun _ => b_next (back rfl)) fun Γ' e => ?_
  subst e
  obtain ⟨c, hc⟩ : ∃ c : Nat, cs.getD t 0 = (c : Nat) := ⟨(cs.getD t 0).toNat, by omega⟩
  have hct : cs[t]? = some (cs.getD t 0) := by rw [List.getD_eq_getElem?_getD, List.getElem?_eq_getElem ht]; rfl
  have hc16 := (hco.2.2 _ (List.mem_of_getElem? hct)).2
  have hcc : 1 ≤ c ∧ c ≤ 16 := by omega
  refine b_set (i := 10) (P := (· = .int ((c + 1 : Nat) : Int))) (by show 10 < 11; omega) (ev_eq (ev_opC1 (a := (c : Nat)) (b := 1) (g' := fun i j => .int (i + j)) (fun _ _ _ => .int _) (ev_ixL (n := t) (ds := cs.map .int) (ev_var rfl) (ev_var rfl) (by rw [List.getElem?_map, hct, hc]; rfl)) ev_int) rfl) fun d e => ?_
  subst e
  show Bk K _ (Γo .any .any .any .any (.dat (.int ((c + 1 : Nat) : Int)))) _ _ _ _
  obtain ⟨f0, fr, hf⟩ : ∃ f0 fr, fs = f0 :: fr := by
    cases h : fs with
    | nil => have := han.1; rw [h] at this; exact absurd this (by show ¬ 1 ≤ 0; omega)
    | cons a b => exact ⟨a, b, rfl⟩
  have hcutF : cutQ (fs.map intsT) none (some ((1 : Nat) : Int)) = [intsT f0] := by
    rw [cutQ_take (n := 1) (by rw [List.length_map]; exact han.1), hf]
    rfl
  have hM : ∀ {Γ : List Sl}, Γ[10]? = some (.dat (.int ((c + 1 : Nat) : Int))) → EvD K (tVar 10) Γ (· = .int ((c + 1 : Nat) : Int)) := fun h => ev_var h
  refine b_seq (b_odds (j := 6) (odA c) rfl (ev_lstE (odA c) (elc hN (elc (ev_rep1 (n := c + 2) (d := .int 1) (by omega) (ev_tupE [.int 1] (elc ev_int el_nil)) (ev_eq (ev_opC1 (a := ((c + 1 : Nat) : Int)) (b := 1) (g' := fun i j => .int (i + j)) (fun _ _ _ => .int _) (ev_var rfl) ev_int) rfl)) (elc (ev_rep1 (n := c) (d := .int 1) (by omega) (ev_tupE [.int 1] (elc ev_int el_nil)) (ev_eq (ev_opC1 (a := ((c + 1 : Nat) : Int)) (b := 1) (g' := fun i j => .int (i - j)) (fun _ _ _ => .int _) (ev_var rfl) ev_int) (congrArg PyData.int (by omega)))) (elc (ev_repN (n := c + 1) (d := .int 1) (by omega) (en_lst (elc ev_int el_nil)) (ev_var rfl)) (elc (ev_rep1 (n := c + 1) (d := .bool true) (by omega) (ev_tupE [.bool true] (elc ev_bl el_nil)) (ev_var rfl)) (elc (ev_rep1 (n := c + 1) (d := .none) (by omega) (ev_tupE [.none] (elc hN el_nil)) (ev_var rfl)) el_nil)))))) (by show 6 ≤ 100000; omega)) fun x hx B' C' => ?_) fun Γ' e => ?_
  · obtain ⟨hx1, hx2⟩ := odA_bad hcc.1 (by omega) x hx
    exact b_if (b := false) (hrs (ds := [.int w, .list (cs.map .int), .list (rs.map Cr.D), .int (t : Nat), .list ([intsT f0] ++ [x, .none])]) (elc (ev_var rfl) (elc (ev_var rfl) (elc (ev_var rfl) (elc (ev_var rfl) (elc (ev_catL (ds := [intsT f0]) (es := [x, .none]) (by show 1 + 2 ≤ 100000; omega) (ev_eq (ev_slL (ds := fs.map intsT) (lo := none) (hi := some ((1 : Nat) : Int)) (ev_var rfl) eo_none (eo_some ev_int)) (congrArg PyData.list hcutF)) (ev_lstE [x, .none] (elc (ev_var rfl) (elc hN el_nil)) (by show 2 ≤ 100000; omega))) el_nil))))) (GX.a w true cs true rs t _ 1 w1 w2 hco hli ht (.inr ⟨true, [f0], x, [.none], rfl, rfl, by show 1 + 1 < 4; omega, fun f hf' => han.2.2 f (by rw [hf]; rw [List.mem_singleton.mp hf']; exact List.mem_cons_self), by rw [hc]; exact hx1, hx2, fun y hy => by rw [List.mem_singleton.mp hy]; rfl⟩)) (by decide +kernel) ev_int) (fun e => nomatch e) fun _ => b_next (back rfl)
  subst e
  exact b_ret ev_bl fun d e => ⟨d, rfl, e⟩
end
end K39

set_option Elab.async false
set_option linter.all false
set_option maxRecDepth 100000
set_option maxHeartbeats 4000000
namespace L2
open PySem PySem.Spec PyProof.Rows
open Evl (Ex)
section
variable {K : PySem.W.Frag} {Γ : List Sl} {tk : TA}
theorem DqAll.app {H : Hp} : ∀ {vs us : List V} {ds es : List PyData}, DqAll K H vs ds → DqAll K H us es → DqAll K H (vs ++ us) (ds ++ es)
  | _, _, _, _, .nil, h => h
  | _, _, _, _, .cons a b, h => .cons a (DqAll.app b h)
theorem DqAll.rev {H : Hp} : ∀ {vs : List V} {ds : List PyData}, DqAll K H vs ds → DqAll K H vs.reverse ds.reverse
  | _, _, .nil => .nil
  | _, _, .cons a b => by
    rw [List.reverse_cons, List.reverse_cons]
    exact DqAll.app (DqAll.rev b) (.cons a .nil)
theorem vals_app : ∀ {vs us : List V} {a b : List Value}, Vals vs a → Vals us b → Vals (vs ++ us) (a ++ b)
  | _, _, _, _, .nil, h => h
  | _, _, _, _, .cons x y, h => .cons x (vals_app y h)
theorem vals_rev : ∀ {vs : List V} {a : List Value}, Vals vs a → Vals vs.reverse a.reverse
  | _, _, .nil => .nil
  | _, _, .cons x y => by
    rw [List.reverse_cons, List.reverse_cons]
    exact vals_app (vals_rev y) (.cons x .nil)
/-- the keywords' values in the turned order of the parameters -/
def gRev {α : Type} (us ws : List α) : List α := us ++ ws.reverse
/-- C(k = v, ..), every parameter by keyword, in the turned order -/
theorem ev_makeR {C : Addr} {pre : List PyData → Prop} {fields : List PyData → List (Str × PyData)} {E : XK} {m : Nat} (ds : List PyData) (hm : ds.length = m) (h : EvL' K tk Γ (· = ds.reverse)) (hp : pre ds) :
    EvV K (tMakeK C 0 m (spInit K C pre fields) gRev E tNil tk) Γ (.ins C (fields ds)) := fun G σ H ev iv Q q =>
  h G σ H ev iv _ fun vs ss H1 i1 l1 ⟨es, e1, e2⟩ dqs => by
    subst e2; subst e1
    have dqs := args_dats dqs
    have hlen : ∀ {vs : List V} {ds : List PyData} {H : Hp}, DqAll K H vs ds → vs.length = ds.length := by
      intro vs
      induction vs with
      | nil => intro ds H h; cases h; rfl
      | cons v vs ih => intro ds H h; cases h with | cons a b => exact congrArg Nat.succ (ih b)
    refine ⟨rfl, by rw [hlen dqs, List.length_reverse, hm], fun x dx hx hdx hne => ?_⟩
    obtain ⟨i2, l2, _⟩ := Fr.new (o := HO.own x) i1 hdx
    have hx2 : upd H1 dx (HO.own x) x = none := by rw [upd_ne (Ne.symm hne)]; exact hx
    obtain ⟨i3, v3⟩ := Fr.own_new (G := G) (o := HO.ins C dx []) i2 hx2
    have d2 := DqAll.rev dqs
    rw [List.reverse_reverse] at d2
    refine ⟨G, x, dx, vs.reverse, ds, rfl, i3, by rw [v3]; exact d2.ex l2, hp, fun H' us i' e' f' => ⟨rfl, q (.ref x) H' i'.1 ?_ ⟨x, dx, us, rfl, i'.2, f'.ex Fr.own_sub⟩⟩⟩
    refine (l1.trans l2).trans fun c u hc => (hide_some (e' c u ?_)).2
    rw [v3]
    exact hc
/-- a def without defaults that is called by keywords alone but for self -/
theorem kb_rev {x qual : Str} {st : Stmt} {f : Addr} {fd : FuncData} {ps ks : List Str} (F : Fun K x qual st f fd)
    (h : ∀ (kV doc pm : Value) (an : Option Addr) (cdv ct : Value) (us ws : List Value), us.length = 1 → ws.length = ks.length → bindArgs (PySem.W.fnOf x qual (defArgs st) (defBody st) (defScope st) .none kV doc pm an cdv ct) ⟨us, ks.zip ws⟩ = pure (ps.zip (gRev us ws))) : KBn K fd ps 1 ks gRev gRev := by
  obtain ⟨oc, od, kV, doc, pm, an, cdv, ct, osl, rfl, lk, hcd⟩ := F.ex
  refine ⟨fun s us ws X l1 l2 => BindsTo.of_looks fun M => ?_, fun r1 r2 => vals_app r1 (vals_rev r2)⟩
  rw [h kV doc pm an cdv ct us ws l1 l2]
  exact PySem.W.Looks.of_pure rfl
end
end L2
namespace K39
open PySem PySem.Spec PyProof.Rows L2
open Evl (Ex)
theorem Gr.eq_self {g : Gr} (hg : g.ok) : Gr.eq g g = true := by
  unfold Gr.eq
  rw [(eqv_iff hg.1 hg.1).mpr rfl, (eqv_iff hg.2.1 hg.2.1).mpr rfl, (eqv_iff hg.2.2.1 hg.2.2.1).mpr rfl, (eqv_iff hg.2.2.2 hg.2.2.2).mpr rfl, (eqv_iff (n := 0) (d := .int g.w) rfl rfl).mpr rfl]
  rfl
theorem Gr.eq_iff {g h : Gr} (hg : g.ok) (hh : h.ok) : Gr.eq g h = true ↔ g = h := by
  constructor
  · intro e
    unfold Gr.eq at e
    simp only [Bool.and_eq_true] at e
    obtain ⟨e1, e2, e3, e4, e5⟩ := e
    have e1 := (eqv_iff (n := 0) rfl rfl).mp e1
    have e2 := (eqv_iff hg.1 hh.1).mp e2
    have e3 := (eqv_iff hg.2.1 hh.2.1).mp e3
    have e4 := (eqv_iff hg.2.2.1 hh.2.2.1).mp e4
    have e5 := (eqv_iff hg.2.2.2 hh.2.2.2).mp e5
    obtain ⟨w, ks, rs, t, as⟩ := g
    obtain ⟨w', ks', rs', t', as'⟩ := h
    injection e1 with e1
    injection e4 with e4
    subst e1; subst e2; subst e3; subst e4; subst e5
    rfl
  · intro e
    rw [← e]
    exact Gr.eq_self hg
theorem Gr.eq_no {g h : Gr} (hg : g.ok) (hh : h.ok) (hn : g ≠ h) : Gr.eq g h = false := by
  cases e : Gr.eq g h with
  | false => rfl
  | true => exact absurd ((Gr.eq_iff hg hh).mp e) hn
theorem Gr.ne_t {g h : Gr} (hn : g.t ≠ h.t) : g ≠ h := fun e => hn (congrArg Gr.t e)
theorem Gr.ne_ks {g h : Gr} (hn : g.ks ≠ h.ks) : g ≠ h := fun e => hn (congrArg Gr.ks e)
theorem Gr.ne_rs {g h : Gr} (hn : g.rs ≠ h.rs) : g ≠ h := fun e => hn (congrArg Gr.rs e)
theorem Gr.ne_w {g h : Gr} (hn : g.w ≠ h.w) : g ≠ h := fun e => hn (congrArg Gr.w e)
theorem Gr.ne_as {g h : Gr} (hn : g.as ≠ h.as) : g ≠ h := fun e => hn (congrArg Gr.as e)

section
variable {P : Program} {w : World} {K : PySem.W.Frag} {mg : Str → Option Value} {base : Heap}
theorem ev_fldE {te : TE} {Γ : List Sl} {C : Addr} {fs : List (Str × PyData)} {f : Str} {d : PyData} (hc : Cls K C) (hf : NoAttr K C f) (h : EvV K te Γ (.ins C fs)) (hd : fs.lookup f = some d) : EvD K (tFld K te f) Γ (· = d) := fun G σ H ev iv Q q =>
  h G σ H ev iv _ fun v H1 i1 l1 ⟨a, dx, vs, ex, h1, h2⟩ => by
    subst ex
    obtain ⟨v, hv, dv⟩ := h2.lookup hd
    exact ⟨a, C, dx, vs, v, rfl, G.sub h1, hc, hf, hv, q v d H1 i1 l1 rfl dv⟩
theorem EvN.imp {te : TE} {Γ : List Sl} {A B : List PyData → Prop} (h : EvN K te Γ A) (hp : ∀ ds, A ds → B ds) : EvN K te Γ B := fun G σ H ev iv Q q => h G σ H ev iv Q fun l vs ds H' i' e' p' => q l vs ds H' i' e' (hp ds p')
theorem modW_succ {w c : Int} (h : 1 ≤ w) : modW (c + 1) w ≠ modW c w := fun e => by
  have p : (2 : Int) ≤ 1 * 2 ^ w.toNat := by
    obtain ⟨n, hn⟩ : ∃ n, w.toNat = n + 1 := ⟨w.toNat - 1, by omega⟩
    rw [hn, Int.pow_succ]
    have : (0 : Int) < 2 ^ n := Int.pow_pos (by decide)
    omega
  unfold modW at e
  have h1 := Int.emod_eq_emod_iff_emod_sub_eq_zero.mp e
  rw [show c + 1 - c = 1 by omega, Int.emod_eq_of_lt (by decide) (by omega)] at h1
  cases h1

/-! ### Code(..) of good arguments -/
def GArgs.G (g : GArgs) : Gr := ⟨g.w, intsT g.cs, .tuple (g.rs.map (Cr.R g.w)), (g.t : Nat), fAns [seqD g.ba (g.fs.map intsT), .int (g.cs.getD g.t 0), .int g.w]⟩
theorem GArgs.fields (g : GArgs) : g.F = g.G.F := rfl
theorem redF_ints (w : Int) (f : List Int) : redF w (intsT f) = intsT (f.map (modW · w)) := by
  show PyData.tuple ((f.map PyData.int).map _) = PyData.tuple ((f.map (modW · w)).map PyData.int)
  rw [List.map_map, List.map_map]
  rfl
theorem fAns_is (b : Bool) (fs : List (List Int)) (m : PyData) (w : Int) : fAns [seqD b (fs.map intsT), m, .int w] = .tuple ((fs.map intsT).map (redF w)) := by
  show PyData.tuple (((seqOf (seqD b (fs.map intsT))).getD []).map (redF w)) = _
  rw [seqOf_seqD]
  rfl
theorem okD_sumN (n : Nat) (ts : List Tm) : okD (n + 3) (sumD ts) = true := by
  show (ts.map Tm.D).all (okD (n + 2)) = true
  rw [List.all_map]
  refine List.all_eq_true.mpr fun t _ => ?_
  show ([PyData.int t.f, intsT t.p, .int t.n].all (okD (n + 1))) = true
  rw [List.all_cons, List.all_cons, List.all_cons, okD_ints n]
  rfl
theorem okD_R (w : Int) (r : Cr) : okD 7 (r.R w) = true := by
  show ([PyData.int r.kind, intsT r.ch, .int r.num, .tuple ((r.sums.map sumD).map (redS w))].all (okD 6)) = true
  have q : okD 6 (.tuple ((r.sums.map sumD).map (redS w))) = true := by
    show ((r.sums.map sumD).map (redS w)).all (okD 5) = true
    rw [List.map_map, List.all_map]
    refine List.all_eq_true.mpr fun ts _ => ?_
    show okD 5 (redS w (sumD ts)) = true
    rw [redS_D]
    exact okD_sumN 2 _
  rw [List.all_cons, List.all_cons, List.all_cons, List.all_cons, okD_ints 5, q]
  rfl
theorem okD_Rs (w : Int) (rs : List Cr) : okD 8 (.tuple (rs.map (Cr.R w))) = true := by
  show (rs.map (Cr.R w)).all (okD 7) = true
  rw [List.all_map]
  exact List.all_eq_true.mpr fun r _ => okD_R w r
theorem okD_As (n : Nat) (fs : List (List Int)) : okD (n + 2) (.tuple (fs.map intsT)) = true := by
  show (fs.map intsT).all (okD (n + 1)) = true
  rw [List.all_map]
  exact List.all_eq_true.mpr fun f _ => okD_ints n f
theorem GArgs.okG (g : GArgs) : g.G.ok := ⟨okD_ints 7 _, okD_Rs _ _, rfl, by
  show okD 8 (fAns [seqD g.ba (g.fs.map intsT), .int (g.cs.getD g.t 0), .int g.w]) = true
  rw [fAns_is, List.map_map, show (redF g.w ∘ intsT) = (intsT ∘ fun f => f.map (modW · g.w)) from funext fun f => redF_ints g.w f, ← List.map_map]
  exact okD_As 6 _⟩
theorem R_self {w : Int} {r : Cr} (h : ∀ ts ∈ r.sums, sumSm w ts) : r.R w = r.D := by
  have e : (r.sums.map sumD).map (redS w) = r.sums.map sumD := by
    rw [List.map_map]
    refine List.map_congr_left fun ts hts => ?_
    show redS w (sumD ts) = sumD ts
    rw [redS_D]
    have := Ru.red_self (w := w) (r := ⟨"", "", [], 0, [ts]⟩) fun us hu => by rw [List.mem_singleton.mp hu]; exact h ts hts
    have e2 := congrArg Ru.sums this
    have e3 : [ts.map (·.red w)] = [ts] := e2
    rw [List.head_eq_of_cons_eq e3]
  show PyData.tuple [.int r.kind, intsT r.ch, .int r.num, .tuple ((r.sums.map sumD).map (redS w))] = _
  rw [e]
  rfl
def spGC (K : PySem.W.Frag) (C : Addr) : Sp := fun vs H Q E => ∃ g : GArgs, g.ok ∧ spInit K C (· = g.ds) (fun _ => g.F) vs H Q E
theorem ok_initC (T : TGr K mg) : FnOk P w K mg base CX0 8 T.gI T.dI ["self", "width", "counts", "rules", "top", "answers"] (spGC K T.gC) := (ok_init T).noX fun vs H Q E ⟨g, hg, G, x, dx, ws, ds, e, iv, a, hp, q⟩ =>
  ⟨G, x, dx, ws, ds, .inl g.F, e, iv, a, by rw [hp]; exact GX.g g hg, fun H' us fs i l e dq => q H' us i l (by cases e; exact dq), exr_no fun p i z => nomatch z⟩
/-- an expression that is an object of the class, one of some -/
def EvX (K : PySem.W.Frag) (te : TE) (Γ : List Sl) (C : Addr) (S : Gr → Prop) : Prop := ∀ (G : Fr) (σ : L2.St) (H : Hp), EnvOk K G H σ Γ → G.inv H → ∀ Q : VK, (∀ v H' h, G.inv H' → G.le H H' → S h → SlOk K G H' v (.ins C h.F) → Q v H') → te σ H Q
theorem ev_grX {C : Addr} {Γ : List Sl} {ta : TA} {E : XK} {S : Gr → Prop} {PL : List PyData → Prop} (h : EvL' K ta Γ PL) (hp : ∀ ds, PL ds → ∃ g : GArgs, ds = g.ds ∧ g.ok ∧ S g.G) : EvX K (tMake C (spGC K C) [] E ta) Γ C S := fun G σ H ev iv Q q =>
  h G σ H ev iv _ fun vs ss H1 i1 l1 ⟨es, e1, e2⟩ dqs x dx hx hdx hne => by
    subst e1
    obtain ⟨g, e3, hg, hS⟩ := hp es e2
    subst e3
    have dqs := args_dats dqs
    obtain ⟨i2, l2, _⟩ := Fr.new (o := HO.own x) i1 hdx
    have hx2 : upd H1 dx (HO.own x) x = none := by rw [upd_ne (Ne.symm hne)]; exact hx
    obtain ⟨i3, v3⟩ := Fr.own_new (G := G) (o := HO.ins C dx []) i2 hx2
    rw [List.append_nil]
    refine ⟨g, hg, G, x, dx, vs, g.ds, rfl, i3, by rw [v3]; exact dqs.ex l2, rfl, fun H' us i' e' f' => ⟨rfl, q (.ref x) H' g.G i'.1 ?_ hS ⟨x, dx, us, rfl, i'.2, f'.ex Fr.own_sub⟩⟩⟩
    refine (l1.trans l2).trans fun c u hc => (hide_some (e' c u ?_)).2
    rw [v3]
    exact hc
theorem EvX.one {te : TE} {Γ : List Sl} {C : Addr} {g : Gr} (h : EvX K te Γ C (· = g)) : EvV K te Γ (.ins C g.F) := fun G σ H ev iv Q q => h G σ H ev iv Q fun v H' g' i l e s => q v H' i l (by rw [← e]; exact s)
theorem ev_gr {C : Addr} {Γ : List Sl} {ta : TA} {E : XK} (g : GArgs) (hg : g.ok) (h : EvL' K ta Γ (· = g.ds)) : EvV K (tMake C (spGC K C) [] E ta) Γ (.ins C g.G.F) := (ev_grX (S := (· = g.G)) h fun ds e => ⟨g, e, hg, rfl⟩).one
theorem ev_grR {C : Addr} {Γ : List Sl} {tk : TA} {E : XK} (g : GArgs) (hg : g.ok) (h : EvL' K tk Γ (· = g.ds.reverse)) :
    EvV K (tMakeK C 0 5 (spGC K C) gRev E tNil tk) Γ (.ins C g.G.F) := fun G σ H ev iv Q q =>
  h G σ H ev iv _ fun vs ss H1 i1 l1 ⟨es, e1, e2⟩ dqs => by
    subst e2; subst e1
    have dqs := args_dats dqs
    have hlen : ∀ {vs : List V} {ds : List PyData} {H : Hp}, DqAll K H vs ds → vs.length = ds.length := by
      intro vs
      induction vs with
      | nil => intro ds H h; cases h; rfl
      | cons v vs ih => intro ds H h; cases h with | cons a b => exact congrArg Nat.succ (ih b)
    refine ⟨rfl, by rw [hlen dqs, List.length_reverse]; rfl, fun x dx hx hdx hne => ?_⟩
    obtain ⟨i2, l2, _⟩ := Fr.new (o := HO.own x) i1 hdx
    have hx2 : upd H1 dx (HO.own x) x = none := by rw [upd_ne (Ne.symm hne)]; exact hx
    obtain ⟨i3, v3⟩ := Fr.own_new (G := G) (o := HO.ins C dx []) i2 hx2
    have d2 := DqAll.rev dqs
    rw [List.reverse_reverse] at d2
    refine ⟨g, hg, G, x, dx, vs.reverse, g.ds, rfl, i3, by rw [v3]; exact d2.ex l2, rfl, fun H' us i' e' f' => ⟨rfl, q (.ref x) H' i'.1 ?_ ⟨x, dx, us, rfl, i'.2, f'.ex Fr.own_sub⟩⟩⟩
    refine (l1.trans l2).trans fun c u hc => (hide_some (e' c u ?_)).2
    rw [v3]
    exact hc
theorem kb_gr (T : TGr K mg) : KBn K T.dI ["self", "width", "counts", "rules", "top", "answers"] 1 ["answers", "top", "rules", "counts", "width"] gRev gRev := by
  refine kb_rev T.FI fun kV doc pm an cdv ct us ws l1 l2 => ?_
  match us, ws, l1, l2 with
  | [a], [b, c, d, e, f], _, _ => rfl
theorem eb_eqI {C : Addr} {Γ : List Sl} {te tb : TE} {E : XK} {g : Gr} {h : Gr} (hg : g.ok) (hh : h.ok) (h1 : EvV K te Γ (.ins C g.F)) (h2 : EvV K tb Γ (.ins C h.F)) : EvB K (tTest (tOp (rEqS K C (spEqG K C) E) te tb)) Γ (· = Gr.eq g h) := fun G σ H e iv Q q =>
  h1 G σ H e iv _ fun v H1 i1 l1 s1 => h2 G σ H1 (e.le l1) i1 _ fun v2 H2 i2 l2 s2 => by
    have s1 := s1.le l2
    obtain ⟨a, dx, vs, e1, e2, e3⟩ := id s1
    obtain ⟨b, dy, us, e4, e5, e6⟩ := id s2
    exact ⟨a, dx, vs, e1, G.sub e2, .inl ⟨b, dy, us, e4, G.sub e5⟩, G, g, .ins C h.F, i2, .cons s1 (.cons s2 .nil), hg, ⟨h, rfl, hh⟩, fun H' i' l' => ⟨_, rfl, _, rfl, q _ H' i' ((l1.trans l2).trans l') rfl⟩⟩
theorem ev_neI {C : Addr} {Γ : List Sl} {te tb : TE} {E : XK} {g : Gr} {h : Gr} (hg : g.ok) (hh : h.ok) (h1 : EvV K te Γ (.ins C g.F)) (h2 : EvV K tb Γ (.ins C h.F)) : EvD K (tOp (rNeS K C (spEqG K C) E) te tb) Γ (· = .bool (!Gr.eq g h)) := fun G σ H e iv Q q =>
  h1 G σ H e iv _ fun v H1 i1 l1 s1 => h2 G σ H1 (e.le l1) i1 _ fun v2 H2 i2 l2 s2 => by
    have s1 := s1.le l2
    obtain ⟨a, dx, vs, e1, e2, e3⟩ := id s1
    obtain ⟨b, dy, us, e4, e5, e6⟩ := id s2
    exact ⟨a, dx, vs, e1, G.sub e2, .inl ⟨b, dy, us, e4, G.sub e5⟩, G, g, .ins C h.F, i2, .cons s1 (.cons s2 .nil), hg, ⟨h, rfl, hh⟩, fun H' i' l' => ⟨_, rfl, q _ _ H' i' ((l1.trans l2).trans l') rfl (.bl _)⟩⟩
theorem eb_eqX {C : Addr} {Γ : List Sl} {te tb : TE} {E : XK} {g : Gr} {S : Gr → Prop} (hg : g.ok) (hS : ∀ h, S h → h.ok ∧ g ≠ h) (h1 : EvV K te Γ (.ins C g.F)) (h2 : EvX K tb Γ C S) : EvB K (tTest (tOp (rEqS K C (spEqG K C) E) te tb)) Γ (· = false) := fun G σ H e iv Q q =>
  h1 G σ H e iv _ fun v H1 i1 l1 s1 => h2 G σ H1 (e.le l1) i1 _ fun v2 H2 h i2 l2 hs s2 => by
    have s1 := s1.le l2
    obtain ⟨a, dx, vs, e1, e2, e3⟩ := id s1
    obtain ⟨b, dy, us, e4, e5, e6⟩ := id s2
    exact ⟨a, dx, vs, e1, G.sub e2, .inl ⟨b, dy, us, e4, G.sub e5⟩, G, g, .ins C h.F, i2, .cons s1 (.cons s2 .nil), hg, ⟨h, rfl, (hS h hs).1⟩, fun H' i' l' => ⟨_, rfl, _, rfl, q _ H' i' ((l1.trans l2).trans l') (Gr.eq_no hg (hS h hs).1 (hS h hs).2)⟩⟩

end
end K39

set_option Elab.async false
set_option linter.all false
set_option maxRecDepth 100000
set_option maxHeartbeats 4000000
namespace L2
open PySem PySem.Spec PyProof.Rows
open Evl (Ex)
section
variable {K : PySem.W.Frag} {Γ : List Sl} {te : TE} {ta : TA} {tu : TS} {i j : Nat} {M B C : List Sl → Prop} {R : Rv → Prop}
/-- owned.clear() -/
theorem b_clear {ds : List PyData} (hj : Γ[j]? = some (.olst ds)) (hm : M (Γ.set j (.olst []))) : Bk K (tDrop (tBM0 K "list" rClear (tVar j))) Γ M R B C := fun G S σ H D ev k1 k2 k3 k4 => by
  rcases ev.sl j _ hj with z | ⟨v, hv, a, vs, e1, e2, e3⟩
  · cases z
  subst e1
  have st := owns_set (o' := .lst []) ev.inv e2
  have le : Ex ((G.owns S).view H) ((G.owns (S.put a (.lst []))).view (upd H a (.lst []))) := by rw [st.2]; exact fun _ _ h => h
  refine ⟨_, hv, .inl ⟨rfl, _, SqL.of (owns_at ev.inv e2)⟩, a, vs, rfl, rfl, owns_at ev.inv e2, ?_⟩
  exact k1 σ _ _ _ le (ev.change (s' := .olst []) hj rfl hv st.1 le ⟨a, _, rfl, OS.put_same, .nil⟩ rfl rfl) hm
theorem DqFs.hideS {G : Fr} {S : OS} {H : Hp} (ok : S.ok) (iv : (G.owns S).inv H) : ∀ {vs : List (Str × V)} {fs : List (Str × PyData)}, DqFs K (G.view H) vs fs → (∀ p ∈ fs, noL p.2 = true) → DqFs K ((G.owns S).view H) vs fs
  | _, _, .nil, _ => .nil
  | _, _, .cons h t, n => .cons (h.hideS ok iv (n _ List.mem_cons_self)) (DqFs.hideS ok iv t fun p hp => n p (List.mem_cons_of_mem _ hp))
/-- an object is made of what is owned: it holds no list itself -/
theorem b_setVR {X : Addr} {fs : List (Str × PyData)} (hi : i < Γ.length) (h : EvV K te (rel Γ) (.ins X fs)) (hn : ∀ p ∈ fs, noL p.2 = true) (h2 : Bk K tu (Γ.set i (.ins X fs)) M R B C) : Bk K (tSeq (tAsg te (gName i)) tu) Γ M R B C :=
  b_seq (M' := (· = Γ.set i (.ins X fs))) (fun G S σ H D ev k1 k2 k3 k4 => h G σ H ev.out ev.inv.1 _ fun v H1 i1 l1 sv => by
    obtain ⟨a, dx, vs, e1, e2, e3⟩ := sv
    have i1' := inv_rel ev.inv i1 l1
    refine k1 _ H1 S _ (le_rel ev.inv l1) ((ev.le0 i1 l1).set (s := .ins X fs) hi rfl ⟨a, dx, vs, e1, ?_, e3.hideS ev.ok i1' hn⟩) rfl
    show hideS _ _ _ = _
    cases e : S a with
    | none => rw [hideS_none e]; exact e2
    | some u =>
      have hv := i1'.2 a _ e
      have ho := ev.ok a u e
      rw [hv] at e2
      cases e2
      cases ho) fun Γ' e => by rw [e]; exact h2
theorem ev_callPQ {pre : List PyData → PyData → Prop} {PL : List PyData → Prop} {Qd : PyData → Prop} {E : XK} (h : EvL' K ta Γ PL) (hp : ∀ ds, PL ds → ∃ d, pre ds d ∧ Qd d) : EvD K (tCall (spP K pre) [] E ta) Γ Qd := fun G σ H e i Q q =>
  h G σ H e i _ fun vs ss H1 i1 l1 ⟨es, e1, e2⟩ dqs => by
    subst e1
    obtain ⟨d, h1, h2⟩ := hp es e2
    rw [List.append_nil]
    exact ⟨G, es, d, i1, args_dats dqs, h1, fun v H' i' l' dq => q v _ H' i' (l1.trans l') h2 dq⟩
end
end L2
namespace K39
open PySem PySem.Spec PyProof.Rows L2
open Evl (Ex)
theorem lrs_of {w : Int} {cs : List Int} : ∀ (ls : List Cr) (es : List PyData), es.length = ls.length → (∀ (i : Nat) (e : PyData), es[i]? = some e → ∃ r r' : Cr, ls[i]? = some r ∧ e = Cr.D r' ∧ samR w r' r) → ∃ hs : List Cr, es = hs.map Cr.D ∧ hs.length = ls.length ∧ hs.map (Cr.R w) = ls.map (Cr.R w) ∧ ((∀ r ∈ ls, crGood cs r) → ∀ r ∈ hs, crGood cs r)
  | [], [], _, _ => ⟨[], rfl, rfl, rfl, fun _ r h => by cases h⟩
  | r :: ls, e :: es, hl, h => by
    obtain ⟨r0, r1, e1, e2, e3⟩ := h 0 e rfl
    cases e1
    obtain ⟨hs, p1, p2, p3, p4⟩ := lrs_of (cs := cs) ls es (by simpa using hl) fun i x hx => h (i + 1) x hx
    refine ⟨r1 :: hs, by rw [e2, p1]; rfl, by rw [List.length_cons, List.length_cons, p2], by rw [List.map_cons, List.map_cons, p3, e3.R], fun q x hx => ?_⟩
    rcases List.mem_cons.mp hx with z | z
    · rw [z]; exact e3.good (q r List.mem_cons_self)
    · exact p4 (fun y hy => q y (List.mem_cons_of_mem _ hy)) x z
def ts400 : List Tm := (List.range 400).map fun k => ⟨(k : Nat), [-1], -1⟩
def gq : GArgs := ⟨8, true, [1], true, [⟨0, [0], 0, [ts400]⟩], 0, true, [[0, 1]]⟩
theorem gq_ok : gq.ok := ⟨by decide, by decide, ⟨by decide, by decide, fun c hc => by rw [List.mem_singleton.mp hc]; decide⟩, ⟨by decide, by decide, fun r hr => by rw [List.mem_singleton.mp hr]; exact ⟨by decide +kernel, by decide +kernel⟩⟩, by decide, by decide, by decide, fun f hf => by rw [List.mem_singleton.mp hf]; exact ⟨by decide +kernel, by decide⟩⟩
def gt : GArgs := ⟨1, true, [16, 0], true, [⟨0, [], 0, List.replicate 16 []⟩, ⟨1, [0, 0], 2, []⟩], 1, true, List.replicate 4 [1]⟩
theorem gt_ok : gt.ok := ⟨by decide, by decide, ⟨by decide, by decide, fun c hc => by
    have hc : c ∈ [(16 : Int), 0] := hc
    simp only [List.mem_cons, List.not_mem_nil, or_false] at hc
    rcases hc with e | e <;> rw [e] <;> decide⟩, ⟨by decide, by decide, fun r hr => by
    have hr : r ∈ [(⟨0, [], 0, List.replicate 16 []⟩ : Cr), ⟨1, [0, 0], 2, []⟩] := hr
    simp only [List.mem_cons, List.not_mem_nil, or_false] at hr
    rcases hr with e | e <;> rw [e] <;> exact ⟨by decide +kernel, by decide +kernel⟩⟩, by decide, by decide, by decide, fun f hf => by rw [List.eq_of_mem_replicate hf]; exact ⟨by decide +kernel, by decide⟩⟩
theorem noL_D (r : Cr) : noL r.D = true := by
  show noLs [PyData.int r.kind, intsT r.ch, .int r.num, .tuple (r.sums.map sumD)] = true
  have q : noL (.tuple (r.sums.map sumD)) = true := noLs_all fun d hd => by obtain ⟨ts, _, rfl⟩ := List.mem_map.mp hd; exact noL_sum ts
  exact noLs_all fun d hd => by
    simp only [List.mem_cons, List.not_mem_nil, or_false] at hd
    rcases hd with e | e | e | e <;> rw [e]
    · rfl
    · exact noL_ints _
    · rfl
    · exact q
section
variable {P : Program} {w : World} {K : PySem.W.Frag} {mg : Str → Option Value} {base : Heap}
theorem eb_neI {C : Addr} {Γ : List Sl} {te tb : TE} {E : XK} {g : Gr} {h : Gr} (hg : g.ok) (hh : h.ok) (h1 : EvV K te Γ (.ins C g.F)) (h2 : EvV K tb Γ (.ins C h.F)) : EvB K (tTest (tOp (rNeS K C (spEqG K C) E) te tb)) Γ (· = !Gr.eq g h) := eb_test (ev_neI hg hh h1 h2)
abbrev s_law_right : Stmt := topS 51
abbrev N_law_right : List Str := ["_law_well", "_law_wide", "_law_sorts", "_law_forms", "_law_first", "_law_many", "_law_lines", "_law_front", "_law_asks", "_law_handed", "_law_held", "_law_built", "_law_sort", "_law_terms", "_law_top_most", "_law_line", "_law_k"]
theorem sc_law_right : FnScope N_law_right ["_law_well"] (defScope s_law_right) := ⟨rfl, rfl, rfl, by decide +kernel, rfl, by decide +kernel, by decide +kernel⟩
structure TL10 (K : PySem.W.Frag) (mg : Str → Option Value) extends TL9 K mg where
  law_right : Df K mg "_law_right" s_law_right ["_law_well"]
abbrev spRight (K : PySem.W.Frag) : L2.Sp := spF K (fun ss => ss = [.well]) (fun ss d => d = .bool true)
theorem ok_law_right (T : TL10 K mg) : FnOk P w K mg base CX0 13 T.law_right.f T.law_right.fd ["_law_well"] (spRight K) := by
  have G_init := ok_initC (P := P) (w := w) (base := base) T.toTGr
  have G_eq := ok_eq (P := P) (w := w) (base := base) T.toTQ
  have G_law_one := ok_law_one (P := P) (w := w) (base := base) T.toTL1
  have G_law_kinds := ok_law_kinds (P := P) (w := w) (base := base) T.toTL5
  have G_law_rules := ok_law_rules (P := P) (w := w) (base := base) T.toTL6
  have G_law_answers := ok_law_answers (P := P) (w := w) (base := base) T.toTL4
  have G_law_plain := ok_law_plain (P := P) (w := w) (base := base) T.toTL7
  have G_law_grown_line := ok_law_grown_line (P := P) (w := w) (base := base) T.toTL8
  have G_law_spoilt_right := ok_law_spoilt_right (P := P) (w := w) (base := base) T.toTL9
  refine T.law_right.F.ok sc_law_right (fun vs H Q E ⟨G, ss, iv, a, hp, k⟩ => a.length.trans (by rw [hp]; rfl)) (fun cdv A outer s0 H vs Q E hr ⟨G, ss, iv, a, hp, k⟩ => ?_)
  subst hp
  refine ⟨_, (pss_cons (ps_set (i := 1) sc_law_right.nd rfl (by first | exact Or.inl rfl | exact Or.inr rfl) (pe_call G_law_one (hr.mono (by decide)) rfl T.law_one.g T.law_one.F.kp T.law_one.b .nil pass0 (pa_cons (pv 0) (pa_cons (pe_lst (pa_cons pe_int (pa_cons pe_int (pa_cons pe_int (pa_cons pe_int (pa_cons pe_int pa_nil)))))) pa_nil))))
    (pss_cons (ps_set (i := 2) sc_law_right.nd rfl (by first | exact Or.inl rfl | exact Or.inr rfl) (pe_call G_law_kinds (hr.mono (by decide)) rfl T.law_kinds.g T.law_kinds.F.kp T.law_kinds.b .nil pass0 (pa_cons (pv 0) (pa_cons pe_int (pa_cons pe_int pa_nil)))))
    (pss_cons (ps_set (i := 3) sc_law_right.nd rfl (by first | exact Or.inl rfl | exact Or.inr rfl) (pe_call G_law_rules (hr.mono (by decide)) rfl T.law_rules.g T.law_rules.F.kp T.law_rules.b .nil pass0 (pa_cons (pv 0) (pa_cons (pv 1) (pa_cons (pv 2) (pa_cons pe_int pa_nil))))))
    (pss_cons (ps_set (i := 4) sc_law_right.nd rfl (by first | exact Or.inl rfl | exact Or.inr rfl) (pe_ix ix_tup (pe_call G_law_one (hr.mono (by decide)) rfl T.law_one.g T.law_one.F.kp T.law_one.b .nil pass0 (pa_cons (pv 0) (pa_cons (pv 2) pa_nil))) pe_int (fun _ _ => rfl)))
    (pss_cons (ps_asg (pe_call G_law_plain (hr.mono (by decide)) rfl T.law_plain.g T.law_plain.F.kp T.law_plain.b .nil pass0 (pa_cons (pv 2) (pa_cons (pv 3) (pa_cons (pv 4) (pa_cons (pe_call G_law_answers (hr.mono (by decide)) rfl T.law_answers.g T.law_answers.F.kp T.law_answers.b .nil pass0 (pa_cons (pv 0) (pa_cons (pv 1) (pa_cons (pv 2) (pa_cons (pv 4) pa_nil))))) pa_nil))))) (pg_tup rfl (pgs_cons (pg_name (i := 5) sc_law_right.nd rfl (by first | exact Or.inl rfl | exact Or.inr rfl)) (pgs_cons (pg_name (i := 6) sc_law_right.nd rfl (by first | exact Or.inl rfl | exact Or.inr rfl)) (pgs_cons (pg_name (i := 7) sc_law_right.nd rfl (by first | exact Or.inl rfl | exact Or.inr rfl)) (pgs_cons (pg_name (i := 8) sc_law_right.nd rfl (by first | exact Or.inl rfl | exact Or.inr rfl)) pgs_nil))))))
    (pss_cons (ps_par (i := 9) (j := 10) (by rfl) sc_law_right.nd rfl rfl (by decide) rfl rfl (pa_cons (pe_lc (own := [("_law_line", 15)]) (g := gName 15) (tt := tYes) rfl sc_law_right.nd (pi_seq (pv 6)) (blkOk_by (own := [("_law_line", 15)]) (N := N_law_right) (sc := defScope s_law_right) (by decide +kernel)) (fun _ _ _ _ _ => (pg_name (i := 15) sc_law_right.nd rfl (by first | exact Or.inl rfl | exact Or.inr rfl))) (fun _ _ _ _ _ => pts_nil) (fun _ _ _ _ _ => (pe_call G_law_grown_line (hr.mono (by decide)) rfl T.law_grown_line.g T.law_grown_line.F.kp T.law_grown_line.b .nil pass0 (pa_cons (pv 0) (pa_cons (pv 1) (pa_cons (pv 15) pa_nil)))))) (pa_cons (pe_callTy call_list_of (by rfl) T.list (by decide +kernel) (pa_cons (pv 5) pa_nil)) pa_nil)) (by rfl))
    (pss_cons (ps_set (i := 11) sc_law_right.nd rfl (by first | exact Or.inl rfl | exact Or.inr rfl) (pe_make T.mkc G_init (hr.mono (by decide)) rfl T.gm T.bI .nil pass0 (pa_cons (pv 1) (pa_cons (pv 10) (pa_cons (pv 9) (pa_cons (pv 7) (pa_cons (pv 8) pa_nil)))))))
    (pss_cons (ps_expr (pe_bm0 PySem.F.plainAttrs_list PySem.F.slot_list_clear PySem.F.type_list_clear mt_clear (pv 9)))
    (pss_cons (ps_expr (pe_bm PySem.F.plainAttrs_list PySem.F.slot_list_append PySem.F.type_list_append mt_append (pv 10) (pa_cons pe_int pa_nil)))
    (pss_cons (ps_if (pt_cmpR (op_neD hr.units) (pe_tup (pa_cons (pe_fld (pv 11) rfl) (pa_cons (pe_fld (pv 11) rfl) (pa_cons (pe_fld (pv 11) rfl) (pa_cons (pe_fld (pv 11) rfl) pa_nil))))) (pe_tup (pa_cons (pv 1) (pa_cons (pe_tupleOf (by rfl) T.tuple (pv 5)) (pa_cons (pe_tupleOf (by rfl) T.tuple (pv 6)) (pa_cons (pv 7) pa_nil))))) (nomark _)) (pss_one (ps_ret pe_bl)) pss_nil)
    (pss_cons (ps_if (pt_cmpR (op_neD hr.units) (pe_fld (pv 11) rfl) (pe_tupleOf (by rfl) T.tuple (pv 8)) (nomark _)) (pss_one (ps_ret pe_bl)) pss_nil)
    (pss_cons (ps_if (pt_cmpR (op_neS G_eq T.eqc T.bE pass0 (hr.mono (by decide))) (pv 11) (pe_makeK0 (gV := gRev) T.mkc G_init (hr.mono (by decide)) rfl T.gm (kb_gr T.toTGr) pass0 (pk_cons (pe_tupleOf (by rfl) T.tuple (pv 8)) (pk_cons (pv 7) (pk_cons (pe_tupleOf (by rfl) T.tuple (pv 6)) (pk_cons (pv 5) (pk_cons (pv 1) pk_nil)))))) (nomark _)) (pss_one (ps_ret pe_bl)) pss_nil)
    (pss_cons (ps_if (pt_cmpR (op_eqS G_eq T.eqc T.bE pass0 (hr.mono (by decide))) (pv 11) (pe_make T.mkc G_init (hr.mono (by decide)) rfl T.gm T.bI .nil pass0 (pa_cons (pv 1) (pa_cons (pv 5) (pa_cons (pv 6) (pa_cons (pv 7) (pa_cons (pe_op op_catS (pe_lst (pa_cons (pe_op op_catA (pe_tup (pa_cons (pe_op op_add (pe_ix ix_tup (pe_ix ix_list (pv 8) pe_int (fun _ _ => rfl)) pe_int (fun _ _ => rfl)) pe_int) pa_nil)) (pe_slice sl_tupA (pe_ix ix_list (pv 8) pe_int (fun _ _ => rfl)) (po_some pe_int) po_none)) pa_nil)) (pe_slice sl_list (pv 8) (po_some pe_int) po_none)) pa_nil)))))) (nomark _)) (pss_one (ps_ret pe_bl)) pss_nil)
    (pss_cons (ps_if (PW.pt (pw_and (pt_cmpR op_lt (pe_callB call_len_seq (by rfl) T.len (by decide +kernel) (pa_cons (pv 6) pa_nil)) pe_int (nomark _)) (pw_and1 (pt_cmpR (op_eqS G_eq T.eqc T.bE pass0 (hr.mono (by decide))) (pv 11) (pe_make T.mkc G_init (hr.mono (by decide)) rfl T.gm T.bI .nil pass0 (pa_cons (pv 1) (pa_cons (pv 5) (pa_cons (pe_op op_catS (pv 6) (pe_slice sl_list (pv 6) po_none (po_some pe_int))) (pa_cons (pv 7) (pa_cons (pv 8) pa_nil)))))) (nomark _))))) (pss_one (ps_ret pe_bl)) pss_nil)
    (pss_cons (ps_for PassesOwn.never rfl (pi_range1 rfl T.range (pa_cons (pe_callB call_len_seq (by rfl) T.len (by decide +kernel) (pa_cons (pv 5) pa_nil)) pa_nil)) (pg_name (i := 12) sc_law_right.nd rfl (by first | exact Or.inl rfl | exact Or.inr rfl))
      (pss_one (ps_if (PW.pt (pw_and (pt_cmpR op_ne (pv 12) (pv 7) (nomark _)) (pw_and (pt_cmpR op_eq (pe_ix ix_list (pv 5) (pv 12) (fun _ _ => rfl)) (pe_ix ix_list (pv 5) (pv 7) (fun _ _ => rfl)) (nomark _)) (pw_and1 (pt_cmpR (op_eqS G_eq T.eqc T.bE pass0 (hr.mono (by decide))) (pv 11) (pe_make T.mkc G_init (hr.mono (by decide)) rfl T.gm T.bI .nil pass0 (pa_cons (pv 1) (pa_cons (pv 5) (pa_cons (pv 6) (pa_cons (pv 12) (pa_cons (pv 8) pa_nil)))))) (nomark _)))))) (pss_one (ps_ret pe_bl)) pss_nil)))
    (pss_cons (ps_if (PW.pt (pw_and (pt_cmpR op_lt (pv 1) pe_int (nomark _)) (pw_and1 (pt_cmpR (op_eqS G_eq T.eqc T.bE pass0 (hr.mono (by decide))) (pv 11) (pe_make T.mkc G_init (hr.mono (by decide)) rfl T.gm T.bI .nil pass0 (pa_cons (pe_op op_add (pv 1) pe_int) (pa_cons (pv 5) (pa_cons (pv 6) (pa_cons (pv 7) (pa_cons (pv 8) pa_nil)))))) (nomark _))))) (pss_one (ps_ret pe_bl)) pss_nil)
    (pss_cons (ps_if (pt_not (pt_val (pe_call G_law_spoilt_right (hr.mono (by decide)) rfl T.law_spoilt_right.g T.law_spoilt_right.F.kp T.law_spoilt_right.b .nil pass0 (pa_cons (pv 0) (pa_cons (pv 1) (pa_cons (pv 5) (pa_cons (pv 6) (pa_cons (pv 7) (pa_cons (pv 8) pa_nil))))))))) (pss_one (ps_ret pe_bl)) pss_nil)
    (pss_cons (ps_set (i := 13) sc_law_right.nd rfl (by first | exact Or.inl rfl | exact Or.inr rfl) (pe_tupleOf (by rfl) T.tuple (pe_lc (own := [("_law_k", 16)]) (g := gName 16) (tt := tYes) rfl sc_law_right.nd (pi_range1 rfl T.range (pa_cons pe_int pa_nil)) (blkOk_by (own := [("_law_k", 16)]) (N := N_law_right) (sc := defScope s_law_right) (by decide +kernel)) (fun _ _ _ _ _ => (pg_name (i := 16) sc_law_right.nd rfl (by first | exact Or.inl rfl | exact Or.inr rfl))) (fun _ _ _ _ _ => pts_nil) (fun _ _ _ _ _ => (pe_tup (pa_cons (pv 16) (pa_cons (pe_tup (pa_cons (pe_un un_neg pe_int) pa_nil)) (pa_cons (pe_un un_neg pe_int) pa_nil))))))))
    (pss_cons (ps_if (pt_cmpR op_ne (pe_callB call_len_seq (by rfl) T.len (by decide +kernel) (pa_cons (pe_ix ix_tup (pe_ix ix_tup (pe_ix ix_tup (pe_fld (pe_make T.mkc G_init (hr.mono (by decide)) rfl T.gm T.bI .nil pass0 (pa_cons pe_int (pa_cons (pe_lst (pa_cons pe_int pa_nil)) (pa_cons (pe_lst (pa_cons (pe_tup (pa_cons pe_int (pa_cons (pe_tup (pa_cons pe_int pa_nil)) (pa_cons pe_int (pa_cons (pe_tup (pa_cons (pv 13) pa_nil)) pa_nil))))) pa_nil)) (pa_cons pe_int (pa_cons (pe_lst (pa_cons (pe_tup (pa_cons pe_int (pa_cons pe_int pa_nil))) pa_nil)) pa_nil)))))) rfl) pe_int (fun _ _ => rfl)) pe_int (fun _ _ => rfl)) pe_int (fun _ _ => rfl)) pa_nil)) pe_int (nomark _)) (pss_one (ps_ret pe_bl)) pss_nil)
    (pss_cons (ps_set (i := 14) sc_law_right.nd rfl (by first | exact Or.inl rfl | exact Or.inr rfl) (pe_make T.mkc G_init (hr.mono (by decide)) rfl T.gm T.bI .nil pass0 (pa_cons pe_int (pa_cons (pe_lst (pa_cons pe_int (pa_cons pe_int pa_nil))) (pa_cons (pe_lst (pa_cons (pe_tup (pa_cons pe_int (pa_cons (pe_tup pa_nil) (pa_cons pe_int (pa_cons (pe_op op_repA (pe_tup (pa_cons (pe_tup pa_nil) pa_nil)) pe_int) pa_nil))))) (pa_cons (pe_tup (pa_cons pe_int (pa_cons (pe_tup (pa_cons pe_int (pa_cons pe_int pa_nil))) (pa_cons pe_int (pa_cons (pe_tup pa_nil) pa_nil))))) pa_nil))) (pa_cons pe_int (pa_cons (pe_op op_rep (pe_lst (pa_cons (pe_tup (pa_cons pe_int pa_nil)) pa_nil)) pe_int) pa_nil)))))))
    (pss_one (ps_ret (pe_cmpR (op_eqD hr.units) (pe_fld (pv 14) rfl) (pe_tup (pa_cons pe_int (pa_cons pe_int pa_nil))) (nomark _)))))))))))))))))))))))), ?_⟩
  obtain ⟨v, rfl⟩ : ∃ v, vs = [v] := by
    have := a.length
    match vs, this with
    | [v], _ => exact ⟨v, rfl⟩
  refine doneBD (P := (· = .bool true)) 16 rfl rfl ?_ iv a fun v d H' i' l' p' dq => k v d H' i' l' p' dq
  refine b_set (i := 1) (P := fun d => ∃ w : Int, d = .int w ∧ 1 ≤ w ∧ w ≤ 64) (by show 1 < 17; omega) ((ev_one rfl (ev_lstE [.int 1, .int 2, .int 8, .int 63, .int 64] (elc ev_int (elc ev_int (elc ev_int (elc ev_int (elc ev_int el_nil)))))) (by decide) (by decide)).imp fun d hd => ?_) fun d ⟨w, e, w1, w2⟩ => ?_
  · simp only [List.mem_cons, List.mem_nil_iff, or_false] at hd
    rcases hd with e | e | e | e | e <;> exact ⟨_, e, by decide, by decide⟩
  subst e
  refine b_set (i := 2) (P := fun d => ∃ ks : List Kd, d = .list (ks.map Kd.D) ∧ kindsGood ks) (by show 2 < 17; omega) ((ev_call (es_well rfl (es_cons ev_int (es_cons ev_int es_nil))) fun ss h => ?_).imp fun d h => ?_) fun d ⟨ks, e, hk⟩ => ?_
  · obtain ⟨r, e1, d, r2, e2, e3, d', r3, e4, e5, e6⟩ := h
    rw [e1, e2, e3, e4, e5, e6]
  · obtain ⟨ss, _, ks, h1, h2⟩ := h
    exact ⟨ks, h1, h2.1⟩
  subst e
  refine b_set (i := 3) (P := fun d => ∃ rs : List Ru, d = .list (rs.map Ru.D) ∧ rulesGood w ks rs) (by show 3 < 17; omega) ((ev_call (es_well rfl (es_cons (ev_var (d := .int w) rfl) (es_cons (ev_var (d := .list (ks.map Kd.D)) rfl) (es_cons ev_int es_nil)))) fun ss h => ?_).imp fun d h => ?_) fun d ⟨rs, e, hrs⟩ => ?_
  · obtain ⟨r, e1, d, r2, e2, e3, d', r3, e4, e5, d2, r4, e6, e7, e8⟩ := h
    exact ⟨w, ks, by rw [e1, e2, e3, e4, e5, e6, e7, e8], by omega, w2, hk⟩
  · obtain ⟨ss, ⟨r, e1, d, r2, e2, e3, d', r3, e4, e5, d2, r4, e6, e7, e8⟩, h⟩ := h
    exact h w ks (by rw [e1, e2, e3, e4, e5, e6, e7, e8])
  subst e
  have hko := hk.ok
  have hone : ∀ {Γ : List Sl}, Γ[0]? = some .well → Γ[2]? = some (.dat (.list (ks.map Kd.D))) → EvD K (tOp (rIxT K) (tCall (spOne K) [] E0 (tCons (tVar 0) (tCons (tVar 2) tNil))) (tC (.int 0))) Γ (fun d => ∃ k : Kd, k ∈ ks ∧ d = .str k.name) := fun h0 h2 => ev_ixTP (Q := fun k => k ∈ ks) (f := Kd.D) (g := fun k => .str k.name) (h' := fun k => [.tuple (k.attrs.map .str)]) (fun _ => rfl) ((ev_one (ds := ks.map Kd.D) h0 (ev_var h2) (by rw [List.length_map]; exact hko.1) (by rw [List.length_map]; have := hko.2.1; omega)).imp fun d hd => by
    obtain ⟨k, h1, h2⟩ := List.mem_map.mp hd
    exact ⟨k, h1, h2.symm⟩)
  refine b_set (i := 4) (P := fun d => ∃ k : Kd, k ∈ ks ∧ d = .str k.name) (by show 4 < 17; omega) (hone rfl rfl) fun d ⟨k0, hk0, e⟩ => ?_
  subst e
  have hk3 : 1 ≤ k0.attrs.length ∧ k0.attrs.length ≤ 3 := by
    obtain ⟨i, hi⟩ := List.getElem?_of_mem hk0
    exact (hk.2.2 i k0 hi).ok.2.2.2.2
  refine b_asg (P := fun d => ∃ fs : List (List Int), d = plainD ks rs k0 fs ∧ ansGood w (k0.attrs.length : Nat) fs) (ev_callPQ (el_cons (ev_var (d := .list (ks.map Kd.D)) rfl) (el_cons (ev_var (d := .list (rs.map Ru.D)) rfl) (el_cons (ev_var (d := .str k0.name) rfl) (el_cons (P := fun d => ∃ fs : List (List Int), d = .list (fs.map intsT) ∧ ansGood w (k0.attrs.length : Nat) fs) ((ev_call (es_well rfl (es_cons (ev_var (d := .int w) rfl) (es_cons (ev_var (d := .list (ks.map Kd.D)) rfl) (es_cons (ev_var (d := .str k0.name) rfl) es_nil)))) fun ss h => ?_).imp fun d h => ?_) el_nil)))) fun ds ⟨d1, r1, a1, b1, d2, r2, a2, b2, d3, r3, a3, b3, d4, r4, a4, ⟨fs, b4, hfs⟩, e⟩ => ⟨plainD ks rs k0 fs, ⟨w, ks, rs, k0, fs, by rw [a1, b1, a2, b2, a3, b3, a4, b4, e], hk, hrs, hk0, by have := hfs.2.1; omega, rfl⟩, fs, rfl, hfs⟩) ((tgb_tup [5, 6, 7, 8] (by intro j hj; simp at hj; show j < 17; omega)).impP fun d ⟨_, e, _⟩ => ⟨_, e, rfl⟩) fun d ⟨fs, e, hfs⟩ => ?_
  · obtain ⟨r, e1, d, r2, e2, e3, d', r3, e4, e5, d2, r4, e6, e7, e8⟩ := h
    exact ⟨w, ks, k0, by rw [e1, e2, e3, e4, e5, e6, e7, e8], by omega, w2, hko.2.2.1, hk0, hk3.2⟩
  · obtain ⟨ss, ⟨r, e1, d, r2, e2, e3, d', r3, e4, e5, d2, r4, e6, e7, e8⟩, h⟩ := h
    obtain ⟨fs, k', h1, h2, h3, h4⟩ := h w ks k0 (by rw [e1, e2, e3, e4, e5, e6, e7, e8])
    have hl1 := (find_kd hko.2.2.1 h1).2
    have hl2 := (find_kd hko.2.2.1 hk0).2
    rw [h2, hl2] at hl1
    injection hl1 with hl1
    injection hl1 with hl1
    rw [← hl1] at h4
    exact ⟨fs, h3, h4⟩
  subst e
  obtain ⟨cs, hcs⟩ : ∃ cs, cs = cnts ks := ⟨_, rfl⟩
  obtain ⟨ls, hls⟩ : ∃ ls, ls = rs.map (Ru.C ks) := ⟨_, rfl⟩
  obtain ⟨t, htt⟩ : ∃ t, t = kix ks k0.name := ⟨_, rfl⟩
  let Γ0 : Sl → Sl → Sl → Sl → Sl → Sl → List Sl := fun s9 s10 s11 s12 s13 s14 => [.well, .dat (.int w), .any, .any, .any, .dat (.list (cs.map .int)), .dat (.list (ls.map Cr.D)), .dat (.int (t : Nat)), .dat (.list (fs.map intsT)), s9, s10, s11, s12, s13, s14, .any, .any]
  refine b_w (Γ' := Γ0 .any .any .any .any .any .any) (by
    subst hcs
    subst hls
    subst htt
    show L2.W [_, _, _, _, _, _, _, _, _, _, _, _, _, _, _, _, _] [_, _, _, _, _, _, _, _, _, _, _, _, _, _, _, _, _]
    (repeat (first | exact L2.W.nil | refine L2.W.eq ?_ | refine L2.W.any ?_))) ?_
  have hco : countsOk cs := by rw [hcs]; exact cnts_ok hk
  have hli : linesOk cs ls := by rw [hcs, hls]; exact lines_ok hk hrs
  obtain ⟨ht, hct⟩ := kix_at hko.2.2.1 hk0
  have ht : t < cs.length := by rw [hcs, htt]; unfold cnts; rw [List.length_map]; exact ht
  have hct : cs.getD t 0 = (k0.attrs.length : Nat) := by rw [hcs, htt]; exact hct
  have han : answersOk (cs.getD t 0) fs := by rw [hct]; exact hfs.ok (by omega)
  have hRs : ls.map (Cr.R w) = ls.map Cr.D := List.map_congr_left fun r hr => by
    rw [hls] at hr
    obtain ⟨x, hx, rfl⟩ := List.mem_map.mp hr
    exact R_self (hrs.at hx).1.2.2.1
  have hAs := hfs.red
  have hfl : ∀ f ∈ fs, (f.length : Int) = (k0.attrs.length : Nat) + 1 := fun f hf => (hfs.2.2 f hf).1
  have hc5 := hco.2.1
  have hl12 := hli.2.1
  have hf4 := hfs.2.1
  clear hcs hls htt
  -- what is handed in
  refine b_par (i := 9) (j := 10) (by show 9 < 17; omega) (by show 10 < 17; omega) (et_new (PN := fun es => ∃ hs : List Cr, es = hs.map Cr.D ∧ hs.length = ls.length ∧ hs.map (Cr.R w) = ls.map (Cr.R w) ∧ ∀ r ∈ hs, crGood cs r) ?_ (et_new (PN := (· = cs.map .int)) ?_ et_nil)) fun ss ⟨s1, r1, a1, ⟨es, b1, hs, e, hl, hR, hg⟩, s2, r2, a2, ⟨es2, b2, e2⟩, a3⟩ => ?_
  · refine EvN.imp (en_lc (Nn := (· = (ls.map Cr.D).length)) (Pi := fun i d => (ls.map Cr.D)[i]? = some d) (R := fun i d e => ∃ r r' : Cr, ls[i]? = some r ∧ e = r'.D ∧ samR w r' r) (fun n e => by rw [e, List.length_map]; omega) (ei_seq (el_list (ev_var rfl))) (fun i => tg_name (by show 15 < 17; omega)) fun i d pd => ?_) fun es ⟨h1, h2⟩ => ?_
    · rw [List.getElem?_map] at pd
      obtain ⟨r, hr', rfl⟩ := Option.map_eq_some_iff.mp pd
      have hgr := hli.2.2 r (List.mem_of_getElem? hr')
      exact (ev_callG (w, cs, r) (es_well rfl (es_cons (ev_var (d := .int w) rfl) (es_cons (ev_var (d := r.D) rfl) es_nil))) fun sl ⟨r0, e1, d, r2, e2, e3, d', r3, e4, e5, e6⟩ => ⟨by rw [e1, e2, e3, e4, e5, e6], by show 0 ≤ w; omega, w2, hgr⟩).imp fun d ⟨r', e1, e2⟩ => ⟨r, r', hr', e1, e2⟩
    · obtain ⟨hs, p1, p2, p3, p4⟩ := lrs_of (w := w) (cs := cs) ls es (by rw [h1, List.length_map]) fun i e he => by
        obtain ⟨_, _, h⟩ := h2 i e he
        exact h
      exact ⟨hs, p1, p2, p3, p4 hli.2.2⟩
  · exact en_listOf (el1L (ev_var rfl))
  subst e
  subst e2
  refine ⟨s1, s2, by rw [a1, a2, a3], ?_⟩
  subst b1
  subst b2
  let g0 : GArgs := ⟨w, true, cs, true, hs, t, true, fs⟩
  let gl : Gr := ⟨w, intsT cs, .tuple (ls.map Cr.D), (t : Nat), .tuple (fs.map intsT)⟩
  have hg0 : g0.ok := ⟨w1, w2, hco, ⟨by show 1 ≤ hs.length; have := hli.1; omega, by show hs.length ≤ 12; omega, hg⟩, ht, han⟩
  have eG : g0.G = gl := by
    show (⟨w, intsT cs, .tuple (hs.map (Cr.R w)), (t : Nat), fAns [seqD true (fs.map intsT), .int (cs.getD t 0), .int w]⟩ : Gr) = _
    rw [fAns_is, hR, hRs, hAs]
  have hGl : gl.ok := by rw [← eG]; exact g0.okG
  refine b_setVR (X := T.gC) (fs := gl.F) (i := 11) (by show 11 < 17; omega) (by
    rw [← eG]
    refine ev_gr g0 hg0 ?_
    show EvL' K _ _ (· = [.int w, .list (cs.map .int), .list (hs.map Cr.D), .int (t : Nat), .list (fs.map intsT)])
    exact elc (ev_var rfl) (elc (ev_var rfl) (elc (ev_var rfl) (elc (ev_var rfl) (elc (ev_var rfl) el_nil))))) (fun p hp => ?_) ?_
  · have hp : p ∈ [(("width" : Str), PyData.int w), ("counts", intsT cs), ("rules", .tuple (ls.map Cr.D)), ("top", .int (t : Nat)), ("answers", .tuple (fs.map intsT))] := hp
    simp only [List.mem_cons, List.not_mem_nil, or_false] at hp
    rcases hp with e | e | e | e | e <;> rw [e]
    · rfl
    · exact noL_ints _
    · exact noLs_all fun d hd => by obtain ⟨r, _, rfl⟩ := List.mem_map.mp hd; exact noL_D r
    · rfl
    · exact noLs_all fun d hd => by obtain ⟨r, _, rfl⟩ := List.mem_map.mp hd; exact noL_ints r
  refine b_seq (M' := (· = Γ0 (.olst []) (.olst (cs.map .int)) (.ins T.gC gl.F) .any .any .any)) (b_clear (j := 9) (ds := hs.map Cr.D) rfl rfl) fun Γ' e => ?_
  subst e
  refine b_seq (M' := (· = Γ0 (.olst []) (.olst (cs.map .int ++ [.int 9])) (.ins T.gC gl.F) .any .any .any)) (b_app (j := 10) (P := (· = .int 9)) (ds := cs.map .int) rfl (by rw [List.length_map]; omega) ev_int fun e he => by rw [he]; rfl) fun Γ' e => ?_
  subst e
  let Γr : Sl → Sl → Sl → List Sl := fun s12 s13 s14 => Γ0 .any .any (.ins T.gC gl.F) s12 s13 s14
  refine b_w (Γ' := Γr .any .any .any) (by
    show L2.W [_, _, _, _, _, _, _, _, _, _, _, _, _, _, _, _, _] [_, _, _, _, _, _, _, _, _, _, _, _, _, _, _, _, _]
    (repeat (first | exact L2.W.nil | refine L2.W.any ?_ | refine L2.W.eq ?_))) ?_
  have lW : gl.F.lookup ("width" : Str) = some (.int w) := rfl
  have lC : gl.F.lookup ("counts" : Str) = some (intsT cs) := rfl
  have lR : gl.F.lookup ("rules" : Str) = some (.tuple (ls.map Cr.D)) := rfl
  have lT : gl.F.lookup ("top" : Str) = some (.int (t : Nat)) := rfl
  have lA : gl.F.lookup ("answers" : Str) = some (.tuple (fs.map intsT)) := rfl
  have oC : okD 8 (intsT cs) = true := hGl.1
  have oR : okD 8 (.tuple (ls.map Cr.D)) = true := hGl.2.1
  have oA : okD 8 (.tuple (fs.map intsT)) = true := hGl.2.2.2
  have hne : ∀ {Γ : List Sl} {ta : TA} (g : GArgs), g.ok → gl ≠ g.G → Γ[11]? = some (.ins T.gC gl.F) → EvL' K ta Γ (· = g.ds) → EvB K (tTest (tOp (rEqS K T.gC (spEqG K T.gC) E0) (tVar 11) (tMake T.gC (spGC K T.gC) [] E0 ta))) Γ (· = false) := fun {Γ ta} g hg hn h1 h => (eb_eqI hGl g.okG (ev_varV nofun h1) (ev_gr g hg h)).imp fun b e => by rw [e, Gr.eq_no hGl g.okG hn]
  -- what it tells
  refine b_seq (M' := (· = Γr .any .any .any)) (b_if (b := false) (eb_neSame (n := 9) (d := .tuple [.int w, intsT cs, .tuple (ls.map Cr.D), .int (t : Nat)]) (by decide) ?_ (ev_tupE [.int w, intsT cs, .tuple (ls.map Cr.D), .int (t : Nat)] (elc (ev_fld T.cl T.nW rfl lW) (elc (ev_fld T.cl T.nC rfl lC) (elc (ev_fld T.cl T.nR rfl lR) (elc (ev_fld T.cl T.nT rfl lT) el_nil)))))
    (ev_tupE [.int w, intsT cs, .tuple (ls.map Cr.D), .int (t : Nat)] (elc (ev_var rfl) (elc (ev_tupleOf (ds := cs.map .int) (el_list (ev_var rfl))) (elc (ev_tupleOf (el_list (ev_var rfl))) (elc (ev_var rfl) el_nil)))))) (fun e => nomatch e) fun _ => b_next rfl) fun Γ' e => ?_
  · show ([PyData.int w, intsT cs, .tuple (ls.map Cr.D), .int (t : Nat)].all (okD 8)) = true
    rw [List.all_cons, List.all_cons, List.all_cons, List.all_cons, oC, oR]
    rfl
  subst e
  refine b_seq (M' := (· = Γr .any .any .any)) (b_if (b := false) (eb_neSame (n := 8) (d := .tuple (fs.map intsT)) (by decide) oA (ev_fld T.cl T.nA rfl lA) (ev_tupleOf (el_list (ev_var rfl)))) (fun e => nomatch e) fun _ => b_next rfl) fun Γ' e => ?_
  subst e
  -- by names
  let gk : GArgs := ⟨w, true, cs, false, ls, t, false, fs⟩
  have hgk : gk.ok := ⟨w1, w2, hco, hli, ht, han⟩
  have eGk : gk.G = gl := by
    show (⟨w, intsT cs, .tuple (ls.map (Cr.R w)), (t : Nat), fAns [seqD false (fs.map intsT), .int (cs.getD t 0), .int w]⟩ : Gr) = _
    rw [fAns_is, hRs, hAs]
  refine b_seq (M' := (· = Γr .any .any .any)) (b_if (b := !Gr.eq gl gk.G) (eb_neI hGl gk.okG (ev_varV nofun rfl) (ev_grR gk hgk (by
    show EvL' K _ _ (· = [.tuple (fs.map intsT), .int (t : Nat), .tuple (ls.map Cr.D), .list (cs.map .int), .int w])
    exact elc (ev_tupleOf (el_list (ev_var rfl))) (elc (ev_var rfl) (elc (ev_tupleOf (el_list (ev_var rfl))) (elc (ev_var rfl) (elc (ev_var rfl) el_nil))))))) (fun e => by rw [eGk, Gr.eq_self hGl] at e; cases e) fun _ => b_next rfl) fun Γ' e => ?_
  subst e
  -- another answer
  obtain ⟨c, cr, ftl, hfe⟩ : ∃ c cr ftl, fs = (c :: cr) :: ftl := by
    match fs, hfs.1, hfl with
    | [] :: _, _, h => have := h [] List.mem_cons_self; exact absurd this (by show ¬ ((0 : Int) = _); omega)
    | (c :: cs) :: ftl, _, _ => exact ⟨c, cs, ftl, rfl⟩
  have hfl' : ∀ f ∈ ((c + 1) :: cr) :: ftl, (f.length : Int) = (k0.attrs.length : Nat) + 1 := fun f hf => by
    rcases List.mem_cons.mp hf with z | z
    · have := hfl (c :: cr) (by rw [hfe]; exact List.mem_cons_self)
      rw [z]
      rw [List.length_cons] at this ⊢
      exact this
    · exact hfl f (by rw [hfe]; exact List.mem_cons_of_mem _ z)
  have hfn := hfs.2.1
  rw [hfe, List.length_cons] at hfn
  let ga : GArgs := ⟨w, true, cs, true, ls, t, true, ((c + 1) :: cr) :: ftl⟩
  have hga : ga.ok := ⟨w1, w2, hco, hli, ht, by
    show answersOk (cs.getD t 0) (((c + 1) :: cr) :: ftl)
    rw [hct]
    exact ansOk_of (by show 1 ≤ ftl.length + 1; omega) (by show ftl.length + 1 ≤ 4; omega) (by omega) hfl'⟩
  have hnea : gl ≠ ga.G := Gr.ne_as (by
    intro z
    have z : PyData.tuple (fs.map intsT) = fAns [seqD true ((((c + 1) :: cr) :: ftl).map intsT), .int (cs.getD t 0), .int w] := z
    rw [fAns_is, ← hAs] at z
    have z := PyData.tuple.inj z
    rw [hfe, List.map_cons, List.map_cons, List.map_cons, List.map_cons, redF_ints, redF_ints] at z
    injection z with z _
    have z := PyData.tuple.inj z
    rw [List.map_cons, List.map_cons, List.map_cons, List.map_cons] at z
    injection z with z _
    exact modW_succ w1 (PyData.int.inj z).symm)
  have hf0 : (fs.map intsT)[0]? = some (intsT (c :: cr)) := by rw [hfe]; rfl
  have hc1 : (cr.length : Int) ≤ 3 := by
    have := hfl (c :: cr) (by rw [hfe]; exact List.mem_cons_self)
    rw [List.length_cons] at this
    omega
  have ec : cutQ ((c :: cr).map PyData.int) (some 1) none = cr.map PyData.int := (cutQ_drop (n := 1) (by rw [List.length_map, List.length_cons]; omega)).trans rfl
  have ef : cutQ (fs.map intsT) (some 1) none = ftl.map intsT := by
    rw [hfe]
    exact (cutQ_drop (n := 1) (by rw [List.length_map, List.length_cons]; omega)).trans rfl
  refine b_seq (M' := (· = Γr .any .any .any)) (b_if (b := false) (hne ga hga hnea rfl (by
    show EvL' K _ _ (· = [.int w, .list (cs.map .int), .list (ls.map Cr.D), .int (t : Nat), .list ((((c + 1) :: cr) :: ftl).map intsT)])
    exact elc (ev_var rfl) (elc (ev_var rfl) (elc (ev_var rfl) (elc (ev_var rfl) (elc (ev_eq (ev_catL (ds := [intsT ((c + 1) :: cr)]) (by rw [ef, List.length_map]; show 1 + _ ≤ _; omega) (ev_lstE [intsT ((c + 1) :: cr)] (elc (ev_eq (ev_catT (by rw [ec, List.length_map]; show 1 + _ ≤ _; omega) (ev_tupE [.int (c + 1)] (elc (ev_opC1 (g' := fun i j => .int (i + j)) (fun _ _ _ => .int _) (ev_ixT (n := 0) (ev_ixL (n := 0) (ev_var (d := .list (fs.map intsT)) rfl) ev_int hf0) ev_int rfl) ev_int) el_nil)) (ev_slT (ds := (c :: cr).map PyData.int) (ev_ixL (n := 0) (ev_var (d := .list (fs.map intsT)) rfl) ev_int hf0) (eo_some ev_int) eo_none)) (by rw [ec]; rfl)) el_nil)) (ev_slL (ev_var rfl) (eo_some ev_int) eo_none)) (by rw [ef]; rfl)) el_nil)))))) (fun e => nomatch e) fun _ => b_next rfl) fun Γ' e => ?_
  subst e
  -- a line more
  have hlenS : ∀ {Γ : List Sl}, Γ[6]? = some (.dat (.list (ls.map Cr.D))) → EvD K (tCB (fun xs H Q => ∃ p ys, xs = [V.ref p] ∧ (SqL K H p ys ∨ SqT K H p ys) ∧ Q (V.int (ys.length : Nat)) H) (tCons (tVar 6) tNil)) Γ (· = .int (ls.length : Nat)) := fun h => ev_eq (ev_len (ds := ls.map Cr.D) (el_list (ev_var h))) (by rw [List.length_map])
  have hlenC : ∀ {Γ : List Sl}, Γ[5]? = some (.dat (.list (cs.map .int))) → EvD K (tCB (fun xs H Q => ∃ p ys, xs = [V.ref p] ∧ (SqL K H p ys ∨ SqT K H p ys) ∧ Q (V.int (ys.length : Nat)) H) (tCons (tVar 5) tNil)) Γ (· = .int (cs.length : Nat)) := fun h => ev_eq (ev_len (ds := cs.map .int) (el_list (ev_var h))) (by rw [List.length_map])
  have hl1 := hli.1
  have hc1' := hco.1
  refine b_seq (M' := (· = Γr .any .any .any)) (b_if (b := decide (((ls.length : Nat) : Int) < 12) && false) (eb_and (eb_test (ev_opC1 (g' := fun i j => .bool (decide (i < j))) (fun _ _ _ => .bl _) (hlenS rfl) ev_int)) fun hw => ?_) (fun e => by rw [Bool.and_false] at e; cases e) fun _ => b_next rfl) fun Γ' e => ?_
  · have hw := of_decide_eq_true hw
    have e1 : cutQ (ls.map Cr.D) none (some ((1 : Nat) : Int)) = (ls.take 1).map Cr.D := by rw [cutQ_take (n := 1) (by rw [List.length_map]; omega), List.map_take]
    have hl : (ls ++ ls.take 1).length = ls.length + 1 := by rw [List.length_append, List.length_take]; omega
    refine hne ⟨w, true, cs, true, ls ++ ls.take 1, t, true, fs⟩ ⟨w1, w2, hco, ⟨by rw [hl]; omega, by rw [hl]; omega, fun r hr => ?_⟩, ht, han⟩ (Gr.ne_rs fun z => ?_) rfl ?_
    · rcases List.mem_append.mp hr with z | z
      · exact hli.2.2 r z
      · exact hli.2.2 r (List.mem_of_mem_take z)
    · have z : PyData.tuple (ls.map Cr.D) = .tuple ((ls ++ ls.take 1).map (Cr.R w)) := z
      have z := congrArg List.length (PyData.tuple.inj z)
      rw [List.length_map, List.length_map, hl] at z
      omega
    · show EvL' K _ _ (· = [.int w, .list (cs.map .int), .list ((ls ++ ls.take 1).map Cr.D), .int (t : Nat), .list (fs.map intsT)])
      exact elc (ev_var rfl) (elc (ev_var rfl) (elc (ev_eq (ev_catL (ds := ls.map Cr.D) (es := (ls.take 1).map Cr.D) (by rw [List.length_map, List.length_map, List.length_take]; omega) (ev_var rfl) (ev_eq (ev_slL (ds := ls.map Cr.D) (lo := none) (hi := some ((1 : Nat) : Int)) (ev_var rfl) eo_none (eo_some ev_int)) (congrArg PyData.list e1))) (by rw [List.map_append])) (elc (ev_var rfl) (elc (ev_var rfl) el_nil))))
  subst e
  -- another top
  refine b_seq (M' := (· = Γr .any .any .any)) (b_for (I := fun _ Γ' => Γ' = Γr .any .any .any) (n := cs.length) (Pi := fun i d => d = .int (i : Nat)) (N := fun i Γ' d => Γ'.set 12 (.dat d)) (e0_rangeL (by omega) (elc (hlenC rfl) el_nil)) rfl (fun i Γ' hi e => by subst e; exact tgb_name (by show 12 < 17; omega)) (fun i Γ' d hi e pd => ?_) fun Γ' e => e) fun Γ' e => ?_
  · subst e
    subst pd
    have gi : (cs.map PyData.int)[i]? = some (.int (cs.getD i 0)) := by rw [List.getElem?_map, List.getD_eq_getElem?_getD, List.getElem?_eq_getElem hi]; rfl
    have gt : (cs.map PyData.int)[t]? = some (.int (cs.getD t 0)) := by rw [List.getElem?_map, List.getD_eq_getElem?_getD, List.getElem?_eq_getElem ht]; rfl
    show Bk K _ (Γr (.dat (.int (i : Nat))) .any .any) _ _ _ _
    refine b_if (b := !decide (((i : Nat) : Int) = (t : Nat)) && (decide (cs.getD i 0 = cs.getD t 0) && false)) (eb_and (eb_test (ev_neInt (ev_var rfl) (ev_var rfl))) fun h1 => eb_and (eb_test (ev_eqI (ev_ixL (n := i) (ds := cs.map .int) (ev_var rfl) (ev_var rfl) gi) (ev_ixL (n := t) (ds := cs.map .int) (ev_var rfl) (ev_var rfl) gt))) fun h2 => ?_) (fun e => by rw [Bool.and_false, Bool.and_false] at e; cases e) fun _ => b_next ⟨Γr .any .any .any, ?_, rfl⟩
    · have h2 := of_decide_eq_true h2
      have h1 : ((i : Nat) : Int) ≠ (t : Nat) := fun z => by rw [decide_eq_true z] at h1; cases h1
      exact hne ⟨w, true, cs, true, ls, i, true, fs⟩ ⟨w1, w2, hco, hli, hi, by show answersOk (cs.getD i 0) fs; rw [h2]; exact han⟩ (fun z => h1 (congrArg Gr.t z).symm) rfl (by
        show EvL' K _ _ (· = [.int w, .list (cs.map .int), .list (ls.map Cr.D), .int (i : Nat), .list (fs.map intsT)])
        exact elc (ev_var rfl) (elc (ev_var rfl) (elc (ev_var rfl) (elc (ev_var rfl) (elc (ev_var rfl) el_nil)))))
    · show L2.W [_, _, _, _, _, _, _, _, _, _, _, _, _, _, _, _, _] [_, _, _, _, _, _, _, _, _, _, _, _, _, _, _, _, _]
      (repeat (first | exact L2.W.nil | refine L2.W.any ?_ | refine L2.W.eq ?_))
  subst e
  -- another width
  refine b_seq (M' := (· = Γr .any .any .any)) (b_if (b := decide (w < 64) && false) (eb_and (eb_test (ev_opC1 (g' := fun i j => .bool (decide (i < j))) (fun _ _ _ => .bl _) (ev_var rfl) ev_int)) fun hw => ?_) (fun e => by rw [Bool.and_false] at e; cases e) fun _ => b_next rfl) fun Γ' e => ?_
  · have hw := of_decide_eq_true hw
    exact hne ⟨w + 1, true, cs, true, ls, t, true, fs⟩ ⟨by show 1 ≤ w + 1; omega, by show w + 1 ≤ 64; omega, hco, hli, ht, han⟩ (Gr.ne_w (by show w ≠ w + 1; omega)) rfl (by
      show EvL' K _ _ (· = [.int (w + 1), .list (cs.map .int), .list (ls.map Cr.D), .int (t : Nat), .list (fs.map intsT)])
      exact elc (ev_opC1 (g' := fun i j => .int (i + j)) (fun _ _ _ => .int _) (ev_var rfl) ev_int) (elc (ev_var rfl) (elc (ev_var rfl) (elc (ev_var rfl) (elc (ev_var rfl) el_nil)))))
  subst e
  -- what is spoilt
  refine b_seq (M' := (· = Γr .any .any .any)) (b_if (b := !true) (eb_not (b := true) (eb_val (ev_callG (⟨w, cs, ls, t, fs⟩ : SpG) (es_well rfl (es_cons (ev_var (d := .int w) rfl) (es_cons (ev_var (d := .list (cs.map .int)) rfl) (es_cons (ev_var (d := .list (ls.map Cr.D)) rfl) (es_cons (ev_var (d := .int (t : Nat)) rfl) (es_cons (ev_var (d := .list (fs.map intsT)) rfl) es_nil)))))) fun sl ⟨r0, e1, d, r2, e2, e3, d', r3, e4, e5, d5, r6, e6, e7, d7, r8, e8, e9, d9, r10, e10, e11, e12⟩ => ⟨by rw [e1, e2, e3, e4, e5, e6, e7, e8, e9, e10, e11, e12], ⟨w1, w2, hco, hli, ht, by show 1 ≤ cs.getD t 0; rw [hct]; omega, han⟩⟩))) (fun e => nomatch e) fun _ => b_next rfl) fun Γ' e => ?_
  subst e
  -- four hundred terms
  have h400 : (ts400.map Tm.D).length = 400 := by unfold ts400; rw [List.length_map, List.length_map, List.length_range]
  refine b_set (i := 13) (P := (· = sumD ts400)) (by show 13 < 17; omega) (ev_tupleOf (ds := ts400.map Tm.D) (el_list (ev_lcI (es := ts400.map Tm.D) (Pi := fun i d => d = .int (i : Nat)) (by rw [h400]; decide) (by rw [h400]; exact (e0_rangeL (n := 400) (by decide) (elc ev_int el_nil)).toI) (fun i => tg_name (by show 16 < 17; omega)) fun i d e pd he => ?_))) fun d e => ?_
  · subst pd
    have hi := (List.getElem?_eq_some_iff.mp he).1
    rw [h400] at hi
    unfold ts400 at he
    rw [List.getElem?_map, List.getElem?_map, List.getElem?_range hi] at he
    have he := Option.some.inj he
    rw [← he]
    show EvD K _ _ (· = .tuple [.int (i : Nat), intsT [-1], .int (-1)])
    exact ev_tupE [.int (i : Nat), intsT [-1], .int (-1)] (elc (ev_var rfl) (elc (ev_tupE [.int (-1)] (elc (ev_neg ev_int) el_nil)) (elc (ev_neg ev_int) el_nil)))
  subst e
  show Bk K _ (Γr .any (.dat (sumD ts400)) .any) _ _ _ _
  have hlook : gq.G.F.lookup ("rules" : Str) = some (.tuple [.tuple [.int 0, intsT [0], .int 0, .tuple [sumD (ts400.map (·.red 8))]]]) := by
    show some (PyData.tuple [.tuple [.int 0, intsT [0], .int 0, .tuple [redS 8 (sumD ts400)]]]) = _
    rw [redS_D]
  refine b_seq (M' := (· = Γr .any (.dat (sumD ts400)) .any)) (b_if (b := !decide ((400 : Int) = 400)) (eb_test (ev_neInt (ev_eq (ev_len (ds := (ts400.map (·.red 8)).map Tm.D) (el_tuple (ev_ixT (n := 0) (ds := [sumD (ts400.map (·.red 8))]) (ev_ixT (n := 3) (ds := [.int 0, intsT [0], .int 0, .tuple [sumD (ts400.map (·.red 8))]]) (ev_ixT (n := 0) (ds := [.tuple [.int 0, intsT [0], .int 0, .tuple [sumD (ts400.map (·.red 8))]]]) (ev_fldE T.cl T.nR (ev_gr gq gq_ok ?_) hlook) ev_int rfl) ev_int rfl) ev_int rfl))) ?_) ev_int)) (fun e => absurd e (by decide)) fun _ => b_next rfl) fun Γ' e => ?_
  · show EvL' K _ _ (· = [.int 8, .list [.int 1], .list [.tuple [.int 0, intsT [0], .int 0, .tuple [sumD ts400]]], .int ((0 : Nat) : Int), .list [.tuple [.int 0, .int 1]]])
    exact elc ev_int (elc (ev_lstE [.int 1] (elc ev_int el_nil)) (elc (ev_lstE [.tuple [.int 0, intsT [0], .int 0, .tuple [sumD ts400]]] (elc (ev_tupE [.int 0, intsT [0], .int 0, .tuple [sumD ts400]] (elc ev_int (elc (ev_tupE [.int 0] (elc ev_int el_nil)) (elc ev_int (elc (ev_tupE [sumD ts400] (elc (ev_var rfl) el_nil)) el_nil))))) el_nil)) (elc ev_int (elc (ev_lstE [.tuple [.int 0, .int 1]] (elc (ev_tupE [.int 0, .int 1] (elc ev_int (elc ev_int el_nil))) el_nil)) el_nil))))
  · rw [List.length_map, List.length_map]
    have : ts400.length = 400 := by unfold ts400; rw [List.length_map, List.length_range]
    rw [this]
    rfl
  subst e
  -- the most that is asked
  refine b_seq (M' := (· = Γr .any (.dat (sumD ts400)) (.ins T.gC gt.G.F))) (b_setV (i := 14) (by show 14 < 17; omega) rfl (ev_gr gt gt_ok ?_) rfl) fun Γ' e => ?_
  · show EvL' K _ _ (· = [.int 1, .list [.int 16, .int 0], .list [.tuple [.int 0, .tuple [], .int 0, .tuple (List.replicate 16 (.tuple []))], .tuple [.int 1, .tuple [.int 0, .int 0], .int 2, .tuple []]], .int ((1 : Nat) : Int), .list (List.replicate 4 (.tuple [.int 1]))])
    exact elc ev_int (elc (ev_lstE [.int 16, .int 0] (elc ev_int (elc ev_int el_nil))) (elc (ev_lstE [.tuple [.int 0, .tuple [], .int 0, .tuple (List.replicate 16 (.tuple []))], .tuple [.int 1, .tuple [.int 0, .int 0], .int 2, .tuple []]] (elc (ev_tupE [.int 0, .tuple [], .int 0, .tuple (List.replicate 16 (.tuple []))] (elc ev_int (elc (ev_tupE [] el_nil) (elc ev_int (elc (ev_rep1 (n := 16) (d := .tuple []) (by omega) (ev_tupE [.tuple []] (elc (ev_tupE [] el_nil) el_nil)) ev_int) el_nil))))) (elc (ev_tupE [.int 1, .tuple [.int 0, .int 0], .int 2, .tuple []] (elc ev_int (elc (ev_tupE [.int 0, .int 0] (elc ev_int (elc ev_int el_nil))) (elc ev_int (elc (ev_tupE [] el_nil) el_nil))))) el_nil))) (elc ev_int (elc (ev_repN (n := 4) (d := .tuple [.int 1]) (by omega) (en_lst (elc (ev_tupE [.int 1] (elc ev_int el_nil)) el_nil)) ev_int) el_nil))))
  subst e
  have ok2 : okD 2 (.tuple [.int 16, .int 0]) = true := rfl
  have lk2 : gt.G.F.lookup ("counts" : Str) = some (.tuple [.int 16, .int 0]) := rfl
  exact b_ret (ev_eqD (n := 2) (by decide) ok2 ok2 (ev_fld T.cl T.nC rfl lk2) (ev_tupE [.int 16, .int 0] (elc ev_int (elc ev_int el_nil)))) fun d e => ⟨d, rfl, by rw [e, SeqAt.eqv_refl _ (okD_lay 2 _ ok2).1]⟩
end
end K39

set_option Elab.async false
set_option linter.all false
set_option maxRecDepth 100000
set_option maxHeartbeats 4000000
namespace K39
open PySem PySem.Spec PyProof.Rows L2
section
variable {P : Program} {w : World} {K : PySem.W.Frag} {mg : Str → Option Value} {base : Heap}
abbrev s_law : Stmt := topS 52
abbrev N_law : List Str := ["_law_script", "_law_k", "_law_cell", "_law_well"]
theorem sc_law : FnScope N_law ["_law_script"] (defScope s_law) := ⟨rfl, rfl, rfl, by decide +kernel, rfl, by decide +kernel, by decide +kernel⟩
theorem for_enum {a : Addr} {xs : List V} {g : TG} {tb : TS} {D : Ends} {σ : L2.St} {H : Hp} (Pv : Nat → L2.St → Hp → Prop) (h0 : Pv 0 σ H) (hl : ∀ i σ H, Pv i σ H → SqL K H a xs)
    (hs : ∀ (i : Nat) x σ H T, xs[i]? = some x → Pv i σ H → H T = none → g (.ref T) σ (upd H T (.tup [.int (i : Int), x])) fun σ2 H2 => tb { D with nx := Pv (i + 1), ct := Pv (i + 1), bk := D.nx } σ2 H2) (hd : ∀ σ H, Pv xs.length σ H → D.nx σ H) :
    ∃ W : Nat → Nat → L2.St → Hp → Prop, (∃ m, W 0 m σ H) ∧ ∀ i m σ H, W i m σ H →
      ((Ite K a).stop i H ∧ D.nx σ H) ∨ ((Ite K a).go i H ∧ ∃ N : L2.St → Hp → Prop, (∀ σ' H', N σ' H' → ∃ m', m' < m ∧ W (i + 1) m' σ' H') ∧ ∀ x H', (Ite K a).yld i H x H' → g x σ H' fun σ2 H2 => tb { D with nx := N, ct := N, bk := D.nx } σ2 H2) := by
  refine ⟨fun i m σ H => m = xs.length - i ∧ i ≤ xs.length ∧ Pv i σ H, ⟨xs.length, by simp, Nat.zero_le _, h0⟩, ?_⟩
  rintro i m σ H ⟨rfl, hi, p⟩
  have q := hl i σ H p
  by_cases hlt : i < xs.length
  · refine .inr ⟨⟨xs, xs[i], q, by simp [hlt]⟩, Pv (i + 1), fun σ' H' p' => ⟨xs.length - (i + 1), by omega, rfl, hlt, p'⟩, fun x H' y => ?_⟩
    obtain ⟨T, y, rfl, hT, rfl, hy⟩ := y
    exact hs i y σ H T (hy xs q) p hT
  · have e : i = xs.length := by omega
    subst e
    exact .inl ⟨⟨xs, q, Nat.le_refl _⟩, hd σ H p⟩
def spLaw (K : PySem.W.Frag) : L2.Sp := fun vs H Q _ => ∃ (a : Addr) (ns : List Int), vs = [.ref a] ∧ SqL K H a (ns.map V.int) ∧ ns.length ≤ 63 ∧ ∀ H', Q (.bl true) H'
theorem cut_ints {ns : List Int} {lo hi : Option Int} {i : Nat} {y : V} (h : (cutV (ns.map V.int ++ [.int 0]) lo hi)[i]? = some y) : ∃ n, y = V.int n := by
  have m := List.mem_of_getElem? h
  unfold cutV at m
  have m2 := List.mem_of_mem_drop (List.mem_of_mem_take m)
  rcases List.mem_append.mp m2 with m3 | m3
  · obtain ⟨n, _, e⟩ := List.mem_map.mp m3
    exact ⟨n, e.symm⟩
  · exact ⟨0, by simpa using m3⟩
theorem ok_law (T : TL10 K mg) (D : Df K mg "law" s_law ["_law_script"]) : FnOk P w K mg base CX0 14 D.f D.fd ["_law_script"] (spLaw K) := by
  have G_law_right := ok_law_right (P := P) (w := w) (base := base) T
  refine D.F.ok sc_law (fun vs H Q E h => ?_) (fun cdv A outer s H vs Q E hr h => ?_)
  · obtain ⟨a, ns, rfl, _⟩ := h
    rfl
  · obtain ⟨a, ns, rfl, hS, hlen, k⟩ := h
    refine ⟨_, (pss_cons (ps_for PassesOwn.never rfl (pi_enum (by rfl) T.enumerate (pa_cons (pe_slice sl_list (pe_op op_catS (pv 0) (pe_lst (pa_cons pe_int pa_nil))) po_none (po_some pe_int)) pa_nil)) (pg_tup rfl (pgs_cons (pg_name (i := 1) sc_law.nd rfl (by first | exact Or.inl rfl | exact Or.inr rfl)) (pgs_cons (pg_name (i := 2) sc_law.nd rfl (by first | exact Or.inl rfl | exact Or.inr rfl)) pgs_nil)))
      (pss_cons (ps_set (i := 3) sc_law.nd rfl (by first | exact Or.inl rfl | exact Or.inr rfl) (pe_lst (pa_cons (pe_op op_mul (pv 2) (pe_callTy call_int1 (by rfl) T.int (by decide +kernel) (pa_cons (pe_cmpR op_ge (pv 2) (pe_op op_pow pe_int pe_int) (nomark _)) pa_nil))) (pa_cons (pe_op op_add (pe_op op_mod (pe_callTy call_int1 (by rfl) T.int (by decide +kernel) (pa_cons (pv 2) pa_nil)) pe_int) (pe_op op_mul pe_int (pv 1))) (pa_cons pe_int pa_nil)))))
      (pss_one (ps_if (pt_not (pt_val (pe_call G_law_right (hr.mono (by decide)) rfl T.law_right.g T.law_right.F.kp T.law_right.b .nil pass0 (pa_cons (pv 3) pa_nil)))) (pss_one (ps_ret pe_bl)) pss_nil))))
    (pss_one (ps_ret pe_bl))), ?_⟩
    refine ⟨_, rfl, (by show 1 ≤ sizeLine; decide), fun z hz => ⟨a, z, ns.map V.int, [.int 0], rfl, rfl, Evl.ex_l (Evl.Ex.new hz) hS, Evl.sq_of upd_same, ?_, fun c hc => ⟨5, rfl, c, _, rfl, Evl.sq_of upd_same, fun d hd => ⟨d, _, rfl, Evl.sq_of upd_same, ?_⟩⟩⟩⟩
    · rw [List.length_map]
      exact Evl.sz_of (by show ns.length + 1 ≤ 100000; omega)
    · generalize hH5 : upd (upd (upd H z (HO.lst [V.int 0])) c (HO.lst (List.map V.int ns ++ [V.int 0]))) d (HO.lst (cutV (List.map V.int ns ++ [V.int 0]) none (some 5))) = H5
      have h5 : H5 d = some (.lst (cutV (ns.map V.int ++ [.int 0]) none (some 5))) := by rw [← hH5, upd_same]
      refine for_enum (K := K) (a := d) (xs := cutV (ns.map V.int ++ [.int 0]) none (some 5)) (fun i σ H' => ∃ v1 v2 v3 : Option V, σ = [some (.ref a), v1, v2, v3] ∧ Evl.Ex H5 H')
        ⟨none, none, none, rfl, Evl.Ex.refl _⟩ (fun i σ H' ⟨_, _, _, _, e⟩ => Evl.sq_of (e _ _ h5)) ?_ ?_
      · rintro i y σ H6 T6 hi ⟨v1, v2, v3, rfl, e6⟩ hT6
        obtain ⟨n, rfl⟩ := cut_ints hi
        refine ⟨T6, [.int (i : Int), .int n], rfl, .inl (.inl upd_same), rfl, _, _, rfl, _, _, rfl, rfl, ?_⟩
        have e7 : Evl.Ex H6 (upd H6 T6 (HO.tup [V.int (i : Int), V.int n])) := Evl.Ex.new hT6
        generalize upd H6 T6 (HO.tup [V.int (i : Int), V.int n]) = H7 at *
        refine ⟨_, rfl, _, rfl, _, _, rfl, rfl, ⟨by decide, by decide, by decide⟩, _, _, rfl, rfl, .inr ⟨_, rfl, _, _, rfl, rfl, .inr ?_, _, rfl, .inl ⟨_, rfl, _, _, rfl, rfl, (by show (0 : Int) < 2147483647; decide), _, rfl, _, _, rfl, rfl, .inl ⟨by decide, by decide⟩, _, _, rfl, rfl, (by show 3 ≤ sizeLine; decide), fun wl hwl => ?_⟩⟩⟩
        · split <;> exact ⟨by decide, by decide⟩
        · refine ⟨_, rfl, Fr.well wl _, [.well], ⟨_, _, upd_same⟩, .cons ⟨wl, _, rfl, Fr.isWell⟩ .nil, rfl, fun v d8 H8 i8 l8 p8 dq8 => ?_⟩
          subst p8
          cases dq8
          refine ⟨true, rfl, ?_⟩
          refine iteF ⟨_, _, _, rfl, fun b o e => ?_⟩
          have eb := e7 _ _ (e6 _ _ e)
          have hne : b ≠ wl := ne_of_none eb hwl
          exact (hide_some (l8 b o (by show hide _ wl b = _; rw [hide_ne hne, upd_ne hne]; exact eb))).2
      · rintro σ H' ⟨v1, v2, v3, rfl, e⟩
        exact k _
end
end K39

set_option Elab.async false
set_option linter.all false
set_option maxRecDepth 100000
set_option maxHeartbeats 4000000
namespace K39
open PySem PySem.Spec PyProof.Rows L2
/-- the class is its own in an except clause -/
def exmChk (K : PySem.W.Frag) (C : Addr) : Bool := PySem.W.exmOne K (.ref C) (.ref C) == some true
theorem exm_of {K : PySem.W.Frag} {C : Addr} (h : exmChk K C = true) : PySem.W.exmOne K (.ref C) (.ref C) = some true := by
  unfold exmChk at h
  exact beq_iff_eq.mp h
/-- isinstance of an object of the class -/
def kitChk1 (K : PySem.W.Frag) (C : Addr) : Bool := PySem.W.kitOne K (.ref C) (.ref C) == some true
theorem kit1_of {K : PySem.W.Frag} {C : Addr} (h : kitChk1 K C = true) : PySem.W.kitOne K (.ref C) (.ref C) = some true := by
  unfold kitChk1 at h
  exact beq_iff_eq.mp h
set_option maxHeartbeats 40000000 in
theorem all_mk {w : World} {K : PySem.W.Frag} {h : Heap} {mg : Str → Option Value} {fa gC gI gE eC eA eI f0 f1 f2 f3 f4 f5 f6 f7 f8 f9 f10 f11 f12 f13 f14 f15 f16 f17 f18 f19 f20 f21 f22 f23 f24 f25 f26 f27 f28 f29 f30 f31 f32 f33 : Addr} (X : K.In h) (G : h.Ns mainGlobals mg) (hfa : mg "law" = some (.ref fa))
    {od0 od1 od2 od3 od4 od5 od6 od7 od8 od9 od10 od11 od12 od13 od14 od15 od16 od17 od18 od19 od20 od21 od22 od23 od24 od25 od26 od27 od28 od29 od30 od31 od32 od33 od34 od35 od36 : Option Addr} {an0 an1 an2 an3 an4 an5 an6 an7 an8 an9 an10 an11 an12 an13 an14 an15 an16 an17 an18 an19 an20 an21 an22 an23 an24 an25 an26 an27 an28 an29 an30 an31 an32 an33 an34 an35 an36 : Option Addr} {sl0 sl1 sl2 sl3 sl4 sl5 sl6 sl7 sl8 sl9 sl10 sl11 sl12 sl13 sl14 sl15 sl16 sl17 sl18 sl19 sl20 sl21 sl22 sl23 sl24 sl25 sl26 sl27 sl28 sl29 sl30 sl31 sl32 sl33 sl34 sl35 sl36 : Array (Option Value)} {oc0 oc1 oc2 oc3 oc4 oc5 oc6 oc7 oc8 oc9 oc10 oc11 oc12 oc13 oc14 oc15 oc16 oc17 oc18 oc19 oc20 oc21 oc22 oc23 oc24 oc25 oc26 oc27 oc28 oc29 oc30 oc31 oc32 oc33 oc34 oc35 oc36 : Value} {kV0 kV1 kV2 kV3 kV4 kV5 kV6 kV7 kV8 kV9 kV10 kV11 kV12 kV13 kV14 kV15 kV16 kV17 kV18 kV19 kV20 kV21 kV22 kV23 kV24 kV25 kV26 kV27 kV28 kV29 kV30 kV31 kV32 kV33 kV34 kV35 kV36 : Value} {dc0 dc1 dc2 dc3 dc4 dc5 dc6 dc7 dc8 dc9 dc10 dc11 dc12 dc13 dc14 dc15 dc16 dc17 dc18 dc19 dc20 dc21 dc22 dc23 dc24 dc25 dc26 dc27 dc28 dc29 dc30 dc31 dc32 dc33 dc34 dc35 dc36 : Value} {pm0 pm1 pm2 pm3 pm4 pm5 pm6 pm7 pm8 pm9 pm10 pm11 pm12 pm13 pm14 pm15 pm16 pm17 pm18 pm19 pm20 pm21 pm22 pm23 pm24 pm25 pm26 pm27 pm28 pm29 pm30 pm31 pm32 pm33 pm34 pm35 pm36 : Value} {cd0 cd1 cd2 cd3 cd4 cd5 cd6 cd7 cd8 cd9 cd10 cd11 cd12 cd13 cd14 cd15 cd16 cd17 cd18 cd19 cd20 cd21 cd22 cd23 cd24 cd25 cd26 cd27 cd28 cd29 cd30 cd31 cd32 cd33 cd34 cd35 cd36 : Value} {ct0 ct1 ct2 ct3 ct4 ct5 ct6 ct7 ct8 ct9 ct10 ct11 ct12 ct13 ct14 ct15 ct16 ct17 ct18 ct19 ct20 ct21 ct22 ct23 ct24 ct25 ct26 ct27 ct28 ct29 ct30 ct31 ct32 ct33 ct34 ct35 ct36 : Value} {t0 t1 t2 t3 t4 t5 t6 : Tok} {nm qn : Str} {Nn : Addr} {bs sub : List Value} {ab : Bool} {sn : List Str} {col : Option Bool} {dd : Option Addr} {m0 m1 m2 m3 m5 : Option Value} {gnm gqn : Str} {gNn : Addr} {gbs gsub : List Value} {ghd gab : Bool} {gsn : List Str} {gcol : Option Bool} {gdd : Option Addr} {q0 q1 q2 q3 q5 : Option Value} {gnew : String}
    (a0 : PySem.W.nsIn K mainGlobals "is_integer" = some (some (.ref f0)))
    (l0 : K.lookup f0 = some ⟨oc0, od0, .func (PySem.W.fnOf "is_integer" "is_integer" (defArgs s_is_integer) (defBody s_is_integer) (defScope s_is_integer) .none kV0 dc0 pm0 an0 cd0 ct0), sl0⟩)
    (c0 : PySem.W.codeIn K cd0 "is_integer" = true)
    (k0 : PySem.W.keepIn K (.ref f0) = true)
    (a1 : PySem.W.nsIn K mainGlobals "is_between" = some (some (.ref f1)))
    (l1 : K.lookup f1 = some ⟨oc1, od1, .func (PySem.W.fnOf "is_between" "is_between" (defArgs s_is_between) (defBody s_is_between) (defScope s_is_between) .none kV1 dc1 pm1 an1 cd1 ct1), sl1⟩)
    (c1 : PySem.W.codeIn K cd1 "is_between" = true)
    (k1 : PySem.W.keepIn K (.ref f1) = true)
    (a2 : PySem.W.nsIn K mainGlobals "is_width" = some (some (.ref f2)))
    (l2 : K.lookup f2 = some ⟨oc2, od2, .func (PySem.W.fnOf "is_width" "is_width" (defArgs s_is_width) (defBody s_is_width) (defScope s_is_width) .none kV2 dc2 pm2 an2 cd2 ct2), sl2⟩)
    (c2 : PySem.W.codeIn K cd2 "is_width" = true)
    (k2 : PySem.W.keepIn K (.ref f2) = true)
    (a3 : PySem.W.nsIn K mainGlobals "is_sequence" = some (some (.ref f3)))
    (l3 : K.lookup f3 = some ⟨oc3, od3, .func (PySem.W.fnOf "is_sequence" "is_sequence" (defArgs s_is_sequence) (defBody s_is_sequence) (defScope s_is_sequence) .none kV3 dc3 pm3 an3 cd3 ct3), sl3⟩)
    (c3 : PySem.W.codeIn K cd3 "is_sequence" = true)
    (k3 : PySem.W.keepIn K (.ref f3) = true)
    (a4 : PySem.W.nsIn K mainGlobals "is_tuple" = some (some (.ref f4)))
    (l4 : K.lookup f4 = some ⟨oc4, od4, .func (PySem.W.fnOf "is_tuple" "is_tuple" (defArgs s_is_tuple) (defBody s_is_tuple) (defScope s_is_tuple) .none kV4 dc4 pm4 an4 cd4 ct4), sl4⟩)
    (c4 : PySem.W.codeIn K cd4 "is_tuple" = true)
    (k4 : PySem.W.keepIn K (.ref f4) = true)
    (a5 : PySem.W.nsIn K mainGlobals "is_row" = some (some (.ref f5)))
    (l5 : K.lookup f5 = some ⟨oc5, od5, .func (PySem.W.fnOf "is_row" "is_row" (defArgs s_is_row) (defBody s_is_row) (defScope s_is_row) .none kV5 dc5 pm5 an5 cd5 ct5), sl5⟩)
    (c5 : PySem.W.codeIn K cd5 "is_row" = true)
    (k5 : PySem.W.keepIn K (.ref f5) = true)
    (a6 : PySem.W.nsIn K mainGlobals "is_integers" = some (some (.ref f6)))
    (l6 : K.lookup f6 = some ⟨oc6, od6, .func (PySem.W.fnOf "is_integers" "is_integers" (defArgs s_is_integers) (defBody s_is_integers) (defScope s_is_integers) .none kV6 dc6 pm6 an6 cd6 ct6), sl6⟩)
    (c6 : PySem.W.codeIn K cd6 "is_integers" = true)
    (k6 : PySem.W.keepIn K (.ref f6) = true)
    (a7 : PySem.W.nsIn K mainGlobals "is_form" = some (some (.ref f7)))
    (l7 : K.lookup f7 = some ⟨oc7, od7, .func (PySem.W.fnOf "is_form" "is_form" (defArgs s_is_form) (defBody s_is_form) (defScope s_is_form) .none kV7 dc7 pm7 an7 cd7 ct7), sl7⟩)
    (c7 : PySem.W.codeIn K cd7 "is_form" = true)
    (k7 : PySem.W.keepIn K (.ref f7) = true)
    (a8 : PySem.W.nsIn K mainGlobals "is_sum" = some (some (.ref f8)))
    (l8 : K.lookup f8 = some ⟨oc8, od8, .func (PySem.W.fnOf "is_sum" "is_sum" (defArgs s_is_sum) (defBody s_is_sum) (defScope s_is_sum) .none kV8 dc8 pm8 an8 cd8 ct8), sl8⟩)
    (c8 : PySem.W.codeIn K cd8 "is_sum" = true)
    (k8 : PySem.W.keepIn K (.ref f8) = true)
    (a9 : PySem.W.nsIn K mainGlobals "is_term" = some (some (.ref f9)))
    (l9 : K.lookup f9 = some ⟨oc9, od9, .func (PySem.W.fnOf "is_term" "is_term" (defArgs s_is_term) (defBody s_is_term) (defScope s_is_term) .none kV9 dc9 pm9 an9 cd9 ct9), sl9⟩)
    (c9 : PySem.W.codeIn K cd9 "is_term" = true)
    (k9 : PySem.W.keepIn K (.ref f9) = true)
    (a10 : PySem.W.nsIn K mainGlobals "is_pick" = some (some (.ref f10)))
    (l10 : K.lookup f10 = some ⟨oc10, od10, .func (PySem.W.fnOf "is_pick" "is_pick" (defArgs s_is_pick) (defBody s_is_pick) (defScope s_is_pick) .none kV10 dc10 pm10 an10 cd10 ct10), sl10⟩)
    (c10 : PySem.W.codeIn K cd10 "is_pick" = true)
    (k10 : PySem.W.keepIn K (.ref f10) = true)
    (a11 : PySem.W.nsIn K mainGlobals "reduced" = some (some (.ref f11)))
    (l11 : K.lookup f11 = some ⟨oc11, od11, .func (PySem.W.fnOf "reduced" "reduced" (defArgs s_reduced) (defBody s_reduced) (defScope s_reduced) .none kV11 dc11 pm11 an11 cd11 ct11), sl11⟩)
    (c11 : PySem.W.codeIn K cd11 "reduced" = true)
    (k11 : PySem.W.keepIn K (.ref f11) = true)
    (a12 : PySem.W.nsIn K mainGlobals "reduced_sum" = some (some (.ref f12)))
    (l12 : K.lookup f12 = some ⟨oc12, od12, .func (PySem.W.fnOf "reduced_sum" "reduced_sum" (defArgs s_reduced_sum) (defBody s_reduced_sum) (defScope s_reduced_sum) .none kV12 dc12 pm12 an12 cd12 ct12), sl12⟩)
    (c12 : PySem.W.codeIn K cd12 "reduced_sum" = true)
    (k12 : PySem.W.keepIn K (.ref f12) = true)
    (a13 : PySem.W.nsIn K mainGlobals "checked_counts" = some (some (.ref f13)))
    (l13 : K.lookup f13 = some ⟨oc13, od13, .func (PySem.W.fnOf "checked_counts" "checked_counts" (defArgs s_checked_counts) (defBody s_checked_counts) (defScope s_checked_counts) .none kV13 dc13 pm13 an13 cd13 ct13), sl13⟩)
    (c13 : PySem.W.codeIn K cd13 "checked_counts" = true)
    (k13 : PySem.W.keepIn K (.ref f13) = true)
    (a14 : PySem.W.nsIn K mainGlobals "checked_code_rules" = some (some (.ref f14)))
    (l14 : K.lookup f14 = some ⟨oc14, od14, .func (PySem.W.fnOf "checked_code_rules" "checked_code_rules" (defArgs s_checked_code_rules) (defBody s_checked_code_rules) (defScope s_checked_code_rules) .none kV14 dc14 pm14 an14 cd14 ct14), sl14⟩)
    (c14 : PySem.W.codeIn K cd14 "checked_code_rules" = true)
    (k14 : PySem.W.keepIn K (.ref f14) = true)
    (a15 : PySem.W.nsIn K mainGlobals "is_code_rule" = some (some (.ref f15)))
    (l15 : K.lookup f15 = some ⟨oc15, od15, .func (PySem.W.fnOf "is_code_rule" "is_code_rule" (defArgs s_is_code_rule) (defBody s_is_code_rule) (defScope s_is_code_rule) .none kV15 dc15 pm15 an15 cd15 ct15), sl15⟩)
    (c15 : PySem.W.codeIn K cd15 "is_code_rule" = true)
    (k15 : PySem.W.keepIn K (.ref f15) = true)
    (a16 : PySem.W.nsIn K mainGlobals "wrong_answers" = some (some (.ref f16)))
    (l16 : K.lookup f16 = some ⟨oc16, od16, .func (PySem.W.fnOf "wrong_answers" "wrong_answers" (defArgs s_wrong_answers) (defBody s_wrong_answers) (defScope s_wrong_answers) .none kV16 dc16 pm16 an16 cd16 ct16), sl16⟩)
    (c16 : PySem.W.codeIn K cd16 "wrong_answers" = true)
    (k16 : PySem.W.keepIn K (.ref f16) = true)
    (a17 : PySem.W.nsIn K mainGlobals "checked_code_answers" = some (some (.ref f17)))
    (l17 : K.lookup f17 = some ⟨oc17, od17, .func (PySem.W.fnOf "checked_code_answers" "checked_code_answers" (defArgs s_checked_code_answers) (defBody s_checked_code_answers) (defScope s_checked_code_answers) .none kV17 dc17 pm17 an17 cd17 ct17), sl17⟩)
    (c17 : PySem.W.codeIn K cd17 "checked_code_answers" = true)
    (k17 : PySem.W.keepIn K (.ref f17) = true)
    (a18 : PySem.W.nsIn K mainGlobals "_law_draw" = some (some (.ref f18)))
    (l18 : K.lookup f18 = some ⟨oc18, od18, .func (PySem.W.fnOf "_law_draw" "_law_draw" (defArgs s_law_draw) (defBody s_law_draw) (defScope s_law_draw) .none kV18 dc18 pm18 an18 cd18 ct18), sl18⟩)
    (c18 : PySem.W.codeIn K cd18 "_law_draw" = true)
    (k18 : PySem.W.keepIn K (.ref f18) = true)
    (a19 : PySem.W.nsIn K mainGlobals "_law_one" = some (some (.ref f19)))
    (l19 : K.lookup f19 = some ⟨oc19, od19, .func (PySem.W.fnOf "_law_one" "_law_one" (defArgs s_law_one) (defBody s_law_one) (defScope s_law_one) .none kV19 dc19 pm19 an19 cd19 ct19), sl19⟩)
    (c19 : PySem.W.codeIn K cd19 "_law_one" = true)
    (k19 : PySem.W.keepIn K (.ref f19) = true)
    (a20 : PySem.W.nsIn K mainGlobals "_law_number" = some (some (.ref f20)))
    (l20 : K.lookup f20 = some ⟨oc20, od20, .func (PySem.W.fnOf "_law_number" "_law_number" (defArgs s_law_number) (defBody s_law_number) (defScope s_law_number) .none kV20 dc20 pm20 an20 cd20 ct20), sl20⟩)
    (c20 : PySem.W.codeIn K cd20 "_law_number" = true)
    (k20 : PySem.W.keepIn K (.ref f20) = true)
    (a21 : PySem.W.nsIn K mainGlobals "_law_sum" = some (some (.ref f21)))
    (l21 : K.lookup f21 = some ⟨oc21, od21, .func (PySem.W.fnOf "_law_sum" "_law_sum" (defArgs s_law_sum) (defBody s_law_sum) (defScope s_law_sum) .none kV21 dc21 pm21 an21 cd21 ct21), sl21⟩)
    (c21 : PySem.W.codeIn K cd21 "_law_sum" = true)
    (k21 : PySem.W.keepIn K (.ref f21) = true)
    (a22 : PySem.W.nsIn K mainGlobals "_law_form" = some (some (.ref f22)))
    (l22 : K.lookup f22 = some ⟨oc22, od22, .func (PySem.W.fnOf "_law_form" "_law_form" (defArgs s_law_form) (defBody s_law_form) (defScope s_law_form) .none kV22 dc22 pm22 an22 cd22 ct22), sl22⟩)
    (c22 : PySem.W.codeIn K cd22 "_law_form" = true)
    (k22 : PySem.W.keepIn K (.ref f22) = true)
    (a23 : PySem.W.nsIn K mainGlobals "_law_answers" = some (some (.ref f23)))
    (l23 : K.lookup f23 = some ⟨oc23, od23, .func (PySem.W.fnOf "_law_answers" "_law_answers" (defArgs s_law_answers) (defBody s_law_answers) (defScope s_law_answers) .none kV23 dc23 pm23 an23 cd23 ct23), sl23⟩)
    (c23 : PySem.W.codeIn K cd23 "_law_answers" = true)
    (k23 : PySem.W.keepIn K (.ref f23) = true)
    (a24 : PySem.W.nsIn K mainGlobals "_law_rule" = some (some (.ref f24)))
    (l24 : K.lookup f24 = some ⟨oc24, od24, .func (PySem.W.fnOf "_law_rule" "_law_rule" (defArgs s_law_rule) (defBody s_law_rule) (defScope s_law_rule) .none kV24 dc24 pm24 an24 cd24 ct24), sl24⟩)
    (c24 : PySem.W.codeIn K cd24 "_law_rule" = true)
    (k24 : PySem.W.keepIn K (.ref f24) = true)
    (a25 : PySem.W.nsIn K mainGlobals "_law_kinds" = some (some (.ref f25)))
    (l25 : K.lookup f25 = some ⟨oc25, od25, .func (PySem.W.fnOf "_law_kinds" "_law_kinds" (defArgs s_law_kinds) (defBody s_law_kinds) (defScope s_law_kinds) .none kV25 dc25 pm25 an25 cd25 ct25), sl25⟩)
    (c25 : PySem.W.codeIn K cd25 "_law_kinds" = true)
    (k25 : PySem.W.keepIn K (.ref f25) = true)
    (a26 : PySem.W.nsIn K mainGlobals "_law_rules" = some (some (.ref f26)))
    (l26 : K.lookup f26 = some ⟨oc26, od26, .func (PySem.W.fnOf "_law_rules" "_law_rules" (defArgs s_law_rules) (defBody s_law_rules) (defScope s_law_rules) .none kV26 dc26 pm26 an26 cd26 ct26), sl26⟩)
    (c26 : PySem.W.codeIn K cd26 "_law_rules" = true)
    (k26 : PySem.W.keepIn K (.ref f26) = true)
    (a27 : PySem.W.nsIn K mainGlobals "_law_plain" = some (some (.ref f27)))
    (l27 : K.lookup f27 = some ⟨oc27, od27, .func (PySem.W.fnOf "_law_plain" "_law_plain" (defArgs s_law_plain) (defBody s_law_plain) (defScope s_law_plain) .none kV27 dc27 pm27 an27 cd27 ct27), sl27⟩)
    (c27 : PySem.W.codeIn K cd27 "_law_plain" = true)
    (k27 : PySem.W.keepIn K (.ref f27) = true)
    (a28 : PySem.W.nsIn K mainGlobals "_law_raised" = some (some (.ref f28)))
    (l28 : K.lookup f28 = some ⟨oc28, od28, .func (PySem.W.fnOf "_law_raised" "_law_raised" (defArgs s_law_raised) (defBody s_law_raised) (defScope s_law_raised) .none kV28 dc28 pm28 an28 cd28 ct28), sl28⟩)
    (c28 : PySem.W.codeIn K cd28 "_law_raised" = true)
    (k28 : PySem.W.keepIn K (.ref f28) = true)
    (a29 : PySem.W.nsIn K mainGlobals "_law_grown_line" = some (some (.ref f29)))
    (l29 : K.lookup f29 = some ⟨oc29, od29, .func (PySem.W.fnOf "_law_grown_line" "_law_grown_line" (defArgs s_law_grown_line) (defBody s_law_grown_line) (defScope s_law_grown_line) .none kV29 dc29 pm29 an29 cd29 ct29), sl29⟩)
    (c29 : PySem.W.codeIn K cd29 "_law_grown_line" = true)
    (k29 : PySem.W.keepIn K (.ref f29) = true)
    (a30 : PySem.W.nsIn K mainGlobals "_law_bad_line" = some (some (.ref f30)))
    (l30 : K.lookup f30 = some ⟨oc30, od30, .func (PySem.W.fnOf "_law_bad_line" "_law_bad_line" (defArgs s_law_bad_line) (defBody s_law_bad_line) (defScope s_law_bad_line) .none kV30 dc30 pm30 an30 cd30 ct30), sl30⟩)
    (c30 : PySem.W.codeIn K cd30 "_law_bad_line" = true)
    (k30 : PySem.W.keepIn K (.ref f30) = true)
    (a31 : PySem.W.nsIn K mainGlobals "_law_spoilt_right" = some (some (.ref f31)))
    (l31 : K.lookup f31 = some ⟨oc31, od31, .func (PySem.W.fnOf "_law_spoilt_right" "_law_spoilt_right" (defArgs s_law_spoilt_right) (defBody s_law_spoilt_right) (defScope s_law_spoilt_right) .none kV31 dc31 pm31 an31 cd31 ct31), sl31⟩)
    (c31 : PySem.W.codeIn K cd31 "_law_spoilt_right" = true)
    (k31 : PySem.W.keepIn K (.ref f31) = true)
    (a32 : PySem.W.nsIn K mainGlobals "_law_right" = some (some (.ref f32)))
    (l32 : K.lookup f32 = some ⟨oc32, od32, .func (PySem.W.fnOf "_law_right" "_law_right" (defArgs s_law_right) (defBody s_law_right) (defScope s_law_right) .none kV32 dc32 pm32 an32 cd32 ct32), sl32⟩)
    (c32 : PySem.W.codeIn K cd32 "_law_right" = true)
    (k32 : PySem.W.keepIn K (.ref f32) = true)
    (a33 : PySem.W.nsIn K mainGlobals "law" = some (some (.ref f33)))
    (l33 : K.lookup f33 = some ⟨oc33, od33, .func (PySem.W.fnOf "law" "law" (defArgs s_law) (defBody s_law) (defScope s_law) .none kV33 dc33 pm33 an33 cd33 ct33), sl33⟩)
    (c33 : PySem.W.codeIn K cd33 "law" = true)
    (k33 : PySem.W.keepIn K (.ref f33) = true)
    (z0 : PySem.W.nsIn K mainGlobals "int" = some none)
    (z1 : PySem.W.nsIn K mainGlobals "bool" = some none)
    (z2 : PySem.W.nsIn K mainGlobals "str" = some none)
    (z3 : PySem.W.nsIn K mainGlobals "list" = some none)
    (z4 : PySem.W.nsIn K mainGlobals "tuple" = some none)
    (z5 : PySem.W.nsIn K mainGlobals "dict" = some none)
    (z6 : PySem.W.nsIn K mainGlobals "set" = some none)
    (z7 : PySem.W.nsIn K mainGlobals "len" = some none)
    (z8 : PySem.W.nsIn K mainGlobals "all" = some none)
    (z9 : PySem.W.nsIn K mainGlobals "isinstance" = some none)
    (z10 : PySem.W.nsIn K mainGlobals "range" = some none)
    (z11 : PySem.W.nsIn K mainGlobals "zip" = some none)
    (z12 : PySem.W.nsIn K mainGlobals "enumerate" = some none)
    (o0 : PySem.W.nsIn K mainGlobals "MOST_KINDS" = some (some (.int 5 t0)))
    (o1 : PySem.W.nsIn K mainGlobals "MOST_RULES" = some (some (.int 12 t1)))
    (o2 : PySem.W.nsIn K mainGlobals "MOST_CHILDREN" = some (some (.int 2 t2)))
    (o3 : PySem.W.nsIn K mainGlobals "MOST_NUMBERS" = some (some (.int 2 t3)))
    (o4 : PySem.W.nsIn K mainGlobals "MOST_ANSWERS" = some (some (.int 4 t4)))
    (o5 : PySem.W.nsIn K mainGlobals "MOST_REGISTERS" = some (some (.int 16 t5)))
    (o6 : PySem.W.nsIn K mainGlobals "MOST_CODE_TERMS" = some (some (.int 400 t6)))
    (gm : PySem.W.nsIn K mainGlobals "Code" = some (some (.ref gC)))
    (gi : PySem.W.findIn K (.ref gC) "__init__" = some (some (.ref gI)))
    (gif : PySem.W.isFn K (.ref gI) = true)
    (l34 : K.lookup gI = some ⟨oc34, od34, .func (PySem.W.fnOf "__init__" "Code.__init__" (defArgs s_Code_init__) (defBody s_Code_init__) (defScope s_Code_init__) .none kV34 dc34 pm34 an34 cd34 ct34), sl34⟩)
    (c34 : PySem.W.codeIn K cd34 "Code.__init__" = true)
    (k34 : PySem.W.keepIn K (.ref gI) = true)
    (pg : PySem.W.plainGet K gC Str.empty = true)
    (hd : PySem.W.hasDictIn K gC = true)
    (po : PySem.W.plainOver K gC = true)
    (sa : PySem.W.findIn K (.ref gC) "__setattr__" = some (some (.builtin "object.__setattr__")))
    (mk : PySem.W.makesIn K gC = true)
    (kc : PySem.W.keepIn K (.ref gC) = true)
    (n_width : PySem.W.findIn K (.ref gC) "width" = some none)
    (n_counts : PySem.W.findIn K (.ref gC) "counts" = some none)
    (n_rules : PySem.W.findIn K (.ref gC) "rules" = some none)
    (n_top : PySem.W.findIn K (.ref gC) "top" = some none)
    (n_answers : PySem.W.findIn K (.ref gC) "answers" = some none)
    (em : PySem.W.nsIn K mainGlobals "NoCode" = some (some (.ref eC)))
    (ex : K.lookup eC = some (excClassObj nm qn eC Nn bs [.ref eA, .type "ValueError", .type "Exception", .type "BaseException", .type "object"] true sn sub ab col dd m0 m1 m2 m3 m5 "ValueError.__new__"))
    (esa : PySem.W.findIn K (.ref eC) "__setattr__" = some (some (.builtin "object.__setattr__")))
    (ety : PySem.W.typeIn K (.ref eC) = some (.type "type"))
    (ekC : PySem.W.keepIn K (.ref eC) = true)
    (ehg : PySem.W.findIn K (.ref eC) "__getattribute__" = some (some (.builtin "BaseException.__getattribute__")))
    (ehk : PySem.W.findIn K (.ref eC) "__getattr__" = some none)
    (ehs : PySem.W.subIn K (.ref eC) (.type "BaseException") = some true)
    (ehd : PySem.W.hasDictIn K eC = true)
    (ei : PySem.W.findIn K (.ref eC) "__init__" = some (some (.ref eI)))
    (et : PySem.W.typeIn K (.ref eI) = some (.type "function"))
    (l35 : K.lookup eI = some ⟨oc35, od35, .func (PySem.W.fnOf "__init__" "NoCode.__init__" (defArgs s_NoCode_init__) (defBody s_NoCode_init__) (defScope s_NoCode_init__) .none kV35 dc35 pm35 an35 cd35 ct35), sl35⟩)
    (c35 : PySem.W.codeIn K cd35 "NoCode.__init__" = true)
    (k35 : PySem.W.keepIn K (.ref eI) = true)
    (en_part : PySem.W.findIn K (.ref eC) "part" = some none)
    (en_index : PySem.W.findIn K (.ref eC) "index" = some none)
    (eex : exmChk K eC = true)
    (ge : PySem.W.findIn K (.ref gC) "__eq__" = some (some (.ref gE)))
    (gef : PySem.W.isFn K (.ref gE) = true)
    (l36 : K.lookup gE = some ⟨oc36, od36, .func (PySem.W.fnOf "__eq__" "Code.__eq__" (defArgs s_Code_eq__) (defBody s_Code_eq__) (defScope s_Code_eq__) .none kV36 dc36 pm36 an36 cd36 ct36), sl36⟩)
    (c36 : PySem.W.codeIn K cd36 "Code.__eq__" = true)
    (k36 : PySem.W.keepIn K (.ref gE) = true)
    (gne : PySem.W.findIn K (.ref gC) "__ne__" = some (some (.builtin "object.__ne__")))
    (gx : K.lookup gC = some (excClassObj gnm gqn gC gNn gbs [.type "object"] ghd gsn gsub gab gcol gdd q0 q1 q2 q3 q5 gnew))
    (cc : PySem.W.findIn K (.ref gC) "__class__" = some (some (.builtin "object.__class__")))
    (cs : PySem.W.specialIn K (.builtin "object.__class__") "__get__" = some (some (.builtin "getset_descriptor.__get__")))
    (ct : PySem.W.takesIn K (.builtin "object.__class__") = some true)
    (co : PySem.W.mroIn K gC (.type "object") = some true)
    (kt : kitChk1 K gC = true) :
    ∃ fd : FuncData, (∀ (s : Shared) (v : Value), BindsTo s fd ⟨[v], []⟩ [("_law_script", v)]) ∧ ∀ base : Heap, K.In base → base.Ns mainGlobals mg → FnOk PySem.Challenge.pw_leastattr_k39_codes_made_and_refused w K mg base CX0 14 fa fd ["_law_script"] (spLaw K) := by
  have e := hfa.symm.trans (PySem.W.mg_of X G a33)
  cases e
  have F0 := fun_mk (st := s_is_integer) l0 c0 k0
  have b0 := F0.binds (ps := ["thing"]) fun _ _ _ _ _ _ us hl => match us, hl with | [_], _ => rfl
  let D0 : Df K mg "is_integer" s_is_integer ["thing"] := ⟨_, _, F0, PySem.W.mg_of X G a0, b0⟩
  have F1 := fun_mk (st := s_is_between) l1 c1 k1
  have b1 := F1.binds (ps := ["thing", "low", "high"]) fun _ _ _ _ _ _ us hl => match us, hl with | [_, _, _], _ => rfl
  let D1 : Df K mg "is_between" s_is_between ["thing", "low", "high"] := ⟨_, _, F1, PySem.W.mg_of X G a1, b1⟩
  have F2 := fun_mk (st := s_is_width) l2 c2 k2
  have b2 := F2.binds (ps := ["thing"]) fun _ _ _ _ _ _ us hl => match us, hl with | [_], _ => rfl
  let D2 : Df K mg "is_width" s_is_width ["thing"] := ⟨_, _, F2, PySem.W.mg_of X G a2, b2⟩
  have F3 := fun_mk (st := s_is_sequence) l3 c3 k3
  have b3 := F3.binds (ps := ["thing", "low", "high"]) fun _ _ _ _ _ _ us hl => match us, hl with | [_, _, _], _ => rfl
  let D3 : Df K mg "is_sequence" s_is_sequence ["thing", "low", "high"] := ⟨_, _, F3, PySem.W.mg_of X G a3, b3⟩
  have F4 := fun_mk (st := s_is_tuple) l4 c4 k4
  have b4 := F4.binds (ps := ["thing", "low", "high"]) fun _ _ _ _ _ _ us hl => match us, hl with | [_, _, _], _ => rfl
  let D4 : Df K mg "is_tuple" s_is_tuple ["thing", "low", "high"] := ⟨_, _, F4, PySem.W.mg_of X G a4, b4⟩
  have F5 := fun_mk (st := s_is_row) l5 c5 k5
  have b5 := F5.binds (ps := ["thing", "size"]) fun _ _ _ _ _ _ us hl => match us, hl with | [_, _], _ => rfl
  let D5 : Df K mg "is_row" s_is_row ["thing", "size"] := ⟨_, _, F5, PySem.W.mg_of X G a5, b5⟩
  have F6 := fun_mk (st := s_is_integers) l6 c6 k6
  have b6 := F6.binds (ps := ["thing", "size"]) fun _ _ _ _ _ _ us hl => match us, hl with | [_, _], _ => rfl
  let D6 : Df K mg "is_integers" s_is_integers ["thing", "size"] := ⟨_, _, F6, PySem.W.mg_of X G a6, b6⟩
  have F7 := fun_mk (st := s_is_form) l7 c7 k7
  have b7 := F7.binds (ps := ["thing", "many"]) fun _ _ _ _ _ _ us hl => match us, hl with | [_, _], _ => rfl
  let D7 : Df K mg "is_form" s_is_form ["thing", "many"] := ⟨_, _, F7, PySem.W.mg_of X G a7, b7⟩
  have F8 := fun_mk (st := s_is_sum) l8 c8 k8
  have b8 := F8.binds (ps := ["thing", "sizes", "numbers", "most"]) fun _ _ _ _ _ _ us hl => match us, hl with | [_, _, _, _], _ => rfl
  let D8 : Df K mg "is_sum" s_is_sum ["thing", "sizes", "numbers", "most"] := ⟨_, _, F8, PySem.W.mg_of X G a8, b8⟩
  have F9 := fun_mk (st := s_is_term) l9 c9 k9
  have b9 := F9.binds (ps := ["thing", "sizes", "numbers"]) fun _ _ _ _ _ _ us hl => match us, hl with | [_, _, _], _ => rfl
  let D9 : Df K mg "is_term" s_is_term ["thing", "sizes", "numbers"] := ⟨_, _, F9, PySem.W.mg_of X G a9, b9⟩
  have F10 := fun_mk (st := s_is_pick) l10 c10 k10
  have b10 := F10.binds (ps := ["thing", "many"]) fun _ _ _ _ _ _ us hl => match us, hl with | [_, _], _ => rfl
  let D10 : Df K mg "is_pick" s_is_pick ["thing", "many"] := ⟨_, _, F10, PySem.W.mg_of X G a10, b10⟩
  have F11 := fun_mk (st := s_reduced) l11 c11 k11
  have b11 := F11.binds (ps := ["numbers", "width"]) fun _ _ _ _ _ _ us hl => match us, hl with | [_, _], _ => rfl
  let D11 : Df K mg "reduced" s_reduced ["numbers", "width"] := ⟨_, _, F11, PySem.W.mg_of X G a11, b11⟩
  have F12 := fun_mk (st := s_reduced_sum) l12 c12 k12
  have b12 := F12.binds (ps := ["terms", "width"]) fun _ _ _ _ _ _ us hl => match us, hl with | [_, _], _ => rfl
  let D12 : Df K mg "reduced_sum" s_reduced_sum ["terms", "width"] := ⟨_, _, F12, PySem.W.mg_of X G a12, b12⟩
  have F13 := fun_mk (st := s_checked_counts) l13 c13 k13
  have b13 := F13.binds (ps := ["counts"]) fun _ _ _ _ _ _ us hl => match us, hl with | [_], _ => rfl
  let D13 : Df K mg "checked_counts" s_checked_counts ["counts"] := ⟨_, _, F13, PySem.W.mg_of X G a13, b13⟩
  have F14 := fun_mk (st := s_checked_code_rules) l14 c14 k14
  have b14 := F14.binds (ps := ["rules", "counts", "width"]) fun _ _ _ _ _ _ us hl => match us, hl with | [_, _, _], _ => rfl
  let D14 : Df K mg "checked_code_rules" s_checked_code_rules ["rules", "counts", "width"] := ⟨_, _, F14, PySem.W.mg_of X G a14, b14⟩
  have F15 := fun_mk (st := s_is_code_rule) l15 c15 k15
  have b15 := F15.binds (ps := ["thing", "counts"]) fun _ _ _ _ _ _ us hl => match us, hl with | [_, _], _ => rfl
  let D15 : Df K mg "is_code_rule" s_is_code_rule ["thing", "counts"] := ⟨_, _, F15, PySem.W.mg_of X G a15, b15⟩
  have F16 := fun_mk (st := s_wrong_answers) l16 c16 k16
  have b16 := F16.binds (ps := ["thing", "many", "most"]) fun _ _ _ _ _ _ us hl => match us, hl with | [_, _, _], _ => rfl
  let D16 : Df K mg "wrong_answers" s_wrong_answers ["thing", "many", "most"] := ⟨_, _, F16, PySem.W.mg_of X G a16, b16⟩
  have F17 := fun_mk (st := s_checked_code_answers) l17 c17 k17
  have b17 := F17.binds (ps := ["answers", "many", "width"]) fun _ _ _ _ _ _ us hl => match us, hl with | [_, _, _], _ => rfl
  let D17 : Df K mg "checked_code_answers" s_checked_code_answers ["answers", "many", "width"] := ⟨_, _, F17, PySem.W.mg_of X G a17, b17⟩
  have F18 := fun_mk (st := s_law_draw) l18 c18 k18
  have b18 := F18.binds (ps := ["_law_well", "_law_many"]) fun _ _ _ _ _ _ us hl => match us, hl with | [_, _], _ => rfl
  let D18 : Df K mg "_law_draw" s_law_draw ["_law_well", "_law_many"] := ⟨_, _, F18, PySem.W.mg_of X G a18, b18⟩
  have F19 := fun_mk (st := s_law_one) l19 c19 k19
  have b19 := F19.binds (ps := ["_law_well", "_law_some"]) fun _ _ _ _ _ _ us hl => match us, hl with | [_, _], _ => rfl
  let D19 : Df K mg "_law_one" s_law_one ["_law_well", "_law_some"] := ⟨_, _, F19, PySem.W.mg_of X G a19, b19⟩
  have F20 := fun_mk (st := s_law_number) l20 c20 k20
  have b20 := F20.binds (ps := ["_law_well", "_law_width_so"]) fun _ _ _ _ _ _ us hl => match us, hl with | [_, _], _ => rfl
  let D20 : Df K mg "_law_number" s_law_number ["_law_well", "_law_width_so"] := ⟨_, _, F20, PySem.W.mg_of X G a20, b20⟩
  have F21 := fun_mk (st := s_law_sum) l21 c21 k21
  have b21 := F21.binds (ps := ["_law_well", "_law_width_so", "_law_sizes", "_law_numbers"]) fun _ _ _ _ _ _ us hl => match us, hl with | [_, _, _, _], _ => rfl
  let D21 : Df K mg "_law_sum" s_law_sum ["_law_well", "_law_width_so", "_law_sizes", "_law_numbers"] := ⟨_, _, F21, PySem.W.mg_of X G a21, b21⟩
  have F22 := fun_mk (st := s_law_form) l22 c22 k22
  have b22 := F22.binds (ps := ["_law_well", "_law_width_so", "_law_many"]) fun _ _ _ _ _ _ us hl => match us, hl with | [_, _, _], _ => rfl
  let D22 : Df K mg "_law_form" s_law_form ["_law_well", "_law_width_so", "_law_many"] := ⟨_, _, F22, PySem.W.mg_of X G a22, b22⟩
  have F23 := fun_mk (st := s_law_answers) l23 c23 k23
  have b23 := F23.binds (ps := ["_law_well", "_law_width_so", "_law_kinds_here", "_law_top_so"]) fun _ _ _ _ _ _ us hl => match us, hl with | [_, _, _, _], _ => rfl
  let D23 : Df K mg "_law_answers" s_law_answers ["_law_well", "_law_width_so", "_law_kinds_here", "_law_top_so"] := ⟨_, _, F23, PySem.W.mg_of X G a23, b23⟩
  have F24 := fun_mk (st := s_law_rule) l24 c24 k24
  have b24 := F24.binds (ps := ["_law_well", "_law_width_so", "_law_kinds_here", "_law_name", "_law_kind", "_law_children"]) fun _ _ _ _ _ _ us hl => match us, hl with | [_, _, _, _, _, _], _ => rfl
  let D24 : Df K mg "_law_rule" s_law_rule ["_law_well", "_law_width_so", "_law_kinds_here", "_law_name", "_law_kind", "_law_children"] := ⟨_, _, F24, PySem.W.mg_of X G a24, b24⟩
  have F25 := fun_mk (st := s_law_kinds) l25 c25 k25
  have b25 := F25.binds (ps := ["_law_well", "_law_most", "_law_many"]) fun _ _ _ _ _ _ us hl => match us, hl with | [_, _, _], _ => rfl
  let D25 : Df K mg "_law_kinds" s_law_kinds ["_law_well", "_law_most", "_law_many"] := ⟨_, _, F25, PySem.W.mg_of X G a25, b25⟩
  have F26 := fun_mk (st := s_law_rules) l26 c26 k26
  have b26 := F26.binds (ps := ["_law_well", "_law_width_so", "_law_kinds_here", "_law_most"]) fun _ _ _ _ _ _ us hl => match us, hl with | [_, _, _, _], _ => rfl
  let D26 : Df K mg "_law_rules" s_law_rules ["_law_well", "_law_width_so", "_law_kinds_here", "_law_most"] := ⟨_, _, F26, PySem.W.mg_of X G a26, b26⟩
  have F27 := fun_mk (st := s_law_plain) l27 c27 k27
  have b27 := F27.binds (ps := ["_law_kinds_here", "_law_rules_so", "_law_top_so", "_law_answers_so"]) fun _ _ _ _ _ _ us hl => match us, hl with | [_, _, _, _], _ => rfl
  let D27 : Df K mg "_law_plain" s_law_plain ["_law_kinds_here", "_law_rules_so", "_law_top_so", "_law_answers_so"] := ⟨_, _, F27, PySem.W.mg_of X G a27, b27⟩
  have F28 := fun_mk (st := s_law_raised) l28 c28 k28
  have b28 := F28.binds (ps := ["_law_width_so", "_law_counts_so", "_law_rules_so", "_law_top_so", "_law_answers_so"]) fun _ _ _ _ _ _ us hl => match us, hl with | [_, _, _, _, _], _ => rfl
  let D28 : Df K mg "_law_raised" s_law_raised ["_law_width_so", "_law_counts_so", "_law_rules_so", "_law_top_so", "_law_answers_so"] := ⟨_, _, F28, PySem.W.mg_of X G a28, b28⟩
  have F29 := fun_mk (st := s_law_grown_line) l29 c29 k29
  have b29 := F29.binds (ps := ["_law_well", "_law_width_so", "_law_line"]) fun _ _ _ _ _ _ us hl => match us, hl with | [_, _, _], _ => rfl
  let D29 : Df K mg "_law_grown_line" s_law_grown_line ["_law_well", "_law_width_so", "_law_line"] := ⟨_, _, F29, PySem.W.mg_of X G a29, b29⟩
  have F30 := fun_mk (st := s_law_bad_line) l30 c30 k30
  have b30 := F30.binds (ps := ["_law_well", "_law_counts_so", "_law_line"]) fun _ _ _ _ _ _ us hl => match us, hl with | [_, _, _], _ => rfl
  let D30 : Df K mg "_law_bad_line" s_law_bad_line ["_law_well", "_law_counts_so", "_law_line"] := ⟨_, _, F30, PySem.W.mg_of X G a30, b30⟩
  have F31 := fun_mk (st := s_law_spoilt_right) l31 c31 k31
  have b31 := F31.binds (ps := ["_law_well", "_law_width_so", "_law_counts_so", "_law_lines", "_law_front", "_law_asks"]) fun _ _ _ _ _ _ us hl => match us, hl with | [_, _, _, _, _, _], _ => rfl
  let D31 : Df K mg "_law_spoilt_right" s_law_spoilt_right ["_law_well", "_law_width_so", "_law_counts_so", "_law_lines", "_law_front", "_law_asks"] := ⟨_, _, F31, PySem.W.mg_of X G a31, b31⟩
  have F32 := fun_mk (st := s_law_right) l32 c32 k32
  have b32 := F32.binds (ps := ["_law_well"]) fun _ _ _ _ _ _ us hl => match us, hl with | [_], _ => rfl
  let D32 : Df K mg "_law_right" s_law_right ["_law_well"] := ⟨_, _, F32, PySem.W.mg_of X G a32, b32⟩
  have F33 := fun_mk (st := s_law) l33 c33 k33
  have b33 := F33.binds (ps := ["_law_script"]) fun _ _ _ _ _ _ us hl => match us, hl with | [_], _ => rfl
  let D33 : Df K mg "law" s_law ["_law_script"] := ⟨_, _, F33, PySem.W.mg_of X G a33, b33⟩
  have F34 := fun_mk (st := s_Code_init__) l34 c34 k34
  have b34 := F34.binds (ps := ["self", "width", "counts", "rules", "top", "answers"]) fun _ _ _ _ _ _ us hl => match us, hl with | [_, _, _, _, _, _], _ => rfl
  have F35 := fun_mk (st := s_NoCode_init__) l35 c35 k35
  have b35 := F35.binds (ps := ["self", "part", "index"]) fun _ _ _ _ _ _ us hl => match us, hl with | [_, _, _], _ => rfl
  have F36 := fun_mk (st := s_Code_eq__) l36 c36 k36
  have b36 := F36.binds (ps := ["self", "other"]) fun _ _ _ _ _ _ us hl => match us, hl with | [_, _], _ => rfl
  have v0 : OexC K eC := ⟨⟨_, _, _, _, _, _, _, _, _, _, _, _, _, _, _, ex, rfl⟩, esa, ehs, ety, ekC⟩
  let E0 : Ec K mg "NoCode" "NoCode.__init__" s_NoCode_init__ ["part", "index"] := ⟨eC, eI, _, v0, ei, et, PySem.W.mg_of X G em, F35, b35, ⟨ehg, ehk, ehs, ehd⟩, exm_of eex, fun f hf => (List.mem_cons.mp hf).elim (fun z => by rw [z]; exact en_part) fun z => by rw [List.mem_singleton.mp z]; exact en_index⟩
  let T : TL10 K mg := { int := PySem.W.mg_none_of X G z0, bool := PySem.W.mg_none_of X G z1, str := PySem.W.mg_none_of X G z2, list := PySem.W.mg_none_of X G z3, tuple := PySem.W.mg_none_of X G z4, dict := PySem.W.mg_none_of X G z5, set := PySem.W.mg_none_of X G z6, len := PySem.W.mg_none_of X G z7, all := PySem.W.mg_none_of X G z8, isinstance := PySem.W.mg_none_of X G z9, range := PySem.W.mg_none_of X G z10, zip := PySem.W.mg_none_of X G z11, enumerate := PySem.W.mg_none_of X G z12, MOST_KINDS := ⟨_, PySem.W.mg_of X G o0⟩, MOST_RULES := ⟨_, PySem.W.mg_of X G o1⟩, MOST_CHILDREN := ⟨_, PySem.W.mg_of X G o2⟩, MOST_NUMBERS := ⟨_, PySem.W.mg_of X G o3⟩, MOST_ANSWERS := ⟨_, PySem.W.mg_of X G o4⟩, MOST_REGISTERS := ⟨_, PySem.W.mg_of X G o5⟩, MOST_CODE_TERMS := ⟨_, PySem.W.mg_of X G o6⟩, NoCode := E0, is_integer := D0, is_between := D1, is_width := D2, is_sequence := D3, is_tuple := D4, is_row := D5, is_integers := D6, is_form := D7, is_sum := D8, is_term := D9, is_pick := D10, reduced := D11, reduced_sum := D12, checked_counts := D13, checked_code_rules := D14, is_code_rule := D15, wrong_answers := D16, checked_code_answers := D17, law_draw := D18, law_one := D19, law_number := D20, law_sum := D21, law_form := D22, law_answers := D23, law_rule := D24, law_kinds := D25, law_rules := D26, law_plain := D27, law_raised := D28, law_grown_line := D29, law_bad_line := D30, law_spoilt_right := D31, law_right := D32, gC := gC, gI := gI, dI := _, gm := PySem.W.mg_of X G gm, FI := F34, bI := b34, cl := ⟨pg, hd, po, sa⟩, nW := n_width, nC := n_counts, nR := n_rules, nT := n_top, nA := n_answers, mkc := ⟨mk, gi, gif, kc⟩, gE := gE, dE := _, FE := F36, bE := b36, eqc := ⟨ge, gef, gne, _, _, _, _, _, _, _, _, _, _, _, _, _, _, _, _, _, gx, rfl⟩, cc := cc, cs := cs, ct := ct, co := co, k1 := kit1_of kt }
  exact ⟨_, fun s v => .of_eq rfl, fun base _ _ => ok_law T D33⟩
end K39
open PySem PySem.W PyProof.Rows
set_option maxRecDepth 100000 in
set_option maxHeartbeats 0 in
theorem PySem.Challenge.cw_leastattr_k39_codes_made_and_refused_holds : PySem.Challenge.rw_leastattr_k39_codes_made_and_refused.Holds := by
  w_on; o_law; k_head; (case hw => w_witness2)
  k_fill
  refine L2.walk_of (l := PySem.Challenge.rw_leastattr_k39_codes_made_and_refused) (n := 63) (k := 14) (x := "_law_script") (CX := fun _ => L2.CX0) (sp := fun w => K39.spLaw _) rfl (by decide) rfl ⟨rfl, by decide, by decide⟩ (fun w h Y => PySem.W.kIn_of Y) ?F (fun _ _ a ns hl _ hS => ⟨a, ns, rfl, hS, hl, fun _ => rfl⟩) (fun _ _ _ _ _ h => h)
  case F =>
    intro w mg fa h KX G hmg
    refine' K39.all_mk KX G hmg ?a0 ?l0 ?c0 ?k0 ?a1 ?l1 ?c1 ?k1 ?a2 ?l2 ?c2 ?k2 ?a3 ?l3 ?c3 ?k3 ?a4 ?l4 ?c4 ?k4 ?a5 ?l5 ?c5 ?k5 ?a6 ?l6 ?c6 ?k6 ?a7 ?l7 ?c7 ?k7 ?a8 ?l8 ?c8 ?k8 ?a9 ?l9 ?c9 ?k9 ?a10 ?l10 ?c10 ?k10 ?a11 ?l11 ?c11 ?k11 ?a12 ?l12 ?c12 ?k12 ?a13 ?l13 ?c13 ?k13 ?a14 ?l14 ?c14 ?k14 ?a15 ?l15 ?c15 ?k15 ?a16 ?l16 ?c16 ?k16 ?a17 ?l17 ?c17 ?k17 ?a18 ?l18 ?c18 ?k18 ?a19 ?l19 ?c19 ?k19 ?a20 ?l20 ?c20 ?k20 ?a21 ?l21 ?c21 ?k21 ?a22 ?l22 ?c22 ?k22 ?a23 ?l23 ?c23 ?k23 ?a24 ?l24 ?c24 ?k24 ?a25 ?l25 ?c25 ?k25 ?a26 ?l26 ?c26 ?k26 ?a27 ?l27 ?c27 ?k27 ?a28 ?l28 ?c28 ?k28 ?a29 ?l29 ?c29 ?k29 ?a30 ?l30 ?c30 ?k30 ?a31 ?l31 ?c31 ?k31 ?a32 ?l32 ?c32 ?k32 ?a33 ?l33 ?c33 ?k33 ?z0 ?z1 ?z2 ?z3 ?z4 ?z5 ?z6 ?z7 ?z8 ?z9 ?z10 ?z11 ?z12 ?o0 ?o1 ?o2 ?o3 ?o4 ?o5 ?o6 ?gm ?gi ?gif ?l34 ?c34 ?k34 ?pg ?hd ?po ?sa ?mk ?kc ?n_width ?n_counts ?n_rules ?n_top ?n_answers ?em ?ex ?esa ?ety ?ekC ?ehg ?ehk ?ehs ?ehd ?ei ?et ?l35 ?c35 ?k35 ?en_part ?en_index ?eex ?ge ?gef ?l36 ?c36 ?k36 ?gne ?gx ?cc ?cs ?ct ?co ?kt
    (case a0 => k_is)
    (case l0 => k_is)
    (case c0 => k_is)
    (case k0 => k_is)
    (case a1 => k_is)
    (case l1 => k_is)
    (case c1 => k_is)
    (case k1 => k_is)
    (case a2 => k_is)
    (case l2 => k_is)
    (case c2 => k_is)
    (case k2 => k_is)
    (case a3 => k_is)
    (case l3 => k_is)
    (case c3 => k_is)
    (case k3 => k_is)
    (case a4 => k_is)
    (case l4 => k_is)
    (case c4 => k_is)
    (case k4 => k_is)
    (case a5 => k_is)
    (case l5 => k_is)
    (case c5 => k_is)
    (case k5 => k_is)
    (case a6 => k_is)
    (case l6 => k_is)
    (case c6 => k_is)
    (case k6 => k_is)
    (case a7 => k_is)
    (case l7 => k_is)
    (case c7 => k_is)
    (case k7 => k_is)
    (case a8 => k_is)
    (case l8 => k_is)
    (case c8 => k_is)
    (case k8 => k_is)
    (case a9 => k_is)
    (case l9 => k_is)
    (case c9 => k_is)
    (case k9 => k_is)
    (case a10 => k_is)
    (case l10 => k_is)
    (case c10 => k_is)
    (case k10 => k_is)
    (case a11 => k_is)
    (case l11 => k_is)
    (case c11 => k_is)
    (case k11 => k_is)
    (case a12 => k_is)
    (case l12 => k_is)
    (case c12 => k_is)
    (case k12 => k_is)
    (case a13 => k_is)
    (case l13 => k_is)
    (case c13 => k_is)
    (case k13 => k_is)
    (case a14 => k_is)
    (case l14 => k_is)
    (case c14 => k_is)
    (case k14 => k_is)
    (case a15 => k_is)
    (case l15 => k_is)
    (case c15 => k_is)
    (case k15 => k_is)
    (case a16 => k_is)
    (case l16 => k_is)
    (case c16 => k_is)
    (case k16 => k_is)
    (case a17 => k_is)
    (case l17 => k_is)
    (case c17 => k_is)
    (case k17 => k_is)
    (case a18 => k_is)
    (case l18 => k_is)
    (case c18 => k_is)
    (case k18 => k_is)
    (case a19 => k_is)
    (case l19 => k_is)
    (case c19 => k_is)
    (case k19 => k_is)
    (case a20 => k_is)
    (case l20 => k_is)
    (case c20 => k_is)
    (case k20 => k_is)
    (case a21 => k_is)
    (case l21 => k_is)
    (case c21 => k_is)
    (case k21 => k_is)
    (case a22 => k_is)
    (case l22 => k_is)
    (case c22 => k_is)
    (case k22 => k_is)
    (case a23 => k_is)
    (case l23 => k_is)
    (case c23 => k_is)
    (case k23 => k_is)
    (case a24 => k_is)
    (case l24 => k_is)
    (case c24 => k_is)
    (case k24 => k_is)
    (case a25 => k_is)
    (case l25 => k_is)
    (case c25 => k_is)
    (case k25 => k_is)
    (case a26 => k_is)
    (case l26 => k_is)
    (case c26 => k_is)
    (case k26 => k_is)
    (case a27 => k_is)
    (case l27 => k_is)
    (case c27 => k_is)
    (case k27 => k_is)
    (case a28 => k_is)
    (case l28 => k_is)
    (case c28 => k_is)
    (case k28 => k_is)
    (case a29 => k_is)
    (case l29 => k_is)
    (case c29 => k_is)
    (case k29 => k_is)
    (case a30 => k_is)
    (case l30 => k_is)
    (case c30 => k_is)
    (case k30 => k_is)
    (case a31 => k_is)
    (case l31 => k_is)
    (case c31 => k_is)
    (case k31 => k_is)
    (case a32 => k_is)
    (case l32 => k_is)
    (case c32 => k_is)
    (case k32 => k_is)
    (case a33 => k_is)
    (case l33 => k_is)
    (case c33 => k_is)
    (case k33 => k_is)
    (case z0 => k_is)
    (case z1 => k_is)
    (case z2 => k_is)
    (case z3 => k_is)
    (case z4 => k_is)
    (case z5 => k_is)
    (case z6 => k_is)
    (case z7 => k_is)
    (case z8 => k_is)
    (case z9 => k_is)
    (case z10 => k_is)
    (case z11 => k_is)
    (case z12 => k_is)
    (case o0 => k_is)
    (case o1 => k_is)
    (case o2 => k_is)
    (case o3 => k_is)
    (case o4 => k_is)
    (case o5 => k_is)
    (case o6 => k_is)
    (case gm => k_is)
    (case gi => k_is)
    (case gif => k_is)
    (case l34 => k_is)
    (case c34 => k_is)
    (case k34 => k_is)
    (case pg => k_is)
    (case hd => k_is)
    (case po => k_is)
    (case sa => k_is)
    (case mk => k_is)
    (case kc => k_is)
    (case n_width => k_is)
    (case n_counts => k_is)
    (case n_rules => k_is)
    (case n_top => k_is)
    (case n_answers => k_is)
    (case em => k_is)
    (case ex => k_is)
    (case esa => k_is)
    (case ety => k_is)
    (case ekC => k_is)
    (case ehg => k_is)
    (case ehk => k_is)
    (case ehs => k_is)
    (case ehd => k_is)
    (case ei => k_is)
    (case et => k_is)
    (case l35 => k_is)
    (case c35 => k_is)
    (case k35 => k_is)
    (case en_part => k_is)
    (case en_index => k_is)
    (case eex => kernel_rfl)
    (case ge => k_is)
    (case gef => k_is)
    (case l36 => k_is)
    (case c36 => k_is)
    (case k36 => k_is)
    (case gne => k_is)
    (case gx => k_is)
    (case cc => k_is)
    (case cs => k_is)
    (case ct => k_is)
    (case co => k_is)
    (case kt => kernel_rfl)
