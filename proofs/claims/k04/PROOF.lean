import PyProof.Rows.All
import Wide.All
import OpenK.AllK
import Wide.FinOn
import HandS.ForMost
import HandS.Exc
import HandS.ExcInit
import HandS.ExcIs
import HandS.ExcField
import HandS.Evl
import HandS.Defaults
import HandS.IsInst
import HandS.ExcValue
import HandS.ExcBuiltin
import HandS.Wide
import HandS.MakeKwOnly
import KE.KExcIs
import PySem.Challenge.RW_leastattr_k04_exceptions
set_option Elab.async false
set_option linter.all false
set_option maxRecDepth 100000
set_option maxHeartbeats 4000000
/-! Exceptions as values: made by position or by name, their fields, isinstance. -/
namespace Exv
open PySem PySem.Spec PySem.W PySem.Calls PySem.HandSPX
section
variable {M : Model} {A : Around} {E : Value → Shared → Prop} {h : Heap} {g : Array GenState} {d : Drawn} {t : Nat} {os : OsState}
variable {nm q : Str} {C N : Addr} {bs bm bmB : List Value} {hdct : Bool} {sn : List Str} {sub : List Value} {ab : Bool} {col : Option Bool} {dd : Option Addr} {k0 k1 k2 k3 k5 : Option Value} {B newId initId : String}

theorem check_newK (F : ExcBaseFacts B newId initId bmB) (tail : ∀ X : String, bm.contains (.type X) = bmB.contains (.type X)) {rest : List Value} {kw : List (Str × Value)} {Q : Unit → Shared → Prop}
    (atC : h.get? C = some (excClassObj nm q C N bs bm hdct sn sub ab col dd k0 k1 k2 k3 k5 newId)) (go : Q () ⟨h, g, d, t, os⟩) : wpAny M A (checkBuiltinCall newId ⟨.ref C :: rest, kw⟩) Q E ⟨h, g, d, t, os⟩ := by
  have c0 : (Value.ref C :: bm).contains (.type B) = true := by rw [List.contains_cons, tail, F.hasB, Bool.or_true]
  have nst := F.noStar
  simp only [checkBuiltinCall, F.newKind, F.newSplit, F.newRow]
  repeat (first | refine wpAny_loadPart_at atC ?_ | (refine wpAny_isSubtype_exc atC ?_; rw [c0]) | refine wpAny_staticBase_exc atC ?_ | refine wpAny_madeBy_exc atC ?_ | simp only [bne_self_eq_false, Bool.false_eq_true, if_false] | wp_step)
  exact go
end
section
variable {prog : Program} {w : World} {A : Around} {E : Value → Shared → Prop} {R : Result → Shared → Prop} {h : Heap} {g : Array GenState} {d : Drawn} {t : Nat} {os : OsState}
variable {nm q : Str} {C N : Addr} {bs bm bmB : List Value} {hdct : Bool} {sn : List Str} {sub : List Value} {ab : Bool} {col : Option Bool} {dd : Option Addr} {k0 k1 k2 k3 k5 : Option Value} {B newId initId : String}

theorem newK (F : ExcBaseFacts B newId initId bmB) (tail : ∀ X : String, bm.contains (.type X) = bmB.contains (.type X)) {rest : List Value} {kw : List (Str × Value)}
    (atC : h.get? C = some (excClassObj nm q C N bs bm hdct sn sub ab col dd k0 k1 k2 k3 k5 newId))
    (go : R (.ok (.ret (.ref (h.objs.size + 1)))) ⟨(h.push { cls := .type "tuple", data := .seq rest.toArray }).push
      { cls := .ref C, data := .fields #[.ref h.objs.size, .none, .none, .none, .bool false, .none] }, g, d, t, os⟩) (fits : rest.length ≤ sizeLine) :
    codeAny (model prog w) A (.builtin newId ⟨.ref C :: rest, kw⟩) R ⟨h, g, d, t, os⟩ := by
  have fin0 := F.ends
  have c1 : (Value.ref C :: bm).contains (.type B) = true := by rw [List.contains_cons, tail, F.hasB, Bool.or_true]
  have c2 : (Value.ref C :: bm).contains (.type "AttributeError") = false := by rw [List.contains_cons, tail, F.noAttr]; rfl
  have c3 : (Value.ref C :: bm).contains (.type "NameError") = false := by rw [List.contains_cons, tail, F.noName]; rfl
  refine PySem.codeAny_builtinAt F.entry ?_
  unfold Builtin.«BaseException.__new__»
  refine PySem.wpAt_bind ?_
  show PySem.wpAt _ _ _ (stack >>= _) _ _ _
  refine PySem.wpAt_bind (PySem.wpAt_stack fun p below => PySem.wpAt_of_wpAny ?_)
  wp_walk
  refine PySem.wpAt_of_wpAny ?_
  rw [F.owner]
  repeat (first | with_reducible refine wpAny_madeHere_exc F.canon atC ?_ | with_reducible refine wpAny_loadPart_at atC ?_ | (with_reducible refine wpAny_isSubtype_exc atC ?_; first | rw [c1] | rw [c2] | rw [c3]) | wp_step)
  show R _ _
  rw [Heap.size_push]
  exact go

theorem type_callK (F : ExcBaseFacts B newId initId bmB) (tail : ∀ X : String, bm.contains (.type X) = bmB.contains (.type X)) {rest : List Value} {kw : List (Str × Value)} {fI : Addr} {Q : Fin → Shared → Prop}
    (atC : h.get? C = some (excClassObj nm q C N bs bm hdct sn sub ab col dd k0 k1 k2 k3 k5 newId))
    (ini : W.Looks (model prog w) h (typeLookup (.ref C) "__init__") (some (.ref fI))) (bnd : ∀ self, W.Looks (model prog w) h (bindSpecial (.ref fI) self) (.ref fI, [self])) (fits : rest.length ≤ sizeLine)
    (go : codeAny (model prog w) A (.call (.ref fI) ⟨.ref (h.objs.size + 1) :: rest, kw⟩)
      (fun r s' => match r with | .ok (.ret v) => v = .none ∧ Q (.done (.ret (.ref (h.objs.size + 1)))) s' | .ok _ => False | .error e => E e s')
      ⟨(h.push (W.kdv_tup rest)).push (excO C h.objs.size), g, d, t, os⟩) :
    wpAny (model prog w) A (Builtin.«type.__call__» ⟨.ref C :: rest, kw⟩) Q E ⟨h, g, d, t, os⟩ := by
  repeat (first | with_reducible refine wpAny_loadPart_at atC ?_ | with_reducible refine wpAny_madeBy_exc atC ?_ | wp_step)
  refine codeAny_call_builtin_code (Code.quiet_builtin _ F.quiet) (check_newK F tail atC ?_)
  refine newK F tail atC ?_ fits
  show wpAny _ _ _ _ _ _
  have kp : ∀ b o, h.get? b = some o → ((h.push (W.kdv_tup rest)).push (excO C h.objs.size)).get? b = some o := fun b o e => Heap.get?_push_of_some _ (Heap.get?_push_of_some _ e)
  have hC₁ := kp _ _ atC
  have got : ((h.push (W.kdv_tup rest)).push (excO C h.objs.size)).get? (h.objs.size + 1) = some (excO C h.objs.size) := by heap_get
  have c4 : (Value.ref C :: bm).contains (.ref C) = true := by simp
  have ini1 := ini.keeps kp
  have bnd1 := (bnd (.ref (h.objs.size + 1))).keeps kp
  unfold isInstance
  repeat (first | with_reducible refine wpAny_loadPart_at got ?_ | (with_reducible refine wpAny_isSubtype_exc hC₁ ?_; rw [c4]) | wp_step)
  show wpAny _ _ (typeLookup (.ref C) _) _ _ _
  refine ini1.at ?_
  refine wpAny_holding (wpAny_bind (bnd1.at ?_))
  refine wpAny_bind (wpAny_call (codeAny_mono go fun r s' z => ?_))
  rcases r with e | (v | _ | _ | _) <;> first | exact z | exact z.elim | skip
  obtain ⟨rfl, z⟩ := z
  first
    | exact wpAny_pure (wpAny_pure z)
    | (wp_walk; exact z)

theorem call_ownK (F : ExcBaseFacts B newId initId bmB) (tail : ∀ X : String, bm.contains (.type X) = bmB.contains (.type X)) {rest : List Value} {kw : List (Str × Value)} {fI : Addr}
    (atC : h.get? C = some (excClassObj nm q C N bs bm hdct sn sub ab col dd k0 k1 k2 k3 k5 newId))
    (ini : W.Looks (model prog w) h (typeLookup (.ref C) "__init__") (some (.ref fI))) (bnd : ∀ self, W.Looks (model prog w) h (bindSpecial (.ref fI) self) (.ref fI, [self])) (fits : rest.length ≤ sizeLine)
    (go : codeAny (model prog w) (A.under (.builtin "type.__call__" ⟨.ref C :: rest, kw⟩)) (.call (.ref fI) ⟨.ref (h.objs.size + 1) :: rest, kw⟩) (W.InitBack (h.objs.size + 1) R)
      ⟨(h.push (W.kdv_tup rest)).push (excO C h.objs.size), g, d, t, os⟩) :
    codeAny (model prog w) A (.call (.ref C) ⟨rest, kw⟩) R ⟨h, g, d, t, os⟩ := by
  have look0 := tc_lookup
  have bind0 := tc_bind (.ref C)
  have ty0 : (⟨h, g, d, t, os⟩ : Shared).TypeIs (.ref C) "type" := ⟨_, atC, rfl⟩
  refine codeAny_of_tree ?_
  show wpAny _ _ (callAny (.ref C) _) _ _ _
  repeat (any_goals (first | assumption | with_reducible refine wpAny_loadPart_at atC ?_ | wp_step))
  refine ⟨rfl, ?_⟩
  refine codeAny_call_builtin_at (Code.quiet_builtin _ (by decide +kernel)) entry_typeCall (wpAny_check_type_call_sub atC (type_callK F tail atC ini bnd fits ?_))
  refine codeAny_mono go fun r s' z => ?_
  rcases r with e | (v | _ | _ | _) <;> exact z
end
end Exv

namespace L2
open PySem PySem.Spec PyProof.Rows
/-- at a: an exception of the class at C, its fields fs -/
def ExcAt (H : Hp) (a C : Addr) (fs : List (Str × V)) : Prop := ∃ d, H a = some (exo a C (some d)) ∧ H d = some (exd d fs)
theorem ExcAt.mono {H H' : Hp} {a C : Addr} {fs : List (Str × V)} (e : ∀ b o, H b = some o → H' b = some o) (x : ExcAt H a C fs) : ExcAt H' a C fs :=
  let ⟨d, h1, h2⟩ := x; ⟨d, e _ _ h1, e _ _ h2⟩
/-- C(e, ..) of an exception class with its own __init__ -/
def tMkE (C : Addr) (sp : Sp) (ta : TA) : TE := fun σ H Q => ta σ H fun vs H1 => vs.length ≤ 1000 ∧ ∀ a, H1 a = none → sp (.ref a :: vs) (upd H1 a (exo a C none)) (fun v H2 => v = .non ∧ Q (.ref a) H2) (fun _ _ _ => False)
def tMkEK (C : Addr) (sp : Sp) (gV : List V → List V → List V) (n : Nat) (tk : TA) : TE := fun σ H Q => tk σ H fun zs H1 => zs.length = n ∧ ∀ a, H1 a = none → sp (gV [.ref a] zs) (upd H1 a (exo a C none)) (fun v H2 => v = .non ∧ Q (.ref a) H2) (fun _ _ _ => False)
/-- e.f of an exception -/
def tXv (K : PySem.W.Frag) (f : Str) (ta : TE) : TE := fun σ H Q => ta σ H fun x H1 => ∃ (a C : Addr) (fs : List (Str × V)) (v : V), x = .ref a ∧ ExcAt H1 a C fs ∧ XfC K C ∧ PySem.W.findIn K (.ref C) f = some none ∧ fs.lookup f = some v ∧ Q v H1
/-- isinstance(e, c) -/
def rIsX (K : PySem.W.Frag) : List V → Hp → VK → Prop := fun xs H Q => ∃ (a C : Addr) (c : V) (cv : Value) (b : Bool), xs = [.ref a, c] ∧ (H a = some (exo a C none) ∨ ∃ fs, ExcAt H a C fs) ∧ ClsV c cv ∧ ExcC K C ∧ PySem.W.kitOne K (.ref C) cv = some b ∧ Q (.bl b) H
section
variable {X : Cx} {k : Nat} {fI C : Addr} {fd : FuncData} {ps ks : List Str} {sp : Sp} {x f : Str} {p pos : Pos} {e : Expr} {es : List Expr} {kws : List Keyword} {ta tk : TA} {te : TE} {g : List Value → List Value → List Value} {gV : List V → List V → List V}
theorem run_exc {pins : List (Addr × Obj)} {σ : St} {H : Hp} {s : Shared} {Q : VK} {us : List Value} {kw : List (Str × Value)} {gv : Addr → List V} {gu : Addr → List Value} (T : OexC X.K C) (iC : PySem.W.findIn X.K (.ref C) "__init__" = some (some (.ref fI))) (tI : PySem.W.typeIn X.K (.ref fI) = some (.type "function"))
    (F1 : FnOk X.prog X.w X.K X.mg X.base CX0 k fI fd ps sp) (hr : Room (k + 1) X.A) (hb : ∀ (s : Shared) (a : Addr), X.K.In s.heap → BindsTo s fd ⟨.ref a :: us, kw⟩ (ps.zip (gu a)))
    (I : Inv X pins σ H s) (r : ∀ a, Vals (gv a) (gu a)) (hus : us.length ≤ sizeLine)
    (h : ∀ a, H a = none → sp (gv a) (upd H a (exo a C none)) (fun v H2 => v = .non ∧ Q (.ref a) H2) (fun _ _ _ => False)) :
    wpAny (model X.prog X.w) X.A (call (.ref C) us kw) (EP X pins σ Q) X.xe s := by
  obtain ⟨nm, q, N, bs, bm, sn, sub, ab, col, dd, k0, k1, k2, k3, k5, hC, hbm⟩ := T.cls
  obtain ⟨hp, gg, dr, tk, os⟩ := s
  have hsz : hp.objs.size ≤ hp.objs.size + 1 := Nat.le_succ _
  have hn : H (hp.objs.size + 1) = none := I.hok.fresh hsz
  have hq := h (hp.objs.size + 1) hn
  have kk : ∀ b o, hp.get? b = some o → ((hp.push (PySem.W.kdv_tup us)).push (PySem.HandSPX.excO C hp.objs.size)).get? b = some o := fun b o e => Heap.get?_push_of_some _ (Heap.get?_push_of_some _ e)
  have hget : ((hp.push (PySem.W.kdv_tup us)).push (PySem.HandSPX.excO C hp.objs.size)).get? (hp.objs.size + 1) = some (PySem.HandSPX.excO C hp.objs.size) := by heap_get
  have I2 : Inv X pins σ (upd H (hp.objs.size + 1) (exo (hp.objs.size + 1) C none)) ⟨(hp.push (PySem.W.kdv_tup us)).push (PySem.HandSPX.excO C hp.objs.size), gg, dr, tk, os⟩ :=
    I.laid (t' := tk) (a := hp.objs.size + 1) (o := exo (hp.objs.size + 1) C none) (h' := (hp.push (PySem.W.kdv_tup us)).push (PySem.HandSPX.excO C hp.objs.size)) kk hsz (exo_ok hget)
  refine wpAny_call (Exv.call_ownK F.excBase_ValueError (fun Y => PySem.HandSPX.refsVE_contains Y bm hbm) (I.kIn _ _ hC) (PySem.W.looks_findIn I.kIn iC) (fun self => PySem.W.bind_fn I.kIn self tI) hus
    (codeAny_mono (F1.run _ X.stack _ _ ⟨Value.ref (hp.objs.size + 1) :: us, kw⟩ (gu (hp.objs.size + 1)) _ _ (fun _ _ _ => False) (hr.make C us kw) (I2.env0.make C us kw) (hb _ (hp.objs.size + 1) I2.kIn) (r _) hq) fun r s' hq' => ?_))
  cases r with
  | error er => exact False.elim hq'
  | ok fl =>
    cases fl with
    | ret u =>
      obtain ⟨v, H', I3, rv, ev, q3⟩ := I2.after hq'
      subst ev
      exact ⟨rv, ⟨V.ref (hp.objs.size + 1), H', I3, rfl, q3⟩⟩
    | next => exact False.elim hq'
    | brk => exact False.elim hq'
    | cont => exact False.elim hq'
theorem pe_exc (T : OexC X.K C) (iC : PySem.W.findIn X.K (.ref C) "__init__" = some (some (.ref fI))) (tI : PySem.W.typeIn X.K (.ref fI) = some (.type "function"))
    (F1 : FnOk X.prog X.w X.K X.mg X.base CX0 k fI fd ps sp) (hr : Room (k + 1) X.A) (hb : Binds X.K fd ps []) (hm : X.mg x = some (.ref C)) (ha : PA X (e :: es) ta) (hg : Gl X x := by rfl)
    (hdb : (x == ("__debug__" : Str)) = false := by decide) (he : starEach (e :: es) X.env = (false, eval e X.env) :: starEach es X.env := by rfl) (hpl : (backTo pos (starEach es X.env)).any (·.1) = false := by rfl) :
    PE X (.Call (.Name x p) (e :: es) [] pos) (tMkE C sp ta) := by
  refine ⟨fun pins s σ H Q I h => ?_⟩
  refine wpAny_Call_Name_kw (ld_glob I hg hm ?_ hdb)
  refine PySem.W.callWith_K (h₀ := X.base) I.ok.mod.kin T.kC (thn (ha.run pos pins s σ H _ I h) fun us s1 ⟨vs, H1, I1, r1, hz, q1⟩ => ⟨I1.kIn, ?_⟩) he hpl
  show wpAny _ _ (call (.ref C) us) _ _ _
  have hus : us.length ≤ sizeLine := by
    rw [← Paired.length r1, sizeLine_eq]
    omega
  have hl : ∀ a, (Value.ref a :: us).length = ps.length := fun a => by
    have e1 := F1.len _ _ _ _ (q1 s1.heap.objs.size (I1.hok.fresh (Nat.le_refl _)))
    rw [← e1, List.length_cons, List.length_cons, ← Paired.length r1]
  refine run_exc (gv := fun a => .ref a :: vs) (gu := fun a => .ref a :: us) T iC tI F1 hr (fun s a hK => ?_) I1 (fun a => .cons rfl r1) hus q1
  have z := hb s (Value.ref a :: us) hK (by rw [List.append_nil]; exact hl a)
  rw [List.append_nil] at z
  exact z
theorem pe_excK (T : OexC X.K C) (iC : PySem.W.findIn X.K (.ref C) "__init__" = some (some (.ref fI))) (tI : PySem.W.typeIn X.K (.ref fI) = some (.type "function"))
    (F1 : FnOk X.prog X.w X.K X.mg X.base CX0 k fI fd ps sp) (hr : Room (k + 1) X.A) (hb : KBn X.K fd ps 1 ks g gV) (hm : X.mg x = some (.ref C)) (hkw : PK X kws tk) (hg : Gl X x := by rfl)
    (hall : (backToKw pos (keywordEach kws X.env)).all (·.1.isSome) = true := by rfl) (hks : (backToKw pos (keywordEach kws X.env)).filterMap (·.1) = ks := by rfl) (hdb : (x == ("__debug__" : Str)) = false := by decide)
    (hpl : ((backTo pos (starEach [] X.env)).any (·.1) || (backToKw pos (keywordEach kws X.env)).any (·.1.isNone)) = false := by rfl) :
    PE X (.Call (.Name x p) [] kws pos) (tMkEK C sp gV ks.length tk) := by
  refine ⟨fun pins s σ H Q I h => ?_⟩
  refine wpAny_Call_Name_kw (ld_glob I hg hm ?_ hdb)
  refine PySem.W.callWith_KW0 (h₀ := X.base) I.ok.mod.kin T.kC hall ?_ hpl
  refine thn (hkw.run pos pins s σ H _ I h) fun ws s2 ⟨zs, H2, I2, rz, l2, q2⟩ => ⟨I2.kIn, ?_⟩
  rw [hks]
  exact run_exc (us := []) (gv := fun a => gV [.ref a] zs) (gu := fun a => g [.ref a] ws) T iC tI F1 hr (fun s a hK => hb.to s [.ref a] ws hK rfl (rz.length.symm.trans l2)) I2 (fun a => hb.rel (.cons rfl .nil) rz) (by rw [sizeLine_eq]; decide) q2
theorem pe_xv (he : PE X e te) (hb : attributeBase e f X.env (eval e X.env) = eval e X.env := by rfl) : PE X (.Attribute e f pos) (tXv X.K f te) := by
  refine ⟨fun pins s σ H Q I h => ?_⟩
  refine attr_of hb (thn (he.run pins s σ H _ I h) fun u s1 hh => ?_)
  obtain ⟨x, H1, I1, rx, a, C, fs, v, ex, ⟨d, ea, ed⟩, T, hno, l, q⟩ := hh
  subst ex
  obtain rfl : u = Value.ref a := rx
  obtain ⟨t1, ho⟩ := exo_at I1.hok ea
  obtain ⟨mA, hns, hr⟩ := exd_at I1.hok ed
  obtain ⟨od, hod, hl⟩ := lookIn_ns hns
  obtain ⟨u, hu, ru⟩ := RelO.some_of (v := v) (o := mA f) (by rw [← l]; exact hr f)
  have J : PySem.W.InstAt s1.heap a { cls := .ref C, dict := some d, data := .fields #[.ref t1, .none, .none, .none, .bool false, .none] } C (some od) := ⟨ho, rfl, rfl, hod⟩
  exact HandSPX.exc_get I1.kIn J T.ga T.gg T.exC (PySem.W.findObj_own T.hdC hno rfl (by rw [hl, hu])) (handed_of ru) ⟨v, H1, I1.tok _, ru, q⟩
theorem call_isX : CallR X (.builtin "isinstance") (rIsX X.K) := by
  intro pins s σ H xs us Q I r h
  obtain ⟨a, C, c, cv, b, rfl, hx, hcv, T, e, q⟩ := h
  cases r with
  | cons rx rr =>
    cases rr with
    | cons rt rr =>
      cases rr
      cases rx
      have ec := hcv.eq rt
      subst ec
      have hcl : (PySem.W.clsIn X.K C).isSome = true := by
        obtain ⟨cd, hc, _⟩ := PySem.W.any_some T.hd
        rw [hc] <;> rfl
      rcases hx with ea | ⟨fs, d, ea, ed⟩
      · obtain ⟨t1, ho⟩ := exo_at I.hok ea
        have J : PySem.W.InstAt s.heap a { cls := .ref C, dict := none, data := .fields #[.ref t1, .none, .none, .none, .bool false, .none] } C none := ⟨ho, rfl, rfl, trivial⟩
        exact PySem.W.kia_one (PySem.W.kitx_exc hcl T.hg T.hk T.hs T.ha T.hn T.ht T.hm) I.kIn J e (fun z => nomatch z) fun tk => ⟨.bl b, H, I.tok tk, rfl, q⟩
      · obtain ⟨t1, ho⟩ := exo_at I.hok ea
        obtain ⟨mA, hns, hr⟩ := exd_at I.hok ed
        obtain ⟨od, hod, hl⟩ := lookIn_ns hns
        have J : PySem.W.InstAt s.heap a { cls := .ref C, dict := some d, data := .fields #[.ref t1, .none, .none, .none, .bool false, .none] } C (some od) := ⟨ho, rfl, rfl, hod⟩
        exact PySem.W.kia_one (PySem.W.kitx_exc hcl T.hg T.hk T.hs T.ha T.hn T.ht T.hm) I.kIn J e (fun z => nomatch z) fun tk => ⟨.bl b, H, I.tok tk, rfl, q⟩
end
end L2

namespace L2
open PySem PySem.Spec PyProof.Rows
/-- at a: an object whose class is the built-in T -/
def exb (a : Addr) (T : String) : HO := .ext fun h => PySem.W.KitAt a T h
theorem exb_ok {P : Program} {w : World} {H : Hp} {h : Heap} {a : Addr} {T : String} {o : Obj} (e : h.get? a = some o) (c : o.cls = .type T) : ObjOk P w H h a (exb a T) :=
  ⟨⟨o, e, c⟩, ⟨o, e⟩, fun _ _ ⟨o, q, r⟩ k => ⟨o, k o q, r⟩⟩
theorem exb_at {P : Program} {w : World} {H : Hp} {h : Heap} {a : Addr} {T : String} (hok : HOk P w H h) (e : H a = some (exb a T)) : PySem.W.KitAt a T h := by
  have x : ObjOk P w H h a (.ext fun h => PySem.W.KitAt a T h) := hok a _ e
  exact x.1
/-- isinstance(e, c), e of the built-in class ValueError -/
def rIsB (K : PySem.W.Frag) : List V → Hp → VK → Prop := fun xs H Q => ∃ (a : Addr) (c : V) (cv : Value) (b : Bool), xs = [.ref a, c] ∧ H a = some (exb a "ValueError") ∧ ClsV c cv ∧ PySem.W.kitOne K (.type "ValueError") cv = some b ∧ Q (.bl b) H
section
variable {X : Cx} {C : Addr} {x : Str} {p pos : Pos} {e : Expr} {es : List Expr} {ta : TA}
theorem call_isB : CallR X (.builtin "isinstance") (rIsB X.K) := by
  intro pins s σ H xs us Q I r h
  obtain ⟨a, c, cv, b, rfl, ea, hcv, e, q⟩ := h
  cases r with
  | cons rx rr =>
    cases rr with
    | cons rt rr =>
      cases rr
      cases rx
      have ec := hcv.eq rt
      subst ec
      exact PySem.W.kia_one (PySem.W.kitx_bexc PySem.F.excAttr_ValueError PySem.F.lkClass_ValueError PySem.F.soClass_ValueError (by decide +kernel)) I.kIn (exb_at I.hok ea) e (fun z => nomatch z) fun tk => ⟨.bl b, H, I.tok tk, rfl, q⟩
/-- ValueError(e, ..) as a value -/
theorem pe_ve (hg : Gl X "ValueError") (hm : X.mg "ValueError" = none) (ha : PA X (e :: es) ta)
    (he : starEach (e :: es) X.env = (false, eval e X.env) :: starEach es X.env := by rfl) (hpl : (backTo pos (starEach es X.env)).any (·.1) = false := by rfl) :
    PE X (.Call (.Name "ValueError" p) (e :: es) [] pos) (fun σ H Q => ta σ H fun vs H1 => vs.length ≤ sizeLine ∧ ∀ a, H1 a = none → Q (.ref a) (upd H1 a (exb a "ValueError"))) := by
  refine ⟨fun pins s σ H Q J h => ?_⟩
  refine wpAny_Call_Name_kw (ld_blt J hg hm boot_ValueError ?_)
  refine PyProof.Rows.callWith_type1 (thn (ha.run pos pins s σ H _ J h) fun us s1 hh => ?_) he hpl
  obtain ⟨vs, H1, I1, r1, q0, q1⟩ := hh
  obtain ⟨hp1, g1, d1, tk1, os1⟩ := s1
  refine wpAny_call_exc exb_ValueError.call (fun h' a mk => ?_) (Nat.le_trans (Nat.le_of_eq r1.length.symm) q0)
  have hn : H1 a = none := I1.hok.gone mk.new
  obtain ⟨t0, ha', _, _⟩ := mk.there
  exact ⟨.ref a, _, I1.laidN (t' := tk1) mk.keeps mk.new hn (exb_ok ha' rfl), rfl, q1 a hn⟩
/-- C(), C an exception class without __init__ of its own -/
theorem pe_exc0 (q : PySem.W.excIn X.K C [.type "ValueError", .type "Exception", .type "BaseException", .type "object"] "ValueError.__new__" = true) (gC : X.mg x = some (.ref C)) (kC : PySem.W.keepIn X.K (.ref C) = true) (hg : Gl X x := by rfl)
    (hdb : (x == ("__debug__" : Str)) = false := by decide) :
    PE X (.Call (.Name x p) [] [] pos) (fun _ H Q => ∀ a, H a = none → Q (.ref a) (upd H a (exo a C none))) := by
  refine ⟨fun pins s σ H Q I h => ?_⟩
  refine wpAny_Call_Name_kw (ld_glob I hg gC ?_ hdb)
  refine PySem.W.callWith_K0 I.kIn kC ?_
  show wpAny _ _ (call (.ref C) []) _ _ _
  obtain ⟨bm, N, nm, qn, bs, hdct, sn, sub, ab, col, dd, k0, k1, k2, k3, k5, mN, hC, hN, hni, T⟩ := exc_obj I.kIn q
  obtain ⟨hp1, g1, d1, tk1, os1⟩ := s
  refine wpAny_call_exc_subT PySem.F.excBase_ValueError T hC hN hni (fun h' a hm => ?_) (Nat.zero_le _)
  have hn : H a = none := I.hok.gone hm.new
  obtain ⟨t, ht, _, _⟩ := hm.there
  exact ⟨.ref a, _, I.laidN (t' := tk1) hm.keeps hm.new hn (exo_ok ht), rfl, h a hn⟩
end
/-! ### list + list, whatever may be read -/
def rCatS (K : PySem.W.Frag) : R2 := fun x y H Q => ∃ l b xs zs, x = .ref l ∧ y = .ref b ∧ SqL K H l xs ∧ SqL K H b zs ∧ xs.length + zs.length ≤ sizeLine ∧ ∀ p, H p = none → Q (.ref p) (upd H p (.lst (xs ++ zs)))
theorem op_catS {X : Cx} : OpR X (binaryOp .Add) (rCatS X.K) := by
  intro pins s σ H x y v u Q I rx ry h
  obtain ⟨l, b, xs, zs, rfl, rfl, hH, hB, hz, q⟩ := h
  cases rx
  cases ry
  obtain ⟨its, r, ⟨o1, n1, e1, c1, d1, s1⟩, z1⟩ := I.list hH
  obtain ⟨its2, r2, ⟨o2, n2, e2, c2, d2, s2⟩, z2⟩ := I.list hB
  have hl := r.length
  have hl2 := r2.length
  have ea : its.toArray ++ its2.toArray = (its ++ its2).toArray := by simp
  obtain ⟨oc1, od1, oda1, os1⟩ := o1
  obtain ⟨oc2, od2, oda2, os2⟩ := o2
  simp only at c1 d1 s1 c2 d2 s2
  subst c1 d1 s1 c2 d2 s2
  refine concat_meets ⟨_, e1, rfl⟩ ⟨_, e2, rfl⟩ noFill_list_add seq_list_add PySem.F.slot_list_add PySem.F.entry_list_add (PySem.F.args_list_add_2 _ _) (list_addW l b its.toArray its2.toArray n1 n2 none none os1 os2 (by rw [List.size_toArray, List.size_toArray]; omega)) ⟨e1, e2, ?_⟩
  rw [ea]
  exact ⟨.ref _, _, I.lnew (t' := s.toks) (r.append r2) (by rw [List.length_append]; omega), rfl, q _ I.fresh⟩
end L2

set_option Elab.async false
set_option linter.all false
set_option maxRecDepth 100000
set_option maxHeartbeats 4000000
namespace K04
open PySem PySem.Spec PyProof.Rows L2 Evl
def topS (i : Nat) : Stmt := PySem.Challenge.pw_leastattr_k04_exceptions.main.body.getD i (.Pass ⟨0, 0, 0, 0⟩)
/-- a def of the text behind the top -/
structure Df (K : PySem.W.Frag) (mg : Str → Option Value) (x : Str) (st : Stmt) (ps : List Str) : Type where
  f : Addr
  fd : FuncData
  F : Fun K x x st f fd
  g : mg x = some (.ref f)
  b : Binds K fd ps []
section
variable {P : Program} {w : World} {K : PySem.W.Frag} {mg : Str → Option Value} {base : Heap}
abbrev s_law_draw : Stmt := topS 26
abbrev N_law_draw : List Str := ["_law_well", "_law_many", "_law_found", "_law_figure"]
theorem sc_law_draw : FnScope N_law_draw ["_law_well", "_law_many"] (defScope s_law_draw) := ⟨rfl, rfl, rfl, by decide +kernel, rfl, by decide +kernel, by decide +kernel⟩
/-- the well at a: three numbers -/
def Well (H : Hp) (a : Addr) (p q r : Int) : Prop := H a = some (.lst [.int p, .int q, .int r])
def spDraw : Sp := fun vs H Q _ => ∃ (a : Addr) (p q r m : Int), vs = [.ref a, .int m] ∧ Well H a p q r ∧ 0 < m ∧ m.natAbs < 2 ^ 100 ∧
  ∀ n p' r', 0 ≤ n → n < m → Q (.int n) (upd H a (.lst [.int p', .int q, .int r']))
structure TDraw (K : PySem.W.Frag) (mg : Str → Option Value) : Type where
  int : mg "int" = none
  len : mg "len" = none
  law_draw : Df K mg "_law_draw" s_law_draw ["_law_well", "_law_many"]
theorem ok_law_draw (T : TDraw K mg) : FnOk P w K mg base CX0 1 T.law_draw.f T.law_draw.fd ["_law_well", "_law_many"] spDraw := by
  refine T.law_draw.F.ok sc_law_draw (fun vs H Q E h => ?_) (fun cdv A outer s H vs Q E hr h => ?_)
  · obtain ⟨a, p, q, r, m, rfl, _⟩ := h
    rfl
  · obtain ⟨a, p, q, r, m, rfl, hW, hm, hm2, k⟩ := h
    have hd : ∀ i : Int, CDivW i m := fun i => wide_div hm hm2 (by decide) (by decide)
    refine ⟨_, (pss_cons (ps_if (pt_cmpR op_gt (pe_ix ix_list (pv 0) pe_int (fun _ _ => rfl)) pe_int (nomark _)) (pss_cons (ps_set (i := 2) sc_law_draw.nd rfl (by first | exact Or.inl rfl | exact Or.inr rfl) (pe_op op_mod (pe_callTy call_int1 (by rfl) T.int (by decide +kernel) (pa_cons (pe_ix ix_list (pv 0) pe_int (fun _ _ => rfl)) pa_nil)) (pv 1)))
      (pss_cons (ps_asg (pe_op op_fdivW (pe_ix ix_list (pv 0) pe_int (fun _ _ => rfl)) (pv 1)) (pg_sub (pv 0) pe_int set_list))
      (pss_one (ps_ret (pv 2))))) pss_nil)
    (pss_cons (ps_asg (pe_op op_add (pe_ix ix_list (pv 0) pe_int (fun _ _ => rfl)) pe_int) (pg_sub (pv 0) pe_int set_list))
    (pss_cons (ps_set (i := 3) sc_law_draw.nd rfl (by first | exact Or.inl rfl | exact Or.inr rfl) (pe_op op_mod (pe_callTy call_int1 (by rfl) T.int (by decide +kernel) (pa_cons (pe_op op_mul (pe_op op_add (pe_op op_add (pe_ix ix_list (pv 0) pe_int (fun _ _ => rfl)) (pe_op op_mul pe_int (pe_ix ix_list (pv 0) pe_int (fun _ _ => rfl)))) pe_int) pe_int) pa_nil)) pe_int))
    (pss_cons (ps_set (i := 3) sc_law_draw.nd rfl (by first | exact Or.inl rfl | exact Or.inr rfl) (pe_op op_mod (pe_callTy call_int1 (by rfl) T.int (by decide +kernel) (pa_cons (pe_op op_mul (pv 3) (pe_op op_add (pe_op op_fdivW (pv 3) pe_int) pe_int)) pa_nil)) pe_int))
    (pss_one (ps_ret (pe_op op_mod (pe_callTy call_int1 (by rfl) T.int (by decide +kernel) (pa_cons (pe_op op_mod (pe_callTy call_int1 (by rfl) T.int (by decide +kernel) (pa_cons (pe_op op_mul (pv 3) (pe_op op_add (pe_op op_fdivW (pv 3) pe_int) pe_int)) pa_nil)) pe_int) pa_nil)) (pv 1)))))))), ?_⟩
    refine ⟨_, rfl, a, _, _, _, rfl, rfl, SqL.of hW, rfl, _, _, rfl, rfl, _, rfl, ite2 (fun c => ?_) (fun c => ?_)⟩
    · refine ⟨_, rfl, a, _, _, _, rfl, rfl, SqL.of hW, rfl, .inl ⟨_, rfl, _, rfl, _, _, rfl, rfl, hm, ?_⟩⟩
      refine ⟨_, rfl, a, _, _, _, rfl, rfl, SqL.of hW, rfl, _, rfl, _, _, rfl, rfl, hd _, _, rfl, a, _, _, _, rfl, rfl, hW, rfl, ?_⟩
      exact ⟨_, rfl, k _ _ _ (Int.emod_nonneg _ (by omega)) (Int.emod_lt_of_pos _ hm)⟩
    · refine ⟨_, rfl, a, _, _, _, rfl, rfl, SqL.of hW, rfl, _, _, rfl, rfl, _, rfl, a, _, _, _, rfl, rfl, hW, rfl, ?_⟩
      refine ⟨_, rfl, a, _, _, _, rfl, rfl, SqL.of upd_same, rfl, _, rfl, a, _, _, _, rfl, rfl, SqL.of upd_same, rfl, _, _, rfl, rfl, .inl ⟨by decide, by decide⟩, _, _, rfl, rfl, _, _, rfl, rfl, _, _, rfl, rfl, .inr ⟨by decide, by decide⟩, .inl ⟨_, rfl, _, _, rfl, rfl, (by show (0 : Int) < 2147483647; decide), ?_⟩⟩
      generalize hg : ((q + 104729 * (r + 1) + 1) * 48271 % 2147483647 : Int) = g
      have hg0 : 0 ≤ g := by omega
      have hg1 : g < 2147483647 := by omega
      have hd1 : ∀ i : Int, CDivW i 1009 := fun i => wide_div (by decide) (b := 20) (by decide) (by decide) (by decide)
      have hd2 : ∀ i : Int, CDivW i 2003 := fun i => wide_div (by decide) (b := 20) (by decide) (by decide) (by decide)
      refine ⟨_, rfl, _, rfl, _, _, rfl, rfl, hd1 _, _, _, rfl, rfl, _, _, rfl, rfl, .inl ⟨by omega, by omega⟩, .inl ⟨_, rfl, _, _, rfl, rfl, (by show (0 : Int) < 2147483647; decide), ?_⟩⟩
      generalize hg' : (g * (g / 1009 + 69621) % 2147483647 : Int) = g'
      have hg0' : 0 ≤ g' := by rw [← hg']; exact Int.emod_nonneg _ (by decide)
      have hg1' : g' < 2147483647 := by rw [← hg']; exact Int.emod_lt_of_pos _ (by decide)
      refine ⟨_, rfl, _, rfl, _, _, rfl, rfl, hd2 _, _, _, rfl, rfl, _, _, rfl, rfl, .inl ⟨by omega, by omega⟩, .inl ⟨_, rfl, _, _, rfl, rfl, (by show (0 : Int) < 2147483399; decide), .inl ⟨_, rfl, _, rfl, _, _, rfl, rfl, hm, ?_⟩⟩⟩
      exact k _ _ _ (Int.emod_nonneg _ (by omega)) (Int.emod_lt_of_pos _ hm)
end
end K04

set_option Elab.async false
set_option linter.all false
set_option maxRecDepth 100000
set_option maxHeartbeats 4000000
namespace K04
open PySem PySem.Spec PyProof.Rows L2 Evl
section
variable {P : Program} {w : World} {K : PySem.W.Frag} {mg : Str → Option Value} {base : Heap}
/-- exceptions, one by one -/
abbrev ExcL (H : Hp) : List V → List (Addr × List (Str × V)) → Prop := Paired fun v s => ∃ a, v = .ref a ∧ ExcAt H a s.1 s.2
theorem ExcL.mono {H H' : Hp} (e : Ex H H') : ∀ {vs : List V} {ss : List (Addr × List (Str × V))}, ExcL H vs ss → ExcL H' vs ss
  | _, _, .nil => .nil
  | _, _, .cons ⟨a, r, x⟩ t => .cons ⟨a, r, x.mono e⟩ (ExcL.mono e t)
theorem ExcL.app {H : Hp} : ∀ {vs us : List V} {ss ts : List (Addr × List (Str × V))}, ExcL H vs ss → ExcL H us ts → ExcL H (vs ++ us) (ss ++ ts)
  | _, _, _, _, .nil, y => y
  | _, _, _, _, .cons r t, y => .cons r (ExcL.app t y)
def EvX (te : TE) (σ : L2.St) (H : Hp) (C : Addr) (fs : List (Str × V)) : Prop := ∀ H1, Ex H H1 → ∀ Q : VK, (∀ a H2, Ex H1 H2 → ExcAt H2 a C fs → Q (.ref a) H2) → te σ H1 Q
def EvXs (ta : TA) (σ : L2.St) (H : Hp) (ss : List (Addr × List (Str × V))) : Prop := ∀ H1, Ex H H1 → ∀ Q : List V → Hp → Prop, (∀ vs H2, Ex H1 H2 → ExcL H2 vs ss → Q vs H2) → ta σ H1 Q
def EvXL (te : TE) (σ : L2.St) (H : Hp) (ss : List (Addr × List (Str × V))) : Prop := ∀ H1, Ex H H1 → ∀ Q : VK, (∀ p vs H2, Ex H1 H2 → H2 p = some (.lst vs) → ExcL H2 vs ss → Q (.ref p) H2) → te σ H1 Q
variable {σ : L2.St} {H : Hp} {te tb : TE} {ta : TA} {C : Addr} {fs : List (Str × V)} {ss ts : List (Addr × List (Str × V))} {f g : Str} {v u : V} {tz : TS} {D : Ends}
theorem exs_nil : EvXs tNil σ H [] := fun H1 _ Q q => q [] H1 (Ex.refl H1) .nil
theorem exs_cons (h : EvX te σ H C fs) (hr : EvXs ta σ H ss) : EvXs (tCons te ta) σ H ((C, fs) :: ss) := fun H1 e Q q =>
  h H1 e _ fun a H2 e2 x => hr H2 (e.trans e2) _ fun vs H3 e3 y => q _ H3 (e2.trans e3) (.cons ⟨a, rfl, x.mono e3⟩ y)
theorem exl_lst (h : EvXs ta σ H ss) (hz : ss.length ≤ 1000) : EvXL (tLst ta) σ H ss := fun H1 e Q q =>
  h H1 e _ fun vs H2 e2 x => ⟨sz_of (by rw [Paired.length x]; omega), fun p hp => q p vs _ (e2.trans (Ex.new hp)) upd_same (x.mono (Ex.new hp))⟩
theorem exl_var {i : Nat} {p : Addr} {vs : List V} (hi : σ[i]? = some (some (.ref p))) (hp : H p = some (.lst vs)) (hx : ExcL H vs ss) : EvXL (tVar i) σ H ss := fun H1 e Q q =>
  ⟨_, hi, q p vs H1 (Ex.refl H1) (e _ _ hp) (hx.mono e)⟩
theorem exl_cat (h1 : EvXL te σ H ss) (h2 : EvXL tb σ H ts) (hz : ss.length + ts.length ≤ 1000) : EvXL (tOp (rCatS K) te tb) σ H (ss ++ ts) := fun H1 e Q q =>
  h1 H1 e _ fun p vs H2 e2 hp x => h2 H2 (e.trans e2) _ fun p' us H3 e3 hp' y =>
    ⟨p, p', vs, us, rfl, rfl, sq_of (e3 _ _ hp), sq_of hp', sz_of (by rw [Paired.length x, Paired.length y]; omega), fun l hl => q l (vs ++ us) _ ((e2.trans e3).trans (Ex.new hl)) upd_same (((x.mono e3).app y).mono (Ex.new hl))⟩
theorem q_asgXL {i : Nat} (h : EvXL te σ H ss) (k : ∀ p vs H1, Ex H H1 → H1 p = some (.lst vs) → ExcL H1 vs ss → tz D (σ.set i (some (.ref p))) H1) : tSeq (tAsg te (gName i)) tz D σ H := h H (Ex.refl H) _ fun p vs H1 e h1 x => k p vs H1 e h1 x

/-- an exception class of the text, with its own __init__ -/
structure Ec (K : PySem.W.Frag) (mg : Str → Option Value) (x q : Str) (st : Stmt) (ps : List Str) : Type where
  C : Addr
  fI : Addr
  fd : FuncData
  o : OexC K C
  i : PySem.W.findIn K (.ref C) "__init__" = some (some (.ref fI))
  t : PySem.W.typeIn K (.ref fI) = some (.type "function")
  m : mg x = some (.ref C)
  F : Fun K "__init__" q st fI fd
  b : Binds K fd ("self" :: ps) []
  kb : KBn K fd ("self" :: ps) 1 ps.reverse (fun us ws => us ++ ws.reverse) (fun vs zs => vs ++ zs.reverse)
  xf : XfC K C
  ec : ExcC K C
  no : ∀ f ∈ ps, PySem.W.findIn K (.ref C) f = some none
def spI1 (C : Addr) (f : Str) : Sp := fun vs H Q _ => ∃ (a : Addr) (x : V), vs = [.ref a, x] ∧ H a = some (exo a C none) ∧ ∀ dx, H dx = none → dx ≠ a → Q .non (upd (upd H dx (exd dx [(f, x)])) a (exo a C (some dx)))
def spI2 (C : Addr) (f g : Str) : Sp := fun vs H Q _ => ∃ (a : Addr) (x y : V), vs = [.ref a, x, y] ∧ H a = some (exo a C none) ∧ ∀ dx, H dx = none → dx ≠ a → Q .non (upd (upd (upd H dx (exd dx [(f, x)])) a (exo a C (some dx))) dx (exd dx [(g, y), (f, x)]))


theorem made1 {H1 : Hp} {a dx : Addr} (ha : H1 a = none) (hd : (upd H1 a (exo a C none)) dx = none) (hne : dx ≠ a) : Ex H1 (upd (upd (upd H1 a (exo a C none)) dx (exd dx fs)) a (exo a C (some dx))) := fun b o e => by
  have hd' : H1 dx = none := by rw [upd_ne hne] at hd; exact hd
  rw [upd_ne (ne_of_none e ha), upd_ne (ne_of_none e hd'), upd_ne (ne_of_none e ha)]
  exact e
theorem made2 {H1 : Hp} {a dx : Addr} (ha : H1 a = none) (hd : (upd H1 a (exo a C none)) dx = none) (hne : dx ≠ a) {fs' : List (Str × V)} : Ex H1 (upd (upd (upd (upd H1 a (exo a C none)) dx (exd dx fs)) a (exo a C (some dx))) dx (exd dx fs')) := fun b o e => by
  have hd' : H1 dx = none := by rw [upd_ne hne] at hd; exact hd
  rw [upd_ne (ne_of_none e hd')]
  exact made1 ha hd hne b o e
theorem evx1 (h : EvA ta σ H [v]) : EvX (tMkE C (spI1 C f) ta) σ H C [(f, v)] := fun H1 e Q q =>
  h H1 e _ fun H2 e2 => ⟨Nat.le_of_ble_eq_true rfl, fun a ha => ⟨a, v, rfl, upd_same, fun dx hd hne => ⟨rfl, q a _ (e2.trans (made1 ha hd hne)) ⟨dx, upd_same, by rw [upd_ne hne]; exact upd_same⟩⟩⟩⟩
theorem evx2 (h : EvA ta σ H [v, u]) : EvX (tMkE C (spI2 C f g) ta) σ H C [(g, u), (f, v)] := fun H1 e Q q =>
  h H1 e _ fun H2 e2 => ⟨Nat.le_of_ble_eq_true rfl, fun a ha => ⟨a, v, u, rfl, upd_same, fun dx hd hne => ⟨rfl, q a _ (e2.trans (made2 ha hd hne)) ⟨dx, by rw [upd_ne (Ne.symm hne)]; exact upd_same, upd_same⟩⟩⟩⟩
theorem evx1K (h : EvA ta σ H [v]) : EvX (tMkEK C (spI1 C f) (fun vs zs => vs ++ zs.reverse) 1 ta) σ H C [(f, v)] := fun H1 e Q q =>
  h H1 e _ fun H2 e2 => ⟨rfl, fun a ha => ⟨a, v, rfl, upd_same, fun dx hd hne => ⟨rfl, q a _ (e2.trans (made1 ha hd hne)) ⟨dx, upd_same, by rw [upd_ne hne]; exact upd_same⟩⟩⟩⟩
theorem evx2K (h : EvA ta σ H [u, v]) : EvX (tMkEK C (spI2 C f g) (fun vs zs => vs ++ zs.reverse) 2 ta) σ H C [(g, u), (f, v)] := fun H1 e Q q =>
  h H1 e _ fun H2 e2 => ⟨rfl, fun a ha => ⟨a, v, u, rfl, upd_same, fun dx hd hne => ⟨rfl, q a _ (e2.trans (made2 ha hd hne)) ⟨dx, by rw [upd_ne (Ne.symm hne)]; exact upd_same, upd_same⟩⟩⟩⟩
abbrev i_NoGrammar : Stmt := inClass (topS 2) 0
theorem sc_NoGrammar : FnScope ["self", "part", "index"] ["self", "part", "index"] (defScope i_NoGrammar) := ⟨rfl, rfl, rfl, by decide +kernel, rfl, by decide +kernel, by decide +kernel⟩
theorem ok_NoGrammar (T : Ec K mg "NoGrammar" "NoGrammar.__init__" i_NoGrammar ["part", "index"]) : FnOk P w K mg base CX0 1 T.fI T.fd ["self", "part", "index"] (spI2 T.C "part" "index") := by
  refine T.F.ok sc_NoGrammar (fun vs H Q E h => ?_) (fun cdv A outer s H vs Q E hr h => ?_)
  · obtain ⟨a, x, y, rfl, _⟩ := h
    rfl
  · obtain ⟨a, x, y, rfl, ha, k⟩ := h
    refine ⟨_, pss_cons (ps_ost (pv 0) (pv 1)) (pss_one (ps_ost (pv 0) (pv 2))), ?_⟩
    refine ⟨_, rfl, _, rfl, a, T.C, rfl, T.o, T.no _ (by decide +kernel), .inl ⟨ha, fun dx hd hne => ?_⟩⟩
    exact ⟨_, rfl, _, rfl, a, T.C, rfl, T.o, T.no _ (by decide +kernel), .inr ⟨dx, _, upd_same, by rw [upd_ne hne]; exact upd_same, by show 1 ≤ 900; decide, k dx hd hne⟩⟩
abbrev i_NoKind : Stmt := inClass (topS 3) 0
theorem sc_NoKind : FnScope ["self", "kind"] ["self", "kind"] (defScope i_NoKind) := ⟨rfl, rfl, rfl, by decide +kernel, rfl, by decide +kernel, by decide +kernel⟩
theorem ok_NoKind (T : Ec K mg "NoKind" "NoKind.__init__" i_NoKind ["kind"]) : FnOk P w K mg base CX0 1 T.fI T.fd ["self", "kind"] (spI1 T.C "kind") := by
  refine T.F.ok sc_NoKind (fun vs H Q E h => ?_) (fun cdv A outer s H vs Q E hr h => ?_)
  · obtain ⟨a, x, rfl, _⟩ := h
    rfl
  · obtain ⟨a, x, rfl, ha, k⟩ := h
    refine ⟨_, pss_one (ps_ost (pv 0) (pv 1)), ?_⟩
    exact ⟨_, rfl, _, rfl, a, T.C, rfl, T.o, T.no _ (by decide +kernel), .inl ⟨ha, k⟩⟩
abbrev i_NoTree : Stmt := inClass (topS 4) 0
theorem sc_NoTree : FnScope ["self", "index"] ["self", "index"] (defScope i_NoTree) := ⟨rfl, rfl, rfl, by decide +kernel, rfl, by decide +kernel, by decide +kernel⟩
theorem ok_NoTree (T : Ec K mg "NoTree" "NoTree.__init__" i_NoTree ["index"]) : FnOk P w K mg base CX0 1 T.fI T.fd ["self", "index"] (spI1 T.C "index") := by
  refine T.F.ok sc_NoTree (fun vs H Q E h => ?_) (fun cdv A outer s H vs Q E hr h => ?_)
  · obtain ⟨a, x, rfl, _⟩ := h
    rfl
  · obtain ⟨a, x, rfl, ha, k⟩ := h
    refine ⟨_, pss_one (ps_ost (pv 0) (pv 1)), ?_⟩
    exact ⟨_, rfl, _, rfl, a, T.C, rfl, T.o, T.no _ (by decide +kernel), .inl ⟨ha, k⟩⟩
abbrev i_NotTop : Stmt := inClass (topS 5) 0
theorem sc_NotTop : FnScope ["self", "kind"] ["self", "kind"] (defScope i_NotTop) := ⟨rfl, rfl, rfl, by decide +kernel, rfl, by decide +kernel, by decide +kernel⟩
theorem ok_NotTop (T : Ec K mg "NotTop" "NotTop.__init__" i_NotTop ["kind"]) : FnOk P w K mg base CX0 1 T.fI T.fd ["self", "kind"] (spI1 T.C "kind") := by
  refine T.F.ok sc_NotTop (fun vs H Q E h => ?_) (fun cdv A outer s H vs Q E hr h => ?_)
  · obtain ⟨a, x, rfl, _⟩ := h
    rfl
  · obtain ⟨a, x, rfl, ha, k⟩ := h
    refine ⟨_, pss_one (ps_ost (pv 0) (pv 1)), ?_⟩
    exact ⟨_, rfl, _, rfl, a, T.C, rfl, T.o, T.no _ (by decide +kernel), .inl ⟨ha, k⟩⟩
abbrev i_NoContext : Stmt := inClass (topS 6) 0
theorem sc_NoContext : FnScope ["self", "index"] ["self", "index"] (defScope i_NoContext) := ⟨rfl, rfl, rfl, by decide +kernel, rfl, by decide +kernel, by decide +kernel⟩
theorem ok_NoContext (T : Ec K mg "NoContext" "NoContext.__init__" i_NoContext ["index"]) : FnOk P w K mg base CX0 1 T.fI T.fd ["self", "index"] (spI1 T.C "index") := by
  refine T.F.ok sc_NoContext (fun vs H Q E h => ?_) (fun cdv A outer s H vs Q E hr h => ?_)
  · obtain ⟨a, x, rfl, _⟩ := h
    rfl
  · obtain ⟨a, x, rfl, ha, k⟩ := h
    refine ⟨_, pss_one (ps_ost (pv 0) (pv 1)), ?_⟩
    exact ⟨_, rfl, _, rfl, a, T.C, rfl, T.o, T.no _ (by decide +kernel), .inl ⟨ha, k⟩⟩
abbrev i_WrongKind : Stmt := inClass (topS 7) 0
theorem sc_WrongKind : FnScope ["self", "kind"] ["self", "kind"] (defScope i_WrongKind) := ⟨rfl, rfl, rfl, by decide +kernel, rfl, by decide +kernel, by decide +kernel⟩
theorem ok_WrongKind (T : Ec K mg "WrongKind" "WrongKind.__init__" i_WrongKind ["kind"]) : FnOk P w K mg base CX0 1 T.fI T.fd ["self", "kind"] (spI1 T.C "kind") := by
  refine T.F.ok sc_WrongKind (fun vs H Q E h => ?_) (fun cdv A outer s H vs Q E hr h => ?_)
  · obtain ⟨a, x, rfl, _⟩ := h
    rfl
  · obtain ⟨a, x, rfl, ha, k⟩ := h
    refine ⟨_, pss_one (ps_ost (pv 0) (pv 1)), ?_⟩
    exact ⟨_, rfl, _, rfl, a, T.C, rfl, T.o, T.no _ (by decide +kernel), .inl ⟨ha, k⟩⟩
abbrev i_NoCode : Stmt := inClass (topS 8) 0
theorem sc_NoCode : FnScope ["self", "part", "index"] ["self", "part", "index"] (defScope i_NoCode) := ⟨rfl, rfl, rfl, by decide +kernel, rfl, by decide +kernel, by decide +kernel⟩
theorem ok_NoCode (T : Ec K mg "NoCode" "NoCode.__init__" i_NoCode ["part", "index"]) : FnOk P w K mg base CX0 1 T.fI T.fd ["self", "part", "index"] (spI2 T.C "part" "index") := by
  refine T.F.ok sc_NoCode (fun vs H Q E h => ?_) (fun cdv A outer s H vs Q E hr h => ?_)
  · obtain ⟨a, x, y, rfl, _⟩ := h
    rfl
  · obtain ⟨a, x, y, rfl, ha, k⟩ := h
    refine ⟨_, pss_cons (ps_ost (pv 0) (pv 1)) (pss_one (ps_ost (pv 0) (pv 2))), ?_⟩
    refine ⟨_, rfl, _, rfl, a, T.C, rfl, T.o, T.no _ (by decide +kernel), .inl ⟨ha, fun dx hd hne => ?_⟩⟩
    exact ⟨_, rfl, _, rfl, a, T.C, rfl, T.o, T.no _ (by decide +kernel), .inr ⟨dx, _, upd_same, by rw [upd_ne hne]; exact upd_same, by show 1 ≤ 900; decide, k dx hd hne⟩⟩
abbrev i_NotOver : Stmt := inClass (topS 9) 0
theorem sc_NotOver : FnScope ["self", "rule"] ["self", "rule"] (defScope i_NotOver) := ⟨rfl, rfl, rfl, by decide +kernel, rfl, by decide +kernel, by decide +kernel⟩
theorem ok_NotOver (T : Ec K mg "NotOver" "NotOver.__init__" i_NotOver ["rule"]) : FnOk P w K mg base CX0 1 T.fI T.fd ["self", "rule"] (spI1 T.C "rule") := by
  refine T.F.ok sc_NotOver (fun vs H Q E h => ?_) (fun cdv A outer s H vs Q E hr h => ?_)
  · obtain ⟨a, x, rfl, _⟩ := h
    rfl
  · obtain ⟨a, x, rfl, ha, k⟩ := h
    refine ⟨_, pss_one (ps_ost (pv 0) (pv 1)), ?_⟩
    exact ⟨_, rfl, _, rfl, a, T.C, rfl, T.o, T.no _ (by decide +kernel), .inl ⟨ha, k⟩⟩
abbrev i_NoPaper : Stmt := inClass (topS 10) 0
theorem sc_NoPaper : FnScope ["self", "part", "index"] ["self", "part", "index"] (defScope i_NoPaper) := ⟨rfl, rfl, rfl, by decide +kernel, rfl, by decide +kernel, by decide +kernel⟩
theorem ok_NoPaper (T : Ec K mg "NoPaper" "NoPaper.__init__" i_NoPaper ["part", "index"]) : FnOk P w K mg base CX0 1 T.fI T.fd ["self", "part", "index"] (spI2 T.C "part" "index") := by
  refine T.F.ok sc_NoPaper (fun vs H Q E h => ?_) (fun cdv A outer s H vs Q E hr h => ?_)
  · obtain ⟨a, x, y, rfl, _⟩ := h
    rfl
  · obtain ⟨a, x, y, rfl, ha, k⟩ := h
    refine ⟨_, pss_cons (ps_ost (pv 0) (pv 1)) (pss_one (ps_ost (pv 0) (pv 2))), ?_⟩
    refine ⟨_, rfl, _, rfl, a, T.C, rfl, T.o, T.no _ (by decide +kernel), .inl ⟨ha, fun dx hd hne => ?_⟩⟩
    exact ⟨_, rfl, _, rfl, a, T.C, rfl, T.o, T.no _ (by decide +kernel), .inr ⟨dx, _, upd_same, by rw [upd_ne hne]; exact upd_same, by show 1 ≤ 900; decide, k dx hd hne⟩⟩
abbrev i_NoRows : Stmt := inClass (topS 11) 0
theorem sc_NoRows : FnScope ["self", "part", "index"] ["self", "part", "index"] (defScope i_NoRows) := ⟨rfl, rfl, rfl, by decide +kernel, rfl, by decide +kernel, by decide +kernel⟩
theorem ok_NoRows (T : Ec K mg "NoRows" "NoRows.__init__" i_NoRows ["part", "index"]) : FnOk P w K mg base CX0 1 T.fI T.fd ["self", "part", "index"] (spI2 T.C "part" "index") := by
  refine T.F.ok sc_NoRows (fun vs H Q E h => ?_) (fun cdv A outer s H vs Q E hr h => ?_)
  · obtain ⟨a, x, y, rfl, _⟩ := h
    rfl
  · obtain ⟨a, x, y, rfl, ha, k⟩ := h
    refine ⟨_, pss_cons (ps_ost (pv 0) (pv 1)) (pss_one (ps_ost (pv 0) (pv 2))), ?_⟩
    refine ⟨_, rfl, _, rfl, a, T.C, rfl, T.o, T.no _ (by decide +kernel), .inl ⟨ha, fun dx hd hne => ?_⟩⟩
    exact ⟨_, rfl, _, rfl, a, T.C, rfl, T.o, T.no _ (by decide +kernel), .inr ⟨dx, _, upd_same, by rw [upd_ne hne]; exact upd_same, by show 1 ≤ 900; decide, k dx hd hne⟩⟩
abbrev i_NoRecipe : Stmt := inClass (topS 12) 0
theorem sc_NoRecipe : FnScope ["self", "index"] ["self", "index"] (defScope i_NoRecipe) := ⟨rfl, rfl, rfl, by decide +kernel, rfl, by decide +kernel, by decide +kernel⟩
theorem ok_NoRecipe (T : Ec K mg "NoRecipe" "NoRecipe.__init__" i_NoRecipe ["index"]) : FnOk P w K mg base CX0 1 T.fI T.fd ["self", "index"] (spI1 T.C "index") := by
  refine T.F.ok sc_NoRecipe (fun vs H Q E h => ?_) (fun cdv A outer s H vs Q E hr h => ?_)
  · obtain ⟨a, x, rfl, _⟩ := h
    rfl
  · obtain ⟨a, x, rfl, ha, k⟩ := h
    refine ⟨_, pss_one (ps_ost (pv 0) (pv 1)), ?_⟩
    exact ⟨_, rfl, _, rfl, a, T.C, rfl, T.o, T.no _ (by decide +kernel), .inl ⟨ha, k⟩⟩
abbrev i_NoSplit : Stmt := inClass (topS 14) 0
theorem sc_NoSplit : FnScope ["self", "part"] ["self", "part"] (defScope i_NoSplit) := ⟨rfl, rfl, rfl, by decide +kernel, rfl, by decide +kernel, by decide +kernel⟩
theorem ok_NoSplit (T : Ec K mg "NoSplit" "NoSplit.__init__" i_NoSplit ["part"]) : FnOk P w K mg base CX0 1 T.fI T.fd ["self", "part"] (spI1 T.C "part") := by
  refine T.F.ok sc_NoSplit (fun vs H Q E h => ?_) (fun cdv A outer s H vs Q E hr h => ?_)
  · obtain ⟨a, x, rfl, _⟩ := h
    rfl
  · obtain ⟨a, x, rfl, ha, k⟩ := h
    refine ⟨_, pss_one (ps_ost (pv 0) (pv 1)), ?_⟩
    exact ⟨_, rfl, _, rfl, a, T.C, rfl, T.o, T.no _ (by decide +kernel), .inl ⟨ha, k⟩⟩
abbrev i_NoText : Stmt := inClass (topS 15) 0
theorem sc_NoText : FnScope ["self", "row"] ["self", "row"] (defScope i_NoText) := ⟨rfl, rfl, rfl, by decide +kernel, rfl, by decide +kernel, by decide +kernel⟩
theorem ok_NoText (T : Ec K mg "NoText" "NoText.__init__" i_NoText ["row"]) : FnOk P w K mg base CX0 1 T.fI T.fd ["self", "row"] (spI1 T.C "row") := by
  refine T.F.ok sc_NoText (fun vs H Q E h => ?_) (fun cdv A outer s H vs Q E hr h => ?_)
  · obtain ⟨a, x, rfl, _⟩ := h
    rfl
  · obtain ⟨a, x, rfl, ha, k⟩ := h
    refine ⟨_, pss_one (ps_ost (pv 0) (pv 1)), ?_⟩
    exact ⟨_, rfl, _, rfl, a, T.C, rfl, T.o, T.no _ (by decide +kernel), .inl ⟨ha, k⟩⟩
abbrev i_NoForm : Stmt := inClass (topS 16) 0
theorem sc_NoForm : FnScope ["self", "index"] ["self", "index"] (defScope i_NoForm) := ⟨rfl, rfl, rfl, by decide +kernel, rfl, by decide +kernel, by decide +kernel⟩
theorem ok_NoForm (T : Ec K mg "NoForm" "NoForm.__init__" i_NoForm ["index"]) : FnOk P w K mg base CX0 1 T.fI T.fd ["self", "index"] (spI1 T.C "index") := by
  refine T.F.ok sc_NoForm (fun vs H Q E h => ?_) (fun cdv A outer s H vs Q E hr h => ?_)
  · obtain ⟨a, x, rfl, _⟩ := h
    rfl
  · obtain ⟨a, x, rfl, ha, k⟩ := h
    refine ⟨_, pss_one (ps_ost (pv 0) (pv 1)), ?_⟩
    exact ⟨_, rfl, _, rfl, a, T.C, rfl, T.o, T.no _ (by decide +kernel), .inl ⟨ha, k⟩⟩
abbrev i_NoState : Stmt := inClass (topS 17) 0
theorem sc_NoState : FnScope ["self", "index"] ["self", "index"] (defScope i_NoState) := ⟨rfl, rfl, rfl, by decide +kernel, rfl, by decide +kernel, by decide +kernel⟩
theorem ok_NoState (T : Ec K mg "NoState" "NoState.__init__" i_NoState ["index"]) : FnOk P w K mg base CX0 1 T.fI T.fd ["self", "index"] (spI1 T.C "index") := by
  refine T.F.ok sc_NoState (fun vs H Q E h => ?_) (fun cdv A outer s H vs Q E hr h => ?_)
  · obtain ⟨a, x, rfl, _⟩ := h
    rfl
  · obtain ⟨a, x, rfl, ha, k⟩ := h
    refine ⟨_, pss_one (ps_ost (pv 0) (pv 1)), ?_⟩
    exact ⟨_, rfl, _, rfl, a, T.C, rfl, T.o, T.no _ (by decide +kernel), .inl ⟨ha, k⟩⟩
abbrev i_ManyUnknowns : Stmt := inClass (topS 18) 0
theorem sc_ManyUnknowns : FnScope ["self", "number"] ["self", "number"] (defScope i_ManyUnknowns) := ⟨rfl, rfl, rfl, by decide +kernel, rfl, by decide +kernel, by decide +kernel⟩
theorem ok_ManyUnknowns (T : Ec K mg "ManyUnknowns" "ManyUnknowns.__init__" i_ManyUnknowns ["number"]) : FnOk P w K mg base CX0 1 T.fI T.fd ["self", "number"] (spI1 T.C "number") := by
  refine T.F.ok sc_ManyUnknowns (fun vs H Q E h => ?_) (fun cdv A outer s H vs Q E hr h => ?_)
  · obtain ⟨a, x, rfl, _⟩ := h
    rfl
  · obtain ⟨a, x, rfl, ha, k⟩ := h
    refine ⟨_, pss_one (ps_ost (pv 0) (pv 1)), ?_⟩
    exact ⟨_, rfl, _, rfl, a, T.C, rfl, T.o, T.no _ (by decide +kernel), .inl ⟨ha, k⟩⟩
abbrev i_NotOnce : Stmt := inClass (topS 19) 0
theorem sc_NotOnce : FnScope ["self", "name"] ["self", "name"] (defScope i_NotOnce) := ⟨rfl, rfl, rfl, by decide +kernel, rfl, by decide +kernel, by decide +kernel⟩
theorem ok_NotOnce (T : Ec K mg "NotOnce" "NotOnce.__init__" i_NotOnce ["name"]) : FnOk P w K mg base CX0 1 T.fI T.fd ["self", "name"] (spI1 T.C "name") := by
  refine T.F.ok sc_NotOnce (fun vs H Q E h => ?_) (fun cdv A outer s H vs Q E hr h => ?_)
  · obtain ⟨a, x, rfl, _⟩ := h
    rfl
  · obtain ⟨a, x, rfl, ha, k⟩ := h
    refine ⟨_, pss_one (ps_ost (pv 0) (pv 1)), ?_⟩
    exact ⟨_, rfl, _, rfl, a, T.C, rfl, T.o, T.no _ (by decide +kernel), .inl ⟨ha, k⟩⟩
abbrev i_NoNumbers : Stmt := inClass (topS 20) 0
theorem sc_NoNumbers : FnScope ["self", "index"] ["self", "index"] (defScope i_NoNumbers) := ⟨rfl, rfl, rfl, by decide +kernel, rfl, by decide +kernel, by decide +kernel⟩
theorem ok_NoNumbers (T : Ec K mg "NoNumbers" "NoNumbers.__init__" i_NoNumbers ["index"]) : FnOk P w K mg base CX0 1 T.fI T.fd ["self", "index"] (spI1 T.C "index") := by
  refine T.F.ok sc_NoNumbers (fun vs H Q E h => ?_) (fun cdv A outer s H vs Q E hr h => ?_)
  · obtain ⟨a, x, rfl, _⟩ := h
    rfl
  · obtain ⟨a, x, rfl, ha, k⟩ := h
    refine ⟨_, pss_one (ps_ost (pv 0) (pv 1)), ?_⟩
    exact ⟨_, rfl, _, rfl, a, T.C, rfl, T.o, T.no _ (by decide +kernel), .inl ⟨ha, k⟩⟩
abbrev i_NoPath : Stmt := inClass (topS 21) 0
theorem sc_NoPath : FnScope ["self", "path"] ["self", "path"] (defScope i_NoPath) := ⟨rfl, rfl, rfl, by decide +kernel, rfl, by decide +kernel, by decide +kernel⟩
theorem ok_NoPath (T : Ec K mg "NoPath" "NoPath.__init__" i_NoPath ["path"]) : FnOk P w K mg base CX0 1 T.fI T.fd ["self", "path"] (spI1 T.C "path") := by
  refine T.F.ok sc_NoPath (fun vs H Q E h => ?_) (fun cdv A outer s H vs Q E hr h => ?_)
  · obtain ⟨a, x, rfl, _⟩ := h
    rfl
  · obtain ⟨a, x, rfl, ha, k⟩ := h
    refine ⟨_, pss_one (ps_ost (pv 0) (pv 1)), ?_⟩
    exact ⟨_, rfl, _, rfl, a, T.C, rfl, T.o, T.no _ (by decide +kernel), .inl ⟨ha, k⟩⟩
abbrev i_LargeTree : Stmt := inClass (topS 22) 0
theorem sc_LargeTree : FnScope ["self", "nodes"] ["self", "nodes"] (defScope i_LargeTree) := ⟨rfl, rfl, rfl, by decide +kernel, rfl, by decide +kernel, by decide +kernel⟩
theorem ok_LargeTree (T : Ec K mg "LargeTree" "LargeTree.__init__" i_LargeTree ["nodes"]) : FnOk P w K mg base CX0 1 T.fI T.fd ["self", "nodes"] (spI1 T.C "nodes") := by
  refine T.F.ok sc_LargeTree (fun vs H Q E h => ?_) (fun cdv A outer s H vs Q E hr h => ?_)
  · obtain ⟨a, x, rfl, _⟩ := h
    rfl
  · obtain ⟨a, x, rfl, ha, k⟩ := h
    refine ⟨_, pss_one (ps_ost (pv 0) (pv 1)), ?_⟩
    exact ⟨_, rfl, _, rfl, a, T.C, rfl, T.o, T.no _ (by decide +kernel), .inl ⟨ha, k⟩⟩
abbrev i_NoRule : Stmt := inClass (topS 23) 0
theorem sc_NoRule : FnScope ["self", "rule"] ["self", "rule"] (defScope i_NoRule) := ⟨rfl, rfl, rfl, by decide +kernel, rfl, by decide +kernel, by decide +kernel⟩
theorem ok_NoRule (T : Ec K mg "NoRule" "NoRule.__init__" i_NoRule ["rule"]) : FnOk P w K mg base CX0 1 T.fI T.fd ["self", "rule"] (spI1 T.C "rule") := by
  refine T.F.ok sc_NoRule (fun vs H Q E h => ?_) (fun cdv A outer s H vs Q E hr h => ?_)
  · obtain ⟨a, x, rfl, _⟩ := h
    rfl
  · obtain ⟨a, x, rfl, ha, k⟩ := h
    refine ⟨_, pss_one (ps_ost (pv 0) (pv 1)), ?_⟩
    exact ⟨_, rfl, _, rfl, a, T.C, rfl, T.o, T.no _ (by decide +kernel), .inl ⟨ha, k⟩⟩
abbrev i_NoCount : Stmt := inClass (topS 24) 0
theorem sc_NoCount : FnScope ["self", "part"] ["self", "part"] (defScope i_NoCount) := ⟨rfl, rfl, rfl, by decide +kernel, rfl, by decide +kernel, by decide +kernel⟩
theorem ok_NoCount (T : Ec K mg "NoCount" "NoCount.__init__" i_NoCount ["part"]) : FnOk P w K mg base CX0 1 T.fI T.fd ["self", "part"] (spI1 T.C "part") := by
  refine T.F.ok sc_NoCount (fun vs H Q E h => ?_) (fun cdv A outer s H vs Q E hr h => ?_)
  · obtain ⟨a, x, rfl, _⟩ := h
    rfl
  · obtain ⟨a, x, rfl, ha, k⟩ := h
    refine ⟨_, pss_one (ps_ost (pv 0) (pv 1)), ?_⟩
    exact ⟨_, rfl, _, rfl, a, T.C, rfl, T.o, T.no _ (by decide +kernel), .inl ⟨ha, k⟩⟩
structure Txt (K : PySem.W.Frag) (mg : Str → Option Value) extends TDraw K mg where
  NoGrammar : Ec K mg "NoGrammar" "NoGrammar.__init__" i_NoGrammar ["part", "index"]
  NoKind : Ec K mg "NoKind" "NoKind.__init__" i_NoKind ["kind"]
  NoTree : Ec K mg "NoTree" "NoTree.__init__" i_NoTree ["index"]
  NotTop : Ec K mg "NotTop" "NotTop.__init__" i_NotTop ["kind"]
  NoContext : Ec K mg "NoContext" "NoContext.__init__" i_NoContext ["index"]
  WrongKind : Ec K mg "WrongKind" "WrongKind.__init__" i_WrongKind ["kind"]
  NoCode : Ec K mg "NoCode" "NoCode.__init__" i_NoCode ["part", "index"]
  NotOver : Ec K mg "NotOver" "NotOver.__init__" i_NotOver ["rule"]
  NoPaper : Ec K mg "NoPaper" "NoPaper.__init__" i_NoPaper ["part", "index"]
  NoRows : Ec K mg "NoRows" "NoRows.__init__" i_NoRows ["part", "index"]
  NoRecipe : Ec K mg "NoRecipe" "NoRecipe.__init__" i_NoRecipe ["index"]
  NoSplit : Ec K mg "NoSplit" "NoSplit.__init__" i_NoSplit ["part"]
  NoText : Ec K mg "NoText" "NoText.__init__" i_NoText ["row"]
  NoForm : Ec K mg "NoForm" "NoForm.__init__" i_NoForm ["index"]
  NoState : Ec K mg "NoState" "NoState.__init__" i_NoState ["index"]
  ManyUnknowns : Ec K mg "ManyUnknowns" "ManyUnknowns.__init__" i_ManyUnknowns ["number"]
  NotOnce : Ec K mg "NotOnce" "NotOnce.__init__" i_NotOnce ["name"]
  NoNumbers : Ec K mg "NoNumbers" "NoNumbers.__init__" i_NoNumbers ["index"]
  NoPath : Ec K mg "NoPath" "NoPath.__init__" i_NoPath ["path"]
  LargeTree : Ec K mg "LargeTree" "LargeTree.__init__" i_LargeTree ["nodes"]
  NoRule : Ec K mg "NoRule" "NoRule.__init__" i_NoRule ["rule"]
  NoCount : Ec K mg "NoCount" "NoCount.__init__" i_NoCount ["part"]
  A : Addr
  N : Addr
  mA : mg "AttrError" = some (.ref A)
  mN : mg "NoAutomaton" = some (.ref N)
  kN : PySem.W.keepIn K (.ref N) = true
  exN : PySem.W.excIn K N [.type "ValueError", .type "Exception", .type "BaseException", .type "object"] "ValueError.__new__" = true
  ecN : ExcC K N
  isinstance : mg "isinstance" = none
  range : mg "range" = none
  enumerate : mg "enumerate" = none
  ve : mg "ValueError" = none
/-- the classes in their order -/
def Txt.cs (T : Txt K mg) : List Addr := [T.NoGrammar.C, T.NoKind.C, T.NoTree.C, T.NotTop.C, T.NoContext.C, T.WrongKind.C, T.NoCode.C, T.NotOver.C, T.NoPaper.C, T.NoRows.C, T.NoRecipe.C, T.NoSplit.C, T.NoText.C, T.NoForm.C, T.NoState.C, T.ManyUnknowns.C, T.NotOnce.C, T.NoNumbers.C, T.NoPath.C, T.LargeTree.C, T.NoRule.C, T.NoCount.C]
/-- what isinstance asks of the classes -/
structure Kit (T : Txt K mg) : Prop where
  own : ∀ (i j : Nat) (C D : Addr), T.cs[i]? = some C → T.cs[j]? = some D → PySem.W.kitOne K (.ref C) (.ref D) = some (decide (i = j))
  ecs : ∀ C ∈ T.cs, ExcC K C
  attr : ∀ C ∈ T.cs, PySem.W.kitOne K (.ref C) (.ref T.A) = some true
  val : ∀ C ∈ T.cs, PySem.W.kitOne K (.ref C) (.type "ValueError") = some true
  non : ∀ D ∈ T.cs, PySem.W.kitOne K (.ref T.N) (.ref D) = some false
  nonA : PySem.W.kitOne K (.ref T.N) (.ref T.A) = some true
  veA : PySem.W.kitOne K (.type "ValueError") (.ref T.A) = some false
/-- what is made of x: the classes with their fields -/
def Txt.specs (T : Txt K mg) (x : V) : List (Addr × List (Str × V)) := [(T.NoGrammar.C, [("index", .int 7), ("part", x)]), (T.NoKind.C, [("kind", x)]), (T.NoTree.C, [("index", x)]), (T.NotTop.C, [("kind", x)]), (T.NoContext.C, [("index", x)]), (T.WrongKind.C, [("kind", x)]), (T.NoCode.C, [("index", .int 7), ("part", x)]), (T.NotOver.C, [("rule", x)]), (T.NoPaper.C, [("index", .int 7), ("part", x)]), (T.NoRows.C, [("index", .int 7), ("part", x)]), (T.NoRecipe.C, [("index", x)]), (T.NoSplit.C, [("part", x)]), (T.NoText.C, [("row", x)]), (T.NoForm.C, [("index", x)]), (T.NoState.C, [("index", x)]), (T.ManyUnknowns.C, [("number", x)]), (T.NotOnce.C, [("name", x)]), (T.NoNumbers.C, [("index", x)]), (T.NoPath.C, [("path", x)]), (T.LargeTree.C, [("nodes", x)]), (T.NoRule.C, [("rule", x)]), (T.NoCount.C, [("part", x)])]
def spMk (T : Txt K mg) : Sp := fun vs H Q _ => ∃ x : V, vs = [x] ∧ ∀ p us H', Ex H H' → H' p = some (.lst us) → ExcL H' us (T.specs x) → Q (.ref p) H'
abbrev s_law_by_place : Stmt := topS 29
theorem sc_law_by_place : FnScope ["_law_x", "_law_some"] ["_law_x"] (defScope s_law_by_place) := ⟨rfl, rfl, rfl, by decide +kernel, rfl, by decide +kernel, by decide +kernel⟩
theorem ok_law_by_place (T : Txt K mg) (D : Df K mg "_law_by_place" s_law_by_place ["_law_x"]) : FnOk P w K mg base CX0 3 D.f D.fd ["_law_x"] (spMk T) := by
  refine D.F.ok sc_law_by_place (fun vs H Q E h => ?_) (fun cdv A outer s H vs Q E hr h => ?_)
  · obtain ⟨x, rfl, _⟩ := h
    rfl
  · obtain ⟨x, rfl, k⟩ := h
    refine ⟨_, (pss_cons (ps_set (i := 1) sc_law_by_place.nd rfl (.inl rfl) (pe_lst (pa_cons (pe_exc T.NoGrammar.o T.NoGrammar.i T.NoGrammar.t (ok_NoGrammar T.NoGrammar) hr T.NoGrammar.b T.NoGrammar.m (pa_cons (pv 0) (pa_cons pe_int pa_nil))) (pa_cons (pe_exc T.NoKind.o T.NoKind.i T.NoKind.t (ok_NoKind T.NoKind) hr T.NoKind.b T.NoKind.m (pa_cons (pv 0) pa_nil)) (pa_cons (pe_exc T.NoTree.o T.NoTree.i T.NoTree.t (ok_NoTree T.NoTree) hr T.NoTree.b T.NoTree.m (pa_cons (pv 0) pa_nil)) (pa_cons (pe_exc T.NotTop.o T.NotTop.i T.NotTop.t (ok_NotTop T.NotTop) hr T.NotTop.b T.NotTop.m (pa_cons (pv 0) pa_nil)) pa_nil))))))
      (pss_cons (ps_set (i := 1) sc_law_by_place.nd rfl (.inl rfl) (pe_op op_catS (pv 1) (pe_lst (pa_cons (pe_exc T.NoContext.o T.NoContext.i T.NoContext.t (ok_NoContext T.NoContext) hr T.NoContext.b T.NoContext.m (pa_cons (pv 0) pa_nil)) (pa_cons (pe_exc T.WrongKind.o T.WrongKind.i T.WrongKind.t (ok_WrongKind T.WrongKind) hr T.WrongKind.b T.WrongKind.m (pa_cons (pv 0) pa_nil)) (pa_cons (pe_exc T.NoCode.o T.NoCode.i T.NoCode.t (ok_NoCode T.NoCode) hr T.NoCode.b T.NoCode.m (pa_cons (pv 0) (pa_cons pe_int pa_nil))) (pa_cons (pe_exc T.NotOver.o T.NotOver.i T.NotOver.t (ok_NotOver T.NotOver) hr T.NotOver.b T.NotOver.m (pa_cons (pv 0) pa_nil)) pa_nil)))))))
      (pss_cons (ps_set (i := 1) sc_law_by_place.nd rfl (.inl rfl) (pe_op op_catS (pv 1) (pe_lst (pa_cons (pe_exc T.NoPaper.o T.NoPaper.i T.NoPaper.t (ok_NoPaper T.NoPaper) hr T.NoPaper.b T.NoPaper.m (pa_cons (pv 0) (pa_cons pe_int pa_nil))) (pa_cons (pe_exc T.NoRows.o T.NoRows.i T.NoRows.t (ok_NoRows T.NoRows) hr T.NoRows.b T.NoRows.m (pa_cons (pv 0) (pa_cons pe_int pa_nil))) (pa_cons (pe_exc T.NoRecipe.o T.NoRecipe.i T.NoRecipe.t (ok_NoRecipe T.NoRecipe) hr T.NoRecipe.b T.NoRecipe.m (pa_cons (pv 0) pa_nil)) (pa_cons (pe_exc T.NoSplit.o T.NoSplit.i T.NoSplit.t (ok_NoSplit T.NoSplit) hr T.NoSplit.b T.NoSplit.m (pa_cons (pv 0) pa_nil)) pa_nil)))))))
      (pss_cons (ps_set (i := 1) sc_law_by_place.nd rfl (.inl rfl) (pe_op op_catS (pv 1) (pe_lst (pa_cons (pe_exc T.NoText.o T.NoText.i T.NoText.t (ok_NoText T.NoText) hr T.NoText.b T.NoText.m (pa_cons (pv 0) pa_nil)) (pa_cons (pe_exc T.NoForm.o T.NoForm.i T.NoForm.t (ok_NoForm T.NoForm) hr T.NoForm.b T.NoForm.m (pa_cons (pv 0) pa_nil)) (pa_cons (pe_exc T.NoState.o T.NoState.i T.NoState.t (ok_NoState T.NoState) hr T.NoState.b T.NoState.m (pa_cons (pv 0) pa_nil)) (pa_cons (pe_exc T.ManyUnknowns.o T.ManyUnknowns.i T.ManyUnknowns.t (ok_ManyUnknowns T.ManyUnknowns) hr T.ManyUnknowns.b T.ManyUnknowns.m (pa_cons (pv 0) pa_nil)) pa_nil)))))))
      (pss_cons (ps_set (i := 1) sc_law_by_place.nd rfl (.inl rfl) (pe_op op_catS (pv 1) (pe_lst (pa_cons (pe_exc T.NotOnce.o T.NotOnce.i T.NotOnce.t (ok_NotOnce T.NotOnce) hr T.NotOnce.b T.NotOnce.m (pa_cons (pv 0) pa_nil)) (pa_cons (pe_exc T.NoNumbers.o T.NoNumbers.i T.NoNumbers.t (ok_NoNumbers T.NoNumbers) hr T.NoNumbers.b T.NoNumbers.m (pa_cons (pv 0) pa_nil)) (pa_cons (pe_exc T.NoPath.o T.NoPath.i T.NoPath.t (ok_NoPath T.NoPath) hr T.NoPath.b T.NoPath.m (pa_cons (pv 0) pa_nil)) (pa_cons (pe_exc T.LargeTree.o T.LargeTree.i T.LargeTree.t (ok_LargeTree T.LargeTree) hr T.LargeTree.b T.LargeTree.m (pa_cons (pv 0) pa_nil)) pa_nil)))))))
      (pss_cons (ps_set (i := 1) sc_law_by_place.nd rfl (.inl rfl) (pe_op op_catS (pv 1) (pe_lst (pa_cons (pe_exc T.NoRule.o T.NoRule.i T.NoRule.t (ok_NoRule T.NoRule) hr T.NoRule.b T.NoRule.m (pa_cons (pv 0) pa_nil)) (pa_cons (pe_exc T.NoCount.o T.NoCount.i T.NoCount.t (ok_NoCount T.NoCount) hr T.NoCount.b T.NoCount.m (pa_cons (pv 0) pa_nil)) pa_nil)))))
      (pss_one (ps_ret (pv 1))))))))), ?_⟩
    refine q_asgXL (exl_lst (exs_cons (evx2 (ea_cons (ev_var rfl) (ea_cons ev_c ea_nil))) (exs_cons (evx1 (ea_cons (ev_var rfl) ea_nil)) (exs_cons (evx1 (ea_cons (ev_var rfl) ea_nil)) (exs_cons (evx1 (ea_cons (ev_var rfl) ea_nil)) exs_nil)))) (Nat.le_of_ble_eq_true rfl)) fun p0 vs0 H0 e0 h0 x0 => ?_
    refine q_asgXL (exl_cat (exl_var rfl h0 x0) (exl_lst (exs_cons (evx1 (ea_cons (ev_var rfl) ea_nil)) (exs_cons (evx1 (ea_cons (ev_var rfl) ea_nil)) (exs_cons (evx2 (ea_cons (ev_var rfl) (ea_cons ev_c ea_nil))) (exs_cons (evx1 (ea_cons (ev_var rfl) ea_nil)) exs_nil)))) (Nat.le_of_ble_eq_true rfl)) (Nat.le_of_ble_eq_true rfl)) fun p1 vs1 H1 e1 h1 x1 => ?_
    refine q_asgXL (exl_cat (exl_var rfl h1 x1) (exl_lst (exs_cons (evx2 (ea_cons (ev_var rfl) (ea_cons ev_c ea_nil))) (exs_cons (evx2 (ea_cons (ev_var rfl) (ea_cons ev_c ea_nil))) (exs_cons (evx1 (ea_cons (ev_var rfl) ea_nil)) (exs_cons (evx1 (ea_cons (ev_var rfl) ea_nil)) exs_nil)))) (Nat.le_of_ble_eq_true rfl)) (Nat.le_of_ble_eq_true rfl)) fun p2 vs2 H2 e2 h2 x2 => ?_
    refine q_asgXL (exl_cat (exl_var rfl h2 x2) (exl_lst (exs_cons (evx1 (ea_cons (ev_var rfl) ea_nil)) (exs_cons (evx1 (ea_cons (ev_var rfl) ea_nil)) (exs_cons (evx1 (ea_cons (ev_var rfl) ea_nil)) (exs_cons (evx1 (ea_cons (ev_var rfl) ea_nil)) exs_nil)))) (Nat.le_of_ble_eq_true rfl)) (Nat.le_of_ble_eq_true rfl)) fun p3 vs3 H3 e3 h3 x3 => ?_
    refine q_asgXL (exl_cat (exl_var rfl h3 x3) (exl_lst (exs_cons (evx1 (ea_cons (ev_var rfl) ea_nil)) (exs_cons (evx1 (ea_cons (ev_var rfl) ea_nil)) (exs_cons (evx1 (ea_cons (ev_var rfl) ea_nil)) (exs_cons (evx1 (ea_cons (ev_var rfl) ea_nil)) exs_nil)))) (Nat.le_of_ble_eq_true rfl)) (Nat.le_of_ble_eq_true rfl)) fun p4 vs4 H4 e4 h4 x4 => ?_
    refine q_asgXL (exl_cat (exl_var rfl h4 x4) (exl_lst (exs_cons (evx1 (ea_cons (ev_var rfl) ea_nil)) (exs_cons (evx1 (ea_cons (ev_var rfl) ea_nil)) exs_nil)) (Nat.le_of_ble_eq_true rfl)) (Nat.le_of_ble_eq_true rfl)) fun p5 vs5 H5 e5 h5 x5 => ?_
    exact ⟨_, rfl, k _ _ _ (((((e0.trans e1).trans e2).trans e3).trans e4).trans e5) h5 x5⟩
abbrev s_law_by_name : Stmt := topS 30
theorem sc_law_by_name : FnScope ["_law_x", "_law_some"] ["_law_x"] (defScope s_law_by_name) := ⟨rfl, rfl, rfl, by decide +kernel, rfl, by decide +kernel, by decide +kernel⟩
theorem ok_law_by_name (T : Txt K mg) (D : Df K mg "_law_by_name" s_law_by_name ["_law_x"]) : FnOk P w K mg base CX0 3 D.f D.fd ["_law_x"] (spMk T) := by
  refine D.F.ok sc_law_by_name (fun vs H Q E h => ?_) (fun cdv A outer s H vs Q E hr h => ?_)
  · obtain ⟨x, rfl, _⟩ := h
    rfl
  · obtain ⟨x, rfl, k⟩ := h
    refine ⟨_, (pss_cons (ps_set (i := 1) sc_law_by_name.nd rfl (.inl rfl) (pe_lst (pa_cons (pe_excK T.NoGrammar.o T.NoGrammar.i T.NoGrammar.t (ok_NoGrammar T.NoGrammar) hr T.NoGrammar.kb T.NoGrammar.m (pk_cons pe_int (pk_cons (pv 0) pk_nil))) (pa_cons (pe_excK T.NoKind.o T.NoKind.i T.NoKind.t (ok_NoKind T.NoKind) hr T.NoKind.kb T.NoKind.m (pk_cons (pv 0) pk_nil)) (pa_cons (pe_excK T.NoTree.o T.NoTree.i T.NoTree.t (ok_NoTree T.NoTree) hr T.NoTree.kb T.NoTree.m (pk_cons (pv 0) pk_nil)) pa_nil)))))
      (pss_cons (ps_set (i := 1) sc_law_by_name.nd rfl (.inl rfl) (pe_op op_catS (pv 1) (pe_lst (pa_cons (pe_excK T.NotTop.o T.NotTop.i T.NotTop.t (ok_NotTop T.NotTop) hr T.NotTop.kb T.NotTop.m (pk_cons (pv 0) pk_nil)) (pa_cons (pe_excK T.NoContext.o T.NoContext.i T.NoContext.t (ok_NoContext T.NoContext) hr T.NoContext.kb T.NoContext.m (pk_cons (pv 0) pk_nil)) (pa_cons (pe_excK T.WrongKind.o T.WrongKind.i T.WrongKind.t (ok_WrongKind T.WrongKind) hr T.WrongKind.kb T.WrongKind.m (pk_cons (pv 0) pk_nil)) pa_nil))))))
      (pss_cons (ps_set (i := 1) sc_law_by_name.nd rfl (.inl rfl) (pe_op op_catS (pv 1) (pe_lst (pa_cons (pe_excK T.NoCode.o T.NoCode.i T.NoCode.t (ok_NoCode T.NoCode) hr T.NoCode.kb T.NoCode.m (pk_cons pe_int (pk_cons (pv 0) pk_nil))) (pa_cons (pe_excK T.NotOver.o T.NotOver.i T.NotOver.t (ok_NotOver T.NotOver) hr T.NotOver.kb T.NotOver.m (pk_cons (pv 0) pk_nil)) (pa_cons (pe_excK T.NoPaper.o T.NoPaper.i T.NoPaper.t (ok_NoPaper T.NoPaper) hr T.NoPaper.kb T.NoPaper.m (pk_cons pe_int (pk_cons (pv 0) pk_nil))) pa_nil))))))
      (pss_cons (ps_set (i := 1) sc_law_by_name.nd rfl (.inl rfl) (pe_op op_catS (pv 1) (pe_lst (pa_cons (pe_excK T.NoRows.o T.NoRows.i T.NoRows.t (ok_NoRows T.NoRows) hr T.NoRows.kb T.NoRows.m (pk_cons pe_int (pk_cons (pv 0) pk_nil))) (pa_cons (pe_excK T.NoRecipe.o T.NoRecipe.i T.NoRecipe.t (ok_NoRecipe T.NoRecipe) hr T.NoRecipe.kb T.NoRecipe.m (pk_cons (pv 0) pk_nil)) (pa_cons (pe_excK T.NoSplit.o T.NoSplit.i T.NoSplit.t (ok_NoSplit T.NoSplit) hr T.NoSplit.kb T.NoSplit.m (pk_cons (pv 0) pk_nil)) pa_nil))))))
      (pss_cons (ps_set (i := 1) sc_law_by_name.nd rfl (.inl rfl) (pe_op op_catS (pv 1) (pe_lst (pa_cons (pe_excK T.NoText.o T.NoText.i T.NoText.t (ok_NoText T.NoText) hr T.NoText.kb T.NoText.m (pk_cons (pv 0) pk_nil)) (pa_cons (pe_excK T.NoForm.o T.NoForm.i T.NoForm.t (ok_NoForm T.NoForm) hr T.NoForm.kb T.NoForm.m (pk_cons (pv 0) pk_nil)) (pa_cons (pe_excK T.NoState.o T.NoState.i T.NoState.t (ok_NoState T.NoState) hr T.NoState.kb T.NoState.m (pk_cons (pv 0) pk_nil)) pa_nil))))))
      (pss_cons (ps_set (i := 1) sc_law_by_name.nd rfl (.inl rfl) (pe_op op_catS (pv 1) (pe_lst (pa_cons (pe_excK T.ManyUnknowns.o T.ManyUnknowns.i T.ManyUnknowns.t (ok_ManyUnknowns T.ManyUnknowns) hr T.ManyUnknowns.kb T.ManyUnknowns.m (pk_cons (pv 0) pk_nil)) (pa_cons (pe_excK T.NotOnce.o T.NotOnce.i T.NotOnce.t (ok_NotOnce T.NotOnce) hr T.NotOnce.kb T.NotOnce.m (pk_cons (pv 0) pk_nil)) (pa_cons (pe_excK T.NoNumbers.o T.NoNumbers.i T.NoNumbers.t (ok_NoNumbers T.NoNumbers) hr T.NoNumbers.kb T.NoNumbers.m (pk_cons (pv 0) pk_nil)) pa_nil))))))
      (pss_cons (ps_set (i := 1) sc_law_by_name.nd rfl (.inl rfl) (pe_op op_catS (pv 1) (pe_lst (pa_cons (pe_excK T.NoPath.o T.NoPath.i T.NoPath.t (ok_NoPath T.NoPath) hr T.NoPath.kb T.NoPath.m (pk_cons (pv 0) pk_nil)) (pa_cons (pe_excK T.LargeTree.o T.LargeTree.i T.LargeTree.t (ok_LargeTree T.LargeTree) hr T.LargeTree.kb T.LargeTree.m (pk_cons (pv 0) pk_nil)) (pa_cons (pe_excK T.NoRule.o T.NoRule.i T.NoRule.t (ok_NoRule T.NoRule) hr T.NoRule.kb T.NoRule.m (pk_cons (pv 0) pk_nil)) pa_nil))))))
      (pss_cons (ps_set (i := 1) sc_law_by_name.nd rfl (.inl rfl) (pe_op op_catS (pv 1) (pe_lst (pa_cons (pe_excK T.NoCount.o T.NoCount.i T.NoCount.t (ok_NoCount T.NoCount) hr T.NoCount.kb T.NoCount.m (pk_cons (pv 0) pk_nil)) pa_nil))))
      (pss_one (ps_ret (pv 1))))))))))), ?_⟩
    refine q_asgXL (exl_lst (exs_cons (evx2K (ea_cons ev_c (ea_cons (ev_var rfl) ea_nil))) (exs_cons (evx1K (ea_cons (ev_var rfl) ea_nil)) (exs_cons (evx1K (ea_cons (ev_var rfl) ea_nil)) exs_nil))) (Nat.le_of_ble_eq_true rfl)) fun p0 vs0 H0 e0 h0 x0 => ?_
    refine q_asgXL (exl_cat (exl_var rfl h0 x0) (exl_lst (exs_cons (evx1K (ea_cons (ev_var rfl) ea_nil)) (exs_cons (evx1K (ea_cons (ev_var rfl) ea_nil)) (exs_cons (evx1K (ea_cons (ev_var rfl) ea_nil)) exs_nil))) (Nat.le_of_ble_eq_true rfl)) (Nat.le_of_ble_eq_true rfl)) fun p1 vs1 H1 e1 h1 x1 => ?_
    refine q_asgXL (exl_cat (exl_var rfl h1 x1) (exl_lst (exs_cons (evx2K (ea_cons ev_c (ea_cons (ev_var rfl) ea_nil))) (exs_cons (evx1K (ea_cons (ev_var rfl) ea_nil)) (exs_cons (evx2K (ea_cons ev_c (ea_cons (ev_var rfl) ea_nil))) exs_nil))) (Nat.le_of_ble_eq_true rfl)) (Nat.le_of_ble_eq_true rfl)) fun p2 vs2 H2 e2 h2 x2 => ?_
    refine q_asgXL (exl_cat (exl_var rfl h2 x2) (exl_lst (exs_cons (evx2K (ea_cons ev_c (ea_cons (ev_var rfl) ea_nil))) (exs_cons (evx1K (ea_cons (ev_var rfl) ea_nil)) (exs_cons (evx1K (ea_cons (ev_var rfl) ea_nil)) exs_nil))) (Nat.le_of_ble_eq_true rfl)) (Nat.le_of_ble_eq_true rfl)) fun p3 vs3 H3 e3 h3 x3 => ?_
    refine q_asgXL (exl_cat (exl_var rfl h3 x3) (exl_lst (exs_cons (evx1K (ea_cons (ev_var rfl) ea_nil)) (exs_cons (evx1K (ea_cons (ev_var rfl) ea_nil)) (exs_cons (evx1K (ea_cons (ev_var rfl) ea_nil)) exs_nil))) (Nat.le_of_ble_eq_true rfl)) (Nat.le_of_ble_eq_true rfl)) fun p4 vs4 H4 e4 h4 x4 => ?_
    refine q_asgXL (exl_cat (exl_var rfl h4 x4) (exl_lst (exs_cons (evx1K (ea_cons (ev_var rfl) ea_nil)) (exs_cons (evx1K (ea_cons (ev_var rfl) ea_nil)) (exs_cons (evx1K (ea_cons (ev_var rfl) ea_nil)) exs_nil))) (Nat.le_of_ble_eq_true rfl)) (Nat.le_of_ble_eq_true rfl)) fun p5 vs5 H5 e5 h5 x5 => ?_
    refine q_asgXL (exl_cat (exl_var rfl h5 x5) (exl_lst (exs_cons (evx1K (ea_cons (ev_var rfl) ea_nil)) (exs_cons (evx1K (ea_cons (ev_var rfl) ea_nil)) (exs_cons (evx1K (ea_cons (ev_var rfl) ea_nil)) exs_nil))) (Nat.le_of_ble_eq_true rfl)) (Nat.le_of_ble_eq_true rfl)) fun p6 vs6 H6 e6 h6 x6 => ?_
    refine q_asgXL (exl_cat (exl_var rfl h6 x6) (exl_lst (exs_cons (evx1K (ea_cons (ev_var rfl) ea_nil)) exs_nil) (Nat.le_of_ble_eq_true rfl)) (Nat.le_of_ble_eq_true rfl)) fun p7 vs7 H7 e7 h7 x7 => ?_
    exact ⟨_, rfl, k _ _ _ (((((((e0.trans e1).trans e2).trans e3).trans e4).trans e5).trans e6).trans e7) h7 x7⟩
end
end K04

set_option Elab.async false
set_option linter.all false
set_option maxRecDepth 100000
set_option maxHeartbeats 4000000
namespace K04
open PySem PySem.Spec PyProof.Rows L2 Evl
section
variable {P : Program} {w : World} {K : PySem.W.Frag} {mg : Str → Option Value} {base : Heap}
variable {σ : L2.St} {H : Hp} {te tb : TE} {ta : TA} {C : Addr} {fs : List (Str × V)} {ss ts : List (Addr × List (Str × V))} {f g : Str} {v u : V} {tz : TS} {D : Ends}
theorem el_catS {p : Addr} {xs ys : List V} (h1 : Ev te σ H (.ref p)) (hp : H p = some (.lst xs)) (h2 : EvL tb σ H ys) (hz : xs.length + ys.length ≤ 1000) : EvL (tOp (rCatS K) te tb) σ H (xs ++ ys) := fun H1 e Q q =>
  h1 H1 e _ fun H2 e2 => h2 H2 (e.trans e2) _ fun p' H3 _ e3 hp' =>
    ⟨p, p', xs, ys, rfl, rfl, sq_of (((e.trans e2).trans e3) _ _ hp), sq_of hp', sz_of (by omega), fun l hl => q l _ (fresh_back (e2.trans e3) hl) ((e2.trans e3).trans (Ex.new hl)) upd_same⟩
/-- at a an exception of the class at C stands -/
structure XA (K : PySem.W.Frag) (H : Hp) (a C : Addr) : Prop where
  at_ : H a = some (exo a C none) ∨ ∃ fs, ExcAt H a C fs
  ec : ExcC K C
theorem XA.mono {a : Addr} {H' : Hp} (h : XA K H a C) (e : Ex H H') : XA K H' a C := ⟨h.at_.elim (fun z => .inl (e _ _ z)) fun ⟨fs, z⟩ => .inr ⟨fs, z.mono e⟩, h.ec⟩
theorem ev_isx {a D : Addr} {b : Bool} (h : Ev te σ H (.ref a)) (hx : XA K H a C) (hk : PySem.W.kitOne K (.ref C) (.ref D) = some b) : Ev (tCB (rIsX K) (tCons te (tCons (tC (.ref D)) tNil))) σ H (.bl b) := fun H1 e Q q =>
  h H1 e _ fun H2 e2 => ⟨a, C, _, _, b, rfl, (hx.mono (e.trans e2)).at_, .own D, hx.ec, hk, q H2 e2⟩
theorem ev_isxT {a : Addr} {n : String} {b : Bool} (h : Ev te σ H (.ref a)) (hx : XA K H a C) (hk : PySem.W.kitOne K (.ref C) (.type n) = some b) : Ev (tCB (rIsX K) (tCons te (tCons (tC (.ty n)) tNil))) σ H (.bl b) := fun H1 e Q q =>
  h H1 e _ fun H2 e2 => ⟨a, C, _, _, b, rfl, (hx.mono (e.trans e2)).at_, .ty n, hx.ec, hk, q H2 e2⟩
structure XL (H : Hp) (p : Addr) (us : List V) (ss : List (Addr × List (Str × V))) : Prop where
  at_ : H p = some (.lst us)
  ex : ExcL H us ss
theorem XL.mono {p : Addr} {us : List V} {H' : Hp} (h : XL H p us ss) (e : Ex H H') : XL H' p us ss := ⟨e _ _ h.at_, h.ex.mono e⟩
theorem ExcL.at_ {H : Hp} : ∀ {us : List V} {ss : List (Addr × List (Str × V))} {j : Nat} {C : Addr} {fs : List (Str × V)}, ExcL H us ss → ss[j]? = some (C, fs) → ∃ a, us[j]? = some (.ref a) ∧ ExcAt H a C fs
  | _, _, _, _, _, .nil, h => by simp at h
  | _, _, 0, _, _, .cons ⟨a, r, x⟩ _, h => by
    subst r
    have e := Option.some.inj h
    rw [e] at x
    exact ⟨a, rfl, x⟩
  | _, _, j + 1, _, _, .cons _ t, h => ExcL.at_ t (j := j) (by simpa using h)
theorem ev_xf {i j : Nat} {p : Addr} {us : List V} (hi : σ[i]? = some (some (.ref p))) (hp : XL H p us ss) (hj : ss[j]? = some (C, fs)) (hf : XfC K C) (hn : PySem.W.findIn K (.ref C) f = some none) (hl : fs.lookup f = some v) :
    Ev (tXv K f (tOp (rIxL K) (tVar i) (tC (.int (j : Int))))) σ H v := fun H1 e Q q => by
  obtain ⟨a, ha, hx⟩ := hp.ex.at_ hj
  exact ⟨_, hi, p, us, _, _, rfl, rfl, sq_of (e _ _ hp.at_), atI_nat ha, a, C, fs, v, rfl, hx.mono e, hf, hn, hl, q H1 (Ex.refl H1)⟩
theorem lk1 : List.lookup f [(f, v)] = some v := by simp [List.lookup]
theorem lk2a : List.lookup g [(g, u), (f, v)] = some u := by simp [List.lookup]
theorem lk2b (h : ¬ f = g) : List.lookup f [(g, u), (f, v)] = some v := by
  have e : (f == g) = false := by simpa using h
  simp [List.lookup, e]
/-- what the fields are -/
def due (x : V) : List V := [x, .int 7, x, x, x, x, x, x, .int 7, x, x, .int 7, x, .int 7, x, x, x, x, x, x, x, x] ++ [x, x, x, x]
def spTaken (T : Txt K mg) : Sp := fun vs H Q _ => ∃ (a C : Addr) (f : Nat → Bool), vs = [.ref a] ∧ XA K H a C ∧ (∀ (j : Nat) (D : Addr), T.cs[j]? = some D → PySem.W.kitOne K (.ref C) (.ref D) = some (f j)) ∧
  ∀ q H', H q = none → Ex H H' → H' q = some (.lst ((List.range 22).map fun j => V.bl (f j))) → Q (.ref q) H'
def spFields (T : Txt K mg) : Sp := fun vs H Q _ => ∃ (p : Addr) (us : List V) (x : V), vs = [.ref p] ∧ H p = some (.lst us) ∧ ExcL H us (T.specs x) ∧
  ∀ q H', H q = none → Ex H H' → H' q = some (.lst (due x)) → Q (.ref q) H'
abbrev s_law_taken : Stmt := topS 28
theorem sc_law_taken : FnScope ["_law_e", "_law_found"] ["_law_e"] (defScope s_law_taken) := ⟨rfl, rfl, rfl, by decide +kernel, rfl, by decide +kernel, by decide +kernel⟩
theorem ok_law_taken (T : Txt K mg) (D : Df K mg "_law_taken" s_law_taken ["_law_e"]) : FnOk P w K mg base CX0 1 D.f D.fd ["_law_e"] (spTaken T) := by
  refine D.F.ok sc_law_taken (fun vs H Q E h => ?_) (fun cdv A outer s H vs Q E hr h => ?_)
  · obtain ⟨a, C, f, rfl, _⟩ := h
    rfl
  · obtain ⟨a, C, f, rfl, hp, kk, k⟩ := h
    refine ⟨_, (pss_cons (ps_set (i := 1) sc_law_taken.nd rfl (.inl rfl) (pe_lst (pa_cons (pe_callB call_isX (by rfl) T.isinstance (by decide +kernel) (pa_cons (pv 0) (pa_cons (pe_glob (v := .ref T.NoGrammar.C) rfl T.NoGrammar.m rfl) pa_nil))) (pa_cons (pe_callB call_isX (by rfl) T.isinstance (by decide +kernel) (pa_cons (pv 0) (pa_cons (pe_glob (v := .ref T.NoKind.C) rfl T.NoKind.m rfl) pa_nil))) (pa_cons (pe_callB call_isX (by rfl) T.isinstance (by decide +kernel) (pa_cons (pv 0) (pa_cons (pe_glob (v := .ref T.NoTree.C) rfl T.NoTree.m rfl) pa_nil))) pa_nil)))))
      (pss_cons (ps_set (i := 1) sc_law_taken.nd rfl (.inl rfl) (pe_op op_catS (pv 1) (pe_lst (pa_cons (pe_callB call_isX (by rfl) T.isinstance (by decide +kernel) (pa_cons (pv 0) (pa_cons (pe_glob (v := .ref T.NotTop.C) rfl T.NotTop.m rfl) pa_nil))) (pa_cons (pe_callB call_isX (by rfl) T.isinstance (by decide +kernel) (pa_cons (pv 0) (pa_cons (pe_glob (v := .ref T.NoContext.C) rfl T.NoContext.m rfl) pa_nil))) (pa_cons (pe_callB call_isX (by rfl) T.isinstance (by decide +kernel) (pa_cons (pv 0) (pa_cons (pe_glob (v := .ref T.WrongKind.C) rfl T.WrongKind.m rfl) pa_nil))) pa_nil))))))
      (pss_cons (ps_set (i := 1) sc_law_taken.nd rfl (.inl rfl) (pe_op op_catS (pv 1) (pe_lst (pa_cons (pe_callB call_isX (by rfl) T.isinstance (by decide +kernel) (pa_cons (pv 0) (pa_cons (pe_glob (v := .ref T.NoCode.C) rfl T.NoCode.m rfl) pa_nil))) (pa_cons (pe_callB call_isX (by rfl) T.isinstance (by decide +kernel) (pa_cons (pv 0) (pa_cons (pe_glob (v := .ref T.NotOver.C) rfl T.NotOver.m rfl) pa_nil))) (pa_cons (pe_callB call_isX (by rfl) T.isinstance (by decide +kernel) (pa_cons (pv 0) (pa_cons (pe_glob (v := .ref T.NoPaper.C) rfl T.NoPaper.m rfl) pa_nil))) pa_nil))))))
      (pss_cons (ps_set (i := 1) sc_law_taken.nd rfl (.inl rfl) (pe_op op_catS (pv 1) (pe_lst (pa_cons (pe_callB call_isX (by rfl) T.isinstance (by decide +kernel) (pa_cons (pv 0) (pa_cons (pe_glob (v := .ref T.NoRows.C) rfl T.NoRows.m rfl) pa_nil))) (pa_cons (pe_callB call_isX (by rfl) T.isinstance (by decide +kernel) (pa_cons (pv 0) (pa_cons (pe_glob (v := .ref T.NoRecipe.C) rfl T.NoRecipe.m rfl) pa_nil))) (pa_cons (pe_callB call_isX (by rfl) T.isinstance (by decide +kernel) (pa_cons (pv 0) (pa_cons (pe_glob (v := .ref T.NoSplit.C) rfl T.NoSplit.m rfl) pa_nil))) pa_nil))))))
      (pss_cons (ps_set (i := 1) sc_law_taken.nd rfl (.inl rfl) (pe_op op_catS (pv 1) (pe_lst (pa_cons (pe_callB call_isX (by rfl) T.isinstance (by decide +kernel) (pa_cons (pv 0) (pa_cons (pe_glob (v := .ref T.NoText.C) rfl T.NoText.m rfl) pa_nil))) (pa_cons (pe_callB call_isX (by rfl) T.isinstance (by decide +kernel) (pa_cons (pv 0) (pa_cons (pe_glob (v := .ref T.NoForm.C) rfl T.NoForm.m rfl) pa_nil))) (pa_cons (pe_callB call_isX (by rfl) T.isinstance (by decide +kernel) (pa_cons (pv 0) (pa_cons (pe_glob (v := .ref T.NoState.C) rfl T.NoState.m rfl) pa_nil))) pa_nil))))))
      (pss_cons (ps_set (i := 1) sc_law_taken.nd rfl (.inl rfl) (pe_op op_catS (pv 1) (pe_lst (pa_cons (pe_callB call_isX (by rfl) T.isinstance (by decide +kernel) (pa_cons (pv 0) (pa_cons (pe_glob (v := .ref T.ManyUnknowns.C) rfl T.ManyUnknowns.m rfl) pa_nil))) (pa_cons (pe_callB call_isX (by rfl) T.isinstance (by decide +kernel) (pa_cons (pv 0) (pa_cons (pe_glob (v := .ref T.NotOnce.C) rfl T.NotOnce.m rfl) pa_nil))) (pa_cons (pe_callB call_isX (by rfl) T.isinstance (by decide +kernel) (pa_cons (pv 0) (pa_cons (pe_glob (v := .ref T.NoNumbers.C) rfl T.NoNumbers.m rfl) pa_nil))) pa_nil))))))
      (pss_cons (ps_set (i := 1) sc_law_taken.nd rfl (.inl rfl) (pe_op op_catS (pv 1) (pe_lst (pa_cons (pe_callB call_isX (by rfl) T.isinstance (by decide +kernel) (pa_cons (pv 0) (pa_cons (pe_glob (v := .ref T.NoPath.C) rfl T.NoPath.m rfl) pa_nil))) (pa_cons (pe_callB call_isX (by rfl) T.isinstance (by decide +kernel) (pa_cons (pv 0) (pa_cons (pe_glob (v := .ref T.LargeTree.C) rfl T.LargeTree.m rfl) pa_nil))) (pa_cons (pe_callB call_isX (by rfl) T.isinstance (by decide +kernel) (pa_cons (pv 0) (pa_cons (pe_glob (v := .ref T.NoRule.C) rfl T.NoRule.m rfl) pa_nil))) pa_nil))))))
      (pss_cons (ps_set (i := 1) sc_law_taken.nd rfl (.inl rfl) (pe_op op_catS (pv 1) (pe_lst (pa_cons (pe_callB call_isX (by rfl) T.isinstance (by decide +kernel) (pa_cons (pv 0) (pa_cons (pe_glob (v := .ref T.NoCount.C) rfl T.NoCount.m rfl) pa_nil))) pa_nil))))
      (pss_one (ps_ret (pv 1))))))))))), ?_⟩
    refine q_asgL (el_lst (ea_cons (ev_isx (ev_var rfl) hp (kk 0 _ rfl)) (ea_cons (ev_isx (ev_var rfl) hp (kk 1 _ rfl)) (ea_cons (ev_isx (ev_var rfl) hp (kk 2 _ rfl)) ea_nil))) (Nat.le_of_ble_eq_true rfl)) fun p0 H0 n0 e0 h0 => ?_
    refine q_asgL (el_catS (ev_var rfl) h0 (el_lst (ea_cons (ev_isx (ev_var rfl) (hp.mono e0) (kk 3 _ rfl)) (ea_cons (ev_isx (ev_var rfl) (hp.mono e0) (kk 4 _ rfl)) (ea_cons (ev_isx (ev_var rfl) (hp.mono e0) (kk 5 _ rfl)) ea_nil))) (Nat.le_of_ble_eq_true rfl)) (Nat.le_of_ble_eq_true rfl)) fun p1 H1 n1 e1 h1 => ?_
    refine q_asgL (el_catS (ev_var rfl) h1 (el_lst (ea_cons (ev_isx (ev_var rfl) (hp.mono (e0.trans e1)) (kk 6 _ rfl)) (ea_cons (ev_isx (ev_var rfl) (hp.mono (e0.trans e1)) (kk 7 _ rfl)) (ea_cons (ev_isx (ev_var rfl) (hp.mono (e0.trans e1)) (kk 8 _ rfl)) ea_nil))) (Nat.le_of_ble_eq_true rfl)) (Nat.le_of_ble_eq_true rfl)) fun p2 H2 n2 e2 h2 => ?_
    refine q_asgL (el_catS (ev_var rfl) h2 (el_lst (ea_cons (ev_isx (ev_var rfl) (hp.mono ((e0.trans e1).trans e2)) (kk 9 _ rfl)) (ea_cons (ev_isx (ev_var rfl) (hp.mono ((e0.trans e1).trans e2)) (kk 10 _ rfl)) (ea_cons (ev_isx (ev_var rfl) (hp.mono ((e0.trans e1).trans e2)) (kk 11 _ rfl)) ea_nil))) (Nat.le_of_ble_eq_true rfl)) (Nat.le_of_ble_eq_true rfl)) fun p3 H3 n3 e3 h3 => ?_
    refine q_asgL (el_catS (ev_var rfl) h3 (el_lst (ea_cons (ev_isx (ev_var rfl) (hp.mono (((e0.trans e1).trans e2).trans e3)) (kk 12 _ rfl)) (ea_cons (ev_isx (ev_var rfl) (hp.mono (((e0.trans e1).trans e2).trans e3)) (kk 13 _ rfl)) (ea_cons (ev_isx (ev_var rfl) (hp.mono (((e0.trans e1).trans e2).trans e3)) (kk 14 _ rfl)) ea_nil))) (Nat.le_of_ble_eq_true rfl)) (Nat.le_of_ble_eq_true rfl)) fun p4 H4 n4 e4 h4 => ?_
    refine q_asgL (el_catS (ev_var rfl) h4 (el_lst (ea_cons (ev_isx (ev_var rfl) (hp.mono ((((e0.trans e1).trans e2).trans e3).trans e4)) (kk 15 _ rfl)) (ea_cons (ev_isx (ev_var rfl) (hp.mono ((((e0.trans e1).trans e2).trans e3).trans e4)) (kk 16 _ rfl)) (ea_cons (ev_isx (ev_var rfl) (hp.mono ((((e0.trans e1).trans e2).trans e3).trans e4)) (kk 17 _ rfl)) ea_nil))) (Nat.le_of_ble_eq_true rfl)) (Nat.le_of_ble_eq_true rfl)) fun p5 H5 n5 e5 h5 => ?_
    refine q_asgL (el_catS (ev_var rfl) h5 (el_lst (ea_cons (ev_isx (ev_var rfl) (hp.mono (((((e0.trans e1).trans e2).trans e3).trans e4).trans e5)) (kk 18 _ rfl)) (ea_cons (ev_isx (ev_var rfl) (hp.mono (((((e0.trans e1).trans e2).trans e3).trans e4).trans e5)) (kk 19 _ rfl)) (ea_cons (ev_isx (ev_var rfl) (hp.mono (((((e0.trans e1).trans e2).trans e3).trans e4).trans e5)) (kk 20 _ rfl)) ea_nil))) (Nat.le_of_ble_eq_true rfl)) (Nat.le_of_ble_eq_true rfl)) fun p6 H6 n6 e6 h6 => ?_
    refine q_asgL (el_catS (ev_var rfl) h6 (el_lst (ea_cons (ev_isx (ev_var rfl) (hp.mono ((((((e0.trans e1).trans e2).trans e3).trans e4).trans e5).trans e6)) (kk 21 _ rfl)) ea_nil) (Nat.le_of_ble_eq_true rfl)) (Nat.le_of_ble_eq_true rfl)) fun p7 H7 n7 e7 h7 => ?_
    exact ⟨_, rfl, k _ _ (fresh_back ((((((e0.trans e1).trans e2).trans e3).trans e4).trans e5).trans e6) n7) (((((((e0.trans e1).trans e2).trans e3).trans e4).trans e5).trans e6).trans e7) (h7.trans (congrArg (fun l => some (HO.lst l)) rfl))⟩
abbrev s_law_fields : Stmt := topS 31
theorem sc_law_fields : FnScope ["_law_some", "_law_found"] ["_law_some"] (defScope s_law_fields) := ⟨rfl, rfl, rfl, by decide +kernel, rfl, by decide +kernel, by decide +kernel⟩
theorem ok_law_fields (T : Txt K mg) (D : Df K mg "_law_fields" s_law_fields ["_law_some"]) : FnOk P w K mg base CX0 1 D.f D.fd ["_law_some"] (spFields T) := by
  refine D.F.ok sc_law_fields (fun vs H Q E h => ?_) (fun cdv A outer s H vs Q E hr h => ?_)
  · obtain ⟨p, us, x, rfl, _⟩ := h
    rfl
  · obtain ⟨p, us, x, rfl, h0, hx, k⟩ := h
    have hp : XL H p us (T.specs x) := ⟨h0, hx⟩
    refine ⟨_, (pss_cons (ps_set (i := 1) sc_law_fields.nd rfl (.inl rfl) (pe_lst (pa_cons (pe_xv (pe_ix ix_list (pv 0) pe_int (fun _ _ => rfl))) (pa_cons (pe_xv (pe_ix ix_list (pv 0) pe_int (fun _ _ => rfl))) (pa_cons (pe_xv (pe_ix ix_list (pv 0) pe_int (fun _ _ => rfl))) (pa_cons (pe_xv (pe_ix ix_list (pv 0) pe_int (fun _ _ => rfl))) pa_nil))))))
      (pss_cons (ps_set (i := 1) sc_law_fields.nd rfl (.inl rfl) (pe_op op_catS (pv 1) (pe_lst (pa_cons (pe_xv (pe_ix ix_list (pv 0) pe_int (fun _ _ => rfl))) (pa_cons (pe_xv (pe_ix ix_list (pv 0) pe_int (fun _ _ => rfl))) (pa_cons (pe_xv (pe_ix ix_list (pv 0) pe_int (fun _ _ => rfl))) (pa_cons (pe_xv (pe_ix ix_list (pv 0) pe_int (fun _ _ => rfl))) pa_nil)))))))
      (pss_cons (ps_set (i := 1) sc_law_fields.nd rfl (.inl rfl) (pe_op op_catS (pv 1) (pe_lst (pa_cons (pe_xv (pe_ix ix_list (pv 0) pe_int (fun _ _ => rfl))) (pa_cons (pe_xv (pe_ix ix_list (pv 0) pe_int (fun _ _ => rfl))) (pa_cons (pe_xv (pe_ix ix_list (pv 0) pe_int (fun _ _ => rfl))) (pa_cons (pe_xv (pe_ix ix_list (pv 0) pe_int (fun _ _ => rfl))) pa_nil)))))))
      (pss_cons (ps_set (i := 1) sc_law_fields.nd rfl (.inl rfl) (pe_op op_catS (pv 1) (pe_lst (pa_cons (pe_xv (pe_ix ix_list (pv 0) pe_int (fun _ _ => rfl))) (pa_cons (pe_xv (pe_ix ix_list (pv 0) pe_int (fun _ _ => rfl))) (pa_cons (pe_xv (pe_ix ix_list (pv 0) pe_int (fun _ _ => rfl))) (pa_cons (pe_xv (pe_ix ix_list (pv 0) pe_int (fun _ _ => rfl))) pa_nil)))))))
      (pss_cons (ps_set (i := 1) sc_law_fields.nd rfl (.inl rfl) (pe_op op_catS (pv 1) (pe_lst (pa_cons (pe_xv (pe_ix ix_list (pv 0) pe_int (fun _ _ => rfl))) (pa_cons (pe_xv (pe_ix ix_list (pv 0) pe_int (fun _ _ => rfl))) (pa_cons (pe_xv (pe_ix ix_list (pv 0) pe_int (fun _ _ => rfl))) (pa_cons (pe_xv (pe_ix ix_list (pv 0) pe_int (fun _ _ => rfl))) pa_nil)))))))
      (pss_cons (ps_set (i := 1) sc_law_fields.nd rfl (.inl rfl) (pe_op op_catS (pv 1) (pe_lst (pa_cons (pe_xv (pe_ix ix_list (pv 0) pe_int (fun _ _ => rfl))) (pa_cons (pe_xv (pe_ix ix_list (pv 0) pe_int (fun _ _ => rfl))) (pa_cons (pe_xv (pe_ix ix_list (pv 0) pe_int (fun _ _ => rfl))) (pa_cons (pe_xv (pe_ix ix_list (pv 0) pe_int (fun _ _ => rfl))) pa_nil)))))))
      (pss_cons (ps_set (i := 1) sc_law_fields.nd rfl (.inl rfl) (pe_op op_catS (pv 1) (pe_lst (pa_cons (pe_xv (pe_ix ix_list (pv 0) pe_int (fun _ _ => rfl))) (pa_cons (pe_xv (pe_ix ix_list (pv 0) pe_int (fun _ _ => rfl))) pa_nil)))))
      (pss_one (ps_ret (pv 1)))))))))), ?_⟩
    refine q_asgL (el_lst (ea_cons (ev_xf (i := 0) (ss := T.specs x) rfl hp (j := 0) rfl T.NoGrammar.xf (T.NoGrammar.no _ (by decide +kernel)) (lk2b (by decide +kernel))) (ea_cons (ev_xf (i := 0) (ss := T.specs x) rfl hp (j := 0) rfl T.NoGrammar.xf (T.NoGrammar.no _ (by decide +kernel)) lk2a) (ea_cons (ev_xf (i := 0) (ss := T.specs x) rfl hp (j := 1) rfl T.NoKind.xf (T.NoKind.no _ (by decide +kernel)) lk1) (ea_cons (ev_xf (i := 0) (ss := T.specs x) rfl hp (j := 2) rfl T.NoTree.xf (T.NoTree.no _ (by decide +kernel)) lk1) ea_nil)))) (Nat.le_of_ble_eq_true rfl)) fun p0 H0 n0 e0 h0 => ?_
    refine q_asgL (el_catS (ev_var rfl) h0 (el_lst (ea_cons (ev_xf (i := 0) (ss := T.specs x) rfl (hp.mono e0) (j := 3) rfl T.NotTop.xf (T.NotTop.no _ (by decide +kernel)) lk1) (ea_cons (ev_xf (i := 0) (ss := T.specs x) rfl (hp.mono e0) (j := 4) rfl T.NoContext.xf (T.NoContext.no _ (by decide +kernel)) lk1) (ea_cons (ev_xf (i := 0) (ss := T.specs x) rfl (hp.mono e0) (j := 5) rfl T.WrongKind.xf (T.WrongKind.no _ (by decide +kernel)) lk1) (ea_cons (ev_xf (i := 0) (ss := T.specs x) rfl (hp.mono e0) (j := 6) rfl T.NoCode.xf (T.NoCode.no _ (by decide +kernel)) (lk2b (by decide +kernel))) ea_nil)))) (Nat.le_of_ble_eq_true rfl)) (Nat.le_of_ble_eq_true rfl)) fun p1 H1 n1 e1 h1 => ?_
    refine q_asgL (el_catS (ev_var rfl) h1 (el_lst (ea_cons (ev_xf (i := 0) (ss := T.specs x) rfl (hp.mono (e0.trans e1)) (j := 6) rfl T.NoCode.xf (T.NoCode.no _ (by decide +kernel)) lk2a) (ea_cons (ev_xf (i := 0) (ss := T.specs x) rfl (hp.mono (e0.trans e1)) (j := 7) rfl T.NotOver.xf (T.NotOver.no _ (by decide +kernel)) lk1) (ea_cons (ev_xf (i := 0) (ss := T.specs x) rfl (hp.mono (e0.trans e1)) (j := 8) rfl T.NoPaper.xf (T.NoPaper.no _ (by decide +kernel)) (lk2b (by decide +kernel))) (ea_cons (ev_xf (i := 0) (ss := T.specs x) rfl (hp.mono (e0.trans e1)) (j := 8) rfl T.NoPaper.xf (T.NoPaper.no _ (by decide +kernel)) lk2a) ea_nil)))) (Nat.le_of_ble_eq_true rfl)) (Nat.le_of_ble_eq_true rfl)) fun p2 H2 n2 e2 h2 => ?_
    refine q_asgL (el_catS (ev_var rfl) h2 (el_lst (ea_cons (ev_xf (i := 0) (ss := T.specs x) rfl (hp.mono ((e0.trans e1).trans e2)) (j := 9) rfl T.NoRows.xf (T.NoRows.no _ (by decide +kernel)) (lk2b (by decide +kernel))) (ea_cons (ev_xf (i := 0) (ss := T.specs x) rfl (hp.mono ((e0.trans e1).trans e2)) (j := 9) rfl T.NoRows.xf (T.NoRows.no _ (by decide +kernel)) lk2a) (ea_cons (ev_xf (i := 0) (ss := T.specs x) rfl (hp.mono ((e0.trans e1).trans e2)) (j := 10) rfl T.NoRecipe.xf (T.NoRecipe.no _ (by decide +kernel)) lk1) (ea_cons (ev_xf (i := 0) (ss := T.specs x) rfl (hp.mono ((e0.trans e1).trans e2)) (j := 11) rfl T.NoSplit.xf (T.NoSplit.no _ (by decide +kernel)) lk1) ea_nil)))) (Nat.le_of_ble_eq_true rfl)) (Nat.le_of_ble_eq_true rfl)) fun p3 H3 n3 e3 h3 => ?_
    refine q_asgL (el_catS (ev_var rfl) h3 (el_lst (ea_cons (ev_xf (i := 0) (ss := T.specs x) rfl (hp.mono (((e0.trans e1).trans e2).trans e3)) (j := 12) rfl T.NoText.xf (T.NoText.no _ (by decide +kernel)) lk1) (ea_cons (ev_xf (i := 0) (ss := T.specs x) rfl (hp.mono (((e0.trans e1).trans e2).trans e3)) (j := 13) rfl T.NoForm.xf (T.NoForm.no _ (by decide +kernel)) lk1) (ea_cons (ev_xf (i := 0) (ss := T.specs x) rfl (hp.mono (((e0.trans e1).trans e2).trans e3)) (j := 14) rfl T.NoState.xf (T.NoState.no _ (by decide +kernel)) lk1) (ea_cons (ev_xf (i := 0) (ss := T.specs x) rfl (hp.mono (((e0.trans e1).trans e2).trans e3)) (j := 15) rfl T.ManyUnknowns.xf (T.ManyUnknowns.no _ (by decide +kernel)) lk1) ea_nil)))) (Nat.le_of_ble_eq_true rfl)) (Nat.le_of_ble_eq_true rfl)) fun p4 H4 n4 e4 h4 => ?_
    refine q_asgL (el_catS (ev_var rfl) h4 (el_lst (ea_cons (ev_xf (i := 0) (ss := T.specs x) rfl (hp.mono ((((e0.trans e1).trans e2).trans e3).trans e4)) (j := 16) rfl T.NotOnce.xf (T.NotOnce.no _ (by decide +kernel)) lk1) (ea_cons (ev_xf (i := 0) (ss := T.specs x) rfl (hp.mono ((((e0.trans e1).trans e2).trans e3).trans e4)) (j := 17) rfl T.NoNumbers.xf (T.NoNumbers.no _ (by decide +kernel)) lk1) (ea_cons (ev_xf (i := 0) (ss := T.specs x) rfl (hp.mono ((((e0.trans e1).trans e2).trans e3).trans e4)) (j := 18) rfl T.NoPath.xf (T.NoPath.no _ (by decide +kernel)) lk1) (ea_cons (ev_xf (i := 0) (ss := T.specs x) rfl (hp.mono ((((e0.trans e1).trans e2).trans e3).trans e4)) (j := 19) rfl T.LargeTree.xf (T.LargeTree.no _ (by decide +kernel)) lk1) ea_nil)))) (Nat.le_of_ble_eq_true rfl)) (Nat.le_of_ble_eq_true rfl)) fun p5 H5 n5 e5 h5 => ?_
    refine q_asgL (el_catS (ev_var rfl) h5 (el_lst (ea_cons (ev_xf (i := 0) (ss := T.specs x) rfl (hp.mono (((((e0.trans e1).trans e2).trans e3).trans e4).trans e5)) (j := 20) rfl T.NoRule.xf (T.NoRule.no _ (by decide +kernel)) lk1) (ea_cons (ev_xf (i := 0) (ss := T.specs x) rfl (hp.mono (((((e0.trans e1).trans e2).trans e3).trans e4).trans e5)) (j := 21) rfl T.NoCount.xf (T.NoCount.no _ (by decide +kernel)) lk1) ea_nil)) (Nat.le_of_ble_eq_true rfl)) (Nat.le_of_ble_eq_true rfl)) fun p6 H6 n6 e6 h6 => ?_
    exact ⟨_, rfl, k _ _ (fresh_back (((((e0.trans e1).trans e2).trans e3).trans e4).trans e5) n6) ((((((e0.trans e1).trans e2).trans e3).trans e4).trans e5).trans e6) (h6.trans (congrArg (fun l => some (HO.lst l)) rfl))⟩
end
end K04

set_option Elab.async false
set_option linter.all false
set_option maxRecDepth 100000
set_option maxHeartbeats 4000000
namespace K04
open PySem PySem.Spec PyProof.Rows L2 Evl
section
variable {P : Program} {w : World} {K : PySem.W.Frag} {mg : Str → Option Value} {base : Heap}
/-! ### one of some values -/
abbrev s_law_one : Stmt := topS 27
abbrev N_law_one : List Str := ["_law_well", "_law_some"]
theorem sc_law_one : FnScope N_law_one ["_law_well", "_law_some"] (defScope s_law_one) := ⟨rfl, rfl, rfl, by decide +kernel, rfl, by decide +kernel, by decide +kernel⟩
def spOne (K : PySem.W.Frag) : Sp := fun vs H Q _ => ∃ (a l : Addr) (p q r : Int) (xs : List V), vs = [.ref a, .ref l] ∧ Well H a p q r ∧ H l = some (.lst xs) ∧ l ≠ a ∧ 0 < xs.length ∧ xs.length < 1000 ∧
  ∀ (i : Nat) (v : V) (p' r' : Int), xs[i]? = some v → Q v (upd H a (.lst [.int p', .int q, .int r']))
theorem ok_law_one (T : TDraw K mg) (D : Df K mg "_law_one" s_law_one ["_law_well", "_law_some"]) : FnOk P w K mg base CX0 2 D.f D.fd ["_law_well", "_law_some"] (spOne K) := by
  have G_law_draw : FnOk P w K mg base CX0 1 T.law_draw.f T.law_draw.fd ["_law_well", "_law_many"] spDraw := ok_law_draw T
  refine D.F.ok sc_law_one (fun vs H Q E h => ?_) (fun cdv A outer s H vs Q E hr h => ?_)
  · obtain ⟨a, l, p, q, r, xs, rfl, _⟩ := h
    rfl
  · obtain ⟨a, l, p, q, r, xs, rfl, hW, hl, hne, h0, h1, k⟩ := h
    refine ⟨_, (pss_one (ps_ret (pe_ix ix_list (pv 1) (pe_call G_law_draw hr rfl T.law_draw.g T.law_draw.F.kp T.law_draw.b .nil pass0 (pa_cons (pv 0) (pa_cons (pe_callB call_len_seq (by rfl) T.len (by decide +kernel) (pa_cons (pv 1) pa_nil)) pa_nil))) (fun _ _ => rfl)))), ?_⟩
    refine ⟨_, rfl, _, rfl, _, rfl, l, _, rfl, .inl (SqL.of hl), a, p, q, r, _, rfl, hW, by omega, ?_, fun n p' r' hn0 hn1 => ?_⟩
    · have : ((2 : Nat) ^ 100) > 1000 := by decide
      omega
    · obtain ⟨j, rfl⟩ : ∃ j : Nat, n = (j : Int) := ⟨n.toNat, by omega⟩
      have hj : j < xs.length := by omega
      refine ⟨l, xs, _, xs[j], rfl, rfl, SqL.of (by rw [upd_ne hne]; exact hl), atI_nat (List.getElem?_eq_getElem hj), ?_⟩
      exact k j _ p' r' (List.getElem?_eq_getElem hj)
/-! ### a loop over enumerate(xs) -/
theorem for_enum {a : Addr} {xs : List V} {g : TG} {tb : TS} {D : Ends} {σ : L2.St} {H : Hp} (Pv : Nat → L2.St → Hp → Prop) (h0 : Pv 0 σ H) (hl : ∀ i σ H, Pv i σ H → SqL K H a xs)
    (hs : ∀ (i : Nat) x σ H T, xs[i]? = some x → Pv i σ H → H T = none → g (.ref T) σ (upd H T (.tup [.int (i : Int), x])) fun σ2 H2 => tb { D with nx := Pv (i + 1), ct := Pv (i + 1), bk := D.nx } σ2 H2) (hd : ∀ σ H, Pv xs.length σ H → D.nx σ H) :
    ∃ W : Nat → Nat → L2.St → Hp → Prop, (∃ m, W 0 m σ H) ∧ ∀ i m σ H, W i m σ H →
      ((Ite K a).stop i H ∧ D.nx σ H) ∨ ((Ite K a).go i H ∧ ∃ N : L2.St → Hp → Prop, (∀ σ' H', N σ' H' → ∃ m', m' < m ∧ W (i + 1) m' σ' H') ∧ ∀ x H', (Ite K a).yld i H x H' → g x σ H' fun σ2 H2 => tb { D with nx := N, ct := N, bk := D.nx } σ2 H2) := by
  refine ⟨fun i m σ H => m = xs.length - i ∧ i ≤ xs.length ∧ Pv i σ H, ⟨xs.length, by simp, Nat.zero_le _, h0⟩, ?_⟩
  rintro i m σ H ⟨rfl, hi, p⟩
  have q := hl i σ H p
  by_cases hlt : i < xs.length
  · refine .inr ⟨⟨xs, xs[i], q, by simp [hlt]⟩, Pv (i + 1), fun σ' H' p' => ⟨xs.length - (i + 1), by omega, rfl, hlt, p'⟩, fun x H' y => ?_⟩
    obtain ⟨T, y, rfl, hT, rfl, hy⟩ := y
    exact hs i y σ H T (hy xs q) p hT
  · have e : i = xs.length := by omega
    subst e
    exact .inl ⟨⟨xs, q, Nat.le_refl _⟩, hd σ H p⟩
/-! ### data as it stands -/
mutual
theorem dp_ex {H H' : Hp} (e : Ex H H') : ∀ {v : V} {d : PyData}, Dp K H v d → Dp K H' v d
  | _, _, .non => .non
  | _, _, .bl b => .bl b
  | _, _, .int i => .int i
  | _, _, .str x => .str x
  | _, _, .lst h t => .lst (ex_l e h) (dpAll_ex e t)
  | _, _, .tup h t => .tup (ex_t e h) (dpAll_ex e t)
theorem dpAll_ex {H H' : Hp} (e : Ex H H') : ∀ {vs : List V} {ds : List PyData}, DpAll K H vs ds → DpAll K H' vs ds
  | _, _, .nil => .nil
  | _, _, .cons h t => .cons (dp_ex e h) (dpAll_ex e t)
end
section
variable {σ : L2.St} {H : Hp} {te tb : TE} {ta : TA} {C : Addr} {fs : List (Str × V)} {ss ts : List (Addr × List (Str × V))} {f g : Str} {v u : V} {tz : TS} {D : Ends}
theorem et_yes : EvT tYes σ H true := fun H1 _ _ q => q H1 (Ex.refl H1)
/-- != of two lists of the same things -/
theorem et_neLV {xs : List V} {p : Addr} (h1 : EvL te σ H xs) (h2 : Ev tb σ H (.ref p)) (hp : H p = some (.lst xs)) {ds : List PyData} (hd : DpAll K H xs ds) (hs : SeqAt.shaped (.list ds) = true) :
    EvT (tTest (tOp (rNeD K) te tb)) σ H false := fun H1 e Q q =>
  h1 H1 e _ fun l H2 _ e2 hl => h2 H2 (e.trans e2) _ fun H3 e3 => ⟨.list ds, .list ds, .lst (sq_of (e3 _ _ hl)) (dpAll_ex ((e.trans e2).trans e3) hd), .lst (sq_of (((e.trans e2).trans e3) _ _ hp)) (dpAll_ex ((e.trans e2).trans e3) hd), hs, hs, false, by
    rw [SeqAt.eqv_refl _ (SeqAt.canLay_of_shaped hs)]
    rfl, q H3 (e2.trans e3)⟩
theorem et_neLL {xs : List V} (h1 : EvL te σ H xs) (h2 : EvL tb σ H xs) {ds : List PyData} (hd : DpAll K H xs ds) (hs : SeqAt.shaped (.list ds) = true) :
    EvT (tTest (tOp (rNeD K) te tb)) σ H false := fun H1 e Q q =>
  h1 H1 e _ fun l H2 _ e2 hl => h2 H2 (e.trans e2) _ fun p H3 _ e3 hp => ⟨.list ds, .list ds, .lst (sq_of (e3 _ _ hl)) (dpAll_ex ((e.trans e2).trans e3) hd), .lst (sq_of hp) (dpAll_ex ((e.trans e2).trans e3) hd), hs, hs, false, by
    rw [SeqAt.eqv_refl _ (SeqAt.canLay_of_shaped hs)]
    rfl, q H3 (e2.trans e3)⟩
theorem dp_bls {f : Nat → Bool} : ∀ (l : List Nat), DpAll K H (l.map fun j => V.bl (f j)) (l.map fun j => PyData.bool (f j))
  | [] => .nil
  | _ :: l => .cons (.bl _) (dp_bls l)
end
def dueD (x : PyData) : List PyData := [x, .int 7, x, x, x, x, x, x, .int 7, x, x, .int 7, x, .int 7, x, x, x, x, x, x, x, x] ++ [x, x, x, x]
theorem dp_due {H : Hp} {x : V} {d : PyData} (h : Dp K H x d) : DpAll K H (due x) (dueD d) :=
  .cons h (.cons (.int 7) (.cons h (.cons h (.cons h (.cons h (.cons h (.cons h (.cons (.int 7) (.cons h (.cons h (.cons (.int 7) (.cons h (.cons (.int 7) (.cons h (.cons h (.cons h (.cons h (.cons h (.cons h (.cons h (.cons h (.cons h (.cons h (.cons h (.cons h .nil)))))))))))))))))))))))))
/-- what x may be -/
def XD (K : PySem.W.Frag) (H : Hp) (x : V) : Prop := ∃ d, Dp K H x d ∧ SeqAt.shaped (.list (dueD d)) = true
theorem XD.mono {H H' : Hp} {x : V} (h : XD K H x) (e : Ex H H') : XD K H' x := let ⟨d, a, b⟩ := h; ⟨d, dp_ex e a, b⟩
theorem xd_int {H : Hp} (i : Int) : XD K H (.int i) := ⟨.int i, .int i, by rfl⟩
theorem xd_non {H : Hp} : XD K H .non := ⟨.none, .non, by rfl⟩
theorem xd_str {H : Hp} : XD K H (.str "v") := ⟨.str "v", .str _, by decide +kernel⟩
theorem xd_tup {H : Hp} {t : Addr} (h : H t = some (.tup [.int 0, .int 1])) : XD K H (.ref t) := ⟨.tuple [.int 0, .int 1], .tup (st_of h) (.cons (.int 0) (.cons (.int 1) .nil)), by rfl⟩
end
end K04

set_option Elab.async false
set_option linter.all false
set_option maxRecDepth 100000
set_option maxHeartbeats 4000000
namespace K04
open PySem PySem.Spec PyProof.Rows L2 Evl
section
variable {P : Program} {w : World} {K : PySem.W.Frag} {mg : Str → Option Value} {base : Heap}
abbrev s_law_right : Stmt := topS 32
abbrev N_law_right : List Str := ["_law_well", "_law_x", "_law_due", "_law_some", "_law_spot", "_law_e", "_law_k"]
theorem sc_law_right : FnScope N_law_right ["_law_well"] (defScope s_law_right) := ⟨rfl, rfl, rfl, by decide +kernel, rfl, by decide +kernel, by decide +kernel⟩
def spRight : Sp := fun vs H Q _ => ∃ (a : Addr) (p q r : Int), vs = [.ref a] ∧ Well H a p q r ∧ ∀ H', (∀ b o, b ≠ a → H b = some o → H' b = some o) → Q (.bl true) H'
structure TR (K : PySem.W.Frag) (mg : Str → Option Value) extends Txt K mg where
  law_one : Df K mg "_law_one" s_law_one ["_law_well", "_law_some"]
  law_taken : Df K mg "_law_taken" s_law_taken ["_law_e"]
  law_by_place : Df K mg "_law_by_place" s_law_by_place ["_law_x"]
  law_by_name : Df K mg "_law_by_name" s_law_by_name ["_law_x"]
  law_fields : Df K mg "_law_fields" s_law_fields ["_law_some"]
theorem specs_cs (T : Txt K mg) (x : V) : (T.specs x).map (·.1) = T.cs := rfl
/-- the tests of one list of exceptions -/
theorem el_sp {sp : Sp} {E : XK} {H : Hp} {σ : L2.St} {ta : TA} {vs xs : List V} (h : EvA ta σ H vs) (hs : ∀ H1, Ex H H1 → ∀ Q : VK, (∀ p H2, H1 p = none → Ex H1 H2 → H2 p = some (.lst xs) → Q (.ref p) H2) → sp vs H1 Q E) : EvL (tCall sp [] E ta) σ H xs := fun H1 e Q q =>
  h H1 e _ fun H2 e2 => by
    rw [List.append_nil]
    exact hs H2 (e.trans e2) Q fun p H3 hp e3 h3 => q p H3 (fresh_back e2 hp) (e2.trans e3) h3
theorem given22 (i : Nat) : given (22 : Int).toNat (fun _ => true) (fun j => V.bl (decide (V.int (j : Int) = V.int (i : Int)))) = (List.range 22).map fun j => V.bl (decide (i = j)) := by
  unfold given
  rw [List.filter_eq_self.mpr (fun _ _ => rfl)]
  show (List.range 22).map _ = _
  refine List.map_congr_left fun j _ => congrArg V.bl ?_
  by_cases e : i = j
  · subst e
    simp
  · have e2 : ¬ (V.int (j : Int) = V.int (i : Int)) := fun z => e (by injection z with z; omega)
    rw [decide_eq_false e, decide_eq_false e2]
theorem ok_law_right (T : TR K mg) (Kt : Kit T.toTxt) (D : Df K mg "_law_right" s_law_right ["_law_well"]) : FnOk P w K mg base CX0 5 D.f D.fd ["_law_well"] spRight := by
  have G_law_draw : FnOk P w K mg base CX0 1 T.law_draw.f T.law_draw.fd ["_law_well", "_law_many"] spDraw := ok_law_draw T.toTDraw
  have G_law_one : FnOk P w K mg base CX0 2 T.law_one.f T.law_one.fd ["_law_well", "_law_some"] (spOne K) := ok_law_one T.toTDraw T.law_one
  have G_law_taken : FnOk P w K mg base CX0 1 T.law_taken.f T.law_taken.fd ["_law_e"] (spTaken T.toTxt) := ok_law_taken T.toTxt T.law_taken
  have G_law_fields : FnOk P w K mg base CX0 1 T.law_fields.f T.law_fields.fd ["_law_some"] (spFields T.toTxt) := ok_law_fields T.toTxt T.law_fields
  have G_law_by_place : FnOk P w K mg base CX0 3 T.law_by_place.f T.law_by_place.fd ["_law_x"] (spMk T.toTxt) := ok_law_by_place T.toTxt T.law_by_place
  have G_law_by_name : FnOk P w K mg base CX0 3 T.law_by_name.f T.law_by_name.fd ["_law_x"] (spMk T.toTxt) := ok_law_by_name T.toTxt T.law_by_name
  refine D.F.ok sc_law_right (fun vs H Q E h => ?_) (fun cdv A outer s H vs Q E hr h => ?_)
  · obtain ⟨a, p, q, r, rfl, _⟩ := h
    rfl
  · obtain ⟨a, p, q, r, rfl, hW, k⟩ := h
    have hr1 : Room 1 _ := hr.mono (by decide)
    have hr2 : Room 2 _ := hr.mono (by decide)
    have hr3 : Room 3 _ := hr.mono (by decide)
    refine ⟨_, (pss_cons (ps_set (i := 1) sc_law_right.nd rfl (by first | exact Or.inl rfl | exact Or.inr rfl) (pe_call G_law_one hr2 rfl T.law_one.g T.law_one.F.kp T.law_one.b .nil pass0 (pa_cons (pv 0) (pa_cons (pe_lst (pa_cons (pe_call G_law_draw hr1 rfl T.law_draw.g T.law_draw.F.kp T.law_draw.b .nil pass0 (pa_cons (pv 0) (pa_cons pe_int pa_nil))) (pa_cons (pe_un un_neg pe_int) (pa_cons pe_non (pa_cons pe_str (pa_cons (pe_tup (pa_cons pe_int (pa_cons pe_int pa_nil))) pa_nil)))))) pa_nil))))
    (pss_cons (ps_set (i := 2) sc_law_right.nd rfl (by first | exact Or.inl rfl | exact Or.inr rfl) (pe_lst (pa_cons (pv 1) (pa_cons pe_int (pa_cons (pv 1) (pa_cons (pv 1) (pa_cons (pv 1) (pa_cons (pv 1) (pa_cons (pv 1) (pa_cons (pv 1) (pa_cons pe_int (pa_cons (pv 1) (pa_cons (pv 1) (pa_cons pe_int (pa_cons (pv 1) (pa_cons pe_int (pa_cons (pv 1) (pa_cons (pv 1) (pa_cons (pv 1) (pa_cons (pv 1) (pa_cons (pv 1) (pa_cons (pv 1) (pa_cons (pv 1) (pa_cons (pv 1) pa_nil))))))))))))))))))))))))
    (pss_cons (ps_set (i := 2) sc_law_right.nd rfl (by first | exact Or.inl rfl | exact Or.inr rfl) (pe_op op_catS (pv 2) (pe_lst (pa_cons (pv 1) (pa_cons (pv 1) (pa_cons (pv 1) (pa_cons (pv 1) pa_nil)))))))
    (pss_cons (ps_for PassesOwn.never rfl (pi_list (pe_lst (pa_cons (pe_call G_law_by_place hr3 rfl T.law_by_place.g T.law_by_place.F.kp T.law_by_place.b .nil pass0 (pa_cons (pv 1) pa_nil)) (pa_cons (pe_call G_law_by_name hr3 rfl T.law_by_name.g T.law_by_name.F.kp T.law_by_name.b .nil pass0 (pa_cons (pv 1) pa_nil)) pa_nil)))) (pg_name (i := 3) sc_law_right.nd rfl (by first | exact Or.inl rfl | exact Or.inr rfl))
      (pss_cons (ps_if (pt_cmpR (op_neD hr.units) (pe_call G_law_fields hr1 rfl T.law_fields.g T.law_fields.F.kp T.law_fields.b .nil pass0 (pa_cons (pv 3) pa_nil)) (pv 2) (nomark _)) (pss_one (ps_ret pe_bl)) pss_nil)
      (pss_one (ps_for PassesOwn.never rfl (pi_enum (by rfl) T.enumerate (pa_cons (pv 3) pa_nil)) (pg_tup rfl (pgs_cons (pg_name (i := 4) sc_law_right.nd rfl (by first | exact Or.inl rfl | exact Or.inr rfl)) (pgs_cons (pg_name (i := 5) sc_law_right.nd rfl (by first | exact Or.inl rfl | exact Or.inr rfl)) pgs_nil)))
        (pss_cons (ps_if (pt_cmpR (op_neD hr.units) (pe_call G_law_taken hr1 rfl T.law_taken.g T.law_taken.F.kp T.law_taken.b .nil pass0 (pa_cons (pv 5) pa_nil)) (pe_lc (own := [("_law_k", 6)]) (g := gName 6) (tt := tYes) rfl sc_law_right.nd (pi_range1 rfl T.range (pa_cons (pe_callB call_len_seq (by rfl) T.len (by decide +kernel) (pa_cons (pv 3) pa_nil)) pa_nil)) (blkOk_by (own := [("_law_k", 6)]) (N := N_law_right) (sc := defScope s_law_right) (by decide +kernel)) (fun _ _ _ _ _ => (pg_name (i := 6) sc_law_right.nd rfl (by first | exact Or.inl rfl | exact Or.inr rfl))) (fun _ _ _ _ _ => pts_nil) (fun _ _ _ _ _ => (pe_cmpR op_eq (pv 6) (pv 4) (nomark _)))) (nomark _)) (pss_one (ps_ret pe_bl)) pss_nil)
        (pss_one (ps_if (PW.pt (pw_or (pt_not (pt_val (pe_callB call_isX (by rfl) T.isinstance (by decide +kernel) (pa_cons (pv 5) (pa_cons (pe_glob (v := .ref T.A) rfl T.mA rfl) pa_nil))))) (pw_or1 (pt_not (pt_val (pe_callB call_isX (by rfl) T.isinstance (by decide +kernel) (pa_cons (pv 5) (pa_cons (pe_bltn (v := .ty "ValueError") (by rfl) T.ve boot_ValueError rfl) pa_nil)))))))) (pss_one (ps_ret pe_bl)) pss_nil)))))))
    (pss_cons (ps_for PassesOwn.never rfl (pi_list (pe_lst (pa_cons (pe_exc0 T.exN T.mN T.kN) pa_nil))) (pg_name (i := 5) sc_law_right.nd rfl (by first | exact Or.inl rfl | exact Or.inr rfl))
      (pss_one (ps_if (PW.pt (pw_or (pt_cmpR op_in_seq pe_bl (pe_call G_law_taken hr1 rfl T.law_taken.g T.law_taken.F.kp T.law_taken.b .nil pass0 (pa_cons (pv 5) pa_nil)) (by rfl)) (pw_or1 (pt_not (pt_val (pe_callB call_isX (by rfl) T.isinstance (by decide +kernel) (pa_cons (pv 5) (pa_cons (pe_glob (v := .ref T.A) rfl T.mA rfl) pa_nil)))))))) (pss_one (ps_ret pe_bl)) pss_nil)))
    (pss_one (ps_ret (pe_not (pe_callB call_isB (by rfl) T.isinstance (by decide +kernel) (pa_cons (pe_ve (by rfl) T.ve (pa_cons pe_str pa_nil)) (pa_cons (pe_glob (v := .ref T.A) rfl T.mA rfl) pa_nil))))))))))), ?_⟩
    -- x = one of the five
    refine ⟨_, rfl, _, rfl, a, p, q, r, 1000, rfl, hW, by decide, by decide, fun n p1 r1 hn0 hn1 => ⟨_, rfl, by show 2 ≤ sizeLine; decide, fun t ht => ⟨by show 5 ≤ sizeLine; decide, fun l hl => ?_⟩⟩⟩
    have hta : t ≠ a := fun z => by rw [z, upd_same] at ht; cases ht
    have hla : l ≠ a := fun z => by rw [z, upd_ne (Ne.symm hta), upd_same] at hl; cases hl
    have hlt : l ≠ t := fun z => by rw [z, upd_same] at hl; cases hl
    refine ⟨a, l, p1, q, r1, _, rfl, ?_, upd_same, hla, by show 0 < 5; decide, by show 5 < 1000; decide, fun i x p2 r2 hx => ?_⟩
    · show (upd _ l _) a = _
      rw [upd_ne (Ne.symm hla), upd_ne (Ne.symm hta), upd_same]
    generalize hH4 : upd (upd (upd (upd H a (HO.lst [V.int p1, V.int q, V.int r1])) t (HO.tup [V.int 0, V.int 1])) l (HO.lst [V.int n, V.int (-1), V.non, V.str "v", V.ref t])) a (HO.lst [V.int p2, V.int q, V.int r2]) = H4 at *
    have k4 : ∀ H', Ex H4 H' → Q (.bl true) H' := fun H' e => k H' fun b o hb ho => e b o (by
      have hbt : b ≠ t := fun z => by rw [z] at ho; rw [upd_ne hta] at ht; rw [ht] at ho; cases ho
      have hbl : b ≠ l := fun z => by rw [z] at ho; rw [upd_ne hlt, upd_ne hla] at hl; rw [hl] at ho; cases ho
      rw [← hH4, upd_ne hb, upd_ne hbl, upd_ne hbt, upd_ne hb]
      exact ho)
    have xd : XD K H4 x := by
      have ht4 : H4 t = some (.tup [.int 0, .int 1]) := by rw [← hH4, upd_ne hta, upd_ne (Ne.symm hlt), upd_same]
      match i, hx with
      | 0, hx => rw [← Option.some.inj hx]; exact xd_int _
      | 1, hx => rw [← Option.some.inj hx]; exact xd_int _
      | 2, hx => rw [← Option.some.inj hx]; exact xd_non
      | 3, hx => rw [← Option.some.inj hx]; exact xd_str
      | 4, hx => rw [← Option.some.inj hx]; exact xd_tup ht4
      | i + 5, hx => simp at hx
    clear hH4 hx
    -- due
    dsimp only [gName]
    refine q_asgL (el_lst (vs := [x, .int 7, x, x, x, x, x, x, .int 7, x, x, .int 7, x, .int 7, x, x, x, x, x, x, x, x]) ?_ (Nat.le_of_ble_eq_true rfl)) fun p5 H5 n5 e5 h5 => ?_
    · repeat (first | exact ea_nil | refine ea_cons (by first | exact ev_var rfl | exact ev_c) ?_)
    refine q_asgL (el_catS (xs := [x, .int 7, x, x, x, x, x, x, .int 7, x, x, .int 7, x, .int 7, x, x, x, x, x, x, x, x]) (ys := [x, x, x, x]) (ev_var rfl) h5 (el_lst ?_ (Nat.le_of_ble_eq_true rfl)) (Nat.le_of_ble_eq_true rfl)) fun p6 H6 n6 e6 h6 => ?_
    · repeat (first | exact ea_nil | refine ea_cons (by first | exact ev_var rfl | exact ev_c) ?_)
    have h6 : H6 p6 = some (.lst (due x)) := h6
    -- the two lists of exceptions
    refine ⟨_, rfl, x, rfl, fun p7 us7 H7 e7 h7 x7 => ⟨_, rfl, x, rfl, fun p8 us8 H8 e8 h8 x8 => ⟨by show 2 ≤ sizeLine; decide, fun l9 hl9 => ?_⟩⟩⟩
    have e9 : Ex H8 (upd H8 l9 (HO.lst [V.ref p7, V.ref p8])) := Ex.new hl9
    have e69 : Ex H6 (upd H8 l9 (HO.lst [V.ref p7, V.ref p8])) := (e7.trans e8).trans e9
    have e49 : Ex H4 (upd H8 l9 (HO.lst [V.ref p7, V.ref p8])) := (e5.trans e6).trans e69
    have X7 : XL (upd H8 l9 (HO.lst [V.ref p7, V.ref p8])) p7 us7 (T.specs x) := (XL.mk h7 x7).mono (e8.trans e9)
    have X8 : XL (upd H8 l9 (HO.lst [V.ref p7, V.ref p8])) p8 us8 (T.specs x) := (XL.mk h8 x8).mono e9
    have s9 : (upd H8 l9 (HO.lst [V.ref p7, V.ref p8])) l9 = some (.lst [.ref p7, .ref p8]) := upd_same
    have d9 : (upd H8 l9 (HO.lst [V.ref p7, V.ref p8])) p6 = some (.lst (due x)) := e69 _ _ h6
    generalize upd H8 l9 (HO.lst [V.ref p7, V.ref p8]) = H9 at *
    refine ⟨l9, rfl, ⟨_, sq_of s9⟩, for_list (K := K) (a := l9) (xs := [.ref p7, .ref p8]) (fun i σ H' => ∃ v3 v4 v5 : Option V, σ = [some (.ref a), some x, some (.ref p6), v3, v4, v5, none] ∧ Ex H9 H')
      ⟨none, none, none, rfl, Ex.refl _⟩ (fun i σ H' _ ⟨_, _, _, _, e⟩ => sq_of (e _ _ s9)) ?_ ?_⟩
    · rintro i y σ H' hi ⟨v3, v4, v5, rfl, eH⟩
      obtain ⟨pp, us, rfl, X⟩ : ∃ pp us, y = V.ref pp ∧ XL H' pp us (T.specs x) := by
        match i, hi with
        | 0, hi => exact ⟨p7, us7, (Option.some.inj hi).symm, X7.mono eH⟩
        | 1, hi => exact ⟨p8, us8, (Option.some.inj hi).symm, X8.mono eH⟩
        | i + 2, hi => simp at hi
      obtain ⟨dx, hdx, hsx⟩ := xd.mono (e49.trans eH)
      refine q_when (b := false) (et_neLV (xs := due x) (p := p6) (el_sp (ea_cons (ev_var rfl) ea_nil) fun H1 e1 Q q => ⟨pp, us, x, rfl, (X.mono e1).at_, (X.mono e1).ex, q⟩) (ev_var rfl) (eH _ _ d9) (dp_due hdx) hsx) (fun z => nomatch z) fun _ H10 e10 => ?_
      have X10 := X.mono e10
      refine ⟨_, rfl, pp, us, rfl, sq_of X10.at_, for_enum (K := K) (a := pp) (xs := us) (fun j σ H' => ∃ v4 v5 : Option V, σ = [some (.ref a), some x, some (.ref p6), some (.ref pp), v4, v5, none] ∧ Ex H10 H')
        ⟨v4, v5, rfl, Ex.refl _⟩ (fun j σ H' ⟨_, _, _, e⟩ => sq_of ((X10.mono e).at_)) ?_ ?_⟩
      · rintro j y σ H11 T11 hj ⟨v4, v5, rfl, e11⟩ hT11
        have e12 : Ex H11 (upd H11 T11 (HO.tup [V.int (j : Int), y])) := Ex.new hT11
        refine ⟨T11, [.int (j : Int), y], rfl, .inl (.inl upd_same), rfl, _, _, rfl, _, _, rfl, rfl, ?_⟩
        have X12 := (X10.mono e11).mono e12
        generalize upd H11 T11 (HO.tup [V.int (j : Int), y]) = H12 at *
        -- the j-th exception
        have hlen : us.length = 22 := by rw [Paired.length X12.ex]; rfl
        have hj22 : j < (T.specs x).length := by
          have := (List.getElem?_eq_some_iff.mp hj).1
          rw [← Paired.length X12.ex]
          exact this
        obtain ⟨C, fs, hC⟩ : ∃ C fs, (T.specs x)[j]? = some (C, fs) := ⟨_, _, List.getElem?_eq_getElem hj22⟩
        obtain ⟨b, hb, hx⟩ := X12.ex.at_ hC
        have hy : y = .ref b := Option.some.inj (hj.symm.trans hb)
        subst hy
        have hcs : T.cs[j]? = some C := by
          rw [← specs_cs T.toTxt x, List.getElem?_map, hC]
          rfl
        have hm : C ∈ T.cs := List.mem_of_getElem? hcs
        have xa : XA K H12 b C := ⟨.inr ⟨fs, hx⟩, Kt.ecs C hm⟩
        refine q_when (b := false) (et_neLL (xs := (List.range 22).map fun i => V.bl (decide (j = i))) (el_sp (ea_cons (ev_var rfl) ea_nil) fun H1 e1 Q q => ⟨b, C, fun i => decide (j = i), rfl, xa.mono e1, fun i Dd hD => Kt.own j i C Dd hcs hD, q⟩) ?_ (dp_bls _) (by rfl)) (fun z => nomatch z) fun _ H13 e13 => ?_
        · rw [← given22 j]
          refine el_lcR1 (fun _ => true) _ (ea_cons ?_ ea_nil) ⟨by decide, by decide⟩ (fun x => rfl) (fun i H1 _ _ => et_yes) fun i H1 _ _ _ => ?_
          · have z := ev_len (K := K) (σ := [some (V.ref a), some x, some (V.ref p6), some (V.ref pp), some (V.int (j : Int)), some (V.ref b), none]) (ev_var (i := 3) rfl) (sq_of X12.at_)
            rw [hlen] at z
            exact z
          · exact ev_op (ev_var rfl) (ev_var rfl) (rv_eq rfl)
        · refine s_when (b := false) (et_or (a := false) (b := false) (et_not (et_B (ev_isx (b := true) (ev_var rfl) (xa.mono e13) (Kt.attr C hm)))) fun _ => et_not (et_B (ev_isxT (b := true) (ev_var rfl) (xa.mono e13) (Kt.val C hm)))) (fun z => nomatch z) fun _ H14 e14 => ?_
          exact ⟨_, _, rfl, ((e11.trans e12).trans e13).trans e14⟩
      · rintro σ H' ⟨v4, v5, rfl, e⟩
        exact ⟨_, v4, v5, rfl, (eH.trans e10).trans e⟩
    · rintro σ H' ⟨v3, v4, v5, rfl, eH⟩
      -- for e in [NoAutomaton()]
      refine fun e he => ⟨by show 1 ≤ sizeLine; decide, fun l hl => ?_⟩
      have hel : e ≠ l := fun z => by rw [← z, upd_same] at hl; cases hl
      have e15 : Ex H' (upd (upd H' e (exo e T.N none)) l (HO.lst [V.ref e])) := (Ex.new he).trans (Ex.new hl)
      have h15 : (upd (upd H' e (exo e T.N none)) l (HO.lst [V.ref e])) e = some (exo e T.N none) := by rw [upd_ne hel, upd_same]
      have l15 : (upd (upd H' e (exo e T.N none)) l (HO.lst [V.ref e])) l = some (.lst [.ref e]) := upd_same
      generalize upd (upd H' e (exo e T.N none)) l (HO.lst [V.ref e]) = H15 at *
      refine ⟨l, rfl, ⟨_, sq_of l15⟩, for_list (K := K) (a := l) (xs := [.ref e]) (fun i σ H' => ∃ v5 : Option V, σ = [some (.ref a), some x, some (.ref p6), v3, v4, v5, none] ∧ Ex H15 H')
        ⟨v5, rfl, Ex.refl _⟩ (fun i σ H' _ ⟨_, _, e⟩ => sq_of (e _ _ l15)) ?_ ?_⟩
      · rintro i y σ H16 hi ⟨v5, rfl, e16⟩
        obtain rfl : y = V.ref e := by
          match i, hi with
          | 0, hi => exact (Option.some.inj hi).symm
          | i + 1, hi => simp at hi
        have xa : XA K H16 e T.N := ⟨.inl (e16 _ _ h15), T.ecN⟩
        refine s_when (b := false) (et_or (a := false) (b := false) (et_is (b := false) (et_test (ev_opL (xs := (List.range 22).map fun _ => V.bl false) ev_c (el_sp (ea_cons (ev_var rfl) ea_nil) fun H1 e1 Q q => ⟨e, T.N, fun _ => false, rfl, xa.mono e1, fun i Dd hD => Kt.non Dd (List.mem_of_getElem? hD), q⟩)
          fun p H1 hp _ => rv_isL (sq_of hp) rfl rfl)) (by rfl)) fun _ => et_not (et_B (ev_isx (b := true) (ev_var rfl) xa Kt.nonA))) (fun z => nomatch z) fun _ H17 e17 => ?_
        exact ⟨_, rfl, e16.trans e17⟩
      · rintro σ H16 ⟨v5, rfl, e16⟩
        refine ⟨by show 1 ≤ sizeLine; decide, fun b hb => ⟨b, _, _, false, rfl, upd_same, .own T.A, Kt.veA, false, rfl, ?_⟩⟩
        exact k4 _ ((((e49.trans eH).trans e15).trans e16).trans (Ex.new hb))
end
end K04

set_option Elab.async false
set_option linter.all false
set_option maxRecDepth 100000
set_option maxHeartbeats 4000000
namespace K04
open PySem PySem.Spec PyProof.Rows L2 Evl
section
variable {P : Program} {w : World} {K : PySem.W.Frag} {mg : Str → Option Value} {base : Heap}
abbrev s_law : Stmt := topS 33
abbrev N_law : List Str := ["_law_script", "_law_k", "_law_cell", "_law_well"]
theorem sc_law : FnScope N_law ["_law_script"] (defScope s_law) := ⟨rfl, rfl, rfl, by decide +kernel, rfl, by decide +kernel, by decide +kernel⟩
def spLaw (K : PySem.W.Frag) : Sp := fun vs H Q _ => ∃ (a : Addr) (ns : List Int), vs = [.ref a] ∧ SqL K H a (ns.map V.int) ∧ ns.length ≤ 63 ∧ ∀ H', Q (.bl true) H'
theorem cut_ints {ns : List Int} {lo hi : Option Int} {i : Nat} {y : V} (h : (cutV (ns.map V.int ++ [.int 0]) lo hi)[i]? = some y) : ∃ n, y = V.int n := by
  have m := List.mem_of_getElem? h
  unfold cutV at m
  have m2 := List.mem_of_mem_drop (List.mem_of_mem_take m)
  rcases List.mem_append.mp m2 with m3 | m3
  · obtain ⟨n, _, e⟩ := List.mem_map.mp m3
    exact ⟨n, e.symm⟩
  · exact ⟨0, by simpa using m3⟩
theorem ok_law (T : TR K mg) (Kt : Kit T.toTxt) (DR : Df K mg "_law_right" s_law_right ["_law_well"]) (D : Df K mg "law" s_law ["_law_script"]) : FnOk P w K mg base CX0 6 D.f D.fd ["_law_script"] (spLaw K) := by
  have G_law_right : FnOk P w K mg base CX0 5 DR.f DR.fd ["_law_well"] spRight := ok_law_right T Kt DR
  refine D.F.ok sc_law (fun vs H Q E h => ?_) (fun cdv A outer s H vs Q E hr h => ?_)
  · obtain ⟨a, ns, rfl, _⟩ := h
    rfl
  · obtain ⟨a, ns, rfl, hS, hlen, k⟩ := h
    refine ⟨_, (pss_cons (ps_for PassesOwn.never rfl (pi_enum (by rfl) T.enumerate (pa_cons (pe_slice sl_list (pe_op op_catS (pv 0) (pe_lst (pa_cons pe_int pa_nil))) po_none (po_some pe_int)) pa_nil)) (pg_tup rfl (pgs_cons (pg_name (i := 1) sc_law.nd rfl (by first | exact Or.inl rfl | exact Or.inr rfl)) (pgs_cons (pg_name (i := 2) sc_law.nd rfl (by first | exact Or.inl rfl | exact Or.inr rfl)) pgs_nil)))
      (pss_cons (ps_set (i := 3) sc_law.nd rfl (by first | exact Or.inl rfl | exact Or.inr rfl) (pe_lst (pa_cons (pe_op op_mul (pv 2) (pe_callTy call_int1 (by rfl) T.int (by decide +kernel) (pa_cons (pe_cmpR op_ge (pv 2) (pe_op op_pow pe_int pe_int) (nomark _)) pa_nil))) (pa_cons (pe_op op_add (pe_op op_mod (pe_callTy call_int1 (by rfl) T.int (by decide +kernel) (pa_cons (pv 2) pa_nil)) pe_int) (pe_op op_mul pe_int (pv 1))) (pa_cons pe_int pa_nil)))))
      (pss_one (ps_if (pt_not (pt_val (pe_call G_law_right hr rfl DR.g DR.F.kp DR.b .nil pass0 (pa_cons (pv 3) pa_nil)))) (pss_one (ps_ret pe_bl)) pss_nil))))
    (pss_one (ps_ret pe_bl))), ?_⟩
    refine ⟨_, rfl, (by show 1 ≤ sizeLine; decide), fun z hz => ⟨a, z, ns.map V.int, [.int 0], rfl, rfl, ex_l (Ex.new hz) hS, sq_of upd_same, ?_, fun c hc => ⟨4, rfl, c, _, rfl, sq_of upd_same, fun d hd => ⟨d, _, rfl, sq_of upd_same, ?_⟩⟩⟩⟩
    · rw [List.length_map]
      exact sz_of (by show ns.length + 1 ≤ 100000; omega)
    · generalize hH5 : upd (upd (upd H z (HO.lst [V.int 0])) c (HO.lst (List.map V.int ns ++ [V.int 0]))) d (HO.lst (cutV (List.map V.int ns ++ [V.int 0]) none (some 4))) = H5
      have h5 : H5 d = some (.lst (cutV (ns.map V.int ++ [.int 0]) none (some 4))) := by rw [← hH5, upd_same]
      refine for_enum (K := K) (a := d) (xs := cutV (ns.map V.int ++ [.int 0]) none (some 4)) (fun i σ H' => ∃ v1 v2 v3 : Option V, σ = [some (.ref a), v1, v2, v3] ∧ Ex H5 H')
        ⟨none, none, none, rfl, Ex.refl _⟩ (fun i σ H' ⟨_, _, _, _, e⟩ => sq_of (e _ _ h5)) ?_ ?_
      · rintro i y σ H6 T6 hi ⟨v1, v2, v3, rfl, e6⟩ hT6
        obtain ⟨n, rfl⟩ := cut_ints hi
        refine ⟨T6, [.int (i : Int), .int n], rfl, .inl (.inl upd_same), rfl, _, _, rfl, _, _, rfl, rfl, ?_⟩
        have e7 : Ex H6 (upd H6 T6 (HO.tup [V.int (i : Int), V.int n])) := Ex.new hT6
        generalize upd H6 T6 (HO.tup [V.int (i : Int), V.int n]) = H7 at *
        refine ⟨_, rfl, _, rfl, _, _, rfl, rfl, ⟨by decide, by decide, by decide⟩, _, _, rfl, rfl, .inr ⟨_, rfl, _, _, rfl, rfl, .inr ?_, _, rfl, .inl ⟨_, rfl, _, _, rfl, rfl, (by show (0 : Int) < 2147483647; decide), _, rfl, _, _, rfl, rfl, .inl ⟨by decide, by decide⟩, _, _, rfl, rfl, (by show 3 ≤ sizeLine; decide), fun wl hwl => ?_⟩⟩⟩
        · split <;> exact ⟨by decide, by decide⟩
        · refine ⟨_, rfl, wl, _, _, _, rfl, upd_same, fun H8 k8 => ⟨true, rfl, ?_⟩⟩
          refine iteF ⟨_, _, _, rfl, fun b o e => ?_⟩
          have eb := e7 _ _ (e6 _ _ e)
          have hne : b ≠ wl := ne_of_none eb hwl
          exact k8 b o hne (by rw [upd_ne hne]; exact eb)
      · rintro σ H' ⟨v1, v2, v3, rfl, e⟩
        exact k _
end
end K04

set_option Elab.async false
set_option linter.all false
set_option maxRecDepth 100000
set_option maxHeartbeats 4000000
namespace K04
open PySem PySem.Spec PyProof.Rows L2 Evl
/-- two classes of the list: isinstance -/
def kitChk (K : PySem.W.Frag) (cs : List Addr) (A N : Addr) : Bool :=
  (List.range cs.length).all (fun i => (List.range cs.length).all fun j => PySem.W.kitOne K (.ref (cs.getD i 0)) (.ref (cs.getD j 0)) == some (decide (i = j))) &&
  (cs.all fun C => PySem.W.kitOne K (.ref C) (.ref A) == some true && PySem.W.kitOne K (.ref C) (.type "ValueError") == some true && PySem.W.kitOne K (.ref N) (.ref C) == some false) &&
  (PySem.W.kitOne K (.ref N) (.ref A) == some true) && (PySem.W.kitOne K (.type "ValueError") (.ref A) == some false)

theorem kit_of {K : PySem.W.Frag} {mg : Str → Option Value} (T : Txt K mg) (h : kitChk K T.cs T.A T.N = true) (ecs : ∀ C ∈ T.cs, ExcC K C) : Kit T := by
  unfold kitChk at h
  simp only [Bool.and_eq_true, List.all_eq_true, beq_iff_eq, List.mem_range] at h
  obtain ⟨⟨⟨h1, h2⟩, h3⟩, h4⟩ := h
  refine ⟨fun i j C D hi hj => ?_, ecs, fun C hC => (h2 C hC).1.1, fun C hC => (h2 C hC).1.2, fun C hC => (h2 C hC).2, h3, h4⟩
  have a := h1 i (List.getElem?_eq_some_iff.mp hi).1 j (List.getElem?_eq_some_iff.mp hj).1
  rw [List.getD_eq_getElem?_getD, List.getD_eq_getElem?_getD, hi, hj] at a
  exact a
theorem vals_rev : ∀ {xs : List V} {us : List Value}, Vals xs us → Vals xs.reverse us.reverse
  | _, _, .nil => .nil
  | _, _, .cons r t => by
    rw [List.reverse_cons, List.reverse_cons]
    exact (vals_rev t).append (.cons r .nil)
theorem kbn_of {K : PySem.W.Frag} {x qual : Str} {st : Stmt} {f : Addr} {fd : FuncData} {ps ks : List Str} (F : Fun K x qual st f fd)
    (h : ∀ (kV doc pm : Value) (an : Option Addr) (cdv ct : Value) (us ws : List Value), us.length = 1 → ws.length = ks.length → bindArgs (PySem.W.fnOf x qual (defArgs st) (defBody st) (defScope st) .none kV doc pm an cdv ct) ⟨us, ks.zip ws⟩ = pure (ps.zip (us ++ ws.reverse))) :
    KBn K fd ps 1 ks (fun us ws => us ++ ws.reverse) (fun vs zs => vs ++ zs.reverse) := by
  obtain ⟨oc, od, kV, doc, pm, an, cdv, ct, osl, rfl, lk, hcd⟩ := F.ex
  exact ⟨fun s us ws _ h1 h2 => .of_eq (h kV doc pm an cdv ct us ws h1 h2), fun r1 r2 => r1.append (vals_rev r2)⟩
set_option maxHeartbeats 40000000 in
theorem all_mk {w : World} {K : PySem.W.Frag} {h : Heap} {mg : Str → Option Value} {fa A N f0 f1 f2 f3 f4 f5 f6 f7 C0 g0 C1 g1 C2 g2 C3 g3 C4 g4 C5 g5 C6 g6 C7 g7 C8 g8 C9 g9 C10 g10 C11 g11 C12 g12 C13 g13 C14 g14 C15 g15 C16 g16 C17 g17 C18 g18 C19 g19 C20 g20 C21 g21 : Addr} (X : K.In h) (G : h.Ns mainGlobals mg) (hfa : mg "law" = some (.ref fa))
    {od0 od1 od2 od3 od4 od5 od6 od7 od100 od101 od102 od103 od104 od105 od106 od107 od108 od109 od110 od111 od112 od113 od114 od115 od116 od117 od118 od119 od120 od121 : Option Addr} {an0 an1 an2 an3 an4 an5 an6 an7 an100 an101 an102 an103 an104 an105 an106 an107 an108 an109 an110 an111 an112 an113 an114 an115 an116 an117 an118 an119 an120 an121 : Option Addr} {sl0 sl1 sl2 sl3 sl4 sl5 sl6 sl7 sl100 sl101 sl102 sl103 sl104 sl105 sl106 sl107 sl108 sl109 sl110 sl111 sl112 sl113 sl114 sl115 sl116 sl117 sl118 sl119 sl120 sl121 : Array (Option Value)} {oc0 oc1 oc2 oc3 oc4 oc5 oc6 oc7 oc100 oc101 oc102 oc103 oc104 oc105 oc106 oc107 oc108 oc109 oc110 oc111 oc112 oc113 oc114 oc115 oc116 oc117 oc118 oc119 oc120 oc121 : Value} {kV0 kV1 kV2 kV3 kV4 kV5 kV6 kV7 kV100 kV101 kV102 kV103 kV104 kV105 kV106 kV107 kV108 kV109 kV110 kV111 kV112 kV113 kV114 kV115 kV116 kV117 kV118 kV119 kV120 kV121 : Value} {dc0 dc1 dc2 dc3 dc4 dc5 dc6 dc7 dc100 dc101 dc102 dc103 dc104 dc105 dc106 dc107 dc108 dc109 dc110 dc111 dc112 dc113 dc114 dc115 dc116 dc117 dc118 dc119 dc120 dc121 : Value} {pm0 pm1 pm2 pm3 pm4 pm5 pm6 pm7 pm100 pm101 pm102 pm103 pm104 pm105 pm106 pm107 pm108 pm109 pm110 pm111 pm112 pm113 pm114 pm115 pm116 pm117 pm118 pm119 pm120 pm121 : Value} {cd0 cd1 cd2 cd3 cd4 cd5 cd6 cd7 cd100 cd101 cd102 cd103 cd104 cd105 cd106 cd107 cd108 cd109 cd110 cd111 cd112 cd113 cd114 cd115 cd116 cd117 cd118 cd119 cd120 cd121 : Value} {ct0 ct1 ct2 ct3 ct4 ct5 ct6 ct7 ct100 ct101 ct102 ct103 ct104 ct105 ct106 ct107 ct108 ct109 ct110 ct111 ct112 ct113 ct114 ct115 ct116 ct117 ct118 ct119 ct120 ct121 : Value} {nm0 nm1 nm2 nm3 nm4 nm5 nm6 nm7 nm8 nm9 nm10 nm11 nm12 nm13 nm14 nm15 nm16 nm17 nm18 nm19 nm20 nm21 q0 q1 q2 q3 q4 q5 q6 q7 q8 q9 q10 q11 q12 q13 q14 q15 q16 q17 q18 q19 q20 q21 : Str} {N0 N1 N2 N3 N4 N5 N6 N7 N8 N9 N10 N11 N12 N13 N14 N15 N16 N17 N18 N19 N20 N21 : Addr} {bs0 bs1 bs2 bs3 bs4 bs5 bs6 bs7 bs8 bs9 bs10 bs11 bs12 bs13 bs14 bs15 bs16 bs17 bs18 bs19 bs20 bs21 sub0 sub1 sub2 sub3 sub4 sub5 sub6 sub7 sub8 sub9 sub10 sub11 sub12 sub13 sub14 sub15 sub16 sub17 sub18 sub19 sub20 sub21 : List Value} {sn0 sn1 sn2 sn3 sn4 sn5 sn6 sn7 sn8 sn9 sn10 sn11 sn12 sn13 sn14 sn15 sn16 sn17 sn18 sn19 sn20 sn21 : List Str} {ab0 ab1 ab2 ab3 ab4 ab5 ab6 ab7 ab8 ab9 ab10 ab11 ab12 ab13 ab14 ab15 ab16 ab17 ab18 ab19 ab20 ab21 : Bool} {col0 col1 col2 col3 col4 col5 col6 col7 col8 col9 col10 col11 col12 col13 col14 col15 col16 col17 col18 col19 col20 col21 : Option Bool} {dd0 dd1 dd2 dd3 dd4 dd5 dd6 dd7 dd8 dd9 dd10 dd11 dd12 dd13 dd14 dd15 dd16 dd17 dd18 dd19 dd20 dd21 : Option Addr} {m00 m01 m02 m03 m04 m05 m06 m07 m08 m09 m010 m011 m012 m013 m014 m015 m016 m017 m018 m019 m020 m021 m10 m11 m12 m13 m14 m15 m16 m17 m18 m19 m110 m111 m112 m113 m114 m115 m116 m117 m118 m119 m120 m121 m20 m21 m22 m23 m24 m25 m26 m27 m28 m29 m210 m211 m212 m213 m214 m215 m216 m217 m218 m219 m220 m221 m30 m31 m32 m33 m34 m35 m36 m37 m38 m39 m310 m311 m312 m313 m314 m315 m316 m317 m318 m319 m320 m321 m50 m51 m52 m53 m54 m55 m56 m57 m58 m59 m510 m511 m512 m513 m514 m515 m516 m517 m518 m519 m520 m521 : Option Value}
    (a0 : PySem.W.nsIn K mainGlobals "_law_draw" = some (some (.ref f0)))
    (l0 : K.lookup f0 = some ⟨oc0, od0, .func (PySem.W.fnOf "_law_draw" "_law_draw" (defArgs s_law_draw) (defBody s_law_draw) (defScope s_law_draw) .none kV0 dc0 pm0 an0 cd0 ct0), sl0⟩)
    (c0 : PySem.W.codeIn K cd0 "_law_draw" = true)
    (k0 : PySem.W.keepIn K (.ref f0) = true)
    (a1 : PySem.W.nsIn K mainGlobals "_law_one" = some (some (.ref f1)))
    (l1 : K.lookup f1 = some ⟨oc1, od1, .func (PySem.W.fnOf "_law_one" "_law_one" (defArgs s_law_one) (defBody s_law_one) (defScope s_law_one) .none kV1 dc1 pm1 an1 cd1 ct1), sl1⟩)
    (c1 : PySem.W.codeIn K cd1 "_law_one" = true)
    (k1 : PySem.W.keepIn K (.ref f1) = true)
    (a2 : PySem.W.nsIn K mainGlobals "_law_taken" = some (some (.ref f2)))
    (l2 : K.lookup f2 = some ⟨oc2, od2, .func (PySem.W.fnOf "_law_taken" "_law_taken" (defArgs s_law_taken) (defBody s_law_taken) (defScope s_law_taken) .none kV2 dc2 pm2 an2 cd2 ct2), sl2⟩)
    (c2 : PySem.W.codeIn K cd2 "_law_taken" = true)
    (k2 : PySem.W.keepIn K (.ref f2) = true)
    (a3 : PySem.W.nsIn K mainGlobals "_law_by_place" = some (some (.ref f3)))
    (l3 : K.lookup f3 = some ⟨oc3, od3, .func (PySem.W.fnOf "_law_by_place" "_law_by_place" (defArgs s_law_by_place) (defBody s_law_by_place) (defScope s_law_by_place) .none kV3 dc3 pm3 an3 cd3 ct3), sl3⟩)
    (c3 : PySem.W.codeIn K cd3 "_law_by_place" = true)
    (k3 : PySem.W.keepIn K (.ref f3) = true)
    (a4 : PySem.W.nsIn K mainGlobals "_law_by_name" = some (some (.ref f4)))
    (l4 : K.lookup f4 = some ⟨oc4, od4, .func (PySem.W.fnOf "_law_by_name" "_law_by_name" (defArgs s_law_by_name) (defBody s_law_by_name) (defScope s_law_by_name) .none kV4 dc4 pm4 an4 cd4 ct4), sl4⟩)
    (c4 : PySem.W.codeIn K cd4 "_law_by_name" = true)
    (k4 : PySem.W.keepIn K (.ref f4) = true)
    (a5 : PySem.W.nsIn K mainGlobals "_law_fields" = some (some (.ref f5)))
    (l5 : K.lookup f5 = some ⟨oc5, od5, .func (PySem.W.fnOf "_law_fields" "_law_fields" (defArgs s_law_fields) (defBody s_law_fields) (defScope s_law_fields) .none kV5 dc5 pm5 an5 cd5 ct5), sl5⟩)
    (c5 : PySem.W.codeIn K cd5 "_law_fields" = true)
    (k5 : PySem.W.keepIn K (.ref f5) = true)
    (a6 : PySem.W.nsIn K mainGlobals "_law_right" = some (some (.ref f6)))
    (l6 : K.lookup f6 = some ⟨oc6, od6, .func (PySem.W.fnOf "_law_right" "_law_right" (defArgs s_law_right) (defBody s_law_right) (defScope s_law_right) .none kV6 dc6 pm6 an6 cd6 ct6), sl6⟩)
    (c6 : PySem.W.codeIn K cd6 "_law_right" = true)
    (k6 : PySem.W.keepIn K (.ref f6) = true)
    (a7 : PySem.W.nsIn K mainGlobals "law" = some (some (.ref f7)))
    (l7 : K.lookup f7 = some ⟨oc7, od7, .func (PySem.W.fnOf "law" "law" (defArgs s_law) (defBody s_law) (defScope s_law) .none kV7 dc7 pm7 an7 cd7 ct7), sl7⟩)
    (c7 : PySem.W.codeIn K cd7 "law" = true)
    (k7 : PySem.W.keepIn K (.ref f7) = true)
    (z0 : PySem.W.nsIn K mainGlobals "int" = some none)
    (z1 : PySem.W.nsIn K mainGlobals "len" = some none)
    (z2 : PySem.W.nsIn K mainGlobals "isinstance" = some none)
    (z3 : PySem.W.nsIn K mainGlobals "range" = some none)
    (z4 : PySem.W.nsIn K mainGlobals "enumerate" = some none)
    (z5 : PySem.W.nsIn K mainGlobals "ValueError" = some none)
    (hn : PySem.W.specialIn K (.builtin "object.__class__") "__get__" = some (some (.builtin "getset_descriptor.__get__")))
    (ht : PySem.W.takesIn K (.builtin "object.__class__") = some true)
    (mA : PySem.W.nsIn K mainGlobals "AttrError" = some (some (.ref A)))
    (mN : PySem.W.nsIn K mainGlobals "NoAutomaton" = some (some (.ref N)))
    (kN : PySem.W.keepIn K (.ref N) = true)
    (exN : PySem.W.excIn K N [.type "ValueError", .type "Exception", .type "BaseException", .type "object"] "ValueError.__new__" = true)
    (nhg : PySem.W.findIn K (.ref N) "__getattribute__" = some (some (.builtin "BaseException.__getattribute__")))
    (nhk : PySem.W.findIn K (.ref N) "__getattr__" = some none)
    (nhs : PySem.W.subIn K (.ref N) (.type "BaseException") = some true)
    (nhd : PySem.W.hasDictIn K N = true)
    (nha : PySem.W.findIn K (.ref N) "__class__" = some (some (.builtin "object.__class__")))
    (nhm : PySem.W.mroIn K N (.type "object") = some true)
    (e0m : PySem.W.nsIn K mainGlobals "NoGrammar" = some (some (.ref C0)))
    (e0x : K.lookup C0 = some (excClassObj nm0 q0 C0 N0 bs0 [.ref A, .type "ValueError", .type "Exception", .type "BaseException", .type "object"] true sn0 sub0 ab0 col0 dd0 m00 m10 m20 m30 m50 "ValueError.__new__"))
    (e0sa : PySem.W.findIn K (.ref C0) "__setattr__" = some (some (.builtin "object.__setattr__")))
    (e0ty : PySem.W.typeIn K (.ref C0) = some (.type "type"))
    (e0kC : PySem.W.keepIn K (.ref C0) = true)
    (e0hg : PySem.W.findIn K (.ref C0) "__getattribute__" = some (some (.builtin "BaseException.__getattribute__")))
    (e0hk : PySem.W.findIn K (.ref C0) "__getattr__" = some none)
    (e0hs : PySem.W.subIn K (.ref C0) (.type "BaseException") = some true)
    (e0hd : PySem.W.hasDictIn K C0 = true)
    (e0ha : PySem.W.findIn K (.ref C0) "__class__" = some (some (.builtin "object.__class__")))
    (e0hm : PySem.W.mroIn K C0 (.type "object") = some true)
    (e0i : PySem.W.findIn K (.ref C0) "__init__" = some (some (.ref g0)))
    (e0t : PySem.W.typeIn K (.ref g0) = some (.type "function"))
    (e0l : K.lookup g0 = some ⟨oc100, od100, .func (PySem.W.fnOf "__init__" "NoGrammar.__init__" (defArgs i_NoGrammar) (defBody i_NoGrammar) (defScope i_NoGrammar) .none kV100 dc100 pm100 an100 cd100 ct100), sl100⟩)
    (e0c : PySem.W.codeIn K cd100 "NoGrammar.__init__" = true)
    (e0k : PySem.W.keepIn K (.ref g0) = true)
    (e0n_part : PySem.W.findIn K (.ref C0) "part" = some none)
    (e0n_index : PySem.W.findIn K (.ref C0) "index" = some none)
    (e1m : PySem.W.nsIn K mainGlobals "NoKind" = some (some (.ref C1)))
    (e1x : K.lookup C1 = some (excClassObj nm1 q1 C1 N1 bs1 [.ref A, .type "ValueError", .type "Exception", .type "BaseException", .type "object"] true sn1 sub1 ab1 col1 dd1 m01 m11 m21 m31 m51 "ValueError.__new__"))
    (e1sa : PySem.W.findIn K (.ref C1) "__setattr__" = some (some (.builtin "object.__setattr__")))
    (e1ty : PySem.W.typeIn K (.ref C1) = some (.type "type"))
    (e1kC : PySem.W.keepIn K (.ref C1) = true)
    (e1hg : PySem.W.findIn K (.ref C1) "__getattribute__" = some (some (.builtin "BaseException.__getattribute__")))
    (e1hk : PySem.W.findIn K (.ref C1) "__getattr__" = some none)
    (e1hs : PySem.W.subIn K (.ref C1) (.type "BaseException") = some true)
    (e1hd : PySem.W.hasDictIn K C1 = true)
    (e1ha : PySem.W.findIn K (.ref C1) "__class__" = some (some (.builtin "object.__class__")))
    (e1hm : PySem.W.mroIn K C1 (.type "object") = some true)
    (e1i : PySem.W.findIn K (.ref C1) "__init__" = some (some (.ref g1)))
    (e1t : PySem.W.typeIn K (.ref g1) = some (.type "function"))
    (e1l : K.lookup g1 = some ⟨oc101, od101, .func (PySem.W.fnOf "__init__" "NoKind.__init__" (defArgs i_NoKind) (defBody i_NoKind) (defScope i_NoKind) .none kV101 dc101 pm101 an101 cd101 ct101), sl101⟩)
    (e1c : PySem.W.codeIn K cd101 "NoKind.__init__" = true)
    (e1k : PySem.W.keepIn K (.ref g1) = true)
    (e1n_kind : PySem.W.findIn K (.ref C1) "kind" = some none)
    (e2m : PySem.W.nsIn K mainGlobals "NoTree" = some (some (.ref C2)))
    (e2x : K.lookup C2 = some (excClassObj nm2 q2 C2 N2 bs2 [.ref A, .type "ValueError", .type "Exception", .type "BaseException", .type "object"] true sn2 sub2 ab2 col2 dd2 m02 m12 m22 m32 m52 "ValueError.__new__"))
    (e2sa : PySem.W.findIn K (.ref C2) "__setattr__" = some (some (.builtin "object.__setattr__")))
    (e2ty : PySem.W.typeIn K (.ref C2) = some (.type "type"))
    (e2kC : PySem.W.keepIn K (.ref C2) = true)
    (e2hg : PySem.W.findIn K (.ref C2) "__getattribute__" = some (some (.builtin "BaseException.__getattribute__")))
    (e2hk : PySem.W.findIn K (.ref C2) "__getattr__" = some none)
    (e2hs : PySem.W.subIn K (.ref C2) (.type "BaseException") = some true)
    (e2hd : PySem.W.hasDictIn K C2 = true)
    (e2ha : PySem.W.findIn K (.ref C2) "__class__" = some (some (.builtin "object.__class__")))
    (e2hm : PySem.W.mroIn K C2 (.type "object") = some true)
    (e2i : PySem.W.findIn K (.ref C2) "__init__" = some (some (.ref g2)))
    (e2t : PySem.W.typeIn K (.ref g2) = some (.type "function"))
    (e2l : K.lookup g2 = some ⟨oc102, od102, .func (PySem.W.fnOf "__init__" "NoTree.__init__" (defArgs i_NoTree) (defBody i_NoTree) (defScope i_NoTree) .none kV102 dc102 pm102 an102 cd102 ct102), sl102⟩)
    (e2c : PySem.W.codeIn K cd102 "NoTree.__init__" = true)
    (e2k : PySem.W.keepIn K (.ref g2) = true)
    (e2n_index : PySem.W.findIn K (.ref C2) "index" = some none)
    (e3m : PySem.W.nsIn K mainGlobals "NotTop" = some (some (.ref C3)))
    (e3x : K.lookup C3 = some (excClassObj nm3 q3 C3 N3 bs3 [.ref A, .type "ValueError", .type "Exception", .type "BaseException", .type "object"] true sn3 sub3 ab3 col3 dd3 m03 m13 m23 m33 m53 "ValueError.__new__"))
    (e3sa : PySem.W.findIn K (.ref C3) "__setattr__" = some (some (.builtin "object.__setattr__")))
    (e3ty : PySem.W.typeIn K (.ref C3) = some (.type "type"))
    (e3kC : PySem.W.keepIn K (.ref C3) = true)
    (e3hg : PySem.W.findIn K (.ref C3) "__getattribute__" = some (some (.builtin "BaseException.__getattribute__")))
    (e3hk : PySem.W.findIn K (.ref C3) "__getattr__" = some none)
    (e3hs : PySem.W.subIn K (.ref C3) (.type "BaseException") = some true)
    (e3hd : PySem.W.hasDictIn K C3 = true)
    (e3ha : PySem.W.findIn K (.ref C3) "__class__" = some (some (.builtin "object.__class__")))
    (e3hm : PySem.W.mroIn K C3 (.type "object") = some true)
    (e3i : PySem.W.findIn K (.ref C3) "__init__" = some (some (.ref g3)))
    (e3t : PySem.W.typeIn K (.ref g3) = some (.type "function"))
    (e3l : K.lookup g3 = some ⟨oc103, od103, .func (PySem.W.fnOf "__init__" "NotTop.__init__" (defArgs i_NotTop) (defBody i_NotTop) (defScope i_NotTop) .none kV103 dc103 pm103 an103 cd103 ct103), sl103⟩)
    (e3c : PySem.W.codeIn K cd103 "NotTop.__init__" = true)
    (e3k : PySem.W.keepIn K (.ref g3) = true)
    (e3n_kind : PySem.W.findIn K (.ref C3) "kind" = some none)
    (e4m : PySem.W.nsIn K mainGlobals "NoContext" = some (some (.ref C4)))
    (e4x : K.lookup C4 = some (excClassObj nm4 q4 C4 N4 bs4 [.ref A, .type "ValueError", .type "Exception", .type "BaseException", .type "object"] true sn4 sub4 ab4 col4 dd4 m04 m14 m24 m34 m54 "ValueError.__new__"))
    (e4sa : PySem.W.findIn K (.ref C4) "__setattr__" = some (some (.builtin "object.__setattr__")))
    (e4ty : PySem.W.typeIn K (.ref C4) = some (.type "type"))
    (e4kC : PySem.W.keepIn K (.ref C4) = true)
    (e4hg : PySem.W.findIn K (.ref C4) "__getattribute__" = some (some (.builtin "BaseException.__getattribute__")))
    (e4hk : PySem.W.findIn K (.ref C4) "__getattr__" = some none)
    (e4hs : PySem.W.subIn K (.ref C4) (.type "BaseException") = some true)
    (e4hd : PySem.W.hasDictIn K C4 = true)
    (e4ha : PySem.W.findIn K (.ref C4) "__class__" = some (some (.builtin "object.__class__")))
    (e4hm : PySem.W.mroIn K C4 (.type "object") = some true)
    (e4i : PySem.W.findIn K (.ref C4) "__init__" = some (some (.ref g4)))
    (e4t : PySem.W.typeIn K (.ref g4) = some (.type "function"))
    (e4l : K.lookup g4 = some ⟨oc104, od104, .func (PySem.W.fnOf "__init__" "NoContext.__init__" (defArgs i_NoContext) (defBody i_NoContext) (defScope i_NoContext) .none kV104 dc104 pm104 an104 cd104 ct104), sl104⟩)
    (e4c : PySem.W.codeIn K cd104 "NoContext.__init__" = true)
    (e4k : PySem.W.keepIn K (.ref g4) = true)
    (e4n_index : PySem.W.findIn K (.ref C4) "index" = some none)
    (e5m : PySem.W.nsIn K mainGlobals "WrongKind" = some (some (.ref C5)))
    (e5x : K.lookup C5 = some (excClassObj nm5 q5 C5 N5 bs5 [.ref A, .type "ValueError", .type "Exception", .type "BaseException", .type "object"] true sn5 sub5 ab5 col5 dd5 m05 m15 m25 m35 m55 "ValueError.__new__"))
    (e5sa : PySem.W.findIn K (.ref C5) "__setattr__" = some (some (.builtin "object.__setattr__")))
    (e5ty : PySem.W.typeIn K (.ref C5) = some (.type "type"))
    (e5kC : PySem.W.keepIn K (.ref C5) = true)
    (e5hg : PySem.W.findIn K (.ref C5) "__getattribute__" = some (some (.builtin "BaseException.__getattribute__")))
    (e5hk : PySem.W.findIn K (.ref C5) "__getattr__" = some none)
    (e5hs : PySem.W.subIn K (.ref C5) (.type "BaseException") = some true)
    (e5hd : PySem.W.hasDictIn K C5 = true)
    (e5ha : PySem.W.findIn K (.ref C5) "__class__" = some (some (.builtin "object.__class__")))
    (e5hm : PySem.W.mroIn K C5 (.type "object") = some true)
    (e5i : PySem.W.findIn K (.ref C5) "__init__" = some (some (.ref g5)))
    (e5t : PySem.W.typeIn K (.ref g5) = some (.type "function"))
    (e5l : K.lookup g5 = some ⟨oc105, od105, .func (PySem.W.fnOf "__init__" "WrongKind.__init__" (defArgs i_WrongKind) (defBody i_WrongKind) (defScope i_WrongKind) .none kV105 dc105 pm105 an105 cd105 ct105), sl105⟩)
    (e5c : PySem.W.codeIn K cd105 "WrongKind.__init__" = true)
    (e5k : PySem.W.keepIn K (.ref g5) = true)
    (e5n_kind : PySem.W.findIn K (.ref C5) "kind" = some none)
    (e6m : PySem.W.nsIn K mainGlobals "NoCode" = some (some (.ref C6)))
    (e6x : K.lookup C6 = some (excClassObj nm6 q6 C6 N6 bs6 [.ref A, .type "ValueError", .type "Exception", .type "BaseException", .type "object"] true sn6 sub6 ab6 col6 dd6 m06 m16 m26 m36 m56 "ValueError.__new__"))
    (e6sa : PySem.W.findIn K (.ref C6) "__setattr__" = some (some (.builtin "object.__setattr__")))
    (e6ty : PySem.W.typeIn K (.ref C6) = some (.type "type"))
    (e6kC : PySem.W.keepIn K (.ref C6) = true)
    (e6hg : PySem.W.findIn K (.ref C6) "__getattribute__" = some (some (.builtin "BaseException.__getattribute__")))
    (e6hk : PySem.W.findIn K (.ref C6) "__getattr__" = some none)
    (e6hs : PySem.W.subIn K (.ref C6) (.type "BaseException") = some true)
    (e6hd : PySem.W.hasDictIn K C6 = true)
    (e6ha : PySem.W.findIn K (.ref C6) "__class__" = some (some (.builtin "object.__class__")))
    (e6hm : PySem.W.mroIn K C6 (.type "object") = some true)
    (e6i : PySem.W.findIn K (.ref C6) "__init__" = some (some (.ref g6)))
    (e6t : PySem.W.typeIn K (.ref g6) = some (.type "function"))
    (e6l : K.lookup g6 = some ⟨oc106, od106, .func (PySem.W.fnOf "__init__" "NoCode.__init__" (defArgs i_NoCode) (defBody i_NoCode) (defScope i_NoCode) .none kV106 dc106 pm106 an106 cd106 ct106), sl106⟩)
    (e6c : PySem.W.codeIn K cd106 "NoCode.__init__" = true)
    (e6k : PySem.W.keepIn K (.ref g6) = true)
    (e6n_part : PySem.W.findIn K (.ref C6) "part" = some none)
    (e6n_index : PySem.W.findIn K (.ref C6) "index" = some none)
    (e7m : PySem.W.nsIn K mainGlobals "NotOver" = some (some (.ref C7)))
    (e7x : K.lookup C7 = some (excClassObj nm7 q7 C7 N7 bs7 [.ref A, .type "ValueError", .type "Exception", .type "BaseException", .type "object"] true sn7 sub7 ab7 col7 dd7 m07 m17 m27 m37 m57 "ValueError.__new__"))
    (e7sa : PySem.W.findIn K (.ref C7) "__setattr__" = some (some (.builtin "object.__setattr__")))
    (e7ty : PySem.W.typeIn K (.ref C7) = some (.type "type"))
    (e7kC : PySem.W.keepIn K (.ref C7) = true)
    (e7hg : PySem.W.findIn K (.ref C7) "__getattribute__" = some (some (.builtin "BaseException.__getattribute__")))
    (e7hk : PySem.W.findIn K (.ref C7) "__getattr__" = some none)
    (e7hs : PySem.W.subIn K (.ref C7) (.type "BaseException") = some true)
    (e7hd : PySem.W.hasDictIn K C7 = true)
    (e7ha : PySem.W.findIn K (.ref C7) "__class__" = some (some (.builtin "object.__class__")))
    (e7hm : PySem.W.mroIn K C7 (.type "object") = some true)
    (e7i : PySem.W.findIn K (.ref C7) "__init__" = some (some (.ref g7)))
    (e7t : PySem.W.typeIn K (.ref g7) = some (.type "function"))
    (e7l : K.lookup g7 = some ⟨oc107, od107, .func (PySem.W.fnOf "__init__" "NotOver.__init__" (defArgs i_NotOver) (defBody i_NotOver) (defScope i_NotOver) .none kV107 dc107 pm107 an107 cd107 ct107), sl107⟩)
    (e7c : PySem.W.codeIn K cd107 "NotOver.__init__" = true)
    (e7k : PySem.W.keepIn K (.ref g7) = true)
    (e7n_rule : PySem.W.findIn K (.ref C7) "rule" = some none)
    (e8m : PySem.W.nsIn K mainGlobals "NoPaper" = some (some (.ref C8)))
    (e8x : K.lookup C8 = some (excClassObj nm8 q8 C8 N8 bs8 [.ref A, .type "ValueError", .type "Exception", .type "BaseException", .type "object"] true sn8 sub8 ab8 col8 dd8 m08 m18 m28 m38 m58 "ValueError.__new__"))
    (e8sa : PySem.W.findIn K (.ref C8) "__setattr__" = some (some (.builtin "object.__setattr__")))
    (e8ty : PySem.W.typeIn K (.ref C8) = some (.type "type"))
    (e8kC : PySem.W.keepIn K (.ref C8) = true)
    (e8hg : PySem.W.findIn K (.ref C8) "__getattribute__" = some (some (.builtin "BaseException.__getattribute__")))
    (e8hk : PySem.W.findIn K (.ref C8) "__getattr__" = some none)
    (e8hs : PySem.W.subIn K (.ref C8) (.type "BaseException") = some true)
    (e8hd : PySem.W.hasDictIn K C8 = true)
    (e8ha : PySem.W.findIn K (.ref C8) "__class__" = some (some (.builtin "object.__class__")))
    (e8hm : PySem.W.mroIn K C8 (.type "object") = some true)
    (e8i : PySem.W.findIn K (.ref C8) "__init__" = some (some (.ref g8)))
    (e8t : PySem.W.typeIn K (.ref g8) = some (.type "function"))
    (e8l : K.lookup g8 = some ⟨oc108, od108, .func (PySem.W.fnOf "__init__" "NoPaper.__init__" (defArgs i_NoPaper) (defBody i_NoPaper) (defScope i_NoPaper) .none kV108 dc108 pm108 an108 cd108 ct108), sl108⟩)
    (e8c : PySem.W.codeIn K cd108 "NoPaper.__init__" = true)
    (e8k : PySem.W.keepIn K (.ref g8) = true)
    (e8n_part : PySem.W.findIn K (.ref C8) "part" = some none)
    (e8n_index : PySem.W.findIn K (.ref C8) "index" = some none)
    (e9m : PySem.W.nsIn K mainGlobals "NoRows" = some (some (.ref C9)))
    (e9x : K.lookup C9 = some (excClassObj nm9 q9 C9 N9 bs9 [.ref A, .type "ValueError", .type "Exception", .type "BaseException", .type "object"] true sn9 sub9 ab9 col9 dd9 m09 m19 m29 m39 m59 "ValueError.__new__"))
    (e9sa : PySem.W.findIn K (.ref C9) "__setattr__" = some (some (.builtin "object.__setattr__")))
    (e9ty : PySem.W.typeIn K (.ref C9) = some (.type "type"))
    (e9kC : PySem.W.keepIn K (.ref C9) = true)
    (e9hg : PySem.W.findIn K (.ref C9) "__getattribute__" = some (some (.builtin "BaseException.__getattribute__")))
    (e9hk : PySem.W.findIn K (.ref C9) "__getattr__" = some none)
    (e9hs : PySem.W.subIn K (.ref C9) (.type "BaseException") = some true)
    (e9hd : PySem.W.hasDictIn K C9 = true)
    (e9ha : PySem.W.findIn K (.ref C9) "__class__" = some (some (.builtin "object.__class__")))
    (e9hm : PySem.W.mroIn K C9 (.type "object") = some true)
    (e9i : PySem.W.findIn K (.ref C9) "__init__" = some (some (.ref g9)))
    (e9t : PySem.W.typeIn K (.ref g9) = some (.type "function"))
    (e9l : K.lookup g9 = some ⟨oc109, od109, .func (PySem.W.fnOf "__init__" "NoRows.__init__" (defArgs i_NoRows) (defBody i_NoRows) (defScope i_NoRows) .none kV109 dc109 pm109 an109 cd109 ct109), sl109⟩)
    (e9c : PySem.W.codeIn K cd109 "NoRows.__init__" = true)
    (e9k : PySem.W.keepIn K (.ref g9) = true)
    (e9n_part : PySem.W.findIn K (.ref C9) "part" = some none)
    (e9n_index : PySem.W.findIn K (.ref C9) "index" = some none)
    (e10m : PySem.W.nsIn K mainGlobals "NoRecipe" = some (some (.ref C10)))
    (e10x : K.lookup C10 = some (excClassObj nm10 q10 C10 N10 bs10 [.ref A, .type "ValueError", .type "Exception", .type "BaseException", .type "object"] true sn10 sub10 ab10 col10 dd10 m010 m110 m210 m310 m510 "ValueError.__new__"))
    (e10sa : PySem.W.findIn K (.ref C10) "__setattr__" = some (some (.builtin "object.__setattr__")))
    (e10ty : PySem.W.typeIn K (.ref C10) = some (.type "type"))
    (e10kC : PySem.W.keepIn K (.ref C10) = true)
    (e10hg : PySem.W.findIn K (.ref C10) "__getattribute__" = some (some (.builtin "BaseException.__getattribute__")))
    (e10hk : PySem.W.findIn K (.ref C10) "__getattr__" = some none)
    (e10hs : PySem.W.subIn K (.ref C10) (.type "BaseException") = some true)
    (e10hd : PySem.W.hasDictIn K C10 = true)
    (e10ha : PySem.W.findIn K (.ref C10) "__class__" = some (some (.builtin "object.__class__")))
    (e10hm : PySem.W.mroIn K C10 (.type "object") = some true)
    (e10i : PySem.W.findIn K (.ref C10) "__init__" = some (some (.ref g10)))
    (e10t : PySem.W.typeIn K (.ref g10) = some (.type "function"))
    (e10l : K.lookup g10 = some ⟨oc110, od110, .func (PySem.W.fnOf "__init__" "NoRecipe.__init__" (defArgs i_NoRecipe) (defBody i_NoRecipe) (defScope i_NoRecipe) .none kV110 dc110 pm110 an110 cd110 ct110), sl110⟩)
    (e10c : PySem.W.codeIn K cd110 "NoRecipe.__init__" = true)
    (e10k : PySem.W.keepIn K (.ref g10) = true)
    (e10n_index : PySem.W.findIn K (.ref C10) "index" = some none)
    (e11m : PySem.W.nsIn K mainGlobals "NoSplit" = some (some (.ref C11)))
    (e11x : K.lookup C11 = some (excClassObj nm11 q11 C11 N11 bs11 [.ref A, .type "ValueError", .type "Exception", .type "BaseException", .type "object"] true sn11 sub11 ab11 col11 dd11 m011 m111 m211 m311 m511 "ValueError.__new__"))
    (e11sa : PySem.W.findIn K (.ref C11) "__setattr__" = some (some (.builtin "object.__setattr__")))
    (e11ty : PySem.W.typeIn K (.ref C11) = some (.type "type"))
    (e11kC : PySem.W.keepIn K (.ref C11) = true)
    (e11hg : PySem.W.findIn K (.ref C11) "__getattribute__" = some (some (.builtin "BaseException.__getattribute__")))
    (e11hk : PySem.W.findIn K (.ref C11) "__getattr__" = some none)
    (e11hs : PySem.W.subIn K (.ref C11) (.type "BaseException") = some true)
    (e11hd : PySem.W.hasDictIn K C11 = true)
    (e11ha : PySem.W.findIn K (.ref C11) "__class__" = some (some (.builtin "object.__class__")))
    (e11hm : PySem.W.mroIn K C11 (.type "object") = some true)
    (e11i : PySem.W.findIn K (.ref C11) "__init__" = some (some (.ref g11)))
    (e11t : PySem.W.typeIn K (.ref g11) = some (.type "function"))
    (e11l : K.lookup g11 = some ⟨oc111, od111, .func (PySem.W.fnOf "__init__" "NoSplit.__init__" (defArgs i_NoSplit) (defBody i_NoSplit) (defScope i_NoSplit) .none kV111 dc111 pm111 an111 cd111 ct111), sl111⟩)
    (e11c : PySem.W.codeIn K cd111 "NoSplit.__init__" = true)
    (e11k : PySem.W.keepIn K (.ref g11) = true)
    (e11n_part : PySem.W.findIn K (.ref C11) "part" = some none)
    (e12m : PySem.W.nsIn K mainGlobals "NoText" = some (some (.ref C12)))
    (e12x : K.lookup C12 = some (excClassObj nm12 q12 C12 N12 bs12 [.ref A, .type "ValueError", .type "Exception", .type "BaseException", .type "object"] true sn12 sub12 ab12 col12 dd12 m012 m112 m212 m312 m512 "ValueError.__new__"))
    (e12sa : PySem.W.findIn K (.ref C12) "__setattr__" = some (some (.builtin "object.__setattr__")))
    (e12ty : PySem.W.typeIn K (.ref C12) = some (.type "type"))
    (e12kC : PySem.W.keepIn K (.ref C12) = true)
    (e12hg : PySem.W.findIn K (.ref C12) "__getattribute__" = some (some (.builtin "BaseException.__getattribute__")))
    (e12hk : PySem.W.findIn K (.ref C12) "__getattr__" = some none)
    (e12hs : PySem.W.subIn K (.ref C12) (.type "BaseException") = some true)
    (e12hd : PySem.W.hasDictIn K C12 = true)
    (e12ha : PySem.W.findIn K (.ref C12) "__class__" = some (some (.builtin "object.__class__")))
    (e12hm : PySem.W.mroIn K C12 (.type "object") = some true)
    (e12i : PySem.W.findIn K (.ref C12) "__init__" = some (some (.ref g12)))
    (e12t : PySem.W.typeIn K (.ref g12) = some (.type "function"))
    (e12l : K.lookup g12 = some ⟨oc112, od112, .func (PySem.W.fnOf "__init__" "NoText.__init__" (defArgs i_NoText) (defBody i_NoText) (defScope i_NoText) .none kV112 dc112 pm112 an112 cd112 ct112), sl112⟩)
    (e12c : PySem.W.codeIn K cd112 "NoText.__init__" = true)
    (e12k : PySem.W.keepIn K (.ref g12) = true)
    (e12n_row : PySem.W.findIn K (.ref C12) "row" = some none)
    (e13m : PySem.W.nsIn K mainGlobals "NoForm" = some (some (.ref C13)))
    (e13x : K.lookup C13 = some (excClassObj nm13 q13 C13 N13 bs13 [.ref A, .type "ValueError", .type "Exception", .type "BaseException", .type "object"] true sn13 sub13 ab13 col13 dd13 m013 m113 m213 m313 m513 "ValueError.__new__"))
    (e13sa : PySem.W.findIn K (.ref C13) "__setattr__" = some (some (.builtin "object.__setattr__")))
    (e13ty : PySem.W.typeIn K (.ref C13) = some (.type "type"))
    (e13kC : PySem.W.keepIn K (.ref C13) = true)
    (e13hg : PySem.W.findIn K (.ref C13) "__getattribute__" = some (some (.builtin "BaseException.__getattribute__")))
    (e13hk : PySem.W.findIn K (.ref C13) "__getattr__" = some none)
    (e13hs : PySem.W.subIn K (.ref C13) (.type "BaseException") = some true)
    (e13hd : PySem.W.hasDictIn K C13 = true)
    (e13ha : PySem.W.findIn K (.ref C13) "__class__" = some (some (.builtin "object.__class__")))
    (e13hm : PySem.W.mroIn K C13 (.type "object") = some true)
    (e13i : PySem.W.findIn K (.ref C13) "__init__" = some (some (.ref g13)))
    (e13t : PySem.W.typeIn K (.ref g13) = some (.type "function"))
    (e13l : K.lookup g13 = some ⟨oc113, od113, .func (PySem.W.fnOf "__init__" "NoForm.__init__" (defArgs i_NoForm) (defBody i_NoForm) (defScope i_NoForm) .none kV113 dc113 pm113 an113 cd113 ct113), sl113⟩)
    (e13c : PySem.W.codeIn K cd113 "NoForm.__init__" = true)
    (e13k : PySem.W.keepIn K (.ref g13) = true)
    (e13n_index : PySem.W.findIn K (.ref C13) "index" = some none)
    (e14m : PySem.W.nsIn K mainGlobals "NoState" = some (some (.ref C14)))
    (e14x : K.lookup C14 = some (excClassObj nm14 q14 C14 N14 bs14 [.ref A, .type "ValueError", .type "Exception", .type "BaseException", .type "object"] true sn14 sub14 ab14 col14 dd14 m014 m114 m214 m314 m514 "ValueError.__new__"))
    (e14sa : PySem.W.findIn K (.ref C14) "__setattr__" = some (some (.builtin "object.__setattr__")))
    (e14ty : PySem.W.typeIn K (.ref C14) = some (.type "type"))
    (e14kC : PySem.W.keepIn K (.ref C14) = true)
    (e14hg : PySem.W.findIn K (.ref C14) "__getattribute__" = some (some (.builtin "BaseException.__getattribute__")))
    (e14hk : PySem.W.findIn K (.ref C14) "__getattr__" = some none)
    (e14hs : PySem.W.subIn K (.ref C14) (.type "BaseException") = some true)
    (e14hd : PySem.W.hasDictIn K C14 = true)
    (e14ha : PySem.W.findIn K (.ref C14) "__class__" = some (some (.builtin "object.__class__")))
    (e14hm : PySem.W.mroIn K C14 (.type "object") = some true)
    (e14i : PySem.W.findIn K (.ref C14) "__init__" = some (some (.ref g14)))
    (e14t : PySem.W.typeIn K (.ref g14) = some (.type "function"))
    (e14l : K.lookup g14 = some ⟨oc114, od114, .func (PySem.W.fnOf "__init__" "NoState.__init__" (defArgs i_NoState) (defBody i_NoState) (defScope i_NoState) .none kV114 dc114 pm114 an114 cd114 ct114), sl114⟩)
    (e14c : PySem.W.codeIn K cd114 "NoState.__init__" = true)
    (e14k : PySem.W.keepIn K (.ref g14) = true)
    (e14n_index : PySem.W.findIn K (.ref C14) "index" = some none)
    (e15m : PySem.W.nsIn K mainGlobals "ManyUnknowns" = some (some (.ref C15)))
    (e15x : K.lookup C15 = some (excClassObj nm15 q15 C15 N15 bs15 [.ref A, .type "ValueError", .type "Exception", .type "BaseException", .type "object"] true sn15 sub15 ab15 col15 dd15 m015 m115 m215 m315 m515 "ValueError.__new__"))
    (e15sa : PySem.W.findIn K (.ref C15) "__setattr__" = some (some (.builtin "object.__setattr__")))
    (e15ty : PySem.W.typeIn K (.ref C15) = some (.type "type"))
    (e15kC : PySem.W.keepIn K (.ref C15) = true)
    (e15hg : PySem.W.findIn K (.ref C15) "__getattribute__" = some (some (.builtin "BaseException.__getattribute__")))
    (e15hk : PySem.W.findIn K (.ref C15) "__getattr__" = some none)
    (e15hs : PySem.W.subIn K (.ref C15) (.type "BaseException") = some true)
    (e15hd : PySem.W.hasDictIn K C15 = true)
    (e15ha : PySem.W.findIn K (.ref C15) "__class__" = some (some (.builtin "object.__class__")))
    (e15hm : PySem.W.mroIn K C15 (.type "object") = some true)
    (e15i : PySem.W.findIn K (.ref C15) "__init__" = some (some (.ref g15)))
    (e15t : PySem.W.typeIn K (.ref g15) = some (.type "function"))
    (e15l : K.lookup g15 = some ⟨oc115, od115, .func (PySem.W.fnOf "__init__" "ManyUnknowns.__init__" (defArgs i_ManyUnknowns) (defBody i_ManyUnknowns) (defScope i_ManyUnknowns) .none kV115 dc115 pm115 an115 cd115 ct115), sl115⟩)
    (e15c : PySem.W.codeIn K cd115 "ManyUnknowns.__init__" = true)
    (e15k : PySem.W.keepIn K (.ref g15) = true)
    (e15n_number : PySem.W.findIn K (.ref C15) "number" = some none)
    (e16m : PySem.W.nsIn K mainGlobals "NotOnce" = some (some (.ref C16)))
    (e16x : K.lookup C16 = some (excClassObj nm16 q16 C16 N16 bs16 [.ref A, .type "ValueError", .type "Exception", .type "BaseException", .type "object"] true sn16 sub16 ab16 col16 dd16 m016 m116 m216 m316 m516 "ValueError.__new__"))
    (e16sa : PySem.W.findIn K (.ref C16) "__setattr__" = some (some (.builtin "object.__setattr__")))
    (e16ty : PySem.W.typeIn K (.ref C16) = some (.type "type"))
    (e16kC : PySem.W.keepIn K (.ref C16) = true)
    (e16hg : PySem.W.findIn K (.ref C16) "__getattribute__" = some (some (.builtin "BaseException.__getattribute__")))
    (e16hk : PySem.W.findIn K (.ref C16) "__getattr__" = some none)
    (e16hs : PySem.W.subIn K (.ref C16) (.type "BaseException") = some true)
    (e16hd : PySem.W.hasDictIn K C16 = true)
    (e16ha : PySem.W.findIn K (.ref C16) "__class__" = some (some (.builtin "object.__class__")))
    (e16hm : PySem.W.mroIn K C16 (.type "object") = some true)
    (e16i : PySem.W.findIn K (.ref C16) "__init__" = some (some (.ref g16)))
    (e16t : PySem.W.typeIn K (.ref g16) = some (.type "function"))
    (e16l : K.lookup g16 = some ⟨oc116, od116, .func (PySem.W.fnOf "__init__" "NotOnce.__init__" (defArgs i_NotOnce) (defBody i_NotOnce) (defScope i_NotOnce) .none kV116 dc116 pm116 an116 cd116 ct116), sl116⟩)
    (e16c : PySem.W.codeIn K cd116 "NotOnce.__init__" = true)
    (e16k : PySem.W.keepIn K (.ref g16) = true)
    (e16n_name : PySem.W.findIn K (.ref C16) "name" = some none)
    (e17m : PySem.W.nsIn K mainGlobals "NoNumbers" = some (some (.ref C17)))
    (e17x : K.lookup C17 = some (excClassObj nm17 q17 C17 N17 bs17 [.ref A, .type "ValueError", .type "Exception", .type "BaseException", .type "object"] true sn17 sub17 ab17 col17 dd17 m017 m117 m217 m317 m517 "ValueError.__new__"))
    (e17sa : PySem.W.findIn K (.ref C17) "__setattr__" = some (some (.builtin "object.__setattr__")))
    (e17ty : PySem.W.typeIn K (.ref C17) = some (.type "type"))
    (e17kC : PySem.W.keepIn K (.ref C17) = true)
    (e17hg : PySem.W.findIn K (.ref C17) "__getattribute__" = some (some (.builtin "BaseException.__getattribute__")))
    (e17hk : PySem.W.findIn K (.ref C17) "__getattr__" = some none)
    (e17hs : PySem.W.subIn K (.ref C17) (.type "BaseException") = some true)
    (e17hd : PySem.W.hasDictIn K C17 = true)
    (e17ha : PySem.W.findIn K (.ref C17) "__class__" = some (some (.builtin "object.__class__")))
    (e17hm : PySem.W.mroIn K C17 (.type "object") = some true)
    (e17i : PySem.W.findIn K (.ref C17) "__init__" = some (some (.ref g17)))
    (e17t : PySem.W.typeIn K (.ref g17) = some (.type "function"))
    (e17l : K.lookup g17 = some ⟨oc117, od117, .func (PySem.W.fnOf "__init__" "NoNumbers.__init__" (defArgs i_NoNumbers) (defBody i_NoNumbers) (defScope i_NoNumbers) .none kV117 dc117 pm117 an117 cd117 ct117), sl117⟩)
    (e17c : PySem.W.codeIn K cd117 "NoNumbers.__init__" = true)
    (e17k : PySem.W.keepIn K (.ref g17) = true)
    (e17n_index : PySem.W.findIn K (.ref C17) "index" = some none)
    (e18m : PySem.W.nsIn K mainGlobals "NoPath" = some (some (.ref C18)))
    (e18x : K.lookup C18 = some (excClassObj nm18 q18 C18 N18 bs18 [.ref A, .type "ValueError", .type "Exception", .type "BaseException", .type "object"] true sn18 sub18 ab18 col18 dd18 m018 m118 m218 m318 m518 "ValueError.__new__"))
    (e18sa : PySem.W.findIn K (.ref C18) "__setattr__" = some (some (.builtin "object.__setattr__")))
    (e18ty : PySem.W.typeIn K (.ref C18) = some (.type "type"))
    (e18kC : PySem.W.keepIn K (.ref C18) = true)
    (e18hg : PySem.W.findIn K (.ref C18) "__getattribute__" = some (some (.builtin "BaseException.__getattribute__")))
    (e18hk : PySem.W.findIn K (.ref C18) "__getattr__" = some none)
    (e18hs : PySem.W.subIn K (.ref C18) (.type "BaseException") = some true)
    (e18hd : PySem.W.hasDictIn K C18 = true)
    (e18ha : PySem.W.findIn K (.ref C18) "__class__" = some (some (.builtin "object.__class__")))
    (e18hm : PySem.W.mroIn K C18 (.type "object") = some true)
    (e18i : PySem.W.findIn K (.ref C18) "__init__" = some (some (.ref g18)))
    (e18t : PySem.W.typeIn K (.ref g18) = some (.type "function"))
    (e18l : K.lookup g18 = some ⟨oc118, od118, .func (PySem.W.fnOf "__init__" "NoPath.__init__" (defArgs i_NoPath) (defBody i_NoPath) (defScope i_NoPath) .none kV118 dc118 pm118 an118 cd118 ct118), sl118⟩)
    (e18c : PySem.W.codeIn K cd118 "NoPath.__init__" = true)
    (e18k : PySem.W.keepIn K (.ref g18) = true)
    (e18n_path : PySem.W.findIn K (.ref C18) "path" = some none)
    (e19m : PySem.W.nsIn K mainGlobals "LargeTree" = some (some (.ref C19)))
    (e19x : K.lookup C19 = some (excClassObj nm19 q19 C19 N19 bs19 [.ref A, .type "ValueError", .type "Exception", .type "BaseException", .type "object"] true sn19 sub19 ab19 col19 dd19 m019 m119 m219 m319 m519 "ValueError.__new__"))
    (e19sa : PySem.W.findIn K (.ref C19) "__setattr__" = some (some (.builtin "object.__setattr__")))
    (e19ty : PySem.W.typeIn K (.ref C19) = some (.type "type"))
    (e19kC : PySem.W.keepIn K (.ref C19) = true)
    (e19hg : PySem.W.findIn K (.ref C19) "__getattribute__" = some (some (.builtin "BaseException.__getattribute__")))
    (e19hk : PySem.W.findIn K (.ref C19) "__getattr__" = some none)
    (e19hs : PySem.W.subIn K (.ref C19) (.type "BaseException") = some true)
    (e19hd : PySem.W.hasDictIn K C19 = true)
    (e19ha : PySem.W.findIn K (.ref C19) "__class__" = some (some (.builtin "object.__class__")))
    (e19hm : PySem.W.mroIn K C19 (.type "object") = some true)
    (e19i : PySem.W.findIn K (.ref C19) "__init__" = some (some (.ref g19)))
    (e19t : PySem.W.typeIn K (.ref g19) = some (.type "function"))
    (e19l : K.lookup g19 = some ⟨oc119, od119, .func (PySem.W.fnOf "__init__" "LargeTree.__init__" (defArgs i_LargeTree) (defBody i_LargeTree) (defScope i_LargeTree) .none kV119 dc119 pm119 an119 cd119 ct119), sl119⟩)
    (e19c : PySem.W.codeIn K cd119 "LargeTree.__init__" = true)
    (e19k : PySem.W.keepIn K (.ref g19) = true)
    (e19n_nodes : PySem.W.findIn K (.ref C19) "nodes" = some none)
    (e20m : PySem.W.nsIn K mainGlobals "NoRule" = some (some (.ref C20)))
    (e20x : K.lookup C20 = some (excClassObj nm20 q20 C20 N20 bs20 [.ref A, .type "ValueError", .type "Exception", .type "BaseException", .type "object"] true sn20 sub20 ab20 col20 dd20 m020 m120 m220 m320 m520 "ValueError.__new__"))
    (e20sa : PySem.W.findIn K (.ref C20) "__setattr__" = some (some (.builtin "object.__setattr__")))
    (e20ty : PySem.W.typeIn K (.ref C20) = some (.type "type"))
    (e20kC : PySem.W.keepIn K (.ref C20) = true)
    (e20hg : PySem.W.findIn K (.ref C20) "__getattribute__" = some (some (.builtin "BaseException.__getattribute__")))
    (e20hk : PySem.W.findIn K (.ref C20) "__getattr__" = some none)
    (e20hs : PySem.W.subIn K (.ref C20) (.type "BaseException") = some true)
    (e20hd : PySem.W.hasDictIn K C20 = true)
    (e20ha : PySem.W.findIn K (.ref C20) "__class__" = some (some (.builtin "object.__class__")))
    (e20hm : PySem.W.mroIn K C20 (.type "object") = some true)
    (e20i : PySem.W.findIn K (.ref C20) "__init__" = some (some (.ref g20)))
    (e20t : PySem.W.typeIn K (.ref g20) = some (.type "function"))
    (e20l : K.lookup g20 = some ⟨oc120, od120, .func (PySem.W.fnOf "__init__" "NoRule.__init__" (defArgs i_NoRule) (defBody i_NoRule) (defScope i_NoRule) .none kV120 dc120 pm120 an120 cd120 ct120), sl120⟩)
    (e20c : PySem.W.codeIn K cd120 "NoRule.__init__" = true)
    (e20k : PySem.W.keepIn K (.ref g20) = true)
    (e20n_rule : PySem.W.findIn K (.ref C20) "rule" = some none)
    (e21m : PySem.W.nsIn K mainGlobals "NoCount" = some (some (.ref C21)))
    (e21x : K.lookup C21 = some (excClassObj nm21 q21 C21 N21 bs21 [.ref A, .type "ValueError", .type "Exception", .type "BaseException", .type "object"] true sn21 sub21 ab21 col21 dd21 m021 m121 m221 m321 m521 "ValueError.__new__"))
    (e21sa : PySem.W.findIn K (.ref C21) "__setattr__" = some (some (.builtin "object.__setattr__")))
    (e21ty : PySem.W.typeIn K (.ref C21) = some (.type "type"))
    (e21kC : PySem.W.keepIn K (.ref C21) = true)
    (e21hg : PySem.W.findIn K (.ref C21) "__getattribute__" = some (some (.builtin "BaseException.__getattribute__")))
    (e21hk : PySem.W.findIn K (.ref C21) "__getattr__" = some none)
    (e21hs : PySem.W.subIn K (.ref C21) (.type "BaseException") = some true)
    (e21hd : PySem.W.hasDictIn K C21 = true)
    (e21ha : PySem.W.findIn K (.ref C21) "__class__" = some (some (.builtin "object.__class__")))
    (e21hm : PySem.W.mroIn K C21 (.type "object") = some true)
    (e21i : PySem.W.findIn K (.ref C21) "__init__" = some (some (.ref g21)))
    (e21t : PySem.W.typeIn K (.ref g21) = some (.type "function"))
    (e21l : K.lookup g21 = some ⟨oc121, od121, .func (PySem.W.fnOf "__init__" "NoCount.__init__" (defArgs i_NoCount) (defBody i_NoCount) (defScope i_NoCount) .none kV121 dc121 pm121 an121 cd121 ct121), sl121⟩)
    (e21c : PySem.W.codeIn K cd121 "NoCount.__init__" = true)
    (e21k : PySem.W.keepIn K (.ref g21) = true)
    (e21n_part : PySem.W.findIn K (.ref C21) "part" = some none)
    (kit : kitChk K [C0, C1, C2, C3, C4, C5, C6, C7, C8, C9, C10, C11, C12, C13, C14, C15, C16, C17, C18, C19, C20, C21] A N = true) :
    ∃ fd : FuncData, (∀ (s : Shared) (v : Value), BindsTo s fd ⟨[v], []⟩ [("_law_script", v)]) ∧ ∀ base : Heap, K.In base → base.Ns mainGlobals mg → FnOk PySem.Challenge.pw_leastattr_k04_exceptions w K mg base CX0 6 fa fd ["_law_script"] (spLaw K) := by
  have e := hfa.symm.trans (PySem.W.mg_of X G a7)
  cases e
  have F0 := fun_mk (st := s_law_draw) l0 c0 k0
  have b0 := F0.binds (ps := ["_law_well", "_law_many"]) fun _ _ _ _ _ _ us hl => match us, hl with | [_, _], _ => rfl
  let D0 : Df K mg "_law_draw" s_law_draw ["_law_well", "_law_many"] := ⟨_, _, F0, PySem.W.mg_of X G a0, b0⟩
  have F1 := fun_mk (st := s_law_one) l1 c1 k1
  have b1 := F1.binds (ps := ["_law_well", "_law_some"]) fun _ _ _ _ _ _ us hl => match us, hl with | [_, _], _ => rfl
  let D1 : Df K mg "_law_one" s_law_one ["_law_well", "_law_some"] := ⟨_, _, F1, PySem.W.mg_of X G a1, b1⟩
  have F2 := fun_mk (st := s_law_taken) l2 c2 k2
  have b2 := F2.binds (ps := ["_law_e"]) fun _ _ _ _ _ _ us hl => match us, hl with | [_], _ => rfl
  let D2 : Df K mg "_law_taken" s_law_taken ["_law_e"] := ⟨_, _, F2, PySem.W.mg_of X G a2, b2⟩
  have F3 := fun_mk (st := s_law_by_place) l3 c3 k3
  have b3 := F3.binds (ps := ["_law_x"]) fun _ _ _ _ _ _ us hl => match us, hl with | [_], _ => rfl
  let D3 : Df K mg "_law_by_place" s_law_by_place ["_law_x"] := ⟨_, _, F3, PySem.W.mg_of X G a3, b3⟩
  have F4 := fun_mk (st := s_law_by_name) l4 c4 k4
  have b4 := F4.binds (ps := ["_law_x"]) fun _ _ _ _ _ _ us hl => match us, hl with | [_], _ => rfl
  let D4 : Df K mg "_law_by_name" s_law_by_name ["_law_x"] := ⟨_, _, F4, PySem.W.mg_of X G a4, b4⟩
  have F5 := fun_mk (st := s_law_fields) l5 c5 k5
  have b5 := F5.binds (ps := ["_law_some"]) fun _ _ _ _ _ _ us hl => match us, hl with | [_], _ => rfl
  let D5 : Df K mg "_law_fields" s_law_fields ["_law_some"] := ⟨_, _, F5, PySem.W.mg_of X G a5, b5⟩
  have F6 := fun_mk (st := s_law_right) l6 c6 k6
  have b6 := F6.binds (ps := ["_law_well"]) fun _ _ _ _ _ _ us hl => match us, hl with | [_], _ => rfl
  let D6 : Df K mg "_law_right" s_law_right ["_law_well"] := ⟨_, _, F6, PySem.W.mg_of X G a6, b6⟩
  have F7 := fun_mk (st := s_law) l7 c7 k7
  have b7 := F7.binds (ps := ["_law_script"]) fun _ _ _ _ _ _ us hl => match us, hl with | [_], _ => rfl
  let D7 : Df K mg "law" s_law ["_law_script"] := ⟨_, _, F7, PySem.W.mg_of X G a7, b7⟩
  have J0 := fun_mk (st := i_NoGrammar) e0l e0c e0k
  have y0 := J0.binds (ps := ["self", "part", "index"]) fun _ _ _ _ _ _ us hl => match us, hl with | [_, _, _], _ => rfl
  have w0 : KBn K _ ["self", "part", "index"] 1 ["index", "part"] (fun us ws => us ++ ws.reverse) (fun vs zs => vs ++ zs.reverse) := kbn_of J0 (fun kV doc pm an cdv ct us ws h1 h2 => match us, ws, h1, h2 with | [_], [_, _], _, _ => rfl)
  have x0 : ExcC K C0 := ⟨e0hg, e0hk, e0hs, e0hd, e0ha, hn, ht, e0hm⟩
  have v0 : OexC K C0 := ⟨⟨_, _, _, _, _, _, _, _, _, _, _, _, _, _, _, e0x, rfl⟩, e0sa, e0hs, e0ty, e0kC⟩
  let E0 : Ec K mg "NoGrammar" "NoGrammar.__init__" i_NoGrammar ["part", "index"] := ⟨C0, g0, _, v0, e0i, e0t, PySem.W.mg_of X G e0m, J0, y0, w0, ⟨e0hg, e0hk, e0hs, e0hd⟩, x0, fun f hf => (List.mem_cons.mp hf).elim (fun z => by rw [z]; exact e0n_part) fun z => by rw [List.mem_singleton.mp z]; exact e0n_index⟩
  have J1 := fun_mk (st := i_NoKind) e1l e1c e1k
  have y1 := J1.binds (ps := ["self", "kind"]) fun _ _ _ _ _ _ us hl => match us, hl with | [_, _], _ => rfl
  have w1 : KBn K _ ["self", "kind"] 1 ["kind"] (fun us ws => us ++ ws.reverse) (fun vs zs => vs ++ zs.reverse) := kbn_of J1 (fun kV doc pm an cdv ct us ws h1 h2 => match us, ws, h1, h2 with | [_], [_], _, _ => rfl)
  have x1 : ExcC K C1 := ⟨e1hg, e1hk, e1hs, e1hd, e1ha, hn, ht, e1hm⟩
  have v1 : OexC K C1 := ⟨⟨_, _, _, _, _, _, _, _, _, _, _, _, _, _, _, e1x, rfl⟩, e1sa, e1hs, e1ty, e1kC⟩
  let E1 : Ec K mg "NoKind" "NoKind.__init__" i_NoKind ["kind"] := ⟨C1, g1, _, v1, e1i, e1t, PySem.W.mg_of X G e1m, J1, y1, w1, ⟨e1hg, e1hk, e1hs, e1hd⟩, x1, fun f hf => by rw [List.mem_singleton.mp hf]; exact e1n_kind⟩
  have J2 := fun_mk (st := i_NoTree) e2l e2c e2k
  have y2 := J2.binds (ps := ["self", "index"]) fun _ _ _ _ _ _ us hl => match us, hl with | [_, _], _ => rfl
  have w2 : KBn K _ ["self", "index"] 1 ["index"] (fun us ws => us ++ ws.reverse) (fun vs zs => vs ++ zs.reverse) := kbn_of J2 (fun kV doc pm an cdv ct us ws h1 h2 => match us, ws, h1, h2 with | [_], [_], _, _ => rfl)
  have x2 : ExcC K C2 := ⟨e2hg, e2hk, e2hs, e2hd, e2ha, hn, ht, e2hm⟩
  have v2 : OexC K C2 := ⟨⟨_, _, _, _, _, _, _, _, _, _, _, _, _, _, _, e2x, rfl⟩, e2sa, e2hs, e2ty, e2kC⟩
  let E2 : Ec K mg "NoTree" "NoTree.__init__" i_NoTree ["index"] := ⟨C2, g2, _, v2, e2i, e2t, PySem.W.mg_of X G e2m, J2, y2, w2, ⟨e2hg, e2hk, e2hs, e2hd⟩, x2, fun f hf => by rw [List.mem_singleton.mp hf]; exact e2n_index⟩
  have J3 := fun_mk (st := i_NotTop) e3l e3c e3k
  have y3 := J3.binds (ps := ["self", "kind"]) fun _ _ _ _ _ _ us hl => match us, hl with | [_, _], _ => rfl
  have w3 : KBn K _ ["self", "kind"] 1 ["kind"] (fun us ws => us ++ ws.reverse) (fun vs zs => vs ++ zs.reverse) := kbn_of J3 (fun kV doc pm an cdv ct us ws h1 h2 => match us, ws, h1, h2 with | [_], [_], _, _ => rfl)
  have x3 : ExcC K C3 := ⟨e3hg, e3hk, e3hs, e3hd, e3ha, hn, ht, e3hm⟩
  have v3 : OexC K C3 := ⟨⟨_, _, _, _, _, _, _, _, _, _, _, _, _, _, _, e3x, rfl⟩, e3sa, e3hs, e3ty, e3kC⟩
  let E3 : Ec K mg "NotTop" "NotTop.__init__" i_NotTop ["kind"] := ⟨C3, g3, _, v3, e3i, e3t, PySem.W.mg_of X G e3m, J3, y3, w3, ⟨e3hg, e3hk, e3hs, e3hd⟩, x3, fun f hf => by rw [List.mem_singleton.mp hf]; exact e3n_kind⟩
  have J4 := fun_mk (st := i_NoContext) e4l e4c e4k
  have y4 := J4.binds (ps := ["self", "index"]) fun _ _ _ _ _ _ us hl => match us, hl with | [_, _], _ => rfl
  have w4 : KBn K _ ["self", "index"] 1 ["index"] (fun us ws => us ++ ws.reverse) (fun vs zs => vs ++ zs.reverse) := kbn_of J4 (fun kV doc pm an cdv ct us ws h1 h2 => match us, ws, h1, h2 with | [_], [_], _, _ => rfl)
  have x4 : ExcC K C4 := ⟨e4hg, e4hk, e4hs, e4hd, e4ha, hn, ht, e4hm⟩
  have v4 : OexC K C4 := ⟨⟨_, _, _, _, _, _, _, _, _, _, _, _, _, _, _, e4x, rfl⟩, e4sa, e4hs, e4ty, e4kC⟩
  let E4 : Ec K mg "NoContext" "NoContext.__init__" i_NoContext ["index"] := ⟨C4, g4, _, v4, e4i, e4t, PySem.W.mg_of X G e4m, J4, y4, w4, ⟨e4hg, e4hk, e4hs, e4hd⟩, x4, fun f hf => by rw [List.mem_singleton.mp hf]; exact e4n_index⟩
  have J5 := fun_mk (st := i_WrongKind) e5l e5c e5k
  have y5 := J5.binds (ps := ["self", "kind"]) fun _ _ _ _ _ _ us hl => match us, hl with | [_, _], _ => rfl
  have w5 : KBn K _ ["self", "kind"] 1 ["kind"] (fun us ws => us ++ ws.reverse) (fun vs zs => vs ++ zs.reverse) := kbn_of J5 (fun kV doc pm an cdv ct us ws h1 h2 => match us, ws, h1, h2 with | [_], [_], _, _ => rfl)
  have x5 : ExcC K C5 := ⟨e5hg, e5hk, e5hs, e5hd, e5ha, hn, ht, e5hm⟩
  have v5 : OexC K C5 := ⟨⟨_, _, _, _, _, _, _, _, _, _, _, _, _, _, _, e5x, rfl⟩, e5sa, e5hs, e5ty, e5kC⟩
  let E5 : Ec K mg "WrongKind" "WrongKind.__init__" i_WrongKind ["kind"] := ⟨C5, g5, _, v5, e5i, e5t, PySem.W.mg_of X G e5m, J5, y5, w5, ⟨e5hg, e5hk, e5hs, e5hd⟩, x5, fun f hf => by rw [List.mem_singleton.mp hf]; exact e5n_kind⟩
  have J6 := fun_mk (st := i_NoCode) e6l e6c e6k
  have y6 := J6.binds (ps := ["self", "part", "index"]) fun _ _ _ _ _ _ us hl => match us, hl with | [_, _, _], _ => rfl
  have w6 : KBn K _ ["self", "part", "index"] 1 ["index", "part"] (fun us ws => us ++ ws.reverse) (fun vs zs => vs ++ zs.reverse) := kbn_of J6 (fun kV doc pm an cdv ct us ws h1 h2 => match us, ws, h1, h2 with | [_], [_, _], _, _ => rfl)
  have x6 : ExcC K C6 := ⟨e6hg, e6hk, e6hs, e6hd, e6ha, hn, ht, e6hm⟩
  have v6 : OexC K C6 := ⟨⟨_, _, _, _, _, _, _, _, _, _, _, _, _, _, _, e6x, rfl⟩, e6sa, e6hs, e6ty, e6kC⟩
  let E6 : Ec K mg "NoCode" "NoCode.__init__" i_NoCode ["part", "index"] := ⟨C6, g6, _, v6, e6i, e6t, PySem.W.mg_of X G e6m, J6, y6, w6, ⟨e6hg, e6hk, e6hs, e6hd⟩, x6, fun f hf => (List.mem_cons.mp hf).elim (fun z => by rw [z]; exact e6n_part) fun z => by rw [List.mem_singleton.mp z]; exact e6n_index⟩
  have J7 := fun_mk (st := i_NotOver) e7l e7c e7k
  have y7 := J7.binds (ps := ["self", "rule"]) fun _ _ _ _ _ _ us hl => match us, hl with | [_, _], _ => rfl
  have w7 : KBn K _ ["self", "rule"] 1 ["rule"] (fun us ws => us ++ ws.reverse) (fun vs zs => vs ++ zs.reverse) := kbn_of J7 (fun kV doc pm an cdv ct us ws h1 h2 => match us, ws, h1, h2 with | [_], [_], _, _ => rfl)
  have x7 : ExcC K C7 := ⟨e7hg, e7hk, e7hs, e7hd, e7ha, hn, ht, e7hm⟩
  have v7 : OexC K C7 := ⟨⟨_, _, _, _, _, _, _, _, _, _, _, _, _, _, _, e7x, rfl⟩, e7sa, e7hs, e7ty, e7kC⟩
  let E7 : Ec K mg "NotOver" "NotOver.__init__" i_NotOver ["rule"] := ⟨C7, g7, _, v7, e7i, e7t, PySem.W.mg_of X G e7m, J7, y7, w7, ⟨e7hg, e7hk, e7hs, e7hd⟩, x7, fun f hf => by rw [List.mem_singleton.mp hf]; exact e7n_rule⟩
  have J8 := fun_mk (st := i_NoPaper) e8l e8c e8k
  have y8 := J8.binds (ps := ["self", "part", "index"]) fun _ _ _ _ _ _ us hl => match us, hl with | [_, _, _], _ => rfl
  have w8 : KBn K _ ["self", "part", "index"] 1 ["index", "part"] (fun us ws => us ++ ws.reverse) (fun vs zs => vs ++ zs.reverse) := kbn_of J8 (fun kV doc pm an cdv ct us ws h1 h2 => match us, ws, h1, h2 with | [_], [_, _], _, _ => rfl)
  have x8 : ExcC K C8 := ⟨e8hg, e8hk, e8hs, e8hd, e8ha, hn, ht, e8hm⟩
  have v8 : OexC K C8 := ⟨⟨_, _, _, _, _, _, _, _, _, _, _, _, _, _, _, e8x, rfl⟩, e8sa, e8hs, e8ty, e8kC⟩
  let E8 : Ec K mg "NoPaper" "NoPaper.__init__" i_NoPaper ["part", "index"] := ⟨C8, g8, _, v8, e8i, e8t, PySem.W.mg_of X G e8m, J8, y8, w8, ⟨e8hg, e8hk, e8hs, e8hd⟩, x8, fun f hf => (List.mem_cons.mp hf).elim (fun z => by rw [z]; exact e8n_part) fun z => by rw [List.mem_singleton.mp z]; exact e8n_index⟩
  have J9 := fun_mk (st := i_NoRows) e9l e9c e9k
  have y9 := J9.binds (ps := ["self", "part", "index"]) fun _ _ _ _ _ _ us hl => match us, hl with | [_, _, _], _ => rfl
  have w9 : KBn K _ ["self", "part", "index"] 1 ["index", "part"] (fun us ws => us ++ ws.reverse) (fun vs zs => vs ++ zs.reverse) := kbn_of J9 (fun kV doc pm an cdv ct us ws h1 h2 => match us, ws, h1, h2 with | [_], [_, _], _, _ => rfl)
  have x9 : ExcC K C9 := ⟨e9hg, e9hk, e9hs, e9hd, e9ha, hn, ht, e9hm⟩
  have v9 : OexC K C9 := ⟨⟨_, _, _, _, _, _, _, _, _, _, _, _, _, _, _, e9x, rfl⟩, e9sa, e9hs, e9ty, e9kC⟩
  let E9 : Ec K mg "NoRows" "NoRows.__init__" i_NoRows ["part", "index"] := ⟨C9, g9, _, v9, e9i, e9t, PySem.W.mg_of X G e9m, J9, y9, w9, ⟨e9hg, e9hk, e9hs, e9hd⟩, x9, fun f hf => (List.mem_cons.mp hf).elim (fun z => by rw [z]; exact e9n_part) fun z => by rw [List.mem_singleton.mp z]; exact e9n_index⟩
  have J10 := fun_mk (st := i_NoRecipe) e10l e10c e10k
  have y10 := J10.binds (ps := ["self", "index"]) fun _ _ _ _ _ _ us hl => match us, hl with | [_, _], _ => rfl
  have w10 : KBn K _ ["self", "index"] 1 ["index"] (fun us ws => us ++ ws.reverse) (fun vs zs => vs ++ zs.reverse) := kbn_of J10 (fun kV doc pm an cdv ct us ws h1 h2 => match us, ws, h1, h2 with | [_], [_], _, _ => rfl)
  have x10 : ExcC K C10 := ⟨e10hg, e10hk, e10hs, e10hd, e10ha, hn, ht, e10hm⟩
  have v10 : OexC K C10 := ⟨⟨_, _, _, _, _, _, _, _, _, _, _, _, _, _, _, e10x, rfl⟩, e10sa, e10hs, e10ty, e10kC⟩
  let E10 : Ec K mg "NoRecipe" "NoRecipe.__init__" i_NoRecipe ["index"] := ⟨C10, g10, _, v10, e10i, e10t, PySem.W.mg_of X G e10m, J10, y10, w10, ⟨e10hg, e10hk, e10hs, e10hd⟩, x10, fun f hf => by rw [List.mem_singleton.mp hf]; exact e10n_index⟩
  have J11 := fun_mk (st := i_NoSplit) e11l e11c e11k
  have y11 := J11.binds (ps := ["self", "part"]) fun _ _ _ _ _ _ us hl => match us, hl with | [_, _], _ => rfl
  have w11 : KBn K _ ["self", "part"] 1 ["part"] (fun us ws => us ++ ws.reverse) (fun vs zs => vs ++ zs.reverse) := kbn_of J11 (fun kV doc pm an cdv ct us ws h1 h2 => match us, ws, h1, h2 with | [_], [_], _, _ => rfl)
  have x11 : ExcC K C11 := ⟨e11hg, e11hk, e11hs, e11hd, e11ha, hn, ht, e11hm⟩
  have v11 : OexC K C11 := ⟨⟨_, _, _, _, _, _, _, _, _, _, _, _, _, _, _, e11x, rfl⟩, e11sa, e11hs, e11ty, e11kC⟩
  let E11 : Ec K mg "NoSplit" "NoSplit.__init__" i_NoSplit ["part"] := ⟨C11, g11, _, v11, e11i, e11t, PySem.W.mg_of X G e11m, J11, y11, w11, ⟨e11hg, e11hk, e11hs, e11hd⟩, x11, fun f hf => by rw [List.mem_singleton.mp hf]; exact e11n_part⟩
  have J12 := fun_mk (st := i_NoText) e12l e12c e12k
  have y12 := J12.binds (ps := ["self", "row"]) fun _ _ _ _ _ _ us hl => match us, hl with | [_, _], _ => rfl
  have w12 : KBn K _ ["self", "row"] 1 ["row"] (fun us ws => us ++ ws.reverse) (fun vs zs => vs ++ zs.reverse) := kbn_of J12 (fun kV doc pm an cdv ct us ws h1 h2 => match us, ws, h1, h2 with | [_], [_], _, _ => rfl)
  have x12 : ExcC K C12 := ⟨e12hg, e12hk, e12hs, e12hd, e12ha, hn, ht, e12hm⟩
  have v12 : OexC K C12 := ⟨⟨_, _, _, _, _, _, _, _, _, _, _, _, _, _, _, e12x, rfl⟩, e12sa, e12hs, e12ty, e12kC⟩
  let E12 : Ec K mg "NoText" "NoText.__init__" i_NoText ["row"] := ⟨C12, g12, _, v12, e12i, e12t, PySem.W.mg_of X G e12m, J12, y12, w12, ⟨e12hg, e12hk, e12hs, e12hd⟩, x12, fun f hf => by rw [List.mem_singleton.mp hf]; exact e12n_row⟩
  have J13 := fun_mk (st := i_NoForm) e13l e13c e13k
  have y13 := J13.binds (ps := ["self", "index"]) fun _ _ _ _ _ _ us hl => match us, hl with | [_, _], _ => rfl
  have w13 : KBn K _ ["self", "index"] 1 ["index"] (fun us ws => us ++ ws.reverse) (fun vs zs => vs ++ zs.reverse) := kbn_of J13 (fun kV doc pm an cdv ct us ws h1 h2 => match us, ws, h1, h2 with | [_], [_], _, _ => rfl)
  have x13 : ExcC K C13 := ⟨e13hg, e13hk, e13hs, e13hd, e13ha, hn, ht, e13hm⟩
  have v13 : OexC K C13 := ⟨⟨_, _, _, _, _, _, _, _, _, _, _, _, _, _, _, e13x, rfl⟩, e13sa, e13hs, e13ty, e13kC⟩
  let E13 : Ec K mg "NoForm" "NoForm.__init__" i_NoForm ["index"] := ⟨C13, g13, _, v13, e13i, e13t, PySem.W.mg_of X G e13m, J13, y13, w13, ⟨e13hg, e13hk, e13hs, e13hd⟩, x13, fun f hf => by rw [List.mem_singleton.mp hf]; exact e13n_index⟩
  have J14 := fun_mk (st := i_NoState) e14l e14c e14k
  have y14 := J14.binds (ps := ["self", "index"]) fun _ _ _ _ _ _ us hl => match us, hl with | [_, _], _ => rfl
  have w14 : KBn K _ ["self", "index"] 1 ["index"] (fun us ws => us ++ ws.reverse) (fun vs zs => vs ++ zs.reverse) := kbn_of J14 (fun kV doc pm an cdv ct us ws h1 h2 => match us, ws, h1, h2 with | [_], [_], _, _ => rfl)
  have x14 : ExcC K C14 := ⟨e14hg, e14hk, e14hs, e14hd, e14ha, hn, ht, e14hm⟩
  have v14 : OexC K C14 := ⟨⟨_, _, _, _, _, _, _, _, _, _, _, _, _, _, _, e14x, rfl⟩, e14sa, e14hs, e14ty, e14kC⟩
  let E14 : Ec K mg "NoState" "NoState.__init__" i_NoState ["index"] := ⟨C14, g14, _, v14, e14i, e14t, PySem.W.mg_of X G e14m, J14, y14, w14, ⟨e14hg, e14hk, e14hs, e14hd⟩, x14, fun f hf => by rw [List.mem_singleton.mp hf]; exact e14n_index⟩
  have J15 := fun_mk (st := i_ManyUnknowns) e15l e15c e15k
  have y15 := J15.binds (ps := ["self", "number"]) fun _ _ _ _ _ _ us hl => match us, hl with | [_, _], _ => rfl
  have w15 : KBn K _ ["self", "number"] 1 ["number"] (fun us ws => us ++ ws.reverse) (fun vs zs => vs ++ zs.reverse) := kbn_of J15 (fun kV doc pm an cdv ct us ws h1 h2 => match us, ws, h1, h2 with | [_], [_], _, _ => rfl)
  have x15 : ExcC K C15 := ⟨e15hg, e15hk, e15hs, e15hd, e15ha, hn, ht, e15hm⟩
  have v15 : OexC K C15 := ⟨⟨_, _, _, _, _, _, _, _, _, _, _, _, _, _, _, e15x, rfl⟩, e15sa, e15hs, e15ty, e15kC⟩
  let E15 : Ec K mg "ManyUnknowns" "ManyUnknowns.__init__" i_ManyUnknowns ["number"] := ⟨C15, g15, _, v15, e15i, e15t, PySem.W.mg_of X G e15m, J15, y15, w15, ⟨e15hg, e15hk, e15hs, e15hd⟩, x15, fun f hf => by rw [List.mem_singleton.mp hf]; exact e15n_number⟩
  have J16 := fun_mk (st := i_NotOnce) e16l e16c e16k
  have y16 := J16.binds (ps := ["self", "name"]) fun _ _ _ _ _ _ us hl => match us, hl with | [_, _], _ => rfl
  have w16 : KBn K _ ["self", "name"] 1 ["name"] (fun us ws => us ++ ws.reverse) (fun vs zs => vs ++ zs.reverse) := kbn_of J16 (fun kV doc pm an cdv ct us ws h1 h2 => match us, ws, h1, h2 with | [_], [_], _, _ => rfl)
  have x16 : ExcC K C16 := ⟨e16hg, e16hk, e16hs, e16hd, e16ha, hn, ht, e16hm⟩
  have v16 : OexC K C16 := ⟨⟨_, _, _, _, _, _, _, _, _, _, _, _, _, _, _, e16x, rfl⟩, e16sa, e16hs, e16ty, e16kC⟩
  let E16 : Ec K mg "NotOnce" "NotOnce.__init__" i_NotOnce ["name"] := ⟨C16, g16, _, v16, e16i, e16t, PySem.W.mg_of X G e16m, J16, y16, w16, ⟨e16hg, e16hk, e16hs, e16hd⟩, x16, fun f hf => by rw [List.mem_singleton.mp hf]; exact e16n_name⟩
  have J17 := fun_mk (st := i_NoNumbers) e17l e17c e17k
  have y17 := J17.binds (ps := ["self", "index"]) fun _ _ _ _ _ _ us hl => match us, hl with | [_, _], _ => rfl
  have w17 : KBn K _ ["self", "index"] 1 ["index"] (fun us ws => us ++ ws.reverse) (fun vs zs => vs ++ zs.reverse) := kbn_of J17 (fun kV doc pm an cdv ct us ws h1 h2 => match us, ws, h1, h2 with | [_], [_], _, _ => rfl)
  have x17 : ExcC K C17 := ⟨e17hg, e17hk, e17hs, e17hd, e17ha, hn, ht, e17hm⟩
  have v17 : OexC K C17 := ⟨⟨_, _, _, _, _, _, _, _, _, _, _, _, _, _, _, e17x, rfl⟩, e17sa, e17hs, e17ty, e17kC⟩
  let E17 : Ec K mg "NoNumbers" "NoNumbers.__init__" i_NoNumbers ["index"] := ⟨C17, g17, _, v17, e17i, e17t, PySem.W.mg_of X G e17m, J17, y17, w17, ⟨e17hg, e17hk, e17hs, e17hd⟩, x17, fun f hf => by rw [List.mem_singleton.mp hf]; exact e17n_index⟩
  have J18 := fun_mk (st := i_NoPath) e18l e18c e18k
  have y18 := J18.binds (ps := ["self", "path"]) fun _ _ _ _ _ _ us hl => match us, hl with | [_, _], _ => rfl
  have w18 : KBn K _ ["self", "path"] 1 ["path"] (fun us ws => us ++ ws.reverse) (fun vs zs => vs ++ zs.reverse) := kbn_of J18 (fun kV doc pm an cdv ct us ws h1 h2 => match us, ws, h1, h2 with | [_], [_], _, _ => rfl)
  have x18 : ExcC K C18 := ⟨e18hg, e18hk, e18hs, e18hd, e18ha, hn, ht, e18hm⟩
  have v18 : OexC K C18 := ⟨⟨_, _, _, _, _, _, _, _, _, _, _, _, _, _, _, e18x, rfl⟩, e18sa, e18hs, e18ty, e18kC⟩
  let E18 : Ec K mg "NoPath" "NoPath.__init__" i_NoPath ["path"] := ⟨C18, g18, _, v18, e18i, e18t, PySem.W.mg_of X G e18m, J18, y18, w18, ⟨e18hg, e18hk, e18hs, e18hd⟩, x18, fun f hf => by rw [List.mem_singleton.mp hf]; exact e18n_path⟩
  have J19 := fun_mk (st := i_LargeTree) e19l e19c e19k
  have y19 := J19.binds (ps := ["self", "nodes"]) fun _ _ _ _ _ _ us hl => match us, hl with | [_, _], _ => rfl
  have w19 : KBn K _ ["self", "nodes"] 1 ["nodes"] (fun us ws => us ++ ws.reverse) (fun vs zs => vs ++ zs.reverse) := kbn_of J19 (fun kV doc pm an cdv ct us ws h1 h2 => match us, ws, h1, h2 with | [_], [_], _, _ => rfl)
  have x19 : ExcC K C19 := ⟨e19hg, e19hk, e19hs, e19hd, e19ha, hn, ht, e19hm⟩
  have v19 : OexC K C19 := ⟨⟨_, _, _, _, _, _, _, _, _, _, _, _, _, _, _, e19x, rfl⟩, e19sa, e19hs, e19ty, e19kC⟩
  let E19 : Ec K mg "LargeTree" "LargeTree.__init__" i_LargeTree ["nodes"] := ⟨C19, g19, _, v19, e19i, e19t, PySem.W.mg_of X G e19m, J19, y19, w19, ⟨e19hg, e19hk, e19hs, e19hd⟩, x19, fun f hf => by rw [List.mem_singleton.mp hf]; exact e19n_nodes⟩
  have J20 := fun_mk (st := i_NoRule) e20l e20c e20k
  have y20 := J20.binds (ps := ["self", "rule"]) fun _ _ _ _ _ _ us hl => match us, hl with | [_, _], _ => rfl
  have w20 : KBn K _ ["self", "rule"] 1 ["rule"] (fun us ws => us ++ ws.reverse) (fun vs zs => vs ++ zs.reverse) := kbn_of J20 (fun kV doc pm an cdv ct us ws h1 h2 => match us, ws, h1, h2 with | [_], [_], _, _ => rfl)
  have x20 : ExcC K C20 := ⟨e20hg, e20hk, e20hs, e20hd, e20ha, hn, ht, e20hm⟩
  have v20 : OexC K C20 := ⟨⟨_, _, _, _, _, _, _, _, _, _, _, _, _, _, _, e20x, rfl⟩, e20sa, e20hs, e20ty, e20kC⟩
  let E20 : Ec K mg "NoRule" "NoRule.__init__" i_NoRule ["rule"] := ⟨C20, g20, _, v20, e20i, e20t, PySem.W.mg_of X G e20m, J20, y20, w20, ⟨e20hg, e20hk, e20hs, e20hd⟩, x20, fun f hf => by rw [List.mem_singleton.mp hf]; exact e20n_rule⟩
  have J21 := fun_mk (st := i_NoCount) e21l e21c e21k
  have y21 := J21.binds (ps := ["self", "part"]) fun _ _ _ _ _ _ us hl => match us, hl with | [_, _], _ => rfl
  have w21 : KBn K _ ["self", "part"] 1 ["part"] (fun us ws => us ++ ws.reverse) (fun vs zs => vs ++ zs.reverse) := kbn_of J21 (fun kV doc pm an cdv ct us ws h1 h2 => match us, ws, h1, h2 with | [_], [_], _, _ => rfl)
  have x21 : ExcC K C21 := ⟨e21hg, e21hk, e21hs, e21hd, e21ha, hn, ht, e21hm⟩
  have v21 : OexC K C21 := ⟨⟨_, _, _, _, _, _, _, _, _, _, _, _, _, _, _, e21x, rfl⟩, e21sa, e21hs, e21ty, e21kC⟩
  let E21 : Ec K mg "NoCount" "NoCount.__init__" i_NoCount ["part"] := ⟨C21, g21, _, v21, e21i, e21t, PySem.W.mg_of X G e21m, J21, y21, w21, ⟨e21hg, e21hk, e21hs, e21hd⟩, x21, fun f hf => by rw [List.mem_singleton.mp hf]; exact e21n_part⟩
  let T : Txt K mg := { int := PySem.W.mg_none_of X G z0, len := PySem.W.mg_none_of X G z1, law_draw := D0, NoGrammar := E0, NoKind := E1, NoTree := E2, NotTop := E3, NoContext := E4, WrongKind := E5, NoCode := E6, NotOver := E7, NoPaper := E8, NoRows := E9, NoRecipe := E10, NoSplit := E11, NoText := E12, NoForm := E13, NoState := E14, ManyUnknowns := E15, NotOnce := E16, NoNumbers := E17, NoPath := E18, LargeTree := E19, NoRule := E20, NoCount := E21, A := A, N := N, mA := PySem.W.mg_of X G mA, mN := PySem.W.mg_of X G mN, kN := kN, exN := exN, ecN := ⟨nhg, nhk, nhs, nhd, nha, hn, ht, nhm⟩, isinstance := PySem.W.mg_none_of X G z2, range := PySem.W.mg_none_of X G z3, enumerate := PySem.W.mg_none_of X G z4, ve := PySem.W.mg_none_of X G z5 }
  have ecs : ∀ C ∈ T.cs, ExcC K C := by
    intro C hC
    have hC : C ∈ [C0, C1, C2, C3, C4, C5, C6, C7, C8, C9, C10, C11, C12, C13, C14, C15, C16, C17, C18, C19, C20, C21] := hC
    simp only [List.mem_cons, List.not_mem_nil, or_false] at hC
    rcases hC with rfl | rfl | rfl | rfl | rfl | rfl | rfl | rfl | rfl | rfl | rfl | rfl | rfl | rfl | rfl | rfl | rfl | rfl | rfl | rfl | rfl | rfl
    all_goals assumption
  have Kt : Kit T := kit_of T kit ecs
  let R : TR K mg := { toTxt := T, law_one := D1, law_taken := D2, law_by_place := D3, law_by_name := D4, law_fields := D5 }
  exact ⟨_, fun s v => .of_eq rfl, fun base _ _ => ok_law R Kt D6 D7⟩
end K04
open PySem PySem.W PyProof.Rows
set_option maxRecDepth 100000 in
set_option maxHeartbeats 0 in
theorem PySem.Challenge.cw_leastattr_k04_exceptions_holds : PySem.Challenge.rw_leastattr_k04_exceptions.Holds := by
  w_on; o_law; k_head; (case hw => w_witness2)
  k_fill
  refine L2.walk_of (l := PySem.Challenge.rw_leastattr_k04_exceptions) (n := 63) (k := 6) (x := "_law_script") (CX := fun _ => L2.CX0) (sp := fun w => K04.spLaw _) rfl (by decide) rfl ⟨rfl, by decide, by decide⟩ (fun w h Y => PySem.W.kIn_of Y) ?F (fun _ _ a ns hl _ hS => ⟨a, ns, rfl, hS, hl, fun _ => rfl⟩) (fun _ _ _ _ _ h => h)
  case F =>
    intro w mg fa h KX G hmg
    refine' K04.all_mk KX G hmg ?a0 ?l0 ?c0 ?k0 ?a1 ?l1 ?c1 ?k1 ?a2 ?l2 ?c2 ?k2 ?a3 ?l3 ?c3 ?k3 ?a4 ?l4 ?c4 ?k4 ?a5 ?l5 ?c5 ?k5 ?a6 ?l6 ?c6 ?k6 ?a7 ?l7 ?c7 ?k7 ?z0 ?z1 ?z2 ?z3 ?z4 ?z5 ?hn ?ht ?mA ?mN ?kN ?exN ?nhg ?nhk ?nhs ?nhd ?nha ?nhm ?e0m ?e0x ?e0sa ?e0ty ?e0kC ?e0hg ?e0hk ?e0hs ?e0hd ?e0ha ?e0hm ?e0i ?e0t ?e0l ?e0c ?e0k ?e0n_part ?e0n_index ?e1m ?e1x ?e1sa ?e1ty ?e1kC ?e1hg ?e1hk ?e1hs ?e1hd ?e1ha ?e1hm ?e1i ?e1t ?e1l ?e1c ?e1k ?e1n_kind ?e2m ?e2x ?e2sa ?e2ty ?e2kC ?e2hg ?e2hk ?e2hs ?e2hd ?e2ha ?e2hm ?e2i ?e2t ?e2l ?e2c ?e2k ?e2n_index ?e3m ?e3x ?e3sa ?e3ty ?e3kC ?e3hg ?e3hk ?e3hs ?e3hd ?e3ha ?e3hm ?e3i ?e3t ?e3l ?e3c ?e3k ?e3n_kind ?e4m ?e4x ?e4sa ?e4ty ?e4kC ?e4hg ?e4hk ?e4hs ?e4hd ?e4ha ?e4hm ?e4i ?e4t ?e4l ?e4c ?e4k ?e4n_index ?e5m ?e5x ?e5sa ?e5ty ?e5kC ?e5hg ?e5hk ?e5hs ?e5hd ?e5ha ?e5hm ?e5i ?e5t ?e5l ?e5c ?e5k ?e5n_kind ?e6m ?e6x ?e6sa ?e6ty ?e6kC ?e6hg ?e6hk ?e6hs ?e6hd ?e6ha ?e6hm ?e6i ?e6t ?e6l ?e6c ?e6k ?e6n_part ?e6n_index ?e7m ?e7x ?e7sa ?e7ty ?e7kC ?e7hg ?e7hk ?e7hs ?e7hd ?e7ha ?e7hm ?e7i ?e7t ?e7l ?e7c ?e7k ?e7n_rule ?e8m ?e8x ?e8sa ?e8ty ?e8kC ?e8hg ?e8hk ?e8hs ?e8hd ?e8ha ?e8hm ?e8i ?e8t ?e8l ?e8c ?e8k ?e8n_part ?e8n_index ?e9m ?e9x ?e9sa ?e9ty ?e9kC ?e9hg ?e9hk ?e9hs ?e9hd ?e9ha ?e9hm ?e9i ?e9t ?e9l ?e9c ?e9k ?e9n_part ?e9n_index ?e10m ?e10x ?e10sa ?e10ty ?e10kC ?e10hg ?e10hk ?e10hs ?e10hd ?e10ha ?e10hm ?e10i ?e10t ?e10l ?e10c ?e10k ?e10n_index ?e11m ?e11x ?e11sa ?e11ty ?e11kC ?e11hg ?e11hk ?e11hs ?e11hd ?e11ha ?e11hm ?e11i ?e11t ?e11l ?e11c ?e11k ?e11n_part ?e12m ?e12x ?e12sa ?e12ty ?e12kC ?e12hg ?e12hk ?e12hs ?e12hd ?e12ha ?e12hm ?e12i ?e12t ?e12l ?e12c ?e12k ?e12n_row ?e13m ?e13x ?e13sa ?e13ty ?e13kC ?e13hg ?e13hk ?e13hs ?e13hd ?e13ha ?e13hm ?e13i ?e13t ?e13l ?e13c ?e13k ?e13n_index ?e14m ?e14x ?e14sa ?e14ty ?e14kC ?e14hg ?e14hk ?e14hs ?e14hd ?e14ha ?e14hm ?e14i ?e14t ?e14l ?e14c ?e14k ?e14n_index ?e15m ?e15x ?e15sa ?e15ty ?e15kC ?e15hg ?e15hk ?e15hs ?e15hd ?e15ha ?e15hm ?e15i ?e15t ?e15l ?e15c ?e15k ?e15n_number ?e16m ?e16x ?e16sa ?e16ty ?e16kC ?e16hg ?e16hk ?e16hs ?e16hd ?e16ha ?e16hm ?e16i ?e16t ?e16l ?e16c ?e16k ?e16n_name ?e17m ?e17x ?e17sa ?e17ty ?e17kC ?e17hg ?e17hk ?e17hs ?e17hd ?e17ha ?e17hm ?e17i ?e17t ?e17l ?e17c ?e17k ?e17n_index ?e18m ?e18x ?e18sa ?e18ty ?e18kC ?e18hg ?e18hk ?e18hs ?e18hd ?e18ha ?e18hm ?e18i ?e18t ?e18l ?e18c ?e18k ?e18n_path ?e19m ?e19x ?e19sa ?e19ty ?e19kC ?e19hg ?e19hk ?e19hs ?e19hd ?e19ha ?e19hm ?e19i ?e19t ?e19l ?e19c ?e19k ?e19n_nodes ?e20m ?e20x ?e20sa ?e20ty ?e20kC ?e20hg ?e20hk ?e20hs ?e20hd ?e20ha ?e20hm ?e20i ?e20t ?e20l ?e20c ?e20k ?e20n_rule ?e21m ?e21x ?e21sa ?e21ty ?e21kC ?e21hg ?e21hk ?e21hs ?e21hd ?e21ha ?e21hm ?e21i ?e21t ?e21l ?e21c ?e21k ?e21n_part ?kit
    (case a0 => k_is)
    (case l0 => k_is)
    (case c0 => k_is)
    (case k0 => k_is)
    (case a1 => k_is)
    (case l1 => k_is)
    (case c1 => k_is)
    (case k1 => k_is)
    (case a2 => k_is)
    (case l2 => k_is)
    (case c2 => k_is)
    (case k2 => k_is)
    (case a3 => k_is)
    (case l3 => k_is)
    (case c3 => k_is)
    (case k3 => k_is)
    (case a4 => k_is)
    (case l4 => k_is)
    (case c4 => k_is)
    (case k4 => k_is)
    (case a5 => k_is)
    (case l5 => k_is)
    (case c5 => k_is)
    (case k5 => k_is)
    (case a6 => k_is)
    (case l6 => k_is)
    (case c6 => k_is)
    (case k6 => k_is)
    (case a7 => k_is)
    (case l7 => k_is)
    (case c7 => k_is)
    (case k7 => k_is)
    (case z0 => k_is)
    (case z1 => k_is)
    (case z2 => k_is)
    (case z3 => k_is)
    (case z4 => k_is)
    (case z5 => k_is)
    (case hn => k_is)
    (case ht => k_is)
    (case mA => k_is)
    (case mN => k_is)
    (case kN => k_is)
    (case exN => k_exc)
    (case nhg => k_is)
    (case nhk => k_is)
    (case nhs => k_is)
    (case nhd => k_is)
    (case nha => k_is)
    (case nhm => k_is)
    (case e0m => k_is)
    (case e0x => k_is)
    (case e0sa => k_is)
    (case e0ty => k_is)
    (case e0kC => k_is)
    (case e0hg => k_is)
    (case e0hk => k_is)
    (case e0hs => k_is)
    (case e0hd => k_is)
    (case e0ha => k_is)
    (case e0hm => k_is)
    (case e0i => k_is)
    (case e0t => k_is)
    (case e0l => k_is)
    (case e0c => k_is)
    (case e0k => k_is)
    (case e0n_part => k_is)
    (case e0n_index => k_is)
    (case e1m => k_is)
    (case e1x => k_is)
    (case e1sa => k_is)
    (case e1ty => k_is)
    (case e1kC => k_is)
    (case e1hg => k_is)
    (case e1hk => k_is)
    (case e1hs => k_is)
    (case e1hd => k_is)
    (case e1ha => k_is)
    (case e1hm => k_is)
    (case e1i => k_is)
    (case e1t => k_is)
    (case e1l => k_is)
    (case e1c => k_is)
    (case e1k => k_is)
    (case e1n_kind => k_is)
    (case e2m => k_is)
    (case e2x => k_is)
    (case e2sa => k_is)
    (case e2ty => k_is)
    (case e2kC => k_is)
    (case e2hg => k_is)
    (case e2hk => k_is)
    (case e2hs => k_is)
    (case e2hd => k_is)
    (case e2ha => k_is)
    (case e2hm => k_is)
    (case e2i => k_is)
    (case e2t => k_is)
    (case e2l => k_is)
    (case e2c => k_is)
    (case e2k => k_is)
    (case e2n_index => k_is)
    (case e3m => k_is)
    (case e3x => k_is)
    (case e3sa => k_is)
    (case e3ty => k_is)
    (case e3kC => k_is)
    (case e3hg => k_is)
    (case e3hk => k_is)
    (case e3hs => k_is)
    (case e3hd => k_is)
    (case e3ha => k_is)
    (case e3hm => k_is)
    (case e3i => k_is)
    (case e3t => k_is)
    (case e3l => k_is)
    (case e3c => k_is)
    (case e3k => k_is)
    (case e3n_kind => k_is)
    (case e4m => k_is)
    (case e4x => k_is)
    (case e4sa => k_is)
    (case e4ty => k_is)
    (case e4kC => k_is)
    (case e4hg => k_is)
    (case e4hk => k_is)
    (case e4hs => k_is)
    (case e4hd => k_is)
    (case e4ha => k_is)
    (case e4hm => k_is)
    (case e4i => k_is)
    (case e4t => k_is)
    (case e4l => k_is)
    (case e4c => k_is)
    (case e4k => k_is)
    (case e4n_index => k_is)
    (case e5m => k_is)
    (case e5x => k_is)
    (case e5sa => k_is)
    (case e5ty => k_is)
    (case e5kC => k_is)
    (case e5hg => k_is)
    (case e5hk => k_is)
    (case e5hs => k_is)
    (case e5hd => k_is)
    (case e5ha => k_is)
    (case e5hm => k_is)
    (case e5i => k_is)
    (case e5t => k_is)
    (case e5l => k_is)
    (case e5c => k_is)
    (case e5k => k_is)
    (case e5n_kind => k_is)
    (case e6m => k_is)
    (case e6x => k_is)
    (case e6sa => k_is)
    (case e6ty => k_is)
    (case e6kC => k_is)
    (case e6hg => k_is)
    (case e6hk => k_is)
    (case e6hs => k_is)
    (case e6hd => k_is)
    (case e6ha => k_is)
    (case e6hm => k_is)
    (case e6i => k_is)
    (case e6t => k_is)
    (case e6l => k_is)
    (case e6c => k_is)
    (case e6k => k_is)
    (case e6n_part => k_is)
    (case e6n_index => k_is)
    (case e7m => k_is)
    (case e7x => k_is)
    (case e7sa => k_is)
    (case e7ty => k_is)
    (case e7kC => k_is)
    (case e7hg => k_is)
    (case e7hk => k_is)
    (case e7hs => k_is)
    (case e7hd => k_is)
    (case e7ha => k_is)
    (case e7hm => k_is)
    (case e7i => k_is)
    (case e7t => k_is)
    (case e7l => k_is)
    (case e7c => k_is)
    (case e7k => k_is)
    (case e7n_rule => k_is)
    (case e8m => k_is)
    (case e8x => k_is)
    (case e8sa => k_is)
    (case e8ty => k_is)
    (case e8kC => k_is)
    (case e8hg => k_is)
    (case e8hk => k_is)
    (case e8hs => k_is)
    (case e8hd => k_is)
    (case e8ha => k_is)
    (case e8hm => k_is)
    (case e8i => k_is)
    (case e8t => k_is)
    (case e8l => k_is)
    (case e8c => k_is)
    (case e8k => k_is)
    (case e8n_part => k_is)
    (case e8n_index => k_is)
    (case e9m => k_is)
    (case e9x => k_is)
    (case e9sa => k_is)
    (case e9ty => k_is)
    (case e9kC => k_is)
    (case e9hg => k_is)
    (case e9hk => k_is)
    (case e9hs => k_is)
    (case e9hd => k_is)
    (case e9ha => k_is)
    (case e9hm => k_is)
    (case e9i => k_is)
    (case e9t => k_is)
    (case e9l => k_is)
    (case e9c => k_is)
    (case e9k => k_is)
    (case e9n_part => k_is)
    (case e9n_index => k_is)
    (case e10m => k_is)
    (case e10x => k_is)
    (case e10sa => k_is)
    (case e10ty => k_is)
    (case e10kC => k_is)
    (case e10hg => k_is)
    (case e10hk => k_is)
    (case e10hs => k_is)
    (case e10hd => k_is)
    (case e10ha => k_is)
    (case e10hm => k_is)
    (case e10i => k_is)
    (case e10t => k_is)
    (case e10l => k_is)
    (case e10c => k_is)
    (case e10k => k_is)
    (case e10n_index => k_is)
    (case e11m => k_is)
    (case e11x => k_is)
    (case e11sa => k_is)
    (case e11ty => k_is)
    (case e11kC => k_is)
    (case e11hg => k_is)
    (case e11hk => k_is)
    (case e11hs => k_is)
    (case e11hd => k_is)
    (case e11ha => k_is)
    (case e11hm => k_is)
    (case e11i => k_is)
    (case e11t => k_is)
    (case e11l => k_is)
    (case e11c => k_is)
    (case e11k => k_is)
    (case e11n_part => k_is)
    (case e12m => k_is)
    (case e12x => k_is)
    (case e12sa => k_is)
    (case e12ty => k_is)
    (case e12kC => k_is)
    (case e12hg => k_is)
    (case e12hk => k_is)
    (case e12hs => k_is)
    (case e12hd => k_is)
    (case e12ha => k_is)
    (case e12hm => k_is)
    (case e12i => k_is)
    (case e12t => k_is)
    (case e12l => k_is)
    (case e12c => k_is)
    (case e12k => k_is)
    (case e12n_row => k_is)
    (case e13m => k_is)
    (case e13x => k_is)
    (case e13sa => k_is)
    (case e13ty => k_is)
    (case e13kC => k_is)
    (case e13hg => k_is)
    (case e13hk => k_is)
    (case e13hs => k_is)
    (case e13hd => k_is)
    (case e13ha => k_is)
    (case e13hm => k_is)
    (case e13i => k_is)
    (case e13t => k_is)
    (case e13l => k_is)
    (case e13c => k_is)
    (case e13k => k_is)
    (case e13n_index => k_is)
    (case e14m => k_is)
    (case e14x => k_is)
    (case e14sa => k_is)
    (case e14ty => k_is)
    (case e14kC => k_is)
    (case e14hg => k_is)
    (case e14hk => k_is)
    (case e14hs => k_is)
    (case e14hd => k_is)
    (case e14ha => k_is)
    (case e14hm => k_is)
    (case e14i => k_is)
    (case e14t => k_is)
    (case e14l => k_is)
    (case e14c => k_is)
    (case e14k => k_is)
    (case e14n_index => k_is)
    (case e15m => k_is)
    (case e15x => k_is)
    (case e15sa => k_is)
    (case e15ty => k_is)
    (case e15kC => k_is)
    (case e15hg => k_is)
    (case e15hk => k_is)
    (case e15hs => k_is)
    (case e15hd => k_is)
    (case e15ha => k_is)
    (case e15hm => k_is)
    (case e15i => k_is)
    (case e15t => k_is)
    (case e15l => k_is)
    (case e15c => k_is)
    (case e15k => k_is)
    (case e15n_number => k_is)
    (case e16m => k_is)
    (case e16x => k_is)
    (case e16sa => k_is)
    (case e16ty => k_is)
    (case e16kC => k_is)
    (case e16hg => k_is)
    (case e16hk => k_is)
    (case e16hs => k_is)
    (case e16hd => k_is)
    (case e16ha => k_is)
    (case e16hm => k_is)
    (case e16i => k_is)
    (case e16t => k_is)
    (case e16l => k_is)
    (case e16c => k_is)
    (case e16k => k_is)
    (case e16n_name => k_is)
    (case e17m => k_is)
    (case e17x => k_is)
    (case e17sa => k_is)
    (case e17ty => k_is)
    (case e17kC => k_is)
    (case e17hg => k_is)
    (case e17hk => k_is)
    (case e17hs => k_is)
    (case e17hd => k_is)
    (case e17ha => k_is)
    (case e17hm => k_is)
    (case e17i => k_is)
    (case e17t => k_is)
    (case e17l => k_is)
    (case e17c => k_is)
    (case e17k => k_is)
    (case e17n_index => k_is)
    (case e18m => k_is)
    (case e18x => k_is)
    (case e18sa => k_is)
    (case e18ty => k_is)
    (case e18kC => k_is)
    (case e18hg => k_is)
    (case e18hk => k_is)
    (case e18hs => k_is)
    (case e18hd => k_is)
    (case e18ha => k_is)
    (case e18hm => k_is)
    (case e18i => k_is)
    (case e18t => k_is)
    (case e18l => k_is)
    (case e18c => k_is)
    (case e18k => k_is)
    (case e18n_path => k_is)
    (case e19m => k_is)
    (case e19x => k_is)
    (case e19sa => k_is)
    (case e19ty => k_is)
    (case e19kC => k_is)
    (case e19hg => k_is)
    (case e19hk => k_is)
    (case e19hs => k_is)
    (case e19hd => k_is)
    (case e19ha => k_is)
    (case e19hm => k_is)
    (case e19i => k_is)
    (case e19t => k_is)
    (case e19l => k_is)
    (case e19c => k_is)
    (case e19k => k_is)
    (case e19n_nodes => k_is)
    (case e20m => k_is)
    (case e20x => k_is)
    (case e20sa => k_is)
    (case e20ty => k_is)
    (case e20kC => k_is)
    (case e20hg => k_is)
    (case e20hk => k_is)
    (case e20hs => k_is)
    (case e20hd => k_is)
    (case e20ha => k_is)
    (case e20hm => k_is)
    (case e20i => k_is)
    (case e20t => k_is)
    (case e20l => k_is)
    (case e20c => k_is)
    (case e20k => k_is)
    (case e20n_rule => k_is)
    (case e21m => k_is)
    (case e21x => k_is)
    (case e21sa => k_is)
    (case e21ty => k_is)
    (case e21kC => k_is)
    (case e21hg => k_is)
    (case e21hk => k_is)
    (case e21hs => k_is)
    (case e21hd => k_is)
    (case e21ha => k_is)
    (case e21hm => k_is)
    (case e21i => k_is)
    (case e21t => k_is)
    (case e21l => k_is)
    (case e21c => k_is)
    (case e21k => k_is)
    (case e21n_part => k_is)
    (case kit => kernel_rfl)
