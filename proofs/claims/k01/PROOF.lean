import PyProof.Rows.All
import Wide.All
import OpenK.AllK
import Wide.FinOn
import HandS.ForMost
import HandS.ExcInit
import HandS.Evl
import HandS.Wide
import KE.KExcIs
import HandS.ExcIs
import HandS.IsInst
import HandS.Defaults
import HandS.ExcOwn
import HandS.ExcValue
import PySem.Challenge.RW_flagfree_k01_errors_and_their_fields
set_option Elab.async false
set_option linter.all false
set_option maxRecDepth 100000
set_option maxHeartbeats 4000000
/-! An own exception class called with keywords too: type.__call__, the base's __new__, the own __init__ -/
namespace PySem
namespace KUx
open Builtin Builtin.ObjectAttr HandSPX
section
variable {M : Model} {A : Around} {E : Value → Shared → Prop} {hh : Heap} {gg : Array GenState} {dw : Drawn} {tt : Nat} {os : OsState}
variable {nm q : Str} {C N : Addr} {bs bm bmB : List Value} {hdct : Bool} {sn : List Str} {sub : List Value} {ab : Bool} {col : Option Bool} {dd : Option Addr} {k0 k1 k2 k3 k5 : Option Value} {B newId initId : String}
theorem kw_check_new (F : ExcBaseFacts B newId initId bmB) (hT : ∀ X : String, bm.contains (.type X) = bmB.contains (.type X)) {pos : List Value} {kw : List (Str × Value)}
    {Q : Unit → Shared → Prop} (hC : hh.get? C = some (excClassObj nm q C N bs bm hdct sn sub ab col dd k0 k1 k2 k3 k5 newId))
    (done : Q () ⟨hh, gg, dw, tt, os⟩) : wpAny M A (checkBuiltinCall newId ⟨.ref C :: pos, kw⟩) Q E ⟨hh, gg, dw, tt, os⟩ := by
  have inB : (Value.ref C :: bm).contains (.type B) = true := by
    rw [List.contains_cons, hT, F.hasB]
    exact Bool.or_true _
  have star := F.noStar
  simp only [checkBuiltinCall, F.newRow, F.newKind, F.newSplit]
  repeat (first
    | refine wpAny_loadPart_at hC ?_
    | (refine wpAny_isSubtype_exc hC ?_
       rw [inB])
    | refine wpAny_staticBase_exc hC ?_
    | refine wpAny_madeBy_exc hC ?_
    | simp only [if_false, Bool.false_eq_true, bne_self_eq_false]
    | wp_step)
  exact done
end
section
variable {prog : Program} {w : World} {A : Around} {E : Value → Shared → Prop} {R : Result → Shared → Prop} {hh : Heap} {gg : Array GenState} {dw : Drawn} {tt : Nat} {os : OsState}
variable {nm q : Str} {C N : Addr} {bs bm bmB : List Value} {hdct : Bool} {sn : List Str} {sub : List Value} {ab : Bool} {col : Option Bool} {dd : Option Addr} {k0 k1 k2 k3 k5 : Option Value} {B newId initId : String}
theorem kw_new (F : ExcBaseFacts B newId initId bmB) (hT : ∀ X : String, bm.contains (.type X) = bmB.contains (.type X)) {pos : List Value} {kw : List (Str × Value)}
    (hC : hh.get? C = some (excClassObj nm q C N bs bm hdct sn sub ab col dd k0 k1 k2 k3 k5 newId))
    (done : R (.ok (.ret (.ref (hh.objs.size + 1)))) ⟨(hh.push (W.kdv_tup pos)).push (excO C hh.objs.size), gg, dw, tt, os⟩)
    (small : pos.length ≤ sizeLine) : codeAny (model prog w) A (.builtin newId ⟨.ref C :: pos, kw⟩) R ⟨hh, gg, dw, tt, os⟩ := by
  have ends := F.ends
  have inB : (Value.ref C :: bm).contains (.type B) = true := by
    rw [List.contains_cons, hT, F.hasB]
    exact Bool.or_true _
  have noA : (Value.ref C :: bm).contains (.type "AttributeError") = false := by
    rw [List.contains_cons, hT, F.noAttr]
    rfl
  have noN : (Value.ref C :: bm).contains (.type "NameError") = false := by
    rw [List.contains_cons, hT, F.noName]
    rfl
  refine codeAny_builtinAt F.entry ?_
  unfold Builtin.«BaseException.__new__»
  refine wpAt_bind ?_
  show wpAt _ _ _ (stack >>= _) _ _ _
  refine wpAt_bind (wpAt_stack fun p below => wpAt_of_wpAny ?_)
  wp_walk
  refine wpAt_of_wpAny ?_
  rw [F.owner]
  repeat (first
    | with_reducible refine wpAny_madeHere_exc F.canon hC ?_
    | with_reducible refine wpAny_loadPart_at hC ?_
    | (with_reducible refine wpAny_isSubtype_exc hC ?_
       first | rw [inB] | rw [noA] | rw [noN])
    | wp_step)
  show R _ _
  rw [Heap.size_push]
  exact done

theorem kw_type_call (F : ExcBaseFacts B newId initId bmB) (hT : ∀ X : String, bm.contains (.type X) = bmB.contains (.type X)) {pos : List Value} {kw : List (Str × Value)} {fI : Addr}
    {Q : Fin → Shared → Prop} (hC : hh.get? C = some (excClassObj nm q C N bs bm hdct sn sub ab col dd k0 k1 k2 k3 k5 newId))
    (hi : W.Looks (model prog w) hh (typeLookup (.ref C) "__init__") (some (.ref fI)))
    (hb : ∀ self, W.Looks (model prog w) hh (bindSpecial (.ref fI) self) (.ref fI, [self])) (small : pos.length ≤ sizeLine)
    (run : codeAny (model prog w) A (.call (.ref fI) ⟨.ref (hh.objs.size + 1) :: pos, kw⟩)
      (fun r s' => match r with
        | .ok (.ret v) => v = .none ∧ Q (.done (.ret (.ref (hh.objs.size + 1)))) s'
        | .ok _ => False
        | .error e => E e s')
      ⟨(hh.push (W.kdv_tup pos)).push (excO C hh.objs.size), gg, dw, tt, os⟩) :
    wpAny (model prog w) A (Builtin.«type.__call__» ⟨.ref C :: pos, kw⟩) Q E ⟨hh, gg, dw, tt, os⟩ := by
  repeat (first
    | with_reducible refine wpAny_loadPart_at hC ?_
    | with_reducible refine wpAny_madeBy_exc hC ?_
    | wp_step)
  refine codeAny_call_builtin_code (Code.quiet_builtin _ F.quiet) (kw_check_new F hT hC ?_)
  refine kw_new F hT hC ?_ small
  show wpAny _ _ _ _ _ _
  have keep : ∀ b o, hh.get? b = some o → ((hh.push (W.kdv_tup pos)).push (excO C hh.objs.size)).get? b = some o := fun b o e =>
    Heap.get?_push_of_some _ (Heap.get?_push_of_some _ e)
  have hC1 := keep _ _ hC
  have here : ((hh.push (W.kdv_tup pos)).push (excO C hh.objs.size)).get? (hh.objs.size + 1) = some (excO C hh.objs.size) := by heap_get
  have inC : (Value.ref C :: bm).contains (.ref C) = true := by simp
  have i1 := hi.keeps keep
  have b1 := (hb (.ref (hh.objs.size + 1))).keeps keep
  unfold isInstance
  repeat (first
    | with_reducible refine wpAny_loadPart_at here ?_
    | (with_reducible refine wpAny_isSubtype_exc hC1 ?_
       rw [inC])
    | wp_step)
  show wpAny _ _ (typeLookup (.ref C) _) _ _ _
  refine i1.at ?_
  refine wpAny_holding (wpAny_bind (b1.at ?_))
  refine wpAny_bind (wpAny_call (codeAny_mono run fun r s' z => ?_))
  cases r with
  | error e => exact z
  | ok fl =>
    cases fl with
    | ret v =>
      obtain ⟨rfl, z⟩ := z
      first
        | exact wpAny_pure (wpAny_pure z)
        | (wp_walk
           exact z)
        | wp_walk
    | next => exact z.elim
    | brk => exact z.elim
    | cont => exact z.elim

/-- C(e, .., k = v, ..) of an own exception class with its own __init__ at fI -/
theorem kw_call (F : ExcBaseFacts B newId initId bmB) (hT : ∀ X : String, bm.contains (.type X) = bmB.contains (.type X)) {pos : List Value} {kw : List (Str × Value)} {fI : Addr}
    (hC : hh.get? C = some (excClassObj nm q C N bs bm hdct sn sub ab col dd k0 k1 k2 k3 k5 newId))
    (hi : W.Looks (model prog w) hh (typeLookup (.ref C) "__init__") (some (.ref fI)))
    (hb : ∀ self, W.Looks (model prog w) hh (bindSpecial (.ref fI) self) (.ref fI, [self])) (small : pos.length ≤ sizeLine)
    (run : codeAny (model prog w) (A.under (.builtin "type.__call__" ⟨.ref C :: pos, kw⟩)) (.call (.ref fI) ⟨.ref (hh.objs.size + 1) :: pos, kw⟩)
      (W.InitBack (hh.objs.size + 1) R) ⟨(hh.push (W.kdv_tup pos)).push (excO C hh.objs.size), gg, dw, tt, os⟩) :
    codeAny (model prog w) A (.call (.ref C) ⟨pos, kw⟩) R ⟨hh, gg, dw, tt, os⟩ := by
  have f1 := tc_lookup
  have f2 := tc_bind (.ref C)
  have hTy : (⟨hh, gg, dw, tt, os⟩ : Shared).TypeIs (.ref C) "type" := ⟨_, hC, rfl⟩
  refine codeAny_of_tree ?_
  show wpAny _ _ (callAny (.ref C) _) _ _ _
  repeat (any_goals (first
    | assumption
    | with_reducible refine wpAny_loadPart_at hC ?_
    | wp_step))
  refine ⟨rfl, ?_⟩
  refine codeAny_call_builtin_at (Code.quiet_builtin _ (by decide +kernel)) entry_typeCall (wpAny_check_type_call_sub hC (kw_type_call F hT hC hi hb small ?_))
  refine codeAny_mono run fun r s' z => ?_
  rcases r with e | (v | _ | _ | _) <;> exact z
end
end KUx
end PySem

set_option Elab.async false
set_option linter.all false
set_option maxRecDepth 100000
set_option maxHeartbeats 4000000
/-! Own rules over the hand layer: defs that know that no repr is under way, own errors as values, repr of data -/
namespace KU
open PySem PySem.Spec PyProof.Rows L2

/-! ### a def entered where no repr is under way -/
structure FnG (P : Program) (w : World) (K : PySem.W.Frag) (mg : Str → Option Value) (base : Heap) (CX : CXT) (k : Nat) (f : Addr) (fd : FuncData) (ps : List Str) (sp : Sp) : Prop where
  many : ∀ vs H Q E, sp vs H Q E → vs.length = ps.length
  goes : ∀ (A : Around) (out : List Env) (s : Shared) (H : Hp) (args : Args) (us : List Value) (vs : List V) (Q : VK) (E : XK), A.guards = some [] → Room k A →
    Env0 P w K mg base A out s H → BindsTo s fd args (ps.zip us) → Vals vs us → sp vs H Q E → codeAny (model P w) A (.call (.ref f) args) (CR CX out P w H s Q E) s
theorem FnG.of {P : Program} {w : World} {K : PySem.W.Frag} {mg : Str → Option Value} {base : Heap} {CX : CXT} {k : Nat} {f : Addr} {fd : FuncData} {ps : List Str} {sp : Sp}
    (F : FnOk P w K mg base CX k f fd ps sp) : FnG P w K mg base CX k f fd ps sp := ⟨F.len, fun A out s H args us vs Q E _ => F.run A out s H args us vs Q E⟩

/-- a def of the text by its body, where no repr is under way -/
theorem FnG.body {P : Program} {w : World} {K : PySem.W.Frag} {mg : Str → Option Value} {base : Heap} {x qual : Str} {st : Stmt} {f : Addr} {fd : FuncData} {N ps : List Str} {k : Nat} {sp : Sp}
    (F : Fun K x qual st f fd) (S : FnScope N ps (defScope st)) (many : ∀ vs H Q E, sp vs H Q E → vs.length = ps.length)
    (walk : ∀ (cdv : Value) (A : Around) (out : List Env) (s : Shared) (H : Hp) (vs : List V) (Q : VK) (E : XK), A.guards = some [] → Room k (A.deeper (envOfC qual (defScope st) s.heap.objs.size f cdv)) → sp vs H Q E →
      ∃ t, PSs (cxOf CX0 P w K mg base N qual (defScope st) f cdv A out s H E).nox (defBody st) t ∧ t { nx := fun _ H' => Q .non H', rt := Q } (start N vs) H) :
    FnG P w K mg base CX0 (k + 1) f fd ps sp := by
  refine ⟨many, fun A out s H args us vs Q E hg hr e0 hb r hsp => ?_⟩
  obtain ⟨oc, od, kV, doc, pm, an, cdv, ct, osl, rfl, lk, hcd⟩ := F.ex
  let sp1 : Sp := fun vs1 H1 Q1 E1 => vs1 = vs ∧ H1 = H ∧ Q1 = Q ∧ E1 = E
  have hl := many _ _ _ _ hsp
  have KX : K.In s.heap := e0.mod.kin.keeps fun b o e => (e0.bs b o e).1
  have lim : s.heap.NoLimit := e0.mod.nolimit.keeps fun b o e => (e0.bs b o e).1
  have kinds : ∀ y ∈ ps.zip us, (defScope st).names.lookup y.1 = some .local ∨ ((defScope st).names.lookup y.1 = some .cell ∧ ((cellsFrom (s.heap.objs.size + 1) (defScope st).names []).lookup y.1).isSome = true) := by
    intro ⟨n, v⟩ hy
    rcases S.par n (List.of_mem_zip hy).1 with q | q
    · exact .inl q
    · exact .inr ⟨q, PySem.W.cellsFrom_some _ _ _ (.inl q)⟩
  refine codeAny_call_function hr.depth (KX _ _ lk) rfl S.co S.gen rfl (PySem.W.codeRec_of KX hcd) (hb _ _ _ _ ?_)
  refine wpAny_newFunctionEnv_cells S.kind kinds fun env he s1 x => ?_
  subst he
  refine ⟨lim.keeps x.toInCall.keep, codeAny_func ?_⟩
  obtain ⟨t, ht, hq⟩ := walk cdv A out s H vs Q E hg (hr.deeper _) hsp
  have I : Inv (cxOf CX0 P w K mg base N qual (defScope st) f cdv A out s H E) [] (start N vs) H s1 := inv_start S hr.hd e0 hl r x
  refine wpAny_mono (ht.nox.run [] s1 (start N vs) H _ I hq) (fun fl s' hs => ?_) fun e s' hs => hs
  have last : ∀ {σ' : L2.St} {H' : Hp} {v : V} {u : Value}, Inv (cxOf CX0 P w K mg base N qual (defScope st) f cdv A out s H E) [] σ' H' s' → RelV v u → Q v H' → CE out P w H s Q u s' := by
    intro σ' H' v u J rv q
    exact ⟨v, H', J.os, J.bare, J.base, J.hok, rv, q⟩
  cases fl with
  | next =>
    obtain ⟨σ', H', J, q⟩ := hs
    exact last (v := V.non) (u := Value.none) J rfl q
  | ret u =>
    obtain ⟨v, σ', H', J, rv, q⟩ := hs
    exact last J rv q
  | brk =>
    obtain ⟨_, _, _, q⟩ := hs
    exact q.elim
  | cont =>
    obtain ⟨_, _, _, q⟩ := hs
    exact q.elim
/-! ### own errors as values -/
/-- an own error at e: of the class at C, its fields fs (none of them: it has no dict) -/
def ErrAt (H : Hp) (e C : Addr) (fs : List (Str × V)) : Prop := (∃ d, H e = some (exo e C (some d)) ∧ H d = some (exd d fs)) ∨ (fs = [] ∧ H e = some (exo e C none))
theorem ErrAt.mono {H H' : Hp} {e C : Addr} {fs : List (Str × V)} (x : Evl.Ex H H') (h : ErrAt H e C fs) : ErrAt H' e C fs := by
  rcases h with ⟨d, h1, h2⟩ | ⟨h1, h2⟩
  · exact .inl ⟨d, x _ _ h1, x _ _ h2⟩
  · exact .inr ⟨h1, x _ _ h2⟩
section
variable {X : Cx} {C fI : Addr} {k : Nat} {fd : FuncData} {ps : List Str} {sp : Sp}
/-- the class is called: positional values us, keywords kw, bound to all -/
theorem run_err {pins : List (Addr × Obj)} {σ : L2.St} {H : Hp} {s : Shared} {Q : VK} {us all : List Value} {kw : List (Str × Value)} {vs : List V}
    (T : OexC X.K C) (iC : PySem.W.findIn X.K (.ref C) "__init__" = some (some (.ref fI))) (tI : PySem.W.typeIn X.K (.ref fI) = some (.type "function"))
    (F1 : FnOk X.prog X.w X.K X.mg X.base CX0 k fI fd ps sp) (hr : Room (k + 1) X.A) (I : Inv X pins σ H s) (r : Vals vs all) (small : us.length ≤ 1000)
    (hb : ∀ (s' : Shared) (a : Addr), X.K.In s'.heap → BindsTo s' fd ⟨.ref a :: us, kw⟩ (ps.zip (.ref a :: all)))
    (hq : ∀ a, H a = none → sp (.ref a :: vs) (upd H a (exo a C none)) (fun v H2 => v = .non ∧ Q (.ref a) H2) fun _ _ _ => False) :
    wpAny (model X.prog X.w) X.A (call (.ref C) us kw) (EP X pins σ Q) X.xe s := by
  obtain ⟨nm, q, N, bs, bm, sn, sub, ab, col, dd, k0, k1, k2, k3, k5, hC, hbm⟩ := T.cls
  obtain ⟨hp, g, dr, tk, os⟩ := s
  have above : hp.objs.size ≤ hp.objs.size + 1 := Nat.le_succ _
  have free := I.hok.fresh above
  have want := hq (hp.objs.size + 1) free
  have kp : ∀ b o, hp.get? b = some o → ((hp.push (PySem.W.kdv_tup us)).push (PySem.HandSPX.excO C hp.objs.size)).get? b = some o := fun b o e =>
    Heap.get?_push_of_some _ (Heap.get?_push_of_some _ e)
  have here : ((hp.push (PySem.W.kdv_tup us)).push (PySem.HandSPX.excO C hp.objs.size)).get? (hp.objs.size + 1) = some (PySem.HandSPX.excO C hp.objs.size) := by heap_get
  have I2 : Inv X pins σ (upd H (hp.objs.size + 1) (exo (hp.objs.size + 1) C none)) ⟨(hp.push (PySem.W.kdv_tup us)).push (PySem.HandSPX.excO C hp.objs.size), g, dr, tk, os⟩ :=
    I.laid (t' := tk) (a := hp.objs.size + 1) (o := exo (hp.objs.size + 1) C none) (h' := (hp.push (PySem.W.kdv_tup us)).push (PySem.HandSPX.excO C hp.objs.size)) kp above (exo_ok here)
  have sz : us.length ≤ sizeLine := by
    rw [sizeLine_eq]
    omega
  refine wpAny_call (PySem.KUx.kw_call PySem.F.excBase_ValueError (fun Y => PySem.HandSPX.refsVE_contains Y bm hbm) (I.kIn _ _ hC) (PySem.W.looks_findIn I.kIn iC)
    (fun self => PySem.W.bind_fn I.kIn self tI) sz ?_)
  refine codeAny_mono (F1.run _ X.stack _ _ ⟨.ref (hp.objs.size + 1) :: us, kw⟩ (.ref (hp.objs.size + 1) :: all) (.ref (hp.objs.size + 1) :: vs) _ (fun _ _ _ => False)
    (hr.make C us kw) (I2.env0.make C us kw) (hb _ _ I2.kIn) (.cons rfl r) want) fun res s' back => ?_
  cases res with
  | error er => exact back.elim
  | ok fl =>
    cases fl with
    | ret u =>
      obtain ⟨v, H', I3, rv, ev, q3⟩ := I2.after back
      subst ev
      exact ⟨rv, ⟨V.ref (hp.objs.size + 1), H', I3, rfl, q3⟩⟩
    | next => exact back.elim
    | brk => exact back.elim
    | cont => exact back.elim
variable {x : Str} {p pos : Pos} {e : Expr} {es : List Expr} {kws : List Keyword} {ta tk : TA} {ks : List Str} {g : List Value → List Value → List Value} {gV : List V → List V → List V}
/-- C(e, ..) as a value -/
def tErr (C : Addr) (sp : Sp) (ta : TA) : TE := fun σ H Q => ta σ H fun vs H1 => vs.length ≤ 1000 ∧ ∀ a, H1 a = none →
  sp (.ref a :: vs) (upd H1 a (exo a C none)) (fun v H2 => v = .non ∧ Q (.ref a) H2) fun _ _ _ => False
theorem pe_err (T : OexC X.K C) (iC : PySem.W.findIn X.K (.ref C) "__init__" = some (some (.ref fI))) (tI : PySem.W.typeIn X.K (.ref fI) = some (.type "function"))
    (F1 : FnOk X.prog X.w X.K X.mg X.base CX0 k fI fd ps sp) (hr : Room (k + 1) X.A) (hb : Binds X.K fd ps []) (gC : X.mg x = some (.ref C)) (ha : PA X (e :: es) ta)
    (hg : Gl X x := by rfl) (hdb : (x == ("__debug__" : Str)) = false := by decide) (he : starEach (e :: es) X.env = (false, eval e X.env) :: starEach es X.env := by rfl)
    (hpl : (backTo pos (starEach es X.env)).any (·.1) = false := by rfl) : PE X (.Call (.Name x p) (e :: es) [] pos) (tErr C sp ta) := by
  refine ⟨fun pins s σ H Q I h => ?_⟩
  refine wpAny_Call_Name_kw (ld_glob I hg gC ?_ hdb)
  refine PySem.W.callWith_K (h₀ := X.base) I.ok.mod.kin T.kC (thn (ha.run pos pins s σ H _ I h) fun us s1 ⟨vs, H1, I1, r1, hz, q1⟩ => ⟨I1.kIn, ?_⟩) he hpl
  have hl := F1.len _ _ _ _ (q1 (s1.heap.objs.size + 1) (I1.hok.fresh (Nat.le_succ _)))
  refine run_err (us := us) (all := us) (kw := []) (vs := vs) T iC tI F1 hr I1 r1 (by rw [← r1.length]; exact hz) (fun s' a kin => ?_) q1
  have z := hb s' (.ref a :: us) kin (by
    rw [List.append_nil, ← hl, List.length_cons, List.length_cons, r1.length])
  rw [List.append_nil] at z
  exact z
/-- C(k = v, ..) as a value -/
def tErrK (C : Addr) (n : Nat) (sp : Sp) (gV : List V → List V) (tk : TA) : TE := fun σ H Q => tk σ H fun zs H1 => zs.length = n ∧ zs.length ≤ 1000 ∧ ∀ a, H1 a = none →
  sp (.ref a :: gV zs) (upd H1 a (exo a C none)) (fun v H2 => v = .non ∧ Q (.ref a) H2) fun _ _ _ => False
theorem pe_errK {gv : List V → List V} {gu : List Value → List Value} (T : OexC X.K C) (iC : PySem.W.findIn X.K (.ref C) "__init__" = some (some (.ref fI)))
    (tI : PySem.W.typeIn X.K (.ref fI) = some (.type "function")) (F1 : FnOk X.prog X.w X.K X.mg X.base CX0 k fI fd ps sp) (hr : Room (k + 1) X.A)
    (hb : ∀ (s' : Shared) (a : Addr) (ws : List Value), X.K.In s'.heap → ws.length = ks.length → BindsTo s' fd ⟨[.ref a], ks.zip ws⟩ (ps.zip (.ref a :: gu ws)))
    (rel : ∀ {zs : List V} {ws : List Value}, Vals zs ws → zs.length = ks.length → Vals (gv zs) (gu ws)) (gC : X.mg x = some (.ref C)) (hk : PK X kws tk)
    (hall : (backToKw pos (keywordEach kws X.env)).all (·.1.isSome) = true := by rfl) (hks : (backToKw pos (keywordEach kws X.env)).filterMap (·.1) = ks := by rfl)
    (hg : Gl X x := by rfl) (hdb : (x == ("__debug__" : Str)) = false := by decide)
    (hpl : ((backTo pos (starEach [] X.env)).any (·.1) || (backToKw pos (keywordEach kws X.env)).any (·.1.isNone)) = false := by rfl) :
    PE X (.Call (.Name x p) [] kws pos) (tErrK C ks.length sp gv tk) := by
  refine ⟨fun pins s σ H Q I h => ?_⟩
  refine wpAny_Call_Name_kw (ld_glob I hg gC ?_ hdb)
  refine PySem.W.callWith_KW0 (h₀ := X.base) I.ok.mod.kin T.kC hall (thn (hk.run pos pins s σ H _ I h) fun ws s1 ⟨zs, H1, I1, r1, hn, hz, q1⟩ => ⟨I1.kIn, ?_⟩) hpl
  rw [hks]
  show wpAny _ _ (call (.ref C) [] (ks.zip ws)) _ _ _
  exact run_err (us := []) (all := gu ws) (kw := ks.zip ws) (vs := gv zs) T iC tI F1 hr I1 (rel r1 hn) (Nat.zero_le _) (fun s' a kin => hb s' a ws kin (by rw [← r1.length]; exact hn)) q1
end

/-! ### what __init__ of such a class promises -/
def spI1 (K : PySem.W.Frag) (f : Str) : Sp := fun vs H Q _ => ∃ (a C : Addr) (y : V), vs = [.ref a, y] ∧ OexC K C ∧ PySem.W.findIn K (.ref C) f = some none ∧ H a = some (exo a C none) ∧
  ∀ dx, H dx = none → dx ≠ a → Q .non (upd (upd H dx (exd dx [(f, y)])) a (exo a C (some dx)))
def spI2 (K : PySem.W.Frag) (f g : Str) : Sp := fun vs H Q _ => ∃ (a C : Addr) (y z : V), vs = [.ref a, y, z] ∧ OexC K C ∧ PySem.W.findIn K (.ref C) f = some none ∧ PySem.W.findIn K (.ref C) g = some none ∧
  H a = some (exo a C none) ∧ ∀ dx H', H dx = none → dx ≠ a → H' a = some (exo a C (some dx)) → H' dx = some (exd dx [(g, z), (f, y)]) → (∀ b, b ≠ a → b ≠ dx → H' b = H b) → Q .non H'

section
variable {X : Cx} {e : Expr} {te : TE} {f : Str} {pos : Pos}
/-- e.f of an own error -/
def tErrF (K : PySem.W.Frag) (f : Str) (te : TE) : TE := fun σ H Q => te σ H fun x H1 => ∃ (a C : Addr) (fs : List (Str × V)) (v : V), x = .ref a ∧ ExcC K C ∧ PySem.W.findIn K (.ref C) f = some none ∧
  ErrAt H1 a C fs ∧ fs.lookup f = some v ∧ Q v H1
theorem pe_errF (he : PE X e te) (hb : attributeBase e f X.env (eval e X.env) = eval e X.env := by rfl) : PE X (.Attribute e f pos) (tErrF X.K f te) := by
  refine ⟨fun pins s σ H Q I h => ?_⟩
  refine attr_of hb (thn (he.run pins s σ H _ I h) fun u s1 ⟨x, H1, I1, rx, a, C, fs, v, ex, T, no, at_, lk, q⟩ => ?_)
  subst ex
  obtain rfl : u = Value.ref a := rx
  rcases at_ with ⟨d, h1, h2⟩ | ⟨h1, _⟩
  · obtain ⟨t1, ho⟩ := exo_at I1.hok h1
    obtain ⟨mA, hns, rel⟩ := exd_at I1.hok h2
    obtain ⟨od, hod, hlk⟩ := lookIn_ns hns
    obtain ⟨y, hy, ry⟩ := RelO.some_of (v := v) (o := mA f) (by rw [← lk]; exact rel f)
    have J : PySem.W.InstAt s1.heap a { cls := .ref C, dict := some d, data := .fields #[.ref t1, .none, .none, .none, .bool false, .none] } C (some od) := ⟨ho, rfl, rfl, hod⟩
    exact HandSPX.exc_get I1.kIn J T.hg T.hk T.hs (PySem.W.findObj_own T.hd no rfl (by rw [hlk, hy])) (handed_of ry) ⟨v, H1, I1.tok _, ry, q⟩
  · subst h1
    cases lk
/-- isinstance(e, c), e an own error -/
def rIsErr (K : PySem.W.Frag) : List V → Hp → VK → Prop := fun xs H Q => ∃ (a C : Addr) (fs : List (Str × V)) (c : V) (u : Value) (b : Bool), xs = [.ref a, c] ∧ ClsV c u ∧ ExcC K C ∧ ErrAt H a C fs ∧
  PySem.W.kitOne K (.ref C) u = some b ∧ Q (.bl b) H
theorem call_isErr : CallR X (.builtin "isinstance") (rIsErr X.K) := by
  intro pins s σ H xs us Q I r h
  obtain ⟨a, C, fs, c, w, b, rfl, k, T, at_, e, q⟩ := h
  obtain ⟨u1, u2, rfl, r1, r2⟩ := vals2 r
  obtain rfl : u1 = Value.ref a := r1
  have e2 := k.eq r2
  subst e2
  have hc : (PySem.W.clsIn X.K C).isSome = true := by
    have z := T.hd
    unfold PySem.W.hasDictIn at z
    cases q : PySem.W.clsIn X.K C with
    | none =>
      rw [q] at z
      cases z
    | some cd => rfl
  have fin : ∀ tk, EP X pins σ Q (.bool b) { s with toks := tk } := fun tk => ⟨.bl b, H, I.tok tk, rfl, q⟩
  rcases at_ with ⟨d, h1, h2⟩ | ⟨_, h1⟩
  · obtain ⟨t1, ho⟩ := exo_at I.hok h1
    obtain ⟨mA, hns, rel⟩ := exd_at I.hok h2
    obtain ⟨od, hod, hlk⟩ := lookIn_ns hns
    have J : PySem.W.InstAt s.heap a { cls := .ref C, dict := some d, data := .fields #[.ref t1, .none, .none, .none, .bool false, .none] } C (some od) := ⟨ho, rfl, rfl, hod⟩
    exact PySem.W.kia_one (PySem.W.kitx_exc hc T.hg T.hk T.hs T.ha T.hn T.ht T.hm) I.kIn J e (fun z => nomatch z) fin
  · obtain ⟨t1, ho⟩ := exo_at I.hok h1
    have J : PySem.W.InstAt s.heap a { cls := .ref C, dict := none, data := .fields #[.ref t1, .none, .none, .none, .bool false, .none] } C none := ⟨ho, rfl, rfl, trivial⟩
    exact PySem.W.kia_one (PySem.W.kitx_exc hc T.hg T.hk T.hs T.ha T.hn T.ht T.hm) I.kIn J e (fun z => nomatch z) fin
end

/-! ### repr of data -/
mutual
inductive RD (K : PySem.W.Frag) (H : Hp) : V → PyData → Prop where
  | non : RD K H .non .none
  | bl (b : Bool) : RD K H (.bl b) (.bool b)
  | int (i : Int) : RD K H (.int i) (.int i)
  | str (x : Str) : RD K H (.str x) (.str x)
  | tup {a : Addr} {xs : List V} {ds : List PyData} : SqT K H a xs → RDs K H xs ds → RD K H (.ref a) (.tuple ds)
  | lst {a : Addr} {xs : List V} {ds : List PyData} : SqL K H a xs → a ≠ sysModules → RDs K H xs ds → RD K H (.ref a) (.list ds)
  | dic {a : Addr} : H a = some (.dK []) → RD K H (.ref a) (.dict [])
inductive RDs (K : PySem.W.Frag) (H : Hp) : List V → List PyData → Prop where
  | nil : RDs K H [] []
  | cons {v : V} {vs : List V} {d : PyData} {ds : List PyData} : RD K H v d → RDs K H vs ds → RDs K H (v :: vs) (d :: ds)
end
section
variable {X : Cx} {pins : List (Addr × Obj)} {σ : L2.St} {H : Hp} {s : Shared}
mutual
theorem RD.reads (I : Inv X pins σ H s) : ∀ (d : PyData) (v : V) (u : Value), RD X.K H v d → RelV v u → ∃ as, Reads s.heap u d as ∧ sysModules ∉ as
  | .none, _, _, h, r => by
    cases h
    cases r
    exact ⟨_, Reads.none, List.not_mem_nil⟩
  | .bool b, _, _, h, r => by
    cases h
    cases r
    exact ⟨_, Reads.bool b, List.not_mem_nil⟩
  | .int i, _, _, h, r => by
    cases h
    obtain ⟨t, rfl⟩ := r
    exact ⟨_, Reads.int i t, List.not_mem_nil⟩
  | .str x, _, _, h, r => by
    cases h
    obtain ⟨t, rfl⟩ := r
    exact ⟨_, Reads.str x t, List.not_mem_nil⟩
  | .list ds, _, _, h, r => by
    cases h with
    | lst hs hn ha =>
      cases r
      obtain ⟨its, rv, ⟨o, n, ho, hc, _, hd⟩, _⟩ := I.list hs
      obtain ⟨as, hr, no⟩ := RD.readsAll I ds _ its ha rv
      refine ⟨_, Reads.list ho hc hd hr, fun z => ?_⟩
      rcases List.mem_cons.mp z with z | z
      · exact hn z.symm
      · exact no z
  | .tuple ds, _, _, h, r => by
    cases h with
    | tup hs ha =>
      cases r
      obtain ⟨its, rv, ⟨o, ho, hc, n, hd⟩, _⟩ := I.tuple hs
      obtain ⟨as, hr, no⟩ := RD.readsAll I ds _ its ha rv
      exact ⟨_, Reads.tuple ho hc hd hr, no⟩
  | .dict kvs, _, _, h, r => by
    cases h with
    | dic hs =>
      cases r
      obtain ⟨_, hn, vs, rel, o, es, ep, ho, hx, hd, _, pr, _⟩ := dk_of I.hok hs
      have e0 : vs = [] := by
        cases rel
        rfl
      subst e0
      have e1 : es.toList = [] := by
        cases h : es.toList with
        | nil => rfl
        | cons a b =>
          rw [h] at pr
          cases pr
      refine ⟨_, Reads.dict (kvs := []) (as := []) (bs := []) ho hx.1 hd (by rw [e1]; exact ReadsAll.nil) (by rw [e1]; exact ReadsAll.nil), fun z => ?_⟩
      have z' := List.mem_singleton.mp (by simpa using z)
      rw [← z'] at hn
      exact absurd hn (by decide)
theorem RD.readsAll (I : Inv X pins σ H s) : ∀ (ds : List PyData) (vs : List V) (us : List Value), RDs X.K H vs ds → Vals vs us → ∃ as, ReadsAll s.heap us ds as ∧ sysModules ∉ as
  | [], _, _, h, r => by
    cases h
    cases r
    exact ⟨_, ReadsAll.nil, List.not_mem_nil⟩
  | d :: ds, _, _, h, r => by
    cases h with
    | cons h1 h2 =>
      cases r with
      | cons r1 r2 =>
        obtain ⟨as, q1, n1⟩ := RD.reads I d _ _ h1 r1
        obtain ⟨bs, q2, n2⟩ := RD.readsAll I ds _ _ h2 r2
        refine ⟨_, ReadsAll.cons q1 q2, fun z => ?_⟩
        rcases List.mem_append.mp z with z | z
        · exact n1 z
        · exact n2 z
end
end
section
variable {X : Cx}
/-- repr of a list -/
def rRepr (K : PySem.W.Frag) : List V → Hp → VK → Prop := fun xs H Q => ∃ (a : Addr) (d : PyData), xs = [.ref a] ∧ RD K H (.ref a) d ∧ d.showable = true ∧ d.depth ≤ 60 ∧ d.shown.length ≤ 100000 ∧ Q (.str d.shown) H
theorem call_repr (hg : X.A.guards = some []) (hu : X.A.units + 64 < cLine) : CallR X (.builtin "repr") (rRepr X.K) := by
  intro pins s σ H xs us Q I r h
  obtain ⟨a, d, rfl, rd, sh, dp, sz, q⟩ := h
  obtain ⟨u, rfl, ru⟩ := vals1 r
  obtain ⟨as, hr, no⟩ := RD.reads I d _ _ rd ru
  obtain rfl : u = Value.ref a := ru
  exact repr_of_reads' hr sh (fun _ => no) hg (by omega) (fun _ _ e => e) (fun h' u tk kp => ⟨.str d.shown, H, I.kept kp, ⟨_, rfl⟩, q⟩) (Nat.le_trans sz (by decide))
/-- a list's display, new above the startup's objects -/
def tLstB (t : TA) : TE := fun σ H Q => t σ H fun xs H1 => xs.length ≤ sizeLine ∧ ∀ p, H1 p = none → p ≠ sysModules → Q (.ref p) (upd H1 p (.lst xs))
theorem pe_lstB {es : List Expr} {t : TA} {pos : Pos} (h : PA X es t) : PE X (.List es pos) (tLstB t) := by
  refine ⟨fun pins s σ H Q I hq => ?_⟩
  refine wpAny_List_spliced (thn (h.run pos pins s σ H _ I hq) fun us s1 ⟨xs, H1, I1, r, z, q⟩ => ⟨?_, ?_⟩)
  · rw [← r.length]
    exact z
  have free : H1 s1.heap.objs.size = none := I1.hok.fresh (Nat.le_refl _)
  refine ⟨.ref s1.heap.objs.size, upd H1 s1.heap.objs.size (.lst xs), ?_, rfl, q _ free (Nat.ne_of_gt I1.big)⟩
  exact I1.laid (t' := s1.toks) (fun b u e => Heap.get?_push_of_some _ e) (Nat.le_refl _) ⟨z, us, 0, r, Heap.get?_push_size _ rfl⟩
end
end KU

set_option Elab.async false
set_option linter.all false
set_option maxRecDepth 100000
set_option maxHeartbeats 4000000
/-! The end of a law's row, the law's def being known where no repr is under way -/
namespace KU
open PySem PySem.Spec PyProof.Rows L2

theorem hid_ns {h : Heap} {H : Hp} {b : Addr} {m : Str → Option Value} (no : ∀ o es ep, h.get? b = some o → o.data = .dict es ep → H b = none) (n : h.Ns b m) : (hidT h H).Ns b m := by
  obtain ⟨o, es, ep, e, d, r⟩ := n
  exact ⟨o, es, ep, hidT_get e (no o es ep e d), d, r⟩

theorem call_law {P : Program} {w : World} {K : PySem.W.Frag} {mg mb : Str → Option Value} {k : Nat} {fa a : Addr} {fd : FuncData} {x : Str} {sp : Sp} {s1 : Shared} {vs : List Value} {ns : List Int}
    (KX : K.In s1.heap) (hns : s1.heap.Ns mainGlobals mg) (hb : s1.heap.Ns builtinsNs mb) (hbb : ∀ x : Str, x ≠ "__name__" → mb x = bootBuiltins x) (hlim : s1.heap.NoLimit) (hg : s1.gens = #[])
    (ha : s1.heap.get? a = some { cls := .type "list", data := .seq vs.toArray }) (hi : IntsAre vs ns) (hl : ns.length ≤ sizeLine) (hr : Room k callerA)
    (F : ∀ base : Heap, K.In base → base.Ns mainGlobals mg → FnG P w K mg base CX0 k fa fd [x] sp) (hbind : ∀ (s : Shared) (u : Value), BindsTo s fd ⟨[u], []⟩ [(x, u)])
    (hsp : ∀ H : Hp, Only H → SqL K H a (ns.map V.int) → sp [.ref a] H (fun v _ => v = .bl true) fun _ _ _ => False) :
    codeAny (model P w) callerA (.call (.ref fa) ⟨[.ref a], []⟩)
      (fun r s' => r = .ok (.ret (.bool true)) ∧ OldK s1.heap s'.heap ∧ s'.os = s1.os ∧ AllBare s'.gens) s1 := by
  have rv := vals_ints hi
  have lenV := hi.length
  have main : ∀ H : Hp, Only H → SqL K H a (ns.map V.int) → HOk P w H s1.heap → (∀ b, H b ≠ none → b = a) → (H a ≠ none → K.lookup a = none) →
      codeAny (model P w) callerA (.call (.ref fa) ⟨[.ref a], []⟩)
        (fun r s' => r = .ok (.ret (.bool true)) ∧ OldK s1.heap s'.heap ∧ s'.os = s1.os ∧ AllBare s'.gens) s1 := by
    intro H only seq ok just hK
    have atA : ∀ {b u}, H b = some u → b = a := fun {b u} q => just b (by rw [q]; simp)
    have noD : ∀ b o es ep, s1.heap.get? b = some o → o.data = .dict es ep → H b = none := by
      intro b o es ep e d
      cases q : H b with
      | none => rfl
      | some u =>
        rw [atA q, ha] at e
        cases e
        have d' : Data.seq vs.toArray _ = Data.dict es ep := d
        cases d'
    have kin : K.In (hidT s1.heap H) := by
      intro b o e
      refine hidT_get (KX b o e) ?_
      cases q : H b with
      | none => rfl
      | some u =>
        have eb := atA q
        subst eb
        rw [hK (by rw [q]; simp)] at e
        cases e
    have lim : (hidT s1.heap H).NoLimit := by
      obtain ⟨mc, h1, h2⟩ := hlim
      exact ⟨mc, hid_ns (noD _) h1, h2⟩
    have md : Mod K mg (hidT s1.heap H) := ⟨kin, hid_ns (noD _) hns, ⟨mb, hid_ns (noD _) hb, hbb⟩, lim⟩
    have e0 : Env0 P w K mg (hidT s1.heap H) callerA [] s1 H :=
      ⟨rfl, md, fun b o e => of_hidT e, Nat.le_of_eq (hidT_size _ _), trivial, fun b hb => absurd hb List.not_mem_nil, ok, .of_eq hg⟩
    have run := (F _ kin (hid_ns (noD _) hns)).goes callerA [] s1 H ⟨[.ref a], []⟩ [.ref a] [.ref a] _ _ rfl hr e0 (hbind s1 (.ref a)) (.cons rfl .nil) (hsp H only seq)
    refine codeAny_mono run fun r s' h => ?_
    cases r with
    | error e => exact h.elim
    | ok fl =>
      cases fl with
      | next => exact h.elim
      | brk => exact h.elim
      | cont => exact h.elim
      | ret u =>
        obtain ⟨v, H', os, bare, un, ok', r', q⟩ := h
        have q' : v = .bl true := q
        subst q'
        obtain rfl : u = Value.bool true := r'
        refine ⟨rfl, OldK.of_keep fun b o e => ?_, os, bare⟩
        cases q : H b with
        | none => exact un.keep b o e q List.not_mem_nil List.not_mem_nil
        | some u =>
          rcases only b with z | ⟨ob, xs, z⟩
          · rw [q] at z
            cases z
          · obtain ⟨e1, _⟩ := ok b _ z
            obtain ⟨e2, _⟩ := ok' b _ (un.frzs b ob _ z)
            rw [e] at e1
            cases e1
            exact e2
  cases hk : K.lookup a with
  | some o =>
    have e := KX a o hk
    rw [ha] at e
    cases e
    refine main (fun _ => none) (fun _ => .inl rfl) (.inr ⟨_, vs.toArray, _, hk, rfl, rfl, rfl, ?_, ?_⟩) (fun b u z => nomatch z) (fun b z => absurd rfl z) fun z => absurd rfl z
    · rw [List.size_toArray, lenV]
      exact hl
    · simpa using rv
  | none =>
    let H1 : Hp := fun b => if b = a then some (.frz { cls := .type "list", data := .seq vs.toArray } (.lst (ns.map V.int))) else none
    have at_ : H1 a = some (.frz { cls := .type "list", data := .seq vs.toArray } (.lst (ns.map V.int))) := if_pos rfl
    have off : ∀ b, b ≠ a → H1 b = none := fun b hb => if_neg hb
    refine main H1 (fun b => ?_) (.inl (.inr ⟨_, at_⟩)) (fun b u z => ?_) (fun b z => ?_) fun _ => hk
    · by_cases hb : b = a
      · subst hb
        exact .inr ⟨_, _, at_⟩
      · exact .inl (off b hb)
    · by_cases hb : b = a
      · subst hb
        rw [at_] at z
        cases z
        refine ⟨ha, ?_, vs, _, rv, ha⟩
        rw [List.length_map]
        exact hl
      · rw [off b hb] at z
        cases z
    · by_cases hb : b = a
      · exact hb
      · exact absurd (off b hb) z

/-- the goal that the head leaves, from the law's promise -/
theorem end_of {l : PySem.W.OpenLaw} {n k : Nat} {q : Program} {loose : List Str} {XP : (Str → Option Value) → Heap → Prop} {YP : World → Heap → Prop} {d : DefRec} {K : Params → PySem.W.Frag} {sp : PySem.W.Frag → Sp} {x : Str}
    (hn : l.most = some n) (hn2 : n ≤ sizeLine) (hdf : d.params.defaults = []) (hr : Room k callerA) (hY : ∀ (w : World) (h : Heap), YP w h → (K w.params).In h)
    (F : ∀ (w : World) (mg : Str → Option Value) (fa : Addr) (h : Heap), (K w.params).In h → h.Ns mainGlobals mg → mg d.name = some (.ref fa) →
      ∃ fd : FuncData, (∀ (s : Shared) (u : Value), BindsTo s fd ⟨[u], []⟩ [(x, u)]) ∧
        ∀ base : Heap, (K w.params).In base → base.Ns mainGlobals mg → FnG l.prog w (K w.params) mg base CX0 k fa fd [x] (sp (K w.params)))
    (hsp : ∀ (K : PySem.W.Frag) (H : Hp) (a : Addr) (ns : List Int), ns.length ≤ n → Only H → SqL K H a (ns.map V.int) → sp K [.ref a] H (fun v _ => v = .bl true) fun _ _ _ => False) :
    PySem.W.WalkO q loose XP YP l.row.toRowW d [] (fun f vs => PySem.call f vs) := by
  refine Att.attach_call hn hdf fun w s₀ s₁ mg mb fa o pm cd doc a vs ns G Y ho hd hcd hmg hobj hints hlen hg => ?_
  have kin := hY w _ Y
  obtain ⟨fd, hb, hF⟩ := F w mg fa _ kin G.T.g hmg
  exact call_law kin G.T.g G.T.b G.T.builtins G.T.nolimit hg hobj hints (Nat.le_trans hlen hn2) hr hF hb fun H hO hS => hsp _ H a ns hlen hO hS
end KU

set_option Elab.async false
set_option linter.all false
set_option maxRecDepth 100000
set_option maxHeartbeats 4000000
/-! A text's error classes in one record each; what evaluates to something with a property -/
namespace KU
open PySem PySem.Spec PyProof.Rows L2 Evl

/-! ### an error class of the text -/
structure Cl (P : Program) (w : World) (K : PySem.W.Frag) (mg : Str → Option Value) (base : Heap) (x : Str) (C : Addr) (fs : List Str) (sp : Sp) : Prop where
  oex : OexC K C
  exc : ExcC K C
  gC : mg x = some (.ref C)
  no : ∀ f ∈ fs, PySem.W.findIn K (.ref C) f = some none
  fn : ∃ (fI : Addr) (fd : FuncData), PySem.W.findIn K (.ref C) "__init__" = some (some (.ref fI)) ∧ PySem.W.typeIn K (.ref fI) = some (.type "function") ∧
    FnOk P w K mg base CX0 1 fI fd (("self" : Str) :: fs) sp ∧ Binds K fd (("self" : Str) :: fs) [] ∧
    ∀ (s : Shared) (a : Addr) (ws : List Value), ws.length = fs.length → BindsTo s fd ⟨[.ref a], fs.reverse.zip ws⟩ ((("self" : Str) :: fs).zip (.ref a :: ws.reverse))
section
variable {X : Cx} {x : Str} {C : Addr} {fs : List Str} {sp : Sp} {p pos : Pos} {e : Expr} {es : List Expr} {kws : List Keyword} {ta tk : TA}
theorem pe_cl (Z : Cl X.prog X.w X.K X.mg X.base x C fs sp) (hr : Room 2 X.A) (ha : PA X (e :: es) ta) (hg : Gl X x := by rfl) (hdb : (x == ("__debug__" : Str)) = false := by decide)
    (he : starEach (e :: es) X.env = (false, eval e X.env) :: starEach es X.env := by rfl) (hpl : (backTo pos (starEach es X.env)).any (·.1) = false := by rfl) :
    PE X (.Call (.Name x p) (e :: es) [] pos) (tErr C sp ta) := by
  obtain ⟨fI, fd, i1, i2, G, b, _⟩ := Z.fn
  exact pe_err Z.oex i1 i2 G hr b Z.gC ha hg hdb he hpl
theorem Vals.rev {zs : List V} {ws : List Value} (r : Vals zs ws) : Vals zs.reverse ws.reverse := by
  induction r with
  | nil => exact .nil
  | cons a _ ih =>
    rw [List.reverse_cons, List.reverse_cons]
    exact Vals.append ih (.cons a .nil)
theorem pe_clK (Z : Cl X.prog X.w X.K X.mg X.base x C fs sp) (hr : Room 2 X.A) (hk : PK X kws tk)
    (hall : (backToKw pos (keywordEach kws X.env)).all (·.1.isSome) = true := by rfl) (hks : (backToKw pos (keywordEach kws X.env)).filterMap (·.1) = fs.reverse := by rfl)
    (hg : Gl X x := by rfl) (hdb : (x == ("__debug__" : Str)) = false := by decide)
    (hpl : ((backTo pos (starEach [] X.env)).any (·.1) || (backToKw pos (keywordEach kws X.env)).any (·.1.isNone)) = false := by rfl) :
    PE X (.Call (.Name x p) [] kws pos) (tErrK C fs.reverse.length sp List.reverse tk) := by
  obtain ⟨fI, fd, i1, i2, G, _, b⟩ := Z.fn
  exact pe_errK (ks := fs.reverse) (gv := List.reverse) (gu := List.reverse) Z.oex i1 i2 G hr (fun s' a ws _ hl => b s' a ws (by rw [hl, List.length_reverse])) (fun r _ => Vals.rev r) Z.gC hk hall hks hg hdb hpl

/-! ### a class without an __init__ of its own -/
theorem run_bare {pins : List (Addr × Obj)} {σ : L2.St} {H : Hp} {s : Shared} {Q : VK} {us : List Value} {bmB : List Value} {B newId initId : String} (F : ExcBaseFacts B newId initId bmB) (q : PySem.W.excIn X.K C bmB newId = true)
    (I : Inv X pins σ H s) (small : us.length ≤ 1000) (hq : ∀ a, H a = none → Q (.ref a) (upd H a (exo a C none))) : wpAny (model X.prog X.w) X.A (call (.ref C) us) (EP X pins σ Q) X.xe s := by
  obtain ⟨bm, N, nm, qn, bs, hdct, sn, sub, ab, col, dd, k0, k1, k2, k3, k5, mN, hC, hN, hni, T⟩ := exc_obj I.kIn q
  refine wpAny_call_exc_subT F T hC hN hni (fun h' a hm => ?_) (by rw [sizeLine_eq]; omega)
  obtain ⟨t, ht, _, _⟩ := hm.there
  have n := I.hok.gone hm.new
  exact ⟨.ref a, upd H a (exo a C none), I.laidN hm.keeps hm.new n (exo_ok ht), rfl, hq a n⟩
/-- C(), C(e, ..) -/
def tBare (C : Addr) (ta : TA) : TE := fun σ H Q => ta σ H fun vs H1 => vs.length ≤ 1000 ∧ ∀ a, H1 a = none → Q (.ref a) (upd H1 a (exo a C none))
theorem pe_bare0 {bmB : List Value} {B newId initId : String} (F : ExcBaseFacts B newId initId bmB) (q : PySem.W.excIn X.K C bmB newId = true) (gC : X.mg x = some (.ref C)) (kC : PySem.W.keepIn X.K (.ref C) = true)
    (hg : Gl X x := by rfl) (hdb : (x == ("__debug__" : Str)) = false := by decide) : PE X (.Call (.Name x p) [] [] pos) (tBare C tNil) := by
  refine ⟨fun pins s σ H Q I h => ?_⟩
  refine wpAny_Call_Name_kw (ld_glob I hg gC ?_ hdb)
  exact PySem.W.callWith_K0 I.kIn kC (run_bare (us := []) F q I (Nat.zero_le _) h.2)
theorem pe_bare1 {bmB : List Value} {B newId initId : String} (F : ExcBaseFacts B newId initId bmB) (q : PySem.W.excIn X.K C bmB newId = true) (gC : X.mg x = some (.ref C)) (kC : PySem.W.keepIn X.K (.ref C) = true) (ha : PA X (e :: es) ta)
    (hg : Gl X x := by rfl) (hdb : (x == ("__debug__" : Str)) = false := by decide) (he : starEach (e :: es) X.env = (false, eval e X.env) :: starEach es X.env := by rfl)
    (hpl : (backTo pos (starEach es X.env)).any (·.1) = false := by rfl) : PE X (.Call (.Name x p) (e :: es) [] pos) (tBare C ta) := by
  refine ⟨fun pins s σ H Q I h => ?_⟩
  refine wpAny_Call_Name_kw (ld_glob I hg gC ?_ hdb)
  refine PySem.W.callWith_K (h₀ := X.base) I.ok.mod.kin kC (thn (ha.run pos pins s σ H _ I h) fun us s1 ⟨vs, H1, I1, r1, hz, q1⟩ => ⟨I1.kIn, ?_⟩) he hpl
  exact run_bare (us := us) F q I1 (by rw [← r1.length]; exact hz) q1
end

/-! ### what evaluates to something with a property -/
def EvP (te : TE) (σ : L2.St) (H : Hp) (P : V → Hp → Prop) : Prop := ∀ H1, Ex H H1 → ∀ Q : VK, (∀ v H2, Ex H1 H2 → P v H2 → Q v H2) → te σ H1 Q
def EvPA (ta : TA) (σ : L2.St) (H : Hp) (P : List V → Hp → Prop) : Prop := ∀ H1, Ex H H1 → ∀ Q : List V → Hp → Prop, (∀ vs H2, Ex H1 H2 → P vs H2 → Q vs H2) → ta σ H1 Q
def Up (P : V → Hp → Prop) : Prop := ∀ v H H', Ex H H' → P v H → P v H'
/-- the values have the properties, one by one -/
def Each (Ps : List (V → Hp → Prop)) (vs : List V) (H : Hp) : Prop := Paired (fun (P : V → Hp → Prop) v => P v H) Ps vs
theorem Each.up {Ps : List (V → Hp → Prop)} (u : ∀ P ∈ Ps, Up P) {vs : List V} {H H' : Hp} (e : Ex H H') (h : Each Ps vs H) : Each Ps vs H' := by
  unfold Each at h ⊢
  induction h with
  | nil => exact .nil
  | cons a _ ih => exact .cons (u _ (List.mem_cons_self ..) _ _ _ e a) (ih fun P hP => u P (List.mem_cons_of_mem _ hP))
theorem Each.app {Ps Qs : List (V → Hp → Prop)} {vs ws : List V} {H : Hp} (a : Each Ps vs H) (b : Each Qs ws H) : Each (Ps ++ Qs) (vs ++ ws) H := by
  unfold Each at a b ⊢
  induction a with
  | nil => exact b
  | cons x _ ih => exact .cons x ih
theorem Each.len {Ps : List (V → Hp → Prop)} {vs : List V} {H : Hp} (a : Each Ps vs H) : vs.length = Ps.length := (Paired.length a).symm
theorem Each.get {Ps : List (V → Hp → Prop)} {vs : List V} {H : Hp} (a : Each Ps vs H) : ∀ {i : Nat} {P : V → Hp → Prop}, Ps[i]? = some P → ∃ v, vs[i]? = some v ∧ P v H := by
  unfold Each at a
  induction a with
  | nil =>
    intro i P h
    simp at h
  | @cons P0 v0 _ _ h0 _ ih =>
    intro i P h
    cases i with
    | zero =>
      simp at h
      subst h
      exact ⟨v0, rfl, h0⟩
    | succ i =>
      obtain ⟨v, h1, h2⟩ := ih (i := i) (P := P) (by simpa using h)
      exact ⟨v, by simpa using h1, h2⟩
section
variable {σ : L2.St} {H : Hp} {ta te tb : TE} {tr : TA} {P P1 P2 P3 : V → Hp → Prop} {Ps Qs : List (V → Hp → Prop)} {v : V}
theorem EvP.of {te : TE} (h : Ev te σ H v) : EvP te σ H (fun u _ => u = v) := fun H1 e Q q => h H1 e Q fun H2 e2 => q v H2 e2 rfl
theorem ep_nil : EvPA tNil σ H (Each []) := fun H1 _ _ q => q [] H1 (Ex.refl H1) .nil
theorem ep_cons (u : Up P) (h : EvP te σ H P) (hr : EvPA tr σ H (Each Ps)) : EvPA (tCons te tr) σ H (Each (P :: Ps)) := fun H1 e Q q =>
  h H1 e _ fun v H2 e2 p => hr H2 (e.trans e2) _ fun vs H3 e3 ps => q _ H3 (e2.trans e3) (.cons (u _ _ _ e3 p) ps)
/-- a list of such -/
def IsL (Ps : List (V → Hp → Prop)) (v : V) (H : Hp) : Prop := ∃ (l : Addr) (xs : List V), v = .ref l ∧ H l = some (.lst xs) ∧ Each Ps xs H
def IsT (Ps : List (V → Hp → Prop)) (v : V) (H : Hp) : Prop := ∃ (l : Addr) (xs : List V), v = .ref l ∧ H l = some (.tup xs) ∧ Each Ps xs H
theorem up_isL (u : ∀ P ∈ Ps, Up P) : Up (IsL Ps) := fun v H H' e ⟨l, xs, h1, h2, h3⟩ => ⟨l, xs, h1, e _ _ h2, h3.up u e⟩
theorem up_isT (u : ∀ P ∈ Ps, Up P) : Up (IsT Ps) := fun v H H' e ⟨l, xs, h1, h2, h3⟩ => ⟨l, xs, h1, e _ _ h2, h3.up u e⟩
theorem ep_lst (u : ∀ P ∈ Ps, Up P) (h : EvPA tr σ H (Each Ps)) (small : Ps.length ≤ 100000) : EvP (tLst tr) σ H (IsL Ps) := fun H1 e Q q =>
  h H1 e _ fun vs H2 e2 ps => ⟨by rw [ps.len]; exact sz_of small, fun p hp => q _ _ (e2.trans (Ex.new hp)) ⟨p, vs, rfl, upd_same, ps.up u (Ex.new hp)⟩⟩
theorem ep_tup (u : ∀ P ∈ Ps, Up P) (h : EvPA tr σ H (Each Ps)) (small : Ps.length ≤ 100000) : EvP (tTup tr) σ H (IsT Ps) := fun H1 e Q q =>
  h H1 e _ fun vs H2 e2 ps => ⟨by rw [ps.len]; exact sz_of small, fun p hp => q _ _ (e2.trans (Ex.new hp)) ⟨p, vs, rfl, upd_same, ps.up u (Ex.new hp)⟩⟩
/-- two lists joined -/
theorem ep_cat (u1 : ∀ P ∈ Ps, Up P) (u2 : ∀ P ∈ Qs, Up P) (h1 : EvP ta σ H (IsL Ps)) (h2 : EvP tb σ H (IsL Qs)) (small : Ps.length + Qs.length ≤ 100000) : EvP (tOp rCat ta tb) σ H (IsL (Ps ++ Qs)) := fun H1 e Q q =>
  h1 H1 e _ fun v H2 e2 p1 => h2 H2 (e.trans e2) _ fun w H3 e3 p2 => by
    obtain ⟨l, xs, rfl, hl, ex⟩ := up_isL u1 v _ _ e3 p1
    obtain ⟨m, ys, rfl, hm, ey⟩ := p2
    refine ⟨l, m, xs, ys, rfl, rfl, hl, hm, by rw [ex.len, ey.len]; exact sz_of small, fun p hp => q _ _ ((e2.trans e3).trans (Ex.new hp)) ⟨p, xs ++ ys, rfl, upd_same, (ex.app ey).up ?_ (Ex.new hp)⟩⟩
    intro P hP
    rcases List.mem_append.mp hP with z | z
    · exact u1 P z
    · exact u2 P z
theorem s_asgP {D : Ends} {i : Nat} (h : EvP te σ H P) (k : ∀ v H1, Ex H H1 → P v H1 → D.nx (σ.set i (some v)) H1) : tAsg te (gName i) D σ H := h H (Ex.refl H) _ fun v H1 e p => k v H1 e p
theorem q_asgP {D : Ends} {tz : TS} {i : Nat} (h : EvP te σ H P) (k : ∀ v H1, Ex H H1 → P v H1 → tz D (σ.set i (some v)) H1) : tSeq (tAsg te (gName i)) tz D σ H := s_asgP (D := { D with nx := tz D }) h k
theorem s_retP {D : Ends} (h : EvP te σ H P) (k : ∀ v H1, Ex H H1 → P v H1 → D.rt v H1) : tRet te D σ H := h H (Ex.refl H) _ fun v H1 e p => k v H1 e p
theorem ep_var {i : Nat} (u : Up P) (h : σ[i]? = some (some v)) (p : P v H) : EvP (tVar i) σ H P := fun H1 e Q q => ⟨v, h, q v H1 (Ex.refl H1) (u _ _ _ e p)⟩
end

/-! ### own errors evaluate so -/
/-- an error of this class with these fields -/
def IsE (C : Addr) (fs : List (Str × V)) (v : V) (H : Hp) : Prop := ∃ e, v = .ref e ∧ ErrAt H e C fs
theorem up_isE (C : Addr) (fs : List (Str × V)) : Up (IsE C fs) := fun v H H' x ⟨e, h1, h2⟩ => ⟨e, h1, h2.mono x⟩
theorem up_eq (u : V) : Up (fun v _ => v = u) := fun _ _ _ _ h => h
section
variable {K : PySem.W.Frag} {σ : L2.St} {H : Hp} {ta tb : TE} {C : Addr} {f g : Str} {y z : V}
theorem made1 {H1 : Hp} {Q : VK} (T : OexC K C) (no : PySem.W.findIn K (.ref C) f = some none) (q : ∀ v H2, Ex H1 H2 → IsE C [(f, y)] v H2 → Q v H2) :
    ∀ a, H1 a = none → spI1 K f [.ref a, y] (upd H1 a (exo a C none)) (fun v H2 => v = .non ∧ Q (.ref a) H2) fun _ _ _ => False := fun a hn =>
  ⟨a, C, y, rfl, T, no, upd_same, fun dx hd ne => ⟨rfl, q _ _ (by
    have e1 : Ex H1 (upd H1 a (exo a C none)) := Ex.new hn
    have e2 : Ex (upd H1 a (exo a C none)) (upd (upd H1 a (exo a C none)) dx (exd dx [(f, y)])) := Ex.new hd
    exact (e1.trans e2).mut hn) ⟨a, rfl, .inl ⟨dx, upd_same, by rw [upd_ne ne]; exact upd_same⟩⟩⟩⟩
theorem made2 {H1 : Hp} {Q : VK} (T : OexC K C) (no : PySem.W.findIn K (.ref C) f = some none) (no2 : PySem.W.findIn K (.ref C) g = some none) (q : ∀ v H2, Ex H1 H2 → IsE C [(g, z), (f, y)] v H2 → Q v H2) :
    ∀ a, H1 a = none → spI2 K f g [.ref a, y, z] (upd H1 a (exo a C none)) (fun v H2 => v = .non ∧ Q (.ref a) H2) fun _ _ _ => False := fun a hn =>
  ⟨a, C, y, z, rfl, T, no, no2, upd_same, fun dx H' hd ne h1 h2 h3 => ⟨rfl, q _ _ (fun b o hb => by
    have n1 : b ≠ a := ne_of_none hb hn
    have n2 : b ≠ dx := fun e => by
      rw [e] at hb
      rw [upd_ne ne, hb] at hd
      cases hd
    rw [h3 b n1 n2, upd_ne n1]
    exact hb) ⟨a, rfl, .inl ⟨dx, h1, h2⟩⟩⟩⟩
theorem ep_err1 (T : OexC K C) (no : PySem.W.findIn K (.ref C) f = some none) (h : Ev ta σ H y) : EvP (tErr C (spI1 K f) (tCons ta tNil)) σ H (IsE C [(f, y)]) := fun H1 e Q q =>
  h H1 e _ fun H2 e2 => ⟨by show 1 ≤ 1000; decide, made1 T no fun v H3 e3 p => q v H3 (e2.trans e3) p⟩
theorem ep_err2 (T : OexC K C) (no : PySem.W.findIn K (.ref C) f = some none) (no2 : PySem.W.findIn K (.ref C) g = some none) (h : Ev ta σ H y) (h2 : Ev tb σ H z) :
    EvP (tErr C (spI2 K f g) (tCons ta (tCons tb tNil))) σ H (IsE C [(g, z), (f, y)]) := fun H1 e Q q =>
  h H1 e _ fun H2 e2 => h2 H2 (e.trans e2) _ fun H3 e3 => ⟨by show 2 ≤ 1000; decide, made2 T no no2 fun v H4 e4 p => q v H4 ((e2.trans e3).trans e4) p⟩
theorem ep_errK1 (T : OexC K C) (no : PySem.W.findIn K (.ref C) f = some none) (h : Ev ta σ H y) : EvP (tErrK C 1 (spI1 K f) List.reverse (tCons ta tNil)) σ H (IsE C [(f, y)]) := fun H1 e Q q =>
  h H1 e _ fun H2 e2 => ⟨rfl, by show 1 ≤ 1000; decide, made1 T no fun v H3 e3 p => q v H3 (e2.trans e3) p⟩
theorem ep_errK2 (T : OexC K C) (no : PySem.W.findIn K (.ref C) f = some none) (no2 : PySem.W.findIn K (.ref C) g = some none) (h2 : Ev tb σ H z) (h : Ev ta σ H y) :
    EvP (tErrK C 2 (spI2 K f g) List.reverse (tCons tb (tCons ta tNil))) σ H (IsE C [(g, z), (f, y)]) := fun H1 e Q q =>
  h2 H1 e _ fun H2 e2 => h H2 (e.trans e2) _ fun H3 e3 => ⟨rfl, by show 2 ≤ 1000; decide, made2 T no no2 fun v H4 e4 p => q v H4 ((e2.trans e3).trans e4) p⟩
theorem ep_bare {ta : TA} {vs : List V} (h : EvA ta σ H vs) (small : vs.length ≤ 1000) : EvP (tBare C ta) σ H (IsE C []) := fun H1 e Q q =>
  h H1 e _ fun H2 e2 => ⟨small, fun a hn => q _ _ (e2.trans (Ex.new hn)) ⟨a, rfl, .inr ⟨rfl, upd_same⟩⟩⟩
/-- e.f -/
theorem ev_errF {e : Addr} {fs : List (Str × V)} {v : V} (T : ExcC K C) (no : PySem.W.findIn K (.ref C) f = some none) (at_ : ErrAt H e C fs) (lk : fs.lookup f = some v) (h : Ev ta σ H (.ref e)) : Ev (tErrF K f ta) σ H v := fun H1 x Q q =>
  h H1 x _ fun H2 x2 => ⟨e, C, fs, v, rfl, T, no, at_.mono (x.trans x2), lk, q H2 x2⟩
/-- isinstance(e, D) -/
theorem rc_isErr {e : Addr} {fs : List (Str × V)} {c : V} {u : Value} {b : Bool} (T : ExcC K C) (k : ClsV c u) (at_ : ErrAt H e C fs) (hb : PySem.W.kitOne K (.ref C) u = some b) : RC (rIsErr K) [.ref e, c] H (.bl b) := fun H1 x _ q =>
  ⟨e, C, fs, c, u, b, rfl, k, T, at_.mono x, hb, q H1 (Ex.refl H1)⟩
theorem ev_isErr {e : Addr} {fs : List (Str × V)} {c : V} {u : Value} {b : Bool} (T : ExcC K C) (k : ClsV c u) (at_ : ErrAt H e C fs) (hb : PySem.W.kitOne K (.ref C) u = some b) (h : Ev ta σ H (.ref e)) : Ev (tCB (rIsErr K) (tCons ta (tCons (tC c) tNil))) σ H (.bl b) :=
  ev_cb (ea_cons h (ea_cons ev_c ea_nil)) (rc_isErr T k at_ hb)
end

/-! ### the __init__s -/
section
variable {K : PySem.W.Frag} {H : Hp} {Q : VK} {E : XK} {vs : List V}
theorem init1_reads {f : Str} {N : List Str} (hN : start N vs = vs.map some) (h : spI1 K f vs H Q E) : tOst K f (tVar 0) (tVar 1) { nx := fun _ H' => Q .non H', rt := Q } (start N vs) H := by
  obtain ⟨a, C, y, rfl, T, no, ha, k⟩ := h
  rw [hN]
  exact ⟨_, rfl, _, rfl, a, C, rfl, T, no, .inl ⟨ha, fun dx h1 h2 => k dx h1 h2⟩⟩
theorem init2_reads {f g : Str} {N : List Str} (hN : start N vs = vs.map some) (h : spI2 K f g vs H Q E) :
    tSeq (tOst K f (tVar 0) (tVar 1)) (tOst K g (tVar 0) (tVar 2)) { nx := fun _ H' => Q .non H', rt := Q } (start N vs) H := by
  obtain ⟨a, C, y, z, rfl, T, no, no2, ha, k⟩ := h
  rw [hN]
  refine ⟨_, rfl, _, rfl, a, C, rfl, T, no, .inl ⟨ha, fun dx h1 h2 => ?_⟩⟩
  refine ⟨_, rfl, _, rfl, a, C, rfl, T, no2, .inr ⟨dx, [(f, y)], upd_same, by rw [upd_ne h2]; exact upd_same, (by show 1 ≤ 900; decide), ?_⟩⟩
  refine k dx _ h1 h2 (by rw [upd_ne (Ne.symm h2)]; exact upd_same) upd_same fun b n1 n2 => ?_
  rw [upd_ne n2, upd_ne n1, upd_ne n2]
end
end KU

set_option Elab.async false
set_option linter.all false
set_option maxRecDepth 100000
set_option maxHeartbeats 4000000
/-! Displays of things with properties -/
namespace KU
open PySem PySem.Spec PyProof.Rows L2 Evl
def EvQ (te : TE) (σ : L2.St) (H : Hp) (P : V → Hp → Prop) : Prop := EvP te σ H P ∧ Up P
def EvQA (ta : TA) (σ : L2.St) (H : Hp) (Ps : List (V → Hp → Prop)) : Prop := EvPA ta σ H (Each Ps) ∧ ∀ P ∈ Ps, Up P
def Is (u : V) : V → Hp → Prop := fun v _ => v = u
/-- a list of just these values, above the startup's objects -/
def LstIs (vals : List V) : V → Hp → Prop := fun v H => ∃ l, v = .ref l ∧ l ≠ sysModules ∧ H l = some (.lst vals)
theorem up_lstIs (vals : List V) : Up (LstIs vals) := fun v H H' e ⟨l, h1, h2, h3⟩ => ⟨l, h1, h2, e _ _ h3⟩
section
variable {K : PySem.W.Frag} {σ : L2.St} {H : Hp} {ta te tb : TE} {tr : TA} {P : V → Hp → Prop} {Ps Qs : List (V → Hp → Prop)} {v y z : V} {C : Addr} {f g : Str}
theorem eq_nil : EvQA tNil σ H [] := ⟨ep_nil, fun P h => by cases h⟩
theorem eq_cons (h : EvQ te σ H P) (hr : EvQA tr σ H Ps) : EvQA (tCons te tr) σ H (P :: Ps) := ⟨ep_cons h.2 h.1 hr.1, fun Q hQ => by
  rcases List.mem_cons.mp hQ with e | e
  · rw [e]
    exact h.2
  · exact hr.2 Q e⟩
theorem eq_lst (h : EvQA tr σ H Ps) (small : Ps.length ≤ 1000) : EvQ (tLst tr) σ H (IsL Ps) := ⟨ep_lst h.2 h.1 (by omega), up_isL h.2⟩
theorem eq_tup (h : EvQA tr σ H Ps) (small : Ps.length ≤ 1000) : EvQ (tTup tr) σ H (IsT Ps) := ⟨ep_tup h.2 h.1 (by omega), up_isT h.2⟩
theorem eq_var {i : Nat} (h : σ[i]? = some (some v)) (u : Up P) (p : P v H) : EvQ (tVar i) σ H P := ⟨ep_var u h p, u⟩
theorem eq_of (h : Ev te σ H v) : EvQ te σ H (Is v) := ⟨EvP.of h, up_eq v⟩
theorem eq_cat (u1 : ∀ P ∈ Ps, Up P) (u2 : ∀ P ∈ Qs, Up P) (h1 : EvQ ta σ H (IsL Ps)) (h2 : EvQ tb σ H (IsL Qs)) (small : Ps.length + Qs.length ≤ 1000) : EvQ (tOp rCat ta tb) σ H (IsL (Ps ++ Qs)) := ⟨ep_cat u1 u2 h1.1 h2.1 (by omega), up_isL fun P hP => by
  rcases List.mem_append.mp hP with z | z
  · exact u1 P z
  · exact u2 P z⟩
/-- a list at a name and a display joined -/
theorem eq_more {i : Nat} (u1 : ∀ P ∈ Ps, Up P) (h : σ[i]? = some (some v)) (p : IsL Ps v H) (h2 : EvQA tr σ H Qs) (small : Ps.length + Qs.length ≤ 1000) : EvQ (tOp rCat (tVar i) (tLst tr)) σ H (IsL (Ps ++ Qs)) :=
  eq_cat u1 h2.2 (eq_var h (up_isL u1) p) (eq_lst h2 (by omega)) small
theorem ups_app (u1 : ∀ P ∈ Ps, Up P) (u2 : ∀ P ∈ Qs, Up P) : ∀ P ∈ Ps ++ Qs, Up P := fun P hP => by
  rcases List.mem_append.mp hP with z | z
  · exact u1 P z
  · exact u2 P z
theorem eq_lstB {vs : List V} (h : EvA tr σ H vs) (small : vs.length ≤ 1000) : EvQ (tLstB tr) σ H (LstIs vs) := ⟨fun H1 e Q q =>
  h H1 e _ fun H2 e2 => ⟨sz_of (by omega), fun p hp hb => q _ _ (e2.trans (Ex.new hp)) ⟨p, rfl, hb, upd_same⟩⟩, up_lstIs vs⟩
theorem eq_err1 (T : OexC K C) (no : ∀ x ∈ ([f] : List Str), PySem.W.findIn K (.ref C) x = some none) (h : Ev ta σ H y) : EvQ (tErr C (spI1 K f) (tCons ta tNil)) σ H (IsE C [(f, y)]) := ⟨ep_err1 T (no f (List.mem_cons_self ..)) h, up_isE _ _⟩
theorem eq_err2 (T : OexC K C) (no : ∀ x ∈ ([f, g] : List Str), PySem.W.findIn K (.ref C) x = some none) (h : Ev ta σ H y) (h2 : Ev tb σ H z) : EvQ (tErr C (spI2 K f g) (tCons ta (tCons tb tNil))) σ H (IsE C [(g, z), (f, y)]) :=
  ⟨ep_err2 T (no f (List.mem_cons_self ..)) (no g (List.mem_cons_of_mem _ (List.mem_cons_self ..))) h h2, up_isE _ _⟩
theorem eq_errK1 (T : OexC K C) (no : ∀ x ∈ ([f] : List Str), PySem.W.findIn K (.ref C) x = some none) (h : Ev ta σ H y) : EvQ (tErrK C 1 (spI1 K f) List.reverse (tCons ta tNil)) σ H (IsE C [(f, y)]) := ⟨ep_errK1 T (no f (List.mem_cons_self ..)) h, up_isE _ _⟩
theorem eq_errK2 (T : OexC K C) (no : ∀ x ∈ ([f, g] : List Str), PySem.W.findIn K (.ref C) x = some none) (h2 : Ev tb σ H z) (h : Ev ta σ H y) : EvQ (tErrK C 2 (spI2 K f g) List.reverse (tCons tb (tCons ta tNil))) σ H (IsE C [(g, z), (f, y)]) :=
  ⟨ep_errK2 T (no f (List.mem_cons_self ..)) (no g (List.mem_cons_of_mem _ (List.mem_cons_self ..))) h2 h, up_isE _ _⟩
theorem eq_bare {vs : List V} (h : EvA tr σ H vs) (small : vs.length ≤ 1000) : EvQ (tBare C tr) σ H (IsE C []) := ⟨ep_bare h small, up_isE _ _⟩
theorem q_asgQ {D : Ends} {tz : TS} {i : Nat} (h : EvQ te σ H P) (k : ∀ v H1, Ex H H1 → P v H1 → tz D (σ.set i (some v)) H1) : tSeq (tAsg te (gName i)) tz D σ H := q_asgP h.1 k
theorem s_retQ {D : Ends} (h : EvQ te σ H P) (k : ∀ v H1, Ex H H1 → P v H1 → D.rt v H1) : tRet te D σ H := s_retP h.1 k
end
/-- a list at an address joined with a new one -/
theorem el_cat {σ : L2.St} {H : Hp} {ta tb : TE} {p : Addr} {xs ys : List V} (h1 : Ev ta σ H (.ref p)) (hp : H p = some (.lst xs)) (h2 : EvL tb σ H ys) (small : xs.length + ys.length ≤ 1000) : EvL (tOp rCat ta tb) σ H (xs ++ ys) := fun H1 e Q q =>
  h1 H1 e _ fun H2 e2 => h2 H2 (e.trans e2) _ fun m H3 _ e3 hm => ⟨p, m, xs, ys, rfl, rfl, ((e.trans e2).trans e3) _ _ hp, hm, sz_of (by omega), fun l hl => q l _ (fresh_back (e2.trans e3) hl) ((e2.trans e3).trans (Ex.new hl)) upd_same⟩
end KU

set_option Elab.async false
set_option linter.all false
set_option maxRecDepth 100000
set_option maxHeartbeats 4000000
/-! The laws' draws: the mathematics and the heap that all of them share -/
namespace KU
open PySem PySem.Spec PyProof.Rows L2 Evl

def vints (ns : List Int) : List V := ns.map V.int
def dints (ns : List Int) : List PyData := ns.map PyData.int
theorem dp_ints {K : PySem.W.Frag} {H : Hp} : ∀ ns : List Int, DpAll K H (vints ns) (dints ns)
  | [] => .nil
  | n :: r => .cons (.int n) (dp_ints r)
theorem shaped_ints : ∀ ns : List Int, SeqAt.shaped (.list (dints ns)) = true := by
  intro ns
  have a : ∀ l : List Int, PyData.canLayAll0 (dints l) = true := by
    intro l
    induction l with
    | nil => rfl
    | cons n r ih => simpa [dints, PyData.canLayAll0, PyData.canLay0] using ih
  have b : ∀ l : List Int, PyData.depthAll (dints l) ≤ 1 := by
    intro l
    induction l with
    | nil => simp [dints, PyData.depthAll]
    | cons n r ih =>
      have z : PyData.depthAll (dints (n :: r)) = max (PyData.depth (.int n)) (PyData.depthAll (dints r)) := by simp [dints, PyData.depthAll]
      rw [z]
      have y : PyData.depth (.int n) ≤ 1 := by simp [PyData.depth]
      omega
  unfold SeqAt.shaped
  have c := b ns
  have d : PyData.depth (.list (dints ns)) ≤ 64 := by
    simp only [PyData.depth]
    omega
  simp only [PyData.canLay0, a ns, Bool.true_and, decide_eq_true d]
theorem eqv_empty (ns : List Int) : PyData.eqv (.list (dints ns)) (.list []) = decide (ns = []) := by
  cases ns with
  | nil => rfl
  | cons n r => simp [dints, PyData.eqv, PyData.eqvAll]

/-- nothing but what stands at P has changed -/
def But (P : Addr) (H H' : Hp) : Prop := ∀ b o, b ≠ P → H b = some o → H' b = some o
theorem But.refl (P : Addr) (H : Hp) : But P H H := fun _ _ _ h => h
theorem But.trans {P : Addr} {H H1 H2 : Hp} (a : But P H H1) (b : But P H1 H2) : But P H H2 := fun x o n h => b x o n (a x o n h)
theorem But.of_ex {P : Addr} {H H' : Hp} (e : Ex H H') : But P H H' := fun b o _ h => e b o h
theorem But.put {P : Addr} {H H' : Hp} {o : HO} (e : But P H H') : But P H (upd H' P o) := fun b u n h => by
  rw [upd_ne n]
  exact e b u n h
theorem But.ex {P : Addr} {H0 H H' : Hp} (e : Ex H0 H) (n : H0 P = none) (b : But P H H') : Ex H0 H' := fun a o h => b a o (fun z => by rw [z, n] at h; cases h) (e a o h)

/-- the draws' state at P: the cells at L, the next place s, what is left of a great cell -/
structure Pen (H : Hp) (P L : Addr) (ns : List Int) (s : Nat) (g : Int) : Prop where
  pen : H P = some (.lst [.ref L, .int s, .int g])
  cells : H L = some (.lst (vints ns))
  ne : L ≠ P
  few : ns.length ≤ 63
  left : 0 ≤ g
theorem Pen.mono {H H' : Hp} {P L : Addr} {ns : List Int} {s : Nat} {g : Int} (x : Ex H H') (p : Pen H P L ns s g) : Pen H' P L ns s g := ⟨x _ _ p.pen, x _ _ p.cells, p.ne, p.few, p.left⟩
/-- a number below m is drawn -/
def spDraw : Sp := fun vs H Q _ => ∃ (P L : Addr) (ns : List Int) (s : Nat) (g m : Int), vs = [.ref P, .int m] ∧ 0 < m ∧ m < 1000000000 ∧ Pen H P L ns s g ∧ s ≤ 1000 ∧
  ∀ (d : Nat) (s' : Nat) (g' : Int) (H' : Hp), (d : Int) < m → s' ≤ s + 1 → But P H H' → Pen H' P L ns s' g' → Q (.int d) H'
/-- one of some things (a list at l) is drawn -/
def spPick : Sp := fun vs H Q _ => ∃ (P L l : Addr) (ns : List Int) (xs : List V) (s : Nat) (g : Int), vs = [.ref P, .ref l] ∧ xs ≠ [] ∧ xs.length ≤ 1000 ∧ H l = some (.lst xs) ∧ l ≠ P ∧ Pen H P L ns s g ∧ s ≤ 1000 ∧
  ∀ (v : V) (s' : Nat) (g' : Int) (H' : Hp), v ∈ xs → s' ≤ s + 1 → But P H H' → Pen H' P L ns s' g' → Q v H'
/-- the state is made of the script -/
def spPen (K : PySem.W.Frag) : Sp := fun vs H Q _ => ∃ (a : Addr) (ns : List Int), vs = [.ref a] ∧ SqL K H a (vints ns) ∧ ns.length ≤ 63 ∧
  ∀ (P L : Addr) (ms : List Int) (H' : Hp), H P = none → Ex H H' → Pen H' P L ms 0 0 → Q (.ref P) H'

/-! ### readings of the built-ins that the draws ask -/
section
variable {K : PySem.W.Frag} {H : Hp}
def rInt1 : List V → Hp → VK → Prop := fun xs H Q => (∃ i, xs = [.int i] ∧ Q (.int i) H) ∨ ∃ k, xs = [.bl k] ∧ Q (.int (if k then 1 else 0)) H
def rAbs : List V → Hp → VK → Prop := fun xs H Q => ∃ i, xs = [.int i] ∧ Q (.int (if i < 0 then -i else i)) H
theorem rc_int (i : Int) : RC rInt1 [.int i] H (.int i) := fun H1 _ _ q => .inl ⟨i, rfl, q H1 (Ex.refl H1)⟩
theorem rc_bool (k : Bool) : RC rInt1 [.bl k] H (.int (if k then 1 else 0)) := fun H1 _ _ q => .inr ⟨k, rfl, q H1 (Ex.refl H1)⟩
theorem rc_abs (i : Int) : RC rAbs [.int i] H (.int (if i < 0 then -i else i)) := fun H1 _ _ q => ⟨i, rfl, q H1 (Ex.refl H1)⟩
theorem rv_neD {x y : V} {d e : PyData} (hd : ∀ H1, Ex H H1 → Dp K H1 x d) (he : ∀ H1, Ex H H1 → Dp K H1 y e) (sd : SeqAt.shaped d = true) (se : SeqAt.shaped e = true) : RV (rNeD K) x y H (.bl (!PyData.eqv d e)) :=
  fun H1 x1 _ q => ⟨d, e, hd H1 x1, he H1 x1, sd, se, q H1 (Ex.refl H1)⟩
end
/-! ### bounds -/
theorem bound_mix {m s : Int} (h0 : 0 ≤ m) (h1 : m < 2147483648) (h2 : 0 ≤ s) (h3 : s ≤ 1000) {a b c d : Int} (ha : 0 ≤ a) (ha' : a ≤ 10) (hb : 0 ≤ b) (hb' : b ≤ 1000000) (hc : 0 ≤ c) (hc' : c ≤ 10000000) (hd : 0 ≤ d) (hd' : d ≤ 1000000000) :
    0 ≤ m * (a * s + b) + c * s * s + d ∧ m * (a * s + b) + c * s * s + d < 18446744073709551616 := by
  have e1 : a * s ≤ 10 * 1000 := Int.mul_le_mul ha' h3 h2 (by omega)
  have e2 : 0 ≤ a * s := Int.mul_nonneg ha h2
  have e3 : m * (a * s + b) ≤ 2147483648 * 1010000 := Int.mul_le_mul (by omega) (by omega) (by omega) (by omega)
  have e4 : 0 ≤ m * (a * s + b) := Int.mul_nonneg h0 (by omega)
  have e5 : c * s ≤ 10000000 * 1000 := Int.mul_le_mul hc' h3 h2 (by omega)
  have e6 : 0 ≤ c * s := Int.mul_nonneg hc h2
  have e7 : c * s * s ≤ 10000000000 * 1000 := Int.mul_le_mul (by omega) h3 h2 (by omega)
  have e8 : 0 ≤ c * s * s := Int.mul_nonneg e6 h2
  omega
end KU

set_option Elab.async false
set_option linter.all false
set_option maxRecDepth 100000
set_option maxHeartbeats 4000000
/-! Data and their reprs, tests whose answer is no -/
namespace KU
open PySem PySem.Spec PyProof.Rows L2 Evl
mutual
theorem RD.mono {K : PySem.W.Frag} {H H' : Hp} (x : Ex H H') : ∀ {v : V} {d : PyData}, RD K H v d → RD K H' v d
  | _, _, .non => .non
  | _, _, .bl b => .bl b
  | _, _, .int i => .int i
  | _, _, .str s => .str s
  | _, _, .tup h r => .tup (ex_t x h) (RDs.mono x r)
  | _, _, .lst h n r => .lst (ex_l x h) n (RDs.mono x r)
  | _, _, .dic h => .dic (x _ _ h)
theorem RDs.mono {K : PySem.W.Frag} {H H' : Hp} (x : Ex H H') : ∀ {vs : List V} {ds : List PyData}, RDs K H vs ds → RDs K H' vs ds
  | _, _, .nil => .nil
  | _, _, .cons h r => .cons (RD.mono x h) (RDs.mono x r)
end
/-- small enough for repr -/
def shows (d : PyData) : Bool := d.showable && decide (d.depth ≤ 60) && decide (d.shown.length ≤ 100000)
section
variable {K : PySem.W.Frag} {σ : L2.St} {H : Hp} {te ta tb : TE} {P : V → Hp → Prop}
theorem ev_repr {vals : List V} {ds : List PyData} (h : EvP te σ H (LstIs vals)) (r : RDs K H vals ds) (ok : shows (.list ds) = true) : Ev (tCB (rRepr K) (tCons te tNil)) σ H (.str (PyData.list ds).shown) := fun H1 e Q q =>
  h H1 e _ fun v H2 e2 p => by
    obtain ⟨l, rfl, hb, hl⟩ := p
    unfold shows at ok
    simp only [Bool.and_eq_true, decide_eq_true_eq] at ok
    exact ⟨l, .list ds, rfl, .lst (.inl (.inl hl)) hb (r.mono (e.trans e2)), ok.1.1, ok.1.2, ok.2, q H2 e2⟩
theorem et_neS {t : Str} (a : Ev ta σ H (.str t)) (b : Ev tb σ H (.str t)) : EvT (tTest (tOp rNe ta tb)) σ H false := by
  have z := et_test (ev_op a b (rv_ne rfl))
  rw [decide_eq_true rfl] at z
  exact z
theorem et_neL {xs : List Int} (a : EvL ta σ H (vints xs)) (b : EvL tb σ H (vints xs)) (same : PyData.eqv (.list (dints xs)) (.list (dints xs)) = true) : EvT (tTest (tOp (rNeD K) ta tb)) σ H false := by
  have z := et_test (ev_opLL (r := rNeD K) (z := .bl (!PyData.eqv (.list (dints xs)) (.list (dints xs)))) a b fun p q H1 hp hq x =>
    rv_neD (fun H2 x2 => .lst (sq_of (x2 _ _ hp)) (dp_ints xs)) (fun H2 x2 => .lst (sq_of (x2 _ _ hq)) (dp_ints xs)) (shaped_ints xs) (shaped_ints xs))
  rw [same] at z
  exact z
theorem eqv_one (i : Int) : PyData.eqv (.list (dints [i])) (.list (dints [i])) = true := by simp [dints, PyData.eqv, PyData.eqvAll]
theorem et_or2 {t u : TT} (a : EvT t σ H false) (b : EvT u σ H false) : EvT (tOr t u) σ H false := et_or a fun _ => b
theorem et_no {t : TT} (a : EvT t σ H true) : EvT (tNot t) σ H false := et_not a
theorem ev_isP {C : Addr} {fs : List (Str × V)} {c : V} {u : Value} {b : Bool} (h : EvP te σ H (IsE C fs)) (T : ExcC K C) (k : ClsV c u) (hb : PySem.W.kitOne K (.ref C) u = some b) : Ev (tCB (rIsErr K) (tCons te (tCons (tC c) tNil))) σ H (.bl b) := fun H1 e Q q =>
  h H1 e _ fun v H2 e2 p => by
    obtain ⟨a, rfl, at_⟩ := p
    exact ⟨a, C, fs, c, u, b, rfl, k, T, at_, hb, q H2 e2⟩
/-- a call whose promise tells a property of the answer -/
theorem ep_call {sp : Sp} {E : XK} {ta : TA} {vs : List V} (h : EvA ta σ H vs) (p : ∀ H1, Ex H H1 → ∀ Q : VK, (∀ v H2, Ex H1 H2 → P v H2 → Q v H2) → sp (vs ++ []) H1 Q E) : EvP (tCall sp [] E ta) σ H P := fun H1 e Q q =>
  h H1 e _ fun H2 e2 => p H2 (e.trans e2) Q fun v H3 e3 pv => q v H3 (e2.trans e3) pv
end
end KU

set_option Elab.async false
set_option linter.all false
set_option maxRecDepth 100000
set_option maxHeartbeats 4000000
/-! The reading of a draw, its numbers as letters -/
namespace KU
open PySem PySem.Spec PyProof.Rows L2 Evl
abbrev rAddI : R2 := rI0 fun i j => .int (i + j)
abbrev rSubI : R2 := rI0 fun i j => .int (i - j)
abbrev rMulI : R2 := rI CMul fun i j => .int (i * j)
abbrev rModI : R2 := rI (fun _ j => 0 < j) fun i j => .int (i % j)
abbrev rDivI : R2 := rI CDiv fun i j => .int (i / j)
abbrev rPowI : R2 := rI CPow fun i j => .int (i ^ j.toNat)
abbrev rLtI : R2 := rI0 fun i j => .bl (decide (i < j))
abbrev rGtI : R2 := rI0 fun i j => .bl (decide (j < i))
abbrev rGeI : R2 := rI0 fun i j => .bl (decide (j ≤ i))
abbrev tIntOf (t : TE) : TE := tCB rInt1 (tCons t tNil)
abbrev tAbsOf (t : TE) : TE := tCB rAbs (tCons t tNil)
abbrev tLenOf (K : PySem.W.Frag) (t : TE) : TE := tCB (rLenS K) (tCons t tNil)
abbrev cI (i : Int) : TE := tC (.int i)
/-- an item of the state -/
abbrev tPg (K : PySem.W.Frag) (j : Int) : TE := tOp (rIxL K) (tVar 0) (cI j)
def tGreat (K : PySem.W.Frag) : TS := tSeq (tAsg (tOp rAddI (tOp rMulI (cI 2) (tOp rSubI (tAbsOf (tVar 4)) (tOp rPowI (cI 10) (cI 18)))) (tIntOf (tOp rLtI (tVar 4) (cI 0)))) (gName 5))
  (tSeq (tAsg (tOp rDivI (tIntOf (tVar 5)) (tVar 1)) (gSub (tVar 0) (cI 2) rSetL)) (tRet (tOp rModI (tIntOf (tVar 5)) (tVar 1))))
def tMix (p1 a1 b1 p2 a2 b2 c2 d2 p3 : Int) : TS :=
  tSeq (tAsg (tOp rModI (tIntOf (tOp rPowI (tOp rAddI (tOp rAddI (tOp rModI (tIntOf (tVar 4)) (cI p1)) (tOp rMulI (cI a1) (tVar 3))) (cI b1)) (cI 5))) (cI p2)) (gName 6))
  (tSeq (tAsg (tOp rModI (tIntOf (tOp rPowI (tOp rAddI (tOp rAddI (tOp rMulI (tVar 6) (tOp rAddI (tOp rMulI (cI a2) (tVar 3)) (cI b2))) (tOp rMulI (tOp rMulI (cI c2) (tVar 3)) (tVar 3))) (cI d2)) (cI 3))) (cI p3)) (gName 6))
  (tRet (tOp rModI (tIntOf (tOp rDivI (tVar 6) (cI 32))) (tVar 1))))
def tDraw (K : PySem.W.Frag) (c1 c0 p1 a1 b1 p2 a2 b2 c2 d2 p3 : Int) : TS :=
  tSeq (tIfS (tTest (tOp rGtI (tPg K 2) (cI 0)))
    (tSeq (tAsg (tOp rModI (tIntOf (tPg K 2)) (tVar 1)) (gName 2)) (tSeq (tAsg (tOp rDivI (tIntOf (tPg K 2)) (tVar 1)) (gSub (tVar 0) (cI 2) rSetL)) (tRet (tVar 2)))) tNext)
  (tSeq (tAsg (tPg K 1) (gName 3))
  (tSeq (tAsg (tOp rAddI (tVar 3) (cI 1)) (gSub (tVar 0) (cI 1) rSetL))
  (tSeq (tAsg (tOp rAddI (tOp rMulI (cI c1) (tVar 3)) (cI c0)) (gName 4))
  (tSeq (tIfS (tTest (tOp (rNeD K) (tPg K 0) (tLst tNil))) (tAsg (tOp (rIxL K) (tPg K 0) (tOp rModI (tIntOf (tVar 3)) (tLenOf K (tPg K 0)))) (gName 4)) tNext)
  (tSeq (tIfS (tAnd (tTest (tOp rLtI (tVar 3) (tLenOf K (tPg K 0)))) (tTest (tOp rGeI (tAbsOf (tVar 4)) (tOp rPowI (cI 10) (cI 18))))) (tGreat K) tNext)
  (tMix p1 a1 b1 p2 a2 b2 c2 d2 p3))))))

section
variable {K : PySem.W.Frag} {σ : L2.St} {H : Hp} {te ta tb : TE}
theorem ev_int1 {i : Int} (h : Ev te σ H (.int i)) : Ev (tIntOf te) σ H (.int i) := ev_cb (ea_cons h ea_nil) (rc_int i)
theorem ev_bool1 {k : Bool} (h : Ev te σ H (.bl k)) : Ev (tIntOf te) σ H (.int (if k then 1 else 0)) := ev_cb (ea_cons h ea_nil) (rc_bool k)
theorem ev_abs1 {i : Int} (h : Ev te σ H (.int i)) : Ev (tAbsOf te) σ H (.int (if i < 0 then -i else i)) := ev_cb (ea_cons h ea_nil) (rc_abs i)
theorem ev_add {i j : Int} (a : Ev ta σ H (.int i)) (b : Ev tb σ H (.int j)) : Ev (tOp rAddI ta tb) σ H (.int (i + j)) := ev_op a b rv_I0
theorem ev_sub {i j : Int} (a : Ev ta σ H (.int i)) (b : Ev tb σ H (.int j)) : Ev (tOp rSubI ta tb) σ H (.int (i - j)) := ev_op a b rv_I0
theorem ev_mul {i j : Int} (c : CMul i j) (a : Ev ta σ H (.int i)) (b : Ev tb σ H (.int j)) : Ev (tOp rMulI ta tb) σ H (.int (i * j)) := ev_op a b (rv_I c)
theorem ev_mod {i j : Int} (c : 0 < j) (a : Ev ta σ H (.int i)) (b : Ev tb σ H (.int j)) : Ev (tOp rModI ta tb) σ H (.int (i % j)) := ev_op a b (rv_I (C := fun _ j => 0 < j) c)
theorem ev_div {i j : Int} (c : CDiv i j) (a : Ev ta σ H (.int i)) (b : Ev tb σ H (.int j)) : Ev (tOp rDivI ta tb) σ H (.int (i / j)) := ev_op a b (rv_I c)
theorem ev_pow {i j : Int} (c : CPow i j) (a : Ev ta σ H (.int i)) (b : Ev tb σ H (.int j)) : Ev (tOp rPowI ta tb) σ H (.int (i ^ j.toNat)) := ev_op a b (rv_I c)
theorem ev_pg {P L : Addr} {ns : List Int} {s : Nat} {g : Int} {j : Int} {v : V} (p : Pen H P L ns s g) (h0 : σ[0]? = some (some (.ref P))) (hv : atI ([.ref L, .int s, .int g] : List V) j = some v) : Ev (tPg K j) σ H v :=
  ev_op (ev_var h0) ev_c (rv_ixL (sq_of p.pen) hv)
theorem ev_lenC {P L : Addr} {ns : List Int} {s : Nat} {g : Int} (p : Pen H P L ns s g) (h0 : σ[0]? = some (some (.ref P))) : Ev (tLenOf K (tPg K 0)) σ H (.int (ns.length : Int)) := by
  have h := ev_len (K := K) (ev_pg (K := K) (σ := σ) (j := 0) p h0 rfl) (sq_of p.cells)
  have e : (vints ns).length = ns.length := by simp [vints]
  rw [e] at h
  exact h
end
theorem small_mul {a b : Int} (h0 : 0 ≤ a) (h1 : a < 18446744073709551616) : CMul a b := .inl ⟨by omega, by omega⟩
theorem mix_reads {p1 a1 b1 p2 a2 b2 c2 d2 p3 : Int} (hp1 : 0 < p1 ∧ p1 < 2147483648) (ha1 : 0 ≤ a1 ∧ a1 ≤ 10000000) (hb1 : 0 ≤ b1 ∧ b1 ≤ 1000000000) (hp2 : 0 < p2 ∧ p2 < 2147483648) (ha2 : 0 ≤ a2 ∧ a2 ≤ 10) (hb2 : 0 ≤ b2 ∧ b2 ≤ 1000000)
    (hc2 : 0 ≤ c2 ∧ c2 ≤ 10000000) (hd2 : 0 ≤ d2 ∧ d2 ≤ 1000000000) (hp3 : 0 < p3) {P : Addr} {m c : Int} {s : Nat} {x2 x5 x6 : Option V} {H : Hp} {Q : VK} (m0 : 0 < m) (s0 : s ≤ 1000)
    (k : ∀ (d : Nat) (H' : Hp), (d : Int) < m → Ex H H' → Q (.int d) H') :
    tMix p1 a1 b1 p2 a2 b2 c2 d2 p3 { nx := fun _ H' => Q .non H', rt := Q } [some (.ref P), some (.int m), x2, some (.int (s : Int)), some (.int c), x5, x6] H := by
  have e1 : 0 ≤ c % p1 := Int.emod_nonneg _ (by omega)
  have e2 : c % p1 < p1 := Int.emod_lt_of_pos _ hp1.1
  have e3 : 0 ≤ a1 * (s : Int) := Int.mul_nonneg ha1.1 (by omega)
  have e4 : a1 * (s : Int) ≤ 10000000 * 1000 := Int.mul_le_mul ha1.2 (by omega) (by omega) (by omega)
  have f0 : 0 ≤ (c % p1 + a1 * (s : Int) + b1) ^ 5 % p2 := Int.emod_nonneg _ (by omega)
  have f1 : (c % p1 + a1 * (s : Int) + b1) ^ 5 % p2 < p2 := Int.emod_lt_of_pos _ hp2.1
  refine q_asg (ev_mod hp2.1 (ev_int1 (ev_pow (i := c % p1 + a1 * (s : Int) + b1) (j := 5) ⟨by omega, by omega, by omega⟩ (ev_add (ev_add (ev_mod hp1.1 (ev_int1 (ev_var rfl)) ev_c) (ev_mul (small_mul ha1.1 (by omega)) ev_c (ev_var rfl))) ev_c) ev_c)) ev_c) fun H1 x1 => ?_
  have e5 : (5 : Int).toNat = 5 := rfl
  rw [e5]
  generalize hm : (c % p1 + a1 * (s : Int) + b1) ^ 5 % p2 = mx at f0 f1 ⊢
  have bd := bound_mix (m := mx) (s := (s : Int)) f0 (by omega) (by omega) (by omega) ha2.1 ha2.2 hb2.1 hb2.2 hc2.1 hc2.2 hd2.1 hd2.2
  have e6 : 0 ≤ c2 * (s : Int) := Int.mul_nonneg hc2.1 (by omega)
  have e7 : c2 * (s : Int) ≤ 10000000 * 1000 := Int.mul_le_mul hc2.2 (by omega) (by omega) (by omega)
  have g0 : 0 ≤ (mx * (a2 * (s : Int) + b2) + c2 * (s : Int) * (s : Int) + d2) ^ 3 % p3 := Int.emod_nonneg _ (by omega)
  refine q_asg (ev_mod hp3 (ev_int1 (ev_pow (i := mx * (a2 * (s : Int) + b2) + c2 * (s : Int) * (s : Int) + d2) (j := 3) ⟨by omega, by omega, by omega⟩
    (ev_add (ev_add (ev_mul (small_mul f0 (by omega)) (ev_var rfl) (ev_add (ev_mul (small_mul ha2.1 (by omega)) ev_c (ev_var rfl)) ev_c)) (ev_mul (small_mul e6 (by omega)) (ev_mul (small_mul hc2.1 (by omega)) ev_c (ev_var rfl)) (ev_var rfl))) ev_c) ev_c)) ev_c) fun H2 x2 => ?_
  have e8 : (3 : Int).toNat = 3 := rfl
  rw [e8]
  generalize hn : (mx * (a2 * (s : Int) + b2) + c2 * (s : Int) * (s : Int) + d2) ^ 3 % p3 = my at g0 ⊢
  refine s_ret (ev_mod m0 (ev_int1 (ev_div (i := my) (j := 32) ⟨by decide, by decide⟩ (ev_var rfl) ev_c)) (ev_var rfl)) fun H3 x3 => ?_
  have h0 : 0 ≤ my / 32 % m := Int.emod_nonneg _ (by omega)
  have h1 : my / 32 % m < m := Int.emod_lt_of_pos _ m0
  have h2 : ((my / 32 % m).toNat : Int) = my / 32 % m := Int.toNat_of_nonneg h0
  have z := k (my / 32 % m).toNat H3 (by omega) ((x1.trans x2).trans x3)
  rw [h2] at z
  exact z
theorem draw_reads {K : PySem.W.Frag} {c1 c0 p1 a1 b1 p2 a2 b2 c2 d2 p3 : Int} (hc1 : 0 ≤ c1 ∧ c1 ≤ 10000000) (hp1 : 0 < p1 ∧ p1 < 2147483648) (ha1 : 0 ≤ a1 ∧ a1 ≤ 10000000) (hb1 : 0 ≤ b1 ∧ b1 ≤ 1000000000) (hp2 : 0 < p2 ∧ p2 < 2147483648)
    (ha2 : 0 ≤ a2 ∧ a2 ≤ 10) (hb2 : 0 ≤ b2 ∧ b2 ≤ 1000000) (hc2 : 0 ≤ c2 ∧ c2 ≤ 10000000) (hd2 : 0 ≤ d2 ∧ d2 ≤ 1000000000) (hp3 : 0 < p3) {P L : Addr} {ns : List Int} {s : Nat} {g m : Int} {H : Hp} {Q : VK}
    (m0 : 0 < m) (m1 : m < 1000000000) (pen : Pen H P L ns s g) (s0 : s ≤ 1000)
    (k : ∀ (d : Nat) (s' : Nat) (g' : Int) (H' : Hp), (d : Int) < m → s' ≤ s + 1 → But P H H' → Pen H' P L ns s' g' → Q (.int d) H') :
    tDraw K c1 c0 p1 a1 b1 p2 a2 b2 c2 d2 p3 { nx := fun _ H' => Q .non H', rt := Q } [some (.ref P), some (.int m), none, none, none, none, none] H := by
  -- what the state is behind a store
  have stored : ∀ {H1 : Hp} {s' : Nat} {g' : Int}, Ex H H1 → 0 ≤ g' → Pen (upd H1 P (.lst [.ref L, .int s', .int g'])) P L ns s' g' := fun {H1 s' g'} x h =>
    ⟨upd_same, by rw [upd_ne pen.ne]; exact x _ _ pen.cells, pen.ne, pen.few, h⟩
  have hdv : CDiv 0 m := ⟨m0, by omega⟩
  refine q_when (b := decide (0 < g)) (et_test (ev_op (ev_pg pen rfl rfl) ev_c rv_I0)) (fun hb H1 x1 => ?_) (fun _ H1 x1 => ?_)
  · -- a digit of a great cell
    have pen1 := pen.mono x1
    have h0 : 0 ≤ g % m := Int.emod_nonneg _ (by omega)
    have h1 : g % m < m := Int.emod_lt_of_pos _ m0
    have h2 : ((g % m).toNat : Int) = g % m := Int.toNat_of_nonneg h0
    refine q_asg (ev_mod m0 (ev_int1 (ev_pg pen1 rfl rfl)) (ev_var rfl)) fun H2 x2 => ?_
    have pen2 := pen1.mono x2
    refine q_setL (j := 2) pen2.pen (ev_div ⟨m0, by omega⟩ (ev_int1 (ev_pg pen2 rfl rfl)) (ev_var rfl)) (ev_var rfl) ev_c (by show 2 < 3; decide) fun H3 x3 => ?_
    refine s_ret (ev_var rfl) fun H4 x4 => ?_
    have x03 := (x1.trans x2).trans x3
    have z := k (g % m).toNat s (g / m) H4 (by omega) (Nat.le_succ _) ((But.put (But.of_ex x03)).trans (But.of_ex x4)) ((stored x03 (Int.ediv_nonneg pen.left (by omega))).mono x4)
    rw [h2] at z
    exact z
  · have pen1 := pen.mono x1
    refine q_asg (ev_pg pen1 rfl rfl) fun H2 x2 => ?_
    have pen2 := pen1.mono x2
    refine q_setL (j := 1) pen2.pen (ev_add (ev_var rfl) ev_c) (ev_var rfl) ev_c (by show 1 < 3; decide) fun H3 x3 => ?_
    have x03 := (x1.trans x2).trans x3
    have pen4 : Pen (upd H3 P (.lst [.ref L, .int ((s + 1 : Nat) : Int), .int g])) P L ns (s + 1) g := stored x03 pen.left
    have but4 : But P H (upd H3 P (.lst [.ref L, .int ((s + 1 : Nat) : Int), .int g])) := But.put (But.of_ex x03)
    show tSeq _ _ _ _ (upd H3 P (.lst [.ref L, .int ((s + 1 : Nat) : Int), .int g]))
    generalize hH : upd H3 P (HO.lst [V.ref L, V.int ((s + 1 : Nat) : Int), V.int g]) = H4 at pen4 but4 ⊢
    refine q_asg (ev_add (ev_mul (small_mul hc1.1 (by omega)) ev_c (ev_var rfl)) ev_c) fun H5 x5 => ?_
    have pen5 := pen4.mono x5
    -- the cell, if there is one
    have tail : ∀ (c : Int) (H6 : Hp), Ex H4 H6 → tSeq (tIfS (tAnd (tTest (tOp rLtI (tVar 3) (tLenOf K (tPg K 0)))) (tTest (tOp rGeI (tAbsOf (tVar 4)) (tOp rPowI (cI 10) (cI 18))))) (tGreat K) tNext) (tMix p1 a1 b1 p2 a2 b2 c2 d2 p3)
        { nx := fun _ H' => Q .non H', rt := Q } [some (.ref P), some (.int m), none, some (.int (s : Int)), some (.int c), none, none] H6 := by
      intro c H6 x6
      have pen6 := pen4.mono x6
      refine q_when (et_and (et_test (ev_op (ev_var rfl) (ev_lenC pen6 rfl) rv_I0)) fun _ => et_test (ev_op (ev_abs1 (ev_var rfl)) (ev_pow (i := 10) (j := 18) ⟨by decide, by decide, by decide⟩ ev_c ev_c) rv_I0)) (fun hb H7 x7 => ?_) (fun _ H7 x7 => ?_)
      · have hb2 : (10 : Int) ^ (18 : Int).toNat ≤ (if c < 0 then -c else c) := by
          have := (Bool.and_eq_true_iff.mp hb).2
          exact of_decide_eq_true this
        have pen7 := pen6.mono x7
        refine q_asg (ev_add (ev_mul (small_mul (by decide) (by decide)) ev_c (ev_sub (ev_abs1 (ev_var rfl)) (ev_pow (i := 10) (j := 18) ⟨by decide, by decide, by decide⟩ ev_c ev_c))) (ev_bool1 (ev_op (ev_var rfl) ev_c rv_I0))) fun H8 x8 => ?_
        have ge : 0 ≤ 2 * ((if c < 0 then -c else c) - (10 : Int) ^ (18 : Int).toNat) + (if decide (c < 0) = true then 1 else 0) := by
          have : (0 : Int) ≤ if decide (c < 0) = true then 1 else 0 := by split <;> decide
          omega
        generalize 2 * ((if c < 0 then -c else c) - (10 : Int) ^ (18 : Int).toNat) + (if decide (c < 0) = true then 1 else 0) = gr at ge ⊢
        have pen8 := pen7.mono x8
        refine q_setL (j := 2) pen8.pen (ev_div ⟨m0, by omega⟩ (ev_int1 (ev_var rfl)) (ev_var rfl)) (ev_var rfl) ev_c (by show 2 < 3; decide) fun H9 x9 => ?_
        refine s_ret (ev_mod m0 (ev_int1 (ev_var rfl)) (ev_var rfl)) fun H10 x10 => ?_
        have h0 : 0 ≤ gr % m := Int.emod_nonneg _ (by omega)
        have h1 : gr % m < m := Int.emod_lt_of_pos _ m0
        have h2 : ((gr % m).toNat : Int) = gr % m := Int.toNat_of_nonneg h0
        have x49 := ((x6.trans x7).trans x8).trans x9
        have pen9 : Pen (upd H9 P (.lst [.ref L, .int ((s + 1 : Nat) : Int), .int (gr / m)])) P L ns (s + 1) (gr / m) :=
          ⟨upd_same, by rw [upd_ne pen.ne]; exact x49 _ _ pen4.cells, pen.ne, pen.few, Int.ediv_nonneg ge (by omega)⟩
        have z := k (gr % m).toNat (s + 1) (gr / m) H10 (by omega) (Nat.le_refl _) ((but4.trans (But.put (But.of_ex x49))).trans (But.of_ex x10)) (pen9.mono x10)
        rw [h2] at z
        exact z
      · exact mix_reads hp1 ha1 hb1 hp2 ha2 hb2 hc2 hd2 hp3 m0 s0 fun d H8 hd x8 => k d (s + 1) g H8 hd (Nat.le_refl _) (but4.trans (But.of_ex ((x6.trans x7).trans x8))) (pen4.mono ((x6.trans x7).trans x8))
    refine q_when (b := !PyData.eqv (.list (dints ns)) (.list [])) (et_test (ev_opL (ev_pg pen5 rfl rfl) (el_lst ea_nil (Nat.zero_le _)) fun p H6 hp x6 =>
      rv_neD (fun H7 x7 => .lst (sq_of ((x6.trans x7) _ _ pen5.cells)) (dp_ints ns)) (fun H7 x7 => .lst (sq_of (x7 _ _ hp)) .nil) (shaped_ints ns) (shaped_ints []))) (fun hb H6 x6 => ?_) (fun _ H6 x6 => tail _ H6 (x5.trans x6))
    have hn : 0 < ns.length := by
      rw [eqv_empty] at hb
      cases ns with
      | nil => exact absurd hb (by decide)
      | cons a r => exact Nat.succ_pos _
    have pen6 := pen5.mono x6
    have hlt : s % ns.length < ns.length := Nat.mod_lt _ hn
    refine s_asg (ev_op (ev_pg pen6 rfl rfl) (ev_mod (by omega) (ev_int1 (ev_var rfl)) (ev_lenC pen6 rfl)) (rv_ixL (v := .int (ns[s % ns.length]'hlt)) (sq_of pen6.cells) ?_)) fun H7 x7 => tail _ H7 ((x5.trans x6).trans x7)
    have e : ((s : Int) % (ns.length : Int)) = ((s % ns.length : Nat) : Int) := by simp
    rw [e]
    refine atI_nat ?_
    simp [vints, List.getElem?_map, List.getElem?_eq_getElem hlt]
theorem cut_ints (ns : List Int) (lo hi : Option Int) : ∃ ms : List Int, cutV (vints ns) lo hi = vints ms ∧ ms.length ≤ ns.length := by
  refine ⟨(ns.drop (HT.sIx (vints ns).length 0 lo)).take (HT.sIx (vints ns).length (vints ns).length hi - HT.sIx (vints ns).length 0 lo), ?_, ?_⟩
  · unfold cutV vints
    rw [List.map_take, List.map_drop]
  · rw [List.length_take, List.length_drop]
    omega
/-- [list(script[:n]), 0, 0] -/
def tPen (K : PySem.W.Frag) (n : Int) : TS := tRet (tLst (tCons (tCB (rListS K) (tCons (tSl (rSlL K) (tVar 0) tNoPart (tPart (cI n))) tNil)) (tCons (cI 0) (tCons (cI 0) tNil))))
theorem pen_reads {K : PySem.W.Frag} {n : Int} {a : Addr} {ns : List Int} {H : Hp} {Q : VK} (hS : SqL K H a (vints ns)) (hl : ns.length ≤ 63)
    (k : ∀ (P L : Addr) (ms : List Int) (H' : Hp), H P = none → Ex H H' → Pen H' P L ms 0 0 → Q (.ref P) H') : tPen K n { nx := fun _ H' => Q .non H', rt := Q } [some (.ref a)] H := by
  obtain ⟨ms, hm, hlen⟩ := cut_ints ns none (some n)
  refine ⟨_, rfl, n, rfl, a, vints ns, rfl, hS, fun p hp => ?_⟩
  rw [hm]
  refine ⟨p, vints ms, rfl, .inl (sq_of upd_same), fun l hl' => ⟨by show 3 ≤ sizeLine; decide, fun P hP => ?_⟩⟩
  have e1 : Ex H (upd H p (.lst (vints ms))) := Ex.new hp
  have e2 : Ex (upd H p (.lst (vints ms))) (upd (upd H p (.lst (vints ms))) l (.lst (vints ms))) := Ex.new hl'
  have ne : l ≠ P := ne_of_none upd_same hP
  exact k P l ms _ (fresh_back (e1.trans e2) hP) ((e1.trans e2).trans (Ex.new hP)) ⟨upd_same, by rw [upd_ne ne]; exact upd_same, ne, by omega, Int.le_refl _⟩
/-- some[draw(pen, len(some))] -/
def tPick (K : PySem.W.Frag) : TS := tRet (tOp (rIxL K) (tVar 1) (tCall spDraw [] E0 (tCons (tVar 0) (tCons (tLenOf K (tVar 1)) tNil))))
theorem pick_reads {K : PySem.W.Frag} {P L l : Addr} {ns : List Int} {xs : List V} {s : Nat} {g : Int} {H : Hp} {Q : VK} (x0 : xs ≠ []) (xl : xs.length ≤ 1000) (hl : H l = some (.lst xs)) (ne : l ≠ P) (pen : Pen H P L ns s g) (s0 : s ≤ 1000)
    (k : ∀ (v : V) (s' : Nat) (g' : Int) (H' : Hp), v ∈ xs → s' ≤ s + 1 → But P H H' → Pen H' P L ns s' g' → Q v H') :
    tPick K { nx := fun _ H' => Q .non H', rt := Q } [some (.ref P), some (.ref l)] H := by
  have pos : 0 < xs.length := List.length_pos_iff.mpr x0
  refine ⟨_, rfl, _, rfl, _, rfl, _, xs, rfl, .inl (sq_of hl), P, L, ns, s, g, (xs.length : Int), rfl, by omega, by omega, pen, s0, fun d s' g' H' hd hs but pen' => ?_⟩
  have hd' : d < xs.length := by omega
  exact ⟨l, xs, d, xs[d], rfl, rfl, sq_of (but _ _ ne hl), atI_nat (List.getElem?_eq_getElem hd'), k _ s' g' H' (List.getElem_mem hd') hs but pen'⟩
end KU

set_option Elab.async false
set_option linter.all false
set_option maxRecDepth 100000
set_option maxHeartbeats 4000000
/-! The draws of this law's text -/
namespace K01
open PySem PySem.Spec PyProof.Rows L2 Evl KU
def top (i : Nat) : Stmt := PySem.Challenge.pw_flagfree_k01_errors_and_their_fields.main.body.getD i (.Pass ⟨0, 0, 0, 0⟩)
abbrev sPen : Stmt := top 30
abbrev sDraw : Stmt := top 31
abbrev sPick : Stmt := top 32
/-- built-ins that nothing of the text hides -/
structure Free (mg : Str → Option Value) : Prop where
  int : mg "int" = none
  len : mg "len" = none
  abs : mg "abs" = none
  list : mg "list" = none
section
variable {P : Program} {w : World} {K : PySem.W.Frag} {mg : Str → Option Value} {base : Heap}
theorem scDraw : FnScope ["_law_pen_here", "_law_many", "_law_digit", "_law_spot", "_law_cell", "_law_great", "_law_mixed"] ["_law_pen_here", "_law_many"] (defScope sDraw) :=
  ⟨rfl, rfl, rfl, by decide +kernel, rfl, by decide +kernel, by decide +kernel⟩
theorem ok_draw {f : Addr} {fd : FuncData} (F : Fun K "_law_draw" "_law_draw" sDraw f fd) (T : Free mg) : FnOk P w K mg base CX0 1 f fd ["_law_pen_here", "_law_many"] spDraw := by
  refine F.ok scDraw (fun vs H Q E h => ?_) (fun cdv A outer s H vs Q E hr h => ?_)
  · obtain ⟨_, _, _, _, _, _, rfl, _⟩ := h
    rfl
  · obtain ⟨P, L, ns, s, g, m, rfl, m0, m1, pen, s0, k⟩ := h
    have nd := scDraw.nd
    refine ⟨_, (pss_cons (ps_if (pt_cmpR op_gt (pe_ix ix_list (pv 0) pe_int (fun _ _ => rfl)) pe_int (nomark _))
 (pss_cons (ps_set (i := 2) nd rfl (.inl rfl) (pe_op op_mod (pe_callTy call_int1 (by rfl) T.int (by decide +kernel) (pa_cons (pe_ix ix_list (pv 0) pe_int (fun _ _ => rfl)) pa_nil)) (pv 1)))
 (pss_cons (ps_asg (pe_op op_fdiv (pe_callTy call_int1 (by rfl) T.int (by decide +kernel) (pa_cons (pe_ix ix_list (pv 0) pe_int (fun _ _ => rfl)) pa_nil)) (pv 1)) (pg_sub (pv 0) pe_int set_list))
 (pss_one (ps_ret (pv 2)))))
 pss_nil)
 (pss_cons (ps_set (i := 3) nd rfl (.inl rfl) (pe_ix ix_list (pv 0) pe_int (fun _ _ => rfl)))
 (pss_cons (ps_asg (pe_op op_add (pv 3) pe_int) (pg_sub (pv 0) pe_int set_list))
 (pss_cons (ps_set (i := 4) nd rfl (.inl rfl) (pe_op op_add (pe_op op_mul pe_int (pv 3)) pe_int))
 (pss_cons (ps_if (pt_cmpR (op_neD hr.units) (pe_ix ix_list (pv 0) pe_int (fun _ _ => rfl)) (pe_lst pa_nil) (nomark _))
 (pss_one (ps_set (i := 4) nd rfl (.inl rfl) (pe_ix ix_list (pe_ix ix_list (pv 0) pe_int (fun _ _ => rfl)) (pe_op op_mod (pe_callTy call_int1 (by rfl) T.int (by decide +kernel) (pa_cons (pv 3) pa_nil)) (pe_callB call_len_seq (by rfl) T.len PySem.boot_len (pa_cons (pe_ix ix_list (pv 0) pe_int (fun _ _ => rfl)) pa_nil))) (fun _ _ => rfl))))
 pss_nil)
 (pss_cons (ps_if (PW.pt (pw_and (pt_cmpR op_lt (pv 3) (pe_callB call_len_seq (by rfl) T.len PySem.boot_len (pa_cons (pe_ix ix_list (pv 0) pe_int (fun _ _ => rfl)) pa_nil)) (nomark _)) (pw_and1 (pt_cmpR op_ge (pe_callB call_abs (by rfl) T.abs (by decide +kernel) (pa_cons (pv 4) pa_nil)) (pe_op op_pow pe_int pe_int) (nomark _)))))
 (pss_cons (ps_set (i := 5) nd rfl (.inl rfl) (pe_op op_add (pe_op op_mul pe_int (pe_op op_sub (pe_callB call_abs (by rfl) T.abs (by decide +kernel) (pa_cons (pv 4) pa_nil)) (pe_op op_pow pe_int pe_int))) (pe_callTy call_int1 (by rfl) T.int (by decide +kernel) (pa_cons (pe_cmpR op_lt (pv 4) pe_int (nomark _)) pa_nil))))
 (pss_cons (ps_asg (pe_op op_fdiv (pe_callTy call_int1 (by rfl) T.int (by decide +kernel) (pa_cons (pv 5) pa_nil)) (pv 1)) (pg_sub (pv 0) pe_int set_list))
 (pss_one (ps_ret (pe_op op_mod (pe_callTy call_int1 (by rfl) T.int (by decide +kernel) (pa_cons (pv 5) pa_nil)) (pv 1))))))
 pss_nil)
 (pss_cons (ps_set (i := 6) nd rfl (.inl rfl) (pe_op op_mod (pe_callTy call_int1 (by rfl) T.int (by decide +kernel) (pa_cons (pe_op op_pow (pe_op op_add (pe_op op_add (pe_op op_mod (pe_callTy call_int1 (by rfl) T.int (by decide +kernel) (pa_cons (pv 4) pa_nil)) pe_int) (pe_op op_mul pe_int (pv 3))) pe_int) pe_int) pa_nil)) pe_int))
 (pss_cons (ps_set (i := 6) nd rfl (.inl rfl) (pe_op op_mod (pe_callTy call_int1 (by rfl) T.int (by decide +kernel) (pa_cons (pe_op op_pow (pe_op op_add (pe_op op_add (pe_op op_mul (pv 6) (pe_op op_add (pe_op op_mul pe_int (pv 3)) pe_int)) (pe_op op_mul (pe_op op_mul pe_int (pv 3)) (pv 3))) pe_int) pe_int) pa_nil)) pe_int))
 (pss_one (ps_ret (pe_op op_mod (pe_callTy call_int1 (by rfl) T.int (by decide +kernel) (pa_cons (pe_op op_fdiv (pv 6) pe_int) pa_nil)) (pv 1)))))))))))), ?_⟩
    exact draw_reads (by decide) (by decide) (by decide) (by decide) (by decide) (by decide) (by decide) (by decide) (by decide) (by decide) m0 m1 pen s0 k
theorem scPick : FnScope ["_law_pen_here", "_law_some"] ["_law_pen_here", "_law_some"] (defScope sPick) := ⟨rfl, rfl, rfl, by decide +kernel, rfl, by decide +kernel, by decide +kernel⟩
structure Draws (K : PySem.W.Frag) (mg : Str → Option Value) (fD fP : Addr) : Prop extends Free mg where
  gDraw : mg "_law_draw" = some (.ref fD)
  kDraw : PySem.W.keepIn K (.ref fD) = true
  gPick : mg "_law_pick" = some (.ref fP)
  kPick : PySem.W.keepIn K (.ref fP) = true
theorem ok_pick {f fD : Addr} {fd fdD : FuncData} (F : Fun K "_law_pick" "_law_pick" sPick f fd) (T : Draws K mg fD f) (FD : Fun K "_law_draw" "_law_draw" sDraw fD fdD) (bD : Binds K fdD ["_law_pen_here", "_law_many"] []) :
    FnOk P w K mg base CX0 2 f fd ["_law_pen_here", "_law_some"] spPick := by
  have GD : FnOk P w K mg base CX0 1 fD fdD ["_law_pen_here", "_law_many"] spDraw := ok_draw FD T.toFree
  refine F.ok scPick (fun vs H Q E h => ?_) (fun cdv A outer s H vs Q E hr h => ?_)
  · obtain ⟨_, _, _, _, _, _, _, rfl, _⟩ := h
    rfl
  · obtain ⟨P, L, l, ns, xs, s, g, rfl, x0, xl, hl, ne, pen, s0, k⟩ := h
    have hr1 := hr
    refine ⟨_, (pss_one (ps_ret (pe_ix ix_list (pv 1) (pe_call GD hr1 (by rfl) T.gDraw T.kDraw bD .nil pass0 (pa_cons (pv 0) (pa_cons (pe_callB call_len_seq (by rfl) T.len PySem.boot_len (pa_cons (pv 1) pa_nil)) pa_nil))) (fun _ _ => rfl)))), ?_⟩
    exact pick_reads x0 xl hl ne pen s0 k
theorem scPen : FnScope ["_law_script"] ["_law_script"] (defScope sPen) := ⟨rfl, rfl, rfl, by decide +kernel, rfl, by decide +kernel, by decide +kernel⟩
theorem ok_pen {f : Addr} {fd : FuncData} (F : Fun K "_law_pen" "_law_pen" sPen f fd) (T : Free mg) : FnOk P w K mg base CX0 1 f fd ["_law_script"] (spPen K) := by
  refine F.ok scPen (fun vs H Q E h => ?_) (fun cdv A outer s H vs Q E hr h => ?_)
  · obtain ⟨_, _, rfl, _⟩ := h
    rfl
  · obtain ⟨a, ns, rfl, hS, hl, k⟩ := h
    refine ⟨_, (pss_one (ps_ret (pe_lst (pa_cons (pe_callTy call_list_of (by rfl) T.list (by decide +kernel) (pa_cons (pe_slice sl_list (pv 0) po_none (po_some pe_int)) pa_nil)) (pa_cons pe_int (pa_cons pe_int pa_nil)))))), ?_⟩
    exact pen_reads hS hl k
end
end K01

set_option Elab.async false
set_option linter.all false
set_option maxRecDepth 100000
set_option maxHeartbeats 4000000
/-! The error classes' own __init__ -/
namespace K01
open PySem PySem.Spec PyProof.Rows L2 Evl KU
def topI (i : Nat) : Stmt := inClass (PySem.Challenge.pw_flagfree_k01_errors_and_their_fields.main.body.getD i (.Pass ⟨0, 0, 0, 0⟩)) 0
section
variable {P : Program} {w : World} {K : PySem.W.Frag} {mg : Str → Option Value} {base : Heap} {f : Addr} {fd : FuncData}

theorem ok_i0 (F : Fun K "__init__" "BadSigns.__init__" (topI 2) f fd) : FnOk P w K mg base CX0 1 f fd ["self", "value"] (spI1 K "value") := by
  refine F.ok (N := ["self", "value"]) ⟨rfl, rfl, rfl, by decide +kernel, rfl, by decide +kernel, by decide +kernel⟩ (fun vs H Q E h => ?_) (fun cdv A outer s H vs Q E hr h => ?_)
  · obtain ⟨_, _, _, rfl, _⟩ := h
    rfl
  · obtain ⟨a, C, y, rfl, T, no, ha, k⟩ := h
    exact ⟨_, pss_one (ps_ost (pv 0) (pv 1)), init1_reads (E := E) (N := ["self", "value"]) rfl ⟨a, C, y, rfl, T, no, ha, k⟩⟩

theorem ok_i1 (F : Fun K "__init__" "BadWord.__init__" (topI 3) f fd) : FnOk P w K mg base CX0 1 f fd ["self", "value"] (spI1 K "value") := by
  refine F.ok (N := ["self", "value"]) ⟨rfl, rfl, rfl, by decide +kernel, rfl, by decide +kernel, by decide +kernel⟩ (fun vs H Q E h => ?_) (fun cdv A outer s H vs Q E hr h => ?_)
  · obtain ⟨_, _, _, rfl, _⟩ := h
    rfl
  · obtain ⟨a, C, y, rfl, T, no, ha, k⟩ := h
    exact ⟨_, pss_one (ps_ost (pv 0) (pv 1)), init1_reads (E := E) (N := ["self", "value"]) rfl ⟨a, C, y, rfl, T, no, ha, k⟩⟩

theorem ok_i2 (F : Fun K "__init__" "BadBars.__init__" (topI 4) f fd) : FnOk P w K mg base CX0 1 f fd ["self", "part"] (spI1 K "part") := by
  refine F.ok (N := ["self", "part"]) ⟨rfl, rfl, rfl, by decide +kernel, rfl, by decide +kernel, by decide +kernel⟩ (fun vs H Q E h => ?_) (fun cdv A outer s H vs Q E hr h => ?_)
  · obtain ⟨_, _, _, rfl, _⟩ := h
    rfl
  · obtain ⟨a, C, y, rfl, T, no, ha, k⟩ := h
    exact ⟨_, pss_one (ps_ost (pv 0) (pv 1)), init1_reads (E := E) (N := ["self", "part"]) rfl ⟨a, C, y, rfl, T, no, ha, k⟩⟩

theorem ok_i3 (F : Fun K "__init__" "BadSign.__init__" (topI 5) f fd) : FnOk P w K mg base CX0 1 f fd ["self", "value"] (spI1 K "value") := by
  refine F.ok (N := ["self", "value"]) ⟨rfl, rfl, rfl, by decide +kernel, rfl, by decide +kernel, by decide +kernel⟩ (fun vs H Q E h => ?_) (fun cdv A outer s H vs Q E hr h => ?_)
  · obtain ⟨_, _, _, rfl, _⟩ := h
    rfl
  · obtain ⟨a, C, y, rfl, T, no, ha, k⟩ := h
    exact ⟨_, pss_one (ps_ost (pv 0) (pv 1)), init1_reads (E := E) (N := ["self", "value"]) rfl ⟨a, C, y, rfl, T, no, ha, k⟩⟩

theorem ok_i4 (F : Fun K "__init__" "BadText.__init__" (topI 6) f fd) : FnOk P w K mg base CX0 1 f fd ["self", "line", "word"] (spI2 K "line" "word") := by
  refine F.ok (N := ["self", "line", "word"]) ⟨rfl, rfl, rfl, by decide +kernel, rfl, by decide +kernel, by decide +kernel⟩ (fun vs H Q E h => ?_) (fun cdv A outer s H vs Q E hr h => ?_)
  · obtain ⟨_, _, _, _, rfl, _⟩ := h
    rfl
  · obtain ⟨a, C, y, z, rfl, T, no, no2, ha, k⟩ := h
    exact ⟨_, pss_cons (ps_ost (pv 0) (pv 1)) (pss_one (ps_ost (pv 0) (pv 2))), init2_reads (E := E) (N := ["self", "line", "word"]) rfl ⟨a, C, y, z, rfl, T, no, no2, ha, k⟩⟩

theorem ok_i5 (F : Fun K "__init__" "BadSent.__init__" (topI 7) f fd) : FnOk P w K mg base CX0 1 f fd ["self", "value"] (spI1 K "value") := by
  refine F.ok (N := ["self", "value"]) ⟨rfl, rfl, rfl, by decide +kernel, rfl, by decide +kernel, by decide +kernel⟩ (fun vs H Q E h => ?_) (fun cdv A outer s H vs Q E hr h => ?_)
  · obtain ⟨_, _, _, rfl, _⟩ := h
    rfl
  · obtain ⟨a, C, y, rfl, T, no, ha, k⟩ := h
    exact ⟨_, pss_one (ps_ost (pv 0) (pv 1)), init1_reads (E := E) (N := ["self", "value"]) rfl ⟨a, C, y, rfl, T, no, ha, k⟩⟩

theorem ok_i6 (F : Fun K "__init__" "BadEnd.__init__" (topI 8) f fd) : FnOk P w K mg base CX0 1 f fd ["self", "value"] (spI1 K "value") := by
  refine F.ok (N := ["self", "value"]) ⟨rfl, rfl, rfl, by decide +kernel, rfl, by decide +kernel, by decide +kernel⟩ (fun vs H Q E h => ?_) (fun cdv A outer s H vs Q E hr h => ?_)
  · obtain ⟨_, _, _, rfl, _⟩ := h
    rfl
  · obtain ⟨a, C, y, rfl, T, no, ha, k⟩ := h
    exact ⟨_, pss_one (ps_ost (pv 0) (pv 1)), init1_reads (E := E) (N := ["self", "value"]) rfl ⟨a, C, y, rfl, T, no, ha, k⟩⟩

theorem ok_i7 (F : Fun K "__init__" "BadMove.__init__" (topI 9) f fd) : FnOk P w K mg base CX0 1 f fd ["self", "part"] (spI1 K "part") := by
  refine F.ok (N := ["self", "part"]) ⟨rfl, rfl, rfl, by decide +kernel, rfl, by decide +kernel, by decide +kernel⟩ (fun vs H Q E h => ?_) (fun cdv A outer s H vs Q E hr h => ?_)
  · obtain ⟨_, _, _, rfl, _⟩ := h
    rfl
  · obtain ⟨a, C, y, rfl, T, no, ha, k⟩ := h
    exact ⟨_, pss_one (ps_ost (pv 0) (pv 1)), init1_reads (E := E) (N := ["self", "part"]) rfl ⟨a, C, y, rfl, T, no, ha, k⟩⟩

theorem ok_i8 (F : Fun K "__init__" "BadMenu.__init__" (topI 10) f fd) : FnOk P w K mg base CX0 1 f fd ["self", "part"] (spI1 K "part") := by
  refine F.ok (N := ["self", "part"]) ⟨rfl, rfl, rfl, by decide +kernel, rfl, by decide +kernel, by decide +kernel⟩ (fun vs H Q E h => ?_) (fun cdv A outer s H vs Q E hr h => ?_)
  · obtain ⟨_, _, _, rfl, _⟩ := h
    rfl
  · obtain ⟨a, C, y, rfl, T, no, ha, k⟩ := h
    exact ⟨_, pss_one (ps_ost (pv 0) (pv 1)), init1_reads (E := E) (N := ["self", "part"]) rfl ⟨a, C, y, rfl, T, no, ha, k⟩⟩

theorem ok_i9 (F : Fun K "__init__" "BadPrice.__init__" (topI 11) f fd) : FnOk P w K mg base CX0 1 f fd ["self", "value"] (spI1 K "value") := by
  refine F.ok (N := ["self", "value"]) ⟨rfl, rfl, rfl, by decide +kernel, rfl, by decide +kernel, by decide +kernel⟩ (fun vs H Q E h => ?_) (fun cdv A outer s H vs Q E hr h => ?_)
  · obtain ⟨_, _, _, rfl, _⟩ := h
    rfl
  · obtain ⟨a, C, y, rfl, T, no, ha, k⟩ := h
    exact ⟨_, pss_one (ps_ost (pv 0) (pv 1)), init1_reads (E := E) (N := ["self", "value"]) rfl ⟨a, C, y, rfl, T, no, ha, k⟩⟩

theorem ok_i10 (F : Fun K "__init__" "BadSetting.__init__" (topI 12) f fd) : FnOk P w K mg base CX0 1 f fd ["self", "part"] (spI1 K "part") := by
  refine F.ok (N := ["self", "part"]) ⟨rfl, rfl, rfl, by decide +kernel, rfl, by decide +kernel, by decide +kernel⟩ (fun vs H Q E h => ?_) (fun cdv A outer s H vs Q E hr h => ?_)
  · obtain ⟨_, _, _, rfl, _⟩ := h
    rfl
  · obtain ⟨a, C, y, rfl, T, no, ha, k⟩ := h
    exact ⟨_, pss_one (ps_ost (pv 0) (pv 1)), init1_reads (E := E) (N := ["self", "part"]) rfl ⟨a, C, y, rfl, T, no, ha, k⟩⟩

theorem ok_i11 (F : Fun K "__init__" "BadRate.__init__" (topI 13) f fd) : FnOk P w K mg base CX0 1 f fd ["self", "part"] (spI1 K "part") := by
  refine F.ok (N := ["self", "part"]) ⟨rfl, rfl, rfl, by decide +kernel, rfl, by decide +kernel, by decide +kernel⟩ (fun vs H Q E h => ?_) (fun cdv A outer s H vs Q E hr h => ?_)
  · obtain ⟨_, _, _, rfl, _⟩ := h
    rfl
  · obtain ⟨a, C, y, rfl, T, no, ha, k⟩ := h
    exact ⟨_, pss_one (ps_ost (pv 0) (pv 1)), init1_reads (E := E) (N := ["self", "part"]) rfl ⟨a, C, y, rfl, T, no, ha, k⟩⟩

theorem ok_i12 (F : Fun K "__init__" "BadRule.__init__" (topI 14) f fd) : FnOk P w K mg base CX0 1 f fd ["self", "part"] (spI1 K "part") := by
  refine F.ok (N := ["self", "part"]) ⟨rfl, rfl, rfl, by decide +kernel, rfl, by decide +kernel, by decide +kernel⟩ (fun vs H Q E h => ?_) (fun cdv A outer s H vs Q E hr h => ?_)
  · obtain ⟨_, _, _, rfl, _⟩ := h
    rfl
  · obtain ⟨a, C, y, rfl, T, no, ha, k⟩ := h
    exact ⟨_, pss_one (ps_ost (pv 0) (pv 1)), init1_reads (E := E) (N := ["self", "part"]) rfl ⟨a, C, y, rfl, T, no, ha, k⟩⟩

theorem ok_i13 (F : Fun K "__init__" "BadTable.__init__" (topI 15) f fd) : FnOk P w K mg base CX0 1 f fd ["self", "part"] (spI1 K "part") := by
  refine F.ok (N := ["self", "part"]) ⟨rfl, rfl, rfl, by decide +kernel, rfl, by decide +kernel, by decide +kernel⟩ (fun vs H Q E h => ?_) (fun cdv A outer s H vs Q E hr h => ?_)
  · obtain ⟨_, _, _, rfl, _⟩ := h
    rfl
  · obtain ⟨a, C, y, rfl, T, no, ha, k⟩ := h
    exact ⟨_, pss_one (ps_ost (pv 0) (pv 1)), init1_reads (E := E) (N := ["self", "part"]) rfl ⟨a, C, y, rfl, T, no, ha, k⟩⟩

theorem ok_i14 (F : Fun K "__init__" "BadContent.__init__" (topI 16) f fd) : FnOk P w K mg base CX0 1 f fd ["self", "value"] (spI1 K "value") := by
  refine F.ok (N := ["self", "value"]) ⟨rfl, rfl, rfl, by decide +kernel, rfl, by decide +kernel, by decide +kernel⟩ (fun vs H Q E h => ?_) (fun cdv A outer s H vs Q E hr h => ?_)
  · obtain ⟨_, _, _, rfl, _⟩ := h
    rfl
  · obtain ⟨a, C, y, rfl, T, no, ha, k⟩ := h
    exact ⟨_, pss_one (ps_ost (pv 0) (pv 1)), init1_reads (E := E) (N := ["self", "value"]) rfl ⟨a, C, y, rfl, T, no, ha, k⟩⟩

theorem ok_i15 (F : Fun K "__init__" "BadNumber.__init__" (topI 17) f fd) : FnOk P w K mg base CX0 1 f fd ["self", "value"] (spI1 K "value") := by
  refine F.ok (N := ["self", "value"]) ⟨rfl, rfl, rfl, by decide +kernel, rfl, by decide +kernel, by decide +kernel⟩ (fun vs H Q E h => ?_) (fun cdv A outer s H vs Q E hr h => ?_)
  · obtain ⟨_, _, _, rfl, _⟩ := h
    rfl
  · obtain ⟨a, C, y, rfl, T, no, ha, k⟩ := h
    exact ⟨_, pss_one (ps_ost (pv 0) (pv 1)), init1_reads (E := E) (N := ["self", "value"]) rfl ⟨a, C, y, rfl, T, no, ha, k⟩⟩

theorem ok_i16 (F : Fun K "__init__" "BadLog.__init__" (topI 18) f fd) : FnOk P w K mg base CX0 1 f fd ["self", "part"] (spI1 K "part") := by
  refine F.ok (N := ["self", "part"]) ⟨rfl, rfl, rfl, by decide +kernel, rfl, by decide +kernel, by decide +kernel⟩ (fun vs H Q E h => ?_) (fun cdv A outer s H vs Q E hr h => ?_)
  · obtain ⟨_, _, _, rfl, _⟩ := h
    rfl
  · obtain ⟨a, C, y, rfl, T, no, ha, k⟩ := h
    exact ⟨_, pss_one (ps_ost (pv 0) (pv 1)), init1_reads (E := E) (N := ["self", "part"]) rfl ⟨a, C, y, rfl, T, no, ha, k⟩⟩

theorem ok_i17 (F : Fun K "__init__" "BadLayer.__init__" (topI 19) f fd) : FnOk P w K mg base CX0 1 f fd ["self", "part"] (spI1 K "part") := by
  refine F.ok (N := ["self", "part"]) ⟨rfl, rfl, rfl, by decide +kernel, rfl, by decide +kernel, by decide +kernel⟩ (fun vs H Q E h => ?_) (fun cdv A outer s H vs Q E hr h => ?_)
  · obtain ⟨_, _, _, rfl, _⟩ := h
    rfl
  · obtain ⟨a, C, y, rfl, T, no, ha, k⟩ := h
    exact ⟨_, pss_one (ps_ost (pv 0) (pv 1)), init1_reads (E := E) (N := ["self", "part"]) rfl ⟨a, C, y, rfl, T, no, ha, k⟩⟩

theorem ok_i18 (F : Fun K "__init__" "BadLink.__init__" (topI 20) f fd) : FnOk P w K mg base CX0 1 f fd ["self", "part"] (spI1 K "part") := by
  refine F.ok (N := ["self", "part"]) ⟨rfl, rfl, rfl, by decide +kernel, rfl, by decide +kernel, by decide +kernel⟩ (fun vs H Q E h => ?_) (fun cdv A outer s H vs Q E hr h => ?_)
  · obtain ⟨_, _, _, rfl, _⟩ := h
    rfl
  · obtain ⟨a, C, y, rfl, T, no, ha, k⟩ := h
    exact ⟨_, pss_one (ps_ost (pv 0) (pv 1)), init1_reads (E := E) (N := ["self", "part"]) rfl ⟨a, C, y, rfl, T, no, ha, k⟩⟩

theorem ok_i19 (F : Fun K "__init__" "BadLine.__init__" (topI 21) f fd) : FnOk P w K mg base CX0 1 f fd ["self", "word"] (spI1 K "word") := by
  refine F.ok (N := ["self", "word"]) ⟨rfl, rfl, rfl, by decide +kernel, rfl, by decide +kernel, by decide +kernel⟩ (fun vs H Q E h => ?_) (fun cdv A outer s H vs Q E hr h => ?_)
  · obtain ⟨_, _, _, rfl, _⟩ := h
    rfl
  · obtain ⟨a, C, y, rfl, T, no, ha, k⟩ := h
    exact ⟨_, pss_one (ps_ost (pv 0) (pv 1)), init1_reads (E := E) (N := ["self", "word"]) rfl ⟨a, C, y, rfl, T, no, ha, k⟩⟩

theorem ok_i20 (F : Fun K "__init__" "NoEnd.__init__" (topI 22) f fd) : FnOk P w K mg base CX0 1 f fd ["self", "end"] (spI1 K "end") := by
  refine F.ok (N := ["self", "end"]) ⟨rfl, rfl, rfl, by decide +kernel, rfl, by decide +kernel, by decide +kernel⟩ (fun vs H Q E h => ?_) (fun cdv A outer s H vs Q E hr h => ?_)
  · obtain ⟨_, _, _, rfl, _⟩ := h
    rfl
  · obtain ⟨a, C, y, rfl, T, no, ha, k⟩ := h
    exact ⟨_, pss_one (ps_ost (pv 0) (pv 1)), init1_reads (E := E) (N := ["self", "end"]) rfl ⟨a, C, y, rfl, T, no, ha, k⟩⟩

theorem ok_i21 (F : Fun K "__init__" "TooMany.__init__" (topI 23) f fd) : FnOk P w K mg base CX0 1 f fd ["self", "what", "most"] (spI2 K "what" "most") := by
  refine F.ok (N := ["self", "what", "most"]) ⟨rfl, rfl, rfl, by decide +kernel, rfl, by decide +kernel, by decide +kernel⟩ (fun vs H Q E h => ?_) (fun cdv A outer s H vs Q E hr h => ?_)
  · obtain ⟨_, _, _, _, rfl, _⟩ := h
    rfl
  · obtain ⟨a, C, y, z, rfl, T, no, no2, ha, k⟩ := h
    exact ⟨_, pss_cons (ps_ost (pv 0) (pv 1)) (pss_one (ps_ost (pv 0) (pv 2))), init2_reads (E := E) (N := ["self", "what", "most"]) rfl ⟨a, C, y, z, rfl, T, no, no2, ha, k⟩⟩

theorem ok_i22 (F : Fun K "__init__" "NoWay.__init__" (topI 24) f fd) : FnOk P w K mg base CX0 1 f fd ["self", "end"] (spI1 K "end") := by
  refine F.ok (N := ["self", "end"]) ⟨rfl, rfl, rfl, by decide +kernel, rfl, by decide +kernel, by decide +kernel⟩ (fun vs H Q E h => ?_) (fun cdv A outer s H vs Q E hr h => ?_)
  · obtain ⟨_, _, _, rfl, _⟩ := h
    rfl
  · obtain ⟨a, C, y, rfl, T, no, ha, k⟩ := h
    exact ⟨_, pss_one (ps_ost (pv 0) (pv 1)), init1_reads (E := E) (N := ["self", "end"]) rfl ⟨a, C, y, rfl, T, no, ha, k⟩⟩

theorem ok_i23 (F : Fun K "__init__" "NoRound.__init__" (topI 25) f fd) : FnOk P w K mg base CX0 1 f fd ["self", "most"] (spI1 K "most") := by
  refine F.ok (N := ["self", "most"]) ⟨rfl, rfl, rfl, by decide +kernel, rfl, by decide +kernel, by decide +kernel⟩ (fun vs H Q E h => ?_) (fun cdv A outer s H vs Q E hr h => ?_)
  · obtain ⟨_, _, _, rfl, _⟩ := h
    rfl
  · obtain ⟨a, C, y, rfl, T, no, ha, k⟩ := h
    exact ⟨_, pss_one (ps_ost (pv 0) (pv 1)), init1_reads (E := E) (N := ["self", "most"]) rfl ⟨a, C, y, rfl, T, no, ha, k⟩⟩

theorem ok_i24 (F : Fun K "__init__" "Stuck.__init__" (topI 26) f fd) : FnOk P w K mg base CX0 1 f fd ["self", "end"] (spI1 K "end") := by
  refine F.ok (N := ["self", "end"]) ⟨rfl, rfl, rfl, by decide +kernel, rfl, by decide +kernel, by decide +kernel⟩ (fun vs H Q E h => ?_) (fun cdv A outer s H vs Q E hr h => ?_)
  · obtain ⟨_, _, _, rfl, _⟩ := h
    rfl
  · obtain ⟨a, C, y, rfl, T, no, ha, k⟩ := h
    exact ⟨_, pss_one (ps_ost (pv 0) (pv 1)), init1_reads (E := E) (N := ["self", "end"]) rfl ⟨a, C, y, rfl, T, no, ha, k⟩⟩

theorem ok_i25 (F : Fun K "__init__" "Refused.__init__" (topI 27) f fd) : FnOk P w K mg base CX0 1 f fd ["self", "at"] (spI1 K "at") := by
  refine F.ok (N := ["self", "at"]) ⟨rfl, rfl, rfl, by decide +kernel, rfl, by decide +kernel, by decide +kernel⟩ (fun vs H Q E h => ?_) (fun cdv A outer s H vs Q E hr h => ?_)
  · obtain ⟨_, _, _, rfl, _⟩ := h
    rfl
  · obtain ⟨a, C, y, rfl, T, no, ha, k⟩ := h
    exact ⟨_, pss_one (ps_ost (pv 0) (pv 1)), init1_reads (E := E) (N := ["self", "at"]) rfl ⟨a, C, y, rfl, T, no, ha, k⟩⟩

end
end K01

set_option Elab.async false
set_option linter.all false
set_option maxRecDepth 100000
set_option maxHeartbeats 8000000
/-! The law's own defs: values, errors made both ways, fields, classes -/
namespace K01
open PySem PySem.Spec PyProof.Rows L2 Evl KU
abbrev sValue : Stmt := top 33
abbrev sMade : Stmt := top 34
abbrev sNamed : Stmt := top 35
abbrev sFields : Stmt := top 36
abbrev sClasses : Stmt := top 37
abbrev sLaw : Stmt := top 38
/-- the fields of the class at a place -/
def fld : Nat → List Str
  | 0 => ["value"]
  | 1 => ["value"]
  | 2 => ["part"]
  | 3 => ["value"]
  | 4 => ["line", "word"]
  | 5 => ["value"]
  | 6 => ["value"]
  | 7 => ["part"]
  | 8 => ["part"]
  | 9 => ["value"]
  | 10 => ["part"]
  | 11 => ["part"]
  | 12 => ["part"]
  | 13 => ["part"]
  | 14 => ["value"]
  | 15 => ["value"]
  | 16 => ["part"]
  | 17 => ["part"]
  | 18 => ["part"]
  | 19 => ["word"]
  | 20 => ["end"]
  | 21 => ["what", "most"]
  | 22 => ["end"]
  | 23 => ["most"]
  | 24 => ["end"]
  | 25 => ["at"]
  | 26 => []
  | _ => []
def fsOf : List Str → V → V → List (Str × V)
  | [f], y, _ => [(f, y)]
  | [f, g], y, z => [(g, z), (f, y)]
  | _, _, _ => []
def valsOf {α : Type} : List Str → α → α → List α
  | [_], y, _ => [y]
  | [_, _], y, z => [y, z]
  | _, _, _ => []
def nameOf : Nat → Str
  | 0 => "value"
  | 1 => "value"
  | 2 => "part"
  | 3 => "value"
  | 4 => "line word"
  | 5 => "value"
  | 6 => "value"
  | 7 => "part"
  | 8 => "part"
  | 9 => "value"
  | 10 => "part"
  | 11 => "part"
  | 12 => "part"
  | 13 => "part"
  | 14 => "value"
  | 15 => "value"
  | 16 => "part"
  | 17 => "part"
  | 18 => "part"
  | 19 => "word"
  | 20 => "end"
  | 21 => "what most"
  | 22 => "end"
  | 23 => "most"
  | 24 => "end"
  | 25 => "at"
  | 26 => ""
  | _ => ""
/-- a row of what is made: the error, its fields' names, their values -/
def Row (C : Addr) (fs : List Str) (nm : Str) (y z : V) : V → Hp → Prop := IsT [IsE C (fsOf fs y z), Is (.str nm), LstIs (valsOf fs y z)]
theorem up_row (C : Addr) (fs : List Str) (nm : Str) (y z : V) : Up (Row C fs nm y z) := up_isT fun P hP => by
  rcases List.mem_cons.mp hP with e | e
  · rw [e]
    exact up_isE _ _
  · rcases List.mem_cons.mp e with e | e
    · rw [e]
      exact up_eq _
    · rw [List.mem_singleton.mp e]
      exact up_lstIs _
def rows (c : Nat → Addr) (y z : V) : List (V → Hp → Prop) := [Row (c 0) (fld 0) (nameOf 0) y z, Row (c 1) (fld 1) (nameOf 1) y z, Row (c 2) (fld 2) (nameOf 2) y z, Row (c 3) (fld 3) (nameOf 3) y z, Row (c 4) (fld 4) (nameOf 4) y z, Row (c 5) (fld 5) (nameOf 5) y z, Row (c 6) (fld 6) (nameOf 6) y z, Row (c 7) (fld 7) (nameOf 7) y z, Row (c 8) (fld 8) (nameOf 8) y z, Row (c 9) (fld 9) (nameOf 9) y z, Row (c 10) (fld 10) (nameOf 10) y z, Row (c 11) (fld 11) (nameOf 11) y z, Row (c 12) (fld 12) (nameOf 12) y z, Row (c 13) (fld 13) (nameOf 13) y z, Row (c 14) (fld 14) (nameOf 14) y z, Row (c 15) (fld 15) (nameOf 15) y z, Row (c 16) (fld 16) (nameOf 16) y z, Row (c 17) (fld 17) (nameOf 17) y z, Row (c 18) (fld 18) (nameOf 18) y z, Row (c 19) (fld 19) (nameOf 19) y z, Row (c 20) (fld 20) (nameOf 20) y z, Row (c 21) (fld 21) (nameOf 21) y z, Row (c 22) (fld 22) (nameOf 22) y z, Row (c 23) (fld 23) (nameOf 23) y z, Row (c 24) (fld 24) (nameOf 24) y z, Row (c 25) (fld 25) (nameOf 25) y z, Row (c 26) (fld 26) (nameOf 26) y z]
def errs (c : Nat → Addr) (y z : V) : List (V → Hp → Prop) := [IsE (c 0) (fsOf (fld 0) y z), IsE (c 1) (fsOf (fld 1) y z), IsE (c 2) (fsOf (fld 2) y z), IsE (c 3) (fsOf (fld 3) y z), IsE (c 4) (fsOf (fld 4) y z), IsE (c 5) (fsOf (fld 5) y z), IsE (c 6) (fsOf (fld 6) y z), IsE (c 7) (fsOf (fld 7) y z), IsE (c 8) (fsOf (fld 8) y z), IsE (c 9) (fsOf (fld 9) y z), IsE (c 10) (fsOf (fld 10) y z), IsE (c 11) (fsOf (fld 11) y z), IsE (c 12) (fsOf (fld 12) y z), IsE (c 13) (fsOf (fld 13) y z), IsE (c 14) (fsOf (fld 14) y z), IsE (c 15) (fsOf (fld 15) y z), IsE (c 16) (fsOf (fld 16) y z), IsE (c 17) (fsOf (fld 17) y z), IsE (c 18) (fsOf (fld 18) y z), IsE (c 19) (fsOf (fld 19) y z), IsE (c 20) (fsOf (fld 20) y z), IsE (c 21) (fsOf (fld 21) y z), IsE (c 22) (fsOf (fld 22) y z), IsE (c 23) (fsOf (fld 23) y z), IsE (c 24) (fsOf (fld 24) y z), IsE (c 25) (fsOf (fld 25) y z), IsE (c 26) (fsOf (fld 26) y z)]
theorem rows_at (c : Nat → Addr) (y z : V) : ∀ i, i < 27 → (rows c y z)[i]? = some (Row (c i) (fld i) (nameOf i) y z)
  | 0, _ => rfl
  | 1, _ => rfl
  | 2, _ => rfl
  | 3, _ => rfl
  | 4, _ => rfl
  | 5, _ => rfl
  | 6, _ => rfl
  | 7, _ => rfl
  | 8, _ => rfl
  | 9, _ => rfl
  | 10, _ => rfl
  | 11, _ => rfl
  | 12, _ => rfl
  | 13, _ => rfl
  | 14, _ => rfl
  | 15, _ => rfl
  | 16, _ => rfl
  | 17, _ => rfl
  | 18, _ => rfl
  | 19, _ => rfl
  | 20, _ => rfl
  | 21, _ => rfl
  | 22, _ => rfl
  | 23, _ => rfl
  | 24, _ => rfl
  | 25, _ => rfl
  | 26, _ => rfl
  | n + 27, h => absurd h (by omega)
theorem errs_at (c : Nat → Addr) (y z : V) : ∀ i, i < 27 → (errs c y z)[i]? = some (IsE (c i) (fsOf (fld i) y z))
  | 0, _ => rfl
  | 1, _ => rfl
  | 2, _ => rfl
  | 3, _ => rfl
  | 4, _ => rfl
  | 5, _ => rfl
  | 6, _ => rfl
  | 7, _ => rfl
  | 8, _ => rfl
  | 9, _ => rfl
  | 10, _ => rfl
  | 11, _ => rfl
  | 12, _ => rfl
  | 13, _ => rfl
  | 14, _ => rfl
  | 15, _ => rfl
  | 16, _ => rfl
  | 17, _ => rfl
  | 18, _ => rfl
  | 19, _ => rfl
  | 20, _ => rfl
  | 21, _ => rfl
  | 22, _ => rfl
  | 23, _ => rfl
  | 24, _ => rfl
  | 25, _ => rfl
  | 26, _ => rfl
  | n + 27, h => absurd h (by omega)
/-- the error classes of the text: the i-th at c i; FlagError at F -/
structure Errs (P : Program) (w : World) (K : PySem.W.Frag) (mg : Str → Option Value) (base : Heap) (c : Nat → Addr) (F : Addr) : Prop where
  z0 : Cl P w K mg base "BadSigns" (c 0) (fld 0) (spI1 K "value")
  z1 : Cl P w K mg base "BadWord" (c 1) (fld 1) (spI1 K "value")
  z2 : Cl P w K mg base "BadBars" (c 2) (fld 2) (spI1 K "part")
  z3 : Cl P w K mg base "BadSign" (c 3) (fld 3) (spI1 K "value")
  z4 : Cl P w K mg base "BadText" (c 4) (fld 4) (spI2 K "line" "word")
  z5 : Cl P w K mg base "BadSent" (c 5) (fld 5) (spI1 K "value")
  z6 : Cl P w K mg base "BadEnd" (c 6) (fld 6) (spI1 K "value")
  z7 : Cl P w K mg base "BadMove" (c 7) (fld 7) (spI1 K "part")
  z8 : Cl P w K mg base "BadMenu" (c 8) (fld 8) (spI1 K "part")
  z9 : Cl P w K mg base "BadPrice" (c 9) (fld 9) (spI1 K "value")
  z10 : Cl P w K mg base "BadSetting" (c 10) (fld 10) (spI1 K "part")
  z11 : Cl P w K mg base "BadRate" (c 11) (fld 11) (spI1 K "part")
  z12 : Cl P w K mg base "BadRule" (c 12) (fld 12) (spI1 K "part")
  z13 : Cl P w K mg base "BadTable" (c 13) (fld 13) (spI1 K "part")
  z14 : Cl P w K mg base "BadContent" (c 14) (fld 14) (spI1 K "value")
  z15 : Cl P w K mg base "BadNumber" (c 15) (fld 15) (spI1 K "value")
  z16 : Cl P w K mg base "BadLog" (c 16) (fld 16) (spI1 K "part")
  z17 : Cl P w K mg base "BadLayer" (c 17) (fld 17) (spI1 K "part")
  z18 : Cl P w K mg base "BadLink" (c 18) (fld 18) (spI1 K "part")
  z19 : Cl P w K mg base "BadLine" (c 19) (fld 19) (spI1 K "word")
  z20 : Cl P w K mg base "NoEnd" (c 20) (fld 20) (spI1 K "end")
  z21 : Cl P w K mg base "TooMany" (c 21) (fld 21) (spI2 K "what" "most")
  z22 : Cl P w K mg base "NoWay" (c 22) (fld 22) (spI1 K "end")
  z23 : Cl P w K mg base "NoRound" (c 23) (fld 23) (spI1 K "most")
  z24 : Cl P w K mg base "Stuck" (c 24) (fld 24) (spI1 K "end")
  z25 : Cl P w K mg base "Refused" (c 25) (fld 25) (spI1 K "at")
  exc : ∀ i, i < 27 → ExcC K (c i)
  no : ∀ i, i < 27 → ∀ f ∈ fld i, PySem.W.findIn K (.ref (c i)) f = some none
  gN : mg "NoChange" = some (.ref (c 26))
  qN : PySem.W.excIn K (c 26) [.type "ValueError", .type "Exception", .type "BaseException", .type "object"] "ValueError.__new__" = true
  kN : PySem.W.keepIn K (.ref (c 26)) = true
  gF : mg "FlagError" = some (.ref F)
  qF : PySem.W.excIn K F [.type "ValueError", .type "Exception", .type "BaseException", .type "object"] "ValueError.__new__" = true
  kF : PySem.W.keepIn K (.ref F) = true
  excF : ExcC K F
  kit : ∀ i j, i < 27 → j < 27 → PySem.W.kitOne K (.ref (c i)) (.ref (c j)) = some (decide (i = j))
  kitF : ∀ i, i < 27 → PySem.W.kitOne K (.ref (c i)) (.ref F) = some true
  kitV : ∀ i, i < 27 → PySem.W.kitOne K (.ref (c i)) (.type "ValueError") = some true
  kitL : ∀ i, i < 27 → PySem.W.kitOne K (.ref (c i)) (.type "LookupError") = some false
  kitT : ∀ i, i < 27 → PySem.W.kitOne K (.ref (c i)) (.type "TypeError") = some false
  kitA : ∀ i, i < 27 → PySem.W.kitOne K (.ref (c i)) (.type "ArithmeticError") = some false
  kitF3 : PySem.W.kitOne K (.ref F) (.ref (c 3)) = some false
  kitFV : PySem.W.kitOne K (.ref F) (.type "ValueError") = some true
  ii : mg "isinstance" = none
  rg : mg "range" = none

/-- the values of the menu, as data -/
def menu : List PyData := [.none, .bool true, .int 0, .int (-1), .int (10 ^ 39), .str "", .str "a", .str "two words", .tuple [], .tuple [.str "a", .int 1], .list [], .dict [], .bool false]
/-- one of the menu's values, whatever stands at P -/
def Val (K : PySem.W.Frag) (P : Addr) (H : Hp) (v : V) (d : PyData) : Prop := ∃ G : Hp, G P = none ∧ Ex G H ∧ RD K G v d ∧ d ∈ menu
theorem Val.but {K : PySem.W.Frag} {P : Addr} {H H' : Hp} {v : V} {d : PyData} (b : But P H H') (h : Val K P H v d) : Val K P H' v d := by
  obtain ⟨G, h1, h2, h3, h4⟩ := h
  exact ⟨G, h1, But.ex h2 h1 b, h3, h4⟩
def Has (K : PySem.W.Frag) (P : Addr) (d : PyData) : V → Hp → Prop := fun v H => ∃ G : Hp, G P = none ∧ Ex G H ∧ RD K G v d
theorem up_has (K : PySem.W.Frag) (P : Addr) (d : PyData) : Up (Has K P d) := fun v H H' e ⟨G, h1, h2, h3⟩ => ⟨G, h1, h2.trans e, h3⟩
section
variable {K : PySem.W.Frag} {P : Addr} {σ : L2.St} {H : Hp} {v : V} {d : PyData} {te : TE}
theorem eh_v (h : Ev te σ H v) (r : RD K (fun _ => none) v d) : EvQ te σ H (Has K P d) := ⟨fun H1 e Q q => h H1 e _ fun H2 e2 => q v H2 e2 ⟨fun _ => none, rfl, (fun _ _ z => nomatch z), r⟩, up_has K P d⟩
theorem eh_c (r : RD K (fun _ => none) v d) : EvQ (tC v) σ H (Has K P d) := eh_v ev_c r
/-- one new object, known alone -/
theorem alone {H1 : Hp} {p : Addr} {o u : HO} (hP : H P = some o) (e : Ex H H1) (hp : H1 p = none) : (upd (fun _ => none) p u : Hp) P = none ∧ Ex (upd (fun _ => none) p u) (upd H1 p u) := by
  have ne : P ≠ p := ne_of_none (e _ _ hP) hp
  refine ⟨by rw [upd_ne ne], fun b w hb => ?_⟩
  by_cases h : b = p
  · rw [h, upd_same] at hb
    rw [h, upd_same]
    exact hb
  · rw [upd_ne h] at hb
    cases hb
theorem eh_tup {o : HO} {ta : TA} {vs : List V} {ds : List PyData} (hP : H P = some o) (r : ∀ {G : Hp}, RDs K G vs ds) (h : EvA ta σ H vs) (small : vs.length ≤ 1000 := by first | exact Nat.zero_le _ | (show 2 ≤ 1000; decide)) : EvQ (tTup ta) σ H (Has K P (.tuple ds)) := ⟨fun H1 e Q q =>
  h H1 e _ fun H2 e2 => ⟨sz_of (by omega), fun p hp => q _ _ (e2.trans (Ex.new hp)) (by
    obtain ⟨a, b⟩ := alone (u := .tup vs) hP (e.trans e2) hp
    exact ⟨_, a, b, .tup (.inl (.inl upd_same)) r⟩)⟩, up_has K P _⟩
theorem eh_lst {o : HO} (hP : H P = some o) : EvQ (tLstB tNil) σ H (Has K P (.list [])) := ⟨fun H1 e Q q => ⟨Nat.zero_le _, fun p hp hb => q _ _ (Ex.new hp) (by
    obtain ⟨a, b⟩ := alone (u := .lst []) hP e hp
    exact ⟨_, a, b, .lst (.inl (.inl upd_same)) hb .nil⟩)⟩, up_has K P _⟩
theorem eh_dic {o : HO} (hP : H P = some o) : EvQ tDNewK σ H (Has K P (.dict [])) := ⟨fun H1 e Q q p hp => q _ _ (Ex.new hp) (by
    obtain ⟨a, b⟩ := alone (u := .dK []) hP e hp
    exact ⟨_, a, b, .dic upd_same⟩), up_has K P _⟩
end
def menuP (K : PySem.W.Frag) (P : Addr) : List (V → Hp → Prop) := [Has K P .none, Has K P (.bool true), Has K P (.int 0), Has K P (.int (-1)), Has K P (.int (10 ^ 39)), Has K P (.str ""), Has K P (.str "a"), Has K P (.str "two words"), Has K P (.tuple []),
    Has K P (.tuple [.str "a", .int 1]), Has K P (.list []), Has K P (.dict []), Has K P (.bool false)]
theorem menu_at {K : PySem.W.Frag} {P : Addr} : ∀ i, i < 13 → ∃ d, (menuP K P)[i]? = some (Has K P d) ∧ d ∈ menu
  | 0, _ => ⟨_, rfl, by simp [menu]⟩ | 1, _ => ⟨_, rfl, by simp [menu]⟩ | 2, _ => ⟨_, rfl, by simp [menu]⟩ | 3, _ => ⟨_, rfl, by simp [menu]⟩ | 4, _ => ⟨_, rfl, by simp [menu]⟩ | 5, _ => ⟨_, rfl, by simp [menu]⟩
  | 6, _ => ⟨_, rfl, by simp [menu]⟩ | 7, _ => ⟨_, rfl, by simp [menu]⟩ | 8, _ => ⟨_, rfl, by simp [menu]⟩ | 9, _ => ⟨_, rfl, by simp [menu]⟩ | 10, _ => ⟨_, rfl, by simp [menu]⟩ | 11, _ => ⟨_, rfl, by simp [menu]⟩
  | 12, _ => ⟨_, rfl, by simp [menu]⟩
  | n + 13, h => absurd h (by omega)
def spValue (K : PySem.W.Frag) : Sp := fun vs H Q _ => ∃ (P L : Addr) (ns : List Int) (s : Nat) (g : Int), vs = [.ref P] ∧ Pen H P L ns s g ∧ s ≤ 1000 ∧
  ∀ (v : V) (d : PyData) (s' : Nat) (g' : Int) (H' : Hp), Val K P H' v d → s' ≤ s + 1 → But P H H' → Pen H' P L ns s' g' → Q v H'
def spMade (c : Nat → Addr) : Sp := fun vs H Q _ => ∃ y z : V, vs = [y, z] ∧ ∀ v H', Ex H H' → IsL (rows c y z) v H' → Q v H'
def spNamed (c : Nat → Addr) : Sp := fun vs H Q _ => ∃ y z : V, vs = [y, z] ∧ ∀ v H', Ex H H' → IsL (errs c y z) v H' → Q v H'
def spFields (c : Nat → Addr) : Sp := fun vs H Q _ => ∃ (e : Addr) (i : Nat) (y z : V), vs = [.ref e, .str (nameOf i)] ∧ i < 27 ∧ ErrAt H e (c i) (fsOf (fld i) y z) ∧
  ∀ v H', Ex H H' → LstIs (valsOf (fld i) y z) v H' → Q v H'
def spClasses (c : Nat → Addr) : Sp := fun vs H Q _ => ∃ (e : Addr) (i : Nat) (fs : List (Str × V)), vs = [.ref e] ∧ i < 27 ∧ ErrAt H e (c i) fs ∧
  ∀ (l : Addr) H', H l = none → Ex H H' → H' l = some (.lst [.int i]) → Q (.ref l) H'
section
variable {P : Program} {w : World} {K : PySem.W.Frag} {mg : Str → Option Value} {base : Heap}

theorem scValue : FnScope ["_law_pen_here"] ["_law_pen_here"] (defScope sValue) := ⟨rfl, rfl, rfl, by decide +kernel, rfl, by decide +kernel, by decide +kernel⟩
theorem ok_value {f fD fP : Addr} {fd fdD fdP : FuncData} (F : Fun K "_law_value" "_law_value" sValue f fd) (T : Draws K mg fD fP) (FP : Fun K "_law_pick" "_law_pick" sPick fP fdP) (FD : Fun K "_law_draw" "_law_draw" sDraw fD fdD)
    (bD : Binds K fdD ["_law_pen_here", "_law_many"] []) (bP : Binds K fdP ["_law_pen_here", "_law_some"] []) : FnOk P w K mg base CX0 3 f fd ["_law_pen_here"] (spValue K) := by
  have GP : FnOk P w K mg base CX0 2 fP fdP ["_law_pen_here", "_law_some"] spPick := ok_pick FP T FD bD
  refine F.ok scValue (fun vs H Q E h => ?_) (fun cdv A outer s H vs Q E hr h => ?_)
  · obtain ⟨_, _, _, _, _, rfl, _⟩ := h
    rfl
  · obtain ⟨P, L, ns, s, g, rfl, pen, s0, k⟩ := h
    have hr1 := hr
    refine ⟨_, (pss_one (ps_ret (pe_call GP hr1 (by rfl) T.gPick T.kPick bP .nil pass0 (pa_cons (pv 0) (pa_cons (pe_lst (pa_cons pe_non (pa_cons pe_bl (pa_cons pe_int (pa_cons (pe_un un_neg pe_int) (pa_cons (pe_op op_pow pe_int pe_int) (pa_cons pe_str (pa_cons pe_str (pa_cons pe_str (pa_cons (pe_tup pa_nil) (pa_cons (pe_tup (pa_cons pe_str (pa_cons pe_int pa_nil))) (pa_cons (pe_lstB pa_nil) (pa_cons pe_dnewK (pa_cons pe_bl pa_nil)))))))))))))) pa_nil))))), ?_⟩
    have hP := pen.pen
    refine ⟨_, rfl, ?_⟩
    have all : EvQ (tLst _) (start ["_law_pen_here"] [V.ref P]) H (IsL (menuP K P)) := (eq_lst (eq_cons (eh_c .non) (eq_cons (eh_c (.bl true)) (eq_cons (eh_c (.int 0)) (eq_cons (eh_v (ev_un ev_c ru_neg) (.int (-1))) (eq_cons (eh_v (ev_pow (i := 10) (j := 39) ⟨by decide, by decide, by decide⟩ ev_c ev_c) (.int (10 ^ 39)))
      (eq_cons (eh_c (.str "")) (eq_cons (eh_c (.str "a")) (eq_cons (eh_c (.str "two words")) (eq_cons (eh_tup hP .nil ea_nil) (eq_cons (eh_tup hP (.cons (.str "a") (.cons (.int 1) .nil)) (ea_cons ev_c (ea_cons ev_c ea_nil)))
      (eq_cons (eh_lst hP) (eq_cons (eh_dic hP) (eq_cons (eh_c (.bl false)) eq_nil))))))))))))) (by show 13 ≤ 1000; decide))
    refine all.1 H (Ex.refl H) _ fun v H1 x1 p1 => ?_
    obtain ⟨l, xs, rfl, hl, each⟩ := p1
    have hlen : xs.length = 13 := each.len
    have pen1 := pen.mono x1
    have ne : l ≠ P := fun e => by
      rw [e, pen1.pen] at hl
      have h2 := HO.lst.inj (Option.some.inj hl)
      rw [← h2] at hlen
      exact absurd hlen (by show ¬ (3 = 13); decide)
    refine ⟨P, L, l, ns, xs, s, g, rfl, (fun e => by rw [e] at hlen; cases hlen), by omega, hl, ne, pen1, s0, fun v s' g' H' hv hs but pen' => ?_⟩
    obtain ⟨i, hi⟩ := List.getElem?_of_mem hv
    have hi13 : i < 13 := by
      have := (List.getElem?_eq_some_iff.mp hi).1
      omega
    obtain ⟨d, hd, hm⟩ := menu_at (K := K) (P := P) i hi13
    obtain ⟨u, hu, G, g1, g2, g3⟩ := each.get hd
    rw [hi] at hu
    cases hu
    exact k v d s' g' H' ⟨G, g1, But.ex g2 g1 but, g3, hm⟩ hs ((But.of_ex x1).trans but) pen'

theorem ups_of0 {c : Nat → Addr} {y z : V} (n : Nat) : ∀ Q ∈ (rows c y z).take n, Up Q := fun Q hQ => by
  have h := List.mem_of_mem_take hQ
  unfold rows at h
  simp only [List.mem_cons, List.not_mem_nil, or_false] at h
  rcases h with rfl | rfl | rfl | rfl | rfl | rfl | rfl | rfl | rfl | rfl | rfl | rfl | rfl | rfl | rfl | rfl | rfl | rfl | rfl | rfl | rfl | rfl | rfl | rfl | rfl | rfl | rfl <;> exact up_row _ _ _ _ _
theorem ups_of1 {c : Nat → Addr} {y z : V} (n : Nat) : ∀ Q ∈ (errs c y z).take n, Up Q := fun Q hQ => by
  have h := List.mem_of_mem_take hQ
  unfold errs at h
  simp only [List.mem_cons, List.not_mem_nil, or_false] at h
  rcases h with rfl | rfl | rfl | rfl | rfl | rfl | rfl | rfl | rfl | rfl | rfl | rfl | rfl | rfl | rfl | rfl | rfl | rfl | rfl | rfl | rfl | rfl | rfl | rfl | rfl | rfl | rfl <;> exact up_isE _ _
theorem scMade : FnScope ["_law_one", "_law_two", "_law_found"] ["_law_one", "_law_two"] (defScope sMade) := ⟨rfl, rfl, rfl, by decide +kernel, rfl, by decide +kernel, by decide +kernel⟩
theorem ok_made {f : Addr} {fd : FuncData} {c : Nat → Addr} {cF : Addr} (F : Fun K "_law_made" "_law_made" sMade f fd) (Z : Errs P w K mg base c cF) : FnOk P w K mg base CX0 3 f fd ["_law_one", "_law_two"] (spMade c) := by
  refine F.ok scMade (fun vs H Q E h => ?_) (fun cdv A outer s H vs Q E hr h => ?_)
  · obtain ⟨_, _, rfl, _⟩ := h
    rfl
  · obtain ⟨y, z, rfl, k⟩ := h
    have nd := scMade.nd
    refine ⟨_, (pss_cons (ps_set (i := 2) nd rfl (.inl rfl) (pe_lst (pa_cons (pe_tup (pa_cons (pe_cl Z.z0 hr (pa_cons (pv 0) pa_nil)) (pa_cons pe_str (pa_cons (pe_lstB (pa_cons (pv 0) pa_nil)) pa_nil)))) (pa_cons (pe_tup (pa_cons (pe_cl Z.z1 hr (pa_cons (pv 0) pa_nil)) (pa_cons pe_str (pa_cons (pe_lstB (pa_cons (pv 0) pa_nil)) pa_nil)))) (pa_cons (pe_tup (pa_cons (pe_cl Z.z2 hr (pa_cons (pv 0) pa_nil)) (pa_cons pe_str (pa_cons (pe_lstB (pa_cons (pv 0) pa_nil)) pa_nil)))) pa_nil)))))
 (pss_cons (ps_set (i := 2) nd rfl (.inl rfl) (pe_op op_cat (pv 2) (pe_lst (pa_cons (pe_tup (pa_cons (pe_cl Z.z3 hr (pa_cons (pv 0) pa_nil)) (pa_cons pe_str (pa_cons (pe_lstB (pa_cons (pv 0) pa_nil)) pa_nil)))) (pa_cons (pe_tup (pa_cons (pe_cl Z.z4 hr (pa_cons (pv 0) (pa_cons (pv 1) pa_nil))) (pa_cons pe_str (pa_cons (pe_lstB (pa_cons (pv 0) (pa_cons (pv 1) pa_nil))) pa_nil)))) pa_nil)))))
 (pss_cons (ps_set (i := 2) nd rfl (.inl rfl) (pe_op op_cat (pv 2) (pe_lst (pa_cons (pe_tup (pa_cons (pe_cl Z.z5 hr (pa_cons (pv 0) pa_nil)) (pa_cons pe_str (pa_cons (pe_lstB (pa_cons (pv 0) pa_nil)) pa_nil)))) (pa_cons (pe_tup (pa_cons (pe_cl Z.z6 hr (pa_cons (pv 0) pa_nil)) (pa_cons pe_str (pa_cons (pe_lstB (pa_cons (pv 0) pa_nil)) pa_nil)))) (pa_cons (pe_tup (pa_cons (pe_cl Z.z7 hr (pa_cons (pv 0) pa_nil)) (pa_cons pe_str (pa_cons (pe_lstB (pa_cons (pv 0) pa_nil)) pa_nil)))) pa_nil))))))
 (pss_cons (ps_set (i := 2) nd rfl (.inl rfl) (pe_op op_cat (pv 2) (pe_lst (pa_cons (pe_tup (pa_cons (pe_cl Z.z8 hr (pa_cons (pv 0) pa_nil)) (pa_cons pe_str (pa_cons (pe_lstB (pa_cons (pv 0) pa_nil)) pa_nil)))) (pa_cons (pe_tup (pa_cons (pe_cl Z.z9 hr (pa_cons (pv 0) pa_nil)) (pa_cons pe_str (pa_cons (pe_lstB (pa_cons (pv 0) pa_nil)) pa_nil)))) (pa_cons (pe_tup (pa_cons (pe_cl Z.z10 hr (pa_cons (pv 0) pa_nil)) (pa_cons pe_str (pa_cons (pe_lstB (pa_cons (pv 0) pa_nil)) pa_nil)))) pa_nil))))))
 (pss_cons (ps_set (i := 2) nd rfl (.inl rfl) (pe_op op_cat (pv 2) (pe_lst (pa_cons (pe_tup (pa_cons (pe_cl Z.z11 hr (pa_cons (pv 0) pa_nil)) (pa_cons pe_str (pa_cons (pe_lstB (pa_cons (pv 0) pa_nil)) pa_nil)))) (pa_cons (pe_tup (pa_cons (pe_cl Z.z12 hr (pa_cons (pv 0) pa_nil)) (pa_cons pe_str (pa_cons (pe_lstB (pa_cons (pv 0) pa_nil)) pa_nil)))) (pa_cons (pe_tup (pa_cons (pe_cl Z.z13 hr (pa_cons (pv 0) pa_nil)) (pa_cons pe_str (pa_cons (pe_lstB (pa_cons (pv 0) pa_nil)) pa_nil)))) pa_nil))))))
 (pss_cons (ps_set (i := 2) nd rfl (.inl rfl) (pe_op op_cat (pv 2) (pe_lst (pa_cons (pe_tup (pa_cons (pe_cl Z.z14 hr (pa_cons (pv 0) pa_nil)) (pa_cons pe_str (pa_cons (pe_lstB (pa_cons (pv 0) pa_nil)) pa_nil)))) (pa_cons (pe_tup (pa_cons (pe_cl Z.z15 hr (pa_cons (pv 0) pa_nil)) (pa_cons pe_str (pa_cons (pe_lstB (pa_cons (pv 0) pa_nil)) pa_nil)))) (pa_cons (pe_tup (pa_cons (pe_cl Z.z16 hr (pa_cons (pv 0) pa_nil)) (pa_cons pe_str (pa_cons (pe_lstB (pa_cons (pv 0) pa_nil)) pa_nil)))) pa_nil))))))
 (pss_cons (ps_set (i := 2) nd rfl (.inl rfl) (pe_op op_cat (pv 2) (pe_lst (pa_cons (pe_tup (pa_cons (pe_cl Z.z17 hr (pa_cons (pv 0) pa_nil)) (pa_cons pe_str (pa_cons (pe_lstB (pa_cons (pv 0) pa_nil)) pa_nil)))) pa_nil))))
 (pss_cons (ps_set (i := 2) nd rfl (.inl rfl) (pe_op op_cat (pv 2) (pe_lst (pa_cons (pe_tup (pa_cons (pe_cl Z.z18 hr (pa_cons (pv 0) pa_nil)) (pa_cons pe_str (pa_cons (pe_lstB (pa_cons (pv 0) pa_nil)) pa_nil)))) (pa_cons (pe_tup (pa_cons (pe_cl Z.z19 hr (pa_cons (pv 0) pa_nil)) (pa_cons pe_str (pa_cons (pe_lstB (pa_cons (pv 0) pa_nil)) pa_nil)))) (pa_cons (pe_tup (pa_cons (pe_cl Z.z20 hr (pa_cons (pv 0) pa_nil)) (pa_cons pe_str (pa_cons (pe_lstB (pa_cons (pv 0) pa_nil)) pa_nil)))) pa_nil))))))
 (pss_cons (ps_set (i := 2) nd rfl (.inl rfl) (pe_op op_cat (pv 2) (pe_lst (pa_cons (pe_tup (pa_cons (pe_cl Z.z21 hr (pa_cons (pv 0) (pa_cons (pv 1) pa_nil))) (pa_cons pe_str (pa_cons (pe_lstB (pa_cons (pv 0) (pa_cons (pv 1) pa_nil))) pa_nil)))) (pa_cons (pe_tup (pa_cons (pe_cl Z.z22 hr (pa_cons (pv 0) pa_nil)) (pa_cons pe_str (pa_cons (pe_lstB (pa_cons (pv 0) pa_nil)) pa_nil)))) (pa_cons (pe_tup (pa_cons (pe_cl Z.z23 hr (pa_cons (pv 0) pa_nil)) (pa_cons pe_str (pa_cons (pe_lstB (pa_cons (pv 0) pa_nil)) pa_nil)))) pa_nil))))))
 (pss_one (ps_ret (pe_op op_cat (pv 2) (pe_lst (pa_cons (pe_tup (pa_cons (pe_cl Z.z24 hr (pa_cons (pv 0) pa_nil)) (pa_cons pe_str (pa_cons (pe_lstB (pa_cons (pv 0) pa_nil)) pa_nil)))) (pa_cons (pe_tup (pa_cons (pe_cl Z.z25 hr (pa_cons (pv 0) pa_nil)) (pa_cons pe_str (pa_cons (pe_lstB (pa_cons (pv 0) pa_nil)) pa_nil)))) (pa_cons (pe_tup (pa_cons (pe_bare0 PySem.F.excBase_ValueError Z.qN Z.gN Z.kN) (pa_cons pe_str (pa_cons (pe_lstB pa_nil) pa_nil)))) pa_nil)))))))))))))))), ?_⟩
    refine q_asgQ (eq_lst (eq_cons (eq_tup (eq_cons (eq_err1 Z.z0.oex Z.z0.no (ev_var rfl)) (eq_cons (eq_of ev_c) (eq_cons (eq_lstB (ea_cons (ev_var rfl) ea_nil) (by show 1 ≤ 1000; decide)) eq_nil))) (by show 3 ≤ 1000; decide)) (eq_cons (eq_tup (eq_cons (eq_err1 Z.z1.oex Z.z1.no (ev_var rfl)) (eq_cons (eq_of ev_c) (eq_cons (eq_lstB (ea_cons (ev_var rfl) ea_nil) (by show 1 ≤ 1000; decide)) eq_nil))) (by show 3 ≤ 1000; decide)) (eq_cons (eq_tup (eq_cons (eq_err1 Z.z2.oex Z.z2.no (ev_var rfl)) (eq_cons (eq_of ev_c) (eq_cons (eq_lstB (ea_cons (ev_var rfl) ea_nil) (by show 1 ≤ 1000; decide)) eq_nil))) (by show 3 ≤ 1000; decide)) eq_nil))) (by show 3 ≤ 1000; decide)) fun v0 H0 x0 p0 => ?_
    have u0 := ups_of0 (c := c) (y := y) (z := z) 3
    refine q_asgQ (eq_more u0 rfl p0 (eq_cons (eq_tup (eq_cons (eq_err1 Z.z3.oex Z.z3.no (ev_var rfl)) (eq_cons (eq_of ev_c) (eq_cons (eq_lstB (ea_cons (ev_var rfl) ea_nil) (by show 1 ≤ 1000; decide)) eq_nil))) (by show 3 ≤ 1000; decide)) (eq_cons (eq_tup (eq_cons (eq_err2 Z.z4.oex Z.z4.no (ev_var rfl) (ev_var rfl)) (eq_cons (eq_of ev_c) (eq_cons (eq_lstB (ea_cons (ev_var rfl) (ea_cons (ev_var rfl) ea_nil)) (by show 2 ≤ 1000; decide)) eq_nil))) (by show 3 ≤ 1000; decide)) eq_nil)) (by show 3 + 2 ≤ 1000; decide)) fun v1 H1 x1 p1 => ?_
    have u1 := ups_of0 (c := c) (y := y) (z := z) 5
    refine q_asgQ (eq_more u1 rfl p1 (eq_cons (eq_tup (eq_cons (eq_err1 Z.z5.oex Z.z5.no (ev_var rfl)) (eq_cons (eq_of ev_c) (eq_cons (eq_lstB (ea_cons (ev_var rfl) ea_nil) (by show 1 ≤ 1000; decide)) eq_nil))) (by show 3 ≤ 1000; decide)) (eq_cons (eq_tup (eq_cons (eq_err1 Z.z6.oex Z.z6.no (ev_var rfl)) (eq_cons (eq_of ev_c) (eq_cons (eq_lstB (ea_cons (ev_var rfl) ea_nil) (by show 1 ≤ 1000; decide)) eq_nil))) (by show 3 ≤ 1000; decide)) (eq_cons (eq_tup (eq_cons (eq_err1 Z.z7.oex Z.z7.no (ev_var rfl)) (eq_cons (eq_of ev_c) (eq_cons (eq_lstB (ea_cons (ev_var rfl) ea_nil) (by show 1 ≤ 1000; decide)) eq_nil))) (by show 3 ≤ 1000; decide)) eq_nil))) (by show 5 + 3 ≤ 1000; decide)) fun v2 H2 x2 p2 => ?_
    have u2 := ups_of0 (c := c) (y := y) (z := z) 8
    refine q_asgQ (eq_more u2 rfl p2 (eq_cons (eq_tup (eq_cons (eq_err1 Z.z8.oex Z.z8.no (ev_var rfl)) (eq_cons (eq_of ev_c) (eq_cons (eq_lstB (ea_cons (ev_var rfl) ea_nil) (by show 1 ≤ 1000; decide)) eq_nil))) (by show 3 ≤ 1000; decide)) (eq_cons (eq_tup (eq_cons (eq_err1 Z.z9.oex Z.z9.no (ev_var rfl)) (eq_cons (eq_of ev_c) (eq_cons (eq_lstB (ea_cons (ev_var rfl) ea_nil) (by show 1 ≤ 1000; decide)) eq_nil))) (by show 3 ≤ 1000; decide)) (eq_cons (eq_tup (eq_cons (eq_err1 Z.z10.oex Z.z10.no (ev_var rfl)) (eq_cons (eq_of ev_c) (eq_cons (eq_lstB (ea_cons (ev_var rfl) ea_nil) (by show 1 ≤ 1000; decide)) eq_nil))) (by show 3 ≤ 1000; decide)) eq_nil))) (by show 8 + 3 ≤ 1000; decide)) fun v3 H3 x3 p3 => ?_
    have u3 := ups_of0 (c := c) (y := y) (z := z) 11
    refine q_asgQ (eq_more u3 rfl p3 (eq_cons (eq_tup (eq_cons (eq_err1 Z.z11.oex Z.z11.no (ev_var rfl)) (eq_cons (eq_of ev_c) (eq_cons (eq_lstB (ea_cons (ev_var rfl) ea_nil) (by show 1 ≤ 1000; decide)) eq_nil))) (by show 3 ≤ 1000; decide)) (eq_cons (eq_tup (eq_cons (eq_err1 Z.z12.oex Z.z12.no (ev_var rfl)) (eq_cons (eq_of ev_c) (eq_cons (eq_lstB (ea_cons (ev_var rfl) ea_nil) (by show 1 ≤ 1000; decide)) eq_nil))) (by show 3 ≤ 1000; decide)) (eq_cons (eq_tup (eq_cons (eq_err1 Z.z13.oex Z.z13.no (ev_var rfl)) (eq_cons (eq_of ev_c) (eq_cons (eq_lstB (ea_cons (ev_var rfl) ea_nil) (by show 1 ≤ 1000; decide)) eq_nil))) (by show 3 ≤ 1000; decide)) eq_nil))) (by show 11 + 3 ≤ 1000; decide)) fun v4 H4 x4 p4 => ?_
    have u4 := ups_of0 (c := c) (y := y) (z := z) 14
    refine q_asgQ (eq_more u4 rfl p4 (eq_cons (eq_tup (eq_cons (eq_err1 Z.z14.oex Z.z14.no (ev_var rfl)) (eq_cons (eq_of ev_c) (eq_cons (eq_lstB (ea_cons (ev_var rfl) ea_nil) (by show 1 ≤ 1000; decide)) eq_nil))) (by show 3 ≤ 1000; decide)) (eq_cons (eq_tup (eq_cons (eq_err1 Z.z15.oex Z.z15.no (ev_var rfl)) (eq_cons (eq_of ev_c) (eq_cons (eq_lstB (ea_cons (ev_var rfl) ea_nil) (by show 1 ≤ 1000; decide)) eq_nil))) (by show 3 ≤ 1000; decide)) (eq_cons (eq_tup (eq_cons (eq_err1 Z.z16.oex Z.z16.no (ev_var rfl)) (eq_cons (eq_of ev_c) (eq_cons (eq_lstB (ea_cons (ev_var rfl) ea_nil) (by show 1 ≤ 1000; decide)) eq_nil))) (by show 3 ≤ 1000; decide)) eq_nil))) (by show 14 + 3 ≤ 1000; decide)) fun v5 H5 x5 p5 => ?_
    have u5 := ups_of0 (c := c) (y := y) (z := z) 17
    refine q_asgQ (eq_more u5 rfl p5 (eq_cons (eq_tup (eq_cons (eq_err1 Z.z17.oex Z.z17.no (ev_var rfl)) (eq_cons (eq_of ev_c) (eq_cons (eq_lstB (ea_cons (ev_var rfl) ea_nil) (by show 1 ≤ 1000; decide)) eq_nil))) (by show 3 ≤ 1000; decide)) eq_nil) (by show 17 + 1 ≤ 1000; decide)) fun v6 H6 x6 p6 => ?_
    have u6 := ups_of0 (c := c) (y := y) (z := z) 18
    refine q_asgQ (eq_more u6 rfl p6 (eq_cons (eq_tup (eq_cons (eq_err1 Z.z18.oex Z.z18.no (ev_var rfl)) (eq_cons (eq_of ev_c) (eq_cons (eq_lstB (ea_cons (ev_var rfl) ea_nil) (by show 1 ≤ 1000; decide)) eq_nil))) (by show 3 ≤ 1000; decide)) (eq_cons (eq_tup (eq_cons (eq_err1 Z.z19.oex Z.z19.no (ev_var rfl)) (eq_cons (eq_of ev_c) (eq_cons (eq_lstB (ea_cons (ev_var rfl) ea_nil) (by show 1 ≤ 1000; decide)) eq_nil))) (by show 3 ≤ 1000; decide)) (eq_cons (eq_tup (eq_cons (eq_err1 Z.z20.oex Z.z20.no (ev_var rfl)) (eq_cons (eq_of ev_c) (eq_cons (eq_lstB (ea_cons (ev_var rfl) ea_nil) (by show 1 ≤ 1000; decide)) eq_nil))) (by show 3 ≤ 1000; decide)) eq_nil))) (by show 18 + 3 ≤ 1000; decide)) fun v7 H7 x7 p7 => ?_
    have u7 := ups_of0 (c := c) (y := y) (z := z) 21
    refine q_asgQ (eq_more u7 rfl p7 (eq_cons (eq_tup (eq_cons (eq_err2 Z.z21.oex Z.z21.no (ev_var rfl) (ev_var rfl)) (eq_cons (eq_of ev_c) (eq_cons (eq_lstB (ea_cons (ev_var rfl) (ea_cons (ev_var rfl) ea_nil)) (by show 2 ≤ 1000; decide)) eq_nil))) (by show 3 ≤ 1000; decide)) (eq_cons (eq_tup (eq_cons (eq_err1 Z.z22.oex Z.z22.no (ev_var rfl)) (eq_cons (eq_of ev_c) (eq_cons (eq_lstB (ea_cons (ev_var rfl) ea_nil) (by show 1 ≤ 1000; decide)) eq_nil))) (by show 3 ≤ 1000; decide)) (eq_cons (eq_tup (eq_cons (eq_err1 Z.z23.oex Z.z23.no (ev_var rfl)) (eq_cons (eq_of ev_c) (eq_cons (eq_lstB (ea_cons (ev_var rfl) ea_nil) (by show 1 ≤ 1000; decide)) eq_nil))) (by show 3 ≤ 1000; decide)) eq_nil))) (by show 21 + 3 ≤ 1000; decide)) fun v8 H8 x8 p8 => ?_
    have u8 := ups_of0 (c := c) (y := y) (z := z) 24
    refine s_retQ (eq_more u8 rfl p8 (eq_cons (eq_tup (eq_cons (eq_err1 Z.z24.oex Z.z24.no (ev_var rfl)) (eq_cons (eq_of ev_c) (eq_cons (eq_lstB (ea_cons (ev_var rfl) ea_nil) (by show 1 ≤ 1000; decide)) eq_nil))) (by show 3 ≤ 1000; decide)) (eq_cons (eq_tup (eq_cons (eq_err1 Z.z25.oex Z.z25.no (ev_var rfl)) (eq_cons (eq_of ev_c) (eq_cons (eq_lstB (ea_cons (ev_var rfl) ea_nil) (by show 1 ≤ 1000; decide)) eq_nil))) (by show 3 ≤ 1000; decide)) (eq_cons (eq_tup (eq_cons (eq_bare ea_nil (Nat.zero_le _)) (eq_cons (eq_of ev_c) (eq_cons (eq_lstB ea_nil (by show 0 ≤ 1000; decide)) eq_nil))) (by show 3 ≤ 1000; decide)) eq_nil))) (by show 24 + 3 ≤ 1000; decide)) fun v9 H9 x9 p9 => ?_
    exact k _ _ ((((((((((x0).trans x1).trans x2).trans x3).trans x4).trans x5).trans x6).trans x7).trans x8).trans x9) p9

theorem scNamed : FnScope ["_law_one", "_law_two", "_law_found"] ["_law_one", "_law_two"] (defScope sNamed) := ⟨rfl, rfl, rfl, by decide +kernel, rfl, by decide +kernel, by decide +kernel⟩
theorem ok_named {f : Addr} {fd : FuncData} {c : Nat → Addr} {cF : Addr} (F : Fun K "_law_named" "_law_named" sNamed f fd) (Z : Errs P w K mg base c cF) : FnOk P w K mg base CX0 3 f fd ["_law_one", "_law_two"] (spNamed c) := by
  refine F.ok scNamed (fun vs H Q E h => ?_) (fun cdv A outer s H vs Q E hr h => ?_)
  · obtain ⟨_, _, rfl, _⟩ := h
    rfl
  · obtain ⟨y, z, rfl, k⟩ := h
    have nd := scNamed.nd
    refine ⟨_, (pss_cons (ps_set (i := 2) nd rfl (.inl rfl) (pe_lst (pa_cons (pe_clK Z.z0 hr (pk_cons (pv 0) pk_nil)) (pa_cons (pe_clK Z.z1 hr (pk_cons (pv 0) pk_nil)) (pa_cons (pe_clK Z.z2 hr (pk_cons (pv 0) pk_nil)) (pa_cons (pe_clK Z.z3 hr (pk_cons (pv 0) pk_nil)) (pa_cons (pe_clK Z.z4 hr (pk_cons (pv 1) (pk_cons (pv 0) pk_nil))) pa_nil)))))))
 (pss_cons (ps_set (i := 2) nd rfl (.inl rfl) (pe_op op_cat (pv 2) (pe_lst (pa_cons (pe_clK Z.z5 hr (pk_cons (pv 0) pk_nil)) (pa_cons (pe_clK Z.z6 hr (pk_cons (pv 0) pk_nil)) (pa_cons (pe_clK Z.z7 hr (pk_cons (pv 0) pk_nil)) (pa_cons (pe_clK Z.z8 hr (pk_cons (pv 0) pk_nil)) (pa_cons (pe_clK Z.z9 hr (pk_cons (pv 0) pk_nil)) pa_nil))))))))
 (pss_cons (ps_set (i := 2) nd rfl (.inl rfl) (pe_op op_cat (pv 2) (pe_lst (pa_cons (pe_clK Z.z10 hr (pk_cons (pv 0) pk_nil)) (pa_cons (pe_clK Z.z11 hr (pk_cons (pv 0) pk_nil)) (pa_cons (pe_clK Z.z12 hr (pk_cons (pv 0) pk_nil)) (pa_cons (pe_clK Z.z13 hr (pk_cons (pv 0) pk_nil)) (pa_cons (pe_clK Z.z14 hr (pk_cons (pv 0) pk_nil)) pa_nil))))))))
 (pss_cons (ps_set (i := 2) nd rfl (.inl rfl) (pe_op op_cat (pv 2) (pe_lst (pa_cons (pe_clK Z.z15 hr (pk_cons (pv 0) pk_nil)) (pa_cons (pe_clK Z.z16 hr (pk_cons (pv 0) pk_nil)) (pa_cons (pe_clK Z.z17 hr (pk_cons (pv 0) pk_nil)) (pa_cons (pe_clK Z.z18 hr (pk_cons (pv 0) pk_nil)) (pa_cons (pe_clK Z.z19 hr (pk_cons (pv 0) pk_nil)) (pa_cons (pe_clK Z.z20 hr (pk_cons (pv 0) pk_nil)) pa_nil)))))))))
 (pss_cons (ps_set (i := 2) nd rfl (.inl rfl) (pe_op op_cat (pv 2) (pe_lst (pa_cons (pe_clK Z.z21 hr (pk_cons (pv 1) (pk_cons (pv 0) pk_nil))) (pa_cons (pe_clK Z.z22 hr (pk_cons (pv 0) pk_nil)) (pa_cons (pe_clK Z.z23 hr (pk_cons (pv 0) pk_nil)) (pa_cons (pe_clK Z.z24 hr (pk_cons (pv 0) pk_nil)) (pa_cons (pe_clK Z.z25 hr (pk_cons (pv 0) pk_nil)) pa_nil))))))))
 (pss_one (ps_ret (pe_op op_cat (pv 2) (pe_lst (pa_cons (pe_bare0 PySem.F.excBase_ValueError Z.qN Z.gN Z.kN) pa_nil)))))))))), ?_⟩
    refine q_asgQ (eq_lst (eq_cons (eq_errK1 Z.z0.oex Z.z0.no (ev_var rfl)) (eq_cons (eq_errK1 Z.z1.oex Z.z1.no (ev_var rfl)) (eq_cons (eq_errK1 Z.z2.oex Z.z2.no (ev_var rfl)) (eq_cons (eq_errK1 Z.z3.oex Z.z3.no (ev_var rfl)) (eq_cons (eq_errK2 Z.z4.oex Z.z4.no (ev_var rfl) (ev_var rfl)) eq_nil))))) (by show 5 ≤ 1000; decide)) fun v0 H0 x0 p0 => ?_
    have u0 := ups_of1 (c := c) (y := y) (z := z) 5
    refine q_asgQ (eq_more u0 rfl p0 (eq_cons (eq_errK1 Z.z5.oex Z.z5.no (ev_var rfl)) (eq_cons (eq_errK1 Z.z6.oex Z.z6.no (ev_var rfl)) (eq_cons (eq_errK1 Z.z7.oex Z.z7.no (ev_var rfl)) (eq_cons (eq_errK1 Z.z8.oex Z.z8.no (ev_var rfl)) (eq_cons (eq_errK1 Z.z9.oex Z.z9.no (ev_var rfl)) eq_nil))))) (by show 5 + 5 ≤ 1000; decide)) fun v1 H1 x1 p1 => ?_
    have u1 := ups_of1 (c := c) (y := y) (z := z) 10
    refine q_asgQ (eq_more u1 rfl p1 (eq_cons (eq_errK1 Z.z10.oex Z.z10.no (ev_var rfl)) (eq_cons (eq_errK1 Z.z11.oex Z.z11.no (ev_var rfl)) (eq_cons (eq_errK1 Z.z12.oex Z.z12.no (ev_var rfl)) (eq_cons (eq_errK1 Z.z13.oex Z.z13.no (ev_var rfl)) (eq_cons (eq_errK1 Z.z14.oex Z.z14.no (ev_var rfl)) eq_nil))))) (by show 10 + 5 ≤ 1000; decide)) fun v2 H2 x2 p2 => ?_
    have u2 := ups_of1 (c := c) (y := y) (z := z) 15
    refine q_asgQ (eq_more u2 rfl p2 (eq_cons (eq_errK1 Z.z15.oex Z.z15.no (ev_var rfl)) (eq_cons (eq_errK1 Z.z16.oex Z.z16.no (ev_var rfl)) (eq_cons (eq_errK1 Z.z17.oex Z.z17.no (ev_var rfl)) (eq_cons (eq_errK1 Z.z18.oex Z.z18.no (ev_var rfl)) (eq_cons (eq_errK1 Z.z19.oex Z.z19.no (ev_var rfl)) (eq_cons (eq_errK1 Z.z20.oex Z.z20.no (ev_var rfl)) eq_nil)))))) (by show 15 + 6 ≤ 1000; decide)) fun v3 H3 x3 p3 => ?_
    have u3 := ups_of1 (c := c) (y := y) (z := z) 21
    refine q_asgQ (eq_more u3 rfl p3 (eq_cons (eq_errK2 Z.z21.oex Z.z21.no (ev_var rfl) (ev_var rfl)) (eq_cons (eq_errK1 Z.z22.oex Z.z22.no (ev_var rfl)) (eq_cons (eq_errK1 Z.z23.oex Z.z23.no (ev_var rfl)) (eq_cons (eq_errK1 Z.z24.oex Z.z24.no (ev_var rfl)) (eq_cons (eq_errK1 Z.z25.oex Z.z25.no (ev_var rfl)) eq_nil))))) (by show 21 + 5 ≤ 1000; decide)) fun v4 H4 x4 p4 => ?_
    have u4 := ups_of1 (c := c) (y := y) (z := z) 26
    refine s_retQ (eq_more u4 rfl p4 (eq_cons (eq_bare ea_nil (Nat.zero_le _)) eq_nil) (by show 26 + 1 ≤ 1000; decide)) fun v5 H5 x5 p5 => ?_
    exact k _ _ ((((((x0).trans x1).trans x2).trans x3).trans x4).trans x5) p5

end
end K01

set_option Elab.async false
set_option linter.all false
set_option maxRecDepth 100000
set_option maxHeartbeats 8000000
/-! The law's own defs: what the fields hold, which classes an error is of -/
namespace K01
open PySem PySem.Spec PyProof.Rows L2 Evl KU
abbrev cS (x : Str) : TE := tC (.str x)
abbrev tEqS (x : Str) : TT := tTest (tOp rEq (tVar 1) (cS x))
abbrev tInS (K : PySem.W.Frag) (a b : Str) : TT := tTest (tOp (rIn K false) (tVar 1) (tTup (tCons (cS a) (tCons (cS b) tNil))))
abbrev tOne (K : PySem.W.Frag) (f : Str) : TE := tLstB (tCons (tErrF K f (tVar 0)) tNil)
abbrev tTwo (K : PySem.W.Frag) (f g : Str) : TE := tLstB (tCons (tErrF K f (tVar 0)) (tCons (tErrF K g (tVar 0)) tNil))
abbrev tEither (K : PySem.W.Frag) (a b : Str) : TS := tRet (tIf (tEqS a) (tOne K a) (tOne K b))
def tFields (K : PySem.W.Frag) : TS := tSeq (tIfS (tEqS "line word") (tRet (tTwo K "line" "word")) tNext) (tSeq (tIfS (tEqS "what most") (tRet (tTwo K "what" "most")) tNext)
  (tSeq (tIfS (tInS K "value" "part") (tEither K "value" "part") tNext) (tSeq (tIfS (tInS K "word" "most") (tEither K "word" "most") tNext) (tSeq (tIfS (tInS K "end" "at") (tEither K "end" "at") tNext) (tRet (tLstB tNil))))))
section
variable {K : PySem.W.Frag} {H : Hp} {Q : VK} {D : Ends} {e C : Addr} {nm a b c : Str} {tu tz : TS} {y z : V}
theorem ev_eqs {r : Bool} (h : decide (V.str nm = V.str c) = r) : EvT (tEqS c) [some (.ref e), some (.str nm)] H r := by
  have z := et_test (ev_op (σ := [some (.ref e), some (.str nm)]) (H := H) (ev_var (i := 1) rfl) (ev_c (v := .str c)) (rv_eq rfl))
  rw [h] at z
  exact z
theorem ev_ins {r : Bool} (h : inV (.str nm) [.str a, .str b] = r) : EvT (tInS K a b) [some (.ref e), some (.str nm)] H r := by
  have z := et_test (ev_inU (K := K) (σ := [some (.ref e), some (.str nm)]) (H := H) (ev_var (i := 1) rfl) (eu_tup (ea_cons (ev_c (v := .str a)) (ea_cons (ev_c (v := .str b)) ea_nil)) (by show 2 ≤ 100000; decide)) rfl rfl)
  rw [h] at z
  exact z
theorem no_eq (h : decide (V.str nm = V.str c) = false) (k : ∀ H1, Ex H H1 → tz D [some (.ref e), some (.str nm)] H1) : tSeq (tIfS (tEqS c) tu tNext) tz D [some (.ref e), some (.str nm)] H :=
  q_when (ev_eqs h) (fun hb => nomatch hb) fun _ => k
theorem yes_eq (h : decide (V.str nm = V.str c) = true) (k : ∀ H1, Ex H H1 → tu { D with nx := tz D } [some (.ref e), some (.str nm)] H1) : tSeq (tIfS (tEqS c) tu tNext) tz D [some (.ref e), some (.str nm)] H :=
  q_when (ev_eqs h) (fun _ => k) fun hb => nomatch hb
theorem no_in (h : inV (.str nm) [.str a, .str b] = false) (k : ∀ H1, Ex H H1 → tz D [some (.ref e), some (.str nm)] H1) : tSeq (tIfS (tInS K a b) tu tNext) tz D [some (.ref e), some (.str nm)] H :=
  q_when (ev_ins h) (fun hb => nomatch hb) fun _ => k
theorem yes_in (h : inV (.str nm) [.str a, .str b] = true) (k : ∀ H1, Ex H H1 → tu { D with nx := tz D } [some (.ref e), some (.str nm)] H1) : tSeq (tIfS (tInS K a b) tu tNext) tz D [some (.ref e), some (.str nm)] H :=
  q_when (ev_ins h) (fun _ => k) fun hb => nomatch hb
theorem one_of_two {f : Str} {r : Bool} (h : decide (V.str nm = V.str a) = r) (hf : f = if r then a else b) (T : ExcC K C) (no : ∀ x ∈ ([f] : List Str), PySem.W.findIn K (.ref C) x = some none) (at_ : ErrAt H e C [(f, y)])
    (k : ∀ v H', Ex H H' → LstIs [y] v H' → D.rt v H') : tEither K a b D [some (.ref e), some (.str nm)] H := by
  refine ev_eqs h H (Ex.refl H) _ fun H1 x1 => ?_
  have no' := no f (List.mem_cons_self ..)
  have lk : ([(f, y)] : List (Str × V)).lookup f = some y := by simp [List.lookup]
  have at1 := at_.mono x1
  cases r with
  | true =>
    subst hf
    exact (eq_lstB (ea_cons (ev_errF T no' at1 lk (ev_var rfl)) ea_nil) (by show 1 ≤ 1000; decide)).1 H1 (Ex.refl H1) _ fun v H2 x2 p => k v H2 (x1.trans x2) p
  | false =>
    subst hf
    exact (eq_lstB (ea_cons (ev_errF T no' at1 lk (ev_var rfl)) ea_nil) (by show 1 ≤ 1000; decide)).1 H1 (Ex.refl H1) _ fun v H2 x2 p => k v H2 (x1.trans x2) p
theorem both_of {f g : Str} (ne : (f == g) = false) (T : ExcC K C) (no : ∀ x ∈ ([f, g] : List Str), PySem.W.findIn K (.ref C) x = some none) (at_ : ErrAt H e C [(g, z), (f, y)])
    (k : ∀ v H', Ex H H' → LstIs [y, z] v H' → D.rt v H') : tRet (tTwo K f g) D [some (.ref e), some (.str nm)] H := by
  have n1 := no f (List.mem_cons_self ..)
  have n2 := no g (List.mem_cons_of_mem _ (List.mem_cons_self ..))
  have l1 : ([(g, z), (f, y)] : List (Str × V)).lookup f = some y := by simp [List.lookup, ne]
  have l2 : ([(g, z), (f, y)] : List (Str × V)).lookup g = some z := by simp [List.lookup]
  exact s_retQ (eq_lstB (ea_cons (ev_errF T n1 at_ l1 (ev_var rfl)) (ea_cons (ev_errF T n2 at_ l2 (ev_var rfl)) ea_nil)) (by show 2 ≤ 1000; decide)) fun v H1 x1 p => k v H1 x1 p

theorem fields_value (T : ExcC K C) (no : ∀ x ∈ (["value"] : List Str), PySem.W.findIn K (.ref C) x = some none) (at_ : ErrAt H e C [("value", y)]) (k : ∀ v H', Ex H H' → LstIs [y] v H' → D.rt v H') :
    tFields K D [some (.ref e), some (.str "value")] H :=
  no_eq (by decide +kernel) fun H0 x0 => no_eq (by decide +kernel) fun H1 x1 => yes_in (by decide +kernel) fun H2 x2 => one_of_two (r := true) (by decide +kernel) rfl T no (at_.mono (((x0).trans x1).trans x2)) fun v H9 x9 p => k v H9 ((((x0).trans x1).trans x2).trans x9) p

theorem fields_part (T : ExcC K C) (no : ∀ x ∈ (["part"] : List Str), PySem.W.findIn K (.ref C) x = some none) (at_ : ErrAt H e C [("part", y)]) (k : ∀ v H', Ex H H' → LstIs [y] v H' → D.rt v H') :
    tFields K D [some (.ref e), some (.str "part")] H :=
  no_eq (by decide +kernel) fun H0 x0 => no_eq (by decide +kernel) fun H1 x1 => yes_in (by decide +kernel) fun H2 x2 => one_of_two (r := false) (by decide +kernel) rfl T no (at_.mono (((x0).trans x1).trans x2)) fun v H9 x9 p => k v H9 ((((x0).trans x1).trans x2).trans x9) p

theorem fields_line_word (T : ExcC K C) (no : ∀ x ∈ (["line", "word"] : List Str), PySem.W.findIn K (.ref C) x = some none) (at_ : ErrAt H e C [("word", z), ("line", y)]) (k : ∀ v H', Ex H H' → LstIs [y, z] v H' → D.rt v H') :
    tFields K D [some (.ref e), some (.str "line word")] H :=
  yes_eq (by decide +kernel) fun H0 x0 => both_of (by decide +kernel) T no (at_.mono (x0)) fun v H9 x9 p => k v H9 ((x0).trans x9) p

theorem fields_word (T : ExcC K C) (no : ∀ x ∈ (["word"] : List Str), PySem.W.findIn K (.ref C) x = some none) (at_ : ErrAt H e C [("word", y)]) (k : ∀ v H', Ex H H' → LstIs [y] v H' → D.rt v H') :
    tFields K D [some (.ref e), some (.str "word")] H :=
  no_eq (by decide +kernel) fun H0 x0 => no_eq (by decide +kernel) fun H1 x1 => no_in (by decide +kernel) fun H2 x2 => yes_in (by decide +kernel) fun H3 x3 => one_of_two (r := true) (by decide +kernel) rfl T no (at_.mono ((((x0).trans x1).trans x2).trans x3)) fun v H9 x9 p => k v H9 (((((x0).trans x1).trans x2).trans x3).trans x9) p

theorem fields_end (T : ExcC K C) (no : ∀ x ∈ (["end"] : List Str), PySem.W.findIn K (.ref C) x = some none) (at_ : ErrAt H e C [("end", y)]) (k : ∀ v H', Ex H H' → LstIs [y] v H' → D.rt v H') :
    tFields K D [some (.ref e), some (.str "end")] H :=
  no_eq (by decide +kernel) fun H0 x0 => no_eq (by decide +kernel) fun H1 x1 => no_in (by decide +kernel) fun H2 x2 => no_in (by decide +kernel) fun H3 x3 => yes_in (by decide +kernel) fun H4 x4 => one_of_two (r := true) (by decide +kernel) rfl T no (at_.mono (((((x0).trans x1).trans x2).trans x3).trans x4)) fun v H9 x9 p => k v H9 ((((((x0).trans x1).trans x2).trans x3).trans x4).trans x9) p

theorem fields_what_most (T : ExcC K C) (no : ∀ x ∈ (["what", "most"] : List Str), PySem.W.findIn K (.ref C) x = some none) (at_ : ErrAt H e C [("most", z), ("what", y)]) (k : ∀ v H', Ex H H' → LstIs [y, z] v H' → D.rt v H') :
    tFields K D [some (.ref e), some (.str "what most")] H :=
  no_eq (by decide +kernel) fun H0 x0 => yes_eq (by decide +kernel) fun H1 x1 => both_of (by decide +kernel) T no (at_.mono ((x0).trans x1)) fun v H9 x9 p => k v H9 (((x0).trans x1).trans x9) p

theorem fields_most (T : ExcC K C) (no : ∀ x ∈ (["most"] : List Str), PySem.W.findIn K (.ref C) x = some none) (at_ : ErrAt H e C [("most", y)]) (k : ∀ v H', Ex H H' → LstIs [y] v H' → D.rt v H') :
    tFields K D [some (.ref e), some (.str "most")] H :=
  no_eq (by decide +kernel) fun H0 x0 => no_eq (by decide +kernel) fun H1 x1 => no_in (by decide +kernel) fun H2 x2 => yes_in (by decide +kernel) fun H3 x3 => one_of_two (r := false) (by decide +kernel) rfl T no (at_.mono ((((x0).trans x1).trans x2).trans x3)) fun v H9 x9 p => k v H9 (((((x0).trans x1).trans x2).trans x3).trans x9) p

theorem fields_at (T : ExcC K C) (no : ∀ x ∈ (["at"] : List Str), PySem.W.findIn K (.ref C) x = some none) (at_ : ErrAt H e C [("at", y)]) (k : ∀ v H', Ex H H' → LstIs [y] v H' → D.rt v H') :
    tFields K D [some (.ref e), some (.str "at")] H :=
  no_eq (by decide +kernel) fun H0 x0 => no_eq (by decide +kernel) fun H1 x1 => no_in (by decide +kernel) fun H2 x2 => no_in (by decide +kernel) fun H3 x3 => yes_in (by decide +kernel) fun H4 x4 => one_of_two (r := false) (by decide +kernel) rfl T no (at_.mono (((((x0).trans x1).trans x2).trans x3).trans x4)) fun v H9 x9 p => k v H9 ((((((x0).trans x1).trans x2).trans x3).trans x4).trans x9) p

theorem fields_none (T : ExcC K C) (no : ∀ x ∈ ([] : List Str), PySem.W.findIn K (.ref C) x = some none) (at_ : ErrAt H e C []) (k : ∀ v H', Ex H H' → LstIs [] v H' → D.rt v H') :
    tFields K D [some (.ref e), some (.str "")] H :=
  no_eq (by decide +kernel) fun H0 x0 => no_eq (by decide +kernel) fun H1 x1 => no_in (by decide +kernel) fun H2 x2 => no_in (by decide +kernel) fun H3 x3 => no_in (by decide +kernel) fun H4 x4 => s_retQ (eq_lstB ea_nil (Nat.zero_le _)) fun v H9 x9 p => k v H9 ((((((x0).trans x1).trans x2).trans x3).trans x4).trans x9) p

end
section
variable {P : Program} {w : World} {K : PySem.W.Frag} {mg : Str → Option Value} {base : Heap}
theorem fields_any {c : Nat → Addr} {e : Addr} {H : Hp} {D : Ends} {y z : V} (T : ∀ i, i < 27 → ExcC K (c i)) (no : ∀ i, i < 27 → ∀ f ∈ fld i, PySem.W.findIn K (.ref (c i)) f = some none) : ∀ i, i < 27 → ErrAt H e (c i) (fsOf (fld i) y z) →
    (∀ v H', Ex H H' → LstIs (valsOf (fld i) y z) v H' → D.rt v H') → tFields K D [some (.ref e), some (.str (nameOf i))] H
  | 0, h, a, k => fields_value (y := y) (T 0 h) (no 0 h) a k
  | 1, h, a, k => fields_value (y := y) (T 1 h) (no 1 h) a k
  | 2, h, a, k => fields_part (y := y) (T 2 h) (no 2 h) a k
  | 3, h, a, k => fields_value (y := y) (T 3 h) (no 3 h) a k
  | 4, h, a, k => fields_line_word (y := y) (z := z) (T 4 h) (no 4 h) a k
  | 5, h, a, k => fields_value (y := y) (T 5 h) (no 5 h) a k
  | 6, h, a, k => fields_value (y := y) (T 6 h) (no 6 h) a k
  | 7, h, a, k => fields_part (y := y) (T 7 h) (no 7 h) a k
  | 8, h, a, k => fields_part (y := y) (T 8 h) (no 8 h) a k
  | 9, h, a, k => fields_value (y := y) (T 9 h) (no 9 h) a k
  | 10, h, a, k => fields_part (y := y) (T 10 h) (no 10 h) a k
  | 11, h, a, k => fields_part (y := y) (T 11 h) (no 11 h) a k
  | 12, h, a, k => fields_part (y := y) (T 12 h) (no 12 h) a k
  | 13, h, a, k => fields_part (y := y) (T 13 h) (no 13 h) a k
  | 14, h, a, k => fields_value (y := y) (T 14 h) (no 14 h) a k
  | 15, h, a, k => fields_value (y := y) (T 15 h) (no 15 h) a k
  | 16, h, a, k => fields_part (y := y) (T 16 h) (no 16 h) a k
  | 17, h, a, k => fields_part (y := y) (T 17 h) (no 17 h) a k
  | 18, h, a, k => fields_part (y := y) (T 18 h) (no 18 h) a k
  | 19, h, a, k => fields_word (y := y) (T 19 h) (no 19 h) a k
  | 20, h, a, k => fields_end (y := y) (T 20 h) (no 20 h) a k
  | 21, h, a, k => fields_what_most (y := y) (z := z) (T 21 h) (no 21 h) a k
  | 22, h, a, k => fields_end (y := y) (T 22 h) (no 22 h) a k
  | 23, h, a, k => fields_most (y := y) (T 23 h) (no 23 h) a k
  | 24, h, a, k => fields_end (y := y) (T 24 h) (no 24 h) a k
  | 25, h, a, k => fields_at (y := y) (T 25 h) (no 25 h) a k
  | 26, h, a, k => fields_none (T 26 h) (no 26 h) a k
  | n + 27, h, _, _ => absurd h (by omega)
theorem scFields : FnScope ["_law_error", "_law_names"] ["_law_error", "_law_names"] (defScope sFields) := ⟨rfl, rfl, rfl, by decide +kernel, rfl, by decide +kernel, by decide +kernel⟩
theorem ok_fields {f : Addr} {fd : FuncData} {c : Nat → Addr} {cF : Addr} (F : Fun K "_law_fields" "_law_fields" sFields f fd) (Z : Errs P w K mg base c cF) : FnOk P w K mg base CX0 1 f fd ["_law_error", "_law_names"] (spFields c) := by
  refine F.ok scFields (fun vs H Q E h => ?_) (fun cdv A outer s H vs Q E hr h => ?_)
  · obtain ⟨_, _, _, _, rfl, _⟩ := h
    rfl
  · obtain ⟨e, i, y, z, rfl, hi, at_, k⟩ := h
    refine ⟨_, (pss_cons (ps_if (pt_cmpR op_eq (pv 1) pe_str (nomark _))
 (pss_one (ps_ret (pe_lstB (pa_cons (pe_errF (pv 0)) (pa_cons (pe_errF (pv 0)) pa_nil)))))
 pss_nil)
 (pss_cons (ps_if (pt_cmpR op_eq (pv 1) pe_str (nomark _))
 (pss_one (ps_ret (pe_lstB (pa_cons (pe_errF (pv 0)) (pa_cons (pe_errF (pv 0)) pa_nil)))))
 pss_nil)
 (pss_cons (ps_if (pt_cmpR op_in_seq (pv 1) (pe_tup (pa_cons pe_str (pa_cons pe_str pa_nil))) (by rfl))
 (pss_one (ps_ret (pe_ifExp (pt_cmpR op_eq (pv 1) pe_str (nomark _)) (pe_lstB (pa_cons (pe_errF (pv 0)) pa_nil)) (pe_lstB (pa_cons (pe_errF (pv 0)) pa_nil)))))
 pss_nil)
 (pss_cons (ps_if (pt_cmpR op_in_seq (pv 1) (pe_tup (pa_cons pe_str (pa_cons pe_str pa_nil))) (by rfl))
 (pss_one (ps_ret (pe_ifExp (pt_cmpR op_eq (pv 1) pe_str (nomark _)) (pe_lstB (pa_cons (pe_errF (pv 0)) pa_nil)) (pe_lstB (pa_cons (pe_errF (pv 0)) pa_nil)))))
 pss_nil)
 (pss_cons (ps_if (pt_cmpR op_in_seq (pv 1) (pe_tup (pa_cons pe_str (pa_cons pe_str pa_nil))) (by rfl))
 (pss_one (ps_ret (pe_ifExp (pt_cmpR op_eq (pv 1) pe_str (nomark _)) (pe_lstB (pa_cons (pe_errF (pv 0)) pa_nil)) (pe_lstB (pa_cons (pe_errF (pv 0)) pa_nil)))))
 pss_nil)
 (pss_one (ps_ret (pe_lstB pa_nil)))))))), ?_⟩
    exact fields_any Z.exc Z.no i hi at_ k

theorem told_at (i k : Nat) (h : k < 27) : ((List.range 26).map (fun j => V.bl (decide (i = j))) ++ [V.bl (decide (i = 26))])[k]? = some (V.bl (decide (i = k))) := by
  have e : (List.range 26).map (fun j => V.bl (decide (i = j))) ++ [V.bl (decide (i = 26))] = (List.range 27).map (fun j => V.bl (decide (i = j))) := by
    rw [List.range_succ, List.map_append]
    rfl
  rw [e, List.getElem?_map, List.getElem?_range h]
  rfl
theorem one_of : ∀ i, i < 27 → given 27 (fun k => decide (i = k)) (fun k => V.int k) = [V.int i] := by decide +kernel
theorem scClasses : FnScope ["_law_error", "_law_told", "_law_spot"] ["_law_error"] (defScope sClasses) := ⟨rfl, rfl, rfl, by decide +kernel, rfl, by decide +kernel, by decide +kernel⟩
theorem ok_classes {f : Addr} {fd : FuncData} {c : Nat → Addr} {cF : Addr} (F : Fun K "_law_classes" "_law_classes" sClasses f fd) (Z : Errs P w K mg base c cF) : FnOk P w K mg base CX0 1 f fd ["_law_error"] (spClasses c) := by
  refine F.ok scClasses (fun vs H Q E h => ?_) (fun cdv A outer s H vs Q E hr h => ?_)
  · obtain ⟨_, _, _, rfl, _⟩ := h
    rfl
  · obtain ⟨e, i, fs, rfl, hi, at_, k⟩ := h
    have nd := scClasses.nd
    refine ⟨_, (pss_cons (ps_set (i := 1) nd rfl (.inr rfl) (pe_lst (pa_cons (pe_callB (r := rIsErr K) (id := "isinstance") (by exact call_isErr) (by rfl) Z.ii (by decide +kernel) (pa_cons (pv 0) (pa_cons (pe_glob rfl Z.z0.gC (v := .ref (c 0)) rfl) pa_nil))) (pa_cons (pe_callB (r := rIsErr K) (id := "isinstance") (by exact call_isErr) (by rfl) Z.ii (by decide +kernel) (pa_cons (pv 0) (pa_cons (pe_glob rfl Z.z1.gC (v := .ref (c 1)) rfl) pa_nil))) (pa_cons (pe_callB (r := rIsErr K) (id := "isinstance") (by exact call_isErr) (by rfl) Z.ii (by decide +kernel) (pa_cons (pv 0) (pa_cons (pe_glob rfl Z.z2.gC (v := .ref (c 2)) rfl) pa_nil))) (pa_cons (pe_callB (r := rIsErr K) (id := "isinstance") (by exact call_isErr) (by rfl) Z.ii (by decide +kernel) (pa_cons (pv 0) (pa_cons (pe_glob rfl Z.z3.gC (v := .ref (c 3)) rfl) pa_nil))) pa_nil))))))
 (pss_cons (ps_set (i := 1) nd rfl (.inr rfl) (pe_op op_cat (pv 1) (pe_lst (pa_cons (pe_callB (r := rIsErr K) (id := "isinstance") (by exact call_isErr) (by rfl) Z.ii (by decide +kernel) (pa_cons (pv 0) (pa_cons (pe_glob rfl Z.z4.gC (v := .ref (c 4)) rfl) pa_nil))) (pa_cons (pe_callB (r := rIsErr K) (id := "isinstance") (by exact call_isErr) (by rfl) Z.ii (by decide +kernel) (pa_cons (pv 0) (pa_cons (pe_glob rfl Z.z5.gC (v := .ref (c 5)) rfl) pa_nil))) (pa_cons (pe_callB (r := rIsErr K) (id := "isinstance") (by exact call_isErr) (by rfl) Z.ii (by decide +kernel) (pa_cons (pv 0) (pa_cons (pe_glob rfl Z.z6.gC (v := .ref (c 6)) rfl) pa_nil))) pa_nil))))))
 (pss_cons (ps_set (i := 1) nd rfl (.inr rfl) (pe_op op_cat (pv 1) (pe_lst (pa_cons (pe_callB (r := rIsErr K) (id := "isinstance") (by exact call_isErr) (by rfl) Z.ii (by decide +kernel) (pa_cons (pv 0) (pa_cons (pe_glob rfl Z.z7.gC (v := .ref (c 7)) rfl) pa_nil))) (pa_cons (pe_callB (r := rIsErr K) (id := "isinstance") (by exact call_isErr) (by rfl) Z.ii (by decide +kernel) (pa_cons (pv 0) (pa_cons (pe_glob rfl Z.z8.gC (v := .ref (c 8)) rfl) pa_nil))) (pa_cons (pe_callB (r := rIsErr K) (id := "isinstance") (by exact call_isErr) (by rfl) Z.ii (by decide +kernel) (pa_cons (pv 0) (pa_cons (pe_glob rfl Z.z9.gC (v := .ref (c 9)) rfl) pa_nil))) pa_nil))))))
 (pss_cons (ps_set (i := 1) nd rfl (.inr rfl) (pe_op op_cat (pv 1) (pe_lst (pa_cons (pe_callB (r := rIsErr K) (id := "isinstance") (by exact call_isErr) (by rfl) Z.ii (by decide +kernel) (pa_cons (pv 0) (pa_cons (pe_glob rfl Z.z10.gC (v := .ref (c 10)) rfl) pa_nil))) (pa_cons (pe_callB (r := rIsErr K) (id := "isinstance") (by exact call_isErr) (by rfl) Z.ii (by decide +kernel) (pa_cons (pv 0) (pa_cons (pe_glob rfl Z.z11.gC (v := .ref (c 11)) rfl) pa_nil))) (pa_cons (pe_callB (r := rIsErr K) (id := "isinstance") (by exact call_isErr) (by rfl) Z.ii (by decide +kernel) (pa_cons (pv 0) (pa_cons (pe_glob rfl Z.z12.gC (v := .ref (c 12)) rfl) pa_nil))) pa_nil))))))
 (pss_cons (ps_set (i := 1) nd rfl (.inr rfl) (pe_op op_cat (pv 1) (pe_lst (pa_cons (pe_callB (r := rIsErr K) (id := "isinstance") (by exact call_isErr) (by rfl) Z.ii (by decide +kernel) (pa_cons (pv 0) (pa_cons (pe_glob rfl Z.z13.gC (v := .ref (c 13)) rfl) pa_nil))) (pa_cons (pe_callB (r := rIsErr K) (id := "isinstance") (by exact call_isErr) (by rfl) Z.ii (by decide +kernel) (pa_cons (pv 0) (pa_cons (pe_glob rfl Z.z14.gC (v := .ref (c 14)) rfl) pa_nil))) (pa_cons (pe_callB (r := rIsErr K) (id := "isinstance") (by exact call_isErr) (by rfl) Z.ii (by decide +kernel) (pa_cons (pv 0) (pa_cons (pe_glob rfl Z.z15.gC (v := .ref (c 15)) rfl) pa_nil))) pa_nil))))))
 (pss_cons (ps_set (i := 1) nd rfl (.inr rfl) (pe_op op_cat (pv 1) (pe_lst (pa_cons (pe_callB (r := rIsErr K) (id := "isinstance") (by exact call_isErr) (by rfl) Z.ii (by decide +kernel) (pa_cons (pv 0) (pa_cons (pe_glob rfl Z.z16.gC (v := .ref (c 16)) rfl) pa_nil))) (pa_cons (pe_callB (r := rIsErr K) (id := "isinstance") (by exact call_isErr) (by rfl) Z.ii (by decide +kernel) (pa_cons (pv 0) (pa_cons (pe_glob rfl Z.z17.gC (v := .ref (c 17)) rfl) pa_nil))) pa_nil)))))
 (pss_cons (ps_set (i := 1) nd rfl (.inr rfl) (pe_op op_cat (pv 1) (pe_lst (pa_cons (pe_callB (r := rIsErr K) (id := "isinstance") (by exact call_isErr) (by rfl) Z.ii (by decide +kernel) (pa_cons (pv 0) (pa_cons (pe_glob rfl Z.z18.gC (v := .ref (c 18)) rfl) pa_nil))) (pa_cons (pe_callB (r := rIsErr K) (id := "isinstance") (by exact call_isErr) (by rfl) Z.ii (by decide +kernel) (pa_cons (pv 0) (pa_cons (pe_glob rfl Z.z19.gC (v := .ref (c 19)) rfl) pa_nil))) pa_nil)))))
 (pss_cons (ps_set (i := 1) nd rfl (.inr rfl) (pe_op op_cat (pv 1) (pe_lst (pa_cons (pe_callB (r := rIsErr K) (id := "isinstance") (by exact call_isErr) (by rfl) Z.ii (by decide +kernel) (pa_cons (pv 0) (pa_cons (pe_glob rfl Z.z20.gC (v := .ref (c 20)) rfl) pa_nil))) (pa_cons (pe_callB (r := rIsErr K) (id := "isinstance") (by exact call_isErr) (by rfl) Z.ii (by decide +kernel) (pa_cons (pv 0) (pa_cons (pe_glob rfl Z.z21.gC (v := .ref (c 21)) rfl) pa_nil))) (pa_cons (pe_callB (r := rIsErr K) (id := "isinstance") (by exact call_isErr) (by rfl) Z.ii (by decide +kernel) (pa_cons (pv 0) (pa_cons (pe_glob rfl Z.z22.gC (v := .ref (c 22)) rfl) pa_nil))) pa_nil))))))
 (pss_cons (ps_set (i := 1) nd rfl (.inr rfl) (pe_op op_cat (pv 1) (pe_lst (pa_cons (pe_callB (r := rIsErr K) (id := "isinstance") (by exact call_isErr) (by rfl) Z.ii (by decide +kernel) (pa_cons (pv 0) (pa_cons (pe_glob rfl Z.z23.gC (v := .ref (c 23)) rfl) pa_nil))) (pa_cons (pe_callB (r := rIsErr K) (id := "isinstance") (by exact call_isErr) (by rfl) Z.ii (by decide +kernel) (pa_cons (pv 0) (pa_cons (pe_glob rfl Z.z24.gC (v := .ref (c 24)) rfl) pa_nil))) (pa_cons (pe_callB (r := rIsErr K) (id := "isinstance") (by exact call_isErr) (by rfl) Z.ii (by decide +kernel) (pa_cons (pv 0) (pa_cons (pe_glob rfl Z.z25.gC (v := .ref (c 25)) rfl) pa_nil))) pa_nil))))))
 (pss_one (ps_ret (pe_lc (own := [("_law_spot", 2)]) (g := gName 2) rfl nd (pi_range1 rfl Z.rg (pa_cons pe_int pa_nil)) (blkOk_by (own := [("_law_spot", 2)]) (N := ["_law_error", "_law_told", "_law_spot"]) (sc := defScope sClasses) (by decide +kernel))
        (fun _ _ _ _ _ => pg_name (i := 2) nd rfl (Or.inl rfl)) (fun _ _ _ _ _ => pts_one (pt_val (pe_ix (r := rIxL K) (by exact ix_list) (pe_op op_cat (pv 1) (pe_lst (pa_cons (pe_callB (r := rIsErr K) (id := "isinstance") (by exact call_isErr) (by rfl) Z.ii (by decide +kernel) (pa_cons (pv 0) (pa_cons (pe_glob rfl Z.gN (v := .ref (c 26)) rfl) pa_nil))) pa_nil))) (pv 2) (fun _ _ => rfl)))) (fun _ _ _ _ _ => pv 2))))))))))))), ?_⟩
    refine q_asgL (el_lst (ea_cons (ev_isErr (Z.exc i hi) (.own _) at_ (Z.kit i 0 hi (by decide)) (ev_var rfl)) (ea_cons (ev_isErr (Z.exc i hi) (.own _) at_ (Z.kit i 1 hi (by decide)) (ev_var rfl)) (ea_cons (ev_isErr (Z.exc i hi) (.own _) at_ (Z.kit i 2 hi (by decide)) (ev_var rfl)) (ea_cons (ev_isErr (Z.exc i hi) (.own _) at_ (Z.kit i 3 hi (by decide)) (ev_var rfl)) ea_nil)))) (by show 4 ≤ 100000; decide)) fun p0 H0 n0 x0 h0 => ?_
    replace at_ := at_.mono x0
    refine q_asgL (el_cat (ev_var rfl) h0 (el_lst (ea_cons (ev_isErr (Z.exc i hi) (.own _) at_ (Z.kit i 4 hi (by decide)) (ev_var rfl)) (ea_cons (ev_isErr (Z.exc i hi) (.own _) at_ (Z.kit i 5 hi (by decide)) (ev_var rfl)) (ea_cons (ev_isErr (Z.exc i hi) (.own _) at_ (Z.kit i 6 hi (by decide)) (ev_var rfl)) ea_nil))) (by show 3 ≤ 100000; decide)) (by show 4 + 3 ≤ 1000; decide)) fun p1 H1 n1 x1 h1 => ?_
    replace at_ := at_.mono x1
    refine q_asgL (el_cat (ev_var rfl) h1 (el_lst (ea_cons (ev_isErr (Z.exc i hi) (.own _) at_ (Z.kit i 7 hi (by decide)) (ev_var rfl)) (ea_cons (ev_isErr (Z.exc i hi) (.own _) at_ (Z.kit i 8 hi (by decide)) (ev_var rfl)) (ea_cons (ev_isErr (Z.exc i hi) (.own _) at_ (Z.kit i 9 hi (by decide)) (ev_var rfl)) ea_nil))) (by show 3 ≤ 100000; decide)) (by show 7 + 3 ≤ 1000; decide)) fun p2 H2 n2 x2 h2 => ?_
    replace at_ := at_.mono x2
    refine q_asgL (el_cat (ev_var rfl) h2 (el_lst (ea_cons (ev_isErr (Z.exc i hi) (.own _) at_ (Z.kit i 10 hi (by decide)) (ev_var rfl)) (ea_cons (ev_isErr (Z.exc i hi) (.own _) at_ (Z.kit i 11 hi (by decide)) (ev_var rfl)) (ea_cons (ev_isErr (Z.exc i hi) (.own _) at_ (Z.kit i 12 hi (by decide)) (ev_var rfl)) ea_nil))) (by show 3 ≤ 100000; decide)) (by show 10 + 3 ≤ 1000; decide)) fun p3 H3 n3 x3 h3 => ?_
    replace at_ := at_.mono x3
    refine q_asgL (el_cat (ev_var rfl) h3 (el_lst (ea_cons (ev_isErr (Z.exc i hi) (.own _) at_ (Z.kit i 13 hi (by decide)) (ev_var rfl)) (ea_cons (ev_isErr (Z.exc i hi) (.own _) at_ (Z.kit i 14 hi (by decide)) (ev_var rfl)) (ea_cons (ev_isErr (Z.exc i hi) (.own _) at_ (Z.kit i 15 hi (by decide)) (ev_var rfl)) ea_nil))) (by show 3 ≤ 100000; decide)) (by show 13 + 3 ≤ 1000; decide)) fun p4 H4 n4 x4 h4 => ?_
    replace at_ := at_.mono x4
    refine q_asgL (el_cat (ev_var rfl) h4 (el_lst (ea_cons (ev_isErr (Z.exc i hi) (.own _) at_ (Z.kit i 16 hi (by decide)) (ev_var rfl)) (ea_cons (ev_isErr (Z.exc i hi) (.own _) at_ (Z.kit i 17 hi (by decide)) (ev_var rfl)) ea_nil)) (by show 2 ≤ 100000; decide)) (by show 16 + 2 ≤ 1000; decide)) fun p5 H5 n5 x5 h5 => ?_
    replace at_ := at_.mono x5
    refine q_asgL (el_cat (ev_var rfl) h5 (el_lst (ea_cons (ev_isErr (Z.exc i hi) (.own _) at_ (Z.kit i 18 hi (by decide)) (ev_var rfl)) (ea_cons (ev_isErr (Z.exc i hi) (.own _) at_ (Z.kit i 19 hi (by decide)) (ev_var rfl)) ea_nil)) (by show 2 ≤ 100000; decide)) (by show 18 + 2 ≤ 1000; decide)) fun p6 H6 n6 x6 h6 => ?_
    replace at_ := at_.mono x6
    refine q_asgL (el_cat (ev_var rfl) h6 (el_lst (ea_cons (ev_isErr (Z.exc i hi) (.own _) at_ (Z.kit i 20 hi (by decide)) (ev_var rfl)) (ea_cons (ev_isErr (Z.exc i hi) (.own _) at_ (Z.kit i 21 hi (by decide)) (ev_var rfl)) (ea_cons (ev_isErr (Z.exc i hi) (.own _) at_ (Z.kit i 22 hi (by decide)) (ev_var rfl)) ea_nil))) (by show 3 ≤ 100000; decide)) (by show 20 + 3 ≤ 1000; decide)) fun p7 H7 n7 x7 h7 => ?_
    replace at_ := at_.mono x7
    refine q_asgL (el_cat (ev_var rfl) h7 (el_lst (ea_cons (ev_isErr (Z.exc i hi) (.own _) at_ (Z.kit i 23 hi (by decide)) (ev_var rfl)) (ea_cons (ev_isErr (Z.exc i hi) (.own _) at_ (Z.kit i 24 hi (by decide)) (ev_var rfl)) (ea_cons (ev_isErr (Z.exc i hi) (.own _) at_ (Z.kit i 25 hi (by decide)) (ev_var rfl)) ea_nil))) (by show 3 ≤ 100000; decide)) (by show 23 + 3 ≤ 1000; decide)) fun p8 H8 n8 x8 h8 => ?_
    replace at_ := at_.mono x8
    have told : ([.bl (decide (i = 0)), .bl (decide (i = 1)), .bl (decide (i = 2)), .bl (decide (i = 3)), .bl (decide (i = 4)), .bl (decide (i = 5)), .bl (decide (i = 6)), .bl (decide (i = 7)), .bl (decide (i = 8)), .bl (decide (i = 9)), .bl (decide (i = 10)), .bl (decide (i = 11)), .bl (decide (i = 12)), .bl (decide (i = 13)), .bl (decide (i = 14)), .bl (decide (i = 15)), .bl (decide (i = 16)), .bl (decide (i = 17)), .bl (decide (i = 18)), .bl (decide (i = 19)), .bl (decide (i = 20)), .bl (decide (i = 21)), .bl (decide (i = 22)), .bl (decide (i = 23)), .bl (decide (i = 24)), .bl (decide (i = 25))] : List V) = (List.range 26).map (fun j => V.bl (decide (i = j))) := rfl
    have long : H8 p8 = some (.lst ((List.range 26).map (fun j => V.bl (decide (i = j))))) := by rw [← told]; exact h8
    have made : EvL (tLc (iRng1 (tCons (cI 27) tNil)) (gName 2) (tB (tOp (rIxL K) (tOp rCat (tVar 1) (tLst (tCons (tCB (rIsErr K) (tCons (tVar 0) (tCons (tC (V.ref (c 26))) tNil))) tNil))) (tVar 2))) (tVar 2) [2])
        [some (.ref e), some (.ref p8), none] H8 (given 27 (fun j => decide (i = j)) fun j => .int j) := by
      refine el_lcR1 (n := 27) _ _ (ea_cons ev_c ea_nil) ⟨by decide, by decide⟩ (fun _ => rfl) (fun j G x hj => ?_) (fun j G x hj _ => ev_var rfl)
      have at2 := at_.mono x
      refine et_B (ev_opL1 (el_cat (ev_var rfl) (x _ _ long) (el_lst (ea_cons (ev_isErr (Z.exc i hi) (.own _) at2 (Z.kit i 26 hi (by decide)) (ev_var rfl)) ea_nil) (by show 1 ≤ 100000; decide)) (by rw [List.length_map, List.length_range]; show 26 + 1 ≤ 1000; decide))
        (fun G2 x2 => ev_var rfl) fun p G2 hp x2 => rv_ixL (sq_of hp) (atI_nat (told_at i j (by omega))))
    refine s_retL made fun l H' hl x hv => ?_
    refine k l H' (n0 |> fun _ => fresh_back (((((((((x0).trans x1).trans x2).trans x3).trans x4).trans x5).trans x6).trans x7).trans x8) hl) ((((((((((x0).trans x1).trans x2).trans x3).trans x4).trans x5).trans x6).trans x7).trans x8).trans x) ?_
    rw [one_of i hi] at hv
    exact hv

end
end K01

set_option Elab.async false
set_option linter.all false
set_option maxRecDepth 100000
set_option maxHeartbeats 8000000
/-! The law itself -/
namespace K01
open PySem PySem.Spec PyProof.Rows L2 Evl KU
structure Used (K : PySem.W.Frag) (mg : Str → Option Value) (fPen fValue fMade fNamed fFields fClasses : Addr) : Prop where

  gPen : mg "_law_pen" = some (.ref fPen)
  kPen : PySem.W.keepIn K (.ref fPen) = true
  gValue : mg "_law_value" = some (.ref fValue)
  kValue : PySem.W.keepIn K (.ref fValue) = true
  gMade : mg "_law_made" = some (.ref fMade)
  kMade : PySem.W.keepIn K (.ref fMade) = true
  gNamed : mg "_law_named" = some (.ref fNamed)
  kNamed : PySem.W.keepIn K (.ref fNamed) = true
  gFields : mg "_law_fields" = some (.ref fFields)
  kFields : PySem.W.keepIn K (.ref fFields) = true
  gClasses : mg "_law_classes" = some (.ref fClasses)
  kClasses : PySem.W.keepIn K (.ref fClasses) = true
  ValueError : mg "ValueError" = none
  LookupError : mg "LookupError" = none
  TypeError : mg "TypeError" = none
  ArithmeticError : mg "ArithmeticError" = none
  len : mg "len" = none
  repr : mg "repr" = none

def spLaw (K : PySem.W.Frag) : Sp := fun vs H Q _ => ∃ (a : Addr) (ns : List Int), vs = [.ref a] ∧ SqL K H a (vints ns) ∧ ns.length ≤ 63 ∧ ∀ H', Q (.bl true) H'
section
variable {P : Program} {w : World} {K : PySem.W.Frag} {mg : Str → Option Value} {base : Heap}
/-- the menu's values, one and two, are shown -/
theorem menu_shows : ∀ d1 ∈ menu, ∀ d2 ∈ menu, shows (.list []) = true ∧ shows (.list [d1]) = true ∧ shows (.list [d1, d2]) = true := by decide +kernel
theorem shows_vals {d1 d2 : PyData} (h1 : d1 ∈ menu) (h2 : d2 ∈ menu) : ∀ fs : List Str, shows (.list (valsOf fs d1 d2)) = true := fun fs => by
  obtain ⟨a, b, c⟩ := menu_shows d1 h1 d2 h2
  match fs with
  | [] => exact a
  | [_] => exact b
  | [_, _] => exact c
  | _ :: _ :: _ :: _ => exact a
theorem vals_data {K : PySem.W.Frag} {H : Hp} {y z : V} {d1 d2 : PyData} (h1 : RD K H y d1) (h2 : RD K H z d2) : ∀ fs : List Str, RDs K H (valsOf fs y z) (valsOf fs d1 d2)
  | [] => .nil
  | [_] => .cons h1 .nil
  | [_, _] => .cons h1 (.cons h2 .nil)
  | _ :: _ :: _ :: _ => .nil
theorem scLaw : FnScope ["_law_script", "_law_pen_here", "_law_turn", "_law_one", "_law_two", "_law_made_here", "_law_named_here", "_law_spot", "_law_error", "_law_names", "_law_fields_here"] ["_law_script"] (defScope sLaw) := ⟨rfl, rfl, rfl, by decide +kernel, rfl, by decide +kernel, by decide +kernel⟩
theorem ok_law {f fPen fValue fMade fNamed fFields fClasses : Addr} {fd fdPen fdValue fdMade fdNamed fdFields fdClasses : FuncData} {c : Nat → Addr} {cF : Addr} (F : Fun K "law" "law" sLaw f fd) (Z : Errs P w K mg base c cF)
    (U : Used K mg fPen fValue fMade fNamed fFields fClasses)
    (GPen : FnOk P w K mg base CX0 1 fPen fdPen ["_law_script"] (spPen K)) (bPen : Binds K fdPen ["_law_script"] [])
    (GValue : FnOk P w K mg base CX0 3 fValue fdValue ["_law_pen_here"] (spValue K)) (bValue : Binds K fdValue ["_law_pen_here"] [])
    (GMade : FnOk P w K mg base CX0 3 fMade fdMade ["_law_one", "_law_two"] (spMade c)) (bMade : Binds K fdMade ["_law_one", "_law_two"] [])
    (GNamed : FnOk P w K mg base CX0 3 fNamed fdNamed ["_law_one", "_law_two"] (spNamed c)) (bNamed : Binds K fdNamed ["_law_one", "_law_two"] [])
    (GFields : FnOk P w K mg base CX0 1 fFields fdFields ["_law_error", "_law_names"] (spFields c)) (bFields : Binds K fdFields ["_law_error", "_law_names"] [])
    (GClasses : FnOk P w K mg base CX0 1 fClasses fdClasses ["_law_error"] (spClasses c)) (bClasses : Binds K fdClasses ["_law_error"] []) :
    FnG P w K mg base CX0 4 f fd ["_law_script"] (spLaw K) := by
  refine FnG.body F scLaw (fun vs H Q E h => ?_) (fun cdv A outer s H vs Q E hgd hr h => ?_)
  · obtain ⟨_, _, rfl, _⟩ := h
    rfl
  · obtain ⟨a, ns, rfl, hS, hl, k⟩ := h
    have nd := scLaw.nd
    have hrPen : Room 1 _ := hr.mono (by decide)
    have hrValue : Room 3 _ := hr
    have hrMade : Room 3 _ := hr
    have hrNamed : Room 3 _ := hr
    have hrFields : Room 1 _ := hr.mono (by decide)
    have hrClasses : Room 1 _ := hr.mono (by decide)
    refine ⟨_, (pss_cons (ps_set (i := 1) nd rfl (.inl rfl) (pe_call GPen hrPen (by rfl) U.gPen U.kPen bPen .nil pass0 (pa_cons (pv 0) pa_nil)))
 (pss_cons (ps_for PassesOwn.never rfl (pi_range1 rfl Z.rg (pa_cons pe_int pa_nil)) (pg_name (i := 2) nd rfl (.inl rfl))
 (pss_cons (ps_par (i := 3) (j := 4) (by rfl) nd rfl rfl (by decide) rfl rfl (pa_cons (pe_call GValue hrValue (by rfl) U.gValue U.kValue bValue .nil pass0 (pa_cons (pv 1) pa_nil)) (pa_cons (pe_call GValue hrValue (by rfl) U.gValue U.kValue bValue .nil pass0 (pa_cons (pv 1) pa_nil)) pa_nil)) (by rfl))
 (pss_cons (ps_par (i := 5) (j := 6) (by rfl) nd rfl rfl (by decide) rfl rfl (pa_cons (pe_call GMade hrMade (by rfl) U.gMade U.kMade bMade .nil pass0 (pa_cons (pv 3) (pa_cons (pv 4) pa_nil))) (pa_cons (pe_call GNamed hrNamed (by rfl) U.gNamed U.kNamed bNamed .nil pass0 (pa_cons (pv 3) (pa_cons (pv 4) pa_nil))) pa_nil)) (by rfl))
 (pss_one (ps_for PassesOwn.never rfl (pi_range1 rfl Z.rg (pa_cons (pe_callB call_len_seq (by rfl) U.len PySem.boot_len (pa_cons (pv 5) pa_nil)) pa_nil)) (pg_name (i := 7) nd rfl (.inl rfl))
 (pss_cons (ps_asg (pe_ix ix_list (pv 5) (pv 7) (fun _ _ => rfl)) (pg_tup rfl (pgs_cons (pg_name (i := 8) nd rfl (.inl rfl)) (pgs_cons (pg_name (i := 9) nd rfl (.inl rfl)) (pgs_cons (pg_name (i := 10) nd rfl (.inl rfl)) pgs_nil)))))
 (pss_cons (ps_if (PW.pt (pw_or (pt_cmpR op_ne (pe_callB (call_repr hgd hr.units) (by rfl) U.repr (by decide +kernel) (pa_cons (pe_call GFields hrFields (by rfl) U.gFields U.kFields bFields .nil pass0 (pa_cons (pv 8) (pa_cons (pv 9) pa_nil))) pa_nil)) (pe_callB (call_repr hgd hr.units) (by rfl) U.repr (by decide +kernel) (pa_cons (pv 10) pa_nil)) (nomark _)) (pw_or1 (pt_cmpR (op_neD hr.units) (pe_call GClasses hrClasses (by rfl) U.gClasses U.kClasses bClasses .nil pass0 (pa_cons (pv 8) pa_nil)) (pe_lst (pa_cons (pv 7) pa_nil)) (nomark _)))))
 (pss_one (ps_ret pe_bl))
 pss_nil)
 (pss_cons (ps_if (PW.pt (pw_or (pt_cmpR op_ne (pe_callB (call_repr hgd hr.units) (by rfl) U.repr (by decide +kernel) (pa_cons (pe_call GFields hrFields (by rfl) U.gFields U.kFields bFields .nil pass0 (pa_cons (pe_ix ix_list (pv 6) (pv 7) (fun _ _ => rfl)) (pa_cons (pv 9) pa_nil))) pa_nil)) (pe_callB (call_repr hgd hr.units) (by rfl) U.repr (by decide +kernel) (pa_cons (pv 10) pa_nil)) (nomark _)) (pw_or1 (pt_cmpR (op_neD hr.units) (pe_call GClasses hrClasses (by rfl) U.gClasses U.kClasses bClasses .nil pass0 (pa_cons (pe_ix ix_list (pv 6) (pv 7) (fun _ _ => rfl)) pa_nil)) (pe_lst (pa_cons (pv 7) pa_nil)) (nomark _)))))
 (pss_one (ps_ret pe_bl))
 pss_nil)
 (pss_cons (ps_if (PW.pt (pw_or (pt_not (pt_val (pe_callB (r := rIsErr K) (id := "isinstance") (by exact call_isErr) (by rfl) Z.ii (by decide +kernel) (pa_cons (pv 8) (pa_cons (pe_glob rfl Z.gF (v := .ref cF) rfl) pa_nil))))) (pw_or1 (pt_not (pt_val (pe_callB (r := rIsErr K) (id := "isinstance") (by exact call_isErr) (by rfl) Z.ii (by decide +kernel) (pa_cons (pv 8) (pa_cons (pe_bltn (by rfl) U.ValueError (v := .ty "ValueError") (by decide +kernel) rfl) pa_nil))))))))
 (pss_one (ps_ret pe_bl))
 pss_nil)
 (pss_one (ps_if (PW.pt (pw_or (pt_val (pe_callB (r := rIsErr K) (id := "isinstance") (by exact call_isErr) (by rfl) Z.ii (by decide +kernel) (pa_cons (pv 8) (pa_cons (pe_bltn (by rfl) U.LookupError (v := .ty "LookupError") (by decide +kernel) rfl) pa_nil)))) (pw_or (pt_val (pe_callB (r := rIsErr K) (id := "isinstance") (by exact call_isErr) (by rfl) Z.ii (by decide +kernel) (pa_cons (pv 8) (pa_cons (pe_bltn (by rfl) U.TypeError (v := .ty "TypeError") (by decide +kernel) rfl) pa_nil)))) (pw_or1 (pt_val (pe_callB (r := rIsErr K) (id := "isinstance") (by exact call_isErr) (by rfl) Z.ii (by decide +kernel) (pa_cons (pv 8) (pa_cons (pe_bltn (by rfl) U.ArithmeticError (v := .ty "ArithmeticError") (by decide +kernel) rfl) pa_nil))))))))
 (pss_one (ps_ret pe_bl))
 pss_nil)))))))))))
 (pss_one (ps_ret (pe_and (pe_not (pe_callB (r := rIsErr K) (id := "isinstance") (by exact call_isErr) (by rfl) Z.ii (by decide +kernel) (pa_cons (pe_bare1 PySem.F.excBase_ValueError Z.qF Z.gF Z.kF (pa_cons pe_str pa_nil)) (pa_cons (pe_glob rfl Z.z3.gC (v := .ref (c 3)) rfl) pa_nil)))) (pe_one (pe_callB (r := rIsErr K) (id := "isinstance") (by exact call_isErr) (by rfl) Z.ii (by decide +kernel) (pa_cons (pe_bare1 PySem.F.excBase_ValueError Z.qF Z.gF Z.kF (pa_cons pe_str pa_nil)) (pa_cons (pe_bltn (by rfl) U.ValueError (v := .ty "ValueError") (by decide +kernel) rfl) pa_nil))))))))), ?_⟩
    -- the state of the draws
    refine ⟨_, rfl, a, ns, rfl, hS, hl, fun P L ms H0 hP0 x0 pen0 => ?_⟩
    refine q_forR1 (n := 8) (ea_cons ev_c ea_nil) ⟨by decide, by decide⟩
      (fun i σ' H' => ∃ (x2 x3 x4 x5 x6 x7 x8 x9 x10 : Option V) (s : Nat) (g : Int), σ' = [some (.ref a), some (.ref P), x2, x3, x4, x5, x6, x7, x8, x9, x10] ∧ Pen H' P L ms s g ∧ s ≤ 2 * i)
      (fun H1 x1 => ⟨none, none, none, none, none, none, none, none, none, 0, 0, rfl, pen0.mono x1, Nat.le_refl _⟩) (fun i σ' H1 hi hw => ?_) (fun σ' H1 hw => ?_)
    · obtain ⟨x2, x3, x4, x5, x6, x7, x8, x9, x10, s, g, rfl, pen, hs⟩ := hw
      -- two values
      refine ⟨_, rfl, P, L, ms, s, g, rfl, pen, by omega, fun y d1 s1 g1 H2 v1 hs1 but1 pen1 => ?_⟩
      refine ⟨_, rfl, P, L, ms, s1, g1, rfl, pen1, by omega, fun z d2 s2 g2 H3 v2 hs2 but2 pen2 => ⟨y, z, rfl, ?_⟩⟩
      have v1' := v1.but but2
      obtain ⟨G1, _, e1, r1, m1⟩ := v1'
      obtain ⟨G2, _, e2, r2, m2⟩ := v2
      -- the errors, made both ways
      refine ⟨_, rfl, _, rfl, y, z, rfl, fun vm H4 w4 pm => ⟨_, rfl, _, rfl, y, z, rfl, fun vn H5 w5 pn => ⟨vm, vn, rfl, ?_⟩⟩⟩
      have pm' := up_isL (ups_of0 (c := c) (y := y) (z := z) 27) vm _ _ w5 (by exact pm)
      obtain ⟨lm, xm, rfl, hlm, em⟩ := pm'
      obtain ⟨ln, xn, rfl, hln, en⟩ := pn
      have x35 := w4.trans w5
      have q1 := r1.mono (e1.trans x35)
      have q2 := r2.mono (e2.trans x35)
      have pen5 := pen2.mono x35
      have len : (xm.length : Int) = 27 := by
        rw [em.len]
        rfl
      have hlen : EvA (tCons (tLenOf K (tVar 5)) tNil) ((([some (.ref a), some (.ref P), x2, x3, x4, x5, x6, x7, x8, x9, x10] : L2.St).set 2 (some (.int (i : Int))) |>.set 3 (some y) |>.set 4 (some z)) |>.set 5 (some (.ref lm)) |>.set 6 (some (.ref ln))) H5 [.int 27] := by
        have h := ev_len (K := K) (σ := (([some (.ref a), some (.ref P), x2, x3, x4, x5, x6, x7, x8, x9, x10] : L2.St).set 2 (some (.int (i : Int))) |>.set 3 (some y) |>.set 4 (some z)) |>.set 5 (some (.ref lm)) |>.set 6 (some (.ref ln))) (ev_var (i := 5) rfl) (sq_of hlm)
        rw [len] at h
        exact ea_cons h ea_nil
      refine s_forR1 (n := 27) hlen ⟨by decide, by decide⟩
        (fun j σ' H' => ∃ (y7 y8 y9 y10 : Option V), σ' = [some (.ref a), some (.ref P), some (.int (i : Int)), some y, some z, some (.ref lm), some (.ref ln), y7, y8, y9, y10] ∧ Ex H5 H')
        (fun H6 x6 => ⟨_, _, _, _, rfl, x6⟩) (fun j σ' H6 hj hw => ?_) (fun σ' H6 hw => ?_)
      · obtain ⟨y7, y8, y9, y10, rfl, x56⟩ := hw
        have hj' : j < 27 := by omega
        obtain ⟨u, hu, t, xs, rfl, ht, et⟩ := em.get (rows_at c y z j hj')
        obtain ⟨u2, hu2, e2, rfl, at2⟩ := en.get (errs_at c y z j hj')
        have et' : ∃ (e l : Addr), xs = [.ref e, .str (nameOf j), .ref l] ∧ ErrAt H5 e (c j) (fsOf (fld j) y z) ∧ LstIs (valsOf (fld j) y z) (.ref l) H5 := by
          unfold Each at et
          cases et with
          | cons p1 r1 =>
            cases r1 with
            | cons p2 r2 =>
              cases r2 with
              | cons p3 r3 =>
                cases r3
                obtain ⟨e, rfl, pa⟩ := p1
                obtain ⟨l, rfl, pb⟩ := p3
                cases p2
                exact ⟨e, l, rfl, pa, ⟨l, rfl, pb⟩⟩
        obtain ⟨e, l, rfl, at1, pl⟩ := et'
        clear et
        refine (ev_op (ev_var rfl) (ev_var rfl) (rv_ixL (K := K) (sq_of (x56 _ _ hlm)) (atI_nat hu))) H6 (Ex.refl _) _ fun H7 x67 => ⟨t, _, rfl, st_of (x67 _ _ (x56 _ _ ht)), rfl, _, _, rfl, _, _, rfl, _, _, rfl, rfl, ?_⟩
        have x57 := x56.trans x67
        replace at1 := at1.mono x57
        replace at2 := at2.mono x57
        replace pl := up_lstIs _ _ _ _ x57 pl
        have hlm7 := x57 _ _ hlm
        have hln7 := x57 _ _ hln
        replace q1 := q1.mono x57
        replace q2 := q2.mono x57
        have ok := shows_vals m1 m2 (fld j)
        have dat := vals_data q1 q2 (fld j)
        -- the slots as they stand
        show tSeq _ _ _ [some (.ref a), some (.ref P), some (.int (i : Int)), some y, some z, some (.ref lm), some (.ref ln), some (.int (j : Int)), some (.ref e), some (.str (nameOf j)), some (.ref l)] H7
        have repr_l : Ev (tCB (rRepr K) (tCons (tVar 10) tNil)) [some (.ref a), some (.ref P), some (.int (i : Int)), some y, some z, some (.ref lm), some (.ref ln), some (.int (j : Int)), some (.ref e), some (.str (nameOf j)), some (.ref l)] H7 (.str (PyData.list (valsOf (fld j) d1 d2)).shown) :=
          ev_repr (ep_var (up_lstIs _) rfl pl) dat ok
        have fields : ∀ {te : TE} {e0 : Addr}, ErrAt H7 e0 (c j) (fsOf (fld j) y z) → Ev te [some (.ref a), some (.ref P), some (.int (i : Int)), some y, some z, some (.ref lm), some (.ref ln), some (.int (j : Int)), some (.ref e), some (.str (nameOf j)), some (.ref l)] H7 (.ref e0) →
            Ev (tCB (rRepr K) (tCons (tCall (spFields c) [] E0 (tCons te (tCons (tVar 9) tNil))) tNil)) [some (.ref a), some (.ref P), some (.int (i : Int)), some y, some z, some (.ref lm), some (.ref ln), some (.int (j : Int)), some (.ref e), some (.str (nameOf j)), some (.ref l)] H7 (.str (PyData.list (valsOf (fld j) d1 d2)).shown) := by
          intro te e0 h0 he
          exact ev_repr (ep_call (ea_cons he (ea_cons (ev_var rfl) ea_nil)) fun H8 x8 Q0 q0 => ⟨e0, j, y, z, rfl, hj', h0.mono x8, q0⟩) dat ok
        have classes : ∀ {te : TE} {e0 : Addr}, ErrAt H7 e0 (c j) (fsOf (fld j) y z) → Ev te [some (.ref a), some (.ref P), some (.int (i : Int)), some y, some z, some (.ref lm), some (.ref ln), some (.int (j : Int)), some (.ref e), some (.str (nameOf j)), some (.ref l)] H7 (.ref e0) →
            EvL (tCall (spClasses c) [] E0 (tCons te tNil)) [some (.ref a), some (.ref P), some (.int (i : Int)), some y, some z, some (.ref lm), some (.ref ln), some (.int (j : Int)), some (.ref e), some (.str (nameOf j)), some (.ref l)] H7 (vints [(j : Int)]) := by
          intro te e0 h0 he
          exact el_call (vs := [.ref e0]) (ea_cons he ea_nil) fun H8 x8 Q0 q0 E1 => ⟨e0, j, _, rfl, hj', h0.mono x8, fun l0 H9 hl0 x9 hh => q0 l0 H9 hl0 x9 hh⟩
        have spot : EvL (tLst (tCons (tVar 7) tNil)) [some (.ref a), some (.ref P), some (.int (i : Int)), some y, some z, some (.ref lm), some (.ref ln), some (.int (j : Int)), some (.ref e), some (.str (nameOf j)), some (.ref l)] H7 (vints [(j : Int)]) :=
          el_lst (ea_cons (ev_var rfl) ea_nil) (by show 1 ≤ 100000; decide)
        have named : Ev (tOp (rIxL K) (tVar 6) (tVar 7)) [some (.ref a), some (.ref P), some (.int (i : Int)), some y, some z, some (.ref lm), some (.ref ln), some (.int (j : Int)), some (.ref e), some (.str (nameOf j)), some (.ref l)] H7 (.ref e2) :=
          ev_op (ev_var rfl) (ev_var rfl) (rv_ixL (sq_of hln7) (atI_nat hu2))
        have isE : ∀ {w0 : V} {u0 : Value} {b : Bool}, ClsV w0 u0 → PySem.W.kitOne K (.ref (c j)) u0 = some b → EvT (tB (tCB (rIsErr K) (tCons (tVar 8) (tCons (tC w0) tNil)))) [some (.ref a), some (.ref P), some (.int (i : Int)), some y, some z, some (.ref lm), some (.ref ln), some (.int (j : Int)), some (.ref e), some (.str (nameOf j)), some (.ref l)] H7 b :=
          fun kc kb => et_B (ev_isErr (Z.exc j hj') kc at1 kb (ev_var rfl))
        refine q_when (et_or2 (et_neS (fields at1 (ev_var rfl)) repr_l) (et_neL (classes at1 (ev_var rfl)) spot (eqv_one _))) (fun hb => nomatch hb) fun _ H8 x8 => ?_
        refine q_when (et_or2 (EvT.mono x8 (et_neS (fields at2 named) repr_l)) (EvT.mono x8 (et_neL (classes at2 named) spot (eqv_one _)))) (fun hb => nomatch hb) fun _ H9 x9 => ?_
        refine q_when (et_or2 (EvT.mono (x8.trans x9) (et_no (isE (.own _) (Z.kitF j hj')))) (EvT.mono (x8.trans x9) (et_no (isE (.ty _) (Z.kitV j hj'))))) (fun hb => nomatch hb) fun _ H10 x10 => ?_
        refine s_when (et_or2 (EvT.mono ((x8.trans x9).trans x10) (isE (.ty _) (Z.kitL j hj'))) (et_or2 (EvT.mono ((x8.trans x9).trans x10) (isE (.ty _) (Z.kitT j hj'))) (EvT.mono ((x8.trans x9).trans x10) (isE (.ty _) (Z.kitA j hj'))))) (fun hb => nomatch hb) fun _ H11 x11 => ?_
        exact ⟨_, _, _, _, rfl, (((x57.trans x8).trans x9).trans x10).trans x11⟩
      · obtain ⟨y7, y8, y9, y10, rfl, x56⟩ := hw
        exact ⟨_, _, _, _, _, _, _, _, _, s2, g2, rfl, pen5.mono x56, by omega⟩
    · obtain ⟨x2, x3, x4, x5, x6, x7, x8, x9, x10, s, g, rfl, pen, hs⟩ := hw
      have bare : EvQ (tBare cF (tCons (tC (V.str "a")) tNil)) [some (.ref a), some (.ref P), x2, x3, x4, x5, x6, x7, x8, x9, x10] H1 (IsE cF []) := eq_bare (ea_cons ev_c ea_nil) (by show 1 ≤ 1000; decide)
      have isF : ∀ {w0 : V} {u0 : Value} {b : Bool}, ClsV w0 u0 → PySem.W.kitOne K (.ref cF) u0 = some b → Ev (tCB (rIsErr K) (tCons (tBare cF (tCons (tC (V.str "a")) tNil)) (tCons (tC w0) tNil))) [some (.ref a), some (.ref P), x2, x3, x4, x5, x6, x7, x8, x9, x10] H1 (.bl b) :=
        fun kc kb => ev_isP bare.1 Z.excF kc kb
      exact s_ret (ev_andV (ev_notV (isF (.own _) Z.kitF3)) fun _ => isF (.ty _) Z.kitFV) fun H2 x2 => k H2

end
end K01

set_option Elab.async false
set_option linter.all false
set_option maxRecDepth 100000
set_option maxHeartbeats 8000000
/-! What the text's top has written, and the law from it -/
namespace K01
open PySem PySem.Spec PyProof.Rows L2 Evl KU
/-- what is looked up of an error class: the rest of it -/
def clB (K : PySem.W.Frag) (C fI : Addr) (cd : Value) (q : Str) (fs : List Str) : Bool :=
  PySem.W.findIn K (.ref C) "__setattr__" == some (some (.builtin "object.__setattr__")) && PySem.W.findIn K (.ref C) "__getattribute__" == some (some (.builtin "BaseException.__getattribute__")) &&
  PySem.W.findIn K (.ref C) "__getattr__" == some none && PySem.W.typeIn K (.ref fI) == some (.type "function") && PySem.W.codeIn K cd q && PySem.W.keepIn K (.ref fI) && PySem.W.keepIn K (.ref C) &&
  PySem.W.subIn K (.ref C) (.type "BaseException") == some true && PySem.W.typeIn K (.ref C) == some (.type "type") && PySem.W.hasDictIn K C && PySem.W.findIn K (.ref C) "__class__" == some (some (.builtin "object.__class__")) &&
  PySem.W.mroIn K C (.type "object") == some true && fs.all (fun f => PySem.W.findIn K (.ref C) f == some none)
/-- of a class without an __init__ -/
def bareB (K : PySem.W.Frag) (C : Addr) : Bool :=
  PySem.W.findIn K (.ref C) "__getattribute__" == some (some (.builtin "BaseException.__getattribute__")) && PySem.W.findIn K (.ref C) "__getattr__" == some none && PySem.W.keepIn K (.ref C) &&
  PySem.W.subIn K (.ref C) (.type "BaseException") == some true && PySem.W.hasDictIn K C && PySem.W.findIn K (.ref C) "__class__" == some (some (.builtin "object.__class__")) &&
  PySem.W.mroIn K C (.type "object") == some true && PySem.W.excIn K C [.type "ValueError", .type "Exception", .type "BaseException", .type "object"] "ValueError.__new__"
def getB (K : PySem.W.Frag) : Bool := PySem.W.specialIn K (.builtin "object.__class__") "__get__" == some (some (.builtin "getset_descriptor.__get__")) && PySem.W.takesIn K (.builtin "object.__class__") == some true
structure ClF (K : PySem.W.Frag) (mg : Str → Option Value) (x q : Str) (st : Stmt) (C : Addr) (fs : List Str) : Prop where
  gC : mg x = some (.ref C)
  oex : OexC K C
  ga : PySem.W.findIn K (.ref C) "__getattribute__" = some (some (.builtin "BaseException.__getattribute__"))
  gg : PySem.W.findIn K (.ref C) "__getattr__" = some none
  hd : PySem.W.hasDictIn K C = true
  ha : PySem.W.findIn K (.ref C) "__class__" = some (some (.builtin "object.__class__"))
  hm : PySem.W.mroIn K C (.type "object") = some true
  no : ∀ f ∈ fs, PySem.W.findIn K (.ref C) f = some none
  fn : ∃ (fI : Addr) (fd : FuncData), PySem.W.findIn K (.ref C) "__init__" = some (some (.ref fI)) ∧ PySem.W.typeIn K (.ref fI) = some (.type "function") ∧ Fun K "__init__" q st fI fd
theorem clf_mk {K : PySem.W.Frag} {h : Heap} {mg : Str → Option Value} (X : K.In h) (G : h.Ns mainGlobals mg) {x q : Str} {st : Stmt} {fs : List Str} {C fI N : Addr} {nm qn : Str} {bs bm : List Value} {sn : List Str} {sub : List Value} {ab : Bool} {col : Option Bool}
    {dd : Option Addr} {m0 m1 m2 m3 m5 : Option Value} {oc kV dc pm cd ct : Value} {od an : Option Addr} {osl : Array (Option Value)}
    (aC : PySem.W.nsIn K mainGlobals x = some (some (.ref C))) (xL : K.lookup C = some (excClassObj nm qn C N bs bm true sn sub ab col dd m0 m1 m2 m3 m5 "ValueError.__new__")) (a1 : PySem.W.findIn K (.ref C) "__init__" = some (some (.ref fI)))
    (l1 : K.lookup fI = some ⟨oc, od, .func (PySem.W.fnOf "__init__" q (defArgs st) (defBody st) (defScope st) .none kV dc pm an cd ct), osl⟩) (hb : PySem.HandSPX.refsVE bm = true) (B : clB K C fI cd q fs = true) : ClF K mg x q st C fs := by
  unfold clB at B
  simp only [Bool.and_eq_true, beq_iff_eq, List.all_eq_true] at B
  obtain ⟨⟨⟨⟨⟨⟨⟨⟨⟨⟨⟨⟨b1, b2⟩, b3⟩, b4⟩, b5⟩, b6⟩, b7⟩, b8⟩, b9⟩, b10⟩, b11⟩, b12⟩, b13⟩ := B
  exact { gC := PySem.W.mg_of X G aC, oex := ⟨⟨nm, qn, N, bs, bm, sn, sub, ab, col, dd, m0, m1, m2, m3, m5, xL, hb⟩, b1, b8, b9, b7⟩, ga := b2, gg := b3, hd := b10, ha := b11, hm := b12, no := b13, fn := ⟨fI, _, a1, b4, fun_mk l1 b5 b6⟩ }
/-- the answers of isinstance over the text's classes -/
def kitAll (K : PySem.W.Frag) (cs : List Addr) (F : Addr) : Bool :=
  (List.range 27).all (fun i => (List.range 27).all (fun j => PySem.W.kitOne K (.ref (cs.getD i 0)) (.ref (cs.getD j 0)) == some (decide (i = j))) && PySem.W.kitOne K (.ref (cs.getD i 0)) (.ref F) == some true &&
    PySem.W.kitOne K (.ref (cs.getD i 0)) (.type "ValueError") == some true && PySem.W.kitOne K (.ref (cs.getD i 0)) (.type "LookupError") == some false && PySem.W.kitOne K (.ref (cs.getD i 0)) (.type "TypeError") == some false &&
    PySem.W.kitOne K (.ref (cs.getD i 0)) (.type "ArithmeticError") == some false) && PySem.W.kitOne K (.ref F) (.ref (cs.getD 3 0)) == some false && PySem.W.kitOne K (.ref F) (.type "ValueError") == some true
structure Kits (K : PySem.W.Frag) (c : Nat → Addr) (F : Addr) : Prop where
  kit : ∀ i j, i < 27 → j < 27 → PySem.W.kitOne K (.ref (c i)) (.ref (c j)) = some (decide (i = j))
  kitF : ∀ i, i < 27 → PySem.W.kitOne K (.ref (c i)) (.ref F) = some true
  kitV : ∀ i, i < 27 → PySem.W.kitOne K (.ref (c i)) (.type "ValueError") = some true
  kitL : ∀ i, i < 27 → PySem.W.kitOne K (.ref (c i)) (.type "LookupError") = some false
  kitT : ∀ i, i < 27 → PySem.W.kitOne K (.ref (c i)) (.type "TypeError") = some false
  kitA : ∀ i, i < 27 → PySem.W.kitOne K (.ref (c i)) (.type "ArithmeticError") = some false
  kitF3 : PySem.W.kitOne K (.ref F) (.ref (c 3)) = some false
  kitFV : PySem.W.kitOne K (.ref F) (.type "ValueError") = some true
theorem kits_of {K : PySem.W.Frag} {cs : List Addr} {F : Addr} (B : kitAll K cs F = true) : Kits K (fun i => cs.getD i 0) F := by
  unfold kitAll at B
  simp only [Bool.and_eq_true, beq_iff_eq, List.all_eq_true, List.mem_range] at B
  obtain ⟨⟨b, b3⟩, bv⟩ := B
  exact ⟨fun i j hi hj => (b i hi).1.1.1.1.1 j hj, fun i hi => (b i hi).1.1.1.1.2, fun i hi => (b i hi).1.1.1.2, fun i hi => (b i hi).1.1.2, fun i hi => (b i hi).1.2, fun i hi => (b i hi).2, b3, bv⟩
section
variable {P : Program} {w : World} {K : PySem.W.Frag} {mg : Str → Option Value} {base : Heap}
theorem exc_of {C : Addr} (gb : getB K = true) (ga : PySem.W.findIn K (.ref C) "__getattribute__" = some (some (.builtin "BaseException.__getattribute__"))) (gg : PySem.W.findIn K (.ref C) "__getattr__" = some none)
    (hs : PySem.W.subIn K (.ref C) (.type "BaseException") = some true) (hd : PySem.W.hasDictIn K C = true) (ha : PySem.W.findIn K (.ref C) "__class__" = some (some (.builtin "object.__class__"))) (hm : PySem.W.mroIn K C (.type "object") = some true) : ExcC K C := by
  unfold getB at gb
  simp only [Bool.and_eq_true, beq_iff_eq] at gb
  exact ⟨ga, gg, hs, hd, ha, gb.1, gb.2, hm⟩

theorem cl_0 {C : Addr} (gb : getB K = true) (Z : ClF K mg "BadSigns" "BadSigns.__init__" (topI 2) C ["value"]) : Cl P w K mg base "BadSigns" C ["value"] (spI1 K "value") := by
  obtain ⟨fI, fd, h1, h2, F⟩ := Z.fn
  refine ⟨Z.oex, exc_of gb Z.ga Z.gg Z.oex.exC Z.hd Z.ha Z.hm, Z.gC, Z.no, fI, fd, h1, h2, ok_i0 F, F.binds fun _ _ _ _ _ _ us hl => match us, hl with | [_, _], _ => rfl, fun s a ws hl => ?_⟩
  obtain ⟨oc, od, kV, doc, pm, an, cdv, ct, osl, rfl, _, _⟩ := F.ex
  exact match ws, hl with | [_], _ => .of_eq rfl

theorem cl_1 {C : Addr} (gb : getB K = true) (Z : ClF K mg "BadWord" "BadWord.__init__" (topI 3) C ["value"]) : Cl P w K mg base "BadWord" C ["value"] (spI1 K "value") := by
  obtain ⟨fI, fd, h1, h2, F⟩ := Z.fn
  refine ⟨Z.oex, exc_of gb Z.ga Z.gg Z.oex.exC Z.hd Z.ha Z.hm, Z.gC, Z.no, fI, fd, h1, h2, ok_i1 F, F.binds fun _ _ _ _ _ _ us hl => match us, hl with | [_, _], _ => rfl, fun s a ws hl => ?_⟩
  obtain ⟨oc, od, kV, doc, pm, an, cdv, ct, osl, rfl, _, _⟩ := F.ex
  exact match ws, hl with | [_], _ => .of_eq rfl

theorem cl_2 {C : Addr} (gb : getB K = true) (Z : ClF K mg "BadBars" "BadBars.__init__" (topI 4) C ["part"]) : Cl P w K mg base "BadBars" C ["part"] (spI1 K "part") := by
  obtain ⟨fI, fd, h1, h2, F⟩ := Z.fn
  refine ⟨Z.oex, exc_of gb Z.ga Z.gg Z.oex.exC Z.hd Z.ha Z.hm, Z.gC, Z.no, fI, fd, h1, h2, ok_i2 F, F.binds fun _ _ _ _ _ _ us hl => match us, hl with | [_, _], _ => rfl, fun s a ws hl => ?_⟩
  obtain ⟨oc, od, kV, doc, pm, an, cdv, ct, osl, rfl, _, _⟩ := F.ex
  exact match ws, hl with | [_], _ => .of_eq rfl

theorem cl_3 {C : Addr} (gb : getB K = true) (Z : ClF K mg "BadSign" "BadSign.__init__" (topI 5) C ["value"]) : Cl P w K mg base "BadSign" C ["value"] (spI1 K "value") := by
  obtain ⟨fI, fd, h1, h2, F⟩ := Z.fn
  refine ⟨Z.oex, exc_of gb Z.ga Z.gg Z.oex.exC Z.hd Z.ha Z.hm, Z.gC, Z.no, fI, fd, h1, h2, ok_i3 F, F.binds fun _ _ _ _ _ _ us hl => match us, hl with | [_, _], _ => rfl, fun s a ws hl => ?_⟩
  obtain ⟨oc, od, kV, doc, pm, an, cdv, ct, osl, rfl, _, _⟩ := F.ex
  exact match ws, hl with | [_], _ => .of_eq rfl

theorem cl_4 {C : Addr} (gb : getB K = true) (Z : ClF K mg "BadText" "BadText.__init__" (topI 6) C ["line", "word"]) : Cl P w K mg base "BadText" C ["line", "word"] (spI2 K "line" "word") := by
  obtain ⟨fI, fd, h1, h2, F⟩ := Z.fn
  refine ⟨Z.oex, exc_of gb Z.ga Z.gg Z.oex.exC Z.hd Z.ha Z.hm, Z.gC, Z.no, fI, fd, h1, h2, ok_i4 F, F.binds fun _ _ _ _ _ _ us hl => match us, hl with | [_, _, _], _ => rfl, fun s a ws hl => ?_⟩
  obtain ⟨oc, od, kV, doc, pm, an, cdv, ct, osl, rfl, _, _⟩ := F.ex
  exact match ws, hl with | [_, _], _ => .of_eq rfl

theorem cl_5 {C : Addr} (gb : getB K = true) (Z : ClF K mg "BadSent" "BadSent.__init__" (topI 7) C ["value"]) : Cl P w K mg base "BadSent" C ["value"] (spI1 K "value") := by
  obtain ⟨fI, fd, h1, h2, F⟩ := Z.fn
  refine ⟨Z.oex, exc_of gb Z.ga Z.gg Z.oex.exC Z.hd Z.ha Z.hm, Z.gC, Z.no, fI, fd, h1, h2, ok_i5 F, F.binds fun _ _ _ _ _ _ us hl => match us, hl with | [_, _], _ => rfl, fun s a ws hl => ?_⟩
  obtain ⟨oc, od, kV, doc, pm, an, cdv, ct, osl, rfl, _, _⟩ := F.ex
  exact match ws, hl with | [_], _ => .of_eq rfl

theorem cl_6 {C : Addr} (gb : getB K = true) (Z : ClF K mg "BadEnd" "BadEnd.__init__" (topI 8) C ["value"]) : Cl P w K mg base "BadEnd" C ["value"] (spI1 K "value") := by
  obtain ⟨fI, fd, h1, h2, F⟩ := Z.fn
  refine ⟨Z.oex, exc_of gb Z.ga Z.gg Z.oex.exC Z.hd Z.ha Z.hm, Z.gC, Z.no, fI, fd, h1, h2, ok_i6 F, F.binds fun _ _ _ _ _ _ us hl => match us, hl with | [_, _], _ => rfl, fun s a ws hl => ?_⟩
  obtain ⟨oc, od, kV, doc, pm, an, cdv, ct, osl, rfl, _, _⟩ := F.ex
  exact match ws, hl with | [_], _ => .of_eq rfl

theorem cl_7 {C : Addr} (gb : getB K = true) (Z : ClF K mg "BadMove" "BadMove.__init__" (topI 9) C ["part"]) : Cl P w K mg base "BadMove" C ["part"] (spI1 K "part") := by
  obtain ⟨fI, fd, h1, h2, F⟩ := Z.fn
  refine ⟨Z.oex, exc_of gb Z.ga Z.gg Z.oex.exC Z.hd Z.ha Z.hm, Z.gC, Z.no, fI, fd, h1, h2, ok_i7 F, F.binds fun _ _ _ _ _ _ us hl => match us, hl with | [_, _], _ => rfl, fun s a ws hl => ?_⟩
  obtain ⟨oc, od, kV, doc, pm, an, cdv, ct, osl, rfl, _, _⟩ := F.ex
  exact match ws, hl with | [_], _ => .of_eq rfl

theorem cl_8 {C : Addr} (gb : getB K = true) (Z : ClF K mg "BadMenu" "BadMenu.__init__" (topI 10) C ["part"]) : Cl P w K mg base "BadMenu" C ["part"] (spI1 K "part") := by
  obtain ⟨fI, fd, h1, h2, F⟩ := Z.fn
  refine ⟨Z.oex, exc_of gb Z.ga Z.gg Z.oex.exC Z.hd Z.ha Z.hm, Z.gC, Z.no, fI, fd, h1, h2, ok_i8 F, F.binds fun _ _ _ _ _ _ us hl => match us, hl with | [_, _], _ => rfl, fun s a ws hl => ?_⟩
  obtain ⟨oc, od, kV, doc, pm, an, cdv, ct, osl, rfl, _, _⟩ := F.ex
  exact match ws, hl with | [_], _ => .of_eq rfl

theorem cl_9 {C : Addr} (gb : getB K = true) (Z : ClF K mg "BadPrice" "BadPrice.__init__" (topI 11) C ["value"]) : Cl P w K mg base "BadPrice" C ["value"] (spI1 K "value") := by
  obtain ⟨fI, fd, h1, h2, F⟩ := Z.fn
  refine ⟨Z.oex, exc_of gb Z.ga Z.gg Z.oex.exC Z.hd Z.ha Z.hm, Z.gC, Z.no, fI, fd, h1, h2, ok_i9 F, F.binds fun _ _ _ _ _ _ us hl => match us, hl with | [_, _], _ => rfl, fun s a ws hl => ?_⟩
  obtain ⟨oc, od, kV, doc, pm, an, cdv, ct, osl, rfl, _, _⟩ := F.ex
  exact match ws, hl with | [_], _ => .of_eq rfl

theorem cl_10 {C : Addr} (gb : getB K = true) (Z : ClF K mg "BadSetting" "BadSetting.__init__" (topI 12) C ["part"]) : Cl P w K mg base "BadSetting" C ["part"] (spI1 K "part") := by
  obtain ⟨fI, fd, h1, h2, F⟩ := Z.fn
  refine ⟨Z.oex, exc_of gb Z.ga Z.gg Z.oex.exC Z.hd Z.ha Z.hm, Z.gC, Z.no, fI, fd, h1, h2, ok_i10 F, F.binds fun _ _ _ _ _ _ us hl => match us, hl with | [_, _], _ => rfl, fun s a ws hl => ?_⟩
  obtain ⟨oc, od, kV, doc, pm, an, cdv, ct, osl, rfl, _, _⟩ := F.ex
  exact match ws, hl with | [_], _ => .of_eq rfl

theorem cl_11 {C : Addr} (gb : getB K = true) (Z : ClF K mg "BadRate" "BadRate.__init__" (topI 13) C ["part"]) : Cl P w K mg base "BadRate" C ["part"] (spI1 K "part") := by
  obtain ⟨fI, fd, h1, h2, F⟩ := Z.fn
  refine ⟨Z.oex, exc_of gb Z.ga Z.gg Z.oex.exC Z.hd Z.ha Z.hm, Z.gC, Z.no, fI, fd, h1, h2, ok_i11 F, F.binds fun _ _ _ _ _ _ us hl => match us, hl with | [_, _], _ => rfl, fun s a ws hl => ?_⟩
  obtain ⟨oc, od, kV, doc, pm, an, cdv, ct, osl, rfl, _, _⟩ := F.ex
  exact match ws, hl with | [_], _ => .of_eq rfl

theorem cl_12 {C : Addr} (gb : getB K = true) (Z : ClF K mg "BadRule" "BadRule.__init__" (topI 14) C ["part"]) : Cl P w K mg base "BadRule" C ["part"] (spI1 K "part") := by
  obtain ⟨fI, fd, h1, h2, F⟩ := Z.fn
  refine ⟨Z.oex, exc_of gb Z.ga Z.gg Z.oex.exC Z.hd Z.ha Z.hm, Z.gC, Z.no, fI, fd, h1, h2, ok_i12 F, F.binds fun _ _ _ _ _ _ us hl => match us, hl with | [_, _], _ => rfl, fun s a ws hl => ?_⟩
  obtain ⟨oc, od, kV, doc, pm, an, cdv, ct, osl, rfl, _, _⟩ := F.ex
  exact match ws, hl with | [_], _ => .of_eq rfl

theorem cl_13 {C : Addr} (gb : getB K = true) (Z : ClF K mg "BadTable" "BadTable.__init__" (topI 15) C ["part"]) : Cl P w K mg base "BadTable" C ["part"] (spI1 K "part") := by
  obtain ⟨fI, fd, h1, h2, F⟩ := Z.fn
  refine ⟨Z.oex, exc_of gb Z.ga Z.gg Z.oex.exC Z.hd Z.ha Z.hm, Z.gC, Z.no, fI, fd, h1, h2, ok_i13 F, F.binds fun _ _ _ _ _ _ us hl => match us, hl with | [_, _], _ => rfl, fun s a ws hl => ?_⟩
  obtain ⟨oc, od, kV, doc, pm, an, cdv, ct, osl, rfl, _, _⟩ := F.ex
  exact match ws, hl with | [_], _ => .of_eq rfl

theorem cl_14 {C : Addr} (gb : getB K = true) (Z : ClF K mg "BadContent" "BadContent.__init__" (topI 16) C ["value"]) : Cl P w K mg base "BadContent" C ["value"] (spI1 K "value") := by
  obtain ⟨fI, fd, h1, h2, F⟩ := Z.fn
  refine ⟨Z.oex, exc_of gb Z.ga Z.gg Z.oex.exC Z.hd Z.ha Z.hm, Z.gC, Z.no, fI, fd, h1, h2, ok_i14 F, F.binds fun _ _ _ _ _ _ us hl => match us, hl with | [_, _], _ => rfl, fun s a ws hl => ?_⟩
  obtain ⟨oc, od, kV, doc, pm, an, cdv, ct, osl, rfl, _, _⟩ := F.ex
  exact match ws, hl with | [_], _ => .of_eq rfl

theorem cl_15 {C : Addr} (gb : getB K = true) (Z : ClF K mg "BadNumber" "BadNumber.__init__" (topI 17) C ["value"]) : Cl P w K mg base "BadNumber" C ["value"] (spI1 K "value") := by
  obtain ⟨fI, fd, h1, h2, F⟩ := Z.fn
  refine ⟨Z.oex, exc_of gb Z.ga Z.gg Z.oex.exC Z.hd Z.ha Z.hm, Z.gC, Z.no, fI, fd, h1, h2, ok_i15 F, F.binds fun _ _ _ _ _ _ us hl => match us, hl with | [_, _], _ => rfl, fun s a ws hl => ?_⟩
  obtain ⟨oc, od, kV, doc, pm, an, cdv, ct, osl, rfl, _, _⟩ := F.ex
  exact match ws, hl with | [_], _ => .of_eq rfl

theorem cl_16 {C : Addr} (gb : getB K = true) (Z : ClF K mg "BadLog" "BadLog.__init__" (topI 18) C ["part"]) : Cl P w K mg base "BadLog" C ["part"] (spI1 K "part") := by
  obtain ⟨fI, fd, h1, h2, F⟩ := Z.fn
  refine ⟨Z.oex, exc_of gb Z.ga Z.gg Z.oex.exC Z.hd Z.ha Z.hm, Z.gC, Z.no, fI, fd, h1, h2, ok_i16 F, F.binds fun _ _ _ _ _ _ us hl => match us, hl with | [_, _], _ => rfl, fun s a ws hl => ?_⟩
  obtain ⟨oc, od, kV, doc, pm, an, cdv, ct, osl, rfl, _, _⟩ := F.ex
  exact match ws, hl with | [_], _ => .of_eq rfl

theorem cl_17 {C : Addr} (gb : getB K = true) (Z : ClF K mg "BadLayer" "BadLayer.__init__" (topI 19) C ["part"]) : Cl P w K mg base "BadLayer" C ["part"] (spI1 K "part") := by
  obtain ⟨fI, fd, h1, h2, F⟩ := Z.fn
  refine ⟨Z.oex, exc_of gb Z.ga Z.gg Z.oex.exC Z.hd Z.ha Z.hm, Z.gC, Z.no, fI, fd, h1, h2, ok_i17 F, F.binds fun _ _ _ _ _ _ us hl => match us, hl with | [_, _], _ => rfl, fun s a ws hl => ?_⟩
  obtain ⟨oc, od, kV, doc, pm, an, cdv, ct, osl, rfl, _, _⟩ := F.ex
  exact match ws, hl with | [_], _ => .of_eq rfl

theorem cl_18 {C : Addr} (gb : getB K = true) (Z : ClF K mg "BadLink" "BadLink.__init__" (topI 20) C ["part"]) : Cl P w K mg base "BadLink" C ["part"] (spI1 K "part") := by
  obtain ⟨fI, fd, h1, h2, F⟩ := Z.fn
  refine ⟨Z.oex, exc_of gb Z.ga Z.gg Z.oex.exC Z.hd Z.ha Z.hm, Z.gC, Z.no, fI, fd, h1, h2, ok_i18 F, F.binds fun _ _ _ _ _ _ us hl => match us, hl with | [_, _], _ => rfl, fun s a ws hl => ?_⟩
  obtain ⟨oc, od, kV, doc, pm, an, cdv, ct, osl, rfl, _, _⟩ := F.ex
  exact match ws, hl with | [_], _ => .of_eq rfl

theorem cl_19 {C : Addr} (gb : getB K = true) (Z : ClF K mg "BadLine" "BadLine.__init__" (topI 21) C ["word"]) : Cl P w K mg base "BadLine" C ["word"] (spI1 K "word") := by
  obtain ⟨fI, fd, h1, h2, F⟩ := Z.fn
  refine ⟨Z.oex, exc_of gb Z.ga Z.gg Z.oex.exC Z.hd Z.ha Z.hm, Z.gC, Z.no, fI, fd, h1, h2, ok_i19 F, F.binds fun _ _ _ _ _ _ us hl => match us, hl with | [_, _], _ => rfl, fun s a ws hl => ?_⟩
  obtain ⟨oc, od, kV, doc, pm, an, cdv, ct, osl, rfl, _, _⟩ := F.ex
  exact match ws, hl with | [_], _ => .of_eq rfl

theorem cl_20 {C : Addr} (gb : getB K = true) (Z : ClF K mg "NoEnd" "NoEnd.__init__" (topI 22) C ["end"]) : Cl P w K mg base "NoEnd" C ["end"] (spI1 K "end") := by
  obtain ⟨fI, fd, h1, h2, F⟩ := Z.fn
  refine ⟨Z.oex, exc_of gb Z.ga Z.gg Z.oex.exC Z.hd Z.ha Z.hm, Z.gC, Z.no, fI, fd, h1, h2, ok_i20 F, F.binds fun _ _ _ _ _ _ us hl => match us, hl with | [_, _], _ => rfl, fun s a ws hl => ?_⟩
  obtain ⟨oc, od, kV, doc, pm, an, cdv, ct, osl, rfl, _, _⟩ := F.ex
  exact match ws, hl with | [_], _ => .of_eq rfl

theorem cl_21 {C : Addr} (gb : getB K = true) (Z : ClF K mg "TooMany" "TooMany.__init__" (topI 23) C ["what", "most"]) : Cl P w K mg base "TooMany" C ["what", "most"] (spI2 K "what" "most") := by
  obtain ⟨fI, fd, h1, h2, F⟩ := Z.fn
  refine ⟨Z.oex, exc_of gb Z.ga Z.gg Z.oex.exC Z.hd Z.ha Z.hm, Z.gC, Z.no, fI, fd, h1, h2, ok_i21 F, F.binds fun _ _ _ _ _ _ us hl => match us, hl with | [_, _, _], _ => rfl, fun s a ws hl => ?_⟩
  obtain ⟨oc, od, kV, doc, pm, an, cdv, ct, osl, rfl, _, _⟩ := F.ex
  exact match ws, hl with | [_, _], _ => .of_eq rfl

theorem cl_22 {C : Addr} (gb : getB K = true) (Z : ClF K mg "NoWay" "NoWay.__init__" (topI 24) C ["end"]) : Cl P w K mg base "NoWay" C ["end"] (spI1 K "end") := by
  obtain ⟨fI, fd, h1, h2, F⟩ := Z.fn
  refine ⟨Z.oex, exc_of gb Z.ga Z.gg Z.oex.exC Z.hd Z.ha Z.hm, Z.gC, Z.no, fI, fd, h1, h2, ok_i22 F, F.binds fun _ _ _ _ _ _ us hl => match us, hl with | [_, _], _ => rfl, fun s a ws hl => ?_⟩
  obtain ⟨oc, od, kV, doc, pm, an, cdv, ct, osl, rfl, _, _⟩ := F.ex
  exact match ws, hl with | [_], _ => .of_eq rfl

theorem cl_23 {C : Addr} (gb : getB K = true) (Z : ClF K mg "NoRound" "NoRound.__init__" (topI 25) C ["most"]) : Cl P w K mg base "NoRound" C ["most"] (spI1 K "most") := by
  obtain ⟨fI, fd, h1, h2, F⟩ := Z.fn
  refine ⟨Z.oex, exc_of gb Z.ga Z.gg Z.oex.exC Z.hd Z.ha Z.hm, Z.gC, Z.no, fI, fd, h1, h2, ok_i23 F, F.binds fun _ _ _ _ _ _ us hl => match us, hl with | [_, _], _ => rfl, fun s a ws hl => ?_⟩
  obtain ⟨oc, od, kV, doc, pm, an, cdv, ct, osl, rfl, _, _⟩ := F.ex
  exact match ws, hl with | [_], _ => .of_eq rfl

theorem cl_24 {C : Addr} (gb : getB K = true) (Z : ClF K mg "Stuck" "Stuck.__init__" (topI 26) C ["end"]) : Cl P w K mg base "Stuck" C ["end"] (spI1 K "end") := by
  obtain ⟨fI, fd, h1, h2, F⟩ := Z.fn
  refine ⟨Z.oex, exc_of gb Z.ga Z.gg Z.oex.exC Z.hd Z.ha Z.hm, Z.gC, Z.no, fI, fd, h1, h2, ok_i24 F, F.binds fun _ _ _ _ _ _ us hl => match us, hl with | [_, _], _ => rfl, fun s a ws hl => ?_⟩
  obtain ⟨oc, od, kV, doc, pm, an, cdv, ct, osl, rfl, _, _⟩ := F.ex
  exact match ws, hl with | [_], _ => .of_eq rfl

theorem cl_25 {C : Addr} (gb : getB K = true) (Z : ClF K mg "Refused" "Refused.__init__" (topI 27) C ["at"]) : Cl P w K mg base "Refused" C ["at"] (spI1 K "at") := by
  obtain ⟨fI, fd, h1, h2, F⟩ := Z.fn
  refine ⟨Z.oex, exc_of gb Z.ga Z.gg Z.oex.exC Z.hd Z.ha Z.hm, Z.gC, Z.no, fI, fd, h1, h2, ok_i25 F, F.binds fun _ _ _ _ _ _ us hl => match us, hl with | [_, _], _ => rfl, fun s a ws hl => ?_⟩
  obtain ⟨oc, od, kV, doc, pm, an, cdv, ct, osl, rfl, _, _⟩ := F.ex
  exact match ws, hl with | [_], _ => .of_eq rfl

/-- all error classes of the text -/
theorem errs_of {C0 C1 C2 C3 C4 C5 C6 C7 C8 C9 C10 C11 C12 C13 C14 C15 C16 C17 C18 C19 C20 C21 C22 C23 C24 C25 C26 F : Addr} (gb : getB K = true) (Z0 : ClF K mg "BadSigns" "BadSigns.__init__" (topI 2) C0 ["value"]) (Z1 : ClF K mg "BadWord" "BadWord.__init__" (topI 3) C1 ["value"]) (Z2 : ClF K mg "BadBars" "BadBars.__init__" (topI 4) C2 ["part"]) (Z3 : ClF K mg "BadSign" "BadSign.__init__" (topI 5) C3 ["value"]) (Z4 : ClF K mg "BadText" "BadText.__init__" (topI 6) C4 ["line", "word"]) (Z5 : ClF K mg "BadSent" "BadSent.__init__" (topI 7) C5 ["value"]) (Z6 : ClF K mg "BadEnd" "BadEnd.__init__" (topI 8) C6 ["value"]) (Z7 : ClF K mg "BadMove" "BadMove.__init__" (topI 9) C7 ["part"]) (Z8 : ClF K mg "BadMenu" "BadMenu.__init__" (topI 10) C8 ["part"]) (Z9 : ClF K mg "BadPrice" "BadPrice.__init__" (topI 11) C9 ["value"]) (Z10 : ClF K mg "BadSetting" "BadSetting.__init__" (topI 12) C10 ["part"]) (Z11 : ClF K mg "BadRate" "BadRate.__init__" (topI 13) C11 ["part"]) (Z12 : ClF K mg "BadRule" "BadRule.__init__" (topI 14) C12 ["part"]) (Z13 : ClF K mg "BadTable" "BadTable.__init__" (topI 15) C13 ["part"]) (Z14 : ClF K mg "BadContent" "BadContent.__init__" (topI 16) C14 ["value"]) (Z15 : ClF K mg "BadNumber" "BadNumber.__init__" (topI 17) C15 ["value"]) (Z16 : ClF K mg "BadLog" "BadLog.__init__" (topI 18) C16 ["part"]) (Z17 : ClF K mg "BadLayer" "BadLayer.__init__" (topI 19) C17 ["part"]) (Z18 : ClF K mg "BadLink" "BadLink.__init__" (topI 20) C18 ["part"]) (Z19 : ClF K mg "BadLine" "BadLine.__init__" (topI 21) C19 ["word"]) (Z20 : ClF K mg "NoEnd" "NoEnd.__init__" (topI 22) C20 ["end"]) (Z21 : ClF K mg "TooMany" "TooMany.__init__" (topI 23) C21 ["what", "most"]) (Z22 : ClF K mg "NoWay" "NoWay.__init__" (topI 24) C22 ["end"]) (Z23 : ClF K mg "NoRound" "NoRound.__init__" (topI 25) C23 ["most"]) (Z24 : ClF K mg "Stuck" "Stuck.__init__" (topI 26) C24 ["end"]) (Z25 : ClF K mg "Refused" "Refused.__init__" (topI 27) C25 ["at"])
    (gN : mg "NoChange" = some (.ref C26)) (bN : bareB K C26 = true) (gF : mg "FlagError" = some (.ref F)) (bF : bareB K F = true) (B : kitAll K [C0, C1, C2, C3, C4, C5, C6, C7, C8, C9, C10, C11, C12, C13, C14, C15, C16, C17, C18, C19, C20, C21, C22, C23, C24, C25, C26] F = true) (ii : mg "isinstance" = none) (rg : mg "range" = none) :
    Errs P w K mg base (fun i => ([C0, C1, C2, C3, C4, C5, C6, C7, C8, C9, C10, C11, C12, C13, C14, C15, C16, C17, C18, C19, C20, C21, C22, C23, C24, C25, C26] : List Addr).getD i 0) F := by
  have kt := kits_of B
  unfold bareB at bN bF
  simp only [Bool.and_eq_true, beq_iff_eq] at bN bF
  obtain ⟨⟨⟨⟨⟨⟨⟨n1, n2⟩, n3⟩, n4⟩, n5⟩, n6⟩, n7⟩, n8⟩ := bN
  obtain ⟨⟨⟨⟨⟨⟨⟨f1, f2⟩, f3⟩, f4⟩, f5⟩, f6⟩, f7⟩, f8⟩ := bF
  have eN : ExcC K C26 := exc_of gb n1 n2 n4 n5 n6 n7
  have eF : ExcC K F := exc_of gb f1 f2 f4 f5 f6 f7
  have exc : ∀ i, i < 27 → ExcC K (([C0, C1, C2, C3, C4, C5, C6, C7, C8, C9, C10, C11, C12, C13, C14, C15, C16, C17, C18, C19, C20, C21, C22, C23, C24, C25, C26] : List Addr).getD i 0)
    | 0, _ => exc_of gb Z0.ga Z0.gg Z0.oex.exC Z0.hd Z0.ha Z0.hm
    | 1, _ => exc_of gb Z1.ga Z1.gg Z1.oex.exC Z1.hd Z1.ha Z1.hm
    | 2, _ => exc_of gb Z2.ga Z2.gg Z2.oex.exC Z2.hd Z2.ha Z2.hm
    | 3, _ => exc_of gb Z3.ga Z3.gg Z3.oex.exC Z3.hd Z3.ha Z3.hm
    | 4, _ => exc_of gb Z4.ga Z4.gg Z4.oex.exC Z4.hd Z4.ha Z4.hm
    | 5, _ => exc_of gb Z5.ga Z5.gg Z5.oex.exC Z5.hd Z5.ha Z5.hm
    | 6, _ => exc_of gb Z6.ga Z6.gg Z6.oex.exC Z6.hd Z6.ha Z6.hm
    | 7, _ => exc_of gb Z7.ga Z7.gg Z7.oex.exC Z7.hd Z7.ha Z7.hm
    | 8, _ => exc_of gb Z8.ga Z8.gg Z8.oex.exC Z8.hd Z8.ha Z8.hm
    | 9, _ => exc_of gb Z9.ga Z9.gg Z9.oex.exC Z9.hd Z9.ha Z9.hm
    | 10, _ => exc_of gb Z10.ga Z10.gg Z10.oex.exC Z10.hd Z10.ha Z10.hm
    | 11, _ => exc_of gb Z11.ga Z11.gg Z11.oex.exC Z11.hd Z11.ha Z11.hm
    | 12, _ => exc_of gb Z12.ga Z12.gg Z12.oex.exC Z12.hd Z12.ha Z12.hm
    | 13, _ => exc_of gb Z13.ga Z13.gg Z13.oex.exC Z13.hd Z13.ha Z13.hm
    | 14, _ => exc_of gb Z14.ga Z14.gg Z14.oex.exC Z14.hd Z14.ha Z14.hm
    | 15, _ => exc_of gb Z15.ga Z15.gg Z15.oex.exC Z15.hd Z15.ha Z15.hm
    | 16, _ => exc_of gb Z16.ga Z16.gg Z16.oex.exC Z16.hd Z16.ha Z16.hm
    | 17, _ => exc_of gb Z17.ga Z17.gg Z17.oex.exC Z17.hd Z17.ha Z17.hm
    | 18, _ => exc_of gb Z18.ga Z18.gg Z18.oex.exC Z18.hd Z18.ha Z18.hm
    | 19, _ => exc_of gb Z19.ga Z19.gg Z19.oex.exC Z19.hd Z19.ha Z19.hm
    | 20, _ => exc_of gb Z20.ga Z20.gg Z20.oex.exC Z20.hd Z20.ha Z20.hm
    | 21, _ => exc_of gb Z21.ga Z21.gg Z21.oex.exC Z21.hd Z21.ha Z21.hm
    | 22, _ => exc_of gb Z22.ga Z22.gg Z22.oex.exC Z22.hd Z22.ha Z22.hm
    | 23, _ => exc_of gb Z23.ga Z23.gg Z23.oex.exC Z23.hd Z23.ha Z23.hm
    | 24, _ => exc_of gb Z24.ga Z24.gg Z24.oex.exC Z24.hd Z24.ha Z24.hm
    | 25, _ => exc_of gb Z25.ga Z25.gg Z25.oex.exC Z25.hd Z25.ha Z25.hm
    | 26, _ => eN
    | n + 27, h => absurd h (by omega)
  have no : ∀ i, i < 27 → ∀ f ∈ fld i, PySem.W.findIn K (.ref (([C0, C1, C2, C3, C4, C5, C6, C7, C8, C9, C10, C11, C12, C13, C14, C15, C16, C17, C18, C19, C20, C21, C22, C23, C24, C25, C26] : List Addr).getD i 0)) f = some none
    | 0, _ => Z0.no
    | 1, _ => Z1.no
    | 2, _ => Z2.no
    | 3, _ => Z3.no
    | 4, _ => Z4.no
    | 5, _ => Z5.no
    | 6, _ => Z6.no
    | 7, _ => Z7.no
    | 8, _ => Z8.no
    | 9, _ => Z9.no
    | 10, _ => Z10.no
    | 11, _ => Z11.no
    | 12, _ => Z12.no
    | 13, _ => Z13.no
    | 14, _ => Z14.no
    | 15, _ => Z15.no
    | 16, _ => Z16.no
    | 17, _ => Z17.no
    | 18, _ => Z18.no
    | 19, _ => Z19.no
    | 20, _ => Z20.no
    | 21, _ => Z21.no
    | 22, _ => Z22.no
    | 23, _ => Z23.no
    | 24, _ => Z24.no
    | 25, _ => Z25.no
    | 26, _ => fun f hf => by cases hf
    | n + 27, h => absurd h (by omega)
  exact { z0 := cl_0 gb Z0, z1 := cl_1 gb Z1, z2 := cl_2 gb Z2, z3 := cl_3 gb Z3, z4 := cl_4 gb Z4, z5 := cl_5 gb Z5, z6 := cl_6 gb Z6, z7 := cl_7 gb Z7, z8 := cl_8 gb Z8, z9 := cl_9 gb Z9, z10 := cl_10 gb Z10, z11 := cl_11 gb Z11, z12 := cl_12 gb Z12, z13 := cl_13 gb Z13, z14 := cl_14 gb Z14, z15 := cl_15 gb Z15, z16 := cl_16 gb Z16, z17 := cl_17 gb Z17, z18 := cl_18 gb Z18, z19 := cl_19 gb Z19, z20 := cl_20 gb Z20, z21 := cl_21 gb Z21, z22 := cl_22 gb Z22, z23 := cl_23 gb Z23, z24 := cl_24 gb Z24, z25 := cl_25 gb Z25, exc := exc, no := no, gN := gN, qN := n8, kN := n3, gF := gF, qF := f8, kF := f3, excF := eF, kit := kt.kit, kitF := kt.kitF, kitV := kt.kitV, kitL := kt.kitL, kitT := kt.kitT, kitA := kt.kitA, kitF3 := kt.kitF3, kitFV := kt.kitFV, ii := ii, rg := rg }

end
/-- a def of the text's top -/
structure FnF (K : PySem.W.Frag) (mg : Str → Option Value) (x : Str) (st : Stmt) (f : Addr) (fd : FuncData) : Prop where
  g : mg x = some (.ref f)
  F : Fun K x x st f fd
theorem fnf_mk {K : PySem.W.Frag} {h : Heap} {mg : Str → Option Value} (X : K.In h) (G : h.Ns mainGlobals mg) {x : Str} {st : Stmt} {f : Addr} {oc kV dc pm cd ct : Value} {od an : Option Addr} {osl : Array (Option Value)} (a : PySem.W.nsIn K mainGlobals x = some (some (.ref f)))
    (l : K.lookup f = some ⟨oc, od, .func (PySem.W.fnOf x x (defArgs st) (defBody st) (defScope st) .none kV dc pm an cd ct), osl⟩) (B : (PySem.W.codeIn K cd x && PySem.W.keepIn K (.ref f)) = true) : FnF K mg x st f (PySem.W.fnOf x x (defArgs st) (defBody st) (defScope st) .none kV dc pm an cd ct) := by
  obtain ⟨b1, b2⟩ := Bool.and_eq_true_iff.mp B
  exact ⟨PySem.W.mg_of X G a, fun_mk l b1 b2⟩
def freeB (K : PySem.W.Frag) : Bool := (["int", "len", "abs", "list", "isinstance", "range", "repr", "ValueError", "LookupError", "TypeError", "ArithmeticError"] : List Str).all fun x => PySem.W.nsIn K mainGlobals x == some none
theorem free_of {K : PySem.W.Frag} {h : Heap} {mg : Str → Option Value} (X : K.In h) (G : h.Ns mainGlobals mg) (B : freeB K = true) : ∀ x ∈ (["int", "len", "abs", "list", "isinstance", "range", "repr", "ValueError", "LookupError", "TypeError", "ArithmeticError"] : List Str), mg x = none := fun x hx => by
  unfold freeB at B
  simp only [List.all_eq_true, beq_iff_eq] at B
  exact PySem.W.mg_none_of X G (B x hx)

theorem law_of {P : Program} {w : World} {K : PySem.W.Frag} {h : Heap} {mg : Str → Option Value} {fa : Addr} (X : K.In h) (G : h.Ns mainGlobals mg) (hfa : mg "law" = some (.ref fa)) {C0 C1 C2 C3 C4 C5 C6 C7 C8 C9 C10 C11 C12 C13 C14 C15 C16 C17 C18 C19 C20 C21 C22 C23 C24 C25 C26 F : Addr} {fPen : Addr} {fdPen : FuncData} {fDraw : Addr} {fdDraw : FuncData} {fPick : Addr} {fdPick : FuncData} {fValue : Addr} {fdValue : FuncData} {fMade : Addr} {fdMade : FuncData} {fNamed : Addr} {fdNamed : FuncData} {fFields : Addr} {fdFields : FuncData} {fClasses : Addr} {fdClasses : FuncData} {fLaw : Addr}
    (fr : freeB K = true) (gb : getB K = true) (Z0 : ClF K mg "BadSigns" "BadSigns.__init__" (topI 2) C0 ["value"]) (Z1 : ClF K mg "BadWord" "BadWord.__init__" (topI 3) C1 ["value"]) (Z2 : ClF K mg "BadBars" "BadBars.__init__" (topI 4) C2 ["part"]) (Z3 : ClF K mg "BadSign" "BadSign.__init__" (topI 5) C3 ["value"]) (Z4 : ClF K mg "BadText" "BadText.__init__" (topI 6) C4 ["line", "word"]) (Z5 : ClF K mg "BadSent" "BadSent.__init__" (topI 7) C5 ["value"]) (Z6 : ClF K mg "BadEnd" "BadEnd.__init__" (topI 8) C6 ["value"]) (Z7 : ClF K mg "BadMove" "BadMove.__init__" (topI 9) C7 ["part"]) (Z8 : ClF K mg "BadMenu" "BadMenu.__init__" (topI 10) C8 ["part"]) (Z9 : ClF K mg "BadPrice" "BadPrice.__init__" (topI 11) C9 ["value"]) (Z10 : ClF K mg "BadSetting" "BadSetting.__init__" (topI 12) C10 ["part"]) (Z11 : ClF K mg "BadRate" "BadRate.__init__" (topI 13) C11 ["part"]) (Z12 : ClF K mg "BadRule" "BadRule.__init__" (topI 14) C12 ["part"]) (Z13 : ClF K mg "BadTable" "BadTable.__init__" (topI 15) C13 ["part"]) (Z14 : ClF K mg "BadContent" "BadContent.__init__" (topI 16) C14 ["value"]) (Z15 : ClF K mg "BadNumber" "BadNumber.__init__" (topI 17) C15 ["value"]) (Z16 : ClF K mg "BadLog" "BadLog.__init__" (topI 18) C16 ["part"]) (Z17 : ClF K mg "BadLayer" "BadLayer.__init__" (topI 19) C17 ["part"]) (Z18 : ClF K mg "BadLink" "BadLink.__init__" (topI 20) C18 ["part"]) (Z19 : ClF K mg "BadLine" "BadLine.__init__" (topI 21) C19 ["word"]) (Z20 : ClF K mg "NoEnd" "NoEnd.__init__" (topI 22) C20 ["end"]) (Z21 : ClF K mg "TooMany" "TooMany.__init__" (topI 23) C21 ["what", "most"]) (Z22 : ClF K mg "NoWay" "NoWay.__init__" (topI 24) C22 ["end"]) (Z23 : ClF K mg "NoRound" "NoRound.__init__" (topI 25) C23 ["most"]) (Z24 : ClF K mg "Stuck" "Stuck.__init__" (topI 26) C24 ["end"]) (Z25 : ClF K mg "Refused" "Refused.__init__" (topI 27) C25 ["at"])
    (aN : PySem.W.nsIn K mainGlobals "NoChange" = some (some (.ref C26))) (bN : bareB K C26 = true) (aF : PySem.W.nsIn K mainGlobals "FlagError" = some (some (.ref F))) (bF : bareB K F = true) (B : kitAll K [C0, C1, C2, C3, C4, C5, C6, C7, C8, C9, C10, C11, C12, C13, C14, C15, C16, C17, C18, C19, C20, C21, C22, C23, C24, C25, C26] F = true)
    (HPen : FnF K mg "_law_pen" sPen fPen fdPen) (HDraw : FnF K mg "_law_draw" sDraw fDraw fdDraw) (HPick : FnF K mg "_law_pick" sPick fPick fdPick) (HValue : FnF K mg "_law_value" sValue fValue fdValue) (HMade : FnF K mg "_law_made" sMade fMade fdMade) (HNamed : FnF K mg "_law_named" sNamed fNamed fdNamed) (HFields : FnF K mg "_law_fields" sFields fFields fdFields) (HClasses : FnF K mg "_law_classes" sClasses fClasses fdClasses) {oc kV dc pm cd ct : Value} {od an : Option Addr} {osl : Array (Option Value)} (aL : PySem.W.nsIn K mainGlobals "law" = some (some (.ref fLaw)))
    (lL : K.lookup fLaw = some ⟨oc, od, .func (PySem.W.fnOf "law" "law" (defArgs sLaw) (defBody sLaw) (defScope sLaw) .none kV dc pm an cd ct), osl⟩) (bL : (PySem.W.codeIn K cd "law" && PySem.W.keepIn K (.ref fLaw)) = true) :
    ∃ fd : FuncData, (∀ (s : Shared) (u : Value), BindsTo s fd ⟨[u], []⟩ [("_law_script", u)]) ∧ ∀ base : Heap, K.In base → base.Ns mainGlobals mg → FnG P w K mg base CX0 4 fa fd ["_law_script"] (spLaw K) := by
  have HLaw := fnf_mk (st := sLaw) X G aL lL bL
  have e := hfa.symm.trans HLaw.g
  cases e
  have fn := free_of X G fr
  have bPen := HPen.F.binds (ps := ["_law_script"]) fun _ _ _ _ _ _ us hl => match us, hl with | [_], _ => rfl
  have bDraw := HDraw.F.binds (ps := ["_law_pen_here", "_law_many"]) fun _ _ _ _ _ _ us hl => match us, hl with | [_, _], _ => rfl
  have bPick := HPick.F.binds (ps := ["_law_pen_here", "_law_some"]) fun _ _ _ _ _ _ us hl => match us, hl with | [_, _], _ => rfl
  have bValue := HValue.F.binds (ps := ["_law_pen_here"]) fun _ _ _ _ _ _ us hl => match us, hl with | [_], _ => rfl
  have bMade := HMade.F.binds (ps := ["_law_one", "_law_two"]) fun _ _ _ _ _ _ us hl => match us, hl with | [_, _], _ => rfl
  have bNamed := HNamed.F.binds (ps := ["_law_one", "_law_two"]) fun _ _ _ _ _ _ us hl => match us, hl with | [_, _], _ => rfl
  have bFields := HFields.F.binds (ps := ["_law_error", "_law_names"]) fun _ _ _ _ _ _ us hl => match us, hl with | [_, _], _ => rfl
  have bClasses := HClasses.F.binds (ps := ["_law_error"]) fun _ _ _ _ _ _ us hl => match us, hl with | [_], _ => rfl
  refine ⟨PySem.W.fnOf "law" "law" (defArgs sLaw) (defBody sLaw) (defScope sLaw) .none kV dc pm an cd ct, fun s u => .of_eq rfl, fun base _ _ => ?_⟩
  have Z : Errs P w K mg base (fun i => ([C0, C1, C2, C3, C4, C5, C6, C7, C8, C9, C10, C11, C12, C13, C14, C15, C16, C17, C18, C19, C20, C21, C22, C23, C24, C25, C26] : List Addr).getD i 0) F := errs_of gb Z0 Z1 Z2 Z3 Z4 Z5 Z6 Z7 Z8 Z9 Z10 Z11 Z12 Z13 Z14 Z15 Z16 Z17 Z18 Z19 Z20 Z21 Z22 Z23 Z24 Z25 (PySem.W.mg_of X G aN) bN (PySem.W.mg_of X G aF) bF B (fn _ (by decide +kernel)) (fn _ (by decide +kernel))
  have T : Free mg := ⟨fn _ (by decide +kernel), fn _ (by decide +kernel), fn _ (by decide +kernel), fn _ (by decide +kernel)⟩
  have TD : Draws K mg fDraw fPick := { toFree := T, gDraw := HDraw.g, kDraw := HDraw.F.kp, gPick := HPick.g, kPick := HPick.F.kp }
  have U : Used K mg fPen fValue fMade fNamed fFields fClasses := { gPen := HPen.g, kPen := HPen.F.kp, gValue := HValue.g, kValue := HValue.F.kp, gMade := HMade.g, kMade := HMade.F.kp, gNamed := HNamed.g, kNamed := HNamed.F.kp, gFields := HFields.g, kFields := HFields.F.kp, gClasses := HClasses.g, kClasses := HClasses.F.kp, ValueError := fn _ (by decide +kernel), LookupError := fn _ (by decide +kernel), TypeError := fn _ (by decide +kernel), ArithmeticError := fn _ (by decide +kernel), len := fn _ (by decide +kernel), repr := fn _ (by decide +kernel) }
  exact ok_law HLaw.F Z U (ok_pen HPen.F T) bPen (ok_value HValue.F TD HPick.F HDraw.F bDraw bPick) bValue (ok_made HMade.F Z) bMade (ok_named HNamed.F Z) bNamed (ok_fields HFields.F Z) bFields (ok_classes HClasses.F Z) bClasses
end K01

set_option Elab.async false
set_option linter.all false
set_option maxRecDepth 100000
open PySem PySem.W PyProof.Rows
set_option maxRecDepth 100000 in
set_option maxHeartbeats 0 in
theorem PySem.Challenge.cw_flagfree_k01_errors_and_their_fields_holds : PySem.Challenge.rw_flagfree_k01_errors_and_their_fields.Holds := by
  w_on; o_law; k_head; (case hw => w_witness2)
  k_fill
  refine KU.end_of (l := PySem.Challenge.rw_flagfree_k01_errors_and_their_fields) (n := 63) (k := 4) (x := "_law_script") (sp := K01.spLaw) rfl (by decide) rfl ⟨rfl, by decide, by decide⟩ (fun w h Y => PySem.W.kIn_of Y) ?F (fun K H a ns hl _ hS => ⟨a, ns, rfl, hS, hl, fun _ => rfl⟩)
  case F =>
    intro w mg fa h KX G hmg
    refine' K01.law_of KX G hmg ?fr ?gb (K01.clf_mk KX G ?a0 ?x0 ?i0 ?l0 ?h0 ?b0) (K01.clf_mk KX G ?a1 ?x1 ?i1 ?l1 ?h1 ?b1) (K01.clf_mk KX G ?a2 ?x2 ?i2 ?l2 ?h2 ?b2) (K01.clf_mk KX G ?a3 ?x3 ?i3 ?l3 ?h3 ?b3) (K01.clf_mk KX G ?a4 ?x4 ?i4 ?l4 ?h4 ?b4) (K01.clf_mk KX G ?a5 ?x5 ?i5 ?l5 ?h5 ?b5) (K01.clf_mk KX G ?a6 ?x6 ?i6 ?l6 ?h6 ?b6) (K01.clf_mk KX G ?a7 ?x7 ?i7 ?l7 ?h7 ?b7) (K01.clf_mk KX G ?a8 ?x8 ?i8 ?l8 ?h8 ?b8) (K01.clf_mk KX G ?a9 ?x9 ?i9 ?l9 ?h9 ?b9) (K01.clf_mk KX G ?a10 ?x10 ?i10 ?l10 ?h10 ?b10) (K01.clf_mk KX G ?a11 ?x11 ?i11 ?l11 ?h11 ?b11) (K01.clf_mk KX G ?a12 ?x12 ?i12 ?l12 ?h12 ?b12) (K01.clf_mk KX G ?a13 ?x13 ?i13 ?l13 ?h13 ?b13) (K01.clf_mk KX G ?a14 ?x14 ?i14 ?l14 ?h14 ?b14) (K01.clf_mk KX G ?a15 ?x15 ?i15 ?l15 ?h15 ?b15) (K01.clf_mk KX G ?a16 ?x16 ?i16 ?l16 ?h16 ?b16) (K01.clf_mk KX G ?a17 ?x17 ?i17 ?l17 ?h17 ?b17) (K01.clf_mk KX G ?a18 ?x18 ?i18 ?l18 ?h18 ?b18) (K01.clf_mk KX G ?a19 ?x19 ?i19 ?l19 ?h19 ?b19) (K01.clf_mk KX G ?a20 ?x20 ?i20 ?l20 ?h20 ?b20) (K01.clf_mk KX G ?a21 ?x21 ?i21 ?l21 ?h21 ?b21) (K01.clf_mk KX G ?a22 ?x22 ?i22 ?l22 ?h22 ?b22) (K01.clf_mk KX G ?a23 ?x23 ?i23 ?l23 ?h23 ?b23) (K01.clf_mk KX G ?a24 ?x24 ?i24 ?l24 ?h24 ?b24) (K01.clf_mk KX G ?a25 ?x25 ?i25 ?l25 ?h25 ?b25) ?aN ?bN ?aF ?bF ?B (K01.fnf_mk KX G ?aPen ?lPen ?bPen) (K01.fnf_mk KX G ?aDraw ?lDraw ?bDraw) (K01.fnf_mk KX G ?aPick ?lPick ?bPick) (K01.fnf_mk KX G ?aValue ?lValue ?bValue) (K01.fnf_mk KX G ?aMade ?lMade ?bMade) (K01.fnf_mk KX G ?aNamed ?lNamed ?bNamed) (K01.fnf_mk KX G ?aFields ?lFields ?bFields) (K01.fnf_mk KX G ?aClasses ?lClasses ?bClasses) ?aL ?lL ?bL
    (case a0 => k_is); (case x0 => k_is); (case i0 => k_is); (case l0 => k_is); (case h0 => rfl); (case b0 => kernel_rfl)
    (case a1 => k_is); (case x1 => k_is); (case i1 => k_is); (case l1 => k_is); (case h1 => rfl); (case b1 => kernel_rfl)
    (case a2 => k_is); (case x2 => k_is); (case i2 => k_is); (case l2 => k_is); (case h2 => rfl); (case b2 => kernel_rfl)
    (case a3 => k_is); (case x3 => k_is); (case i3 => k_is); (case l3 => k_is); (case h3 => rfl); (case b3 => kernel_rfl)
    (case a4 => k_is); (case x4 => k_is); (case i4 => k_is); (case l4 => k_is); (case h4 => rfl); (case b4 => kernel_rfl)
    (case a5 => k_is); (case x5 => k_is); (case i5 => k_is); (case l5 => k_is); (case h5 => rfl); (case b5 => kernel_rfl)
    (case a6 => k_is); (case x6 => k_is); (case i6 => k_is); (case l6 => k_is); (case h6 => rfl); (case b6 => kernel_rfl)
    (case a7 => k_is); (case x7 => k_is); (case i7 => k_is); (case l7 => k_is); (case h7 => rfl); (case b7 => kernel_rfl)
    (case a8 => k_is); (case x8 => k_is); (case i8 => k_is); (case l8 => k_is); (case h8 => rfl); (case b8 => kernel_rfl)
    (case a9 => k_is); (case x9 => k_is); (case i9 => k_is); (case l9 => k_is); (case h9 => rfl); (case b9 => kernel_rfl)
    (case a10 => k_is); (case x10 => k_is); (case i10 => k_is); (case l10 => k_is); (case h10 => rfl); (case b10 => kernel_rfl)
    (case a11 => k_is); (case x11 => k_is); (case i11 => k_is); (case l11 => k_is); (case h11 => rfl); (case b11 => kernel_rfl)
    (case a12 => k_is); (case x12 => k_is); (case i12 => k_is); (case l12 => k_is); (case h12 => rfl); (case b12 => kernel_rfl)
    (case a13 => k_is); (case x13 => k_is); (case i13 => k_is); (case l13 => k_is); (case h13 => rfl); (case b13 => kernel_rfl)
    (case a14 => k_is); (case x14 => k_is); (case i14 => k_is); (case l14 => k_is); (case h14 => rfl); (case b14 => kernel_rfl)
    (case a15 => k_is); (case x15 => k_is); (case i15 => k_is); (case l15 => k_is); (case h15 => rfl); (case b15 => kernel_rfl)
    (case a16 => k_is); (case x16 => k_is); (case i16 => k_is); (case l16 => k_is); (case h16 => rfl); (case b16 => kernel_rfl)
    (case a17 => k_is); (case x17 => k_is); (case i17 => k_is); (case l17 => k_is); (case h17 => rfl); (case b17 => kernel_rfl)
    (case a18 => k_is); (case x18 => k_is); (case i18 => k_is); (case l18 => k_is); (case h18 => rfl); (case b18 => kernel_rfl)
    (case a19 => k_is); (case x19 => k_is); (case i19 => k_is); (case l19 => k_is); (case h19 => rfl); (case b19 => kernel_rfl)
    (case a20 => k_is); (case x20 => k_is); (case i20 => k_is); (case l20 => k_is); (case h20 => rfl); (case b20 => kernel_rfl)
    (case a21 => k_is); (case x21 => k_is); (case i21 => k_is); (case l21 => k_is); (case h21 => rfl); (case b21 => kernel_rfl)
    (case a22 => k_is); (case x22 => k_is); (case i22 => k_is); (case l22 => k_is); (case h22 => rfl); (case b22 => kernel_rfl)
    (case a23 => k_is); (case x23 => k_is); (case i23 => k_is); (case l23 => k_is); (case h23 => rfl); (case b23 => kernel_rfl)
    (case a24 => k_is); (case x24 => k_is); (case i24 => k_is); (case l24 => k_is); (case h24 => rfl); (case b24 => kernel_rfl)
    (case a25 => k_is); (case x25 => k_is); (case i25 => k_is); (case l25 => k_is); (case h25 => rfl); (case b25 => kernel_rfl)
    (case aN => k_is); (case aF => k_is); (case bN => kernel_rfl); (case bF => kernel_rfl)
    (case aPen => k_is); (case lPen => k_is); (case bPen => kernel_rfl)
    (case aDraw => k_is); (case lDraw => k_is); (case bDraw => kernel_rfl)
    (case aPick => k_is); (case lPick => k_is); (case bPick => kernel_rfl)
    (case aValue => k_is); (case lValue => k_is); (case bValue => kernel_rfl)
    (case aMade => k_is); (case lMade => k_is); (case bMade => kernel_rfl)
    (case aNamed => k_is); (case lNamed => k_is); (case bNamed => kernel_rfl)
    (case aFields => k_is); (case lFields => k_is); (case bFields => kernel_rfl)
    (case aClasses => k_is); (case lClasses => k_is); (case bClasses => kernel_rfl)
    (case aL => k_is); (case lL => k_is); (case bL => kernel_rfl)
    (case fr => kernel_rfl); (case gb => kernel_rfl); (case B => kernel_rfl)
