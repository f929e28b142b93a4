import PyProof.Rows.All
import Wide.All
import OpenK.AllK
import Wide.FinOn
import HandS.ForMost
import HandS.ExcInit
import HandS.Evl
import HandS.Wide
import KE.KExcIs
import HandS.ExcIs
import HandS.IsInst
import HandS.Defaults
import HandS.Lambda
import HandS.EndTab
import KE.KNest
import HandS.ExcOwn
import HandS.ExcValue
import HandS.Star
import HandS.SlotsOwn
import KE.KOpsOwn
import KE.KCallOwn
import KE.KOwnIter
import HandS.IterVal
import HandS.IterNext
import HandS.Walk
import HandS.DictComp
import PyProof.EqAt
import PyProof.EqKinds
import PyProof.TupleCall
import HandS.Base
import HandS.Call
import HandS.List
import HandS.Set
import HandS.Strs
import HandS.SetFor
import PyProof.SetRoads
import PyProof.StrLawsTight
import PyProof.StrLawsChain
import HandS.StrMore
import HandS.RaiseMore
import HandS.ListItems
import HandS.Text
import HandS.Style
import HandS.Small
import PyProof.SliceStr2
import PyProof.Rows.StrRev
import KE.KRevSl
import HandS.WordsExc
import HandS.ClsMeth
import HandS.FStr
import HandS.DictEq
import HandS.More
import HandS.Codes
import KE.IntTextText
import HandS.Gcd
import HandS.DictSub
import PySem.Challenge.RW_flagfree_k18_texts_of_prices_and_rates
set_option Elab.async false
set_option linter.all false
set_option maxRecDepth 100000
set_option maxHeartbeats 4000000
/-! An own exception class called with keywords too: type.__call__, the base's __new__, the own __init__ -/
namespace PySem
namespace KUx
open Builtin Builtin.ObjectAttr HandSPX
section
variable {M : Model} {A : Around} {E : Value → Shared → Prop} {hh : Heap} {gg : Array GenState} {dw : Drawn} {tt : Nat} {os : OsState}
variable {nm q : Str} {C N : Addr} {bs bm bmB : List Value} {hdct : Bool} {sn : List Str} {sub : List Value} {ab : Bool} {col : Option Bool} {dd : Option Addr} {k0 k1 k2 k3 k5 : Option Value} {B newId initId : String}
theorem kw_check_new (F : ExcBaseFacts B newId initId bmB) (hT : ∀ X : String, bm.contains (.type X) = bmB.contains (.type X)) {pos : List Value} {kw : List (Str × Value)}
    {Q : Unit → Shared → Prop} (hC : hh.get? C = some (excClassObj nm q C N bs bm hdct sn sub ab col dd k0 k1 k2 k3 k5 newId))
    (done : Q () ⟨hh, gg, dw, tt, os⟩) : wpAny M A (checkBuiltinCall newId ⟨.ref C :: pos, kw⟩) Q E ⟨hh, gg, dw, tt, os⟩ := by
  have inB : (Value.ref C :: bm).contains (.type B) = true := by
    rw [List.contains_cons, hT, F.hasB]
    exact Bool.or_true _
  have star := F.noStar
  simp only [checkBuiltinCall, F.newRow, F.newKind, F.newSplit]
  repeat (first
    | refine wpAny_loadPart_at hC ?_
    | (refine wpAny_isSubtype_exc hC ?_
       rw [inB])
    | refine wpAny_staticBase_exc hC ?_
    | refine wpAny_madeBy_exc hC ?_
    | simp only [if_false, Bool.false_eq_true, bne_self_eq_false]
    | wp_step)
  exact done
end
section
variable {prog : Program} {w : World} {A : Around} {E : Value → Shared → Prop} {R : Result → Shared → Prop} {hh : Heap} {gg : Array GenState} {dw : Drawn} {tt : Nat} {os : OsState}
variable {nm q : Str} {C N : Addr} {bs bm bmB : List Value} {hdct : Bool} {sn : List Str} {sub : List Value} {ab : Bool} {col : Option Bool} {dd : Option Addr} {k0 k1 k2 k3 k5 : Option Value} {B newId initId : String}
theorem kw_new (F : ExcBaseFacts B newId initId bmB) (hT : ∀ X : String, bm.contains (.type X) = bmB.contains (.type X)) {pos : List Value} {kw : List (Str × Value)}
    (hC : hh.get? C = some (excClassObj nm q C N bs bm hdct sn sub ab col dd k0 k1 k2 k3 k5 newId))
    (done : R (.ok (.ret (.ref (hh.objs.size + 1)))) ⟨(hh.push (W.kdv_tup pos)).push (excO C hh.objs.size), gg, dw, tt, os⟩)
    (small : pos.length ≤ sizeLine) : codeAny (model prog w) A (.builtin newId ⟨.ref C :: pos, kw⟩) R ⟨hh, gg, dw, tt, os⟩ := by
  have ends := F.ends
  have inB : (Value.ref C :: bm).contains (.type B) = true := by
    rw [List.contains_cons, hT, F.hasB]
    exact Bool.or_true _
  have noA : (Value.ref C :: bm).contains (.type "AttributeError") = false := by
    rw [List.contains_cons, hT, F.noAttr]
    rfl
  have noN : (Value.ref C :: bm).contains (.type "NameError") = false := by
    rw [List.contains_cons, hT, F.noName]
    rfl
  refine codeAny_builtinAt F.entry ?_
  unfold Builtin.«BaseException.__new__»
  refine wpAt_bind ?_
  show wpAt _ _ _ (stack >>= _) _ _ _
  refine wpAt_bind (wpAt_stack fun p below => wpAt_of_wpAny ?_)
  wp_walk
  refine wpAt_of_wpAny ?_
  rw [F.owner]
  repeat (first
    | with_reducible refine wpAny_madeHere_exc F.canon hC ?_
    | with_reducible refine wpAny_loadPart_at hC ?_
    | (with_reducible refine wpAny_isSubtype_exc hC ?_
       first | rw [inB] | rw [noA] | rw [noN])
    | wp_step)
  show R _ _
  rw [Heap.size_push]
  exact done

theorem kw_type_call (F : ExcBaseFacts B newId initId bmB) (hT : ∀ X : String, bm.contains (.type X) = bmB.contains (.type X)) {pos : List Value} {kw : List (Str × Value)} {fI : Addr}
    {Q : Fin → Shared → Prop} (hC : hh.get? C = some (excClassObj nm q C N bs bm hdct sn sub ab col dd k0 k1 k2 k3 k5 newId))
    (hi : W.Looks (model prog w) hh (typeLookup (.ref C) "__init__") (some (.ref fI)))
    (hb : ∀ self, W.Looks (model prog w) hh (bindSpecial (.ref fI) self) (.ref fI, [self])) (small : pos.length ≤ sizeLine)
    (run : codeAny (model prog w) A (.call (.ref fI) ⟨.ref (hh.objs.size + 1) :: pos, kw⟩)
      (fun r s' => match r with
        | .ok (.ret v) => v = .none ∧ Q (.done (.ret (.ref (hh.objs.size + 1)))) s'
        | .ok _ => False
        | .error e => E e s')
      ⟨(hh.push (W.kdv_tup pos)).push (excO C hh.objs.size), gg, dw, tt, os⟩) :
    wpAny (model prog w) A (Builtin.«type.__call__» ⟨.ref C :: pos, kw⟩) Q E ⟨hh, gg, dw, tt, os⟩ := by
  repeat (first
    | with_reducible refine wpAny_loadPart_at hC ?_
    | with_reducible refine wpAny_madeBy_exc hC ?_
    | wp_step)
  refine codeAny_call_builtin_code (Code.quiet_builtin _ F.quiet) (kw_check_new F hT hC ?_)
  refine kw_new F hT hC ?_ small
  show wpAny _ _ _ _ _ _
  have keep : ∀ b o, hh.get? b = some o → ((hh.push (W.kdv_tup pos)).push (excO C hh.objs.size)).get? b = some o := fun b o e =>
    Heap.get?_push_of_some _ (Heap.get?_push_of_some _ e)
  have hC1 := keep _ _ hC
  have here : ((hh.push (W.kdv_tup pos)).push (excO C hh.objs.size)).get? (hh.objs.size + 1) = some (excO C hh.objs.size) := by heap_get
  have inC : (Value.ref C :: bm).contains (.ref C) = true := by simp
  have i1 := hi.keeps keep
  have b1 := (hb (.ref (hh.objs.size + 1))).keeps keep
  unfold isInstance
  repeat (first
    | with_reducible refine wpAny_loadPart_at here ?_
    | (with_reducible refine wpAny_isSubtype_exc hC1 ?_
       rw [inC])
    | wp_step)
  show wpAny _ _ (typeLookup (.ref C) _) _ _ _
  refine i1.at ?_
  refine wpAny_holding (wpAny_bind (b1.at ?_))
  refine wpAny_bind (wpAny_call (codeAny_mono run fun r s' z => ?_))
  cases r with
  | error e => exact z
  | ok fl =>
    cases fl with
    | ret v =>
      obtain ⟨rfl, z⟩ := z
      first
        | exact wpAny_pure (wpAny_pure z)
        | (wp_walk
           exact z)
        | wp_walk
    | next => exact z.elim
    | brk => exact z.elim
    | cont => exact z.elim

/-- C(e, .., k = v, ..) of an own exception class with its own __init__ at fI -/
theorem kw_call (F : ExcBaseFacts B newId initId bmB) (hT : ∀ X : String, bm.contains (.type X) = bmB.contains (.type X)) {pos : List Value} {kw : List (Str × Value)} {fI : Addr}
    (hC : hh.get? C = some (excClassObj nm q C N bs bm hdct sn sub ab col dd k0 k1 k2 k3 k5 newId))
    (hi : W.Looks (model prog w) hh (typeLookup (.ref C) "__init__") (some (.ref fI)))
    (hb : ∀ self, W.Looks (model prog w) hh (bindSpecial (.ref fI) self) (.ref fI, [self])) (small : pos.length ≤ sizeLine)
    (run : codeAny (model prog w) (A.under (.builtin "type.__call__" ⟨.ref C :: pos, kw⟩)) (.call (.ref fI) ⟨.ref (hh.objs.size + 1) :: pos, kw⟩)
      (W.InitBack (hh.objs.size + 1) R) ⟨(hh.push (W.kdv_tup pos)).push (excO C hh.objs.size), gg, dw, tt, os⟩) :
    codeAny (model prog w) A (.call (.ref C) ⟨pos, kw⟩) R ⟨hh, gg, dw, tt, os⟩ := by
  have f1 := tc_lookup
  have f2 := tc_bind (.ref C)
  have hTy : (⟨hh, gg, dw, tt, os⟩ : Shared).TypeIs (.ref C) "type" := ⟨_, hC, rfl⟩
  refine codeAny_of_tree ?_
  show wpAny _ _ (callAny (.ref C) _) _ _ _
  repeat (any_goals (first
    | assumption
    | with_reducible refine wpAny_loadPart_at hC ?_
    | wp_step))
  refine ⟨rfl, ?_⟩
  refine codeAny_call_builtin_at (Code.quiet_builtin _ (by decide +kernel)) entry_typeCall (wpAny_check_type_call_sub hC (kw_type_call F hT hC hi hb small ?_))
  refine codeAny_mono run fun r s' z => ?_
  rcases r with e | (v | _ | _ | _) <;> exact z
end
end KUx
end PySem

set_option Elab.async false
set_option linter.all false
set_option maxRecDepth 100000
set_option maxHeartbeats 4000000
/-! Own rules over the hand layer: defs that know that no repr is under way, own errors as values, repr of data -/
namespace KU
open PySem PySem.Spec PyProof.Rows L2

/-! ### a def entered where no repr is under way -/
structure FnG (P : Program) (w : World) (K : PySem.W.Frag) (mg : Str → Option Value) (base : Heap) (CX : CXT) (k : Nat) (f : Addr) (fd : FuncData) (ps : List Str) (sp : Sp) : Prop where
  many : ∀ vs H Q E, sp vs H Q E → vs.length = ps.length
  goes : ∀ (A : Around) (out : List Env) (s : Shared) (H : Hp) (args : Args) (us : List Value) (vs : List V) (Q : VK) (E : XK), A.guards = some [] → Room k A →
    Env0 P w K mg base A out s H → BindsTo s fd args (ps.zip us) → Vals vs us → sp vs H Q E → codeAny (model P w) A (.call (.ref f) args) (CR CX out P w H s Q E) s
theorem FnG.of {P : Program} {w : World} {K : PySem.W.Frag} {mg : Str → Option Value} {base : Heap} {CX : CXT} {k : Nat} {f : Addr} {fd : FuncData} {ps : List Str} {sp : Sp}
    (F : FnOk P w K mg base CX k f fd ps sp) : FnG P w K mg base CX k f fd ps sp := ⟨F.len, fun A out s H args us vs Q E _ => F.run A out s H args us vs Q E⟩

/-- a def of the text by its body, where no repr is under way -/
theorem FnG.body {P : Program} {w : World} {K : PySem.W.Frag} {mg : Str → Option Value} {base : Heap} {x qual : Str} {st : Stmt} {f : Addr} {fd : FuncData} {N ps : List Str} {k : Nat} {sp : Sp}
    (F : Fun K x qual st f fd) (S : FnScope N ps (defScope st)) (many : ∀ vs H Q E, sp vs H Q E → vs.length = ps.length)
    (walk : ∀ (cdv : Value) (A : Around) (out : List Env) (s : Shared) (H : Hp) (vs : List V) (Q : VK) (E : XK), A.guards = some [] → Room k (A.deeper (envOfC qual (defScope st) s.heap.objs.size f cdv)) → sp vs H Q E →
      ∃ t, PSs (cxOf CX0 P w K mg base N qual (defScope st) f cdv A out s H E).nox (defBody st) t ∧ t { nx := fun _ H' => Q .non H', rt := Q } (start N vs) H) :
    FnG P w K mg base CX0 (k + 1) f fd ps sp := by
  refine ⟨many, fun A out s H args us vs Q E hg hr e0 hb r hsp => ?_⟩
  obtain ⟨oc, od, kV, doc, pm, an, cdv, ct, osl, rfl, lk, hcd⟩ := F.ex
  let sp1 : Sp := fun vs1 H1 Q1 E1 => vs1 = vs ∧ H1 = H ∧ Q1 = Q ∧ E1 = E
  have hl := many _ _ _ _ hsp
  have KX : K.In s.heap := e0.mod.kin.keeps fun b o e => (e0.bs b o e).1
  have lim : s.heap.NoLimit := e0.mod.nolimit.keeps fun b o e => (e0.bs b o e).1
  have kinds : ∀ y ∈ ps.zip us, (defScope st).names.lookup y.1 = some .local ∨ ((defScope st).names.lookup y.1 = some .cell ∧ ((cellsFrom (s.heap.objs.size + 1) (defScope st).names []).lookup y.1).isSome = true) := by
    intro ⟨n, v⟩ hy
    rcases S.par n (List.of_mem_zip hy).1 with q | q
    · exact .inl q
    · exact .inr ⟨q, PySem.W.cellsFrom_some _ _ _ (.inl q)⟩
  refine codeAny_call_function hr.depth (KX _ _ lk) rfl S.co S.gen rfl (PySem.W.codeRec_of KX hcd) (hb _ _ _ _ ?_)
  refine wpAny_newFunctionEnv_cells S.kind kinds fun env he s1 x => ?_
  subst he
  refine ⟨lim.keeps x.toInCall.keep, codeAny_func ?_⟩
  obtain ⟨t, ht, hq⟩ := walk cdv A out s H vs Q E hg (hr.deeper _) hsp
  have I : Inv (cxOf CX0 P w K mg base N qual (defScope st) f cdv A out s H E) [] (start N vs) H s1 := inv_start S hr.hd e0 hl r x
  refine wpAny_mono (ht.nox.run [] s1 (start N vs) H _ I hq) (fun fl s' hs => ?_) fun e s' hs => hs
  have last : ∀ {σ' : L2.St} {H' : Hp} {v : V} {u : Value}, Inv (cxOf CX0 P w K mg base N qual (defScope st) f cdv A out s H E) [] σ' H' s' → RelV v u → Q v H' → CE out P w H s Q u s' := by
    intro σ' H' v u J rv q
    exact ⟨v, H', J.os, J.bare, J.base, J.hok, rv, q⟩
  cases fl with
  | next =>
    obtain ⟨σ', H', J, q⟩ := hs
    exact last (v := V.non) (u := Value.none) J rfl q
  | ret u =>
    obtain ⟨v, σ', H', J, rv, q⟩ := hs
    exact last J rv q
  | brk =>
    obtain ⟨_, _, _, q⟩ := hs
    exact q.elim
  | cont =>
    obtain ⟨_, _, _, q⟩ := hs
    exact q.elim
/-! ### own errors as values -/
/-- an own error at e: of the class at C, its fields fs (none of them: it has no dict) -/
def ErrAt (H : Hp) (e C : Addr) (fs : List (Str × V)) : Prop := (∃ d, H e = some (exo e C (some d)) ∧ H d = some (exd d fs)) ∨ (fs = [] ∧ H e = some (exo e C none))
theorem ErrAt.mono {H H' : Hp} {e C : Addr} {fs : List (Str × V)} (x : Evl.Ex H H') (h : ErrAt H e C fs) : ErrAt H' e C fs := by
  rcases h with ⟨d, h1, h2⟩ | ⟨h1, h2⟩
  · exact .inl ⟨d, x _ _ h1, x _ _ h2⟩
  · exact .inr ⟨h1, x _ _ h2⟩
section
variable {X : Cx} {C fI : Addr} {k : Nat} {fd : FuncData} {ps : List Str} {sp : Sp}
/-- the class is called: positional values us, keywords kw, bound to all -/
theorem run_err {pins : List (Addr × Obj)} {σ : L2.St} {H : Hp} {s : Shared} {Q : VK} {us all : List Value} {kw : List (Str × Value)} {vs : List V}
    (T : OexC X.K C) (iC : PySem.W.findIn X.K (.ref C) "__init__" = some (some (.ref fI))) (tI : PySem.W.typeIn X.K (.ref fI) = some (.type "function"))
    (F1 : FnOk X.prog X.w X.K X.mg X.base CX0 k fI fd ps sp) (hr : Room (k + 1) X.A) (I : Inv X pins σ H s) (r : Vals vs all) (small : us.length ≤ 1000)
    (hb : ∀ (s' : Shared) (a : Addr), X.K.In s'.heap → BindsTo s' fd ⟨.ref a :: us, kw⟩ (ps.zip (.ref a :: all)))
    (hq : ∀ a, H a = none → sp (.ref a :: vs) (upd H a (exo a C none)) (fun v H2 => v = .non ∧ Q (.ref a) H2) fun _ _ _ => False) :
    wpAny (model X.prog X.w) X.A (call (.ref C) us kw) (EP X pins σ Q) X.xe s := by
  obtain ⟨nm, q, N, bs, bm, sn, sub, ab, col, dd, k0, k1, k2, k3, k5, hC, hbm⟩ := T.cls
  obtain ⟨hp, g, dr, tk, os⟩ := s
  have above : hp.objs.size ≤ hp.objs.size + 1 := Nat.le_succ _
  have free := I.hok.fresh above
  have want := hq (hp.objs.size + 1) free
  have kp : ∀ b o, hp.get? b = some o → ((hp.push (PySem.W.kdv_tup us)).push (PySem.HandSPX.excO C hp.objs.size)).get? b = some o := fun b o e =>
    Heap.get?_push_of_some _ (Heap.get?_push_of_some _ e)
  have here : ((hp.push (PySem.W.kdv_tup us)).push (PySem.HandSPX.excO C hp.objs.size)).get? (hp.objs.size + 1) = some (PySem.HandSPX.excO C hp.objs.size) := by heap_get
  have I2 : Inv X pins σ (upd H (hp.objs.size + 1) (exo (hp.objs.size + 1) C none)) ⟨(hp.push (PySem.W.kdv_tup us)).push (PySem.HandSPX.excO C hp.objs.size), g, dr, tk, os⟩ :=
    I.laid (t' := tk) (a := hp.objs.size + 1) (o := exo (hp.objs.size + 1) C none) (h' := (hp.push (PySem.W.kdv_tup us)).push (PySem.HandSPX.excO C hp.objs.size)) kp above (exo_ok here)
  have sz : us.length ≤ sizeLine := by
    rw [sizeLine_eq]
    omega
  refine wpAny_call (PySem.KUx.kw_call PySem.F.excBase_ValueError (fun Y => PySem.HandSPX.refsVE_contains Y bm hbm) (I.kIn _ _ hC) (PySem.W.looks_findIn I.kIn iC)
    (fun self => PySem.W.bind_fn I.kIn self tI) sz ?_)
  refine codeAny_mono (F1.run _ X.stack _ _ ⟨.ref (hp.objs.size + 1) :: us, kw⟩ (.ref (hp.objs.size + 1) :: all) (.ref (hp.objs.size + 1) :: vs) _ (fun _ _ _ => False)
    (hr.make C us kw) (I2.env0.make C us kw) (hb _ _ I2.kIn) (.cons rfl r) want) fun res s' back => ?_
  cases res with
  | error er => exact back.elim
  | ok fl =>
    cases fl with
    | ret u =>
      obtain ⟨v, H', I3, rv, ev, q3⟩ := I2.after back
      subst ev
      exact ⟨rv, ⟨V.ref (hp.objs.size + 1), H', I3, rfl, q3⟩⟩
    | next => exact back.elim
    | brk => exact back.elim
    | cont => exact back.elim
variable {x : Str} {p pos : Pos} {e : Expr} {es : List Expr} {kws : List Keyword} {ta tk : TA} {ks : List Str} {g : List Value → List Value → List Value} {gV : List V → List V → List V}
/-- C(e, ..) as a value -/
def tErr (C : Addr) (sp : Sp) (ta : TA) : TE := fun σ H Q => ta σ H fun vs H1 => vs.length ≤ 1000 ∧ ∀ a, H1 a = none →
  sp (.ref a :: vs) (upd H1 a (exo a C none)) (fun v H2 => v = .non ∧ Q (.ref a) H2) fun _ _ _ => False
theorem pe_err (T : OexC X.K C) (iC : PySem.W.findIn X.K (.ref C) "__init__" = some (some (.ref fI))) (tI : PySem.W.typeIn X.K (.ref fI) = some (.type "function"))
    (F1 : FnOk X.prog X.w X.K X.mg X.base CX0 k fI fd ps sp) (hr : Room (k + 1) X.A) (hb : Binds X.K fd ps []) (gC : X.mg x = some (.ref C)) (ha : PA X (e :: es) ta)
    (hg : Gl X x := by rfl) (hdb : (x == ("__debug__" : Str)) = false := by decide) (he : starEach (e :: es) X.env = (false, eval e X.env) :: starEach es X.env := by rfl)
    (hpl : (backTo pos (starEach es X.env)).any (·.1) = false := by rfl) : PE X (.Call (.Name x p) (e :: es) [] pos) (tErr C sp ta) := by
  refine ⟨fun pins s σ H Q I h => ?_⟩
  refine wpAny_Call_Name_kw (ld_glob I hg gC ?_ hdb)
  refine PySem.W.callWith_K (h₀ := X.base) I.ok.mod.kin T.kC (thn (ha.run pos pins s σ H _ I h) fun us s1 ⟨vs, H1, I1, r1, hz, q1⟩ => ⟨I1.kIn, ?_⟩) he hpl
  have hl := F1.len _ _ _ _ (q1 (s1.heap.objs.size + 1) (I1.hok.fresh (Nat.le_succ _)))
  refine run_err (us := us) (all := us) (kw := []) (vs := vs) T iC tI F1 hr I1 r1 (by rw [← r1.length]; exact hz) (fun s' a kin => ?_) q1
  have z := hb s' (.ref a :: us) kin (by
    rw [List.append_nil, ← hl, List.length_cons, List.length_cons, r1.length])
  rw [List.append_nil] at z
  exact z
/-- C(k = v, ..) as a value -/
def tErrK (C : Addr) (n : Nat) (sp : Sp) (gV : List V → List V) (tk : TA) : TE := fun σ H Q => tk σ H fun zs H1 => zs.length = n ∧ zs.length ≤ 1000 ∧ ∀ a, H1 a = none →
  sp (.ref a :: gV zs) (upd H1 a (exo a C none)) (fun v H2 => v = .non ∧ Q (.ref a) H2) fun _ _ _ => False
theorem pe_errK {gv : List V → List V} {gu : List Value → List Value} (T : OexC X.K C) (iC : PySem.W.findIn X.K (.ref C) "__init__" = some (some (.ref fI)))
    (tI : PySem.W.typeIn X.K (.ref fI) = some (.type "function")) (F1 : FnOk X.prog X.w X.K X.mg X.base CX0 k fI fd ps sp) (hr : Room (k + 1) X.A)
    (hb : ∀ (s' : Shared) (a : Addr) (ws : List Value), X.K.In s'.heap → ws.length = ks.length → BindsTo s' fd ⟨[.ref a], ks.zip ws⟩ (ps.zip (.ref a :: gu ws)))
    (rel : ∀ {zs : List V} {ws : List Value}, Vals zs ws → zs.length = ks.length → Vals (gv zs) (gu ws)) (gC : X.mg x = some (.ref C)) (hk : PK X kws tk)
    (hall : (backToKw pos (keywordEach kws X.env)).all (·.1.isSome) = true := by rfl) (hks : (backToKw pos (keywordEach kws X.env)).filterMap (·.1) = ks := by rfl)
    (hg : Gl X x := by rfl) (hdb : (x == ("__debug__" : Str)) = false := by decide)
    (hpl : ((backTo pos (starEach [] X.env)).any (·.1) || (backToKw pos (keywordEach kws X.env)).any (·.1.isNone)) = false := by rfl) :
    PE X (.Call (.Name x p) [] kws pos) (tErrK C ks.length sp gv tk) := by
  refine ⟨fun pins s σ H Q I h => ?_⟩
  refine wpAny_Call_Name_kw (ld_glob I hg gC ?_ hdb)
  refine PySem.W.callWith_KW0 (h₀ := X.base) I.ok.mod.kin T.kC hall (thn (hk.run pos pins s σ H _ I h) fun ws s1 ⟨zs, H1, I1, r1, hn, hz, q1⟩ => ⟨I1.kIn, ?_⟩) hpl
  rw [hks]
  show wpAny _ _ (call (.ref C) [] (ks.zip ws)) _ _ _
  exact run_err (us := []) (all := gu ws) (kw := ks.zip ws) (vs := gv zs) T iC tI F1 hr I1 (rel r1 hn) (Nat.zero_le _) (fun s' a kin => hb s' a ws kin (by rw [← r1.length]; exact hn)) q1
end

/-! ### what __init__ of such a class promises -/
def spI1 (K : PySem.W.Frag) (f : Str) : Sp := fun vs H Q _ => ∃ (a C : Addr) (y : V), vs = [.ref a, y] ∧ OexC K C ∧ PySem.W.findIn K (.ref C) f = some none ∧ H a = some (exo a C none) ∧
  ∀ dx, H dx = none → dx ≠ a → Q .non (upd (upd H dx (exd dx [(f, y)])) a (exo a C (some dx)))
def spI2 (K : PySem.W.Frag) (f g : Str) : Sp := fun vs H Q _ => ∃ (a C : Addr) (y z : V), vs = [.ref a, y, z] ∧ OexC K C ∧ PySem.W.findIn K (.ref C) f = some none ∧ PySem.W.findIn K (.ref C) g = some none ∧
  H a = some (exo a C none) ∧ ∀ dx H', H dx = none → dx ≠ a → H' a = some (exo a C (some dx)) → H' dx = some (exd dx [(g, z), (f, y)]) → (∀ b, b ≠ a → b ≠ dx → H' b = H b) → Q .non H'

section
variable {X : Cx} {e : Expr} {te : TE} {f : Str} {pos : Pos}
/-- e.f of an own error -/
def tErrF (K : PySem.W.Frag) (f : Str) (te : TE) : TE := fun σ H Q => te σ H fun x H1 => ∃ (a C : Addr) (fs : List (Str × V)) (v : V), x = .ref a ∧ ExcC K C ∧ PySem.W.findIn K (.ref C) f = some none ∧
  ErrAt H1 a C fs ∧ fs.lookup f = some v ∧ Q v H1
theorem pe_errF (he : PE X e te) (hb : attributeBase e f X.env (eval e X.env) = eval e X.env := by rfl) : PE X (.Attribute e f pos) (tErrF X.K f te) := by
  refine ⟨fun pins s σ H Q I h => ?_⟩
  refine attr_of hb (thn (he.run pins s σ H _ I h) fun u s1 ⟨x, H1, I1, rx, a, C, fs, v, ex, T, no, at_, lk, q⟩ => ?_)
  subst ex
  obtain rfl : u = Value.ref a := rx
  rcases at_ with ⟨d, h1, h2⟩ | ⟨h1, _⟩
  · obtain ⟨t1, ho⟩ := exo_at I1.hok h1
    obtain ⟨mA, hns, rel⟩ := exd_at I1.hok h2
    obtain ⟨od, hod, hlk⟩ := lookIn_ns hns
    obtain ⟨y, hy, ry⟩ := RelO.some_of (v := v) (o := mA f) (by rw [← lk]; exact rel f)
    have J : PySem.W.InstAt s1.heap a { cls := .ref C, dict := some d, data := .fields #[.ref t1, .none, .none, .none, .bool false, .none] } C (some od) := ⟨ho, rfl, rfl, hod⟩
    exact HandSPX.exc_get I1.kIn J T.hg T.hk T.hs (PySem.W.findObj_own T.hd no rfl (by rw [hlk, hy])) (handed_of ry) ⟨v, H1, I1.tok _, ry, q⟩
  · subst h1
    cases lk
/-- isinstance(e, c), e an own error -/
def rIsErr (K : PySem.W.Frag) : List V → Hp → VK → Prop := fun xs H Q => ∃ (a C : Addr) (fs : List (Str × V)) (c : V) (u : Value) (b : Bool), xs = [.ref a, c] ∧ ClsV c u ∧ ExcC K C ∧ ErrAt H a C fs ∧
  PySem.W.kitOne K (.ref C) u = some b ∧ Q (.bl b) H
theorem call_isErr : CallR X (.builtin "isinstance") (rIsErr X.K) := by
  intro pins s σ H xs us Q I r h
  obtain ⟨a, C, fs, c, w, b, rfl, k, T, at_, e, q⟩ := h
  obtain ⟨u1, u2, rfl, r1, r2⟩ := vals2 r
  obtain rfl : u1 = Value.ref a := r1
  have e2 := k.eq r2
  subst e2
  have hc : (PySem.W.clsIn X.K C).isSome = true := by
    have z := T.hd
    unfold PySem.W.hasDictIn at z
    cases q : PySem.W.clsIn X.K C with
    | none =>
      rw [q] at z
      cases z
    | some cd => rfl
  have fin : ∀ tk, EP X pins σ Q (.bool b) { s with toks := tk } := fun tk => ⟨.bl b, H, I.tok tk, rfl, q⟩
  rcases at_ with ⟨d, h1, h2⟩ | ⟨_, h1⟩
  · obtain ⟨t1, ho⟩ := exo_at I.hok h1
    obtain ⟨mA, hns, rel⟩ := exd_at I.hok h2
    obtain ⟨od, hod, hlk⟩ := lookIn_ns hns
    have J : PySem.W.InstAt s.heap a { cls := .ref C, dict := some d, data := .fields #[.ref t1, .none, .none, .none, .bool false, .none] } C (some od) := ⟨ho, rfl, rfl, hod⟩
    exact PySem.W.kia_one (PySem.W.kitx_exc hc T.hg T.hk T.hs T.ha T.hn T.ht T.hm) I.kIn J e (fun z => nomatch z) fin
  · obtain ⟨t1, ho⟩ := exo_at I.hok h1
    have J : PySem.W.InstAt s.heap a { cls := .ref C, dict := none, data := .fields #[.ref t1, .none, .none, .none, .bool false, .none] } C none := ⟨ho, rfl, rfl, trivial⟩
    exact PySem.W.kia_one (PySem.W.kitx_exc hc T.hg T.hk T.hs T.ha T.hn T.ht T.hm) I.kIn J e (fun z => nomatch z) fin
end

/-! ### repr of data -/
mutual
inductive RD (K : PySem.W.Frag) (H : Hp) : V → PyData → Prop where
  | non : RD K H .non .none
  | bl (b : Bool) : RD K H (.bl b) (.bool b)
  | int (i : Int) : RD K H (.int i) (.int i)
  | str (x : Str) : RD K H (.str x) (.str x)
  | tup {a : Addr} {xs : List V} {ds : List PyData} : SqT K H a xs → RDs K H xs ds → RD K H (.ref a) (.tuple ds)
  | lst {a : Addr} {xs : List V} {ds : List PyData} : SqL K H a xs → a ≠ sysModules → RDs K H xs ds → RD K H (.ref a) (.list ds)
  | dic {a : Addr} : H a = some (.dK []) → RD K H (.ref a) (.dict [])
inductive RDs (K : PySem.W.Frag) (H : Hp) : List V → List PyData → Prop where
  | nil : RDs K H [] []
  | cons {v : V} {vs : List V} {d : PyData} {ds : List PyData} : RD K H v d → RDs K H vs ds → RDs K H (v :: vs) (d :: ds)
end
section
variable {X : Cx} {pins : List (Addr × Obj)} {σ : L2.St} {H : Hp} {s : Shared}
mutual
theorem RD.reads (I : Inv X pins σ H s) : ∀ (d : PyData) (v : V) (u : Value), RD X.K H v d → RelV v u → ∃ as, Reads s.heap u d as ∧ sysModules ∉ as
  | .none, _, _, h, r => by
    cases h
    cases r
    exact ⟨_, Reads.none, List.not_mem_nil⟩
  | .bool b, _, _, h, r => by
    cases h
    cases r
    exact ⟨_, Reads.bool b, List.not_mem_nil⟩
  | .int i, _, _, h, r => by
    cases h
    obtain ⟨t, rfl⟩ := r
    exact ⟨_, Reads.int i t, List.not_mem_nil⟩
  | .str x, _, _, h, r => by
    cases h
    obtain ⟨t, rfl⟩ := r
    exact ⟨_, Reads.str x t, List.not_mem_nil⟩
  | .list ds, _, _, h, r => by
    cases h with
    | lst hs hn ha =>
      cases r
      obtain ⟨its, rv, ⟨o, n, ho, hc, _, hd⟩, _⟩ := I.list hs
      obtain ⟨as, hr, no⟩ := RD.readsAll I ds _ its ha rv
      refine ⟨_, Reads.list ho hc hd hr, fun z => ?_⟩
      rcases List.mem_cons.mp z with z | z
      · exact hn z.symm
      · exact no z
  | .tuple ds, _, _, h, r => by
    cases h with
    | tup hs ha =>
      cases r
      obtain ⟨its, rv, ⟨o, ho, hc, n, hd⟩, _⟩ := I.tuple hs
      obtain ⟨as, hr, no⟩ := RD.readsAll I ds _ its ha rv
      exact ⟨_, Reads.tuple ho hc hd hr, no⟩
  | .dict kvs, _, _, h, r => by
    cases h with
    | dic hs =>
      cases r
      obtain ⟨_, hn, vs, rel, o, es, ep, ho, hx, hd, _, pr, _⟩ := dk_of I.hok hs
      have e0 : vs = [] := by
        cases rel
        rfl
      subst e0
      have e1 : es.toList = [] := by
        cases h : es.toList with
        | nil => rfl
        | cons a b =>
          rw [h] at pr
          cases pr
      refine ⟨_, Reads.dict (kvs := []) (as := []) (bs := []) ho hx.1 hd (by rw [e1]; exact ReadsAll.nil) (by rw [e1]; exact ReadsAll.nil), fun z => ?_⟩
      have z' := List.mem_singleton.mp (by simpa using z)
      rw [← z'] at hn
      exact absurd hn (by decide)
theorem RD.readsAll (I : Inv X pins σ H s) : ∀ (ds : List PyData) (vs : List V) (us : List Value), RDs X.K H vs ds → Vals vs us → ∃ as, ReadsAll s.heap us ds as ∧ sysModules ∉ as
  | [], _, _, h, r => by
    cases h
    cases r
    exact ⟨_, ReadsAll.nil, List.not_mem_nil⟩
  | d :: ds, _, _, h, r => by
    cases h with
    | cons h1 h2 =>
      cases r with
      | cons r1 r2 =>
        obtain ⟨as, q1, n1⟩ := RD.reads I d _ _ h1 r1
        obtain ⟨bs, q2, n2⟩ := RD.readsAll I ds _ _ h2 r2
        refine ⟨_, ReadsAll.cons q1 q2, fun z => ?_⟩
        rcases List.mem_append.mp z with z | z
        · exact n1 z
        · exact n2 z
end
end
section
variable {X : Cx}
/-- repr of a list -/
def rRepr (K : PySem.W.Frag) : List V → Hp → VK → Prop := fun xs H Q => ∃ (a : Addr) (d : PyData), xs = [.ref a] ∧ RD K H (.ref a) d ∧ d.showable = true ∧ d.depth ≤ 60 ∧ d.shown.length ≤ 100000 ∧ Q (.str d.shown) H
theorem call_repr (hg : X.A.guards = some []) (hu : X.A.units + 64 < cLine) : CallR X (.builtin "repr") (rRepr X.K) := by
  intro pins s σ H xs us Q I r h
  obtain ⟨a, d, rfl, rd, sh, dp, sz, q⟩ := h
  obtain ⟨u, rfl, ru⟩ := vals1 r
  obtain ⟨as, hr, no⟩ := RD.reads I d _ _ rd ru
  obtain rfl : u = Value.ref a := ru
  exact repr_of_reads' hr sh (fun _ => no) hg (by omega) (fun _ _ e => e) (fun h' u tk kp => ⟨.str d.shown, H, I.kept kp, ⟨_, rfl⟩, q⟩) (Nat.le_trans sz (by decide))
/-- a list's display, new above the startup's objects -/
def tLstB (t : TA) : TE := fun σ H Q => t σ H fun xs H1 => xs.length ≤ sizeLine ∧ ∀ p, H1 p = none → p ≠ sysModules → Q (.ref p) (upd H1 p (.lst xs))
theorem pe_lstB {es : List Expr} {t : TA} {pos : Pos} (h : PA X es t) : PE X (.List es pos) (tLstB t) := by
  refine ⟨fun pins s σ H Q I hq => ?_⟩
  refine wpAny_List_spliced (thn (h.run pos pins s σ H _ I hq) fun us s1 ⟨xs, H1, I1, r, z, q⟩ => ⟨?_, ?_⟩)
  · rw [← r.length]
    exact z
  have free : H1 s1.heap.objs.size = none := I1.hok.fresh (Nat.le_refl _)
  refine ⟨.ref s1.heap.objs.size, upd H1 s1.heap.objs.size (.lst xs), ?_, rfl, q _ free (Nat.ne_of_gt I1.big)⟩
  exact I1.laid (t' := s1.toks) (fun b u e => Heap.get?_push_of_some _ e) (Nat.le_refl _) ⟨z, us, 0, r, Heap.get?_push_size _ rfl⟩
end
end KU

set_option Elab.async false
set_option linter.all false
set_option maxRecDepth 100000
set_option maxHeartbeats 4000000
/-! The end of a law's row, the law's def being known where no repr is under way -/
namespace KU
open PySem PySem.Spec PyProof.Rows L2

theorem hid_ns {h : Heap} {H : Hp} {b : Addr} {m : Str → Option Value} (no : ∀ o es ep, h.get? b = some o → o.data = .dict es ep → H b = none) (n : h.Ns b m) : (hidT h H).Ns b m := by
  obtain ⟨o, es, ep, e, d, r⟩ := n
  exact ⟨o, es, ep, hidT_get e (no o es ep e d), d, r⟩

theorem call_law {P : Program} {w : World} {K : PySem.W.Frag} {mg mb : Str → Option Value} {k : Nat} {fa a : Addr} {fd : FuncData} {x : Str} {sp : Sp} {s1 : Shared} {vs : List Value} {ns : List Int}
    (KX : K.In s1.heap) (hns : s1.heap.Ns mainGlobals mg) (hb : s1.heap.Ns builtinsNs mb) (hbb : ∀ x : Str, x ≠ "__name__" → mb x = bootBuiltins x) (hlim : s1.heap.NoLimit) (hg : s1.gens = #[])
    (ha : s1.heap.get? a = some { cls := .type "list", data := .seq vs.toArray }) (hi : IntsAre vs ns) (hl : ns.length ≤ sizeLine) (hr : Room k callerA)
    (F : ∀ base : Heap, K.In base → base.Ns mainGlobals mg → FnG P w K mg base CX0 k fa fd [x] sp) (hbind : ∀ (s : Shared) (u : Value), BindsTo s fd ⟨[u], []⟩ [(x, u)])
    (hsp : ∀ H : Hp, Only H → SqL K H a (ns.map V.int) → sp [.ref a] H (fun v _ => v = .bl true) fun _ _ _ => False) :
    codeAny (model P w) callerA (.call (.ref fa) ⟨[.ref a], []⟩)
      (fun r s' => r = .ok (.ret (.bool true)) ∧ OldK s1.heap s'.heap ∧ s'.os = s1.os ∧ AllBare s'.gens) s1 := by
  have rv := vals_ints hi
  have lenV := hi.length
  have main : ∀ H : Hp, Only H → SqL K H a (ns.map V.int) → HOk P w H s1.heap → (∀ b, H b ≠ none → b = a) → (H a ≠ none → K.lookup a = none) →
      codeAny (model P w) callerA (.call (.ref fa) ⟨[.ref a], []⟩)
        (fun r s' => r = .ok (.ret (.bool true)) ∧ OldK s1.heap s'.heap ∧ s'.os = s1.os ∧ AllBare s'.gens) s1 := by
    intro H only seq ok just hK
    have atA : ∀ {b u}, H b = some u → b = a := fun {b u} q => just b (by rw [q]; simp)
    have noD : ∀ b o es ep, s1.heap.get? b = some o → o.data = .dict es ep → H b = none := by
      intro b o es ep e d
      cases q : H b with
      | none => rfl
      | some u =>
        rw [atA q, ha] at e
        cases e
        have d' : Data.seq vs.toArray _ = Data.dict es ep := d
        cases d'
    have kin : K.In (hidT s1.heap H) := by
      intro b o e
      refine hidT_get (KX b o e) ?_
      cases q : H b with
      | none => rfl
      | some u =>
        have eb := atA q
        subst eb
        rw [hK (by rw [q]; simp)] at e
        cases e
    have lim : (hidT s1.heap H).NoLimit := by
      obtain ⟨mc, h1, h2⟩ := hlim
      exact ⟨mc, hid_ns (noD _) h1, h2⟩
    have md : Mod K mg (hidT s1.heap H) := ⟨kin, hid_ns (noD _) hns, ⟨mb, hid_ns (noD _) hb, hbb⟩, lim⟩
    have e0 : Env0 P w K mg (hidT s1.heap H) callerA [] s1 H :=
      ⟨rfl, md, fun b o e => of_hidT e, Nat.le_of_eq (hidT_size _ _), trivial, fun b hb => absurd hb List.not_mem_nil, ok, .of_eq hg⟩
    have run := (F _ kin (hid_ns (noD _) hns)).goes callerA [] s1 H ⟨[.ref a], []⟩ [.ref a] [.ref a] _ _ rfl hr e0 (hbind s1 (.ref a)) (.cons rfl .nil) (hsp H only seq)
    refine codeAny_mono run fun r s' h => ?_
    cases r with
    | error e => exact h.elim
    | ok fl =>
      cases fl with
      | next => exact h.elim
      | brk => exact h.elim
      | cont => exact h.elim
      | ret u =>
        obtain ⟨v, H', os, bare, un, ok', r', q⟩ := h
        have q' : v = .bl true := q
        subst q'
        obtain rfl : u = Value.bool true := r'
        refine ⟨rfl, OldK.of_keep fun b o e => ?_, os, bare⟩
        cases q : H b with
        | none => exact un.keep b o e q List.not_mem_nil List.not_mem_nil
        | some u =>
          rcases only b with z | ⟨ob, xs, z⟩
          · rw [q] at z
            cases z
          · obtain ⟨e1, _⟩ := ok b _ z
            obtain ⟨e2, _⟩ := ok' b _ (un.frzs b ob _ z)
            rw [e] at e1
            cases e1
            exact e2
  cases hk : K.lookup a with
  | some o =>
    have e := KX a o hk
    rw [ha] at e
    cases e
    refine main (fun _ => none) (fun _ => .inl rfl) (.inr ⟨_, vs.toArray, _, hk, rfl, rfl, rfl, ?_, ?_⟩) (fun b u z => nomatch z) (fun b z => absurd rfl z) fun z => absurd rfl z
    · rw [List.size_toArray, lenV]
      exact hl
    · simpa using rv
  | none =>
    let H1 : Hp := fun b => if b = a then some (.frz { cls := .type "list", data := .seq vs.toArray } (.lst (ns.map V.int))) else none
    have at_ : H1 a = some (.frz { cls := .type "list", data := .seq vs.toArray } (.lst (ns.map V.int))) := if_pos rfl
    have off : ∀ b, b ≠ a → H1 b = none := fun b hb => if_neg hb
    refine main H1 (fun b => ?_) (.inl (.inr ⟨_, at_⟩)) (fun b u z => ?_) (fun b z => ?_) fun _ => hk
    · by_cases hb : b = a
      · subst hb
        exact .inr ⟨_, _, at_⟩
      · exact .inl (off b hb)
    · by_cases hb : b = a
      · subst hb
        rw [at_] at z
        cases z
        refine ⟨ha, ?_, vs, _, rv, ha⟩
        rw [List.length_map]
        exact hl
      · rw [off b hb] at z
        cases z
    · by_cases hb : b = a
      · exact hb
      · exact absurd (off b hb) z

/-- the goal that the head leaves, from the law's promise -/
theorem end_of {l : PySem.W.OpenLaw} {n k : Nat} {q : Program} {loose : List Str} {XP : (Str → Option Value) → Heap → Prop} {YP : World → Heap → Prop} {d : DefRec} {K : Params → PySem.W.Frag} {sp : PySem.W.Frag → Sp} {x : Str}
    (hn : l.most = some n) (hn2 : n ≤ sizeLine) (hdf : d.params.defaults = []) (hr : Room k callerA) (hY : ∀ (w : World) (h : Heap), YP w h → (K w.params).In h)
    (F : ∀ (w : World) (mg : Str → Option Value) (fa : Addr) (h : Heap), (K w.params).In h → h.Ns mainGlobals mg → mg d.name = some (.ref fa) →
      ∃ fd : FuncData, (∀ (s : Shared) (u : Value), BindsTo s fd ⟨[u], []⟩ [(x, u)]) ∧
        ∀ base : Heap, (K w.params).In base → base.Ns mainGlobals mg → FnG l.prog w (K w.params) mg base CX0 k fa fd [x] (sp (K w.params)))
    (hsp : ∀ (K : PySem.W.Frag) (H : Hp) (a : Addr) (ns : List Int), ns.length ≤ n → Only H → SqL K H a (ns.map V.int) → sp K [.ref a] H (fun v _ => v = .bl true) fun _ _ _ => False) :
    PySem.W.WalkO q loose XP YP l.row.toRowW d [] (fun f vs => PySem.call f vs) := by
  refine Att.attach_call hn hdf fun w s₀ s₁ mg mb fa o pm cd doc a vs ns G Y ho hd hcd hmg hobj hints hlen hg => ?_
  have kin := hY w _ Y
  obtain ⟨fd, hb, hF⟩ := F w mg fa _ kin G.T.g hmg
  exact call_law kin G.T.g G.T.b G.T.builtins G.T.nolimit hg hobj hints (Nat.le_trans hlen hn2) hr hF hb fun H hO hS => hsp _ H a ns hlen hO hS
end KU

set_option Elab.async false
set_option linter.all false
set_option maxRecDepth 100000
set_option maxHeartbeats 4000000
/-! The end of a law's row whose defs make lambdas: the tables of their code objects may grow -/
namespace KU
open PySem PySem.Spec PyProof.Rows L2

/-- the empty table of a code object -/
abbrev noCode : Obj := { cls := .none, data := .fields #[] }
/-- what is tracked at the entry of the law: the tables cs, and the script where the written part does not hold it -/
def entryH (cs : List (Addr × Addr)) (script : Option (Addr × HO)) : Hp := fun b =>
  if b ∈ cs.map (·.2) then some (.tbl #[]) else match script with
    | some (a, o) => if b = a then some o else none
    | none => none
theorem call_lawT {P : Program} {w : World} {K : PySem.W.Frag} {mg mb : Str → Option Value} {k : Nat} {fa a : Addr} {fd : FuncData} {x : Str} {sp : Sp} {s1 : Shared} {vs : List Value} {ns : List Int} {cs : List (Addr × Addr)}
    (KX : K.In s1.heap) (hns : s1.heap.Ns mainGlobals mg) (hb : s1.heap.Ns builtinsNs mb) (hbb : ∀ x : Str, x ≠ "__name__" → mb x = bootBuiltins x) (hlim : s1.heap.NoLimit) (hg : s1.gens = #[])
    (tabs : ∀ p ∈ cs, s1.heap.get? p.2 = some noCode) (free : ∀ p ∈ cs, K.lookup p.2 = none) (codes : ∀ p ∈ cs, PySem.W.CodeHd s1.heap p.1 p.2)
    (hbm : ∃ (bm : Addr) (ob : Obj), mg "__builtins__" = some (.ref bm) ∧ bm ≠ builtinsNs ∧ s1.heap.get? bm = some ob ∧ ob.cls = .type "module" ∧ ob.dict = some builtinsNs ∧ ob.data = .plain)
    (ha : s1.heap.get? a = some { cls := .type "list", data := .seq vs.toArray }) (hi : IntsAre vs ns) (hl : ns.length ≤ sizeLine) (hr : Room k callerA)
    (F : ∀ base : Heap, K.In base → base.Ns mainGlobals mg → (∀ p ∈ cs, LamX.TabB base mg p.1 p.2) → FnG P w K mg base CX0 k fa fd [x] sp) (hbind : ∀ (s : Shared) (u : Value), BindsTo s fd ⟨[u], []⟩ [(x, u)])
    (hsp : ∀ H : Hp, (∀ p ∈ cs, H p.2 = some (.tbl #[])) → SqL K H a (ns.map V.int) → sp [.ref a] H (fun v _ => v = .bl true) fun _ _ _ => False) :
    codeAny (model P w) callerA (.call (.ref fa) ⟨[.ref a], []⟩)
      (fun r s' => r = .ok (.ret (.bool true)) ∧ OldK s1.heap s'.heap ∧ s'.os = s1.os ∧ AllBare s'.gens) s1 := by
  have rv := vals_ints hi
  have lenV := hi.length
  have atT : ∀ {b : Addr}, b ∈ cs.map (·.2) → ∃ p ∈ cs, p.2 = b := fun h => List.mem_map.mp h
  have tabOf : ∀ {b : Addr}, b ∈ cs.map (·.2) → s1.heap.get? b = some noCode := fun h => by
    obtain ⟨p, hp, rfl⟩ := atT h
    exact tabs p hp
  have notT : ∀ {b : Addr} {o : Obj}, s1.heap.get? b = some o → o.data ≠ .fields #[] → b ∉ cs.map (·.2) := fun e n h => by
    cases e.symm.trans (tabOf h)
    exact n rfl
  have aNot : a ∉ cs.map (·.2) := notT ha fun z => by cases z
  -- the run, from an H that tracks just these
  have main : ∀ H : Hp, (∀ b ∈ cs.map (·.2), H b = some (.tbl #[])) → (∀ b u, H b = some u → b ∉ cs.map (·.2) → b = a ∧ ∃ ob xs, u = .frz ob (.lst xs)) → SqL K H a (ns.map V.int) → HOk P w H s1.heap → (H a ≠ none → K.lookup a = none) →
      codeAny (model P w) callerA (.call (.ref fa) ⟨[.ref a], []⟩)
        (fun r s' => r = .ok (.ret (.bool true)) ∧ OldK s1.heap s'.heap ∧ s'.os = s1.os ∧ AllBare s'.gens) s1 := by
    intro H isT just seq ok hK
    have untracked : ∀ {b o}, s1.heap.get? b = some o → o.data ≠ .fields #[] → b ≠ a → H b = none := fun {b o} e n nb => by
      cases q : H b with
      | none => rfl
      | some u => exact absurd (just b u q (notT e n)).1 nb
    have noD : ∀ b o es ep, s1.heap.get? b = some o → o.data = .dict es ep → H b = none := fun b o es ep e d => untracked e (fun z => by rw [d] at z; cases z) fun z => by
      rw [z, ha] at e
      cases e
      cases d
    have kin : K.In (hidT s1.heap H) := fun b o e => hidT_get (KX b o e) (by
      by_cases hT : b ∈ cs.map (·.2)
      · obtain ⟨p, hp, rfl⟩ := atT hT
        rw [free p hp] at e
        cases e
      · cases q : H b with
        | none => rfl
        | some u =>
          have eb := (just b u q hT).1
          subst eb
          rw [hK (by rw [q]; simp)] at e
          cases e)
    have md : Mod K mg (hidT s1.heap H) := ⟨kin, hid_ns (noD _) hns, ⟨mb, hid_ns (noD _) hb, hbb⟩, by
      obtain ⟨mc, h1, h2⟩ := hlim
      exact ⟨mc, hid_ns (noD _) h1, h2⟩⟩
    have TB : ∀ p ∈ cs, LamX.TabB (hidT s1.heap H) mg p.1 p.2 := fun p hp => by
      have tp := tabs p hp
      refine ⟨?_, ?_, fun z => ?_⟩
      · obtain ⟨o, us, file, tf, flags, tg, inF, text, tt, e1, c1, d1, at11, rest⟩ := codes p hp
        refine ⟨o, us, file, tf, flags, tg, inF, text, tt, hidT_get e1 (untracked e1 (fun z => ?_) fun z => ?_), c1, d1, at11, rest⟩
        · rw [d1] at z
          cases z
          cases at11
        · rw [z, ha] at e1
          cases e1
          cases d1
      · obtain ⟨bm, ob, b1, b2, b3, b4, b5, b6⟩ := hbm
        refine ⟨bm, ob, b1, b2, fun q => ?_, fun q => ?_, hidT_get b3 (untracked b3 (fun z => by rw [b6] at z; cases z) fun z => ?_), b4, b5, b6⟩
        · obtain ⟨o, es, ep, e, d, _⟩ := hns
          rw [q, e] at b3
          cases b3
          cases d.symm.trans b6
        · rw [q, tp] at b3
          cases b3
          cases b6
        · rw [z, ha] at b3
          cases b3
          cases b6
      · obtain ⟨o, es, ep, e, d, _⟩ := hns
        rw [z, tp] at e
        cases e
        cases d
    have e0 : Env0 P w K mg (hidT s1.heap H) callerA [] s1 H :=
      ⟨rfl, md, fun b o e => of_hidT e, Nat.le_of_eq (hidT_size _ _), trivial, fun b hb => absurd hb List.not_mem_nil, ok, .of_eq hg⟩
    have run := (F _ kin (hid_ns (noD _) hns) TB).goes callerA [] s1 H ⟨[.ref a], []⟩ [.ref a] [.ref a] _ _ rfl hr e0 (hbind s1 (.ref a)) (.cons rfl .nil) (hsp H (fun p hp => isT _ (List.mem_map.mpr ⟨p, hp, rfl⟩)) seq)
    refine codeAny_mono run fun r s' h => ?_
    cases r with
    | error e => exact h.elim
    | ok fl =>
      cases fl with
      | next => exact h.elim
      | brk => exact h.elim
      | cont => exact h.elim
      | ret u =>
        obtain ⟨v, H', os, bare, un, ok', r', q⟩ := h
        have q' : v = .bl true := q
        subst q'
        obtain rfl : u = Value.bool true := r'
        have stays : ∀ b o, b ∉ cs.map (·.2) → s1.heap.get? b = some o → s'.heap.get? b = some o := fun b o nb e => by
          cases q : H b with
          | none => exact un.keep b o e q List.not_mem_nil List.not_mem_nil
          | some u =>
            obtain ⟨_, ob, xs, rfl⟩ := just b u q nb
            obtain ⟨e1, _⟩ := ok b _ q
            obtain ⟨e2, _⟩ := ok' b _ (un.frzs b ob _ q)
            cases e.symm.trans e1
            exact e2
        have grew : ∀ p ∈ cs, ∃ more : Array Value, s'.heap.get? p.2 = some { cls := .none, data := .fields more } := fun p hp => by
          obtain ⟨more, z⟩ := un.tbls p.2 #[] (isT _ (List.mem_map.mpr ⟨p, hp, rfl⟩))
          exact ⟨_, ok' p.2 _ z⟩
        refine ⟨rfl, ⟨fun b o e => ?_, fun b o e => ?_⟩, os, bare⟩
        · by_cases hT : b ∈ cs.map (·.2)
          · obtain ⟨p, hp, rfl⟩ := atT hT
            obtain ⟨more, hm⟩ := grew p hp
            cases e.symm.trans (tabs p hp)
            exact .inr (.inl ⟨((codes p hp).tab (tabs p hp)).isCodeTable, rfl, #[], more, rfl, by rw [Array.empty_append]; exact hm⟩)
          · exact .inl (stays b o hT e)
        · by_cases hT : b ∈ cs.map (·.2)
          · obtain ⟨p, hp, rfl⟩ := atT hT
            obtain ⟨more, hm⟩ := grew p hp
            exact ⟨_, hm⟩
          · exact ⟨o, stays b o hT e⟩
  have inT : ∀ {sc : Option (Addr × HO)} {b : Addr}, b ∈ cs.map (·.2) → entryH cs sc b = some (.tbl #[]) := fun h => if_pos h
  have okT : ∀ {H : Hp} {b : Addr} {u : HO}, b ∈ cs.map (·.2) → some (HO.tbl #[]) = some u → ObjOk P w H s1.heap b u := fun h z => by
    cases z
    exact tabOf h
  cases hk : K.lookup a with
  | some o =>
    have e := KX a o hk
    rw [ha] at e
    cases e
    have off : ∀ {b : Addr}, b ∉ cs.map (·.2) → entryH cs none b = none := fun h => if_neg h
    refine main (entryH cs none) (fun b h => inT h) (fun b u z h => ?_) (.inr ⟨_, vs.toArray, _, hk, rfl, rfl, rfl, ?_, ?_⟩) (fun b u z => ?_) fun z => absurd (off aNot) z
    · rw [off h] at z
      cases z
    · rw [List.size_toArray, lenV]
      exact hl
    · simpa using rv
    · by_cases hT : b ∈ cs.map (·.2)
      · rw [inT hT] at z
        exact okT hT z
      · rw [off hT] at z
        cases z
  | none =>
    let sc : Option (Addr × HO) := some (a, .frz { cls := .type "list", data := .seq vs.toArray } (.lst (ns.map V.int)))
    have atA : entryH cs sc a = some (.frz { cls := .type "list", data := .seq vs.toArray } (.lst (ns.map V.int))) := (if_neg aNot).trans (if_pos rfl)
    have off : ∀ {b : Addr}, b ∉ cs.map (·.2) → b ≠ a → entryH cs sc b = none := fun h n => (if_neg h).trans (if_neg n)
    refine main (entryH cs sc) (fun b h => inT h) (fun b u z h => ?_) (.inl (.inr ⟨_, atA⟩)) (fun b u z => ?_) fun _ => hk
    · by_cases hb : b = a
      · subst hb
        rw [atA] at z
        cases z
        exact ⟨rfl, _, _, rfl⟩
      · rw [off h hb] at z
        cases z
    · by_cases hT : b ∈ cs.map (·.2)
      · rw [inT hT] at z
        exact okT hT z
      · by_cases hb : b = a
        · subst hb
          rw [atA] at z
          cases z
          refine ⟨ha, ?_, vs, _, rv, ha⟩
          rw [List.length_map]
          exact hl
        · rw [off hT hb] at z
          cases z

/-- the goal that the head leaves, from the law's promise; xs: the defs of the text that make lambdas -/
theorem end_ofT {l : PySem.W.OpenLaw} {n k : Nat} {q : Program} {loose : List Str} {XP : (Str → Option Value) → Heap → Prop} {YP : World → Heap → Prop} {d : DefRec} {K : Params → PySem.W.Frag} {sp : PySem.W.Frag → List (Addr × Addr) → Sp} {x : Str} (xs : List Str)
    (hn : l.most = some n) (hn2 : n ≤ sizeLine) (hdf : d.params.defaults = []) (hr : Room k callerA) (hY : ∀ (w : World) (h : Heap), YP w h → (K w.params).In h)
    (hx : (xs.all fun y => ((recsOf q).find? fun e => e.name == y).isSome) = true)
    (F : ∀ (w : World) (mg : Str → Option Value) (fa : Addr) (h : Heap), (K w.params).In h → h.Ns mainGlobals mg → mg d.name = some (.ref fa) →
      ∃ (fd : FuncData) (cs : List (Addr × Addr)), (xs.map fun y => PySem.W.tabIn (K w.params) y) = cs.map some ∧ (∀ p ∈ cs, (K w.params).lookup p.2 = none) ∧ (∀ (s : Shared) (u : Value), BindsTo s fd ⟨[u], []⟩ [(x, u)]) ∧
        ∀ base : Heap, (K w.params).In base → base.Ns mainGlobals mg → (∀ p ∈ cs, LamX.TabB base mg p.1 p.2) → FnG l.prog w (K w.params) mg base CX0 k fa fd [x] (sp (K w.params) cs))
    (hsp : ∀ (K : PySem.W.Frag) (cs : List (Addr × Addr)) (H : Hp) (a : Addr) (ns : List Int), ns.length ≤ n → (∀ p ∈ cs, H p.2 = some (.tbl #[])) → SqL K H a (ns.map V.int) → sp K cs [.ref a] H (fun v _ => v = .bl true) fun _ _ _ => False) :
    PySem.W.WalkO q loose XP YP l.row.toRowW d [] (fun f vs => PySem.call f vs) := by
  refine Att.attach_call hn hdf fun w s₀ s₁ mg mb fa o pm cd doc a vs ns G Y ho hd hcd hmg hobj hints hlen hg => ?_
  have kin := hY w _ Y
  obtain ⟨fd, cs, hcs, free, hb, hF⟩ := F w mg fa _ kin G.T.g hmg
  have both : ∀ p ∈ cs, PySem.W.CodeHd s₁.heap p.1 p.2 ∧ s₁.heap.get? p.2 = some noCode := fun p hp => by
    have m : some p ∈ xs.map fun y => PySem.W.tabIn (K w.params) y := by
      rw [hcs]
      exact List.mem_map.mpr ⟨p, hp, rfl⟩
    obtain ⟨y, hy, e⟩ := List.mem_map.mp m
    obtain ⟨dr, hdr⟩ := Option.isSome_iff_exists.mp (List.all_eq_true.mp hx y hy)
    exact PySem.W.tab_of G.T kin hdr e
  exact call_lawT kin G.T.g G.T.b G.T.builtins G.T.nolimit hg (fun p hp => (both p hp).2) free (fun p hp => (both p hp).1) G.T.bmain hobj hints (Nat.le_trans hlen hn2) hr hF hb fun H hO hS => hsp _ cs H a ns hlen hO hS
end KU

set_option Elab.async false
set_option linter.all false
set_option maxRecDepth 100000
set_option maxHeartbeats 4000000
/-! The laws' draws: the mathematics and the heap that all of them share -/
namespace KU
open PySem PySem.Spec PyProof.Rows L2 Evl

def vints (ns : List Int) : List V := ns.map V.int
def dints (ns : List Int) : List PyData := ns.map PyData.int
theorem dp_ints {K : PySem.W.Frag} {H : Hp} : ∀ ns : List Int, DpAll K H (vints ns) (dints ns)
  | [] => .nil
  | n :: r => .cons (.int n) (dp_ints r)
theorem shaped_ints : ∀ ns : List Int, SeqAt.shaped (.list (dints ns)) = true := by
  intro ns
  have a : ∀ l : List Int, PyData.canLayAll0 (dints l) = true := by
    intro l
    induction l with
    | nil => rfl
    | cons n r ih => simpa [dints, PyData.canLayAll0, PyData.canLay0] using ih
  have b : ∀ l : List Int, PyData.depthAll (dints l) ≤ 1 := by
    intro l
    induction l with
    | nil => simp [dints, PyData.depthAll]
    | cons n r ih =>
      have z : PyData.depthAll (dints (n :: r)) = max (PyData.depth (.int n)) (PyData.depthAll (dints r)) := by simp [dints, PyData.depthAll]
      rw [z]
      have y : PyData.depth (.int n) ≤ 1 := by simp [PyData.depth]
      omega
  unfold SeqAt.shaped
  have c := b ns
  have d : PyData.depth (.list (dints ns)) ≤ 64 := by
    simp only [PyData.depth]
    omega
  simp only [PyData.canLay0, a ns, Bool.true_and, decide_eq_true d]
theorem eqv_empty (ns : List Int) : PyData.eqv (.list (dints ns)) (.list []) = decide (ns = []) := by
  cases ns with
  | nil => rfl
  | cons n r => simp [dints, PyData.eqv, PyData.eqvAll]

/-- nothing but what stands at P has changed -/
def But (P : Addr) (H H' : Hp) : Prop := ∀ b o, b ≠ P → H b = some o → H' b = some o
theorem But.refl (P : Addr) (H : Hp) : But P H H := fun _ _ _ h => h
theorem But.trans {P : Addr} {H H1 H2 : Hp} (a : But P H H1) (b : But P H1 H2) : But P H H2 := fun x o n h => b x o n (a x o n h)
theorem But.of_ex {P : Addr} {H H' : Hp} (e : Ex H H') : But P H H' := fun b o _ h => e b o h
theorem But.put {P : Addr} {H H' : Hp} {o : HO} (e : But P H H') : But P H (upd H' P o) := fun b u n h => by
  rw [upd_ne n]
  exact e b u n h
theorem But.ex {P : Addr} {H0 H H' : Hp} (e : Ex H0 H) (n : H0 P = none) (b : But P H H') : Ex H0 H' := fun a o h => b a o (fun z => by rw [z, n] at h; cases h) (e a o h)

/-- the draws' state at P: the cells at L, the next place s, what is left of a great cell -/
structure Pen (H : Hp) (P L : Addr) (ns : List Int) (s : Nat) (g : Int) : Prop where
  pen : H P = some (.lst [.ref L, .int s, .int g])
  cells : H L = some (.lst (vints ns))
  ne : L ≠ P
  few : ns.length ≤ 63
  left : 0 ≤ g
theorem Pen.mono {H H' : Hp} {P L : Addr} {ns : List Int} {s : Nat} {g : Int} (x : Ex H H') (p : Pen H P L ns s g) : Pen H' P L ns s g := ⟨x _ _ p.pen, x _ _ p.cells, p.ne, p.few, p.left⟩
/-- a number below m is drawn -/
def spDraw : Sp := fun vs H Q _ => ∃ (P L : Addr) (ns : List Int) (s : Nat) (g m : Int), vs = [.ref P, .int m] ∧ 0 < m ∧ m < 1000000000 ∧ Pen H P L ns s g ∧ s ≤ 100000 ∧
  ∀ (d : Nat) (s' : Nat) (g' : Int) (H' : Hp), (d : Int) < m → s' ≤ s + 1 → But P H H' → Pen H' P L ns s' g' → Q (.int d) H'
/-- one of some things (a list at l) is drawn -/
def spPick : Sp := fun vs H Q _ => ∃ (P L l : Addr) (ns : List Int) (xs : List V) (s : Nat) (g : Int), vs = [.ref P, .ref l] ∧ xs ≠ [] ∧ xs.length ≤ 1000 ∧ H l = some (.lst xs) ∧ l ≠ P ∧ Pen H P L ns s g ∧ s ≤ 100000 ∧
  ∀ (v : V) (s' : Nat) (g' : Int) (H' : Hp), v ∈ xs → s' ≤ s + 1 → But P H H' → Pen H' P L ns s' g' → Q v H'
/-- the state is made of the script -/
def spPen (K : PySem.W.Frag) : Sp := fun vs H Q _ => ∃ (a : Addr) (ns : List Int), vs = [.ref a] ∧ SqL K H a (vints ns) ∧ ns.length ≤ 63 ∧
  ∀ (P L : Addr) (ms : List Int) (H' : Hp), H P = none → Ex H H' → Pen H' P L ms 0 0 → Q (.ref P) H'

/-! ### readings of the built-ins that the draws ask -/
section
variable {K : PySem.W.Frag} {H : Hp}
def rInt1 : List V → Hp → VK → Prop := fun xs H Q => (∃ i, xs = [.int i] ∧ Q (.int i) H) ∨ ∃ k, xs = [.bl k] ∧ Q (.int (if k then 1 else 0)) H
def rAbs : List V → Hp → VK → Prop := fun xs H Q => ∃ i, xs = [.int i] ∧ Q (.int (if i < 0 then -i else i)) H
theorem rc_int (i : Int) : RC rInt1 [.int i] H (.int i) := fun H1 _ _ q => .inl ⟨i, rfl, q H1 (Ex.refl H1)⟩
theorem rc_bool (k : Bool) : RC rInt1 [.bl k] H (.int (if k then 1 else 0)) := fun H1 _ _ q => .inr ⟨k, rfl, q H1 (Ex.refl H1)⟩
theorem rc_abs (i : Int) : RC rAbs [.int i] H (.int (if i < 0 then -i else i)) := fun H1 _ _ q => ⟨i, rfl, q H1 (Ex.refl H1)⟩
theorem rv_neD {x y : V} {d e : PyData} (hd : ∀ H1, Ex H H1 → Dp K H1 x d) (he : ∀ H1, Ex H H1 → Dp K H1 y e) (sd : SeqAt.shaped d = true) (se : SeqAt.shaped e = true) : RV (rNeD K) x y H (.bl (!PyData.eqv d e)) :=
  fun H1 x1 _ q => ⟨d, e, hd H1 x1, he H1 x1, sd, se, q H1 (Ex.refl H1)⟩
end
/-! ### bounds -/
theorem bound_mix {m s : Int} (h0 : 0 ≤ m) (h1 : m < 2147483648) (h2 : 0 ≤ s) (h3 : s ≤ 100000) {a b c d : Int} (ha : 0 ≤ a) (ha' : a ≤ 10) (hb : 0 ≤ b) (hb' : b ≤ 1000000) (hc : 0 ≤ c) (hc' : c ≤ 10000000) (hd : 0 ≤ d) (hd' : d ≤ 1000000000) :
    0 ≤ m * (a * s + b) + c * s * s + d ∧ m * (a * s + b) + c * s * s + d < 18446744073709551616 := by
  have e1 : a * s ≤ 10 * 100000 := Int.mul_le_mul ha' h3 h2 (by omega)
  have e2 : 0 ≤ a * s := Int.mul_nonneg ha h2
  have e3 : m * (a * s + b) ≤ 2147483648 * 2000000 := Int.mul_le_mul (by omega) (by omega) (by omega) (by omega)
  have e4 : 0 ≤ m * (a * s + b) := Int.mul_nonneg h0 (by omega)
  have e5 : c * s ≤ 10000000 * 100000 := Int.mul_le_mul hc' h3 h2 (by omega)
  have e6 : 0 ≤ c * s := Int.mul_nonneg hc h2
  have e7 : c * s * s ≤ 1000000000000 * 100000 := Int.mul_le_mul (by omega) h3 h2 (by omega)
  have e8 : 0 ≤ c * s * s := Int.mul_nonneg e6 h2
  omega
end KU

set_option Elab.async false
set_option linter.all false
set_option maxRecDepth 100000
set_option maxHeartbeats 4000000
/-! Defs that make lambdas: entered where no repr is under way, their code object told; called; what stays though tables grow -/
namespace KU
open PySem PySem.Spec PyProof.Rows L2 Evl
/-- a def of the text by its body, where no repr is under way; its code is told -/
theorem FnG.bodyC {P : Program} {w : World} {K : PySem.W.Frag} {mg : Str → Option Value} {base : Heap} {x qual : Str} {st : Stmt} {f : Addr} {fd : FuncData} {N ps : List Str} {k : Nat} {sp : Sp}
    (F : Fun K x qual st f fd) (S : FnScope N ps (defScope st)) (many : ∀ vs H Q E, sp vs H Q E → vs.length = ps.length)
    (walk : ∀ (A : Around) (out : List Env) (s : Shared) (H : Hp) (vs : List V) (Q : VK) (E : XK), A.guards = some [] → Room k (A.deeper (envOfC qual (defScope st) s.heap.objs.size f fd.code)) → sp vs H Q E →
      ∃ t, PSs (cxOf CX0 P w K mg base N qual (defScope st) f fd.code A out s H E).nox (defBody st) t ∧ t { nx := fun _ H' => Q .non H', rt := Q } (start N vs) H) :
    FnG P w K mg base CX0 (k + 1) f fd ps sp := by
  obtain ⟨oc, od, kV, doc, pm, an, cdv, ct, osl, rfl, lk, hcd⟩ := F.ex
  refine ⟨many, fun A out s H args us vs Q E hg hr e0 hb r hsp => ?_⟩
  have small := many _ _ _ _ hsp
  have whole : K.In s.heap := e0.mod.kin.keeps fun b o e => (e0.bs b o e).1
  have lim : s.heap.NoLimit := e0.mod.nolimit.keeps fun b o e => (e0.bs b o e).1
  have kinds : ∀ y ∈ ps.zip us, (defScope st).names.lookup y.1 = some .local ∨ ((defScope st).names.lookup y.1 = some .cell ∧ ((cellsFrom (s.heap.objs.size + 1) (defScope st).names []).lookup y.1).isSome = true) := by
    rintro ⟨n, v⟩ hy
    rcases S.par n (List.of_mem_zip hy).1 with q | q
    · exact .inl q
    · exact .inr ⟨q, PySem.W.cellsFrom_some _ _ _ (.inl q)⟩
  refine codeAny_call_function hr.depth (whole _ _ lk) rfl S.co S.gen rfl (PySem.W.codeRec_of whole hcd) (hb _ _ _ _ ?_)
  refine wpAny_newFunctionEnv_cells S.kind kinds fun env he s1 x => ?_
  subst he
  refine ⟨lim.keeps x.toInCall.keep, codeAny_func ?_⟩
  obtain ⟨t, ht, hq⟩ := walk A out s H vs Q E hg (hr.deeper _) hsp
  have I : Inv (cxOf CX0 P w K mg base N qual (defScope st) f cdv A out s H E) [] (start N vs) H s1 := inv_start S hr.hd e0 small r x
  refine wpAny_mono (ht.nox.run [] s1 (start N vs) H _ I hq) (fun fl s2 h2 => ?_) fun e s2 h2 => h2
  have gives : ∀ {σ' : L2.St} {H' : Hp} {v : V} {u : Value}, Inv (cxOf CX0 P w K mg base N qual (defScope st) f cdv A out s H E) [] σ' H' s2 → RelV v u → Q v H' → CE out P w H s Q u s2 := fun J rv q => ⟨_, _, J.os, J.bare, J.base, J.hok, rv, q⟩
  cases fl with
  | ret u =>
    obtain ⟨v, σ', H', J, rv, q⟩ := h2
    exact gives J rv q
  | next =>
    obtain ⟨σ', H', J, q⟩ := h2
    exact gives (v := V.non) (u := Value.none) J rfl q
  | brk =>
    obtain ⟨_, _, _, q⟩ := h2
    exact q.elim
  | cont =>
    obtain ⟨_, _, _, q⟩ := h2
    exact q.elim
section
variable {X : Cx} {CX : CXT} {f : Addr} {k : Nat} {fd : FuncData} {ps : List Str} {sp : Sp} {E : XK} {x : Str} {p pos : Pos} {e : Expr} {es : List Expr} {t : TA}
theorem pe_callG (F : FnG X.prog X.w X.K X.mg X.base CX k f fd ps sp) (hgd : X.A.guards = some []) (hr : Room k X.A) (hg : Gl X x) (hm : X.mg x = some (.ref f)) (hk : PySem.W.keepIn X.K (.ref f) = true) (hb : Binds X.K fd ps []) (hx : Passes CX X E)
    (ha : PA X (e :: es) t) (hdb : (x == ("__debug__" : Str)) = false := by decide) (he : starEach (e :: es) X.env = (false, eval e X.env) :: starEach es X.env := by rfl) (hpl : (backTo pos (starEach es X.env)).any (·.1) = false := by rfl) :
    PE X (.Call (.Name x p) (e :: es) [] pos) (tCall sp [] E t) := by
  refine ⟨fun pins s σ H Q I h => ?_⟩
  refine wpAny_Call_Name_kw (ld_glob I hg hm ?_ hdb)
  refine PySem.W.callWith_K (h₀ := X.base) I.ok.mod.kin hk (thn (ha.run pos pins s σ H _ I h) fun us s1 ⟨vs, H1, I1, r, q⟩ => ⟨I1.kIn, ?_⟩) he hpl
  have q : sp (vs ++ []) H1 Q E := q
  rw [List.append_nil] at q
  have many : us.length = ps.length := by
    rw [← r.length]
    exact F.many _ _ _ _ q
  have b := hb s1 us I1.kIn (by rw [List.append_nil]; exact many)
  rw [List.append_nil] at b
  refine wpAny_call (codeAny_mono (F.goes X.A X.stack s1 H1 ⟨us, []⟩ us vs Q E hgd hr I1.env0 b r q) fun res s2 back => ?_)
  cases res with
  | error er => exact hx pins σ H1 s1 er s2 I1 back
  | ok fl =>
    cases fl with
    | ret u => exact I1.after back
    | next => exact back.elim
    | brk => exact back.elim
    | cont => exact back.elim
end

/-! ### all but the tables -/
abbrev ExT (H H' : Hp) : Prop := LamX.ExtN H H'
theorem exT {H H' : Hp} (x : Ex H H') : ExT H H' := LamX.ExtN.of x
theorem ext_lst {H H' : Hp} {a : Addr} {xs : List V} (x : ExT H H') (h : H a = some (.lst xs)) : H' a = some (.lst xs) := x _ _ h fun ps z => by cases z
theorem ext_tup {H H' : Hp} {a : Addr} {xs : List V} (x : ExT H H') (h : H a = some (.tup xs)) : H' a = some (.tup xs) := x _ _ h fun ps z => by cases z
theorem ext_ins {H H' : Hp} {a C dx : Addr} {fs : List (Str × V)} (x : ExT H H') (h : H a = some (.ins C dx fs)) : H' a = some (.ins C dx fs) := x _ _ h fun ps z => by cases z
theorem Pen.ext {H H' : Hp} {P L : Addr} {ns : List Int} {s : Nat} {g : Int} (x : ExT H H') (p : Pen H P L ns s g) : Pen H' P L ns s g := ⟨ext_lst x p.pen, ext_lst x p.cells, p.ne, p.few, p.left⟩
theorem tabs_ex {T : List (Addr × Str)} {H H' : Hp} (t : LamX.Tabs T H) (x : Ex H H') : LamX.Tabs T H' := t.ext x
end KU

set_option Elab.async false
set_option linter.all false
set_option maxRecDepth 100000
set_option maxHeartbeats 4000000
/-! A text's error classes in one record each; what evaluates to something with a property -/
namespace KU
open PySem PySem.Spec PyProof.Rows L2 Evl

/-! ### an error class of the text -/
structure Cl (P : Program) (w : World) (K : PySem.W.Frag) (mg : Str → Option Value) (base : Heap) (x : Str) (C : Addr) (fs : List Str) (sp : Sp) : Prop where
  oex : OexC K C
  exc : ExcC K C
  gC : mg x = some (.ref C)
  no : ∀ f ∈ fs, PySem.W.findIn K (.ref C) f = some none
  fn : ∃ (fI : Addr) (fd : FuncData), PySem.W.findIn K (.ref C) "__init__" = some (some (.ref fI)) ∧ PySem.W.typeIn K (.ref fI) = some (.type "function") ∧
    FnOk P w K mg base CX0 1 fI fd (("self" : Str) :: fs) sp ∧ Binds K fd (("self" : Str) :: fs) [] ∧
    ∀ (s : Shared) (a : Addr) (ws : List Value), ws.length = fs.length → BindsTo s fd ⟨[.ref a], fs.reverse.zip ws⟩ ((("self" : Str) :: fs).zip (.ref a :: ws.reverse))
section
variable {X : Cx} {x : Str} {C : Addr} {fs : List Str} {sp : Sp} {p pos : Pos} {e : Expr} {es : List Expr} {kws : List Keyword} {ta tk : TA}
theorem pe_cl (Z : Cl X.prog X.w X.K X.mg X.base x C fs sp) (hr : Room 2 X.A) (ha : PA X (e :: es) ta) (hg : Gl X x := by rfl) (hdb : (x == ("__debug__" : Str)) = false := by decide)
    (he : starEach (e :: es) X.env = (false, eval e X.env) :: starEach es X.env := by rfl) (hpl : (backTo pos (starEach es X.env)).any (·.1) = false := by rfl) :
    PE X (.Call (.Name x p) (e :: es) [] pos) (tErr C sp ta) := by
  obtain ⟨fI, fd, i1, i2, G, b, _⟩ := Z.fn
  exact pe_err Z.oex i1 i2 G hr b Z.gC ha hg hdb he hpl
theorem Vals.rev {zs : List V} {ws : List Value} (r : Vals zs ws) : Vals zs.reverse ws.reverse := by
  induction r with
  | nil => exact .nil
  | cons a _ ih =>
    rw [List.reverse_cons, List.reverse_cons]
    exact Vals.append ih (.cons a .nil)
theorem pe_clK (Z : Cl X.prog X.w X.K X.mg X.base x C fs sp) (hr : Room 2 X.A) (hk : PK X kws tk)
    (hall : (backToKw pos (keywordEach kws X.env)).all (·.1.isSome) = true := by rfl) (hks : (backToKw pos (keywordEach kws X.env)).filterMap (·.1) = fs.reverse := by rfl)
    (hg : Gl X x := by rfl) (hdb : (x == ("__debug__" : Str)) = false := by decide)
    (hpl : ((backTo pos (starEach [] X.env)).any (·.1) || (backToKw pos (keywordEach kws X.env)).any (·.1.isNone)) = false := by rfl) :
    PE X (.Call (.Name x p) [] kws pos) (tErrK C fs.reverse.length sp List.reverse tk) := by
  obtain ⟨fI, fd, i1, i2, G, _, b⟩ := Z.fn
  exact pe_errK (ks := fs.reverse) (gv := List.reverse) (gu := List.reverse) Z.oex i1 i2 G hr (fun s' a ws _ hl => b s' a ws (by rw [hl, List.length_reverse])) (fun r _ => Vals.rev r) Z.gC hk hall hks hg hdb hpl

/-! ### a class without an __init__ of its own -/
theorem run_bare {pins : List (Addr × Obj)} {σ : L2.St} {H : Hp} {s : Shared} {Q : VK} {us : List Value} {bmB : List Value} {B newId initId : String} (F : ExcBaseFacts B newId initId bmB) (q : PySem.W.excIn X.K C bmB newId = true)
    (I : Inv X pins σ H s) (small : us.length ≤ 1000) (hq : ∀ a, H a = none → Q (.ref a) (upd H a (exo a C none))) : wpAny (model X.prog X.w) X.A (call (.ref C) us) (EP X pins σ Q) X.xe s := by
  obtain ⟨bm, N, nm, qn, bs, hdct, sn, sub, ab, col, dd, k0, k1, k2, k3, k5, mN, hC, hN, hni, T⟩ := exc_obj I.kIn q
  refine wpAny_call_exc_subT F T hC hN hni (fun h' a hm => ?_) (by rw [sizeLine_eq]; omega)
  obtain ⟨t, ht, _, _⟩ := hm.there
  have n := I.hok.gone hm.new
  exact ⟨.ref a, upd H a (exo a C none), I.laidN hm.keeps hm.new n (exo_ok ht), rfl, hq a n⟩
/-- C(), C(e, ..) -/
def tBare (C : Addr) (ta : TA) : TE := fun σ H Q => ta σ H fun vs H1 => vs.length ≤ 1000 ∧ ∀ a, H1 a = none → Q (.ref a) (upd H1 a (exo a C none))
theorem pe_bare0 {bmB : List Value} {B newId initId : String} (F : ExcBaseFacts B newId initId bmB) (q : PySem.W.excIn X.K C bmB newId = true) (gC : X.mg x = some (.ref C)) (kC : PySem.W.keepIn X.K (.ref C) = true)
    (hg : Gl X x := by rfl) (hdb : (x == ("__debug__" : Str)) = false := by decide) : PE X (.Call (.Name x p) [] [] pos) (tBare C tNil) := by
  refine ⟨fun pins s σ H Q I h => ?_⟩
  refine wpAny_Call_Name_kw (ld_glob I hg gC ?_ hdb)
  exact PySem.W.callWith_K0 I.kIn kC (run_bare (us := []) F q I (Nat.zero_le _) h.2)
theorem pe_bare1 {bmB : List Value} {B newId initId : String} (F : ExcBaseFacts B newId initId bmB) (q : PySem.W.excIn X.K C bmB newId = true) (gC : X.mg x = some (.ref C)) (kC : PySem.W.keepIn X.K (.ref C) = true) (ha : PA X (e :: es) ta)
    (hg : Gl X x := by rfl) (hdb : (x == ("__debug__" : Str)) = false := by decide) (he : starEach (e :: es) X.env = (false, eval e X.env) :: starEach es X.env := by rfl)
    (hpl : (backTo pos (starEach es X.env)).any (·.1) = false := by rfl) : PE X (.Call (.Name x p) (e :: es) [] pos) (tBare C ta) := by
  refine ⟨fun pins s σ H Q I h => ?_⟩
  refine wpAny_Call_Name_kw (ld_glob I hg gC ?_ hdb)
  refine PySem.W.callWith_K (h₀ := X.base) I.ok.mod.kin kC (thn (ha.run pos pins s σ H _ I h) fun us s1 ⟨vs, H1, I1, r1, hz, q1⟩ => ⟨I1.kIn, ?_⟩) he hpl
  exact run_bare (us := us) F q I1 (by rw [← r1.length]; exact hz) q1
end

/-! ### what evaluates to something with a property -/
def EvP (te : TE) (σ : L2.St) (H : Hp) (P : V → Hp → Prop) : Prop := ∀ H1, Ex H H1 → ∀ Q : VK, (∀ v H2, Ex H1 H2 → P v H2 → Q v H2) → te σ H1 Q
def EvPA (ta : TA) (σ : L2.St) (H : Hp) (P : List V → Hp → Prop) : Prop := ∀ H1, Ex H H1 → ∀ Q : List V → Hp → Prop, (∀ vs H2, Ex H1 H2 → P vs H2 → Q vs H2) → ta σ H1 Q
def Up (P : V → Hp → Prop) : Prop := ∀ v H H', Ex H H' → P v H → P v H'
/-- the values have the properties, one by one -/
def Each (Ps : List (V → Hp → Prop)) (vs : List V) (H : Hp) : Prop := Paired (fun (P : V → Hp → Prop) v => P v H) Ps vs
theorem Each.up {Ps : List (V → Hp → Prop)} (u : ∀ P ∈ Ps, Up P) {vs : List V} {H H' : Hp} (e : Ex H H') (h : Each Ps vs H) : Each Ps vs H' := by
  unfold Each at h ⊢
  induction h with
  | nil => exact .nil
  | cons a _ ih => exact .cons (u _ (List.mem_cons_self ..) _ _ _ e a) (ih fun P hP => u P (List.mem_cons_of_mem _ hP))
theorem Each.app {Ps Qs : List (V → Hp → Prop)} {vs ws : List V} {H : Hp} (a : Each Ps vs H) (b : Each Qs ws H) : Each (Ps ++ Qs) (vs ++ ws) H := by
  unfold Each at a b ⊢
  induction a with
  | nil => exact b
  | cons x _ ih => exact .cons x ih
theorem Each.len {Ps : List (V → Hp → Prop)} {vs : List V} {H : Hp} (a : Each Ps vs H) : vs.length = Ps.length := (Paired.length a).symm
theorem Each.get {Ps : List (V → Hp → Prop)} {vs : List V} {H : Hp} (a : Each Ps vs H) : ∀ {i : Nat} {P : V → Hp → Prop}, Ps[i]? = some P → ∃ v, vs[i]? = some v ∧ P v H := by
  unfold Each at a
  induction a with
  | nil =>
    intro i P h
    simp at h
  | @cons P0 v0 _ _ h0 _ ih =>
    intro i P h
    cases i with
    | zero =>
      simp at h
      subst h
      exact ⟨v0, rfl, h0⟩
    | succ i =>
      obtain ⟨v, h1, h2⟩ := ih (i := i) (P := P) (by simpa using h)
      exact ⟨v, by simpa using h1, h2⟩
section
variable {σ : L2.St} {H : Hp} {ta te tb : TE} {tr : TA} {P P1 P2 P3 : V → Hp → Prop} {Ps Qs : List (V → Hp → Prop)} {v : V}
theorem EvP.of {te : TE} (h : Ev te σ H v) : EvP te σ H (fun u _ => u = v) := fun H1 e Q q => h H1 e Q fun H2 e2 => q v H2 e2 rfl
theorem ep_nil : EvPA tNil σ H (Each []) := fun H1 _ _ q => q [] H1 (Ex.refl H1) .nil
theorem ep_cons (u : Up P) (h : EvP te σ H P) (hr : EvPA tr σ H (Each Ps)) : EvPA (tCons te tr) σ H (Each (P :: Ps)) := fun H1 e Q q =>
  h H1 e _ fun v H2 e2 p => hr H2 (e.trans e2) _ fun vs H3 e3 ps => q _ H3 (e2.trans e3) (.cons (u _ _ _ e3 p) ps)
/-- a list of such -/
def IsL (Ps : List (V → Hp → Prop)) (v : V) (H : Hp) : Prop := ∃ (l : Addr) (xs : List V), v = .ref l ∧ H l = some (.lst xs) ∧ Each Ps xs H
def IsT (Ps : List (V → Hp → Prop)) (v : V) (H : Hp) : Prop := ∃ (l : Addr) (xs : List V), v = .ref l ∧ H l = some (.tup xs) ∧ Each Ps xs H
theorem up_isL (u : ∀ P ∈ Ps, Up P) : Up (IsL Ps) := fun v H H' e ⟨l, xs, h1, h2, h3⟩ => ⟨l, xs, h1, e _ _ h2, h3.up u e⟩
theorem up_isT (u : ∀ P ∈ Ps, Up P) : Up (IsT Ps) := fun v H H' e ⟨l, xs, h1, h2, h3⟩ => ⟨l, xs, h1, e _ _ h2, h3.up u e⟩
theorem ep_lst (u : ∀ P ∈ Ps, Up P) (h : EvPA tr σ H (Each Ps)) (small : Ps.length ≤ 100000) : EvP (tLst tr) σ H (IsL Ps) := fun H1 e Q q =>
  h H1 e _ fun vs H2 e2 ps => ⟨by rw [ps.len]; exact sz_of small, fun p hp => q _ _ (e2.trans (Ex.new hp)) ⟨p, vs, rfl, upd_same, ps.up u (Ex.new hp)⟩⟩
theorem ep_tup (u : ∀ P ∈ Ps, Up P) (h : EvPA tr σ H (Each Ps)) (small : Ps.length ≤ 100000) : EvP (tTup tr) σ H (IsT Ps) := fun H1 e Q q =>
  h H1 e _ fun vs H2 e2 ps => ⟨by rw [ps.len]; exact sz_of small, fun p hp => q _ _ (e2.trans (Ex.new hp)) ⟨p, vs, rfl, upd_same, ps.up u (Ex.new hp)⟩⟩
/-- two lists joined -/
theorem ep_cat (u1 : ∀ P ∈ Ps, Up P) (u2 : ∀ P ∈ Qs, Up P) (h1 : EvP ta σ H (IsL Ps)) (h2 : EvP tb σ H (IsL Qs)) (small : Ps.length + Qs.length ≤ 100000) : EvP (tOp rCat ta tb) σ H (IsL (Ps ++ Qs)) := fun H1 e Q q =>
  h1 H1 e _ fun v H2 e2 p1 => h2 H2 (e.trans e2) _ fun w H3 e3 p2 => by
    obtain ⟨l, xs, rfl, hl, ex⟩ := up_isL u1 v _ _ e3 p1
    obtain ⟨m, ys, rfl, hm, ey⟩ := p2
    refine ⟨l, m, xs, ys, rfl, rfl, hl, hm, by rw [ex.len, ey.len]; exact sz_of small, fun p hp => q _ _ ((e2.trans e3).trans (Ex.new hp)) ⟨p, xs ++ ys, rfl, upd_same, (ex.app ey).up ?_ (Ex.new hp)⟩⟩
    intro P hP
    rcases List.mem_append.mp hP with z | z
    · exact u1 P z
    · exact u2 P z
theorem s_asgP {D : Ends} {i : Nat} (h : EvP te σ H P) (k : ∀ v H1, Ex H H1 → P v H1 → D.nx (σ.set i (some v)) H1) : tAsg te (gName i) D σ H := h H (Ex.refl H) _ fun v H1 e p => k v H1 e p
theorem q_asgP {D : Ends} {tz : TS} {i : Nat} (h : EvP te σ H P) (k : ∀ v H1, Ex H H1 → P v H1 → tz D (σ.set i (some v)) H1) : tSeq (tAsg te (gName i)) tz D σ H := s_asgP (D := { D with nx := tz D }) h k
theorem s_retP {D : Ends} (h : EvP te σ H P) (k : ∀ v H1, Ex H H1 → P v H1 → D.rt v H1) : tRet te D σ H := h H (Ex.refl H) _ fun v H1 e p => k v H1 e p
theorem ep_var {i : Nat} (u : Up P) (h : σ[i]? = some (some v)) (p : P v H) : EvP (tVar i) σ H P := fun H1 e Q q => ⟨v, h, q v H1 (Ex.refl H1) (u _ _ _ e p)⟩
end

/-! ### own errors evaluate so -/
/-- an error of this class with these fields -/
def IsE (C : Addr) (fs : List (Str × V)) (v : V) (H : Hp) : Prop := ∃ e, v = .ref e ∧ ErrAt H e C fs
theorem up_isE (C : Addr) (fs : List (Str × V)) : Up (IsE C fs) := fun v H H' x ⟨e, h1, h2⟩ => ⟨e, h1, h2.mono x⟩
theorem up_eq (u : V) : Up (fun v _ => v = u) := fun _ _ _ _ h => h
section
variable {K : PySem.W.Frag} {σ : L2.St} {H : Hp} {ta tb : TE} {C : Addr} {f g : Str} {y z : V}
theorem made1 {H1 : Hp} {Q : VK} (T : OexC K C) (no : PySem.W.findIn K (.ref C) f = some none) (q : ∀ v H2, Ex H1 H2 → IsE C [(f, y)] v H2 → Q v H2) :
    ∀ a, H1 a = none → spI1 K f [.ref a, y] (upd H1 a (exo a C none)) (fun v H2 => v = .non ∧ Q (.ref a) H2) fun _ _ _ => False := fun a hn =>
  ⟨a, C, y, rfl, T, no, upd_same, fun dx hd ne => ⟨rfl, q _ _ (by
    have e1 : Ex H1 (upd H1 a (exo a C none)) := Ex.new hn
    have e2 : Ex (upd H1 a (exo a C none)) (upd (upd H1 a (exo a C none)) dx (exd dx [(f, y)])) := Ex.new hd
    exact (e1.trans e2).mut hn) ⟨a, rfl, .inl ⟨dx, upd_same, by rw [upd_ne ne]; exact upd_same⟩⟩⟩⟩
theorem made2 {H1 : Hp} {Q : VK} (T : OexC K C) (no : PySem.W.findIn K (.ref C) f = some none) (no2 : PySem.W.findIn K (.ref C) g = some none) (q : ∀ v H2, Ex H1 H2 → IsE C [(g, z), (f, y)] v H2 → Q v H2) :
    ∀ a, H1 a = none → spI2 K f g [.ref a, y, z] (upd H1 a (exo a C none)) (fun v H2 => v = .non ∧ Q (.ref a) H2) fun _ _ _ => False := fun a hn =>
  ⟨a, C, y, z, rfl, T, no, no2, upd_same, fun dx H' hd ne h1 h2 h3 => ⟨rfl, q _ _ (fun b o hb => by
    have n1 : b ≠ a := ne_of_none hb hn
    have n2 : b ≠ dx := fun e => by
      rw [e] at hb
      rw [upd_ne ne, hb] at hd
      cases hd
    rw [h3 b n1 n2, upd_ne n1]
    exact hb) ⟨a, rfl, .inl ⟨dx, h1, h2⟩⟩⟩⟩
theorem ep_err1 (T : OexC K C) (no : PySem.W.findIn K (.ref C) f = some none) (h : Ev ta σ H y) : EvP (tErr C (spI1 K f) (tCons ta tNil)) σ H (IsE C [(f, y)]) := fun H1 e Q q =>
  h H1 e _ fun H2 e2 => ⟨by show 1 ≤ 1000; decide, made1 T no fun v H3 e3 p => q v H3 (e2.trans e3) p⟩
theorem ep_err2 (T : OexC K C) (no : PySem.W.findIn K (.ref C) f = some none) (no2 : PySem.W.findIn K (.ref C) g = some none) (h : Ev ta σ H y) (h2 : Ev tb σ H z) :
    EvP (tErr C (spI2 K f g) (tCons ta (tCons tb tNil))) σ H (IsE C [(g, z), (f, y)]) := fun H1 e Q q =>
  h H1 e _ fun H2 e2 => h2 H2 (e.trans e2) _ fun H3 e3 => ⟨by show 2 ≤ 1000; decide, made2 T no no2 fun v H4 e4 p => q v H4 ((e2.trans e3).trans e4) p⟩
theorem ep_errK1 (T : OexC K C) (no : PySem.W.findIn K (.ref C) f = some none) (h : Ev ta σ H y) : EvP (tErrK C 1 (spI1 K f) List.reverse (tCons ta tNil)) σ H (IsE C [(f, y)]) := fun H1 e Q q =>
  h H1 e _ fun H2 e2 => ⟨rfl, by show 1 ≤ 1000; decide, made1 T no fun v H3 e3 p => q v H3 (e2.trans e3) p⟩
theorem ep_errK2 (T : OexC K C) (no : PySem.W.findIn K (.ref C) f = some none) (no2 : PySem.W.findIn K (.ref C) g = some none) (h2 : Ev tb σ H z) (h : Ev ta σ H y) :
    EvP (tErrK C 2 (spI2 K f g) List.reverse (tCons tb (tCons ta tNil))) σ H (IsE C [(g, z), (f, y)]) := fun H1 e Q q =>
  h2 H1 e _ fun H2 e2 => h H2 (e.trans e2) _ fun H3 e3 => ⟨rfl, by show 2 ≤ 1000; decide, made2 T no no2 fun v H4 e4 p => q v H4 ((e2.trans e3).trans e4) p⟩
theorem ep_bare {ta : TA} {vs : List V} (h : EvA ta σ H vs) (small : vs.length ≤ 1000) : EvP (tBare C ta) σ H (IsE C []) := fun H1 e Q q =>
  h H1 e _ fun H2 e2 => ⟨small, fun a hn => q _ _ (e2.trans (Ex.new hn)) ⟨a, rfl, .inr ⟨rfl, upd_same⟩⟩⟩
/-- e.f -/
theorem ev_errF {e : Addr} {fs : List (Str × V)} {v : V} (T : ExcC K C) (no : PySem.W.findIn K (.ref C) f = some none) (at_ : ErrAt H e C fs) (lk : fs.lookup f = some v) (h : Ev ta σ H (.ref e)) : Ev (tErrF K f ta) σ H v := fun H1 x Q q =>
  h H1 x _ fun H2 x2 => ⟨e, C, fs, v, rfl, T, no, at_.mono (x.trans x2), lk, q H2 x2⟩
/-- isinstance(e, D) -/
theorem rc_isErr {e : Addr} {fs : List (Str × V)} {c : V} {u : Value} {b : Bool} (T : ExcC K C) (k : ClsV c u) (at_ : ErrAt H e C fs) (hb : PySem.W.kitOne K (.ref C) u = some b) : RC (rIsErr K) [.ref e, c] H (.bl b) := fun H1 x _ q =>
  ⟨e, C, fs, c, u, b, rfl, k, T, at_.mono x, hb, q H1 (Ex.refl H1)⟩
theorem ev_isErr {e : Addr} {fs : List (Str × V)} {c : V} {u : Value} {b : Bool} (T : ExcC K C) (k : ClsV c u) (at_ : ErrAt H e C fs) (hb : PySem.W.kitOne K (.ref C) u = some b) (h : Ev ta σ H (.ref e)) : Ev (tCB (rIsErr K) (tCons ta (tCons (tC c) tNil))) σ H (.bl b) :=
  ev_cb (ea_cons h (ea_cons ev_c ea_nil)) (rc_isErr T k at_ hb)
end

/-! ### the __init__s -/
section
variable {K : PySem.W.Frag} {H : Hp} {Q : VK} {E : XK} {vs : List V}
theorem init1_reads {f : Str} {N : List Str} (hN : start N vs = vs.map some) (h : spI1 K f vs H Q E) : tOst K f (tVar 0) (tVar 1) { nx := fun _ H' => Q .non H', rt := Q } (start N vs) H := by
  obtain ⟨a, C, y, rfl, T, no, ha, k⟩ := h
  rw [hN]
  exact ⟨_, rfl, _, rfl, a, C, rfl, T, no, .inl ⟨ha, fun dx h1 h2 => k dx h1 h2⟩⟩
theorem init2_reads {f g : Str} {N : List Str} (hN : start N vs = vs.map some) (h : spI2 K f g vs H Q E) :
    tSeq (tOst K f (tVar 0) (tVar 1)) (tOst K g (tVar 0) (tVar 2)) { nx := fun _ H' => Q .non H', rt := Q } (start N vs) H := by
  obtain ⟨a, C, y, z, rfl, T, no, no2, ha, k⟩ := h
  rw [hN]
  refine ⟨_, rfl, _, rfl, a, C, rfl, T, no, .inl ⟨ha, fun dx h1 h2 => ?_⟩⟩
  refine ⟨_, rfl, _, rfl, a, C, rfl, T, no2, .inr ⟨dx, [(f, y)], upd_same, by rw [upd_ne h2]; exact upd_same, (by show 1 ≤ 900; decide), ?_⟩⟩
  refine k dx _ h1 h2 (by rw [upd_ne (Ne.symm h2)]; exact upd_same) upd_same fun b n1 n2 => ?_
  rw [upd_ne n2, upd_ne n1, upd_ne n2]
end
end KU

set_option Elab.async false
set_option linter.all false
set_option maxRecDepth 100000
set_option maxHeartbeats 4000000
/-! The facts of an error class of the text, by bundled checks over the written part -/
namespace KU
open PySem PySem.Spec PyProof.Rows L2 Evl
/-- what is looked up of an error class: the rest of it -/
def clB (K : PySem.W.Frag) (C fI : Addr) (cd : Value) (q : Str) (fs : List Str) : Bool :=
  PySem.W.findIn K (.ref C) "__setattr__" == some (some (.builtin "object.__setattr__")) && PySem.W.findIn K (.ref C) "__getattribute__" == some (some (.builtin "BaseException.__getattribute__")) &&
  PySem.W.findIn K (.ref C) "__getattr__" == some none && PySem.W.typeIn K (.ref fI) == some (.type "function") && PySem.W.codeIn K cd q && PySem.W.keepIn K (.ref fI) && PySem.W.keepIn K (.ref C) &&
  PySem.W.subIn K (.ref C) (.type "BaseException") == some true && PySem.W.typeIn K (.ref C) == some (.type "type") && PySem.W.hasDictIn K C && PySem.W.findIn K (.ref C) "__class__" == some (some (.builtin "object.__class__")) &&
  PySem.W.mroIn K C (.type "object") == some true && fs.all (fun f => PySem.W.findIn K (.ref C) f == some none)
def getB (K : PySem.W.Frag) : Bool := PySem.W.specialIn K (.builtin "object.__class__") "__get__" == some (some (.builtin "getset_descriptor.__get__")) && PySem.W.takesIn K (.builtin "object.__class__") == some true
structure ClF (K : PySem.W.Frag) (mg : Str → Option Value) (x q : Str) (st : Stmt) (C : Addr) (fs : List Str) : Prop where
  gC : mg x = some (.ref C)
  oex : OexC K C
  ga : PySem.W.findIn K (.ref C) "__getattribute__" = some (some (.builtin "BaseException.__getattribute__"))
  gg : PySem.W.findIn K (.ref C) "__getattr__" = some none
  hd : PySem.W.hasDictIn K C = true
  ha : PySem.W.findIn K (.ref C) "__class__" = some (some (.builtin "object.__class__"))
  hm : PySem.W.mroIn K C (.type "object") = some true
  no : ∀ f ∈ fs, PySem.W.findIn K (.ref C) f = some none
  fn : ∃ (fI : Addr) (fd : FuncData), PySem.W.findIn K (.ref C) "__init__" = some (some (.ref fI)) ∧ PySem.W.typeIn K (.ref fI) = some (.type "function") ∧ Fun K "__init__" q st fI fd
theorem clf_mk {K : PySem.W.Frag} {h : Heap} {mg : Str → Option Value} (X : K.In h) (G : h.Ns mainGlobals mg) {x q : Str} {st : Stmt} {fs : List Str} {C fI N : Addr} {nm qn : Str} {bs bm : List Value} {sn : List Str} {sub : List Value} {ab : Bool} {col : Option Bool}
    {dd : Option Addr} {m0 m1 m2 m3 m5 : Option Value} {oc kV dc pm cd ct : Value} {od an : Option Addr} {osl : Array (Option Value)}
    (aC : PySem.W.nsIn K mainGlobals x = some (some (.ref C))) (xL : K.lookup C = some (excClassObj nm qn C N bs bm true sn sub ab col dd m0 m1 m2 m3 m5 "ValueError.__new__")) (a1 : PySem.W.findIn K (.ref C) "__init__" = some (some (.ref fI)))
    (l1 : K.lookup fI = some ⟨oc, od, .func (PySem.W.fnOf "__init__" q (defArgs st) (defBody st) (defScope st) .none kV dc pm an cd ct), osl⟩) (hb : PySem.HandSPX.refsVE bm = true) (B : clB K C fI cd q fs = true) : ClF K mg x q st C fs := by
  unfold clB at B
  simp only [Bool.and_eq_true, beq_iff_eq, List.all_eq_true] at B
  obtain ⟨⟨⟨⟨⟨⟨⟨⟨⟨⟨⟨⟨b1, b2⟩, b3⟩, b4⟩, b5⟩, b6⟩, b7⟩, b8⟩, b9⟩, b10⟩, b11⟩, b12⟩, b13⟩ := B
  exact { gC := PySem.W.mg_of X G aC, oex := ⟨⟨nm, qn, N, bs, bm, sn, sub, ab, col, dd, m0, m1, m2, m3, m5, xL, hb⟩, b1, b8, b9, b7⟩, ga := b2, gg := b3, hd := b10, ha := b11, hm := b12, no := b13, fn := ⟨fI, _, a1, b4, fun_mk l1 b5 b6⟩ }
section
variable {P : Program} {w : World} {K : PySem.W.Frag} {mg : Str → Option Value} {base : Heap}
theorem exc_of {C : Addr} (gb : getB K = true) (ga : PySem.W.findIn K (.ref C) "__getattribute__" = some (some (.builtin "BaseException.__getattribute__"))) (gg : PySem.W.findIn K (.ref C) "__getattr__" = some none)
    (hs : PySem.W.subIn K (.ref C) (.type "BaseException") = some true) (hd : PySem.W.hasDictIn K C = true) (ha : PySem.W.findIn K (.ref C) "__class__" = some (some (.builtin "object.__class__"))) (hm : PySem.W.mroIn K C (.type "object") = some true) : ExcC K C := by
  unfold getB at gb
  simp only [Bool.and_eq_true, beq_iff_eq] at gb
  exact ⟨ga, gg, hs, hd, ha, gb.1, gb.2, hm⟩
/-- a class with one field, its __init__ being read -/
theorem cl1_of {x q f : Str} {st : Stmt} {C : Addr} (gb : getB K = true) (Z : ClF K mg x q st C [f]) (init : ∀ {fI : Addr} {fd : FuncData}, Fun K "__init__" q st fI fd → FnOk P w K mg base CX0 1 fI fd ["self", f] (spI1 K f))
    (bind : ∀ (kV doc pm : Value) (an : Option Addr) (cdv ct : Value) (us : List Value), us.length = (["self", f] : List Str).length → bindArgs (PySem.W.fnOf "__init__" q (defArgs st) (defBody st) (defScope st) .none kV doc pm an cdv ct) ⟨us, []⟩ = pure ((["self", f] : List Str).zip us))
    (bindk : ∀ (kV doc pm : Value) (an : Option Addr) (cdv ct a v : Value), bindArgs (PySem.W.fnOf "__init__" q (defArgs st) (defBody st) (defScope st) .none kV doc pm an cdv ct) ⟨[a], [(f, v)]⟩ = pure [(("self" : Str), a), (f, v)]) : Cl P w K mg base x C [f] (spI1 K f) := by
  obtain ⟨fI, fd, h1, h2, F⟩ := Z.fn
  refine ⟨Z.oex, exc_of gb Z.ga Z.gg Z.oex.exC Z.hd Z.ha Z.hm, Z.gC, Z.no, fI, fd, h1, h2, init F, F.binds bind, fun s a ws hl => ?_⟩
  obtain ⟨oc, od, kV, doc, pm, an, cdv, ct, osl, rfl, _, _⟩ := F.ex
  exact match ws, hl with | [v], _ => .of_eq (bindk _ _ _ _ _ _ _ _)
end
end KU

set_option Elab.async false
set_option linter.all false
set_option maxRecDepth 100000
set_option maxHeartbeats 4000000
/-! A caught error that is known behind its try -/
namespace KU
open PySem PySem.Spec PyProof.Rows L2 Evl

/-- at a: what was caught, an instance of cls, its dict at d -/
def hxo (a : Addr) (cls : Value) (d : Option Addr) : HO := .ext fun h => ∃ (o : Obj) (vs : Array Value), h.get? a = some o ∧ o.cls = cls ∧ o.dict = d ∧ o.data = .fields vs
theorem hxo_ok {P : Program} {w : World} {H : Hp} {h : Heap} {a : Addr} {cls : Value} {d : Option Addr} {o : Obj} {vs : Array Value} (he : h.get? a = some o) (hc : o.cls = cls) (hd : o.dict = d) (hv : o.data = .fields vs) : ObjOk P w H h a (hxo a cls d) :=
  ⟨⟨o, vs, he, hc, hd, hv⟩, ⟨_, he⟩, fun h1 h2 z k => by
    obtain ⟨o, vs, q, r⟩ := z
    exact ⟨o, vs, k _ q, r⟩⟩
theorem hxo_at {P : Program} {w : World} {H : Hp} {h : Heap} {a : Addr} {cls : Value} {d : Option Addr} (hok : HOk P w H h) (he : H a = some (hxo a cls d)) : ∃ (o : Obj) (vs : Array Value), h.get? a = some o ∧ o.cls = cls ∧ o.dict = d ∧ o.data = .fields vs := by
  have x : ObjOk P w H h a (.ext fun h => ∃ (o : Obj) (vs : Array Value), h.get? a = some o ∧ o.cls = cls ∧ o.dict = d ∧ o.data = .fields vs) := hok a _ he
  exact x.1
theorem track {X : Cx} {pins : List (Addr × Obj)} {σ : L2.St} {H : Hp} {s : Shared} {a : Addr} {o : HO} (I : Inv X pins σ H s) (n0 : X.s_0.heap.get? a = none) (na : H a = none) (nL : a ≠ X.env.locals)
    (nC : ∀ x c, X.env.cells.lookup x = some c → c ≠ a) (np : ∀ p ∈ X.pn ++ pins, p.1 ≠ a) (new : ObjOk X.prog X.w (upd H a o) s.heap a o) : Inv X pins σ (upd H a o) s := by
  have n1 : ∀ b u, X.s_0.heap.get? b = some u → b ≠ a := fun b u e z => by
    rw [z, n0] at e
    cases e
  refine ⟨I.ok, I.os, I.bare, ⟨I.base.keep, I.base.slot, fun b u e n hx => ?_, I.base.there, fun b xs e => ?_, fun b u xs e => ?_, fun b ps e => ?_⟩, I.loc, I.cell, ?_, fun x c e => ?_, fun p hp => ?_, I.hok.laidN (fun _ _ e => e) na new, I.len⟩
  · rw [upd_ne (n1 b u e)]
    exact I.base.free b u e n hx
  · have z := I.base.tups b xs e
    rw [upd_ne (ne_of_none z na)]
    exact z
  · have z := I.base.frzs b u xs e
    rw [upd_ne (ne_of_none z na)]
    exact z
  · obtain ⟨m, z⟩ := I.base.tbls b ps e
    exact ⟨m, by rw [upd_ne (ne_of_none z na)]; exact z⟩
  · rw [upd_ne (Ne.symm nL)]
    exact I.free
  · rw [upd_ne (nC x c e)]
    exact I.freeC x c e
  · obtain ⟨h1, h2, h3⟩ := I.pin p hp
    exact ⟨h1, by rw [upd_ne (np p hp)]; exact h2, h3⟩

/-- an error that has come down over the frames of X: where it stands, and where it does not -/
structure Lone (X : Cx) (pins : List (Addr × Obj)) (sI : Shared) (a : Addr) : Prop where
  frames : a ∉ frs X.stack
  loc : a ≠ X.env.locals
  fs : a ∉ X.fs
  here : sI.heap.get? a = none
  entry : X.s_0.heap.get? a = none
  pins : ∀ p ∈ X.pn ++ pins, p.1 ≠ a
section
variable {X : Cx} {pins : List (Addr × Obj)} {σ : L2.St} {H : Hp} {sI s : Shared} {a : Addr} {B h : Heap} {Z : Obj → Prop}
theorem lone_of (hs : X.stack = X.env :: X.outer) (hf : X.env.frame = some X.env.locals) (hex : X.ex = []) (I : Inv X pins σ H sI) (ground : ∀ b o, sI.heap.get? b = some o → b ∉ frs X.stack → B.get? b = some o)
    (fl : HandSPX.FlyingZ B X.stack a Z h) : Lone X pins sI a := by
  obtain ⟨oe, vs, he, _, hv⟩ := fl.there
  obtain ⟨_, nB, ff, _⟩ := fl
  have out : a ∉ frs X.stack := fun m => by
    obtain ⟨_, o, e, k⟩ := ff.mem m
    cases he.symm.trans e
    exact k _ hv
  have none1 : sI.heap.get? a = none := Option.eq_none_iff_forall_ne_some.mpr fun o e => by
    cases nB.symm.trans (ground a o e out)
  refine ⟨out, fun z => out ?_, fun m => out ?_, none1, Option.eq_none_iff_forall_ne_some.mpr fun o e => ?_, fun p hp z => ?_⟩
  · rw [hs, z]
    exact List.mem_filterMap.mpr ⟨X.env, List.mem_cons_self, hf⟩
  · obtain ⟨en, h1, h2⟩ := List.mem_filterMap.mp m
    rw [hs]
    exact List.mem_filterMap.mpr ⟨en, List.mem_cons_of_mem _ h1, h2⟩
  · obtain ⟨u, q⟩ := I.base.there a o e (by rw [hex]; exact List.not_mem_nil)
    cases none1.symm.trans q
  · have q := (I.pin p hp).1
    rw [z, none1] at q
    cases q
/-- a suite's state, as one of the def with a pin more -/
theorem unpin {oe : Obj} (ok : X.Ok) (S : Inv (X.suite a ((a, oe) :: (X.pn ++ pins))) [] σ H s) : Inv X ((a, oe) :: pins) σ H s := by
  refine { ok := ok, os := S.os, bare := S.bare, base := S.base, loc := S.loc, cell := S.cell, free := S.free, freeC := S.freeC, hok := S.hok, len := S.len, pin := fun p hp => S.pin p (List.mem_append_left _ ?_) }
  rcases List.mem_append.mp hp with m | m
  · exact List.mem_cons_of_mem _ (List.mem_append_left _ m)
  · rcases List.mem_cons.mp m with rfl | m
    · exact List.mem_cons_self
    · exact List.mem_cons_of_mem _ (List.mem_append_right _ m)
theorem drop_pin {q : Addr × Obj} (I : Inv X (q :: pins) σ H s) : Inv X pins σ H s := by
  refine { ok := I.ok, os := I.os, bare := I.bare, base := I.base, loc := I.loc, cell := I.cell, free := I.free, freeC := I.freeC, hok := I.hok, len := I.len, pin := fun p hp => I.pin p ?_ }
  rcases List.mem_append.mp hp with m | m
  · exact List.mem_append_left _ m
  · exact List.mem_append_right _ (List.mem_cons_of_mem _ m)
/-- a pinned error is known from now on -/
theorem know_pin {oe : Obj} {vs : Array Value} {cls : Value} {d : Option Addr} (L : Lone X pins sI a) (hz : Zc cls d oe) (hv : oe.data = .fields vs) (I : Inv X ((a, oe) :: pins) σ H s) : H a = none ∧ Inv X pins σ (upd H a (hxo a cls d)) s := by
  obtain ⟨p1, p2, _, _, p5⟩ := I.pin (a, oe) (List.mem_append_right _ List.mem_cons_self)
  refine ⟨p2, track (drop_pin I) L.entry p2 L.loc (fun x c e z => ?_) L.pins (hxo_ok p1 hz.1 hz.2 hv)⟩
  obtain ⟨v, o, ho, hc⟩ := I.cell x c e
  rw [z] at ho
  cases (show s.heap.get? a = some oe from p1).symm.trans ho
  exact p5 v hc
end
/-- what the clause 'except x as n' (slot i) wishes of errors that it takes: behind it the error is known -/
def wAsK (K : PySem.W.Frag) (c : Value) (i : Nat) (ts : Addr → Value → Option Addr → TS) (D : Ends) : WX := fun cls d σ H => PySem.W.exmOne K cls c = some true ∧
  ∀ a, H a = none → ts a cls d { nx := fun τ G => G a = none → D.nx (τ.set i none) (upd G a (hxo a cls d)), rt := D.rt, bk := fun τ G => D.bk (τ.set i none) G, ct := fun τ G => D.ct (τ.set i none) G } (σ.set i (some (.ref a))) H
section
variable {X : Cx} {x n : Str} {c : Value} {i : Nat} {body suite : List Stmt} {b₀ : Stmt} {np pos pos' : Pos} {tb : WX → TS} {ts : Addr → Value → Option Addr → TS}
/-- the suite, entered on the ground; behind it the name goes -/
theorem suite_run {pins : List (Addr × Obj)} {σ : L2.St} {H : Hp} {sI s : Shared} {a : Addr} {oe : Obj} {vs : Array Value} {cls : Value} {d : Option Addr} {D : Ends} {E1 E2 : Value → Shared → Prop} (hN : X.N.Nodup) (hi : X.N[i]? = some n) (hln : X.env.kindOf n = some .local)
    (L : Lone X pins sI a) (hz : Zc cls d oe) (hv : oe.data = .fields vs) (he : s.heap.get? a = some oe) (na : H a = none) (I : Inv X pins σ H s) (S : PSs (X.suite a ((a, oe) :: (X.pn ++ pins))) (b₀ :: suite) (ts a cls d))
    (w : ts a cls d { nx := fun τ G => G a = none → D.nx (τ.set i none) (upd G a (hxo a cls d)), rt := D.rt, bk := fun τ G => D.bk (τ.set i none) G, ct := fun τ G => D.ct (τ.set i none) G } (σ.set i (some (.ref a))) H) :
    wpAny (model X.prog X.w) (X.A.mark (some (.ref a))) (storeName X.env n (.ref a)) (fun _ s1 => wpAny (model X.prog X.w) (X.A.mark (some (.ref a))) (execs (b₀ :: suite) X.env)
      (fun f s2 => wpAny (model X.prog X.w) X.A (do bindName X.env n .none; unbindBehindTheSuite X.env n pos') (fun _ s3 => SP X pins D f s3) X.xe s2) E1 s1) E2 s := by
  have T0 := I.suite he hv na L.loc L.fs
  refine store_ok (X := X.suite a ((a, oe) :: (X.pn ++ pins))) (v := .ref a) T0 hN hi (.inl hln) rfl (fun s1 T1 => ?_) (.inr hln)
  refine wpAny_mono (S.run [] s1 _ H _ T1 w) (fun f s2 r => ?_) fun _ _ z => False.elim z
  have goes : ∀ {τ : L2.St} {G : Hp} {R : Shared → Prop}, Inv (X.suite a ((a, oe) :: (X.pn ++ pins))) [] τ G s2 → (∀ s3, Inv X ((a, oe) :: pins) (τ.set i none) G s3 → R s3) →
      wpAny (model X.prog X.w) X.A (do bindName X.env n .none; unbindBehindTheSuite X.env n pos') (fun _ s3 => R s3) X.xe s2 := fun T2 k => gone_ok (unpin I.ok T2) hN hi hln k
  cases f with
  | next =>
    obtain ⟨τ, G, T2, q⟩ := r
    refine goes T2 fun s3 J => ?_
    obtain ⟨n1, J2⟩ := know_pin L hz hv J
    exact ⟨_, _, J2, q n1⟩
  | ret u =>
    obtain ⟨v, τ, G, T2, rv, q⟩ := r
    exact goes T2 fun s3 J => ⟨v, _, _, drop_pin J, rv, q⟩
  | brk =>
    obtain ⟨τ, G, T2, q⟩ := r
    exact goes T2 fun s3 J => ⟨_, _, drop_pin J, q⟩
  | cont =>
    obtain ⟨τ, G, T2, q⟩ := r
    exact goes T2 fun s3 J => ⟨_, _, drop_pin J, q⟩
/-- try: body / except x as n: suite, where the clause takes whatever comes -/
theorem ps_try_asK (hs : X.stack = X.env :: X.outer) (hf : X.env.frame = some X.env.locals) (hex : X.ex = []) (hN : X.N.Nodup) (hi : X.N[i]? = some n) (hln : X.env.kindOf n = some .local) (hc : Names X x c)
    (hb : ∀ (W : WX) (pn : List (Addr × Obj)) (xe : Value → Shared → Prop), Takes (X.tr pn xe) W → PSs (X.tr pn xe) body (tb W))
    (hsu : ∀ (a : Addr) (oe : Obj) (cls : Value) (d : Option Addr) (pn : List (Addr × Obj)), PSs (X.suite a ((a, oe) :: pn)) (b₀ :: suite) (ts a cls d)) :
    PS X (.Try body [.ExceptHandler (some (.Name x np)) (some n) (b₀ :: suite) pos'] [] [] pos) (fun D σ H => tb (wAsK X.K c i ts D) D σ H) := by
  refine ⟨fun pins s σ H D I h => wpAny_Try_except ?_⟩
  have frm : X.A.frames = some (X.env :: X.outer) := by rw [I.ok.frames, hs]
  refine wpAny_mono ((hb (wAsK X.K c i ts D) (X.pn ++ pins) _ fun u s1 air => ?_).run [] s σ H D (I.toTry fun e s1 => wpAny (model X.prog X.w) X.A (noteFrame e X.env) (fun _ s2 => wpAny (model X.prog X.w) X.A (setFlight e none) (fun _ s3 =>
      wpAny (model X.prog X.w) X.A (handleBy e X.env [.ExceptHandler (some (.Name x np)) (some n) (b₀ :: suite) pos']) (SP X pins D) X.xe s3) X.xe s2) X.xe s1) h) (fun f s1 r => ?_) fun _ _ z => z
  · obtain ⟨a, B, sI, pins', τ, G, cls, d, rfl, J0, ground, up, sky, na, os, bare, takes, run⟩ := air
    have J := J0.ofTry I.ok
    have sky : Sky B (X.env :: X.outer) a (Zc cls d) X.env.locals s1.heap := by
      rw [← hs]
      exact sky
    refine (?_ : wpAny (model X.prog X.w) X.A (noteFrame (.ref a) X.env) _ _ s1)
    refine Sky.land Zc.steady frm hf sky fun h2 fl2 up2 => ?_
    have L : Lone X pins sI a := lone_of (h := h2) hs hf hex J ground (by rw [hs]; exact fl2)
    have J2 : Inv X pins τ G { s1 with heap := h2 } := J.landed ground fl2.1 (up.trans up2) os bare
    obtain ⟨o2, v2, e2, z2, d2⟩ := fl2.there
    have S2 := J2.suite e2 d2 na L.loc L.fs
    refine wpAny_handleBy_cons (codeAny_handlers_test ?_) fun q => nomatch q
    have cl : PySem.W.Looks (model X.prog X.w) h2 (typeOf (.ref a)) cls := fun _ _ _ _ k q => wpAny_typeOf_ref (k _ _ e2) (by rw [z2.1]; exact q)
    have name : ∀ {R E : Value → Shared → Prop}, R c { s1 with heap := h2 } → wpAny (model X.prog X.w) (X.A.mark (some (.ref a))) (eval (.Name x np) X.env) R E { s1 with heap := h2 } := fun q => by
      obtain ⟨g1, g2, g3 | ⟨g3, g4, g5⟩⟩ := hc
      · exact ld_glob (X := X.suite a ((a, o2) :: (X.pn ++ pins))) S2 g1 g3 q g2
      · exact ld_blt (X := X.suite a ((a, o2) :: (X.pn ++ pins))) S2 g1 g3 g4 q g5 g2
    refine name ((PySem.W.exm_one (M := model X.prog X.w) J2.kIn cl takes).here ?_)
    refine codeAny_handlers_suite_as (HandSPX.lands_againZ fl2 fun h3 fl3 up3 => ?_)
    have J3 : Inv X pins τ G { s1 with heap := h3 } := J.landed ground fl3.1 ((up.trans up2).trans up3) os bare
    obtain ⟨o3, v3, e3, z3, d3⟩ := fl3.there
    exact suite_run hN hi hln L z3 d3 e3 na J3 (hsu a o3 cls d _) (run a na)
  · cases f with
    | next =>
      obtain ⟨τ, G, J, q⟩ := r
      exact wpAny_execs_nil ⟨τ, G, J.ofTry I.ok, q⟩
    | ret u =>
      obtain ⟨v, τ, G, J, rv, q⟩ := r
      exact ⟨v, τ, G, J.ofTry I.ok, rv, q⟩
    | brk =>
      obtain ⟨τ, G, J, q⟩ := r
      exact ⟨τ, G, J.ofTry I.ok, q⟩
    | cont =>
      obtain ⟨τ, G, J, q⟩ := r
      exact ⟨τ, G, J.ofTry I.ok, q⟩
end

/-! ### its class and its fields -/
/-- a caught error at a: of the class at C, its fields fs -/
def CauAt (H : Hp) (a C : Addr) (fs : List (Str × V)) : Prop := ∃ d, H a = some (hxo a (.ref C) (some d)) ∧ H d = some (.xd fs)
theorem CauAt.mono {H H' : Hp} {a C : Addr} {fs : List (Str × V)} (x : Evl.Ex H H') (h : CauAt H a C fs) : CauAt H' a C fs := by
  obtain ⟨d, h1, h2⟩ := h
  exact ⟨d, x _ _ h1, x _ _ h2⟩
section
variable {X : Cx} {pins : List (Addr × Obj)} {σ : L2.St} {H : Hp} {s : Shared} {e : Expr} {te : TE} {f : Str} {pos : Pos}
theorem cau_inst {a C : Addr} {fs : List (Str × V)} (I : Inv X pins σ H s) (h : CauAt H a C fs) : ∃ (o od : Obj) (d : Addr) (mA : Str → Option Value), PySem.W.InstAt s.heap a o C (some od) ∧ s.heap.Ns1 d mA ∧ s.heap.get? d = some od ∧
    (∀ f, RelO (fs.lookup f) (mA f)) ∧ ∀ f, PySem.W.lookIn f od = some (mA f) := by
  obtain ⟨d, h1, h2⟩ := h
  obtain ⟨o, vs, ho, hc, hd, hv⟩ := hxo_at I.hok h1
  have hx : ObjOk X.prog X.w H s.heap d (.xd fs) := I.hok d _ h2
  obtain ⟨mA, hns, rel⟩ := hx
  obtain ⟨od, hod, hlk⟩ := lookIn_ns hns
  exact ⟨o, od, d, mA, ⟨ho, hc, by unfold PySem.W.notCls; rw [hv] <;> rfl, by rw [hd]; exact hod⟩, hns, hod, rel, hlk⟩
/-- e.f of a caught error -/
def tCauF (K : PySem.W.Frag) (f : Str) (te : TE) : TE := fun σ H Q => te σ H fun x H1 => ∃ (a C : Addr) (fs : List (Str × V)) (v : V), x = .ref a ∧ ExcC K C ∧ PySem.W.findIn K (.ref C) f = some none ∧
  CauAt H1 a C fs ∧ fs.lookup f = some v ∧ Q v H1
theorem pe_cauF (he : PE X e te) (hb : attributeBase e f X.env (eval e X.env) = eval e X.env := by rfl) : PE X (.Attribute e f pos) (tCauF X.K f te) := by
  refine ⟨fun pins s σ H Q I h => ?_⟩
  refine attr_of hb (thn (he.run pins s σ H _ I h) fun u s1 ⟨x, H1, I1, rx, a, C, fs, v, ex, T, no, at_, lk, q⟩ => ?_)
  subst ex
  obtain rfl : u = Value.ref a := rx
  obtain ⟨o, od, d, mA, J, hns, hod, rel, hlk⟩ := cau_inst I1 at_
  obtain ⟨y, hy, ry⟩ := RelO.some_of (v := v) (o := mA f) (by rw [← lk]; exact rel f)
  exact HandSPX.exc_get I1.kIn J T.hg T.hk T.hs (PySem.W.findObj_own T.hd no rfl (by rw [hlk, hy])) (handed_of ry) ⟨v, H1, I1.tok _, ry, q⟩
/-- isinstance(e, c), e a caught error -/
def rIsCau (K : PySem.W.Frag) : List V → Hp → VK → Prop := fun xs H Q => ∃ (a C : Addr) (fs : List (Str × V)) (c : V) (u : Value) (b : Bool), xs = [.ref a, c] ∧ ClsV c u ∧ ExcC K C ∧ CauAt H a C fs ∧
  PySem.W.kitOne K (.ref C) u = some b ∧ Q (.bl b) H
theorem call_isCau : CallR X (.builtin "isinstance") (rIsCau X.K) := by
  intro pins s σ H xs us Q I r h
  obtain ⟨a, C, fs, c, w, b, rfl, k, T, at_, e, q⟩ := h
  obtain ⟨u1, u2, rfl, r1, r2⟩ := vals2 r
  obtain rfl : u1 = Value.ref a := r1
  have e2 := k.eq r2
  subst e2
  have hc : (PySem.W.clsIn X.K C).isSome = true := by
    have z := T.hd
    unfold PySem.W.hasDictIn at z
    cases q : PySem.W.clsIn X.K C with
    | none =>
      rw [q] at z
      cases z
    | some cd => rfl
  have fin : ∀ tk, EP X pins σ Q (.bool b) { s with toks := tk } := fun tk => ⟨.bl b, H, I.tok tk, rfl, q⟩
  obtain ⟨o, od, d, mA, J, hns, hod, rel, hlk⟩ := cau_inst I at_
  exact PySem.W.kia_one (PySem.W.kitx_exc hc T.hg T.hk T.hs T.ha T.hn T.ht T.hm) I.kIn J e (fun z => nomatch z) fin
end
section
variable {K : PySem.W.Frag} {σ : L2.St} {H : Hp} {ta : TE} {f : Str}
theorem ev_cauF {e C : Addr} {fs : List (Str × V)} {v : V} (T : ExcC K C) (no : PySem.W.findIn K (.ref C) f = some none) (at_ : CauAt H e C fs) (lk : fs.lookup f = some v) (h : Ev ta σ H (.ref e)) : Ev (tCauF K f ta) σ H v := fun H1 x Q q =>
  h H1 x _ fun H2 x2 => ⟨e, C, fs, v, rfl, T, no, at_.mono (x.trans x2), lk, q H2 x2⟩
theorem ev_isCau {e C : Addr} {fs : List (Str × V)} {c : V} {u : Value} {b : Bool} (T : ExcC K C) (k : ClsV c u) (at_ : CauAt H e C fs) (hb : PySem.W.kitOne K (.ref C) u = some b) (h : Ev ta σ H (.ref e)) : Ev (tCB (rIsCau K) (tCons ta (tCons (tC c) tNil))) σ H (.bl b) :=
  ev_cb (ea_cons h (ea_cons ev_c ea_nil)) fun H1 x _ q => ⟨e, C, fs, c, u, b, rfl, k, T, at_.mono x, hb, q H1 (Ex.refl H1)⟩
end
/-! ### an own error raised -/
section
variable {X : Cx} {x : Str} {C : Addr} {f : Str} {p pos pos2 : Pos} {e : Expr} {ta : TA} {W : WX}
/-- raise C(e), C with one field -/
def tRaise1 (K : PySem.W.Frag) (C : Addr) (f : Str) (W : WX) (ta : TA) : TS := fun _ σ H => tMkO C (spI1 K f) [] ta σ H fun cls d H' => W cls d σ H'
theorem ps_raise1 (hc : X.calm = true) (tk : Takes X W) (Z : Cl X.prog X.w X.K X.mg X.base x C [f] (spI1 X.K f)) (hr : Room 2 X.A) (ha : PA X [e] ta) (hg : Gl X x := by rfl) (hdb : (x == ("__debug__" : Str)) = false := by decide)
    (he : starEach [e] X.env = (false, eval e X.env) :: starEach [] X.env := by rfl) (hpl : (backTo pos (starEach [] X.env)).any (·.1) = false := by rfl) :
    PS X (.Raise (some (.Call (.Name x p) [e] [] pos)) none pos2) (tRaise1 X.K C f W ta) := by
  obtain ⟨fI, fd, i1, i2, G, b, _⟩ := Z.fn
  exact ps_raise (pos := pos2) hc tk (pmk_oex (CX := CX0) (dvs := []) (ds := []) (pos := pos) (p := p) Z.oex i1 i2 G hr b .nil pass0 hg Z.gC ha hdb he hpl)
theorem s_raise1 {K : PySem.W.Frag} {σ : L2.St} {H : Hp} {D : Ends} {v : V} (T : OexC K C) (no : PySem.W.findIn K (.ref C) f = some none) (h : EvA ta σ H [v])
    (k : ∀ d H2, Ex H H2 → H2 d = some (.xd [(f, v)]) → W (.ref C) (some d) σ H2) : tRaise1 K C f W ta D σ H := by
  unfold tRaise1 tMkO
  refine h H (Ex.refl _) _ fun H1 x1 => ⟨(by show 1 ≤ 1000; decide), fun a hn => ⟨a, C, v, rfl, T, no, upd_same, fun dx hd ne => ⟨rfl, dx, [(f, v)], upd_same, by rw [upd_ne ne]; exact upd_same, ?_, ?_⟩⟩⟩
  · rw [upd_ne ne] at hd
    exact hd
  · rw [upd_ne ne] at hd
    refine k dx _ (fun b o e => ?_) upd_same
    have e := x1 b o e
    have n1 : b ≠ dx := ne_of_none e hd
    have n2 : b ≠ a := ne_of_none e hn
    rw [upd_ne n1, del_ne n2, upd_ne n2, upd_ne n1, upd_ne n2]
    exact e
end
end KU

set_option Elab.async false
set_option linter.all false
set_option maxRecDepth 100000
set_option maxHeartbeats 4000000
/-! Errors of two fields raised; more facts of their classes -/
namespace KU
open PySem PySem.Spec PyProof.Rows L2 Evl
section
variable {X : Cx} {x : Str} {C : Addr} {f g : Str} {p pos pos2 : Pos} {e e2 : Expr} {ta : TA} {W : WX}
/-- raise C(e, e2), C with two fields -/
def tRaise2 (K : PySem.W.Frag) (C : Addr) (f g : Str) (W : WX) (ta : TA) : TS := fun _ σ H => tMkO C (spI2 K f g) [] ta σ H fun cls d H' => W cls d σ H'
theorem ps_raise2 (hc : X.calm = true) (tk : Takes X W) (Z : Cl X.prog X.w X.K X.mg X.base x C [f, g] (spI2 X.K f g)) (hr : Room 2 X.A) (ha : PA X [e, e2] ta) (hg : Gl X x := by rfl) (hdb : (x == ("__debug__" : Str)) = false := by decide)
    (he : starEach [e, e2] X.env = (false, eval e X.env) :: starEach [e2] X.env := by rfl) (hpl : (backTo pos (starEach [e2] X.env)).any (·.1) = false := by rfl) :
    PS X (.Raise (some (.Call (.Name x p) [e, e2] [] pos)) none pos2) (tRaise2 X.K C f g W ta) := by
  obtain ⟨fI, fd, i1, i2, G, b, _⟩ := Z.fn
  exact ps_raise (pos := pos2) hc tk (pmk_oex (CX := CX0) (dvs := []) (ds := []) (pos := pos) (p := p) Z.oex i1 i2 G hr b .nil pass0 hg Z.gC ha hdb he hpl)
theorem s_raise2 {K : PySem.W.Frag} {σ : L2.St} {H : Hp} {D : Ends} {v w : V} (T : OexC K C) (no : PySem.W.findIn K (.ref C) f = some none) (no2 : PySem.W.findIn K (.ref C) g = some none) (h : EvA ta σ H [v, w])
    (k : ∀ d H2, Ex H H2 → H2 d = some (.xd [(g, w), (f, v)]) → W (.ref C) (some d) σ H2) : tRaise2 K C f g W ta D σ H := by
  unfold tRaise2 tMkO
  refine h H (Ex.refl H) _ fun H1 x1 => ⟨(by show 2 ≤ 1000; decide), fun a hn => ⟨a, C, v, w, rfl, T, no, no2, upd_same, fun dx H' hd ne h1 h2 h3 => ⟨rfl, dx, [(g, w), (f, v)], h1, h2, ?_, ?_⟩⟩⟩
  · rw [upd_ne ne] at hd
    exact hd
  · rw [upd_ne ne] at hd
    refine k dx _ (fun b o e => ?_) upd_same
    have e := x1 b o e
    have n1 : b ≠ dx := ne_of_none e hd
    have n2 : b ≠ a := ne_of_none e hn
    rw [upd_ne n1, del_ne n2, h3 b n2 n1, upd_ne n2]
    exact e
end
/-- a class with two fields, its __init__ being read -/
theorem cl2_of {P : Program} {w : World} {K : PySem.W.Frag} {mg : Str → Option Value} {base : Heap} {x q f g : Str} {st : Stmt} {C : Addr} (gb : getB K = true) (Z : ClF K mg x q st C [f, g]) (init : ∀ {fI : Addr} {fd : FuncData}, Fun K "__init__" q st fI fd → FnOk P w K mg base CX0 1 fI fd ["self", f, g] (spI2 K f g))
    (bind : ∀ (kV doc pm : Value) (an : Option Addr) (cdv ct : Value) (us : List Value), us.length = (["self", f, g] : List Str).length → bindArgs (PySem.W.fnOf "__init__" q (defArgs st) (defBody st) (defScope st) .none kV doc pm an cdv ct) ⟨us, []⟩ = pure ((["self", f, g] : List Str).zip us))
    (bindk : ∀ (kV doc pm : Value) (an : Option Addr) (cdv ct a v u : Value), bindArgs (PySem.W.fnOf "__init__" q (defArgs st) (defBody st) (defScope st) .none kV doc pm an cdv ct) ⟨[a], [(g, v), (f, u)]⟩ = pure [(("self" : Str), a), (f, u), (g, v)]) : Cl P w K mg base x C [f, g] (spI2 K f g) := by
  obtain ⟨fI, fd, h1, h2, F⟩ := Z.fn
  refine ⟨Z.oex, exc_of gb Z.ga Z.gg Z.oex.exC Z.hd Z.ha Z.hm, Z.gC, Z.no, fI, fd, h1, h2, init F, F.binds bind, fun s a ws hl => ?_⟩
  obtain ⟨oc, od, kV, doc, pm, an, cdv, ct, osl, rfl, _, _⟩ := F.ex
  exact match ws, hl with | [v, u], _ => .of_eq (bindk _ _ _ _ _ _ _ _ _)
theorem or_fn {P : Program} {w : World} {K : PySem.W.Frag} {mg : Str → Option Value} {base : Heap} {CX : CXT} {k : Nat} {f : Addr} {fd : FuncData} {ps : List Str} {sp1 sp2 : Sp} (F : FnOk P w K mg base CX k f fd ps sp1) (G : FnOk P w K mg base CX k f fd ps sp2) : FnOk P w K mg base CX k f fd ps (fun vs H Q E => sp1 vs H Q E ∨ sp2 vs H Q E) :=
  ⟨fun vs H Q E h => h.elim (F.len vs H Q E) (G.len vs H Q E), fun A outer s H args us vs Q E hr e0 hb r h => h.elim (F.run A outer s H args us vs Q E hr e0 hb r) (G.run A outer s H args us vs Q E hr e0 hb r)⟩
end KU

set_option Elab.async false
set_option linter.all false
set_option maxRecDepth 100000
set_option maxHeartbeats 4000000
/-! Own classes: operators, comparisons, len, str, in by the class's own defs -/
namespace KU
open PySem PySem.Spec PyProof.Rows L2
section
variable {X : Cx} {CX : CXT} {pins : List (Addr × Obj)} {σ : L2.St} {H : Hp} {s : Shared} {C g : Addr} {n : Nat} {sp : Sp} {E : XK}
theorem ins_at {a dx : Addr} {fs : List (Str × V)} (I : Inv X pins σ H s) (h : H a = some (.ins C dx fs)) : ∃ od, PySem.W.InstAt s.heap a (PySem.W.instObj C dx) C (some od) := by
  obtain ⟨mA, O, _⟩ := ins_get I.hok h
  obtain ⟨od, J, _⟩ := O.look
  exact ⟨od, J⟩
/-- an own def is called by values -/
theorem own_call {A : Around} {Q : VK} {us : List Value} {vs : List V} (F : FnR X.prog X.w X.K X.mg X.base CX n g sp) (hr : Room n A) (e0 : Env0 X.prog X.w X.K X.mg X.base A X.stack s H) (hx : Passes CX X E)
    (I : Inv X pins σ H s) (r : Vals vs us) (h : sp vs H Q E) : wpAny (model X.prog X.w) A (call (.ref g) us) (EP X pins σ Q) X.xe s :=
  wpAny_call (SlX.run_at F hr e0 hx I r h)
/-- a compared with b, a and b instances, by the own def of a's class -/
def rCmpI (K : PySem.W.Frag) (C : Addr) (sp : Sp) (E : XK) : R2 := fun x y H Q => ∃ (a dx : Addr) (fs : List (Str × V)) (b C' dy : Addr) (gs : List (Str × V)), x = .ref a ∧ y = .ref b ∧ H a = some (.ins C dx fs) ∧ H b = some (.ins C' dy gs) ∧
  PySem.W.notFirst K C (.ref C') = true ∧ sp [x, y] H Q E
theorem op_cmpI {op : CmpOp} (hop : ∀ a b, compareOp op a b = richCompare op a b) (hs : PySem.W.findIn X.K (.ref C) (cmpInfo op).2.1 = some (some (.ref g))) (hf : PySem.W.isFn X.K (.ref g) = true)
    (F : FnR X.prog X.w X.K X.mg X.base CX n g sp) (hr : Room n X.A) (hx : Passes CX X E) : OpR X (compareOp op) (rCmpI X.K C sp E) := by
  intro pins s σ H x y u v Q I rx ry h
  obtain ⟨a, dx, fs, b, C', dy, gs, rfl, rfl, ha, hb, nf, q⟩ := h
  obtain rfl : u = Value.ref a := rx
  obtain rfl : v = Value.ref b := ry
  obtain ⟨od, Ja⟩ := ins_at I ha
  obtain ⟨oe, Jb⟩ := ins_at I hb
  obtain ⟨m, fr⟩ := I.fr
  rw [hop]
  refine PySem.W.cmp_K (Nat.lt_of_le_of_lt (Nat.le_add_right _ 64) hr.units) fr I.ok.mod.kin Ja Jb.type nf hs hf ?_
  exact wpAny_mono (own_call F hr I.env0 hx I (vs := [.ref a, .ref b]) (.cons rfl (.cons rfl .nil)) q) (fun u s' ⟨z, H', I', rz, qz⟩ => SlX.cmpback rz ⟨z, H', I', rz, qz⟩) fun e s' z => z
/-- a op b, both of one class, by its own def -/
def rBinI (C : Addr) (sp : Sp) (E : XK) : R2 := fun x y H Q => ∃ (a dx : Addr) (fs : List (Str × V)) (b dy : Addr) (gs : List (Str × V)), x = .ref a ∧ y = .ref b ∧ H a = some (.ins C dx fs) ∧ H b = some (.ins C dy gs) ∧ sp [x, y] H Q E
theorem op_binI {op : Operator} (sf : PySem.W.selfFirst X.K C = true) (hs : PySem.W.findIn X.K (.ref C) (dunder op.info.2) = some (some (.ref g))) (hf : PySem.W.isFn X.K (.ref g) = true)
    (F : FnR X.prog X.w X.K X.mg X.base CX n g sp) (hr : Room n X.A) (hx : Passes CX X E) : OpR X (binaryOp op) (rBinI C sp E) := by
  intro pins s σ H x y u v Q I rx ry h
  obtain ⟨a, dx, fs, b, dy, gs, rfl, rfl, ha, hb, q⟩ := h
  obtain rfl : u = Value.ref a := rx
  obtain rfl : v = Value.ref b := ry
  obtain ⟨od, Ja⟩ := ins_at I ha
  obtain ⟨oe, Jb⟩ := ins_at I hb
  obtain ⟨m, fr⟩ := I.fr
  refine PySem.W.binop_K fr I.ok.mod.kin Ja Jb.type sf hs hf ?_
  exact wpAny_mono (own_call F hr I.env0 hx I (vs := [.ref a, .ref b]) (.cons rfl (.cons rfl .nil)) q) (fun u s' ⟨z, H', I', rz, qz⟩ => SlX.cmpback rz ⟨z, H', I', rz, qz⟩) fun e s' z => z
/-- len(a) -/
def rLenI (C : Addr) (sp : Sp) (E : XK) : List V → Hp → VK → Prop := fun xs H Q => ∃ (a dx : Addr) (fs : List (Str × V)), xs = [.ref a] ∧ H a = some (.ins C dx fs) ∧ sp [.ref a] H (fun z H' => ∃ k : Nat, z = .int (k : Int) ∧ k < 9223372036854775808 ∧ Q (.int (k : Int)) H') E
theorem call_lenI (hs : PySem.W.findIn X.K (.ref C) "__len__" = some (some (.ref g))) (hf : PySem.W.isFn X.K (.ref g) = true)
    (F : FnR X.prog X.w X.K X.mg X.base CX n g sp) (hr : Room (n + 1) X.A) (hx : Passes CX X E) : CallR X (.builtin "len") (rLenI C sp E) := by
  intro pins s σ H xs us Q I r h
  obtain ⟨a, dx, fs, rfl, ha, q⟩ := h
  obtain ⟨u, rfl, r1⟩ := vals1 r
  obtain rfl : u = Value.ref a := r1
  obtain ⟨od, Ja⟩ := ins_at I ha
  obtain ⟨m, fr⟩ := I.fr
  refine PySem.W.len_K fr I.ok.mod.kin Ja hs hf ?_
  refine wpAny_mono (own_call F hr.in1 I.env0.in1 hx I (vs := [.ref a]) (.cons rfl .nil) q) (fun u s' ⟨z, H', I', rz, k, ez, hk, qz⟩ => ?_) fun e s' z => z
  subst ez
  obtain ⟨t, rfl⟩ := rz
  exact ⟨⟨by omega, by omega⟩, ⟨.int (k : Int), H', I'.tok _, ⟨_, rfl⟩, qz⟩⟩
/-- str(a) -/
def rStrI (C : Addr) (sp : Sp) (E : XK) : List V → Hp → VK → Prop := fun xs H Q => ∃ (a dx : Addr) (fs : List (Str × V)), xs = [.ref a] ∧ H a = some (.ins C dx fs) ∧ sp [.ref a] H (fun z H' => ∃ t : Str, z = .str t ∧ Q (.str t) H') E
theorem call_strI (hs : PySem.W.findIn X.K (.ref C) "__str__" = some (some (.ref g))) (hf : PySem.W.isFn X.K (.ref g) = true)
    (F : FnR X.prog X.w X.K X.mg X.base CX n g sp) (hr : Room (n + 2) X.A) (hx : Passes CX X E) : CallR X (.type "str") (rStrI C sp E) := by
  intro pins s σ H xs us Q I r h
  obtain ⟨a, dx, fs, rfl, ha, q⟩ := h
  obtain ⟨u, rfl, r1⟩ := vals1 r
  obtain rfl : u = Value.ref a := r1
  obtain ⟨od, Ja⟩ := ins_at I ha
  refine PySem.W.kso_call (Nat.lt_of_le_of_lt (Nat.le_add_right _ 64) hr.in1.in1.units) I.kIn Ja hs hf ?_
  refine wpAny_mono (own_call F hr.in1.in1 I.env0.in1.in1 hx I (vs := [.ref a]) (.cons rfl .nil) q) (fun u s' ⟨z, H', I', rz, t, ez, qz⟩ => ?_) fun e s' z => z
  subst ez
  obtain ⟨tk, rfl⟩ := rz
  exact ⟨.str t, H', I', ⟨_, rfl⟩, qz⟩
/-- v in a -/
def rInI (C : Addr) (sp : Sp) (E : XK) : R2 := fun v x H Q => ∃ (a dx : Addr) (fs : List (Str × V)), x = .ref a ∧ H a = some (.ins C dx fs) ∧ sp [.ref a, v] H (fun z H' => ∃ k : Bool, z = .bl k ∧ Q (.bl k) H') E
theorem op_inI (hs : PySem.W.findIn X.K (.ref C) "__contains__" = some (some (.ref g))) (hf : PySem.W.isFn X.K (.ref g) = true)
    (F : FnR X.prog X.w X.K X.mg X.base CX n g sp) (hr : Room n X.A) (hx : Passes CX X E) : OpR X (compareOp .In) (rInI C sp E) := by
  intro pins s σ H v x u w Q I rv rx h
  obtain ⟨a, dx, fs, rfl, ha, q⟩ := h
  obtain rfl : w = Value.ref a := rx
  obtain ⟨od, Ja⟩ := ins_at I ha
  obtain ⟨m, fr⟩ := I.fr
  refine PySem.W.in_K fr I.ok.mod.kin Ja hs hf ?_
  refine wpAny_mono (own_call F hr I.env0 hx I (vs := [.ref a, v]) (.cons rfl (.cons rv .nil)) q) (fun u s' ⟨z, H', I', rz, k, ez, qz⟩ => ?_) fun e s' z => z
  subst ez
  cases rz
  exact wpAny_pure ⟨.bl k, H', I', rfl, qz⟩
end
end KU

set_option Elab.async false
set_option linter.all false
set_option maxRecDepth 100000
set_option maxHeartbeats 4000000
/-! Own classes: what __iter__ tells, walked; truth by len; != by the own == -/
namespace KU
open PySem PySem.Spec PyProof.Rows L2
/-- a def of the text, called where something more is known of what surrounds the call -/
structure FnP (Pre : Around → Shared → Prop) (P : Program) (w : World) (K : PySem.W.Frag) (mg : Str → Option Value) (base : Heap) (CX : CXT) (k : Nat) (f : Addr) (fd : FuncData) (ps : List Str) (sp : Sp) : Prop where
  many : ∀ vs H Q E, sp vs H Q E → vs.length = ps.length
  goes : ∀ (A : Around) (out : List Env) (s : Shared) (H : Hp) (args : Args) (us : List Value) (vs : List V) (Q : VK) (E : XK), Pre A s → Room k A →
    Env0 P w K mg base A out s H → BindsTo s fd args (ps.zip us) → Vals vs us → sp vs H Q E → codeAny (model P w) A (.call (.ref f) args) (CR CX out P w H s Q E) s
theorem FnP.body {Pre : Around → Shared → Prop} {P : Program} {w : World} {K : PySem.W.Frag} {mg : Str → Option Value} {base : Heap} {x qual : Str} {st : Stmt} {f : Addr} {fd : FuncData} {N ps : List Str} {k : Nat} {sp : Sp}
    (F : Fun K x qual st f fd) (S : FnScope N ps (defScope st)) (many : ∀ vs H Q E, sp vs H Q E → vs.length = ps.length)
    (walk : ∀ (cdv : Value) (A : Around) (out : List Env) (s : Shared) (H : Hp) (vs : List V) (Q : VK) (E : XK), Pre A s → Room k (A.deeper (envOfC qual (defScope st) s.heap.objs.size f cdv)) → sp vs H Q E →
      ∃ t, PSs (cxOf CX0 P w K mg base N qual (defScope st) f cdv A out s H E).nox (defBody st) t ∧ t { nx := fun _ H' => Q .non H', rt := Q } (start N vs) H) :
    FnP Pre P w K mg base CX0 (k + 1) f fd ps sp := by
  refine ⟨many, fun A out s H args us vs Q E hg hr e0 hb r hsp => ?_⟩
  obtain ⟨oc, od, kV, doc, pm, an, cdv, ct, osl, rfl, lk, hcd⟩ := F.ex
  have hl := many _ _ _ _ hsp
  have KX : K.In s.heap := e0.mod.kin.keeps fun b o e => (e0.bs b o e).1
  have lim : s.heap.NoLimit := e0.mod.nolimit.keeps fun b o e => (e0.bs b o e).1
  have kinds : ∀ y ∈ ps.zip us, (defScope st).names.lookup y.1 = some .local ∨ ((defScope st).names.lookup y.1 = some .cell ∧ ((cellsFrom (s.heap.objs.size + 1) (defScope st).names []).lookup y.1).isSome = true) := by
    intro ⟨n, v⟩ hy
    rcases S.par n (List.of_mem_zip hy).1 with q | q
    · exact .inl q
    · exact .inr ⟨q, PySem.W.cellsFrom_some _ _ _ (.inl q)⟩
  refine codeAny_call_function hr.depth (KX _ _ lk) rfl S.co S.gen rfl (PySem.W.codeRec_of KX hcd) (hb _ _ _ _ ?_)
  refine wpAny_newFunctionEnv_cells S.kind kinds fun env he s1 x => ?_
  subst he
  refine ⟨lim.keeps x.toInCall.keep, codeAny_func ?_⟩
  obtain ⟨t, ht, hq⟩ := walk cdv A out s H vs Q E hg (hr.deeper _) hsp
  have I : Inv (cxOf CX0 P w K mg base N qual (defScope st) f cdv A out s H E) [] (start N vs) H s1 := inv_start S hr.hd e0 hl r x
  refine wpAny_mono (ht.nox.run [] s1 (start N vs) H _ I hq) (fun fl s' hs => ?_) fun e s' hs => hs
  have last : ∀ {σ' : L2.St} {H' : Hp} {v : V} {u : Value}, Inv (cxOf CX0 P w K mg base N qual (defScope st) f cdv A out s H E) [] σ' H' s' → RelV v u → Q v H' → CE out P w H s Q u s' := by
    intro σ' H' v u J rv q
    exact ⟨v, H', J.os, J.bare, J.base, J.hok, rv, q⟩
  cases fl with
  | next =>
    obtain ⟨σ', H', J, q⟩ := hs
    exact last (v := V.non) (u := Value.none) J rfl q
  | ret u =>
    obtain ⟨v, σ', H', J, rv, q⟩ := hs
    exact last J rv q
  | brk =>
    obtain ⟨_, _, _, q⟩ := hs
    exact q.elim
  | cont =>
    obtain ⟨_, _, _, q⟩ := hs
    exact q.elim
section
variable {X : Cx} {CX : CXT} {pins : List (Addr × Obj)} {σ : L2.St} {H : Hp} {s : Shared} {C g : Addr} {n : Nat} {sp : Sp} {E : XK}
/-- iter(t), t a tuple, not yet walked -/
def TtO (t it : Addr) : HO := .ext fun h => h.IsTupleIter it t 0
theorem tto_ok {t it : Addr} {P : Program} {w : World} {H : Hp} {h : Heap} (e : h.IsTupleIter it t 0) : ObjOk P w H h it (TtO t it) :=
  ⟨e, by
    obtain ⟨o, ho, _⟩ := e
    exact ⟨o, ho⟩, fun h1 h2 e1 k => by
    obtain ⟨o, ho, hc, hd⟩ := e1
    exact ⟨o, k _ ho, hc, hd⟩⟩
theorem call_iter_of {P : Program} {w : World} {A : Around} {Ex : Value → Shared → Prop} {v : Value} {Q : Value → Shared → Prop} {s : Shared} (h : wpAny (model P w) A.in1 (pyIter v) Q Ex s) :
    wpAny (model P w) A (call (.builtin "iter") [v]) Q Ex s := by
  refine call_function_tree (b := Builtin.iter) (by decide +kernel) (by decide +kernel) rfl rfl ?_
  show wpAny _ _ (someArgs "iter" 1 2 ⟨[v], []⟩ >>= _) _ _ _
  refine wpAny_bind (wpAny_pure ?_)
  exact wpAny_bind (thn h fun u s1 q => wpAny_pure q)
/-- iter(t) as a value: new to the whole call -/
def rIterT (K : PySem.W.Frag) (N : Nat) : List V → Hp → VK → Prop := fun xs H Q => ∃ (t : Addr) (zs : List V), xs = [.ref t] ∧ SqT K H t zs ∧ ∀ it, H it = none → N ≤ it → Q (.ref it) (upd H it (TtO t it))
theorem call_iterT : CallR X (.builtin "iter") (rIterT X.K X.s_0.heap.objs.size) := by
  intro pins s σ H xs us Q I r h
  obtain ⟨t, zs, rfl, hs, q⟩ := h
  obtain ⟨u, rfl, r1⟩ := vals1 r
  obtain rfl : u = Value.ref t := r1
  obtain ⟨its, rv, ht, hn⟩ := I.tuple hs
  refine call_iter_of (wpAny_pyIter_tuple (items := its.toArray) ht ?_)
  have e : (s.heap.push { cls := Value.type "tuple_iterator", data := Data.fields #[Value.ref t, Value.int 0 0] }).IsTupleIter s.heap.objs.size t 0 := ⟨_, Heap.get?_push_size _ rfl, rfl, rfl⟩
  exact ⟨.ref s.heap.objs.size, _, I.laid (fun b u hb => Heap.get?_push_of_some _ hb) (Nat.le_refl _) (tto_ok e), rfl, q _ (I.hok.fresh (Nat.le_refl _)) I.sz⟩
/-- for .. in e, e an instance: by its own __iter__, which tells an iterator over a tuple -/
def iOwn (K : PySem.W.Frag) (C : Addr) (N : Nat) (sp : Sp) (te : TE) : TI := fun σ H R => te σ H fun x H1 => ∃ (a dx : Addr) (fs : List (Str × V)), x = .ref a ∧ H1 a = some (.ins C dx fs) ∧
  sp [.ref a] H1 (fun z H2 => ∃ it t, z = .ref it ∧ N ≤ it ∧ H2 it = some (TtO t it) ∧ R (Itt K t) (ItX.dropH H2 it)) fun _ _ _ => False
theorem spec_tit {M : Model} {A : Around} {Ex : Value → Shared → Prop} {s : Shared} {it t : Addr} {i : Nat} {Q : Option Value → Shared → Prop} (h : s.heap.IsTupleIter it t i) (q : ∀ v, Q (some v) s) :
    wpAny M A (specialOf (.ref it) "__next__") Q Ex s := by
  obtain ⟨o, ho, hc, _⟩ := h
  unfold specialOf
  refine wpAny_bind (wpAny_typeOf_ref ho ?_)
  rw [hc]
  have e : typeLookup (.type "tuple_iterator") "__next__" = pure (some (.builtin "tuple_iterator.__next__")) := rfl
  rw [e]
  exact wpAny_pure (q _)
theorem pi_own {tg e : Expr} {te : TE} {k : Nat} {fd : FuncData} {ps : List Str} {spN : Nat → Sp} (he : PE X e te) (hs : PySem.W.findIn X.K (.ref C) "__iter__" = some (some (.ref g))) (hf : PySem.W.isFn X.K (.ref g) = true)
    (F : ∀ N, FnP (fun _ s => N ≤ s.heap.objs.size) X.prog X.w X.K X.mg X.base CX0 k g fd ps (spN N)) (hb : Binds X.K fd ps []) (hr : Room k X.A) : PI X tg e (iOwn X.K C X.s_0.heap.objs.size (spN X.s_0.heap.objs.size) te) := by
  refine ⟨fun pins s σ H R I h => thn (he.run pins s σ H _ I h) fun u s1 ⟨x, H1, I1, rx, a, dx, fs, ex, ha, q⟩ => ?_⟩
  subst ex
  obtain rfl : u = Value.ref a := rx
  obtain ⟨od, Ja⟩ := ins_at I1 ha
  obtain ⟨m, fr⟩ := I1.fr
  refine PySem.W.owit_iter fr I1.ok.mod.kin Ja hs hf ?_
  refine wpAny_call (codeAny_mono ((F _).goes X.A X.stack s1 H1 ⟨[.ref a], []⟩ [.ref a] [.ref a] _ (fun _ _ _ => False) I1.sz hr I1.env0 ?_ (.cons rfl .nil) q) fun rs s' back => ?_)
  · have hl := (F _).many _ _ _ _ q
    have z := hb s1 [.ref a] I1.kIn (by rw [List.append_nil]; exact hl)
    rw [List.append_nil] at z
    exact z
  cases rs with
  | error er => exact back.elim
  | ok fl =>
    cases fl with
    | ret u =>
      obtain ⟨v, H', I3, rv, it, t, ev, hN, hit, hR⟩ := I1.after back
      subst ev
      obtain rfl : u = Value.ref it := rv
      have at_ : s'.heap.IsTupleIter it t 0 := (I3.hok _ _ hit).1
      refine spec_tit at_ fun _ => ?_
      exact ⟨it, [it], _, Itt X.K t, ItX.dropH H' it, rfl, ItX.inv_drop I3 hit, turn_tuple t it, at_, fun b hb' => by
        obtain rfl := List.mem_singleton.mp hb'
        exact ItX.inv_fp I3 hit hN, hR⟩
    | next => exact back.elim
    | brk => exact back.elim
    | cont => exact back.elim
end
end KU

set_option Elab.async false
set_option linter.all false
set_option maxRecDepth 100000
set_option maxHeartbeats 4000000
/-! Comprehensions over tuples, over lists or tuples, over anything that is walked -/
namespace KU
open PySem PySem.Spec PyProof.Rows L2 Evl
section
variable {K : PySem.W.Frag} {σ : L2.St} {H : Hp} {te tl : TE} {t : TT} {xs : List V} {j : Nat} {vs : List Nat}
theorem lc_cw {J : It} {G : Hp → Prop} (w : Walk J xs.length G (YAt xs)) (hG : ∀ H1, Ex H H1 → G H1) (hl : xs.length ≤ 40000) (f : Nat → Bool) (v : Nat → V)
    (hw : ∀ x : V, wipe ((wipe σ vs).set j (some x)) vs = wipe σ vs)
    (ht : ∀ (i : Nat) (x : V) (H1 : Hp), Ex H H1 → xs[i]? = some x → EvT t ((wipe σ vs).set j (some x)) H1 (f i))
    (he : ∀ (i : Nat) (x : V) (H1 : Hp), Ex H H1 → xs[i]? = some x → f i = true → Ev te ((wipe σ vs).set j (some x)) H1 (v i))
    {H1 : Hp} (x1 : Ex H H1) {D : Addr} (hD : H1 D = none) {Q : VK} (q : ∀ (p : Addr) (H2 : Hp), H1 p = none → Ex H1 H2 → H2 p = some (.lst (given xs.length f v)) → Q (.ref p) H2) :
    ∃ W : Nat → Nat → Hp → Prop, (∃ m, W 0 m (upd H1 D (.lst []))) ∧ ∀ (i m : Nat) (H' : Hp), W i m H' → (J.stop i H' ∧ Q (.ref D) H') ∨ (J.go i H' ∧ ∃ Nx : Hp → Prop, (∀ H', Nx H' → ∃ m', m' < m ∧ W (i + 1) m' H') ∧
      ∀ (x : V) (H2 : Hp), J.yld i H' x H2 → gName j x (wipe σ vs) H2 fun σ2 H3 => wipe σ2 vs = wipe σ vs ∧ t σ2 H3 fun b H4 => if b = true then te σ2 H4 fun y H5 => ∃ acc, H5 D = some (.lst acc) ∧ acc.length < sizeLine ∧ Nx (upd H5 D (.lst (acc ++ [y]))) else Nx H4) := by
  refine lc_it w (Pv := fun i H' => Cw H1 f v D i H') ⟨hD, Ex.new hD, upd_same⟩ (fun i H' _ c => hG H' (x1.trans c.2.1)) (fun i x H' H2 hi c y => ?_) fun H' c => q D H' hD c.2.1 c.2.2
  obtain ⟨rfl, hx⟩ := y
  exact ⟨hw x, cw_turn c (by omega) (ht i x H1 x1 hx) (he i x H1 x1 hx)⟩
theorem el_lcT {a : Addr} (f : Nat → Bool) (v : Nat → V) (hx : Ev tl σ H (.ref a)) (hs : SqT K H a xs) (hl : xs.length ≤ 40000)
    (hw : ∀ x : V, wipe ((wipe σ vs).set j (some x)) vs = wipe σ vs)
    (ht : ∀ (i : Nat) (x : V) (H1 : Hp), Ex H H1 → xs[i]? = some x → EvT t ((wipe σ vs).set j (some x)) H1 (f i))
    (he : ∀ (i : Nat) (x : V) (H1 : Hp), Ex H H1 → xs[i]? = some x → f i = true → Ev te ((wipe σ vs).set j (some x)) H1 (v i)) : EvL (tLc (iTup K tl) (gName j) t te vs) σ H (given xs.length f v) := by
  intro H1 x1 Q q
  refine hx H1 x1 _ fun H2 x2 => ⟨a, rfl, ⟨xs, ex_t (x1.trans x2) hs⟩, fun D hD => ?_⟩
  exact lc_cw walk_tup (fun H3 x3 => ex_t x3 hs) hl f v hw ht he (x1.trans x2) hD fun p H3 hp x3 e => q p H3 (fresh_back x2 hp) (x2.trans x3) e
/-- a list or a tuple that a name holds, walked -/
def iSeqV (K : PySem.W.Frag) (i : Nat) : TI := fun σ H R => ∃ a xs, σ[i]? = some (some (.ref a)) ∧ ((SqL K H a xs ∧ R (Itl K a) H) ∨ (SqT K H a xs ∧ R (Itt K a) H))
theorem pi_seqV {X : Cx} {tg e : Expr} {i : Nat} (he : PE X e (tVar i)) : PI X tg e (iSeqV X.K i) := by
  refine ⟨fun pins s σ H R I h => ?_⟩
  obtain ⟨a, xs, hv, h⟩ := h
  rcases h with ⟨hs, r⟩ | ⟨hs, r⟩
  · exact (pi_list he).run pins s σ H R I ⟨_, hv, a, rfl, ⟨xs, hs⟩, r⟩
  · exact (pi_tup he).run pins s σ H R I ⟨_, hv, a, rfl, ⟨xs, hs⟩, r⟩
theorem el_lcS {a : Addr} {i : Nat} (f : Nat → Bool) (v : Nat → V) (hx : σ[i]? = some (some (.ref a))) (hs : SqL K H a xs ∨ SqT K H a xs) (hl : xs.length ≤ 40000)
    (hw : ∀ x : V, wipe ((wipe σ vs).set j (some x)) vs = wipe σ vs)
    (ht : ∀ (i : Nat) (x : V) (H1 : Hp), Ex H H1 → xs[i]? = some x → EvT t ((wipe σ vs).set j (some x)) H1 (f i))
    (he : ∀ (i : Nat) (x : V) (H1 : Hp), Ex H H1 → xs[i]? = some x → f i = true → Ev te ((wipe σ vs).set j (some x)) H1 (v i)) : EvL (tLc (iSeqV K i) (gName j) t te vs) σ H (given xs.length f v) := by
  intro H1 x1 Q q
  rcases hs with hs | hs
  · refine ⟨a, xs, hx, .inl ⟨ex_l x1 hs, fun D hD => ?_⟩⟩
    exact lc_cw walk_list (fun H3 x3 => ex_l x3 hs) hl f v hw ht he x1 hD q
  · refine ⟨a, xs, hx, .inr ⟨ex_t x1 hs, fun D hD => ?_⟩⟩
    exact lc_cw walk_tup (fun H3 x3 => ex_t x3 hs) hl f v hw ht he x1 hD q
/-- what a comprehension gives, over the items themselves -/
theorem given_map (xs : List α) (f : Nat → Bool) (v : Nat → β) (p : α → Bool) (φ : α → β) (hf : ∀ i x, xs[i]? = some x → f i = p x) (hv : ∀ i x, xs[i]? = some x → v i = φ x) :
    ((List.range xs.length).filter f).map v = (xs.filter p).map φ := by
  induction xs generalizing f v with
  | nil => rfl
  | cons a r ih =>
    have h0 : f 0 = p a := hf 0 a rfl
    have v0 : v 0 = φ a := hv 0 a rfl
    have z := ih (fun i => f (i + 1)) (fun i => v (i + 1)) (fun i x h => hf (i + 1) x (by simpa using h)) fun i x h => hv (i + 1) x (by simpa using h)
    rw [List.length_cons, List.range_succ_eq_map, List.filter_cons, List.filter_cons, h0]
    have m : ((List.map Nat.succ (List.range r.length)).filter f).map v = (r.filter p).map φ := by
      rw [List.filter_map, List.map_map]
      exact z
    split
    · rw [List.map_cons, List.map_cons, m, v0]
    · exact m
theorem given_all (xs : List α) (v : Nat → β) (φ : α → β) (hv : ∀ i x, xs[i]? = some x → v i = φ x) : ((List.range xs.length).filter fun _ => true).map v = xs.map φ := by
  have z := given_map xs (fun _ => true) v (fun _ => true) φ (fun _ _ _ => rfl) hv
  rw [z]
  congr 1
  exact List.filter_eq_self.mpr fun _ _ => rfl
def orNon (φ : V → V) : Option V → V
  | some y => φ y
  | none => .non
def orNo (p : V → Bool) : Option V → Bool
  | some y => p y
  | none => false
theorem given_fm (xs : List V) (p : V → Bool) (φ : V → V) : given xs.length (fun i => orNo p xs[i]?) (fun i => orNon φ xs[i]?) = (xs.filter p).map φ :=
  given_map xs _ _ p φ (fun i x h => by rw [h]; rfl) fun i x h => by rw [h]; rfl
theorem et_yes : EvT tYes σ H true := fun H1 x1 Q q => q H1 (Ex.refl _)
theorem el_fmS {a : Addr} {i : Nat} (p : V → Bool) (φ : V → V) (hx : σ[i]? = some (some (.ref a))) (hs : SqL K H a xs ∨ SqT K H a xs) (hl : xs.length ≤ 40000)
    (hw : ∀ x : V, wipe ((wipe σ vs).set j (some x)) vs = wipe σ vs)
    (ht : ∀ (x : V) (H1 : Hp), Ex H H1 → x ∈ xs → EvT t ((wipe σ vs).set j (some x)) H1 (p x))
    (he : ∀ (x : V) (H1 : Hp), Ex H H1 → x ∈ xs → p x = true → Ev te ((wipe σ vs).set j (some x)) H1 (φ x)) : EvL (tLc (iSeqV K i) (gName j) t te vs) σ H ((xs.filter p).map φ) := by
  rw [← given_fm]
  refine el_lcS _ _ hx hs hl hw (fun i x H1 x1 e => ?_) fun i x H1 x1 e k => ?_
  · rw [e]
    exact ht x H1 x1 (List.mem_of_getElem? e)
  · rw [e] at k ⊢
    exact he x H1 x1 (List.mem_of_getElem? e) k
theorem el_fmL {a : Addr} (p : V → Bool) (φ : V → V) (hx : Ev tl σ H (.ref a)) (hs : SqL K H a xs) (hl : xs.length ≤ 40000)
    (hw : ∀ x : V, wipe ((wipe σ vs).set j (some x)) vs = wipe σ vs)
    (ht : ∀ (x : V) (H1 : Hp), Ex H H1 → x ∈ xs → EvT t ((wipe σ vs).set j (some x)) H1 (p x))
    (he : ∀ (x : V) (H1 : Hp), Ex H H1 → x ∈ xs → p x = true → Ev te ((wipe σ vs).set j (some x)) H1 (φ x)) : EvL (tLc (iList K tl) (gName j) t te vs) σ H ((xs.filter p).map φ) := by
  rw [← given_fm]
  refine el_lcL _ _ hx hs hl hw (fun i x H1 x1 e => ?_) fun i x H1 x1 e k => ?_
  · rw [e]
    exact ht x H1 x1 (List.mem_of_getElem? e)
  · rw [e] at k ⊢
    exact he x H1 x1 (List.mem_of_getElem? e) k
theorem el_fmN (p : V → Bool) (φ : V → V) (hx : EvL tl σ H xs) (hl : xs.length ≤ 40000)
    (hw : ∀ x : V, wipe ((wipe σ vs).set j (some x)) vs = wipe σ vs)
    (ht : ∀ (x : V) (H1 : Hp), Ex H H1 → x ∈ xs → EvT t ((wipe σ vs).set j (some x)) H1 (p x))
    (he : ∀ (x : V) (H1 : Hp), Ex H H1 → x ∈ xs → p x = true → Ev te ((wipe σ vs).set j (some x)) H1 (φ x)) : EvL (tLc (iList K tl) (gName j) t te vs) σ H ((xs.filter p).map φ) := by
  rw [← given_fm]
  refine el_lcNL _ _ hx hl hw (fun i x H1 x1 e => ?_) fun i x H1 x1 e k => ?_
  · rw [e]
    exact ht x H1 x1 (List.mem_of_getElem? e)
  · rw [e] at k ⊢
    exact he x H1 x1 (List.mem_of_getElem? e) k
theorem el_fmT {a : Addr} (p : V → Bool) (φ : V → V) (hx : Ev tl σ H (.ref a)) (hs : SqT K H a xs) (hl : xs.length ≤ 40000)
    (hw : ∀ x : V, wipe ((wipe σ vs).set j (some x)) vs = wipe σ vs)
    (ht : ∀ (x : V) (H1 : Hp), Ex H H1 → x ∈ xs → EvT t ((wipe σ vs).set j (some x)) H1 (p x))
    (he : ∀ (x : V) (H1 : Hp), Ex H H1 → x ∈ xs → p x = true → Ev te ((wipe σ vs).set j (some x)) H1 (φ x)) : EvL (tLc (iTup K tl) (gName j) t te vs) σ H ((xs.filter p).map φ) := by
  rw [← given_fm]
  refine el_lcT _ _ hx hs hl hw (fun i x H1 x1 e => ?_) fun i x H1 x1 e k => ?_
  · rw [e]
    exact ht x H1 x1 (List.mem_of_getElem? e)
  · rw [e] at k ⊢
    exact he x H1 x1 (List.mem_of_getElem? e) k
/-- the same over texts -/
def onS (φ : Str → V) : V → V
  | .str w => φ w
  | _ => .non
def onSB (p : Str → Bool) : V → Bool
  | .str w => p w
  | _ => false
theorem fm_str (ws : List Str) (p : Str → Bool) (φ : Str → V) : ((ws.map V.str).filter (onSB p)).map (onS φ) = (ws.filter p).map φ := by
  rw [List.filter_map, List.map_map]
  rfl
theorem mem_str {ws : List Str} {x : V} (h : x ∈ ws.map V.str) : ∃ w ∈ ws, x = .str w := by
  obtain ⟨w, m, rfl⟩ := List.mem_map.mp h
  exact ⟨w, m, rfl⟩
theorem el_strS {a : Addr} {i : Nat} {ws : List Str} (p : Str → Bool) (φ : Str → V) (hx : σ[i]? = some (some (.ref a))) (hs : SqL K H a (ws.map V.str) ∨ SqT K H a (ws.map V.str)) (hl : ws.length ≤ 40000)
    (hw : ∀ x : V, wipe ((wipe σ vs).set j (some x)) vs = wipe σ vs)
    (ht : ∀ (x : Str) (H1 : Hp), Ex H H1 → x ∈ ws → EvT t ((wipe σ vs).set j (some (.str x))) H1 (p x))
    (he : ∀ (x : Str) (H1 : Hp), Ex H H1 → x ∈ ws → p x = true → Ev te ((wipe σ vs).set j (some (.str x))) H1 (φ x)) : EvL (tLc (iSeqV K i) (gName j) t te vs) σ H ((ws.filter p).map φ) := by
  rw [← fm_str]
  refine el_fmS _ _ hx hs (by rw [List.length_map]; exact hl) hw (fun x H1 x1 m => ?_) fun x H1 x1 m k => ?_
  · obtain ⟨w, mw, rfl⟩ := mem_str m
    exact ht w H1 x1 mw
  · obtain ⟨w, mw, rfl⟩ := mem_str m
    exact he w H1 x1 mw k
theorem all_str (ws : List α) : ws.filter (fun _ => true) = ws := List.filter_eq_self.mpr fun _ _ => rfl
end
end KU

set_option Elab.async false
set_option linter.all false
set_option maxRecDepth 100000
set_option maxHeartbeats 4000000
/-! Walks over an instance that a name holds, also within a comprehension -/
namespace KU
open PySem PySem.Spec PyProof.Rows L2 Evl
theorem fnr_of {P : Program} {w : World} {K : PySem.W.Frag} {mg : Str → Option Value} {base : Heap} {CX : CXT} {k : Nat} {f : Addr} {fd : FuncData} {ps : List Str} {sp : Sp} (F : FnOk P w K mg base CX k f fd ps sp) (hb : Binds K fd ps []) : FnR P w K mg base CX k f sp :=
  (F.raw hb .nil).imp fun vs H Q E h => by rw [List.append_nil]; exact h
/-- for .. in x, x a name that holds an instance -/
def iOwnV (K : PySem.W.Frag) (C : Addr) (spN : Nat → Sp) (i : Nat) : TI := fun σ H R => ∃ (a dx : Addr) (fs : List (Str × V)), σ[i]? = some (some (.ref a)) ∧ H a = some (.ins C dx fs) ∧
  ∀ N, spN N [.ref a] H (fun z H2 => ∃ it t, z = .ref it ∧ N ≤ it ∧ H2 it = some (TtO t it) ∧ R (Itt K t) (ItX.dropH H2 it)) fun _ _ _ => False
theorem pi_ownV {X : Cx} {C g : Addr} {tg e : Expr} {i k : Nat} {fd : FuncData} {ps : List Str} {spN : Nat → Sp} (he : PE X e (tVar i)) (hs : PySem.W.findIn X.K (.ref C) "__iter__" = some (some (.ref g))) (hf : PySem.W.isFn X.K (.ref g) = true)
    (F : ∀ N, FnP (fun _ s => N ≤ s.heap.objs.size) X.prog X.w X.K X.mg X.base CX0 k g fd ps (spN N)) (hb : Binds X.K fd ps []) (hr : Room k X.A) : PI X tg e (iOwnV X.K C spN i) := by
  refine ⟨fun pins s σ H R I h => ?_⟩
  obtain ⟨a, dx, fs, hx, ha, q⟩ := h
  exact (pi_own he hs hf F hb hr).run pins s σ H R I ⟨_, hx, a, dx, fs, rfl, ha, q _⟩
section
variable {K : PySem.W.Frag} {σ : L2.St} {H : Hp} {te tl : TE} {t : TT} {xs : List V} {j i : Nat} {vs : List Nat} {C : Addr} {spN : Nat → Sp}
theorem drop_new {H : Hp} {it : Addr} {o : HO} (h : H it = none) : ItX.dropH (upd H it o) it = H := by
  funext b
  unfold ItX.dropH
  by_cases c : b = it
  · subst c
    rw [if_pos rfl, h]
  · rw [if_neg c, upd_ne c]
/-- a comprehension over an instance whose __iter__ walks over a tuple -/
theorem el_ownV {a dx : Addr} {fs : List (Str × V)} (p : V → Bool) (φ : V → V) (hx : σ[i]? = some (some (.ref a))) (ha : H a = some (.ins C dx fs))
    (sp : ∀ (N : Nat) (H1 : Hp) (R : VK), Ex H H1 → (∀ W it, H1 W = some (.tup xs) → H1 it = none → N ≤ it → R (.ref it) (upd H1 it (TtO W it))) → spN N [.ref a] H1 R fun _ _ _ => False) (hl : xs.length ≤ 40000)
    (hw : ∀ x : V, wipe ((wipe σ vs).set j (some x)) vs = wipe σ vs)
    (ht : ∀ (x : V) (H1 : Hp), Ex H H1 → x ∈ xs → EvT t ((wipe σ vs).set j (some x)) H1 (p x))
    (he : ∀ (x : V) (H1 : Hp), Ex H H1 → x ∈ xs → p x = true → Ev te ((wipe σ vs).set j (some x)) H1 (φ x)) : EvL (tLc (iOwnV K C spN i) (gName j) t te vs) σ H ((xs.filter p).map φ) := by
  rw [← given_fm]
  intro H1 x1 Q q
  refine ⟨a, dx, fs, hx, x1 _ _ ha, fun N => sp N H1 _ x1 fun W it hW hit hN => ⟨it, W, rfl, hN, upd_same, ?_⟩⟩
  rw [drop_new hit]
  refine fun D hD => lc_cw (H := H1) walk_tup (fun H3 x3 => ex_t x3 (st_of hW)) hl (fun i => orNo p xs[i]?) (fun i => orNon φ xs[i]?) hw (fun k x H3 x3 e => ?_) (fun k x H3 x3 e kk => ?_) (Ex.refl _) hD q
  · rw [e]
    exact ht x H3 (x1.trans x3) (List.mem_of_getElem? e)
  · rw [e] at kk ⊢
    exact he x H3 (x1.trans x3) (List.mem_of_getElem? e) kk
/-- the same where a list is made in each turn -/
theorem el_ownLL {a dx : Addr} {fs : List (Str × V)} {ys : List V} (hx : σ[i]? = some (some (.ref a))) (ha : H a = some (.ins C dx fs))
    (sp : ∀ (N : Nat) (H1 : Hp) (R : VK), Ex H H1 → (∀ W it, H1 W = some (.tup xs) → H1 it = none → N ≤ it → R (.ref it) (upd H1 it (TtO W it))) → spN N [.ref a] H1 R fun _ _ _ => False) (hl : xs.length ≤ 40000)
    (hw : ∀ x : V, wipe ((wipe σ vs).set j (some x)) vs = wipe σ vs)
    (he : ∀ (x : V) (H1 : Hp), Ex H H1 → x ∈ xs → EvL te ((wipe σ vs).set j (some x)) H1 ys) {H1 : Hp} {Q : VK} (x1 : Ex H H1)
    (q : ∀ (p : Addr) (H2 : Hp) (rs : List Addr), H1 p = none → Ex H1 H2 → H2 p = some (.lst (rs.map V.ref)) → rs.length = xs.length → (∀ r ∈ rs, H2 r = some (.lst ys)) → Q (.ref p) H2) : tLc (iOwnV K C spN i) (gName j) tYes te vs σ H1 Q := by
  refine ⟨a, dx, fs, hx, x1 _ _ ha, fun N => sp N H1 _ x1 fun W it hW hit hN => ⟨it, W, rfl, hN, upd_same, ?_⟩⟩
  rw [drop_new hit]
  refine fun D hD => lc_it walk_tup (Pv := fun k H' => Ex H1 H' ∧ ∃ rs : List Addr, H' D = some (.lst (rs.map V.ref)) ∧ rs.length = k ∧ ∀ r ∈ rs, r ≠ D ∧ H' r = some (.lst ys)) ⟨Ex.new hD, [], upd_same, rfl, fun r hr => by cases hr⟩ (fun k H' _ p => ex_t p.1 (st_of hW)) (fun k x H' H2 hk p y => ?_) fun H' p => ?_
  · obtain ⟨rfl, hxk⟩ := y
    obtain ⟨xx, rs, eD, rl, all⟩ := p
    refine ⟨hw x, et_yes (H := H2) H2 (Ex.refl _) _ fun H3 x3 => ?_⟩
    rw [if_pos rfl]
    refine he x H3 ((x1.trans xx).trans x3) (List.mem_of_getElem? hxk) H3 (Ex.refl _) _ fun l H4 hl4 x4 e4 => ?_
    have eD4 := x4 _ _ (x3 _ _ eD)
    have lD : l ≠ D := by
      rintro rfl
      rw [x3 _ _ eD] at hl4
      cases hl4
    refine ⟨_, eD4, ?_, fun b o hb => ?_, rs ++ [l], ?_, ?_, fun r hr => ?_⟩
    · rw [List.length_map, sizeLine_eq]
      omega
    · have ne : b ≠ D := by
        rintro rfl
        rw [hD] at hb
        cases hb
      rw [upd_ne ne]
      exact x4 _ _ (x3 _ _ (xx _ _ hb))
    · rw [upd_same, List.map_append]
      rfl
    · rw [List.length_append, rl]
      rfl
    · rcases List.mem_append.mp hr with h | h
      · exact ⟨(all r h).1, by rw [upd_ne (all r h).1]; exact x4 _ _ (x3 _ _ (all r h).2)⟩
      · rw [List.mem_singleton.mp h]
        exact ⟨lD, by rw [upd_ne lD]; exact e4⟩
  · obtain ⟨xx, rs, eD, rl, all⟩ := p
    exact q D H' rs hD xx eD rl fun r hr => (all r hr).2
end
end KU

set_option Elab.async false
set_option linter.all false
set_option maxRecDepth 100000
set_option maxHeartbeats 4000000
/-! An own class called with starred arguments -/
namespace KU
open PySem PySem.Spec PyProof.Rows L2 Evl
theorem pe_makeS {X : Cx} {CX : CXT} {k : Nat} {f C : Addr} {sp : Sp} {E : XK} {x : Str} {e : Expr} {es : List Expr} {t : TA} {p pos : Pos} (M : Mk X.K C f) (F : FnR X.prog X.w X.K X.mg X.base CX k f sp) (hr : Room (k + 1) X.A) (hg : Gl X x)
    (hm : X.mg x = some (.ref C)) (hx : Passes CX X E) (ha : PA X (e :: es) t) (hdb : (x == ("__debug__" : Str)) = false := by decide) (he : starEach (e :: es) X.env = (false, eval e X.env) :: starEach es X.env := by rfl)
    (hst : (backTo pos (starEach es X.env)).any (·.1) = true := by rfl) : PE X (.Call (.Name x p) (e :: es) [] pos) (StX.tMakeR C sp E t) := by
  refine ⟨fun pins s σ H Q I h => ?_⟩
  refine wpAny_Call_Name_kw (ld_glob I hg hm (PySem.W.callWith_S2 I.ok.mod.kin M.kp (thn (ha.run pos pins s σ H _ I h) fun us s1 z => ?_) he hst) hdb)
  obtain ⟨vs, H1, I1, r, q⟩ := z
  exact ⟨I1.kIn, StX.run_makeR M F hr hx I1 r q⟩
section
variable {K : PySem.W.Frag} {σ : L2.St} {H : Hp} {te tl ta tb : TE} {t : TA}
theorem ea_star {p : Addr} {xs ys : List V} (h : Ev te σ H (.ref p)) (hs : SqT K H p xs ∨ SqL K H p xs) (r : EvA t σ H ys) : EvA (StX.tStar K te t) σ H (xs ++ ys) :=
  fun H1 x1 Q q => h H1 x1 _ fun H2 x2 => ⟨p, xs, rfl, hs.imp (ex_t (x1.trans x2)) (ex_l (x1.trans x2)), r H2 (x1.trans x2) _ fun H3 x3 => q H3 (x2.trans x3)⟩
end
end KU

set_option Elab.async false
set_option linter.all false
set_option maxRecDepth 100000
set_option maxHeartbeats 4000000
/-! Dict comprehensions, walks over the keys of a locked dict -/
namespace KU
open PySem PySem.Spec PyProof.Rows L2 Evl
section
variable {K : PySem.W.Frag} {σ : L2.St} {H : Hp} {te tl tk tv : TE} {t : TT} {xs : List V} {j : Nat} {vs : List Nat}
theorem dc_it {J : It} {n : Nat} {G : Hp → Prop} {Y : Nat → Hp → V → Hp → Prop} (w : Walk J n G Y) {g : TG} {H1 : Hp} {D : Addr} {Qd : Hp → Prop} (Pv : Nat → Hp → Prop) (h0 : Pv 0 (upd H1 D (.dK []))) (hG : ∀ i H, i ≤ n → Pv i H → G H)
    (hs : ∀ i x H H', i < n → Pv i H → Y i H x H' → g x (wipe σ vs) H' fun σ2 H2 => wipe σ2 vs = wipe σ vs ∧ t σ2 H2 fun b H3 => if b = true then tk σ2 H3 fun y H4 => tv σ2 H4 fun z H5 =>
      ∃ kvs k, y = kV k ∧ H5 D = some (.dK kvs) ∧ kvs.length < sizeLine ∧ Pv (i + 1) (upd H5 D (.dK (putK kvs k z))) else Pv (i + 1) H3) (hd : ∀ H, Pv n H → Qd H) :
    ∃ W : Nat → Nat → Hp → Prop, (∃ m, W 0 m (upd H1 D (.dK []))) ∧ ∀ i m H, W i m H → (J.stop i H ∧ Qd H) ∨ (J.go i H ∧ ∃ Nx : Hp → Prop, (∀ H', Nx H' → ∃ m', m' < m ∧ W (i + 1) m' H') ∧
      ∀ x H', J.yld i H x H' → g x (wipe σ vs) H' fun σ2 H2 => wipe σ2 vs = wipe σ vs ∧ t σ2 H2 fun b H3 => if b = true then tk σ2 H3 fun y H4 => tv σ2 H4 fun z H5 =>
        ∃ kvs k, y = kV k ∧ H5 D = some (.dK kvs) ∧ kvs.length < sizeLine ∧ Nx (upd H5 D (.dK (putK kvs k z))) else Nx H3) := by
  refine ⟨fun i m H => i ≤ n ∧ m = n - i ∧ Pv i H, ⟨n, Nat.zero_le _, rfl, h0⟩, fun i m H ⟨hi, hm, p⟩ => ?_⟩
  by_cases e : i = n
  · subst e
    exact .inl ⟨w.stops H (hG i H hi p), hd H p⟩
  · have lt : i < n := by omega
    exact .inr ⟨w.goes i H lt (hG i H hi p), Pv (i + 1), fun H' q => ⟨n - (i + 1), by omega, by omega, rfl, q⟩, fun x H' y => hs i x H H' lt p (w.yields i H x H' lt (hG i H hi p) y)⟩
theorem on_true {p q : Prop} (h : p) : if true = true then p else q := by
  rw [if_pos rfl]
  exact h
/-- the texts of a walk as keys, in the order in which they first come -/
def keysD (ws : List Str) : List (Key × V) := ws.foldl (fun kvs w => putK kvs (Sum.inr w) (.bl true)) []
theorem keysD_snoc (ws : List Str) (w : Str) : keysD (ws ++ [w]) = putK (keysD ws) (Sum.inr w) (.bl true) := by
  unfold keysD
  rw [List.foldl_append]
  rfl
theorem putK_len (kvs : List (Key × V)) (k : Key) (v : V) : (putK kvs k v).length ≤ kvs.length + 1 := by
  unfold putK
  split
  · rw [List.length_map]
    omega
  · rw [List.length_append]
    exact Nat.le_refl _
theorem keysD_len (ws : List Str) : (keysD ws).length ≤ ws.length := by
  have : ∀ (acc : List (Key × V)), (ws.foldl (fun kvs w => putK kvs (Sum.inr w) (.bl true)) acc).length ≤ acc.length + ws.length := by
    induction ws with
    | nil => intro acc; exact Nat.le_refl _
    | cons a r ih =>
      intro acc
      have z := ih (putK acc (Sum.inr a) (.bl true))
      have y := putK_len acc (Sum.inr a) (.bl true)
      rw [List.foldl_cons, List.length_cons]
      omega
  have z := this []
  rw [List.length_nil, Nat.zero_add] at z
  exact z
/-- {w: True for w in ws}: a new dict -/
theorem dc_str {a : Addr} {i : Nat} {ws : List Str} {H1 : Hp} {Q : VK} (hx : σ[i]? = some (some (.ref a))) (hs : SqL K H1 a (ws.map V.str) ∨ SqT K H1 a (ws.map V.str)) (hl : ws.length ≤ 40000)
    (hw : ∀ x : V, wipe ((wipe σ vs).set j (some x)) vs = wipe σ vs)
    (hk : ∀ (x : Str) (H2 : Hp), Ev tk ((wipe σ vs).set j (some (.str x))) H2 (.str x))
    (q : ∀ (D : Addr) (H2 : Hp), H1 D = none → Ex H1 H2 → H2 D = some (.dK (keysD ws)) → Q (.ref D) H2) : tDc (iSeqV K i) (gName j) tYes tk (tC (.bl true)) vs σ H1 Q := by
  have core : ∀ (J : It) (G : Hp → Prop), Walk J (ws.map V.str).length G (YAt (ws.map V.str)) → (∀ H2, Ex H1 H2 → G H2) → ∀ D, H1 D = none → ∃ W : Nat → Nat → Hp → Prop, (∃ m, W 0 m (upd H1 D (.dK []))) ∧ ∀ i m H, W i m H → (J.stop i H ∧ Q (.ref D) H) ∨ (J.go i H ∧ ∃ Nx : Hp → Prop, (∀ H', Nx H' → ∃ m', m' < m ∧ W (i + 1) m' H') ∧
      ∀ x H', J.yld i H x H' → gName j x (wipe σ vs) H' fun σ2 H2 => wipe σ2 vs = wipe σ vs ∧ tYes σ2 H2 fun b H3 => if b = true then tk σ2 H3 fun y H4 => tC (.bl true) σ2 H4 fun z H5 =>
        ∃ kvs k, y = kV k ∧ H5 D = some (.dK kvs) ∧ kvs.length < sizeLine ∧ Nx (upd H5 D (.dK (putK kvs k z))) else Nx H3) := by
    intro J G w hG D hD
    refine dc_it w (Pv := fun i H2 => Ex H1 H2 ∧ H2 D = some (.dK (keysD (ws.take i)))) ⟨Ex.new hD, upd_same⟩ (fun i H2 _ c => hG H2 c.1) (fun i x H2 H3 hi c y => ?_) fun H2 c => ?_
    · obtain ⟨rfl, hx⟩ := y
      rw [List.getElem?_map] at hx
      cases e : ws[i]? with
      | none =>
        rw [e] at hx
        cases hx
      | some w0 =>
        rw [e] at hx
        cases hx
        refine ⟨hw _, ?_⟩
        refine et_yes (H := H3) H3 (Ex.refl _) _ fun H5 x5 => ?_
        rw [if_pos rfl]
        refine hk w0 H5 H5 (Ex.refl _) _ fun H4 x4' => ?_
        have x4 := x5.trans x4'
        refine ⟨keysD (ws.take i), Sum.inr w0, rfl, x4 _ _ c.2, ?_, ?_, ?_⟩
        · have := keysD_len (ws.take i)
          rw [sizeLine_eq]
          rw [List.length_take] at this
          omega
        · intro b o hb
          have ne : b ≠ D := by
            rintro rfl
            rw [hD] at hb
            cases hb
          rw [upd_ne ne]
          exact x4 _ _ (c.1 _ _ hb)
        · rw [upd_same]
          have e2 : ws.take (i + 1) = ws.take i ++ [w0] := by
            rw [List.take_succ, e]
            rfl
          rw [e2, keysD_snoc]
    · have e : (ws.map V.str).length = ws.length := List.length_map _
      rw [e, List.take_length] at c
      exact q D H2 hD c.1 c.2
  rcases hs with hs | hs
  · exact ⟨a, _, hx, .inl ⟨hs, fun D hD => core _ _ walk_list (fun H2 x2 => ex_l x2 hs) D hD⟩⟩
  · exact ⟨a, _, hx, .inr ⟨hs, fun D hD => core _ _ walk_tup (fun H2 x2 => ex_t x2 hs) D hD⟩⟩
/-- a comprehension over the keys of a dict that is locked -/
theorem el_fmK {d : Addr} {o : Obj} {kvs : List (Key × V)} (p : V → Bool) (φ : V → V) (hx : Ev tl σ H (.ref d)) (hd : H d = some (.frz o (.dK kvs))) (hl : kvs.length ≤ 40000)
    (hw : ∀ x : V, wipe ((wipe σ vs).set j (some x)) vs = wipe σ vs)
    (ht : ∀ (x : V) (H1 : Hp), Ex H H1 → x ∈ kvs.map (fun kv => kV kv.1) → EvT t ((wipe σ vs).set j (some x)) H1 (p x))
    (he : ∀ (x : V) (H1 : Hp), Ex H H1 → x ∈ kvs.map (fun kv => kV kv.1) → p x = true → Ev te ((wipe σ vs).set j (some x)) H1 (φ x)) : EvL (tLc (iKeys tl) (gName j) t te vs) σ H (((kvs.map fun kv => kV kv.1).filter p).map φ) := by
  rw [← given_fm]
  intro H1 x1 Q q
  refine hx H1 x1 _ fun H2 x2 => ⟨d, o, rfl, .inl ⟨kvs, (x1.trans x2) _ _ hd, fun D hD => ?_⟩⟩
  have wk : Walk (Itk d o kvs) (kvs.map fun kv => kV kv.1).length (fun H => H d = some (.frz o (.dK kvs))) (YAt (kvs.map fun kv => kV kv.1)) := by
    rw [List.length_map]
    refine walk_keys.mono (fun _ h => h) fun i H3 x H4 hi h y => ⟨y.1, ?_⟩
    obtain ⟨_, k, v, e, rfl⟩ := y
    rw [List.getElem?_map, e]
    rfl
  refine lc_cw wk (fun H3 x3 => x3 _ _ hd) (by rw [List.length_map]; exact hl) _ _ hw (fun i x H3 x3 e => ?_) (fun i x H3 x3 e k => ?_) (x1.trans x2) hD fun p H3 hp x3 e => q p H3 (fresh_back x2 hp) (x2.trans x3) e
  · rw [e]
    exact ht x H3 x3 (List.mem_of_getElem? e)
  · rw [e] at k ⊢
    exact he x H3 x3 (List.mem_of_getElem? e) k
theorem q_asgR {te : TE} {i : Nat} {tz : TS} {D : Ends} (h : te σ H fun x H1 => tz D (σ.set i (some x)) H1) : tSeq (tAsg te (gName i)) tz D σ H := h
theorem q_lockR {te : TE} {i : Nat} {tz : TS} {D : Ends} {d : Addr} {u : HO} (hd : H d = some u) (m : Mut (some u))
    (h : ∀ od, te σ (upd H d (.frz od u)) fun x H1 => H1 d = some (.frz od u) ∧ tz D (σ.set i (some x)) (upd H1 d u)) : tSeq (tLock (tAsg te (gName i))) tz D σ H := ⟨d, u, hd, m, h⟩
theorem ev_call_vl {ta : TE} {sp : Sp} {E : XK} {v z : V} (ha : Ev ta σ H v) (hl : EvL tl σ H xs) (h : ∀ (p : Addr) (H1 : Hp), Ex H H1 → H1 p = some (.lst xs) → SpV sp [v, .ref p] H1 z) : Ev (tCall sp [] E (tCons ta (tCons tl tNil))) σ H z :=
  fun H1 x1 Q q => ha H1 x1 _ fun H2 x2 => hl H2 (x1.trans x2) _ fun p H3 hp x3 e => h p H3 ((x1.trans x2).trans x3) e H3 (Ex.refl _) Q (fun H4 x4 => q H4 ((x2.trans x3).trans x4)) E
theorem q_forS {g : TG} {tb tz : TS} {D : Ends} {H0 : Hp} {a : Addr} {i : Nat} (hx : σ[i]? = some (some (.ref a))) (hs : SqL K H0 a xs ∨ SqT K H0 a xs) (Pv : Nat → L2.St → Hp → Prop) (x0 : Ex H0 H) (h0 : Pv 0 σ H) (hex : ∀ i σ' H', Pv i σ' H' → Ex H0 H')
    (ht : ∀ (i : Nat) (x : V) (σ' : L2.St) (H' : Hp), xs[i]? = some x → Pv i σ' H' → g x σ' H' fun σ2 H2 => tb { nx := Pv (i + 1), rt := D.rt, bk := tz D, ct := Pv (i + 1) } σ2 H2) (hd : ∀ σ' H', Pv xs.length σ' H' → tz D σ' H') : tSeq (tFor (iSeqV K i) g tb) tz D σ H := by
  rcases hs with hs | hs
  · refine ⟨a, xs, hx, .inl ⟨ex_l x0 hs, ?_⟩⟩
    exact for_it (D := { D with nx := tz D }) walk_list Pv h0 (fun i σ' H' _ p => ex_l (hex i σ' H' p) hs) (fun i x σ' H' H2 hi p y => by
      obtain ⟨rfl, e⟩ := y
      exact ht i x σ' _ e p) hd
  · refine ⟨a, xs, hx, .inr ⟨ex_t x0 hs, ?_⟩⟩
    exact for_it (D := { D with nx := tz D }) walk_tup Pv h0 (fun i σ' H' _ p => ex_t (hex i σ' H' p) hs) (fun i x σ' H' H2 hi p y => by
      obtain ⟨rfl, e⟩ := y
      exact ht i x σ' _ e p) hd
theorem el_lockE {d : Addr} {u : HO} (hd : H d = some u) (m : Mut (some u)) (h : ∀ od H1, Ex H H1 → EvL tl σ (upd H1 d (.frz od u)) xs) : EvL (tLockE tl) σ H xs := by
  intro H1 x1 Q q
  refine ⟨d, u, x1 _ _ hd, m, fun od => h od H1 x1 _ (Ex.refl _) _ fun p H2 hp x2 e => ⟨x2 _ _ upd_same, ?_⟩⟩
  have ne : p ≠ d := by
    rintro rfl
    rw [upd_same] at hp
    cases hp
  rw [upd_ne ne] at hp
  refine q p _ hp (fun b o hb => ?_) (by rw [upd_ne ne]; exact e)
  by_cases nb : b = d
  · subst nb
    rw [x1 _ _ hd] at hb
    rw [upd_same, hb]
  · rw [upd_ne nb]
    refine x2 _ _ ?_
    rw [upd_ne nb]
    exact hb
end
end KU

set_option Elab.async false
set_option linter.all false
set_option maxRecDepth 100000
set_option maxHeartbeats 4000000
/-! Dict comprehensions over texts in a sequence, over the signs of a text: what is known of the entries -/
namespace KU
open PySem PySem.Spec PyProof.Rows L2 Evl
section
variable {K : PySem.W.Frag} {σ : L2.St} {H : Hp} {te tl tk tv : TE} {t : TT} {xs : List V} {j : Nat} {vs : List Nat}
theorem dc_seqG {a : Addr} {i : Nat} {ws : List Str} {H1 : Hp} {Q : VK} {φ : Str → V} (Iv : Nat → List (Key × V) → Prop) (i0 : Iv 0 []) (few : ∀ i kvs, Iv i kvs → kvs.length ≤ i)
    (step : ∀ i w kvs, ws[i]? = some w → Iv i kvs → Iv (i + 1) (putK kvs (Sum.inr w) (φ w))) (hx : σ[i]? = some (some (.ref a))) (hs : SqL K H1 a (ws.map V.str) ∨ SqT K H1 a (ws.map V.str)) (hl : ws.length ≤ 40000)
    (hw : ∀ x : V, wipe ((wipe σ vs).set j (some x)) vs = wipe σ vs) (hk : ∀ (x : Str) (H2 : Hp), Ev tk ((wipe σ vs).set j (some (.str x))) H2 (.str x)) (hv : ∀ (x : Str) (H2 : Hp), Ex H1 H2 → x ∈ ws → Ev tv ((wipe σ vs).set j (some (.str x))) H2 (φ x))
    (q : ∀ (D : Addr) (H2 : Hp) (kvs : List (Key × V)), H1 D = none → Ex H1 H2 → H2 D = some (.dK kvs) → Iv ws.length kvs → Q (.ref D) H2) : tDc (iSeqV K i) (gName j) tYes tk tv vs σ H1 Q := by
  have core : ∀ (J : It) (G : Hp → Prop), Walk J (ws.map V.str).length G (YAt (ws.map V.str)) → (∀ H2, Ex H1 H2 → G H2) → ∀ D, H1 D = none → ∃ W : Nat → Nat → Hp → Prop, (∃ m, W 0 m (upd H1 D (.dK []))) ∧ ∀ i m H, W i m H → (J.stop i H ∧ Q (.ref D) H) ∨ (J.go i H ∧ ∃ Nx : Hp → Prop, (∀ H', Nx H' → ∃ m', m' < m ∧ W (i + 1) m' H') ∧
      ∀ x H', J.yld i H x H' → gName j x (wipe σ vs) H' fun σ2 H2 => wipe σ2 vs = wipe σ vs ∧ tYes σ2 H2 fun b H3 => if b = true then tk σ2 H3 fun y H4 => tv σ2 H4 fun z H5 =>
        ∃ kvs k, y = kV k ∧ H5 D = some (.dK kvs) ∧ kvs.length < sizeLine ∧ Nx (upd H5 D (.dK (putK kvs k z))) else Nx H3) := by
    intro J G w hG D hD
    refine dc_it w (Pv := fun i H2 => Ex H1 H2 ∧ ∃ kvs, H2 D = some (.dK kvs) ∧ Iv i kvs) ⟨Ex.new hD, [], upd_same, i0⟩ (fun i H2 _ c => hG H2 c.1) (fun i x H2 H3 hi c y => ?_) fun H2 c => ?_
    · obtain ⟨rfl, hx⟩ := y
      obtain ⟨xx, kvs, eD, iv⟩ := c
      rw [List.getElem?_map] at hx
      cases e : ws[i]? with
      | none =>
        rw [e] at hx
        cases hx
      | some w0 =>
        rw [e] at hx
        cases hx
        refine ⟨hw _, et_yes (H := H3) H3 (Ex.refl _) _ fun H5 x5 => ?_⟩
        rw [if_pos rfl]
        refine hk w0 H5 H5 (Ex.refl _) _ fun H4 x4 => hv w0 H4 ((xx.trans x5).trans x4) (List.mem_of_getElem? e) H4 (Ex.refl _) _ fun H6 x6 => ?_
        have x3 := (x5.trans x4).trans x6
        refine ⟨kvs, Sum.inr w0, rfl, x3 _ _ eD, ?_, ?_, _, upd_same, step i w0 kvs e iv⟩
        · have := few i kvs iv
          have lt := (List.getElem?_eq_some_iff.mp e).1
          rw [sizeLine_eq]
          omega
        · intro b o hb
          have ne : b ≠ D := by
            rintro rfl
            rw [hD] at hb
            cases hb
          rw [upd_ne ne]
          exact x3 _ _ (xx _ _ hb)
    · obtain ⟨xx, kvs, eD, iv⟩ := c
      rw [List.length_map] at iv
      exact q D H2 kvs hD xx eD iv
  rcases hs with hs | hs
  · exact ⟨a, _, hx, .inl ⟨hs, fun D hD => core _ _ walk_list (fun H2 x2 => ex_l x2 hs) D hD⟩⟩
  · exact ⟨a, _, hx, .inr ⟨hs, fun D hD => core _ _ walk_tup (fun H2 x2 => ex_t x2 hs) D hD⟩⟩
/-- {c: .. for c in z}, z a text: an entry for each of its signs -/
theorem dc_txtG {z : Str} {H1 : Hp} {Q : VK} {φ : Nat → V} (hz : Ev te σ H1 (.str z)) (hl : z.length ≤ 40000) (hw : ∀ x : V, wipe ((wipe σ vs).set j (some x)) vs = wipe σ vs)
    (hk : ∀ (c : Nat) (H2 : Hp), Ev tk ((wipe σ vs).set j (some (.str ⟨#[c]⟩))) H2 (.str ⟨#[c]⟩)) (hv : ∀ (c : Nat) (H2 : Hp), Ex H1 H2 → c ∈ z.cps.toList → Ev tv ((wipe σ vs).set j (some (.str ⟨#[c]⟩))) H2 (φ c))
    (q : ∀ (D : Addr) (H2 : Hp) (kvs : List (Key × V)), H1 D = none → Ex H1 H2 → H2 D = some (.dK kvs) → kvs.length ≤ z.length → (∀ c ∈ z.cps.toList, valV kvs (Sum.inr ⟨#[c]⟩) = some (φ c)) → Q (.ref D) H2) : tDc (iStr te) (gName j) tYes tk tv vs σ H1 Q := by
  refine hz H1 (Ex.refl _) _ fun H1' x1 => ⟨z, rfl, fun D hD' => ?_⟩
  have hD : H1 D = none := fresh_back x1 hD'
  refine dc_it walk_str (Pv := fun i H2 => Ex H1 H2 ∧ ∃ kvs, H2 D = some (.dK kvs) ∧ kvs.length ≤ i ∧ ∀ k c, k < i → z.cps.toList[k]? = some c → valV kvs (Sum.inr ⟨#[c]⟩) = some (φ c)) ⟨x1.trans (Ex.new hD'), [], upd_same, Nat.le_refl _, fun k c h _ => absurd h (Nat.not_lt_zero _)⟩
    (fun _ _ _ _ => trivial) (fun i x H2 H3 hi p y => ?_) fun H2 p => ?_
  · obtain ⟨rfl, c0, hc, rfl⟩ := y
    obtain ⟨xx, kvs, eD, kl, all⟩ := p
    have hc' : z.cps.toList[i]? = some c0 := by
      rw [Array.getElem?_toList]
      exact hc
    refine ⟨hw _, et_yes (H := H3) H3 (Ex.refl _) _ fun H5 x5 => ?_⟩
    rw [if_pos rfl]
    refine hk c0 H5 H5 (Ex.refl _) _ fun H4 x4 => hv c0 H4 ((xx.trans x5).trans x4) (List.mem_of_getElem? hc') H4 (Ex.refl _) _ fun H6 x6 => ?_
    have x3 := (x5.trans x4).trans x6
    refine ⟨kvs, Sum.inr ⟨#[c0]⟩, rfl, x3 _ _ eD, ?_, ?_, _, upd_same, ?_, fun k c hk2 hk3 => ?_⟩
    · have e : z.length = z.cps.size := rfl
      rw [sizeLine_eq]
      omega
    · intro b o hb
      have ne : b ≠ D := by
        rintro rfl
        rw [hD] at hb
        cases hb
      rw [upd_ne ne]
      exact x3 _ _ (xx _ _ hb)
    · have := putK_len kvs (Sum.inr ⟨#[c0]⟩) (φ c0)
      omega
    · rw [valV_put]
      by_cases e : c = c0
      · subst e
        rw [if_pos rfl]
      · rw [if_neg fun q => e (by cases q; rfl)]
        refine all k c ?_ hk3
        refine Nat.lt_of_le_of_ne (Nat.le_of_lt_succ hk2) ?_
        rintro rfl
        rw [hc'] at hk3
        cases hk3
        exact e rfl
  · obtain ⟨xx, kvs, eD, kl, all⟩ := p
    refine q D H2 kvs hD xx eD kl fun c hc => ?_
    obtain ⟨k, hk1, hk2⟩ := List.getElem_of_mem hc
    refine all k c ?_ (by rw [List.getElem?_eq_getElem hk1, hk2])
    rw [Array.length_toList] at hk1
    exact hk1
end
end KU

set_option Elab.async false
set_option linter.all false
set_option maxRecDepth 100000
/-! Texts in order, each once -/
namespace KU
open PySem PySem.Spec PyProof.Rows L2
theorem ltCps_iff : ∀ a b : List Nat, ltCps a b = true ↔ a < b
  | [], [] => by simp [ltCps]
  | [], _ :: _ => by simp [ltCps]
  | _ :: _, [] => by simp [ltCps]
  | a :: r, b :: t => by
    have ih := ltCps_iff r t
    rw [List.cons_lt_cons_iff]
    simp only [ltCps]
    rw [← ih]
    simp [Bool.or_eq_true, Bool.and_eq_true]
theorem str_ext {a b : Str} (h : a.cps.toList = b.cps.toList) : a = b := by
  cases a with
  | mk x =>
    cases b with
    | mk y =>
      congr 1
      exact Array.ext' h
theorem rising_pw (x : Str) (l : List Str) (h : risingS x l = true) : (x :: l).Pairwise fun a b => a.cps.toList ≤ b.cps.toList := by
  induction l generalizing x with
  | nil => exact List.pairwise_singleton _ _
  | cons y r ih =>
    simp only [risingS, Bool.and_eq_true, Bool.not_eq_true'] at h
    have z := ih y h.2
    have le : x.cps.toList ≤ y.cps.toList := by
      refine List.not_lt.mp fun q => ?_
      have := (ltCps_iff _ _).mpr q
      rw [this] at h
      exact absurd h.1 (by decide)
    refine List.Pairwise.cons (fun b hb => ?_) z
    rcases List.mem_cons.mp hb with rfl | hb
    · exact le
    · exact List.le_trans le (List.rel_of_pairwise_cons z hb)
theorem sorted_pw {l : List Str} (h : sortedS l = true) : l.Pairwise fun a b => a.cps.toList ≤ b.cps.toList := by
  cases l with
  | nil => exact List.Pairwise.nil
  | cons x r => exact rising_pw x r h
theorem sorted_unique {a b : List Str} (p : a.Perm b) (ha : sortedS a = true) (hb : sortedS b = true) : a = b :=
  p.eq_of_pairwise (fun x y _ _ h1 h2 => str_ext (List.le_antisymm h1 h2)) (sorted_pw ha) (sorted_pw hb)
/-- the texts, each at its first place -/
def uniq (ws : List Str) : List Str := ws.foldl (fun acc w => if w ∈ acc then acc else acc ++ [w]) []
theorem uniq_snoc (ws : List Str) (w : Str) : uniq (ws ++ [w]) = if w ∈ uniq ws then uniq ws else uniq ws ++ [w] := by
  unfold uniq
  rw [List.foldl_append]
  rfl
theorem snoc_ind {α : Type} {p : List α → Prop} (h0 : p []) (h1 : ∀ l a, p l → p (l ++ [a])) (l : List α) : p l := by
  have : ∀ r : List α, p r.reverse := by
    intro r
    induction r with
    | nil => exact h0
    | cons a t ih =>
      rw [List.reverse_cons]
      exact h1 _ _ ih
  have z := this l.reverse
  rw [List.reverse_reverse] at z
  exact z
theorem mem_uniq (ws : List Str) (x : Str) : x ∈ uniq ws ↔ x ∈ ws := by
  induction ws using snoc_ind with
  | h0 => exact Iff.rfl
  | h1 l a ih =>
    rw [uniq_snoc]
    split
    · rename_i h
      rw [ih, List.mem_append, List.mem_singleton]
      constructor
      · exact .inl
      · rintro (q | rfl)
        · exact q
        · exact ih.mp h
    · rw [List.mem_append, List.mem_append, ih]
theorem nodup_uniq (ws : List Str) : (uniq ws).Nodup := by
  induction ws using snoc_ind with
  | h0 => exact List.nodup_nil
  | h1 l a ih =>
    rw [uniq_snoc]
    split
    · exact ih
    · rename_i h
      refine List.nodup_append.mpr ⟨ih, List.pairwise_singleton _ _, fun x hx y hy => ?_⟩
      rw [List.mem_singleton] at hy
      subst hy
      rintro rfl
      exact h hx
theorem uniq_len (ws : List Str) : (uniq ws).length ≤ ws.length := by
  induction ws using snoc_ind with
  | h0 => exact Nat.le_refl _
  | h1 l a ih =>
    rw [uniq_snoc]
    split
    · rw [List.length_append]
      omega
    · rw [List.length_append, List.length_append]
      exact Nat.add_le_add_right ih _
theorem keysD_uniq (ws : List Str) : keysD ws = (uniq ws).map fun w => (Sum.inr w, V.bl true) := by
  induction ws using snoc_ind with
  | h0 => rfl
  | h1 l a ih =>
    rw [keysD_snoc, uniq_snoc, ih]
    unfold putK
    by_cases h : a ∈ uniq l
    · have e : (((uniq l).map fun w => ((Sum.inr w : Key), V.bl true)).any fun kv => decide (kv.1 = Sum.inr a)) = true := by
        rw [List.any_map, List.any_eq_true]
        exact ⟨a, h, by simp⟩
      rw [if_pos e, if_pos h, List.map_map]
      refine List.map_congr_left fun x _ => ?_
      show (if (Sum.inr x : Key) = Sum.inr a then ((Sum.inr x : Key), V.bl true) else (Sum.inr x, V.bl true)) = _
      split <;> rfl
    · have e : ¬ (((uniq l).map fun w => ((Sum.inr w : Key), V.bl true)).any fun kv => decide (kv.1 = Sum.inr a)) = true := by
        rw [List.any_map, List.any_eq_true]
        rintro ⟨x, hx, q⟩
        have : (Sum.inr x : Key) = Sum.inr a := of_decide_eq_true q
        cases this
        exact h hx
      rw [if_neg e, if_neg h, List.map_append]
      rfl
theorem keysD_keys (ws : List Str) : (keysD ws).map (fun kv => kV kv.1) = (uniq ws).map V.str := by
  rw [keysD_uniq, List.map_map]
  rfl
/-- two lists of texts, each once, of the same texts, sorted: one list -/
theorem sorted_same {a b x y : List Str} (pa : x.Perm a) (pb : y.Perm b) (na : a.Nodup) (nb : b.Nodup) (same : ∀ t, t ∈ a ↔ t ∈ b) (hx : sortedS x = true) (hy : sortedS y = true) : x = y :=
  sorted_unique ((pa.trans ((List.perm_ext_iff_of_nodup na nb).mpr same)).trans pb.symm) hx hy
end KU

set_option Elab.async false
set_option linter.all false
set_option maxRecDepth 100000
/-! Lists and tuples of texts as data -/
namespace KU
open PySem PySem.Spec PyProof.Rows L2 Evl
def dstrs (ws : List Str) : List PyData := ws.map PyData.str
theorem dp_strs {K : PySem.W.Frag} {H : Hp} : ∀ ws : List Str, DpAll K H (ws.map V.str) (dstrs ws)
  | [] => .nil
  | n :: r => .cons (.str n) (dp_strs r)
theorem lay_strs (l : List Str) (h : ∀ t ∈ l, PyData.strOk t = true) : PyData.canLayAll0 (dstrs l) = true := by
  induction l with
  | nil => rfl
  | cons n r ih =>
    have z := ih fun t m => h t (List.mem_cons_of_mem _ m)
    have y := h n List.mem_cons_self
    simp only [dstrs, List.map_cons, PyData.canLayAll0, PyData.canLay0, Bool.and_eq_true] at z ⊢
    exact ⟨y, z⟩
theorem depth_strs (l : List Str) : PyData.depthAll (dstrs l) ≤ 1 := by
  induction l with
  | nil => simp [dstrs, PyData.depthAll]
  | cons n r ih =>
    have z : PyData.depthAll (dstrs (n :: r)) = max (PyData.depth (.str n)) (PyData.depthAll (dstrs r)) := by simp [dstrs, PyData.depthAll]
    rw [z]
    have y : PyData.depth (.str n) ≤ 1 := by simp [PyData.depth]
    omega
theorem eqvAll_strs : ∀ a b : List Str, PyData.eqvAll (dstrs a) (dstrs b) = decide (a = b)
  | [], [] => rfl
  | [], _ :: _ => by simp [dstrs, PyData.eqvAll]
  | _ :: _, [] => by simp [dstrs, PyData.eqvAll]
  | x :: r, y :: t => by
    have ih := eqvAll_strs r t
    have e : PyData.eqvAll (dstrs (x :: r)) (dstrs (y :: t)) = (PyData.eqv (.str x) (.str y) && PyData.eqvAll (dstrs r) (dstrs t)) := by simp [dstrs, PyData.eqvAll]
    rw [e, ih]
    have e2 : PyData.eqv (.str x) (.str y) = decide (x = y) := by
      show (x == y) = decide (x = y)
      by_cases h : x = y
      · subst h
        simp
      · rw [decide_eq_false h]
        exact beq_eq_false_iff_ne.mpr h
    rw [e2]
    by_cases h : x = y
    · by_cases g : r = t
      · simp [h, g]
      · simp [h, g]
    · simp [h]
theorem shaped_strsL (l : List Str) (h : ∀ t ∈ l, PyData.strOk t = true) : SeqAt.shaped (.list (dstrs l)) = true := by
  unfold SeqAt.shaped
  have c := depth_strs l
  have d : PyData.depth (.list (dstrs l)) ≤ 64 := by
    simp only [PyData.depth]
    omega
  simp only [PyData.canLay0, lay_strs l h, Bool.true_and, decide_eq_true d]
theorem shaped_strsT (l : List Str) (h : ∀ t ∈ l, PyData.strOk t = true) : SeqAt.shaped (.tuple (dstrs l)) = true := by
  unfold SeqAt.shaped
  have c := depth_strs l
  have d : PyData.depth (.tuple (dstrs l)) ≤ 64 := by
    simp only [PyData.depth]
    omega
  simp only [PyData.canLay0, lay_strs l h, Bool.true_and, decide_eq_true d]
theorem eqv_strsL (a b : List Str) : PyData.eqv (.list (dstrs a)) (.list (dstrs b)) = decide (a = b) := by
  rw [← eqvAll_strs]
  simp [PyData.eqv]
theorem eqv_strsT (a b : List Str) : PyData.eqv (.tuple (dstrs a)) (.tuple (dstrs b)) = decide (a = b) := by
  rw [← eqvAll_strs]
  simp [PyData.eqv]
section
variable {K : PySem.W.Frag} {σ : L2.St} {H : Hp} {te tl ta tb : TE}
/-- two tuples of texts -/
theorem ev_eqT {p q : Addr} {a b : List Str} (ha : Ev ta σ H (.ref p)) (hb : Ev tb σ H (.ref q)) (h1 : H p = some (.tup (a.map V.str))) (h2 : H q = some (.tup (b.map V.str))) (o1 : ∀ t ∈ a, PyData.strOk t = true) (o2 : ∀ t ∈ b, PyData.strOk t = true) :
    Ev (tOp (rEqD K) ta tb) σ H (.bl (decide (a = b))) := ev_op ha hb fun H1 x1 Q k => by
  rw [← eqv_strsT] at k
  exact ⟨_, _, .tup (st_of (x1 _ _ h1)) (dp_strs a), .tup (st_of (x1 _ _ h2)) (dp_strs b), shaped_strsT a o1, shaped_strsT b o2, k H1 (Ex.refl _)⟩
theorem ev_neT {p q : Addr} {a b : List Str} (ha : Ev ta σ H (.ref p)) (hb : Ev tb σ H (.ref q)) (h1 : H p = some (.tup (a.map V.str))) (h2 : H q = some (.tup (b.map V.str))) (o1 : ∀ t ∈ a, PyData.strOk t = true) (o2 : ∀ t ∈ b, PyData.strOk t = true) :
    Ev (tOp (rNeD K) ta tb) σ H (.bl (!decide (a = b))) := ev_op ha hb fun H1 x1 Q k => by
  rw [← eqv_strsT] at k
  exact ⟨_, _, .tup (st_of (x1 _ _ h1)) (dp_strs a), .tup (st_of (x1 _ _ h2)) (dp_strs b), shaped_strsT a o1, shaped_strsT b o2, k H1 (Ex.refl _)⟩
end
end KU

set_option Elab.async false
set_option linter.all false
set_option maxRecDepth 100000
set_option maxHeartbeats 4000000
/-! Lists of texts by ==, != -/
namespace KU
open PySem PySem.Spec PyProof.Rows L2 Evl
/-- a new list is told -/
def NewL (xs : List V) (H : Hp) (Q : VK) : Prop := ∀ (p : Addr) (H' : Hp), H p = none → Ex H H' → H' p = some (.lst xs) → Q (.ref p) H'
theorem NewL.mono {xs : List V} {H H' : Hp} {Q : VK} (x : Ex H H') (k : NewL xs H Q) : NewL xs H' Q := fun p H2 hp x2 e => k p H2 (fresh_back x hp) (x.trans x2) e
section
variable {K : PySem.W.Frag} {σ : L2.St} {H : Hp} {te tl ta tb : TE} {D : Ends}
theorem rv_eqL {p q : Addr} {a b : List Str} (h1 : H p = some (.lst (a.map V.str))) (h2 : H q = some (.lst (b.map V.str))) (o1 : ∀ t ∈ a, PyData.strOk t = true) (o2 : ∀ t ∈ b, PyData.strOk t = true) : RV (rEqD K) (.ref p) (.ref q) H (.bl (decide (a = b))) := by
  intro H1 x1 Q k
  rw [← eqv_strsL] at k
  exact ⟨_, _, .lst (sq_of (x1 _ _ h1)) (dp_strs a), .lst (sq_of (x1 _ _ h2)) (dp_strs b), shaped_strsL a o1, shaped_strsL b o2, k H1 (Ex.refl _)⟩
theorem rv_neL {p q : Addr} {a b : List Str} (h1 : H p = some (.lst (a.map V.str))) (h2 : H q = some (.lst (b.map V.str))) (o1 : ∀ t ∈ a, PyData.strOk t = true) (o2 : ∀ t ∈ b, PyData.strOk t = true) : RV (rNeD K) (.ref p) (.ref q) H (.bl (!decide (a = b))) := by
  intro H1 x1 Q k
  rw [← eqv_strsL] at k
  exact ⟨_, _, .lst (sq_of (x1 _ _ h1)) (dp_strs a), .lst (sq_of (x1 _ _ h2)) (dp_strs b), shaped_strsL a o1, shaped_strsL b o2, k H1 (Ex.refl _)⟩
theorem rv_eqTT {p q : Addr} {a b : List Str} (h1 : H p = some (.tup (a.map V.str))) (h2 : H q = some (.tup (b.map V.str))) (o1 : ∀ t ∈ a, PyData.strOk t = true) (o2 : ∀ t ∈ b, PyData.strOk t = true) : RV (rEqD K) (.ref p) (.ref q) H (.bl (decide (a = b))) := by
  intro H1 x1 Q k
  rw [← eqv_strsT] at k
  exact ⟨_, _, .tup (st_of (x1 _ _ h1)) (dp_strs a), .tup (st_of (x1 _ _ h2)) (dp_strs b), shaped_strsT a o1, shaped_strsT b o2, k H1 (Ex.refl _)⟩
theorem rv_neTT {p q : Addr} {a b : List Str} (h1 : H p = some (.tup (a.map V.str))) (h2 : H q = some (.tup (b.map V.str))) (o1 : ∀ t ∈ a, PyData.strOk t = true) (o2 : ∀ t ∈ b, PyData.strOk t = true) : RV (rNeD K) (.ref p) (.ref q) H (.bl (!decide (a = b))) := by
  intro H1 x1 Q k
  rw [← eqv_strsT] at k
  exact ⟨_, _, .tup (st_of (x1 _ _ h1)) (dp_strs a), .tup (st_of (x1 _ _ h2)) (dp_strs b), shaped_strsT a o1, shaped_strsT b o2, k H1 (Ex.refl _)⟩
/-- a list that is made == [] -/
theorem ev_eqNil {a : List Str} (ha : EvL ta σ H (a.map V.str)) (o : ∀ t ∈ a, PyData.strOk t = true) : Ev (tOp (rEqD K) ta (tLst tNil)) σ H (.bl (decide (a = []))) :=
  ev_opLL ha (el_lst (vs := ([] : List Str).map V.str) ea_nil (by decide)) fun p q H1 h1 h2 x1 => rv_eqL h1 h2 o fun t ht => by cases ht
/-- tuple(list) of texts -/
theorem eu_tuple {a : List Str} (ha : EvL ta σ H (a.map V.str)) : EvU (tCB (fun xs H Q => ∃ (p : Addr) (ys : List V), xs = [V.ref p] ∧ ((SqL K H p ys ∧ ∀ l : Addr, H l = none → Q (V.ref l) (upd H l (.tup ys))) ∨ (SqT K H p ys ∧ Q (V.ref p) H))) (tCons ta tNil)) σ H (a.map V.str) :=
  fun H1 x1 Q q => ha H1 x1 _ fun p H2 hp x2 e => ⟨p, _, rfl, .inl ⟨sq_of e, fun l hl => q l _ (fresh_back x2 hl) (x2.trans (Ex.new hl)) upd_same⟩⟩
theorem eu_tupleV {p : Addr} {a : List Str} (ha : Ev ta σ H (.ref p)) (hp : H p = some (.lst (a.map V.str))) : EvU (tCB (fun xs H Q => ∃ (p : Addr) (ys : List V), xs = [V.ref p] ∧ ((SqL K H p ys ∧ ∀ l : Addr, H l = none → Q (V.ref l) (upd H l (.tup ys))) ∨ (SqT K H p ys ∧ Q (V.ref p) H))) (tCons ta tNil)) σ H (a.map V.str) :=
  fun H1 x1 Q q => ha H1 x1 _ fun H2 x2 => ⟨p, _, rfl, .inl ⟨sq_of (x2 _ _ (x1 _ _ hp)), fun l hl => q l _ (fresh_back x2 hl) (x2.trans (Ex.new hl)) upd_same⟩⟩
theorem ev_callL {sp : Sp} {E : XK} {xs : List V} {v : V} (hl : Ev ta σ H v) (h : ∀ H1, Ex H H1 → ∀ Q : VK, NewL xs H1 Q → sp [v] H1 Q E) : EvL (tCall sp [] E (tCons ta tNil)) σ H xs :=
  fun H1 x1 Q q => hl H1 x1 _ fun H2 x2 => h H2 (x1.trans x2) Q fun p H3 hp x3 e => q p H3 (fresh_back x2 hp) (x2.trans x3) e
end
end KU

set_option Elab.async false
set_option linter.all false
set_option maxRecDepth 100000
set_option maxHeartbeats 4000000
/-! Displays of things with properties -/
namespace KU
open PySem PySem.Spec PyProof.Rows L2 Evl
def EvQ (te : TE) (σ : L2.St) (H : Hp) (P : V → Hp → Prop) : Prop := EvP te σ H P ∧ Up P
def EvQA (ta : TA) (σ : L2.St) (H : Hp) (Ps : List (V → Hp → Prop)) : Prop := EvPA ta σ H (Each Ps) ∧ ∀ P ∈ Ps, Up P
def Is (u : V) : V → Hp → Prop := fun v _ => v = u
/-- a list of just these values, above the startup's objects -/
def LstIs (vals : List V) : V → Hp → Prop := fun v H => ∃ l, v = .ref l ∧ l ≠ sysModules ∧ H l = some (.lst vals)
theorem up_lstIs (vals : List V) : Up (LstIs vals) := fun v H H' e ⟨l, h1, h2, h3⟩ => ⟨l, h1, h2, e _ _ h3⟩
section
variable {K : PySem.W.Frag} {σ : L2.St} {H : Hp} {ta te tb : TE} {tr : TA} {P : V → Hp → Prop} {Ps Qs : List (V → Hp → Prop)} {v y z : V} {C : Addr} {f g : Str}
theorem eq_nil : EvQA tNil σ H [] := ⟨ep_nil, fun P h => by cases h⟩
theorem eq_cons (h : EvQ te σ H P) (hr : EvQA tr σ H Ps) : EvQA (tCons te tr) σ H (P :: Ps) := ⟨ep_cons h.2 h.1 hr.1, fun Q hQ => by
  rcases List.mem_cons.mp hQ with e | e
  · rw [e]
    exact h.2
  · exact hr.2 Q e⟩
theorem eq_lst (h : EvQA tr σ H Ps) (small : Ps.length ≤ 1000) : EvQ (tLst tr) σ H (IsL Ps) := ⟨ep_lst h.2 h.1 (by omega), up_isL h.2⟩
theorem eq_tup (h : EvQA tr σ H Ps) (small : Ps.length ≤ 1000) : EvQ (tTup tr) σ H (IsT Ps) := ⟨ep_tup h.2 h.1 (by omega), up_isT h.2⟩
theorem eq_var {i : Nat} (h : σ[i]? = some (some v)) (u : Up P) (p : P v H) : EvQ (tVar i) σ H P := ⟨ep_var u h p, u⟩
theorem eq_of (h : Ev te σ H v) : EvQ te σ H (Is v) := ⟨EvP.of h, up_eq v⟩
theorem eq_cat (u1 : ∀ P ∈ Ps, Up P) (u2 : ∀ P ∈ Qs, Up P) (h1 : EvQ ta σ H (IsL Ps)) (h2 : EvQ tb σ H (IsL Qs)) (small : Ps.length + Qs.length ≤ 1000) : EvQ (tOp rCat ta tb) σ H (IsL (Ps ++ Qs)) := ⟨ep_cat u1 u2 h1.1 h2.1 (by omega), up_isL fun P hP => by
  rcases List.mem_append.mp hP with z | z
  · exact u1 P z
  · exact u2 P z⟩
/-- a list at a name and a display joined -/
theorem eq_more {i : Nat} (u1 : ∀ P ∈ Ps, Up P) (h : σ[i]? = some (some v)) (p : IsL Ps v H) (h2 : EvQA tr σ H Qs) (small : Ps.length + Qs.length ≤ 1000) : EvQ (tOp rCat (tVar i) (tLst tr)) σ H (IsL (Ps ++ Qs)) :=
  eq_cat u1 h2.2 (eq_var h (up_isL u1) p) (eq_lst h2 (by omega)) small
theorem ups_app (u1 : ∀ P ∈ Ps, Up P) (u2 : ∀ P ∈ Qs, Up P) : ∀ P ∈ Ps ++ Qs, Up P := fun P hP => by
  rcases List.mem_append.mp hP with z | z
  · exact u1 P z
  · exact u2 P z
theorem eq_lstB {vs : List V} (h : EvA tr σ H vs) (small : vs.length ≤ 1000) : EvQ (tLstB tr) σ H (LstIs vs) := ⟨fun H1 e Q q =>
  h H1 e _ fun H2 e2 => ⟨sz_of (by omega), fun p hp hb => q _ _ (e2.trans (Ex.new hp)) ⟨p, rfl, hb, upd_same⟩⟩, up_lstIs vs⟩
theorem eq_err1 (T : OexC K C) (no : ∀ x ∈ ([f] : List Str), PySem.W.findIn K (.ref C) x = some none) (h : Ev ta σ H y) : EvQ (tErr C (spI1 K f) (tCons ta tNil)) σ H (IsE C [(f, y)]) := ⟨ep_err1 T (no f (List.mem_cons_self ..)) h, up_isE _ _⟩
theorem eq_err2 (T : OexC K C) (no : ∀ x ∈ ([f, g] : List Str), PySem.W.findIn K (.ref C) x = some none) (h : Ev ta σ H y) (h2 : Ev tb σ H z) : EvQ (tErr C (spI2 K f g) (tCons ta (tCons tb tNil))) σ H (IsE C [(g, z), (f, y)]) :=
  ⟨ep_err2 T (no f (List.mem_cons_self ..)) (no g (List.mem_cons_of_mem _ (List.mem_cons_self ..))) h h2, up_isE _ _⟩
theorem eq_errK1 (T : OexC K C) (no : ∀ x ∈ ([f] : List Str), PySem.W.findIn K (.ref C) x = some none) (h : Ev ta σ H y) : EvQ (tErrK C 1 (spI1 K f) List.reverse (tCons ta tNil)) σ H (IsE C [(f, y)]) := ⟨ep_errK1 T (no f (List.mem_cons_self ..)) h, up_isE _ _⟩
theorem eq_errK2 (T : OexC K C) (no : ∀ x ∈ ([f, g] : List Str), PySem.W.findIn K (.ref C) x = some none) (h2 : Ev tb σ H z) (h : Ev ta σ H y) : EvQ (tErrK C 2 (spI2 K f g) List.reverse (tCons tb (tCons ta tNil))) σ H (IsE C [(g, z), (f, y)]) :=
  ⟨ep_errK2 T (no f (List.mem_cons_self ..)) (no g (List.mem_cons_of_mem _ (List.mem_cons_self ..))) h2 h, up_isE _ _⟩
theorem eq_bare {vs : List V} (h : EvA tr σ H vs) (small : vs.length ≤ 1000) : EvQ (tBare C tr) σ H (IsE C []) := ⟨ep_bare h small, up_isE _ _⟩
theorem q_asgQ {D : Ends} {tz : TS} {i : Nat} (h : EvQ te σ H P) (k : ∀ v H1, Ex H H1 → P v H1 → tz D (σ.set i (some v)) H1) : tSeq (tAsg te (gName i)) tz D σ H := q_asgP h.1 k
theorem s_retQ {D : Ends} (h : EvQ te σ H P) (k : ∀ v H1, Ex H H1 → P v H1 → D.rt v H1) : tRet te D σ H := s_retP h.1 k
end
/-- a list at an address joined with a new one -/
theorem el_cat {σ : L2.St} {H : Hp} {ta tb : TE} {p : Addr} {xs ys : List V} (h1 : Ev ta σ H (.ref p)) (hp : H p = some (.lst xs)) (h2 : EvL tb σ H ys) (small : xs.length + ys.length ≤ 1000) : EvL (tOp rCat ta tb) σ H (xs ++ ys) := fun H1 e Q q =>
  h1 H1 e _ fun H2 e2 => h2 H2 (e.trans e2) _ fun m H3 _ e3 hm => ⟨p, m, xs, ys, rfl, rfl, ((e.trans e2).trans e3) _ _ hp, hm, sz_of (by omega), fun l hl => q l _ (fresh_back (e2.trans e3) hl) ((e2.trans e3).trans (Ex.new hl)) upd_same⟩
end KU

set_option Elab.async false
set_option linter.all false
set_option maxRecDepth 100000
set_option maxHeartbeats 4000000
/-! Data and their reprs, tests whose answer is no -/
namespace KU
open PySem PySem.Spec PyProof.Rows L2 Evl
mutual
theorem RD.mono {K : PySem.W.Frag} {H H' : Hp} (x : Ex H H') : ∀ {v : V} {d : PyData}, RD K H v d → RD K H' v d
  | _, _, .non => .non
  | _, _, .bl b => .bl b
  | _, _, .int i => .int i
  | _, _, .str s => .str s
  | _, _, .tup h r => .tup (ex_t x h) (RDs.mono x r)
  | _, _, .lst h n r => .lst (ex_l x h) n (RDs.mono x r)
  | _, _, .dic h => .dic (x _ _ h)
theorem RDs.mono {K : PySem.W.Frag} {H H' : Hp} (x : Ex H H') : ∀ {vs : List V} {ds : List PyData}, RDs K H vs ds → RDs K H' vs ds
  | _, _, .nil => .nil
  | _, _, .cons h r => .cons (RD.mono x h) (RDs.mono x r)
end
/-- small enough for repr -/
def shows (d : PyData) : Bool := d.showable && decide (d.depth ≤ 60) && decide (d.shown.length ≤ 100000)
section
variable {K : PySem.W.Frag} {σ : L2.St} {H : Hp} {te ta tb : TE} {P : V → Hp → Prop}
theorem ev_repr {vals : List V} {ds : List PyData} (h : EvP te σ H (LstIs vals)) (r : RDs K H vals ds) (ok : shows (.list ds) = true) : Ev (tCB (rRepr K) (tCons te tNil)) σ H (.str (PyData.list ds).shown) := fun H1 e Q q =>
  h H1 e _ fun v H2 e2 p => by
    obtain ⟨l, rfl, hb, hl⟩ := p
    unfold shows at ok
    simp only [Bool.and_eq_true, decide_eq_true_eq] at ok
    exact ⟨l, .list ds, rfl, .lst (.inl (.inl hl)) hb (r.mono (e.trans e2)), ok.1.1, ok.1.2, ok.2, q H2 e2⟩
theorem et_neS {t : Str} (a : Ev ta σ H (.str t)) (b : Ev tb σ H (.str t)) : EvT (tTest (tOp rNe ta tb)) σ H false := by
  have z := et_test (ev_op a b (rv_ne rfl))
  rw [decide_eq_true rfl] at z
  exact z
theorem et_neL {xs : List Int} (a : EvL ta σ H (vints xs)) (b : EvL tb σ H (vints xs)) (same : PyData.eqv (.list (dints xs)) (.list (dints xs)) = true) : EvT (tTest (tOp (rNeD K) ta tb)) σ H false := by
  have z := et_test (ev_opLL (r := rNeD K) (z := .bl (!PyData.eqv (.list (dints xs)) (.list (dints xs)))) a b fun p q H1 hp hq x =>
    rv_neD (fun H2 x2 => .lst (sq_of (x2 _ _ hp)) (dp_ints xs)) (fun H2 x2 => .lst (sq_of (x2 _ _ hq)) (dp_ints xs)) (shaped_ints xs) (shaped_ints xs))
  rw [same] at z
  exact z
theorem eqv_one (i : Int) : PyData.eqv (.list (dints [i])) (.list (dints [i])) = true := by simp [dints, PyData.eqv, PyData.eqvAll]
theorem et_or2 {t u : TT} (a : EvT t σ H false) (b : EvT u σ H false) : EvT (tOr t u) σ H false := et_or a fun _ => b
theorem et_no {t : TT} (a : EvT t σ H true) : EvT (tNot t) σ H false := et_not a
theorem ev_isP {C : Addr} {fs : List (Str × V)} {c : V} {u : Value} {b : Bool} (h : EvP te σ H (IsE C fs)) (T : ExcC K C) (k : ClsV c u) (hb : PySem.W.kitOne K (.ref C) u = some b) : Ev (tCB (rIsErr K) (tCons te (tCons (tC c) tNil))) σ H (.bl b) := fun H1 e Q q =>
  h H1 e _ fun v H2 e2 p => by
    obtain ⟨a, rfl, at_⟩ := p
    exact ⟨a, C, fs, c, u, b, rfl, k, T, at_, hb, q H2 e2⟩
/-- a call whose promise tells a property of the answer -/
theorem ep_call {sp : Sp} {E : XK} {ta : TA} {vs : List V} (h : EvA ta σ H vs) (p : ∀ H1, Ex H H1 → ∀ Q : VK, (∀ v H2, Ex H1 H2 → P v H2 → Q v H2) → sp (vs ++ []) H1 Q E) : EvP (tCall sp [] E ta) σ H P := fun H1 e Q q =>
  h H1 e _ fun H2 e2 => p H2 (e.trans e2) Q fun v H3 e3 pv => q v H3 (e2.trans e3) pv
end
end KU

set_option Elab.async false
set_option linter.all false
set_option maxRecDepth 100000
set_option maxHeartbeats 4000000
/-! Values that are no texts: compared with texts, looked for among texts, their reprs, their types -/
namespace KU
open PySem PySem.Spec PyProof.Rows L2 Evl
section
open AutoSeq1 (wpAny_loadPart')
open MeetsSeq
variable {A : Around} {s : Shared}
theorem dict_declines (l : Addr) (oc : Obj) (hc : oc.cls = .type "dict") (b : Str) (u : Tok) :
    Meets (Builtin.«dict.__eq__» ⟨[.ref l, .str b u], []⟩) (fun _ R s => s.heap.get? l = some oc ∧ R (.ok (.ret .notImplemented)) s) :=
  .of_wp fun prog w A R s h => by
    obtain ⟨c, dd, da, sl⟩ := oc
    simp only at hc
    subst hc
    obtain ⟨hp, g, d, tk, os⟩ := s
    obtain ⟨hl, h⟩ := h
    have f1 := F.sub_str_dict
    wp_walk using wpAny_loadPart' hl
    exact ⟨_, rfl, h⟩
theorem str_declines (l : Addr) (oc : Obj) (hc : oc.cls = .type "dict") {es : Array DictEntry} {ep : Nat} (hd : oc.data = .dict es ep) (b : Str) (u : Tok) :
    Meets (Builtin.«str.__eq__» ⟨[.str b u, .ref l], []⟩) (fun _ R s => s.heap.get? l = some oc ∧ R (.ok (.ret .notImplemented)) s) :=
  .of_wp fun prog w A R s h => by
    obtain ⟨c, dd, da, sl⟩ := oc
    simp only at hc hd
    subst hc hd
    obtain ⟨hp, g, d, tk, os⟩ := s
    obtain ⟨hl, h⟩ := h
    have f1 := F.sub_dict_str
    wp_walk using wpAny_loadPart' hl, wpAny_load hl
    exact ⟨_, rfl, h⟩
/-- a text == a dict -/
theorem str_dict {l : Addr} {oc : Obj} (b : Str) (u : Tok) (ho : s.heap.get? l = some oc) (hc : oc.cls = .type "dict") {es : Array DictEntry} {ep : Nat} (hd : oc.data = .dict es ep) (hu : A.units < cLine) : SeqAt.EqAt A s (.str b u) (.ref l) false := fun prog w E Q h => by
  have rc : ∀ Q' : Value → Shared → Prop, Q' (.bool false) s → wpAny (model prog w) A (richCompare .Eq (.str b u) (.ref l)) Q' E s := fun Q' q =>
    SeqAt.rc_eq_decline_or (k := false) (typeIs_str s b u) ⟨_, ho, hc⟩ (by decide) F.sub_dict_str F.slot_str_eq F.slot_dict_eq_refl
      (fun _ z => call_meets F.slot_str_eq (typeIs_str s b u) F.entry_str_eq (F.args_str_eq_2 _ _) (str_declines l oc hc hd b u) ⟨ho, z⟩)
      (fun _ z => call_meets F.slot_dict_eq_refl ⟨_, ho, hc⟩ F.entry_dict_eq (F.args_dict_eq_2 _ _) (dict_declines l oc hc b u) ⟨ho, z⟩)
      (fun _ z => wpAny_of_eq (rfl : isSame (.str b u) (.ref l) = pure false) z) (.inr hu) q
  unfold eqBool
  exact wpAny_holding (wpAny_ite_split (fun same => absurd (eq_of_beq same) nofun) fun _ => wpAny_bind (rc _ (wpAny_truthy_bool h)))
end

/-- the values that the law asks with: data, no dict but the empty one -/
inductive Odd (H : Hp) : V → Prop where
  | non : Odd H .non
  | bl (b : Bool) : Odd H (.bl b)
  | int (i : Int) : Odd H (.int i)
  | str (t : Str) : Odd H (.str t)
  | lst {a : Addr} {xs : List Str} : H a = some (.lst (xs.map V.str)) → a ≠ sysModules → Odd H (.ref a)
  | tup {a : Addr} {xs : List Str} : H a = some (.tup (xs.map V.str)) → Odd H (.ref a)
  | dic {a : Addr} : H a = some (.dK []) → Odd H (.ref a)
theorem Odd.mono {H H' : Hp} (x : Ex H H') : ∀ {v : V}, Odd H v → Odd H' v
  | _, .non => .non
  | _, .bl b => .bl b
  | _, .int i => .int i
  | _, .str t => .str t
  | _, .lst h n => .lst (x _ _ h) n
  | _, .tup h => .tup (x _ _ h)
  | _, .dic h => .dic (x _ _ h)
def isStrV : V → Bool
  | .str _ => true
  | _ => false
/-- an odd value's type, as isinstance asks it -/
theorem Odd.ty {K : PySem.W.Frag} {H : Hp} {v : V} (o : Odd H v) : ∃ t, TyX K H v t ∧ PySem.W.kitOne K t (.type "str") = some (isStrV v) := by
  cases o with
  | non => exact ⟨_, .base .non, (kit_ty (by decide +kernel) : _ = some false)⟩
  | bl b => exact ⟨_, .base (.bl b), (kit_ty (by decide +kernel) : _ = some false)⟩
  | int i => exact ⟨_, .base (.int i), (kit_ty (by decide +kernel) : _ = some false)⟩
  | str t => exact ⟨_, .base (.str t), (kit_ty (by decide +kernel) : _ = some true)⟩
  | lst h n => exact ⟨_, .base (.lst h), (kit_ty (by decide +kernel) : _ = some false)⟩
  | tup h => exact ⟨_, .base (.tup h), (kit_ty (by decide +kernel) : _ = some false)⟩
  | dic h => exact ⟨_, .base (.dK h), (kit_ty (by decide +kernel) : _ = some false)⟩
section
variable {X : Cx} {K : PySem.W.Frag} {σ : L2.St} {H : Hp} {te ta tb : TE}
theorem ev_isStr {v : V} (h : Ev te σ H v) (o : Odd H v) : Ev (tCB (rIsi K) (tCons te (tCons (tC (.ty "str")) tNil))) σ H (.bl (isStrV v)) :=
  ev_cb (ea_cons h (ea_cons ev_c ea_nil)) fun H1 x1 Q q => by
    obtain ⟨t, ty, e⟩ := (o.mono x1).ty (K := K)
    exact ⟨v, _, t, _, _, rfl, .ty "str", ty, e, q H1 (Ex.refl _)⟩
/-- is the value one of these texts? -/
def inO (v : V) (ws : List Str) : Bool := match v with
  | .str t => decide (t ∈ ws)
  | _ => false
def rNiO (K : PySem.W.Frag) : R2 := fun x y H Q => ∃ (p : Addr) (ws : List Str), y = .ref p ∧ SqT K H p (ws.map V.str) ∧ Odd H x ∧ Q (.bl (!inO x ws)) H
/-- v == text, for the items of a tuple of texts -/
theorem odd_eqs {A : Around} {s : Shared} {pins : List (Addr × Obj)} (I : Inv X pins σ H s) (hu : A.units < cLine) {v : V} {u : Value} (o : Odd H v) (r : RelV v u) : ∀ {ws : List Str} {us : List Value}, Vals (ws.map V.str) us → ∀ z ∈ us, ∃ b, SeqAt.EqAt A s z u b ∧ ((∃ t k, z = .str t k ∧ t ∈ ws ∧ b = decide (v = .str t))) := by
  have one : ∀ (t : Str) (k : Tok), SeqAt.EqAt A s (.str t k) u (decide (v = .str t)) := fun t k => by
    cases o with
    | non =>
      cases (show u = Value.none from r)
      exact SeqAt.EqAt.str_none t k
    | bl b =>
      cases (show u = Value.bool b from r)
      exact SeqAt.EqAt.str_bool t k b
    | int i =>
      obtain ⟨j, rfl⟩ := (show ∃ t, u = Value.int i t from r)
      exact SeqAt.EqAt.str_int t k i j
    | str x =>
      obtain ⟨j, rfl⟩ := (show ∃ t, u = Value.str x t from r)
      have z := SeqAt.EqAt.str_str (A := A) (s := s) t k x j
      have e : (t == x) = decide (V.str x = V.str t) := by
        rw [Bool.eq_iff_iff, beq_iff_eq, decide_eq_true_eq]
        constructor
        · rintro rfl
          rfl
        · intro e
          cases e
          rfl
      rw [e] at z
      exact z
    | lst h n =>
      cases r
      obtain ⟨its, _, pl, _⟩ := I.list (sq_of h)
      exact SeqAt.EqAt.str_list t k pl.isList hu
    | tup h =>
      cases r
      obtain ⟨its, _, pl, _⟩ := I.tuple (st_of h)
      exact SeqAt.EqAt.str_tuple t k pl hu
    | dic h =>
      cases r
      obtain ⟨_, hn, vs, rel, o, es, ep, ho, hx, hd, _⟩ := dk_of I.hok h
      exact str_dict t k ho hx.1 hd hu
  intro ws
  induction ws with
  | nil =>
    intro us h z hz
    cases h
    cases hz
  | cons t ws ih =>
    intro us h z hz
    cases h with
    | cons r1 r2 =>
      rcases List.mem_cons.mp hz with rfl | hz
      · obtain ⟨k, rfl⟩ := r1
        exact ⟨_, one t k, t, k, rfl, List.mem_cons_self, rfl⟩
      · obtain ⟨b, e, t2, k2, e2, m, e3⟩ := ih r2 z hz
        exact ⟨b, e, t2, k2, e2, List.mem_cons_of_mem _ m, e3⟩
/-- the outcome of v == z, z a text -/
def eqO (v : V) : Value → Bool
  | .str t _ => decide (v = .str t)
  | _ => false
theorem any_eqO {v : V} : ∀ {ws : List Str} {us : List Value}, Vals (ws.map V.str) us → us.any (eqO v) = inO v ws
  | [], _, .nil => by
    unfold inO
    cases v <;> rfl
  | t :: ws, _, .cons (b := u) r rs => by
    obtain ⟨k, rfl⟩ := r
    rw [List.any_cons, any_eqO rs]
    unfold inO eqO
    cases v with
    | str x =>
      simp only
      by_cases e : x = t
      · subst e
        simp
      · have e2 : ¬ V.str x = V.str t := fun z => by
          cases z
          exact e rfl
        rw [decide_eq_false e2, Bool.false_or, Bool.eq_iff_iff, decide_eq_true_eq, decide_eq_true_eq, List.mem_cons]
        exact ⟨.inr, fun z => z.resolve_left e⟩
    | _ => rfl
theorem op_niO (hu : X.A.units + 1 < cLine) : OpR X (compareOp .NotIn) (rNiO X.K) := by
  intro pins s σ H x y v u Q I rx ry h
  obtain ⟨p, ws, rfl, hq, o, q⟩ := h
  cases ry
  obtain ⟨its, r, pl, hz⟩ := I.tuple hq
  refine SeqAt.notIn_tupleAt (eqO x) pl (fun w hw => ?_) ⟨.bl _, H, I, rfl, ?_⟩
  · obtain ⟨b, e, t, k, rfl, m, rfl⟩ := odd_eqs (A := X.A.in1) I hu o rx r w (by simpa using hw)
    exact e
  · rw [show its.toArray.any (eqO x) = its.any (eqO x) by simp, any_eqO r]
    exact q
theorem rv_niO {p : Addr} {ws : List Str} {v : V} (hp : SqT K H p (ws.map V.str)) (o : Odd H v) : RV (rNiO K) v (.ref p) H (.bl (!inO v ws)) := fun H1 x1 Q q => ⟨p, ws, rfl, ex_t x1 hp, o.mono x1, q H1 (Ex.refl _)⟩

/-- the data that an odd value is -/
inductive DatO (H : Hp) : V → PyData → Prop where
  | non : DatO H .non .none
  | bl (b : Bool) : DatO H (.bl b) (.bool b)
  | int (i : Int) : DatO H (.int i) (.int i)
  | str (t : Str) : DatO H (.str t) (.str t)
  | lst {a : Addr} {xs : List Str} : H a = some (.lst (xs.map V.str)) → a ≠ sysModules → DatO H (.ref a) (.list (xs.map PyData.str))
  | tup {a : Addr} {xs : List Str} : H a = some (.tup (xs.map V.str)) → DatO H (.ref a) (.tuple (xs.map PyData.str))
  | dic {a : Addr} : H a = some (.dK []) → DatO H (.ref a) (.dict [])
theorem DatO.odd {H : Hp} {v : V} {d : PyData} (h : DatO H v d) : Odd H v := by
  cases h with
  | non => exact .non
  | bl b => exact .bl b
  | int i => exact .int i
  | str t => exact .str t
  | lst h n => exact .lst h n
  | tup h => exact .tup h
  | dic h => exact .dic h
theorem DatO.mono {H H' : Hp} (x : Ex H H') : ∀ {v : V} {d : PyData}, DatO H v d → DatO H' v d
  | _, _, .non => .non
  | _, _, .bl b => .bl b
  | _, _, .int i => .int i
  | _, _, .str t => .str t
  | _, _, .lst h n => .lst (x _ _ h) n
  | _, _, .tup h => .tup (x _ _ h)
  | _, _, .dic h => .dic (x _ _ h)
theorem rds_str {K : PySem.W.Frag} {H : Hp} : ∀ xs : List Str, RDs K H (xs.map V.str) (xs.map PyData.str)
  | [] => .nil
  | t :: xs => .cons (.str t) (rds_str xs)
theorem DatO.rd {H : Hp} {v : V} {d : PyData} (h : DatO H v d) : RD K H v d := by
  cases h with
  | non => exact .non
  | bl b => exact .bl b
  | int i => exact .int i
  | str t => exact .str t
  | lst h n => exact .lst (.inl (.inl h)) n (rds_str _)
  | tup h => exact .tup (.inl (.inl h)) (rds_str _)
  | dic h => exact .dic h
/-- repr of any data -/
def rReprA (K : PySem.W.Frag) : List V → Hp → VK → Prop := fun xs H Q => ∃ (v : V) (d : PyData), xs = [v] ∧ RD K H v d ∧ d.showable = true ∧ d.depth ≤ 60 ∧ d.shown.length ≤ 100000 ∧ Q (.str d.shown) H
theorem call_reprA (hg : X.A.guards = some []) (hu : X.A.units + 64 < cLine) : CallR X (.builtin "repr") (rReprA X.K) := by
  intro pins s σ H xs us Q I r h
  obtain ⟨v, d, rfl, rd, sh, dp, sz, q⟩ := h
  obtain ⟨u, rfl, ru⟩ := vals1 r
  have fin : ∀ (t : Tok) (k : Nat), EP X pins σ Q (.str d.shown t) { s with toks := k } := fun t k => ⟨.str d.shown, H, I.tok k, ⟨_, rfl⟩, q⟩
  have sz' : d.shown.length ≤ sizeLine := Nat.le_trans sz (by decide)
  cases rd with
  | non =>
    cases (show u = Value.none from ru)
    exact PySem.P.repr_of_none (fin _ _)
  | bl b =>
    cases (show u = Value.bool b from ru)
    exact PySem.P.repr_of_bool (fin _ _)
  | int i =>
    obtain ⟨t, rfl⟩ := (show ∃ t, u = Value.int i t from ru)
    exact PySem.P.repr_of_int (by simpa [PyData.showable] using sh) (fin _ _)
  | str x =>
    obtain ⟨t, rfl⟩ := (show ∃ t, u = Value.str x t from ru)
    exact PySem.P.repr_of_str (fin _ _) sz'
  | tup h1 h2 =>
    obtain ⟨as, hr, no⟩ := RD.reads I _ _ _ (.tup h1 h2) ru
    cases ru
    exact repr_of_reads' hr sh (fun _ => no) hg (by omega) (fun _ _ e => e) (fun h' u tk kp => ⟨.str _, H, I.kept kp, ⟨_, rfl⟩, q⟩) sz'
  | lst h1 h2 h3 =>
    obtain ⟨as, hr, no⟩ := RD.reads I _ _ _ (.lst h1 h2 h3) ru
    cases ru
    exact repr_of_reads' hr sh (fun _ => no) hg (by omega) (fun _ _ e => e) (fun h' u tk kp => ⟨.str _, H, I.kept kp, ⟨_, rfl⟩, q⟩) sz'
  | dic h1 =>
    obtain ⟨as, hr, no⟩ := RD.reads I _ _ _ (.dic h1) ru
    cases ru
    exact repr_of_reads' hr sh (fun _ => no) hg (by omega) (fun _ _ e => e) (fun h' u tk kp => ⟨.str _, H, I.kept kp, ⟨_, rfl⟩, q⟩) sz'
theorem ev_reprA {v : V} {d : PyData} (h : Ev te σ H v) (r : RD K H v d) (ok : shows d = true) : Ev (tCB (rReprA K) (tCons te tNil)) σ H (.str d.shown) := fun H1 e Q q =>
  h H1 e _ fun H2 e2 => by
    unfold shows at ok
    simp only [Bool.and_eq_true, decide_eq_true_eq] at ok
    exact ⟨v, d, rfl, r.mono (e.trans e2), ok.1.1, ok.1.2, ok.2, q H2 e2⟩
end
end KU

set_option Elab.async false
set_option linter.all false
set_option maxRecDepth 100000
set_option maxHeartbeats 4000000
/-! Sets of texts: what such a set holds, one text more -/
namespace KU
open PySem PySem.Spec PyProof.Rows L2
/-- the text of an entry -/
def tkey (e : Int × Value) : Str := match e.2 with | .str k _ => k | _ => Str.empty
def GoodT (w : World) (e : Int × Value) : Prop := ∃ k u, e.2 = Value.str k u ∧ e.1 = hashStr w k
/-- what the entries and the table of a set of texts are; S tells the texts -/
structure Held (w : World) (es : Array (Int × Value)) (t : SetTable) (S : Str → Bool) (n : Nat) : Prop where
  good : ∀ e ∈ es.toList, GoodT w e
  once : (es.toList.map tkey).Nodup
  mem : ∀ k, S k = true ↔ k ∈ es.toList.map tkey
  num : es.size = n
  few : n < scanBound
  fits : t.fits es.size = true
  ris : Ris t.place.toList
  led : w.params.followText "set-order" = true ∨ t.led = true
def SetS (w : World) (h : Heap) (a : Addr) (S : Str → Bool) (n : Nat) : Prop := ∃ o es ep t, h.get? a = some o ∧ o.ExactSet ∧ o.data = .set es ep t ∧ Held w es t S n
section
variable {P : Program} {w : World} {h h' : Heap} {a : Addr} {S : Str → Bool} {n : Nat}
theorem SetS.keep (R : SetS w h a S n) (k : ∀ o, h.get? a = some o → h'.get? a = some o) : SetS w h' a S n := by
  obtain ⟨o, es, ep, t, ho, r⟩ := R
  exact ⟨o, es, ep, t, k o ho, r⟩
theorem SetS.same {S' : Str → Bool} (R : SetS w h a S n) (e : ∀ k, S' k = S k) : SetS w h a S' n := by
  rw [show S' = S from funext e]
  exact R
theorem goodT_elems {l : List (Int × Value)} (g : ∀ e ∈ l, GoodT w e) : ElemsOf (PySem.strKind P w) l := fun e he => by
  obtain ⟨k, u, q1, q2⟩ := g e he
  refine ⟨⟨k, ?_, q2⟩, ?_⟩
  · rw [q1]
    exact strKind_is P w k u
  · rw [q1]
    rfl
theorem goodT_is {e : Int × Value} (g : GoodT w e) (k : Str) : (PySem.strKind P w).is k e.2 = true ↔ tkey e = k := by
  obtain ⟨k0, u, q, _⟩ := g
  have e1 : tkey e = k0 := by
    unfold tkey
    rw [q]
  have i0 : (PySem.strKind P w).is k0 e.2 = true := by
    rw [q]
    exact strKind_is P w k0 u
  rw [e1]
  constructor
  · intro z
    exact (PySem.strKind P w).inj e.2 k0 k i0 z
  · intro z
    rw [← z]
    exact i0
theorem goodT_mem {l : List (Int × Value)} (g : ∀ e ∈ l, GoodT w e) (k : Str) : k ∈ l.map tkey ↔ ∃ e ∈ l, (PySem.strKind P w).is k e.2 = true := by
  rw [List.mem_map]
  exact exists_congr fun e => and_congr_right fun he => (goodT_is (g e he) k).symm
theorem Held.turn {es es' : Array (Int × Value)} {t t' : SetTable} (R : Held w es t S n) (p : es'.toList.Perm es.toList) (hf : t'.fits es'.size = true) (hr : Ris t'.place.toList) (hl : t'.led = t.led) : Held w es' t' S n where
  good := fun e he => R.good e (p.mem_iff.mp he)
  once := (p.map tkey).nodup_iff.mpr R.once
  mem := fun k => (R.mem k).trans (p.map tkey).mem_iff.symm
  num := by
    have z := p.length_eq
    rw [Array.length_toList, Array.length_toList] at z
    exact z.trans R.num
  few := R.few
  fits := hf
  ris := hr
  led := R.led.imp id fun z => hl.trans z
theorem Held.more {es es' : Array (Int × Value)} {t t' : SetTable} {k : Str} {u : Tok} (R : Held w es t S n) (room : n + 1 < scanBound) (no : k ∉ es.toList.map tkey) (p : es'.toList.Perm ((hashStr w k, Value.str k u) :: es.toList))
    (hf : t'.fits es'.size = true) (hr : Ris t'.place.toList) (hl : t'.led = t.led) : Held w es' t' (fun j => S j || decide (j = k)) (n + 1) := by
  have pk : (es'.toList.map tkey).Perm (k :: es.toList.map tkey) := p.map tkey
  refine ⟨fun e he => ?_, pk.nodup_iff.mpr (List.nodup_cons.mpr ⟨no, R.once⟩), fun j => ?_, ?_, room, hf, hr, R.led.imp id fun z => hl.trans z⟩
  · rcases List.mem_cons.mp (p.mem_iff.mp he) with q | q
    · rw [q]
      exact ⟨k, u, rfl, rfl⟩
    · exact R.good e q
  · rw [Bool.or_eq_true, decide_eq_true_eq, R.mem j, pk.mem_iff, List.mem_cons, or_comm]
  · have z := p.length_eq
    rw [List.length_cons, Array.length_toList, Array.length_toList, R.num] at z
    exact z
end
section
variable {P : Program} {w : World} {A : Around} {E : Value → Shared → Prop} {s : Shared} {a : Addr} {S : Str → Bool} {n : Nat}
theorem tail_addS {g : Bool → Sem Unit} {o : Obj} {es es1 : Array (Int × Value)} {ep m : Nat} {t t2 : SetTable} {S' : Str → Bool} {wd : Bool} {R : Option Bool → Shared → Prop}
    (hg : ∀ (b : Bool) (s1 : Shared) (Q' : Unit → Shared → Prop), Q' () s1 → wpAny (model P w) A (g b) Q' E s1) (ho : s.heap.get? a = some o) (hex : o.ExactSet) (hd : o.data = .set es ep t) (hold : Held w es1 t2 S' m)
    (hR : ∀ h', Heap.SameBut a s.heap h' → SetS w h' a S' m → R (some true) { s with heap := h' }) :
    wpAny (model P w) A (do
        storeSet a es1 t2
        if (!wd && t2.tooFull) = true then do
            g (relayAll t2 es1 (SetTable.grown es1.size)).2.2
            storeSet a (relayAll t2 es1 (SetTable.grown es1.size)).1 (relayAll t2 es1 (SetTable.grown es1.size)).2.1
            pure (some true)
          else pure (some true)) R E s := by
  have b1 : es1.size < scanBound := by
    rw [hold.num]
    exact hold.few
  refine wpAny_bind (wpAny_storeSet_of ho hd ?_ (fits_of_scanBound b1))
  have o1 := store_at (es' := es1) (t' := t2) ho hd
  have k1 := Heap.SameBut.update s.heap a (Obj.putSet es1 t2)
  split
  · have pm := relayAll_perm t2 es1 (SetTable.grown es1.size)
    have f3 := relayAll_fits t2 es1 (SetTable.grown es1.size)
    have r3 := relayAll_ris t2 es1 (SetTable.grown es1.size)
    have l3 := relayAll_led t2 es1 (SetTable.grown es1.size)
    generalize relayAll t2 es1 (SetTable.grown es1.size) = Y at pm f3 r3 l3 ⊢
    obtain ⟨es2, t3, gv⟩ := Y
    dsimp only at pm f3 r3 l3 ⊢
    have h2 := hold.turn pm f3 r3 l3
    have b2 : es2.size < scanBound := by
      rw [h2.num]
      exact h2.few
    refine wpAny_bind (hg _ _ _ (wpAny_bind (wpAny_storeSet_of o1 rfl ?_ (fits_of_scanBound b2))))
    exact wpAny_pure (hR _ (k1.trans (Heap.SameBut.update _ a _)) ⟨_, es2, _, t3, store_at (es' := es2) (t' := t3) o1 rfl, hex, rfl, h2⟩)
  · exact wpAny_pure (hR _ k1 ⟨_, es1, _, t2, o1, hex, rfl, hold⟩)
theorem hashed_addS {k : Str} {u : Tok} {Q : Bool → Shared → Prop} (R : SetS w s.heap a S n) (room : n + 1 < scanBound)
    (hQ : ∀ h', Heap.SameBut a s.heap h' → SetS w h' a (fun j => S j || decide (j = k)) (if S k = true then n else n + 1) → Q (!S k) { s with heap := h' }) :
    wpAny (model P w) A (setAddHashed a (.str k u) ((PySem.strKind P w).hash k)) Q E s := by
  obtain ⟨o, es, ep, t, ho, hex, hd, hold⟩ := R
  have hkey : (PySem.strKind P w).is k (.str k u) = true := strKind_is P w k u
  have hsc : (Value.str k u).scannable = true := rfl
  have hel : ElemsOf (PySem.strKind P w) es.toList := goodT_elems hold.good
  have hb : es.size < scanBound := by
    rw [hold.num]
    exact hold.few
  unfold setAddHashed setAddHashedIn
  refine wpAny_holding (wpAny_bind (wpAny_setState_of ho hd hold.fits ?_))
  dsimp only
  rw [byScan_of hsc hb hel]
  simp only [↓reduceIte]
  unfold setAddByScan
  refine wpAny_bind ?_
  refine wpAny_bind (wpAny_rule ?_)
  refine wpAny_bind (wpAny_setScan_of hkey ho hd hold.fits hel ?_)
  cases hfi : List.findIdx? (fun e => (PySem.strKind P w).is k e.2) es.toList with
  | some j =>
    dsimp only
    obtain ⟨hj, pj, _⟩ := List.findIdx?_eq_some_iff_getElem.mp hfi
    have hSk : S k = true := (hold.mem k).mpr ((goodT_mem (P := P) hold.good k).mpr ⟨_, List.getElem_mem hj, pj⟩)
    refine wpAny_pure (wpAny_pure ?_)
    have q := hQ s.heap (Heap.SameBut.refl a s.heap)
    rw [hSk, if_pos rfl] at q
    refine q ⟨o, es, ep, t, ho, hex, hd, { hold with mem := fun i => ?_ }⟩
    rw [Bool.or_eq_true, decide_eq_true_eq, ← hold.mem i]
    constructor
    · rintro (z | rfl)
      · exact z
      · exact hSk
    · exact .inl
  | none =>
    dsimp only
    have no : k ∉ es.toList.map tkey := fun z => by
      obtain ⟨e, he, q⟩ := (goodT_mem (P := P) hold.good k).mp z
      have c := List.findIdx?_eq_none_iff.mp hfi e he
      rw [q] at c
      cases c
    have hSk : S k = false := by
      cases q : S k with
      | false => rfl
      | true => exact absurd ((hold.mem k).mp q) no
    have way : ∀ (b : Bool) {s1 : Shared} {Q' : Unit → Shared → Prop}, Q' () s1 → wpAny (model P w) A (match b with | true => rule "set.scan.the-table-gave-way" | false => pure ()) Q' E s1 :=
      fun b s1 Q' q => by cases b <;> first | exact wpAny_pure q | exact wpAny_rule q
    have pm := layNew_perm t es ((PySem.strKind P w).hash k) (.str k u)
    have f1 := layNew_fits t es ((PySem.strKind P w).hash k) (.str k u)
    have r1 := layNew_ris t es ((PySem.strKind P w).hash k) (.str k u) hold.ris
    have l1 := layNew_led t es ((PySem.strKind P w).hash k) (.str k u)
    generalize layNew t es ((PySem.strKind P w).hash k) (.str k u) = Y at pm f1 r1 l1 ⊢
    obtain ⟨es1, t1, wd, gv⟩ := Y
    dsimp only at pm f1 r1 l1 ⊢
    rw [Array.toList_push] at pm
    have pc : es1.toList.Perm ((hashStr w k, Value.str k u) :: es.toList) := pm.trans (List.perm_append_singleton _ _)
    have fin : ∀ h', Heap.SameBut a s.heap h' → SetS w h' a (fun j => S j || decide (j = k)) (n + 1) → Q true { s with heap := h' } := fun h' sb r => by
      have q := hQ h' sb
      rw [hSk] at q
      exact q r
    refine wpAny_bind (way _ ?_)
    split
    · refine wpAny_bind ?_
      rw [hashByValue_scannable 8 hsc]
      refine wpAny_pure ?_
      refine tail_addS ?_ ho hex hd (hold.more room no pc ?_ ?_ ?_) ?_
      · intro b s1 Q' q
        cases b <;> first | exact wpAny_pure q | exact wpAny_rule q
      · first | (split <;> first | exact f1 | exact SetTable.fits_plain_off f1) | exact f1
      · first | (split <;> exact r1) | exact r1
      · first | (split <;> exact l1) | exact l1
      · intro h' sb r
        dsimp only
        exact wpAny_pure (fin h' sb r)
    · refine wpAny_bind (wpAny_pure ?_)
      simp only [↓reduceIte]
      refine tail_addS ?_ ho hex hd (hold.more room no pc f1 r1 l1) ?_
      · intro b s1 Q' q
        cases b <;> first | exact wpAny_pure q | exact wpAny_rule q
      · intro h' sb r
        dsimp only
        exact wpAny_pure (fin h' sb r)
theorem heldS_new {w : World} {h : Heap} {a : Addr} (ho : h.get? a = some { cls := .type "set", dict := none, data := .set #[] 0 (.fresh 0 0 (!w.params.followText "set-order")) }) : SetS w h a (fun _ => false) 0 := by
  refine ⟨_, #[], 0, _, ho, ⟨rfl, rfl, rfl⟩, rfl, ⟨fun e he => ?_, ?_, fun k => ?_, rfl, by decide, by rfl, List.Pairwise.nil, ?_⟩⟩
  · simp at he
  · simp
  · simp
  · show _ ∨ (!w.params.followText "set-order") = true
    cases w.params.followText "set-order"
    · exact .inr rfl
    · exact .inl rfl
end
end KU

set_option Elab.async false
set_option linter.all false
set_option maxRecDepth 100000
set_option maxHeartbeats 4000000
/-! set(list of texts), sorted(set of texts) -/
namespace KU
open PySem PySem.Spec PyProof.Rows L2
section
variable {P : Program} {w : World} {A : Around} {E : Value → Shared → Prop} {s : Shared}
theorem update_txt {I : Addr} {fp wr : List Addr} {G : Array GenState → Array GenState → Prop} {n : Nat} {Pv : Nat → Value → Prop} {St : Nat → Shared → Prop} {R : Result → Shared → Prop} (W : WalksS P w A.in1 I fp wr G n Pv St) (D : Addr) (hDf : D ∉ fp)
    (ws : List Str) (hn : n = ws.length) (hb : ws.length + 1 < scanBound) (hval : ∀ i v, Pv i v → ∃ k t, ws[i]? = some k ∧ v = .str k t) :
    ∀ (m i : Nat) (s : Shared), n - i = m → i ≤ n → St i s → (∃ c, c ≤ i ∧ SetS w s.heap D (fun j => decide (j ∈ ws.take i)) c) →
      (∀ s' c, Moved (D :: wr) G s s' → c ≤ n → SetS w s'.heap D (fun j => decide (j ∈ ws)) c → R (.ok (.ret .none)) s') → codeAny (model P w) A (.builtin "set.update.loop" ⟨[.ref D, .ref I], []⟩) R s := by
  have hDw : D ∉ wr := fun z => hDf (W.sub _ z)
  have up : ∀ b ∈ wr, b ∈ D :: wr := fun b hb => List.mem_cons_of_mem _ hb
  intro m
  induction m with
  | zero =>
    rintro i s hm hi hst ⟨c, hc, hS⟩ hR
    obtain rfl : i = n := by omega
    refine codeAny_builtin PyProof.Rows.F.entry_set_update_loop ?_
    rw [Around.under_plainId PyProof.Rows.F.plain_set_update_loop _]
    show wpAny _ A.in1 (pyNext (.ref I) >>= _) _ _ s
    refine wpAny_bind (W.done s _ _ hst fun s' mv => ?_)
    show wpAny _ A.in1 (ret Value.none) _ _ s'
    rw [List.take_of_length_le (by omega)] at hS
    exact wpAny_pure (hR s' c (mv.mono up) hc (hS.keep fun o e => mv.heap D o hDw e))
  | succ m ih =>
    rintro i s hm hi hst ⟨c, hc, hS⟩ hR
    have lt : i < n := by omega
    refine codeAny_builtin PyProof.Rows.F.entry_set_update_loop ?_
    rw [Around.under_plainId PyProof.Rows.F.plain_set_update_loop _]
    show wpAny _ A.in1 (pyNext (.ref I) >>= _) _ _ s
    refine wpAny_bind (W.item i s _ _ lt hst fun v s' hP hst' mv => ?_)
    obtain ⟨z, t, hz, rfl⟩ := hval i v hP
    have hS' : SetS w s'.heap D (fun j => decide (j ∈ ws.take i)) c := hS.keep fun o e => mv.heap D o hDw e
    show wpAny _ A.in1 (holding [Value.str z t] (setAdd D (.str z t)) >>= _) _ _ s'
    refine wpAny_bind (wpAny_holding ?_)
    unfold setAdd
    refine wpAny_holding (wpAny_bind ((PySem.strKind P w).pyHash (k := z) (strKind_is P w z t) ?_))
    refine hashed_addS (s := { s' with toks := s'.toks + 1 }) hS' (by omega) fun h' sb hS2 => ?_
    have hS3 : SetS w h' D (fun j => decide (j ∈ ws.take (i + 1))) (if decide (z ∈ ws.take i) = true then c else c + 1) := hS2.same fun j => by
      rw [List.take_add_one, hz]
      simp [List.mem_append]
    have c3 : (if decide (z ∈ ws.take i) = true then c else c + 1) ≤ i + 1 := by
      split <;> omega
    refine wpAny_pure ⟨plainId_quiet PyProof.Rows.F.plain_set_update_loop _, ih (i + 1) _ (by omega) lt (W.frame _ s' _ _ hst' (Nat.le_succ _) fun b hb o e => ?_) ⟨_, c3, hS3⟩ fun s2 c2 mv2 hc2 hSz => ?_⟩
    · rw [sb.2 b fun z => hDf (z ▸ hb)]
      exact e
    · refine hR s2 c2 (Moved.trans W.gtrans ((mv.mono up).then_heap (Nat.le_succ _) fun b o hb e => ?_) mv2) hc2 hSz
      rw [sb.2 b fun z => hb (by rw [z]; exact List.mem_cons_self)]
      exact e
abbrev newSetO (w : World) : Obj := { cls := .type "set", dict := none, data := .set #[] 0 (.fresh 0 0 (!w.params.followText "set-order")) }
set_option maxHeartbeats 3200000 in
theorem call_set_txt {l : Addr} {items : Array Value} (ws : List Str) {Q : Value → Shared → Prop} (hh : A.handled = none) (hl : s.heap.IsList l items) (hit : StrsAre items.toList ws) (hb : ws.length + 1 < scanBound)
    (h : ∀ (h' : Heap) (tk c : Nat), SetS w h' s.heap.objs.size (fun j => decide (j ∈ ws)) c → c ≤ ws.length → (∀ b o, s.heap.get? b = some o → h'.get? b = some o) → Q (.ref s.heap.objs.size) { s with heap := h', toks := tk }) :
    wpAny (model P w) A (call (.type "set") [.ref l]) Q E s := by
  have isz : items.size = ws.length := by
    have q := StrsAre.len_eq hit
    rw [Array.length_toList] at q
    exact q
  obtain ⟨c, tl, hmro⟩ := PySem.F.called_set.mro
  have hmade := PySem.F.called_set.made
  have hsub := PySem.F.called_set.sub
  refine wpAny_call (codeAny_of_tree ?_)
  show wpAny _ _ (callAny (.type "set") _) _ _ _
  refine wpAny_pure ⟨Code.quiet_builtin _ (by decide +kernel), codeAny_builtin PySem.F.entry_type_call ?_⟩
  rw [Around.under_plain (weight_type_call_type "set" [.ref l] []) rfl]
  have t1 := PySem.F.called_set.notType
  have t2 := PySem.F.called_set.canCreate
  have t3 := PySem.F.typeCall_set_1 (.ref l)
  repeat (any_goals (first | assumption | wp_step))
  refine codeAny_mono (code_set_led1 (.ref l) (E := E) (Q₁ := fun obj s₁ => obj = .ref s.heap.objs.size ∧ s₁ = { s with heap := s.heap.push (newSetO w) }) ⟨rfl, rfl⟩) fun r s₁ hr => ?_
  cases r with
  | error e => exact hr
  | ok fl =>
    cases fl with
    | ret obj =>
      obtain ⟨rfl, rfl⟩ := hr
      have hS : (s.heap.push (newSetO w)).get? s.heap.objs.size = some (newSetO w) := Heap.get?_push_size _ rfl
      have hT : Shared.TypeIs { s with heap := s.heap.push (newSetO w) } (.ref s.heap.objs.size) "set" := ⟨_, hS, rfl⟩
      have hli := PySem.F.called_set.init.lookup
      have hbi := PySem.F.called_set.init.bind (.ref s.heap.objs.size)
      repeat (any_goals (first | assumption | wp_step))
      refine codeAny_mono (codeAny_call_builtin (R := wants (fun r s₂ => r = .none ∧ ∃ h' tk c, s₂ = { s with heap := h', toks := tk } ∧ SetS w h' s.heap.objs.size (fun j => decide (j ∈ ws)) c ∧ c ≤ ws.length ∧
          ∀ b o, s.heap.get? b = some o → h'.get? b = some o) E) PySem.F.called_set.init.plain PySem.F.entry_set_init (check_set_init_1 hT ?_)) fun r2 s2 hr2 => ?_
      · obtain ⟨ol, hol, hcl, nl, hdl⟩ := hl
        obtain ⟨ocls, odict, odata, oslots⟩ := ol
        simp only at hcl hdl
        subst hcl
        subst hdl
        have hol' : (s.heap.push (newSetO w)).get? l = some { cls := .type "list", dict := odict, data := .seq items nl, slots := oslots } := Heap.get?_push_of_some _ hol
        have hsls := PySem.F.sub_list_set
        have hslf := PySem.F.sub_list_frozenset
        have hne : (Value.type "list" == Value.type "dict") = false := by decide
        have hl1 : (s.heap.push (newSetO w)).IsList l items := ⟨_, hol', rfl, nl, rfl⟩
        unfold Builtin.«set.__init__» noKeywords Builtin.Frozenset.updateFrom
        generalize hPI : pyIter = PI
        wp_walk
        subst hPI
        refine wpAny_pyIter_list hl1 (wpAny_bind (wpAny_runValue ?_))
        have lt : l < s.heap.objs.size := Heap.lt_size hol
        have h3 : A.in1.in1.in1.handled = none := by simp [hh]
        have z1 : (s.heap.push (newSetO w)).objs.size = s.heap.objs.size + 1 := Heap.size_push ..
        have ne1 : l ≠ (s.heap.push (newSetO w)).objs.size := by
          rw [z1]
          exact Nat.ne_of_lt (Nat.lt_succ_of_lt lt)
        have ne2 : s.heap.objs.size ∉ [(s.heap.push (newSetO w)).objs.size, l] := by
          rw [z1]
          simp only [List.mem_cons, List.not_mem_nil, or_false, not_or]
          exact ⟨Nat.ne_of_lt (Nat.lt_succ_self _), Nat.ne_of_gt lt⟩
        have hval : ∀ (i : Nat) (v : Value), items[i]? = some v → ∃ k t, ws[i]? = some k ∧ v = .str k t := fun i v hv => by
          have hi : i < ws.length := by
            rw [← isz]
            exact (Array.getElem?_eq_some_iff.mp hv).1
          obtain ⟨t, e⟩ := SS.strs_at hit i v (by rw [Array.getElem?_toList]; exact hv)
          refine ⟨ws[i], t, List.getElem?_eq_getElem hi, ?_⟩
          rw [e, List.getD_eq_getElem?_getD, List.getElem?_eq_getElem hi]
          rfl
        refine update_txt ((Walks.list h3 _ l ne1 items).toS) s.heap.objs.size ne2 ws isz hb hval (items.size - 0) 0 _ (by omega) (Nat.zero_le _) ⟨⟨_, Heap.get?_push_size _ rfl, rfl, rfl⟩, (hl1.push _)⟩ ?hS0 ?hR
        case hS0 =>
          have hget : ((s.heap.push (newSetO w)).push { cls := .type "list_iterator", data := .fields #[.ref l, .int 0 0] }).get? s.heap.objs.size = some (newSetO w) := Heap.get?_push_of_some _ hS
          exact ⟨0, Nat.le_refl 0, (heldS_new hget).same fun k => by simp⟩
        case hR =>
          intro s' c' mv hc' hS'
          obtain ⟨h', g2, d', tk', os'⟩ := s'
          have eg : g2 = s.gens := mv.gens
          have ed : d' = s.drawn := mv.drawn
          have eo : os' = s.os := mv.os
          subst eg
          subst ed
          subst eo
          show wpAny _ _ _ _ _ _
          refine wpAny_pure ?_
          show wpAny _ _ (ret Value.none) _ _ _
          rw [isz] at hc'
          refine wpAny_pure ⟨rfl, h', tk', c', rfl, hS', hc', fun b o e => ?_⟩
          have b0 : b < s.heap.objs.size := Heap.lt_size e
          refine mv.heap b o ?_ (Heap.get?_push_of_some _ (Heap.get?_push_of_some _ e))
          rw [z1]
          simp only [List.mem_cons, List.not_mem_nil, or_false, not_or]
          exact ⟨Nat.ne_of_lt b0, Nat.ne_of_lt (Nat.lt_succ_of_lt b0)⟩
      · cases r2 with
        | error e => exact hr2
        | ok fl2 =>
          cases fl2 with
          | ret r =>
            obtain ⟨rfl, h', tk, c', rfl, hS', hc', hk'⟩ := hr2
            repeat (any_goals (first | assumption | wp_step))
            exact h _ _ _ hS' hc' hk'
          | _ => exact hr2.elim
    | _ => exact hr.elim
theorem strs_of : ∀ (l : List Value), (∀ v ∈ l, ∃ k tk, v = Value.str k tk) → StrsAre l (l.map fun v => tkey (0, v))
  | [], _ => .nil
  | v :: l, h => by
    obtain ⟨k, tk, rfl⟩ := h v List.mem_cons_self
    exact .cons k tk (strs_of l fun u hu => h u (List.mem_cons_of_mem _ hu))
theorem sorted_setS {a : Addr} {S : Str → Bool} {n : Nat} {Q : Value → Shared → Prop} (R : SetS w s.heap a S n) (hh : A.handled = none) (h64 : n < 64)
    (hQ : ∀ s' p (out : Array Value) (c : Nat) (ys : List Str), (∀ b o, s.heap.get? b = some o → s'.heap.get? b = some o) → s'.gens = s.gens → s'.os = s.os → s.heap.objs.size ≤ p → s'.heap.get? p = some (seqObj "list" out c) →
      StrsAre out.toList ys → sortedS ys = true → ys.Nodup → (∀ k, k ∈ ys ↔ S k = true) → ys.length = n → Q (.ref p) s') : wpAny (model P w) A (call (.builtin "sorted") [.ref a]) Q E s := by
  obtain ⟨o, es, ep, t, ho, hex, hd, R⟩ := R
  refine Calls.call_function_entry kind_sorted plain_sorted entry_sorted (args_sorted1 _) ?_
  unfold Builtin.«sorted»
  refine wpAny_bind (m := checkCount "sorted" 1 1 _) (wpAny_pure ?_)
  refine wpAny_bind (collect_set (A := A.in1) hh ⟨o, ho, hex.1, hd⟩ R.fits (by rw [R.num]; exact R.few) R.ris R.led fun s1 vs k1 hz g1 o1 pm => ?_)
  have vl : vs.length = n := by
    rw [pm.length_eq, List.length_map, Array.length_toList]
    exact R.num
  have hI : StrsAre vs (vs.map fun v => tkey (0, v)) := strs_of vs fun v hv => by
    obtain ⟨e, he, q⟩ := List.mem_map.mp (pm.mem_iff.mp hv)
    obtain ⟨k, tk, h1, _⟩ := R.good e he
    exact ⟨k, tk, q ▸ h1⟩
  have pk : (vs.map fun v => tkey (0, v)).Perm (es.toList.map tkey) := by
    have q := pm.map fun v => tkey (0, v)
    rw [List.map_map] at q
    exact q
  refine wpAny_bind (wpAny_newList ?_ (by rw [vl, sizeLine_eq]; omega))
  have hoL : (s1.heap.push (seqObj "list" vs.toArray 0)).get? s1.heap.objs.size = some (seqObj "list" vs.toArray 0) := Heap.get?_push_size _ rfl
  refine wpAny_bind (wpAny_holding (wpAny_call_entry slot_list_sort ⟨_, hoL, rfl⟩ entry_list_sort (list_sort_treeK strKind_oneLt hoL hI.keysOf (fun v1 v2 rest e => keyKind_strs (by rw [← e]; exact hI)) (by rw [vl]; exact h64) fun st' hp hs => ⟨_, rfl, ?_⟩) (args_list_sort _)))
  obtain ⟨ys, a1, a2, a3⟩ := sorted_out_str hI hp hs
  obtain ⟨c, hc⟩ := sortedHeap_at (vs := vs) (out := (arrOf st').map (·.2)) hoL
  have pn : ys.Perm (es.toList.map tkey) := a2.trans pk
  refine wpAny_pure ⟨_, rfl, hQ _ s1.heap.objs.size ((arrOf st').map (·.2)) c ys (fun b u e => ?_) g1 o1 hz hc a1 a3 (pn.nodup_iff.mpr R.once) (fun k => by rw [pn.mem_iff, ← R.mem k]) ?_⟩
  · have q := k1 b u e
    have lt := Heap.lt_size q
    show (sortedHeap (s1.heap.push (seqObj "list" vs.toArray 0)) s1.heap.objs.size vs ((arrOf st').map (·.2))).get? b = some u
    rw [sortedHeap_old (Nat.ne_of_lt lt) (by rw [size_push']; exact Nat.lt_succ_of_lt lt)]
    exact Heap.get?_push_of_some _ q
  · rw [pn.length_eq, List.length_map, Array.length_toList]
    exact R.num
end
end KU

set_option Elab.async false
set_option linter.all false
set_option maxRecDepth 100000
set_option maxHeartbeats 4000000
/-! set(texts), sorted(set(texts)) as rules -/
namespace KU
open PySem PySem.Spec PyProof.Rows L2 Evl
def SetSO (w : World) (a : Addr) (S : Str → Bool) (n : Nat) : HO := .ext fun h => SetS w h a S n
theorem setSO_new {P : Program} {w : World} {H : Hp} {h : Heap} {a : Addr} {S : Str → Bool} {n : Nat} (R : SetS w h a S n) : ObjOk P w H h a (SetSO w a S n) := by
  obtain ⟨o, es, ep, t, ho, r⟩ := id R
  exact ⟨R, ⟨o, ho⟩, fun h1 h2 p k => SetS.keep p k⟩
section
variable {X : Cx}
def rSetTxt (K : PySem.W.Frag) (w : World) : List V → Hp → VK → Prop := fun xs H Q => ∃ (l : Addr) (ws : List Str), xs = [V.ref l] ∧ SqL K H l (ws.map V.str) ∧ ws.length ≤ 1000 ∧ ∀ a c, H a = none → c ≤ ws.length → Q (.ref a) (upd H a (SetSO w a (fun j => decide (j ∈ ws)) c))
theorem cr_setTxt (hc : X.calm = true) : CallR X (.type "set") (rSetTxt X.K X.w) := by
  intro pins s σ H xs us Q I r h
  obtain ⟨l, ws, rfl, hl, hn, q⟩ := h
  rw [Vals.ref1 r]
  obtain ⟨its, rv, pl, hz⟩ := I.list hl
  refine call_set_txt (P := X.prog) (w := X.w) ws (I.ok.hd hc) pl.isList (by simpa using rv.strs) (by unfold scanBound; omega) fun h' tk c R hc' k => ?_
  exact ⟨.ref s.heap.objs.size, _, I.laid (t' := tk) k (Nat.le_refl _) (setSO_new R), rfl, q _ c (I.hok.fresh (Nat.le_refl _)) hc'⟩
def rSortedTxt (w : World) : List V → Hp → VK → Prop := fun vs H Q => ∃ (a : Addr) (S : Str → Bool) (n : Nat), vs = [V.ref a] ∧ H a = some (SetSO w a S n) ∧ n < 64 ∧
  ∀ (ys : List Str) (p : Addr), sortedS ys = true → ys.Nodup → (∀ k, k ∈ ys ↔ S k = true) → H p = none → Q (.ref p) (upd H p (.lst (ys.map V.str)))
theorem cr_sortedTxt (hc : X.calm = true) : CallR X (.builtin "sorted") (rSortedTxt X.w) := by
  intro pins s σ H vs us Q I r h
  obtain ⟨a, S, n, rfl, ha, h64, q⟩ := h
  have R : SetS X.w s.heap a S n := (I.hok a _ ha).1
  rw [Vals.ref1 r]
  refine sorted_setS R (I.ok.hd hc) h64 fun s' p out c ys k g o hp hg hi hs nd hm hl => ?_
  have hlen : (ys.map V.str).length ≤ sizeLine := by
    rw [List.length_map, hl, sizeLine_eq]
    omega
  have hn : H p = none := I.hok.fresh hp
  have J : Inv X pins σ (upd H p (.lst (ys.map V.str))) { s with heap := s'.heap, gens := s'.gens, drawn := s'.drawn, toks := s'.toks } :=
    I.call (ch := []) (Un.laid k hp hn) (I.hok.laid k hp ⟨hlen, out.toList, c, vals_of_strs hi, hg⟩) (by rw [g]; exact I.bare) (fun _ z => nomatch z)
  have e : s' = { s with heap := s'.heap, gens := s'.gens, drawn := s'.drawn, toks := s'.toks } := by
    cases s'
    cases s
    cases o
    rfl
  rw [e]
  exact ⟨.ref p, _, J, rfl, q ys p hs nd hm hn⟩
end
/-- the texts, each once, in order -/
def srt (ws : List Str) : List Str := (uniq ws).mergeSort fun a b => decide (a.cps.toList ≤ b.cps.toList)
theorem rising_of : ∀ (x : Str) (l : List Str), (x :: l).Pairwise (fun a b => a.cps.toList ≤ b.cps.toList) → risingS x l = true
  | _, [], _ => rfl
  | x, y :: r, h => by
    obtain ⟨h1, h2⟩ := List.pairwise_cons.mp h
    have z := rising_of y r h2
    simp only [risingS, Bool.and_eq_true, Bool.not_eq_true']
    refine ⟨?_, z⟩
    cases g : ltCps y.cps.toList x.cps.toList with
    | false => rfl
    | true => exact absurd ((ltCps_iff _ _).mp g) (List.not_lt.mpr (h1 y List.mem_cons_self))
theorem sorted_of {l : List Str} (h : l.Pairwise fun a b => a.cps.toList ≤ b.cps.toList) : sortedS l = true := by
  cases l with
  | nil => rfl
  | cons x r => exact rising_of x r h
theorem srt_perm (ws : List Str) : (srt ws).Perm (uniq ws) := List.mergeSort_perm _ _
theorem srt_sorted (ws : List Str) : sortedS (srt ws) = true := by
  refine sorted_of ?_
  have z := List.pairwise_mergeSort (le := fun a b : Str => decide (a.cps.toList ≤ b.cps.toList)) (fun a b c h1 h2 => decide_eq_true (List.le_trans (of_decide_eq_true h1) (of_decide_eq_true h2)))
    (fun a b => by
      rw [Bool.or_eq_true, decide_eq_true_eq, decide_eq_true_eq]
      exact List.le_total _ _) (uniq ws)
  exact z.imp fun h => of_decide_eq_true h
theorem mem_srt (ws : List Str) (x : Str) : x ∈ srt ws ↔ x ∈ ws := (srt_perm ws).mem_iff.trans (mem_uniq ws x)
theorem nodup_srt (ws : List Str) : (srt ws).Nodup := (srt_perm ws).nodup_iff.mpr (nodup_uniq ws)
theorem srt_len (ws : List Str) : (srt ws).length ≤ ws.length := by
  rw [(srt_perm ws).length_eq]
  exact uniq_len ws
/-- sorted, each once, of the same texts: that list -/
theorem srt_is {ys ws : List Str} (h1 : sortedS ys = true) (h2 : ys.Nodup) (h3 : ∀ k, k ∈ ys ↔ k ∈ ws) : ys = srt ws :=
  sorted_unique ((List.perm_ext_iff_of_nodup h2 (nodup_srt ws)).mpr fun k => (h3 k).trans (mem_srt ws k).symm) h1 (srt_sorted ws)
section
variable {K : PySem.W.Frag} {σ : L2.St} {H : Hp} {te : TE} {ws : List Str} {w : World}
theorem el_srt (h : EvL te σ H (ws.map V.str)) (few : ws.length < 64) : EvL (tCB (rSortedTxt w) (tCons (tCB (rSetTxt K w) (tCons te tNil)) tNil)) σ H ((srt ws).map V.str) := fun H1 x1 Q q =>
  h H1 x1 _ fun p H2 hp x2 e => ⟨p, ws, rfl, sq_of e, by omega, fun a c ha hc => ⟨a, _, c, rfl, upd_same, by omega, fun ys q' hs nd hm hq => by
    have ey : ys = srt ws := srt_is hs nd fun k => (hm k).trans decide_eq_true_iff
    subst ey
    have n1 : H2 q' = none := fresh_back (Ex.new ha) hq
    exact q q' _ (fresh_back x2 n1) ((x2.trans (Ex.new ha)).trans (Ex.new hq)) upd_same⟩⟩
end
end KU

set_option Elab.async false
set_option linter.all false
set_option maxRecDepth 100000
set_option maxHeartbeats 4000000
/-! len(set(texts)); data that stay; isinstance(x, list) -/
namespace KU
open PySem PySem.Spec PyProof.Rows L2 Evl
section
variable {X : Cx}
def rLenSet (w : World) : List V → Hp → VK → Prop := fun vs H Q => ∃ (a : Addr) (ws : List Str) (n : Nat), vs = [V.ref a] ∧ H a = some (SetSO w a (fun j => decide (j ∈ ws)) n) ∧ Q (.int ((uniq ws).length : Int)) H
theorem held_len {w : World} {es : Array (Int × Value)} {t : SetTable} {ws : List Str} {n : Nat} (R : Held w es t (fun j => decide (j ∈ ws)) n) : es.size = (uniq ws).length := by
  have p : (es.toList.map tkey).Perm (uniq ws) := (List.perm_ext_iff_of_nodup R.once (nodup_uniq ws)).mpr fun k => by
    rw [← R.mem k, mem_uniq, decide_eq_true_eq]
  have l := p.length_eq
  rw [List.length_map, Array.length_toList] at l
  exact l
theorem call_lenSetT : CallR X (.builtin "len") (rLenSet X.w) := by
  intro pins s σ H xs us Q I r h
  obtain ⟨a, ws, n, rfl, ha, q⟩ := h
  obtain ⟨o, es, ep, t, ho, hex, hd, R⟩ : SetS X.w s.heap a (fun j => decide (j ∈ ws)) n := (I.hok a _ ha).1
  rw [Vals.ref1 r]
  have hf := R.few
  have hn := R.num
  unfold scanBound at hf
  refine call_len_set ho hex hd R.fits (by omega) ⟨.int ((uniq ws).length : Int), H, I.tok _, ⟨_, by rw [held_len R]⟩, q⟩
end
section
variable {K : PySem.W.Frag} {w : World} {σ : L2.St} {H : Hp} {te ta tb : TE} {ws : List Str}
theorem ev_lenSet (h : EvL te σ H (ws.map V.str)) (few : ws.length ≤ 1000) : Ev (tCB (rLenSet w) (tCons (tCB (rSetTxt K w) (tCons te tNil)) tNil)) σ H (.int ((uniq ws).length : Int)) := fun H1 x1 Q q =>
  h H1 x1 _ fun p H2 hp x2 e => ⟨p, ws, rfl, sq_of e, few, fun a c ha hc => ⟨a, ws, c, rfl, upd_same, q _ (x2.trans (Ex.new ha))⟩⟩
mutual
theorem dp_ex {H H' : Hp} (x : Ex H H') : ∀ {v : V} {d : PyData}, Dp K H v d → Dp K H' v d
  | _, _, .non => .non
  | _, _, .bl b => .bl b
  | _, _, .int i => .int i
  | _, _, .str t => .str t
  | _, _, .lst h r => .lst (ex_l x h) (dps_ex x r)
  | _, _, .tup h r => .tup (ex_t x h) (dps_ex x r)
theorem dps_ex {H H' : Hp} (x : Ex H H') : ∀ {vs : List V} {ds : List PyData}, DpAll K H vs ds → DpAll K H' vs ds
  | _, _, .nil => .nil
  | _, _, .cons a r => .cons (dp_ex x a) (dps_ex x r)
end
/-- a value with these data -/
def IsD (K : PySem.W.Frag) (d : PyData) : V → Hp → Prop := fun v H => Dp K H v d
theorem up_isD (d : PyData) : Up (IsD K d) := fun v H H' x h => dp_ex x h
theorem rv_neD2 {x y : V} {d e : PyData} (hd : Dp K H x d) (he : Dp K H y e) (sd : SeqAt.shaped d = true) (se : SeqAt.shaped e = true) : RV (rNeD K) x y H (.bl (!PyData.eqv d e)) :=
  fun H1 x1 _ q => ⟨d, e, dp_ex x1 hd, dp_ex x1 he, sd, se, q H1 (Ex.refl H1)⟩
theorem rv_eqD2 {x y : V} {d e : PyData} (hd : Dp K H x d) (he : Dp K H y e) (sd : SeqAt.shaped d = true) (se : SeqAt.shaped e = true) : RV (rEqD K) x y H (.bl (PyData.eqv d e)) :=
  fun H1 x1 _ q => ⟨d, e, dp_ex x1 hd, dp_ex x1 he, sd, se, q H1 (Ex.refl H1)⟩
/-- a op b of values of which predicates are known -/
theorem ev_opPP {P R : V → Hp → Prop} {r : R2} {z : V} (up : Up P) (ha : EvP ta σ H P) (hb : EvP tb σ H R) (hr : ∀ x y H1, Ex H H1 → P x H1 → R y H1 → RV r x y H1 z) : Ev (tOp r ta tb) σ H z := fun H1 e Q q =>
  ha H1 e _ fun x H2 e2 p => hb H2 (e.trans e2) _ fun y H3 e3 p2 => hr x y H3 ((e.trans e2).trans e3) (up _ _ _ e3 p) p2 H3 (Ex.refl _) Q fun H4 e4 => q H4 (e2.trans (e3.trans e4))
theorem ev_isList {p : Addr} {xs : List V} (h : Ev te σ H (.ref p)) (hp : H p = some (.lst xs)) : Ev (tCB (rIsi K) (tCons te (tCons (tC (.ty "list")) tNil))) σ H (.bl true) :=
  ev_cb (ea_cons h (ea_cons ev_c ea_nil)) fun H1 x1 Q q => ⟨_, _, _, _, true, rfl, .ty "list", .base (.lst (x1 _ _ hp)), kit_ty (by decide +kernel), q H1 (Ex.refl _)⟩
theorem ev_noList {p : Addr} {xs : List V} (h : Ev te σ H (.ref p)) (hp : H p = some (.tup xs)) : Ev (tCB (rIsi K) (tCons te (tCons (tC (.ty "list")) tNil))) σ H (.bl false) :=
  ev_cb (ea_cons h (ea_cons ev_c ea_nil)) fun H1 x1 Q q => ⟨_, _, _, _, false, rfl, .ty "list", .base (.tup (x1 _ _ hp)), kit_ty (by decide +kernel), q H1 (Ex.refl _)⟩
theorem evp_if {P : V → Hp → Prop} {t : TT} {b : Bool} (h : EvT t σ H b) (ha : b = true → EvP ta σ H P) (hb : b = false → EvP tb σ H P) : EvP (tIf t ta tb) σ H P := fun H1 x1 Q q => h H1 x1 _ fun H2 x2 => by
  cases b with
  | true =>
    rw [if_pos rfl]
    exact ha rfl H2 (x1.trans x2) Q fun v H3 x3 p => q v H3 (x2.trans x3) p
  | false =>
    rw [if_neg (by decide)]
    exact hb rfl H2 (x1.trans x2) Q fun v H3 x3 p => q v H3 (x2.trans x3) p
theorem evp_U {P : V → Hp → Prop} {xs : List V} (h : EvU te σ H xs) (hp : ∀ p H1, Ex H H1 → H1 p = some (.tup xs) → P (.ref p) H1) : EvP te σ H P := fun H1 x1 Q q => h H1 x1 _ fun p H2 hp2 x2 e => q _ H2 x2 (hp p H2 (x1.trans x2) e)
theorem evp_L {P : V → Hp → Prop} {xs : List V} (h : EvL te σ H xs) (hp : ∀ p H1, Ex H H1 → H1 p = some (.lst xs) → P (.ref p) H1) : EvP te σ H P := fun H1 x1 Q q => h H1 x1 _ fun p H2 hp2 x2 e => q _ H2 x2 (hp p H2 (x1.trans x2) e)
theorem evp_v {P : V → Hp → Prop} {v : V} (h : Ev te σ H v) (hp : ∀ H1, Ex H H1 → P v H1) : EvP te σ H P := fun H1 x1 Q q => h H1 x1 _ fun H2 x2 => q _ H2 x2 (hp H2 (x1.trans x2))
theorem dps_len {H : Hp} : ∀ {vs : List V} {ds : List PyData}, DpAll K H vs ds → vs.length = ds.length
  | _, _, .nil => rfl
  | _, _, .cons _ r => congrArg (· + 1) (dps_len r)
variable {tr : TA}
theorem epd_nil : EvPA tNil σ H (fun vs H => DpAll K H vs []) := fun H1 _ _ q => q [] H1 (Ex.refl H1) .nil
theorem epd_cons {d : PyData} {ds : List PyData} (h : EvP te σ H (IsD K d)) (hr : EvPA tr σ H (fun vs H => DpAll K H vs ds)) : EvPA (tCons te tr) σ H (fun vs H => DpAll K H vs (d :: ds)) := fun H1 e Q q =>
  h H1 e _ fun v H2 e2 p => hr H2 (e.trans e2) _ fun vs H3 e3 ps => q _ H3 (e2.trans e3) (.cons (dp_ex e3 p) ps)
theorem epd_lst {ds : List PyData} (h : EvPA tr σ H (fun vs H => DpAll K H vs ds)) (small : ds.length ≤ 100000) : EvP (tLst tr) σ H (IsD K (.list ds)) := fun H1 e Q q =>
  h H1 e _ fun vs H2 e2 ps => ⟨by rw [dps_len ps]; exact sz_of small, fun p hp => q _ _ (e2.trans (Ex.new hp)) (.lst (sq_of upd_same) (dps_ex (Ex.new hp) ps))⟩
theorem epd_tup {ds : List PyData} (h : EvPA tr σ H (fun vs H => DpAll K H vs ds)) (small : ds.length ≤ 100000) : EvP (tTup tr) σ H (IsD K (.tuple ds)) := fun H1 e Q q =>
  h H1 e _ fun vs H2 e2 ps => ⟨by rw [dps_len ps]; exact sz_of small, fun p hp => q _ _ (e2.trans (Ex.new hp)) (.tup (st_of upd_same) (dps_ex (Ex.new hp) ps))⟩
theorem epd_str {t : Str} (h : Ev te σ H (.str t)) : EvP te σ H (IsD K (.str t)) := evp_v h fun _ _ => .str t
theorem epd_int {i : Int} (h : Ev te σ H (.int i)) : EvP te σ H (IsD K (.int i)) := evp_v h fun _ _ => .int i
theorem epd_strsT {ws : List Str} (h : EvU te σ H (ws.map V.str)) : EvP te σ H (IsD K (.tuple (dstrs ws))) := evp_U h fun p H1 _ e => .tup (st_of e) (dp_strs ws)
theorem epd_strsL {ws : List Str} (h : EvL te σ H (ws.map V.str)) : EvP te σ H (IsD K (.list (dstrs ws))) := evp_L h fun p H1 _ e => .lst (sq_of e) (dp_strs ws)
end
end KU

set_option Elab.async false
set_option linter.all false
set_option maxRecDepth 100000
set_option maxHeartbeats 4000000
/-! An own operator that refuses a right operand of a class of Python's -/
namespace KU
open PySem PySem.Spec PyProof.Rows L2 Evl
section
variable {X : Cx} {pins : List (Addr × Obj)} {σ : L2.St} {H : Hp} {s : Shared}
/-- the class of a value of Python's own -/
inductive BTy (H : Hp) : V → String → Prop where
  | non : BTy H .non "NoneType"
  | bl (b : Bool) : BTy H (.bl b) "bool"
  | int (i : Int) : BTy H (.int i) "int"
  | str (t : Str) : BTy H (.str t) "str"
  | lst {a : Addr} {xs : List V} : H a = some (.lst xs) → BTy H (.ref a) "list"
  | tup {a : Addr} {xs : List V} : H a = some (.tup xs) → BTy H (.ref a) "tuple"
  | dic {a : Addr} {kvs : List (Key × V)} : H a = some (.dK kvs) → BTy H (.ref a) "dict"
theorem BTy.mono {H H' : Hp} (x : Ex H H') : ∀ {v : V} {T : String}, BTy H v T → BTy H' v T
  | _, _, .non => .non
  | _, _, .bl b => .bl b
  | _, _, .int i => .int i
  | _, _, .str t => .str t
  | _, _, .lst h => .lst (x _ _ h)
  | _, _, .tup h => .tup (x _ _ h)
  | _, _, .dic h => .dic (x _ _ h)
theorem looks_at {M : Model} {h : Heap} {a : Addr} {o : Obj} {T : Value} (e : h.get? a = some o) (c : o.cls = T) : PySem.W.Looks M h (typeOf (.ref a)) T := by
  intro A Q E s k q
  subst c
  exact wpAny_bind (wpAny_load (k _ _ e) (wpAny_pure q))
theorem looks_ty {M : Model} (I : Inv X pins σ H s) {v : V} {u : Value} {T : String} (r : RelV v u) (b : BTy H v T) : PySem.W.Looks M s.heap (typeOf u) (.type T) := by
  cases b with
  | non => cases (show u = Value.none from r); exact .of_pure rfl
  | bl b => cases (show u = Value.bool b from r); exact .of_pure rfl
  | int i => obtain ⟨t, rfl⟩ := (show ∃ t, u = Value.int i t from r); exact .of_pure rfl
  | str x => obtain ⟨t, rfl⟩ := (show ∃ t, u = Value.str x t from r); exact .of_pure rfl
  | @lst a xs h =>
    cases (show u = Value.ref a from r)
    obtain ⟨_, _, n, _, h1⟩ := (show ObjOk X.prog X.w H s.heap a (.lst xs) from I.hok a _ h)
    exact looks_at h1 rfl
  | @tup a xs h =>
    cases (show u = Value.ref a from r)
    obtain ⟨_, _, _, o, h1, h2, _⟩ := (show ObjOk X.prog X.w H s.heap a (.tup xs) from I.hok a _ h)
    exact looks_at h1 h2
  | @dic a kvs h =>
    cases (show u = Value.ref a from r)
    obtain ⟨_, _, vs, _, o, es, ep, h1, h2, _⟩ := (show ObjOk X.prog X.w H s.heap a (.dK kvs) from I.hok a _ h)
    exact looks_at h1 h2.1
end
/-- what a binary operator with a right operand of the class T looks up -/
def binOk (K : PySem.W.Frag) (C : Addr) (T nm : String) : Bool :=
  (match PySem.W.findIn K (.type T) (dunder nm), PySem.W.findIn K (.type T) (dunderR nm) with | some _, some _ => true | _, _ => false) && PySem.W.findIn K (.ref C) (dunderR nm) == some none && PySem.W.subIn K (.type T) (.ref C) == some false
section
variable {K : PySem.W.Frag} {A : Around} {E : Value → Shared → Prop} {s : Shared} {h₀ : Heap} {L x C f : Addr} {m : Str → Option Value} {ox : Obj} {od : Option Obj} {T : String}
theorem bin_raise {prog : Program} {w : World} {op : Operator} {b : Value} {Q : Value → Shared → Prop} (F : Fr h₀ L s.heap m) (X₀ : K.In h₀) (I : PySem.W.InstAt s.heap x ox C od) (hb : PySem.W.Looks (model prog w) s.heap (typeOf b) (.type T)) (hc : PySem.W.selfFirst K C = true)
    (hk : binOk K C T op.info.2 = true) (hs : PySem.W.findIn K (.ref C) (dunder op.info.2) = some (some (.ref f))) (hf : PySem.W.isFn K (.ref f) = true)
    (h : wpAny (model prog w) A (call (.ref f) [.ref x, b]) (fun _ _ => False) E s) : wpAny (model prog w) A (binaryOp op (.ref x) b) Q E s := by
  have X := X₀.keeps F.keep
  obtain ⟨cd, rest, hcd, hm⟩ := PySem.W.ksp_first hc
  unfold binOk at hk
  simp only [Bool.and_eq_true, beq_iff_eq] at hk
  obtain ⟨⟨k1, k2⟩, k3⟩ := hk
  cases h1 : PySem.W.findIn K (.type T) (dunder op.info.2) with
  | none => rw [h1] at k1; cases k1
  | some fo =>
    cases h2 : PySem.W.findIn K (.type T) (dunderR op.info.2) with
    | none => rw [h1, h2] at k1; cases k1
    | some ro =>
      have one : wpAny (model prog w) A (tryMethod (.ref x) (dunder op.info.2) b) (fun _ _ => False) E s := by
        unfold tryMethod
        exact wpAny_bind (PySem.W.special_fn X I hs (beq_iff_eq.mp hf) (wpAny_mono h (fun _ _ z => z.elim) fun _ _ e => e))
      have both : wpAny (model prog w) A (binaryOp1 op.info.2 (.ref x) b) (fun _ _ => False) E s := by
        have l3 : PySem.W.Looks (model prog w) s.heap (fillsNumberSlot (.ref C) op.info.2) true := PySem.W.fills_K X hcd hm hs
        have l4 := PySem.W.ksp_fillsT (M := model prog w) X h1 h2
        have l5 : PySem.W.Looks (model prog w) s.heap (isSubtype (.type T) (.ref C)) false := PySem.W.looks_subIn X k3
        have l6 : PySem.W.Looks (model prog w) s.heap (numberSlotInPython (.ref C) op.info.2) true := PySem.W.ksp_inPy X hs k2 (.inl rfl)
        have l7 : PySem.W.Looks (model prog w) s.heap (numberSlotInPython (.type T) op.info.2) false := .of_pure rfl
        have l8 : PySem.W.Looks (model prog w) s.heap (typeLookup (.type T) (dunderR op.info.2)) ro := PySem.W.looks_findIn X h2
        have ne : (Value.ref C == Value.type T) = false := Bool.eq_false_iff.mpr fun q => by cases beq_iff_eq.mp q
        generalize ((fo.isSome && !isSeqSlot fo) || (ro.isSome && !isSeqSlot ro)) = right at l4
        unfold binaryOp1
        refine wpAny_bind (I.type.here (wpAny_bind (hb.here (wpAny_bind (l3.here ?_)))))
        rw [ne]
        simp only [Bool.false_eq_true, if_false]
        refine wpAny_bind (l4.here ?_)
        cases right with
        | false =>
          simp only [Bool.and_false, Bool.false_and, Bool.false_eq_true, if_false, if_true]
          refine wpAny_bind (wpAny_pure ?_)
          simp only [Bool.false_eq_true, if_false]
          exact wpAny_bind (wpAny_mono one (fun _ _ z => z.elim) fun _ _ e => e)
        | true =>
          simp only [Bool.and_true, Bool.true_and, if_true, Bool.not_false]
          refine wpAny_bind (l5.here ?_)
          simp only [Bool.false_eq_true, if_false, Bool.not_false, if_true]
          refine wpAny_bind (l6.here ?_)
          simp only [if_true]
          refine wpAny_bind (l7.here ?_)
          simp only [Bool.not_false, if_true]
          refine wpAny_bind (l8.here ?_)
          exact wpAny_bind (wpAny_mono one (fun _ _ z => z.elim) fun _ _ e => e)
      unfold binaryOp
      exact wpAny_holding (wpAny_bind (wpAny_mono both (fun _ _ z => z.elim) fun _ _ e => e))
end
section
variable {X : Cx} {CX : CXT} {C g : Addr} {n : Nat} {sp : Sp} {E : XK}
/-- a op v, v of a class of Python's own, refused -/
def rBinX (K : PySem.W.Frag) (C : Addr) (nm : String) (sp : Sp) (E : XK) : R2 := fun x y H _ => ∃ (a dx : Addr) (fs : List (Str × V)) (T : String), x = .ref a ∧ H a = some (.ins C dx fs) ∧ BTy H y T ∧ binOk K C T nm = true ∧ sp [x, y] H (fun _ _ => False) E
theorem op_binX {op : Operator} (sf : PySem.W.selfFirst X.K C = true) (hs : PySem.W.findIn X.K (.ref C) (dunder op.info.2) = some (some (.ref g))) (hf : PySem.W.isFn X.K (.ref g) = true)
    (F : FnR X.prog X.w X.K X.mg X.base CX n g sp) (hr : Room n X.A) (hx : Passes CX X E) : OpR X (binaryOp op) (rBinX X.K C op.info.2 sp E) := by
  intro pins s σ H x y u v Q I rx ry h
  obtain ⟨a, dx, fs, T, rfl, ha, bt, ok, q⟩ := h
  obtain rfl : u = Value.ref a := rx
  obtain ⟨od, Ja⟩ := ins_at I ha
  obtain ⟨m, fr⟩ := I.fr
  refine bin_raise fr I.ok.mod.kin Ja (looks_ty I ry bt) sf ok hs hf ?_
  exact wpAny_mono (own_call F hr I.env0 hx I (vs := [.ref a, y]) (.cons rfl (.cons ry .nil)) q) (fun u s' ⟨z, H', I', rz, qz⟩ => qz) fun e s' z => z
/-- a compared with v, v of a class of Python's own, refused -/
def rCmpX (K : PySem.W.Frag) (C : Addr) (sp : Sp) (E : XK) : R2 := fun x y H _ => ∃ (a dx : Addr) (fs : List (Str × V)) (T : String), x = .ref a ∧ H a = some (.ins C dx fs) ∧ BTy H y T ∧ PySem.W.notFirst K C (.type T) = true ∧ sp [x, y] H (fun _ _ => False) E
theorem op_cmpX {op : CmpOp} (hop : ∀ a b, compareOp op a b = richCompare op a b) (hs : PySem.W.findIn X.K (.ref C) (cmpInfo op).2.1 = some (some (.ref g))) (hf : PySem.W.isFn X.K (.ref g) = true)
    (F : FnR X.prog X.w X.K X.mg X.base CX n g sp) (hr : Room n X.A) (hx : Passes CX X E) : OpR X (compareOp op) (rCmpX X.K C sp E) := by
  intro pins s σ H x y u v Q I rx ry h
  obtain ⟨a, dx, fs, T, rfl, ha, bt, nf, q⟩ := h
  obtain rfl : u = Value.ref a := rx
  obtain ⟨od, Ja⟩ := ins_at I ha
  obtain ⟨m, fr⟩ := I.fr
  rw [hop]
  refine PySem.W.cmp_K (Nat.lt_of_le_of_lt (Nat.le_add_right _ 64) hr.units) fr I.ok.mod.kin Ja (looks_ty I ry bt) nf hs hf ?_
  exact wpAny_mono (own_call F hr I.env0 hx I (vs := [.ref a, y]) (.cons rfl (.cons ry .nil)) q) (fun u s' ⟨z, H', I', rz, qz⟩ => (show False from qz).elim) fun e s' z => z
end
end KU

set_option Elab.async false
set_option linter.all false
set_option maxRecDepth 100000
set_option maxHeartbeats 4000000
/-! Texts split at one sign, and joined by it -/
namespace SJ
open PySem PySem.Builtin PySem.Builtin.Str PySem.StrLaws
theorem s_ext {a b : Str} (h : a.cps.toList = b.cps.toList) : a = b := Str.ext' (Array.toList_inj.mp h)
def jn (c : Nat) : List (List Nat) → List Nat
  | [] => []
  | b :: t => b ++ t.flatMap fun p => c :: p
theorem jn_two (c : Nat) (a b : List Nat) (r : List (List Nat)) : jn c (a :: b :: r) = a ++ c :: jn c (b :: r) := by simp [jn]
theorem jn_one (c : Nat) (a : List Nat) : jn c [a] = a := by simp [jn]
theorem part_eq {c : Nat} : ∀ {a b x y : List Nat}, c ∉ a → c ∉ b → a ++ c :: x = b ++ c :: y → a = b ∧ x = y
  | [], [], _, _, _, _, h => by simpa using h
  | [], b :: bs, x, y, _, hb, h => by
    simp only [List.nil_append, List.cons_append, List.cons.injEq] at h
    exact absurd (h.1 ▸ List.mem_cons_self) hb
  | a :: as, [], x, y, ha, _, h => by
    simp only [List.nil_append, List.cons_append, List.cons.injEq] at h
    exact absurd (h.1 ▸ List.mem_cons_self) ha
  | a :: as, b :: bs, x, y, ha, hb, h => by
    simp only [List.cons_append, List.cons.injEq] at h
    obtain ⟨e1, e2⟩ := part_eq (fun m => ha (List.mem_cons_of_mem _ m)) (fun m => hb (List.mem_cons_of_mem _ m)) h.2
    exact ⟨by rw [h.1, e1], e2⟩
theorem jn_inj {c : Nat} : ∀ {ps qs : List (List Nat)}, (∀ p ∈ ps, c ∉ p) → (∀ q ∈ qs, c ∉ q) → ps ≠ [] → qs ≠ [] → jn c ps = jn c qs → ps = qs
  | [], _, _, _, h, _, _ => absurd rfl h
  | _, [], _, _, _, h, _ => absurd rfl h
  | [a], [b], _, _, _, _, h => by rw [jn_one, jn_one] at h; rw [h]
  | [a], b :: d :: r, ha, _, _, _, h => by
    rw [jn_one, jn_two] at h
    exact absurd (by rw [h]; simp) (ha a List.mem_cons_self)
  | a :: d :: r, [b], _, hb, _, _, h => by
    rw [jn_one, jn_two] at h
    exact absurd (by rw [← h]; simp) (hb b List.mem_cons_self)
  | a :: d :: r, b :: e :: s, ha, hb, _, _, h => by
    rw [jn_two, jn_two] at h
    obtain ⟨e1, e2⟩ := part_eq (ha a List.mem_cons_self) (hb b List.mem_cons_self) h
    rw [e1, jn_inj (fun p m => ha p (List.mem_cons_of_mem _ m)) (fun p m => hb p (List.mem_cons_of_mem _ m)) (by simp) (by simp) e2]
/-- a beginning of what was joined: words of which each is at most as long -/
theorem jn_take {c : Nat} : ∀ (ps : List (List Nat)) (n : Nat), ps ≠ [] → (∀ p ∈ ps, c ∉ p) → ∃ qs, qs ≠ [] ∧ (∀ q ∈ qs, c ∉ q) ∧ jn c qs = (jn c ps).take n ∧ qs.length ≤ ps.length ∧
    (∀ q ∈ qs, ∃ p ∈ ps, q.length ≤ p.length) ∧ (qs.map fun q => min q.length 8).sum ≤ (ps.map fun p => min p.length 8).sum
  | [], _, h, _ => absurd rfl h
  | [a], n, _, ha => ⟨[a.take n], by simp, fun q hq => by rw [List.mem_singleton.mp hq]; exact fun m => ha a List.mem_cons_self (List.mem_of_mem_take m), by rw [jn_one, jn_one], Nat.le_refl _,
      fun q hq => ⟨a, List.mem_cons_self, by rw [List.mem_singleton.mp hq, List.length_take]; exact Nat.min_le_right _ _⟩, by
        simp only [List.map_cons, List.map_nil, List.sum_cons, List.sum_nil, List.length_take]
        omega⟩
  | a :: b :: r, n, _, ha => by
    have one : ∀ k, k ≤ a.length → (jn c (a :: b :: r)).take k = a.take k := fun k hk => by
      rw [jn_two, List.take_append_of_le_length hk]
    rcases Nat.lt_or_ge a.length n with lt | ge
    · obtain ⟨qs, q0, q1, q2, q3, q4, q5⟩ := jn_take (b :: r) (n - a.length - 1) (by simp) fun p m => ha p (List.mem_cons_of_mem _ m)
      obtain ⟨q, qs', rfl⟩ := List.exists_cons_of_ne_nil q0
      refine ⟨a :: q :: qs', by simp, fun p m => ?_, ?_, ?_, fun p m => ?_, ?_⟩
      · rcases List.mem_cons.mp m with rfl | m
        · exact ha _ List.mem_cons_self
        · exact q1 p m
      · rw [jn_two, jn_two, q2, List.take_append, List.take_of_length_le (Nat.le_of_lt lt)]
        have : n - a.length = (n - a.length - 1) + 1 := by omega
        rw [this, List.take_succ_cons]
        simp
      · simpa using q3
      · rcases List.mem_cons.mp m with rfl | m
        · exact ⟨_, List.mem_cons_self, Nat.le_refl _⟩
        · obtain ⟨p', m', l⟩ := q4 p m
          exact ⟨p', List.mem_cons_of_mem _ m', l⟩
      · rw [List.map_cons, List.sum_cons, List.map_cons (l := b :: r), List.sum_cons]
        omega
    · refine ⟨[a.take n], by simp, fun q hq => by rw [List.mem_singleton.mp hq]; exact fun m => ha a List.mem_cons_self (List.mem_of_mem_take m), by rw [jn_one, one n ge], by simp,
        fun q hq => ⟨a, List.mem_cons_self, by rw [List.mem_singleton.mp hq, List.length_take]; exact Nat.min_le_right _ _⟩, ?_⟩
      simp only [List.map_cons, List.map_nil, List.sum_cons, List.sum_nil, List.length_take]
      omega
def lists (ws : List Str) : List (List Nat) := ws.map fun w => w.cps.toList
theorem join_cps (s : Str) (c : Nat) (hs : s = ⟨#[c]⟩) : ∀ ws : List Str, (Str.join s ws).cps.toList = jn c (lists ws)
  | [] => rfl
  | [a] => by show a.cps.toList = _; unfold lists; rw [List.map_cons, List.map_nil, jn_one]
  | a :: b :: r => by
    have ih := join_cps s c hs (b :: r)
    show ((a ++ s) ++ Str.join s (b :: r)).cps.toList = _
    unfold lists at ih ⊢
    rw [List.map_cons, List.map_cons, jn_two]
    rw [List.map_cons] at ih
    rw [← ih, hs]
    show ((a.cps ++ #[c]) ++ (Str.join ⟨#[c]⟩ (b :: r)).cps).toList = _
    simp
theorem fold_cps (g : Array Nat) (r : List Str) (a : Array Nat) : (r.foldl (fun (acc : Array Nat) (p : Str) => acc ++ g ++ p.cps) a).toList = a.toList ++ r.flatMap fun p => g.toList ++ p.cps.toList := by
  induction r generalizing a with
  | nil => simp
  | cons b t ih =>
    rw [List.foldl_cons, ih, List.flatMap_cons]
    simp
theorem tjoin_cps (c : Nat) (ws : List Str) : (Txt.join ⟨#[c]⟩ ws).cps.toList = jn c (lists ws) := by
  show (List.foldl (fun (acc : Array Nat) (p : Str) => acc ++ #[c] ++ p.cps) (ws.headD Str.empty).cps (List.drop 1 ws)).toList = _
  rw [fold_cps]
  cases ws with
  | nil => simp [Str.empty, lists, jn]
  | cons b t => simp [lists, jn, List.flatMap_map]
theorem tjoin_eq (c : Nat) (ws : List Str) : Txt.join ⟨#[c]⟩ ws = Str.join ⟨#[c]⟩ ws := s_ext (by rw [tjoin_cps, join_cps _ c rfl])
theorem lists_inj {a b : List Str} (h : lists a = lists b) : a = b := by
  unfold lists at h
  exact (List.map_inj_right fun x y e => s_ext e).mp h
theorem split_ne (t : Str) (c : Nat) : Txt.split t ⟨#[c]⟩ ≠ [] := fun z => by
  have := PyProof.Rows.split_pos t ⟨#[c]⟩
  rw [z] at this
  exact absurd this (by decide)
/-- words without the sign are what the joined text is split into -/
theorem split_join {c : Nat} {ws : List Str} (ne : ws ≠ []) (free : ∀ w ∈ ws, c ∉ w.cps.toList) : Txt.split (Txt.join ⟨#[c]⟩ ws) ⟨#[c]⟩ = ws := by
  have e := join_split (Txt.join ⟨#[c]⟩ ws) ⟨#[c]⟩
  have f := split_free (Txt.join ⟨#[c]⟩ ws) c
  have n := split_ne (Txt.join ⟨#[c]⟩ ws) c
  rw [tjoin_eq] at e f n ⊢
  refine lists_inj (jn_inj (c := c) (fun p m => ?_) (fun p m => ?_) (fun z => n ?_) (fun z => ne ?_) ?_)
  · obtain ⟨w, hw, rfl⟩ := List.mem_map.mp m
    exact f w hw
  · obtain ⟨w, hw, rfl⟩ := List.mem_map.mp m
    exact free w hw
  · exact List.map_eq_nil_iff.mp z
  · exact List.map_eq_nil_iff.mp z
  · rw [← join_cps _ c rfl, ← join_cps _ c rfl, e]
theorem join_of (c : Nat) (t : Str) : Txt.join ⟨#[c]⟩ (Txt.split t ⟨#[c]⟩) = t := by rw [tjoin_eq, join_split]
/-- a beginning of a text -/
theorem split_take {c : Nat} (t u : Str) {n : Nat} (h : u.cps.toList = t.cps.toList.take n) : (Txt.split u ⟨#[c]⟩).length ≤ (Txt.split t ⟨#[c]⟩).length ∧ (∀ q ∈ Txt.split u ⟨#[c]⟩, ∃ p ∈ Txt.split t ⟨#[c]⟩, q.length ≤ p.length) ∧
    ((Txt.split u ⟨#[c]⟩).map fun q => min q.length 8).sum ≤ ((Txt.split t ⟨#[c]⟩).map fun p => min p.length 8).sum := by
  have et := join_of c t
  have ft := split_free t c
  have nt := split_ne t c
  generalize Txt.split t ⟨#[c]⟩ = ws at et ft nt ⊢
  obtain ⟨qs, q0, q1, q2, q3, q4, q5⟩ := jn_take (c := c) (lists ws) n (fun z => nt (List.map_eq_nil_iff.mp z)) fun p m => by
    obtain ⟨w, hw, rfl⟩ := List.mem_map.mp m
    exact ft w hw
  obtain ⟨us, rfl⟩ : ∃ us : List Str, qs = lists us := ⟨qs.map fun q => ⟨q.toArray⟩, by
    unfold lists
    rw [List.map_map]
    exact (List.map_id' qs).symm⟩
  have eu : u = Txt.join ⟨#[c]⟩ us := s_ext (by rw [h, tjoin_cps, q2, ← tjoin_cps, et])
  have su : Txt.split u ⟨#[c]⟩ = us := by
    rw [eu]
    refine split_join (fun z => q0 (by rw [z]; rfl)) fun w hw => ?_
    exact q1 _ (List.mem_map.mpr ⟨w, hw, rfl⟩)
  rw [su]
  have ll : ∀ w : Str, w.cps.toList.length = w.length := fun w => by simp [Str.length]
  have mm : ∀ l : List Str, (lists l).map (fun p => min p.length 8) = l.map fun p => min p.length 8 := fun l => by
    unfold lists
    rw [List.map_map]
    exact List.map_congr_left fun w _ => by simp [ll]
  refine ⟨by simpa [lists] using q3, fun q m => ?_, by rw [← mm, ← mm]; exact q5⟩
  obtain ⟨p, mp, l⟩ := q4 _ (List.mem_map.mpr ⟨q, m, rfl⟩)
  obtain ⟨w, hw, rfl⟩ := List.mem_map.mp mp
  exact ⟨w, hw, by rw [← ll, ← ll]; exact l⟩
end SJ

set_option Elab.async false
set_option linter.all false
set_option maxRecDepth 100000
set_option maxHeartbeats 4000000
/-! signs.py, for rows of moves -/
namespace K02
open PySem PySem.Spec PyProof.Rows L2 Evl KU
def topR (i : Nat) : Stmt := PySem.Challenge.pw_flagfree_k18_texts_of_prices_and_rates.main.body.getD i (.Pass ⟨0, 0, 0, 0⟩)
/-- the places of this row -/
abbrev sIsText : Stmt := topR 13
abbrev sIsWord : Stmt := topR 14
abbrev sIsSgn : Stmt := topR 15
abbrev sIsAlphabet : Stmt := topR 16
abbrev sUnl : Stmt := topR 0
abbrev sSwap : Stmt := topR 0
abbrev sExd : Stmt := topR 0
abbrev sBegins : Stmt := topR 0
abbrev sCheck : Stmt := topR 0
abbrev sMove : Stmt := topR 0
abbrev sPut : Stmt := topR 0
abbrev sCode : Stmt := topR 0
abbrev putM (i : Nat) : Stmt := inClass sPut i
abbrev codeM (i : Nat) : Stmt := inClass sCode i
abbrev iIsOf : Nat := 10
abbrev iChanged : Nat := 11
abbrev sPen : Stmt := topR 34
abbrev sDraw : Stmt := topR 35
abbrev sPick : Stmt := topR 36
abbrev sMixed : Stmt := topR 37
abbrev sLCode : Stmt := topR 0
structure Free (mg : Str → Option Value) : Prop where
  int : mg "int" = none
  len : mg "len" = none
  abs : mg "abs" = none
  list : mg "list" = none
  str : mg "str" = none
  isinstance : mg "isinstance" = none
  all : mg "all" = none
  any : mg "any" = none
  range : mg "range" = none
  sorted : mg "sorted" = none
  tuple : mg "tuple" = none
section
variable {K : PySem.W.Frag} {σ : L2.St} {H : Hp} {te tl ta tb : TE}
abbrev rStrip : V → List V → Hp → VK → Prop := fun x xs H Q => ∃ a b, x = V.str a ∧ xs = [V.str b] ∧ a.length ≤ sizeLine ∧ Q (V.str (Txt.stripChars a b)) H
/-- w in t -/
def inS (w t : Str) : Bool := !(Builtin.Str.occurrences t w 0 t.length 1).isEmpty
def rInS : R2 := fun x y H Q => ∃ i j, x = V.str i ∧ y = V.str j ∧ Q (V.bl (inS i j)) H
theorem op_inS {X : Cx} : OpR X (compareOp .In) rInS := op_in_str
theorem ev_inS {a b : Str} (ha : Ev ta σ H (.str a)) (hb : Ev tb σ H (.str b)) : Ev (tOp rInS ta tb) σ H (.bl (inS a b)) := ev_op ha hb fun H1 x1 Q q => ⟨a, b, rfl, rfl, q H1 (Ex.refl _)⟩
def ltS (a b : Str) : Bool := decide (a.cps.toList < b.cps.toList)
def rLtS : R2 := fun x y H Q => ∃ i j, x = V.str i ∧ y = V.str j ∧ Q (V.bl (ltS i j)) H
theorem op_ltS {X : Cx} : OpR X (compareOp .Lt) rLtS := op_lt_str
theorem ev_ltS {a b : Str} (ha : Ev ta σ H (.str a)) (hb : Ev tb σ H (.str b)) : Ev (tOp rLtS ta tb) σ H (.bl (ltS a b)) := ev_op ha hb fun H1 x1 Q q => ⟨a, b, rfl, rfl, q H1 (Ex.refl _)⟩
theorem ev_anyN {bs : List Bool} (h : EvL tl σ H (bs.map V.bl)) : Ev (tCB (rAny K) (tCons tl tNil)) σ H (.bl (bs.any id)) := fun H1 x1 Q q => h H1 x1 _ fun p H2 hp x2 e => ⟨p, bs, rfl, sq_of e, q H2 x2⟩
theorem ev_allN {bs : List Bool} (h : EvL tl σ H (bs.map V.bl)) : Ev (tCB (rAll K) (tCons tl tNil)) σ H (.bl (bs.all id)) := fun H1 x1 Q q => h H1 x1 _ fun p H2 hp x2 e => ⟨p, bs, rfl, sq_of e, q H2 x2⟩
abbrev rLenStr : List V → Hp → VK → Prop := fun xs H Q => ∃ z : Str, xs = [V.str z] ∧ z.length ≤ sizeLine ∧ Q (V.int (z.length : Int)) H
theorem ev_lenS {x : Str} (h : Ev te σ H (.str x)) (hx : x.length ≤ sizeLine) : Ev (tCB rLenStr (tCons te tNil)) σ H (.int (x.length : Int)) := ev_cb (ea_cons h ea_nil) fun H1 x1 Q q => ⟨x, rfl, hx, q H1 (Ex.refl _)⟩
end

def isTextB (x al : Str) : Bool := decide (V.str (Txt.stripChars x al) = V.str "")
def isWordB (x al : Str) (m : Int) : Bool := isTextB x al && (decide ((1 : Int) ≤ (x.length : Int)) && decide ((x.length : Int) ≤ m))
/-- a text that is not long, or no text -/
inductive SV (K : PySem.W.Frag) (H : Hp) : V → Prop where
  | str (t : Str) : t.length ≤ 1000 → SV K H (.str t)
  | no {v : V} : isStrV v = false → (∀ H', Ex H H' → ∃ t, TyX K H' v t ∧ PySem.W.kitOne K t (.type "str") = some false) → SV K H v
theorem SV.mono {K : PySem.W.Frag} {H H' : Hp} {v : V} (x : Ex H H') (h : SV K H v) : SV K H' v := by
  cases h with
  | str t l => exact .str t l
  | no n h => exact .no n fun H2 y => h H2 (x.trans y)
theorem bty_tyx {K : PySem.W.Frag} {H : Hp} {v : V} {T : String} (b : BTy H v T) : TyX K H v (.type T) := by
  cases b with
  | non => exact .base .non
  | bl b => exact .base (.bl b)
  | int i => exact .base (.int i)
  | str t => exact .base (.str t)
  | lst h => exact .base (.lst h)
  | tup h => exact .base (.tup h)
  | dic h => exact .base (.dK h)
theorem sv_bty {K : PySem.W.Frag} {H : Hp} {v : V} {T : String} (b : BTy H v T) (n : T ≠ "str") : SV K H v := by
  refine .no ?_ fun H' x => ⟨.type T, bty_tyx (b.mono x), ?_⟩
  · cases b with
    | str t => exact absurd rfl n
    | _ => rfl
  · cases b with
    | str t => exact absurd rfl n
    | _ => exact kit_ty (r := false) (by decide +kernel)
theorem ev_isS {K : PySem.W.Frag} {σ : L2.St} {H : Hp} {te : TE} {v : V} (h : Ev te σ H v) (s : SV K H v) : Ev (tCB (rIsi K) (tCons te (tCons (tC (.ty "str")) tNil))) σ H (.bl (isStrV v)) := ev_cb (ea_cons h (ea_cons ev_c ea_nil)) fun H1 x1 Q1 q1 => by
  cases s with
  | str t l => exact ⟨_, _, _, _, true, rfl, .ty "str", .base (.str _), kit_ty (by decide +kernel), q1 H1 (Ex.refl _)⟩
  | no n hn =>
    obtain ⟨t, ty, e⟩ := hn H1 x1
    rw [n] at q1
    exact ⟨v, _, t, _, false, rfl, .ty "str", ty, e, q1 H1 (Ex.refl _)⟩
def isTxt (v : V) (al : Str) : Bool := match v with
  | .str t => isTextB t al
  | _ => false
def isWrdM (v : V) (al : Str) (m : Int) : Bool := match v with
  | .str t => isWordB t al m
  | _ => false
theorem isTxt_and (v : V) (al : Str) : (isStrV v && isTxt v al) = isTxt v al := by
  cases v <;> rfl
def RaiseV (C : Addr) (f : Str) (v : V) (H : Hp) (E : XK) : Prop := ∀ d H', Ex H H' → H' d = some (.xd [(f, v)]) → E (.ref C) (some d) H'
def spIsText (K : PySem.W.Frag) : Sp := fun vs H Q _ => ∃ (v : V) (al : Str), vs = [v, .str al] ∧ SV K H v ∧ RetV (.bl (isTxt v al)) H Q
def spIsWord (K : PySem.W.Frag) : Sp := fun vs H Q _ => ∃ (v : V) (al : Str) (m : Int), vs = [v, .str al, .int m] ∧ SV K H v ∧ RetV (.bl (isWrdM v al m)) H Q
theorem scIsText : FnScope ["value", "signs"] ["value", "signs"] (defScope sIsText) := ⟨rfl, rfl, rfl, by decide +kernel, rfl, by decide +kernel, by decide +kernel⟩
theorem scIsWord : FnScope ["value", "signs", "most"] ["value", "signs", "most"] (defScope sIsWord) := ⟨rfl, rfl, rfl, by decide +kernel, rfl, by decide +kernel, by decide +kernel⟩
theorem str_of_SV {K : PySem.W.Frag} {H : Hp} {v : V} (s : SV K H v) (h : isStrV v = true) : ∃ t : Str, v = .str t ∧ t.length ≤ 1000 := by
  cases s with
  | str t l => exact ⟨t, rfl, l⟩
  | no n _ =>
    rw [n] at h
    cases h
structure TSigns (K : PySem.W.Frag) (mg : Str → Option Value) (fT fW fA : Addr) : Prop extends Free mg where
  gT : mg "is_text" = some (.ref fT)
  kT : PySem.W.keepIn K (.ref fT) = true
  gW : mg "is_word" = some (.ref fW)
  kW : PySem.W.keepIn K (.ref fW) = true
  gA : mg "is_alphabet" = some (.ref fA)
  kA : PySem.W.keepIn K (.ref fA) = true
  gS : ∃ t, mg "SIGNS" = some (.str "0123456789abcdefghijklmnopqrstuvwxyz" t)
section
variable {P : Program} {w : World} {K : PySem.W.Frag} {mg : Str → Option Value} {base : Heap}
theorem ok_is_text {f : Addr} {fd : FuncData} (F : Fun K "is_text" "is_text" sIsText f fd) (T : Free mg) : FnOk P w K mg base CX0 1 f fd ["value", "signs"] (spIsText K) := by
  refine F.ok scIsText (fun vs H Q E h => ?_) (fun cdv A outer s H vs Q E hr h => ?_)
  · obtain ⟨_, _, rfl, _⟩ := h
    rfl
  · obtain ⟨v, al, rfl, o, k⟩ := h
    refine ⟨_, pss_one (ps_ret (pe_and (pe_callB call_isi (by rfl) T.isinstance (by decide +kernel) (pa_cons (pv 0) (pa_cons (pe_bltn (v := .ty "str") (by rfl) T.str (by decide +kernel) rfl) pa_nil)))
      (pe_one (pe_cmpR op_eq (pe_bm PySem.F.plainAttrs_str PySem.F.slot_str_strip PySem.F.type_str_strip mt_stripChars (pv 0) (pa_cons (pv 1) pa_nil)) pe_str (nomark _))))), ?_⟩
    refine s_ret (v := .bl (isTxt v al)) (ev_is (ev_andV (a := isStrV v) (b := isTxt v al) (ev_isS (K := K) (ev_var rfl) o) fun hs => ?_) (by rw [isTxt_and])) k
    obtain ⟨t, rfl, hl⟩ := str_of_SV o hs
    have st : Ev (tBM K "str" rStrip (tVar 0) (tCons (tVar 1) tNil)) (start ["value", "signs"] [.str t, .str al]) H (.str (Txt.stripChars t al)) := fun H1 x1 Q q => ⟨_, rfl, rfl, _, rfl, t, al, rfl, rfl, Nat.le_trans hl (by decide), q H1 (Ex.refl _)⟩
    exact ev_op st ev_c (rv_eq rfl)
theorem ok_is_word {f fT fA : Addr} {fd fdT : FuncData} (F : Fun K "is_word" "is_word" sIsWord f fd) (T : TSigns K mg fT f fA) (FT : Fun K "is_text" "is_text" sIsText fT fdT) (bT : Binds K fdT ["value", "signs"] []) :
    FnOk P w K mg base CX0 2 f fd ["value", "signs", "most"] (spIsWord K) := by
  have GT : FnOk P w K mg base CX0 1 fT fdT ["value", "signs"] (spIsText K) := ok_is_text FT T.toFree
  refine F.ok scIsWord (fun vs H Q E h => ?_) (fun cdv A outer s H vs Q E hr h => ?_)
  · obtain ⟨_, _, _, rfl, _⟩ := h
    rfl
  · obtain ⟨v, al, m, rfl, o, k⟩ := h
    refine ⟨_, pss_one (ps_ret (pe_and (pe_call GT hr (by rfl) T.gT T.kT bT .nil pass0 (pa_cons (pv 0) (pa_cons (pv 1) pa_nil)))
      (pe_one (pe_chain op_le op_le pe_int (pe_callB call_len_str (by rfl) T.len PySem.boot_len (pa_cons (pv 0) pa_nil)) (pv 2))))), ?_⟩
    refine ⟨_, rfl, _, rfl, v, al, rfl, o, fun H2 x2 => ⟨_, rfl, ?_⟩⟩
    have z := k H2 x2
    cases hb : isTxt v al with
    | false =>
      rw [if_neg (by decide)]
      have e : isWrdM v al m = false := by
        cases v with
        | str t =>
          have hb : isTextB t al = false := hb
          show isWordB t al m = false
          unfold isWordB
          rw [hb]
          rfl
        | _ => rfl
      rw [e] at z
      exact z
    | true =>
      rw [if_pos rfl]
      obtain ⟨t, rfl, hl⟩ : ∃ t, v = .str t ∧ t.length ≤ 1000 := str_of_SV o (by cases v with
        | str t => rfl
        | _ => cases hb)
      have hb : isTextB t al = true := hb
      have z : Q (.bl (isWordB t al m)) H2 := z
      unfold isWordB at z
      rw [hb, Bool.true_and] at z
      refine ⟨_, rfl, t, rfl, Nat.le_trans hl (by decide), _, _, rfl, rfl, _, rfl, ?_⟩
      cases h1 : decide ((1 : Int) ≤ (t.length : Int)) with
      | false =>
        rw [if_neg (by decide)]
        rw [h1] at z
        exact z
      | true =>
        rw [if_pos rfl]
        rw [h1, Bool.true_and] at z
        exact ⟨_, rfl, _, _, rfl, rfl, z⟩
def sSIGNS : Str := "0123456789abcdefghijklmnopqrstuvwxyz"
def sgn (x : Str) (k : Nat) : Str := ⟨#[x.cps.toList.getD k 0]⟩
def isAlphaB (x : Str) : Bool := (isWordB x sSIGNS 4 && !decide ((x.length : Int) < 2)) && ((List.range (x.length - 1)).map fun k => ltS (sgn x k) (sgn x (k + 1))).all id
def isAlphaV (v : V) : Bool := match v with
  | .str t => isAlphaB t
  | _ => false
def spAlpha (K : PySem.W.Frag) : Sp := fun vs H Q _ => ∃ v : V, vs = [v] ∧ SV K H v ∧ RetV (.bl (isAlphaV v)) H Q
theorem spv_isWord {x al : Str} {m : Int} {H : Hp} (hx : x.length ≤ 1000) : SpV (spIsWord K) [.str x, .str al, .int m] H (.bl (isWordB x al m)) := fun H1 x1 Q q E => ⟨.str x, al, m, rfl, .str x hx, q⟩
theorem scAlpha : FnScope ["value", "k"] ["value"] (defScope sIsAlphabet) := ⟨rfl, rfl, rfl, by decide +kernel, rfl, by decide +kernel, by decide +kernel⟩
theorem ok_alpha {f fT fW : Addr} {fd fdT fdW : FuncData} (F : Fun K "is_alphabet" "is_alphabet" sIsAlphabet f fd) (T : TSigns K mg fT fW f) (FT : Fun K "is_text" "is_text" sIsText fT fdT) (bT : Binds K fdT ["value", "signs"] [])
    (FW : Fun K "is_word" "is_word" sIsWord fW fdW) (bW : Binds K fdW ["value", "signs", "most"] []) : FnOk P w K mg base CX0 3 f fd ["value"] (spAlpha K) := by
  have GW : FnOk P w K mg base CX0 2 fW fdW ["value", "signs", "most"] (spIsWord K) := ok_is_word FW (T := ⟨T.toFree, T.gT, T.kT, T.gW, T.kW, T.gA, T.kA, T.gS⟩) FT bT
  obtain ⟨tk, gS⟩ := T.gS
  refine F.ok scAlpha (fun vs H Q E h => ?_) (fun cdv A outer s H vs Q E hr h => ?_)
  · obtain ⟨_, rfl, _⟩ := h
    rfl
  · obtain ⟨v, rfl, sv, k⟩ := h
    have nd := scAlpha.nd
    refine ⟨_, pss_cons (ps_if (PW.pt (pw_or (pt_not (pt_val (pe_call GW hr (by rfl) T.gW T.kW bW .nil pass0 (pa_cons (pv 0) (pa_cons (pe_glob (v := .str sSIGNS) rfl gS ⟨_, rfl⟩) (pa_cons pe_int pa_nil))))))
      (pw_or1 (pt_cmpR op_lt (pe_callB call_len_str (by rfl) T.len PySem.boot_len (pa_cons (pv 0) pa_nil)) pe_int (nomark _))))) (pss_one (ps_ret pe_bl)) pss_nil)
      (pss_one (ps_ret (pe_callB (cr_all rfl) (by rfl) T.all (by decide +kernel) (pa_cons (pe_lc (own := [("k", 1)]) (g := gName 1) (tt := tYes) rfl nd (pi_range1 rfl T.range (pa_cons (pe_op op_sub (pe_callB call_len_str (by rfl) T.len PySem.boot_len (pa_cons (pv 0) pa_nil)) pe_int) pa_nil)) (blkOk_by (own := [("k", 1)]) (N := ["value", "k"]) (sc := defScope sIsAlphabet) (by decide +kernel))
      (fun _ _ _ _ _ => pg_name (i := 1) nd rfl (Or.inl rfl)) (fun _ _ _ _ _ => pts_nil) (fun _ _ _ _ _ => pe_cmpR op_ltS (pe_ix (r := rIxS) (by exact ix_str) (pv 0) (pv 1) (fun _ _ => rfl)) (pe_ix (r := rIxS) (by exact ix_str) (pv 0) (pe_op op_add (pv 1) pe_int) (fun _ _ => rfl)) (nomark _))) pa_nil)))), ?_⟩
    cases hs : isStrV v with
    | false =>
      have e : isAlphaV v = false := by
        cases v with
        | str t => cases hs
        | _ => rfl
      have e2 : isWrdM v sSIGNS 4 = false := by
        cases v with
        | str t => cases hs
        | _ => rfl
      rw [e] at k
      refine q_when (b := true) (et_is (et_or (a := true) (et_is (et_not (et_B (ev_call (ea_cons (ev_var rfl) (ea_cons ev_c (ea_cons ev_c ea_nil))) fun H1 x1 Q1 q1 E1 => ⟨v, _, _, rfl, sv.mono x1, q1⟩))) (by rw [e2]; rfl)) (b := true) fun z => by cases z) rfl) (fun _ H1 x1 => s_ret ev_c fun H2 x2 => k H2 (x1.trans x2)) fun z => by cases z
    | true =>
    obtain ⟨x, rfl, hx⟩ := str_of_SV sv hs
    replace k : RetV (.bl (isAlphaB x)) H Q := k
    have hz : x.length ≤ sizeLine := by
      rw [sizeLine_eq]
      omega
    refine q_when (b := !isWordB x sSIGNS 4 || decide ((x.length : Int) < 2)) (et_or (et_not (et_B (ev_call (ea_cons (ev_var rfl) (ea_cons ev_c (ea_cons ev_c ea_nil))) (spv_isWord hx)))) fun _ => et_test (ev_op (ev_lenS (ev_var rfl) hz) ev_c rv_I0)) (fun hb H1 x1 => ?_) (fun hb H1 x1 => ?_)
    · refine s_ret ev_c fun H2 x2 => ?_
      have z := k H2 (x1.trans x2)
      have e : isAlphaB x = false := by
        unfold isAlphaB
        have : (isWordB x sSIGNS 4 && !decide ((x.length : Int) < 2)) = false := by
          revert hb
          cases isWordB x sSIGNS 4 <;> cases decide ((x.length : Int) < 2) <;> simp
        rw [this, Bool.false_and]
      rw [e] at z
      exact z
    · refine s_ret (v := .bl (isAlphaB x)) ?_ fun H2 x2 => k H2 (x1.trans x2)
      have h1 : (isWordB x sSIGNS 4 && !decide ((x.length : Int) < 2)) = true := by
        revert hb
        cases isWordB x sSIGNS 4 <;> cases decide ((x.length : Int) < 2) <;> simp
      have h2 : 2 ≤ x.length := by
        have : decide ((x.length : Int) < 2) = false := by
          revert h1
          cases decide ((x.length : Int) < 2) <;> simp
        have := of_decide_eq_false this
        omega
      unfold isAlphaB
      rw [h1, Bool.true_and]
      refine ev_allN ?_
      have z := el_lcR1 (σ := start ["value", "k"] [.str x]) (H := H1) (te := tOp rLtS (tOp rIxS (tVar 0) (tVar 1)) (tOp rIxS (tVar 0) (tOp (rI0 fun i j => .int (i + j)) (tVar 1) (tC (.int 1))))) (t := tYes) (j := 1) (vs := [1]) (n := (x.length : Int) - 1)
        (ta := tCons (tOp (rI0 fun i j => .int (i - j)) (tCB rLenStr (tCons (tVar 0) tNil)) (tC (.int 1))) tNil) (fun _ => true) (fun k => .bl (ltS (sgn x k) (sgn x (k + 1))))
        (ea_cons (ev_op (ev_lenS (ev_var rfl) hz) ev_c rv_I0) ea_nil) ⟨by omega, by omega⟩ (fun _ => rfl) (fun _ _ _ _ => et_yes) (fun i H3 x3 hi _ => ?_)
      · have e : ((x.length : Int) - 1).toNat = x.length - 1 := by omega
        rw [e] at z
        unfold given at z
        rw [all_str] at z
        rw [List.map_map]
        exact z
      · have hi0 : i < x.cps.toList.length := by
          have : x.length = x.cps.toList.length := by
            show x.cps.size = _
            simp
          omega
        have hi1 : i + 1 < x.cps.toList.length := by
          have : x.length = x.cps.toList.length := by
            show x.cps.size = _
            simp
          omega
        have g0 : x.cps.toList[i]? = some (x.cps.toList.getD i 0) := by rw [List.getElem?_eq_getElem hi0, List.getD_eq_getElem?_getD, List.getElem?_eq_getElem hi0]; rfl
        have g1 : x.cps.toList[i + 1]? = some (x.cps.toList.getD (i + 1) 0) := by rw [List.getElem?_eq_getElem hi1, List.getD_eq_getElem?_getD, List.getElem?_eq_getElem hi1]; rfl
        exact ev_ltS (ev_op (ev_var rfl) (ev_var rfl) (rv_ixS (by omega) (atI_nat g0))) (ev_op (ev_var rfl) (ev_op (ev_var rfl) ev_c rv_I0) (rv_ixS (by omega) (atI_nat (j := i + 1) g1)))
end
section
variable {K : PySem.W.Frag} {σ : L2.St} {H : Hp} {te tl ta tb : TE}
theorem ev_lenDc7 {a : Addr} {i j : Nat} {vs : List Nat} {tk : TE} {ws : List Str} (hx : σ[i]? = some (some (.ref a))) (hs : SqL K H a (ws.map V.str) ∨ SqT K H a (ws.map V.str)) (hl : ws.length ≤ 40000)
    (hw : ∀ x : V, wipe ((wipe σ vs).set j (some x)) vs = wipe σ vs) (hk : ∀ (x : Str) (H2 : Hp), Ev tk ((wipe σ vs).set j (some (.str x))) H2 (.str x)) :
    Ev (tCB (fun xs H Q => ∃ (d : Addr) (kvs : List (Key × V)), xs = [V.ref d] ∧ H d = some (.dK kvs) ∧ Q (V.int (kvs.length : Int)) H) (tCons (tDc (iSeqV K i) (gName j) tYes tk (tC (.bl true)) vs) tNil)) σ H (.int ((uniq ws).length : Int)) := by
  intro H1 x1 Q q
  refine dc_str (H1 := H1) (Q := fun x H2 => ∃ (d : Addr) (kvs : List (Key × V)), [x] = [V.ref d] ∧ H2 d = some (.dK kvs) ∧ Q (V.int (kvs.length : Int)) H2) hx (hs.imp (ex_l x1) (ex_t x1)) hl hw hk fun D H2 hD x2 e => ⟨D, _, rfl, e, ?_⟩
  rw [keysD_uniq, List.length_map]
  exact q H2 x2
end
def isSgnV (v : V) (al : Str) : Bool := match v with
  | .str t => decide (t.length = 1) && inS t al
  | _ => false
def spIsSgn (K : PySem.W.Frag) : Sp := fun vs H Q _ => ∃ (v : V) (al : Str), vs = [v, .str al] ∧ SV K H v ∧ RetV (.bl (isSgnV v al)) H Q
def spUnl : Sp := fun vs H Q _ => ∃ (a : Addr) (ws : List Str), vs = [.ref a] ∧ H a = some (.lst (ws.map V.str)) ∧ ws.length ≤ 1000 ∧ RetV (.bl (decide ((uniq ws).length = ws.length))) H Q
theorem scIsSgn : FnScope ["value", "signs"] ["value", "signs"] (defScope sIsSgn) := ⟨rfl, rfl, rfl, by decide +kernel, rfl, by decide +kernel, by decide +kernel⟩
section
variable {K : PySem.W.Frag} {σ : L2.St} {H : Hp} {te tl : TE} {i j : Nat} {vs : List Nat}
/-- over a list of pairs -/
theorem el_pairs {a : Addr} {ts : List Addr} {kv : List (V × V)} (φ : V × V → V) (hx : Ev tl σ H (.ref a)) (hs : H a = some (.lst (ts.map V.ref))) (hp : Paired (fun (t : Addr) (q : V × V) => H t = some (.tup [q.1, q.2])) ts kv) (hl : ts.length ≤ 40000)
    (hw : ∀ x y : V, wipe (((wipe σ vs).set i (some x)).set j (some y)) vs = wipe σ vs)
    (he : ∀ q ∈ kv, ∀ H1, Ex H H1 → Ev te (((wipe σ vs).set i (some q.1)).set j (some q.2)) H1 (φ q)) : EvL (tLc (iList K tl) (gTup K 2 (gCons (gName i) (gCons (gName j) gNil))) tYes te vs) σ H (kv.map φ) := by
  have ll := Paired.length hp
  have eg : given ts.length (fun _ => true) (fun n => (kv[n]?.map φ).getD .non) = kv.map φ := by
    unfold given
    rw [ll]
    exact given_all kv _ φ fun n x h => by rw [h]; rfl
  rw [← eg]
  intro H1 x1 Q q
  refine hx H1 x1 _ fun H2 x2 => ⟨a, rfl, ⟨_, sq_of ((x1.trans x2) _ _ hs)⟩, fun D hD => ?_⟩
  have ls : (ts.map V.ref).length = ts.length := List.length_map _
  rw [← ls] at q
  refine lc_list (xs := ts.map V.ref) (Cw H2 (fun _ => true) (fun n => (kv[n]?.map φ).getD .non) D) ⟨hD, Ex.new hD, upd_same⟩ (fun n H' _ p => sq_of (p.2.1 _ _ ((x1.trans x2) _ _ hs))) (fun n x H' hn p => ?_) (fun H' p => q D H' (fresh_back x2 p.1) (x2.trans p.2.1) p.2.2)
  rw [List.getElem?_map] at hn
  obtain ⟨t, ht, rfl⟩ := Option.map_eq_some_iff.mp hn
  obtain ⟨qv, hq, hT⟩ := paired_get hp ht
  have nl : n < 50000 := by
    have := (List.getElem?_eq_some_iff.mp ht).1
    omega
  refine ⟨t, _, rfl, st_of (p.2.1 _ _ ((x1.trans x2) _ _ hT)), rfl, _, _, rfl, _, _, rfl, rfl, hw _ _, ?_⟩
  refine cw_turn p nl et_yes fun _ => ?_
  rw [hq]
  exact he qv (List.mem_of_getElem? hq) H2 (x1.trans x2)
end
section
variable {P : Program} {w : World} {K : PySem.W.Frag} {mg : Str → Option Value} {base : Heap}
theorem ok_isSgn {f : Addr} {fd : FuncData} (F : Fun K "is_sign" "is_sign" sIsSgn f fd) (T : Free mg) : FnOk P w K mg base CX0 1 f fd ["value", "signs"] (spIsSgn K) := by
  refine F.ok scIsSgn (fun vs H Q E h => ?_) (fun cdv A outer s H vs Q E hr h => ?_)
  · obtain ⟨_, _, rfl, _⟩ := h
    rfl
  · obtain ⟨v, al, rfl, o, k⟩ := h
    refine ⟨_, pss_one (ps_ret (pe_and (pe_callB call_isi (by rfl) T.isinstance (by decide +kernel) (pa_cons (pv 0) (pa_cons (pe_bltn (v := .ty "str") (by rfl) T.str (by decide +kernel) rfl) pa_nil)))
      (pe_and (pe_cmpR op_eq (pe_callB call_len_str (by rfl) T.len PySem.boot_len (pa_cons (pv 0) pa_nil)) pe_int (nomark _)) (pe_one (pe_cmpR op_inS (pv 0) (pv 1) (by rfl)))))), ?_⟩
    by_cases hs : isStrV v = true
    · obtain ⟨t, rfl, tl⟩ := str_of_SV o hs
      refine s_ret (v := .bl (isSgnV (.str t) al)) (ev_is (ev_andV (ev_isS (ev_var rfl) o) fun _ => ev_andV (a := decide (t.length = 1)) (ev_is (ev_op (ev_lenS (ev_var rfl) (by rw [sizeLine_eq]; omega)) ev_c (rv_eq rfl)) ?_) fun _ => ev_inS (ev_var rfl) (ev_var rfl)) rfl) fun H1 x1 => k H1 x1
      refine congrArg V.bl ?_
      rw [Bool.eq_iff_iff, decide_eq_true_eq, decide_eq_true_eq]
      exact ⟨fun z => by injection z with z; omega, fun z => by rw [z]; rfl⟩
    · have e : isSgnV v al = false := by
        cases v with
        | str t => exact absurd rfl hs
        | _ => rfl
      have hs' : isStrV v = false := by simpa using hs
      refine s_ret (v := .bl (isSgnV v al)) (ev_is (ev_andV (b := false) (ev_isS (ev_var rfl) o) fun z => by rw [hs'] at z; cases z) (by rw [hs', e]; rfl)) fun H1 x1 => k H1 x1
end
/-! ### tables -/
def kvG (ks : List (Str × V)) : List (Key × V) := ks.map fun p => (Sum.inr p.1, p.2)
def strOfV : V → Str
  | .str t => t
  | _ => ""
def valsG (ks : List (Str × V)) : List Str := ks.map fun p => strOfV p.2
def signsB (ks : List (Str × V)) (al : Str) : Bool := ks.all fun p => isSgnV (.str p.1) al && isSgnV p.2 al
def swapB (ks : List (Str × V)) (al : Str) : Bool := signsB ks al && decide ((uniq (valsG ks)).length = ks.length)
/-- what is asked for a table: none, or a dict of which keys are texts -/
inductive Tabl (K : PySem.W.Frag) (H : Hp) (al : Str) : V → Bool → Prop where
  | no {v : V} : (∀ H', Ex H H' → ∃ t, TyX K H' v t ∧ PySem.W.kitOne K t (.type "dict") = some false) → Tabl K H al v false
  | dic {p : Addr} {ks : List (Str × V)} : H p = some (.dK (kvG ks)) → ks.length ≤ 1000 → (∀ q ∈ ks, q.1.length ≤ 1000 ∧ SV K H q.2) → Tabl K H al (.ref p) (swapB ks al)
theorem Tabl.mono {K : PySem.W.Frag} {H H' : Hp} {al : Str} {v : V} {b : Bool} (x : Ex H H') (h : Tabl K H al v b) : Tabl K H' al v b := by
  cases h with
  | no hn => exact .no fun H2 y => hn H2 (x.trans y)
  | dic hp few each => exact .dic (x _ _ hp) few fun q hq => ⟨(each q hq).1, (each q hq).2.mono x⟩

end K02

set_option Elab.async false
set_option linter.all false
set_option maxRecDepth 100000
set_option maxHeartbeats 4000000
/-! text * number; list(text) -/
namespace KU
open PySem PySem.Spec PyProof.Rows L2 Evl
def repS (x : Str) (n : Int) : Str := if n < 1 then Str.empty else if (n == 1 || x.length == 0) = true then x else ⟨List.foldl (fun x1 x2 => x1 ++ x2) #[] (List.replicate n.toNat x.cps)⟩
theorem rep_size (a : Array Nat) (k : Nat) : ∀ b : Array Nat, (List.foldl (fun (x1 x2 : Array Nat) => x1 ++ x2) b (List.replicate k a)).size = b.size + k * a.size := by
  induction k with
  | zero => intro b; simp
  | succ k ih =>
    intro b
    rw [List.replicate_succ, List.foldl_cons, ih, Array.size_append, Nat.add_mul]
    omega
theorem vals_ix : ∀ (xs : List V) (us : List Value), xs.length = us.length → (∀ (j : Nat) (x : V) (u : Value), xs[j]? = some x → us[j]? = some u → RelV x u) → Vals xs us
  | [], [], _, _ => .nil
  | [], _ :: _, h, _ => by cases h
  | _ :: _, [], h, _ => by cases h
  | x :: xs, u :: us, h, r => .cons (r 0 x u rfl rfl) (vals_ix xs us (by simpa using h) fun j y v a b => r (j + 1) y v (by simpa using a) (by simpa using b))
def rRepS : R2 := fun x y H Q => ∃ (z : Str) (n : Int), x = .str z ∧ y = .int n ∧ z.length ≤ 1000 ∧ 0 ≤ n ∧ n ≤ 1000 ∧ Q (.str (repS z n)) H
theorem op_repS {X : Cx} : OpR X (binaryOp .Mult) rRepS := by
  intro pins s σ H x y u v Q I rx ry h
  obtain ⟨z, n, rfl, rfl, hz, n0, n1, q⟩ := h
  obtain ⟨t1, rfl⟩ := rx
  obtain ⟨t2, rfl⟩ := ry
  refine P.mul_str ?_ ?_ ?_ ?_
  · rw [Bool.or_eq_false_iff]
    exact ⟨decide_eq_false (by omega), decide_eq_false (by omega)⟩
  · intro a b c
    have n2 : 0 < n := by omega
    have m1 : (z.length : Int) * n ≤ 1000 * 1000 := Int.mul_le_mul (by omega) n1 (by omega) (by omega)
    have := Int.le_ediv_of_mul_le (b := 2 ^ 63 - 1) n2 (Int.le_trans m1 (by decide))
    omega
  · intro a b
    have m1 : z.length * n.toNat ≤ 1000 * 1000 := Nat.mul_le_mul hz (by omega)
    unfold Builtin.Str.tooLong
    refine decide_eq_false ?_
    rw [sizeLine_eq]
    omega
  · unfold repS at q
    split
    · rename_i h1
      rw [if_pos h1] at q
      exact ⟨Nat.zero_le _, .str Str.empty, H, I.tok _, ⟨_, rfl⟩, q⟩
    · rename_i h1
      rw [if_neg h1] at q
      split
      · rename_i h2
        rw [if_pos h2] at q
        exact ⟨.str z, H, I, ⟨_, rfl⟩, q⟩
      · rename_i h2
        rw [if_neg h2] at q
        refine ⟨?_, .str _, H, I.tok _, ⟨_, rfl⟩, q⟩
        show (List.foldl (fun (x1 x2 : Array Nat) => x1 ++ x2) #[] (List.replicate n.toNat z.cps)).size ≤ _
        rw [rep_size]
        have m1 : n.toNat * z.cps.size ≤ 1000 * 1000 := Nat.mul_le_mul (by omega) hz
        rw [sizeLine_eq]
        simp
        omega
def signsV (z : Str) : List V := z.cps.toList.map fun c => V.str ⟨#[c]⟩
def rListStr : List V → Hp → VK → Prop := fun xs H Q => ∃ z : Str, xs = [.str z] ∧ z.length ≤ 1000 ∧ ∀ p, H p = none → Q (.ref p) (upd H p (.lst (signsV z)))
theorem call_listS {X : Cx} (hc : X.calm = true) : CallR X (.type "list") rListStr := by
  intro pins s σ H xs us Q I r h
  obtain ⟨z, rfl, hz, q⟩ := h
  obtain ⟨u, rfl, r1⟩ := vals1 r
  obtain ⟨t, rfl⟩ := r1
  have hz2 : z.cps.size ≤ 1000 := hz
  refine call_list_str (I.ok.hd hc) z t (fun h' tk acc c kp hD it => ?_) (by rw [sizeLine_eq]; omega)
  refine ⟨.ref s.heap.objs.size, _, I.laid (h' := h') (a := s.heap.objs.size) (o := .lst (signsV z)) kp (Nat.le_refl _) ?_, rfl, q _ (I.hok.fresh (Nat.le_refl _))⟩
  refine ⟨?_, acc.toList, c, ?_, by rw [hD]⟩
  · unfold signsV
    rw [List.length_map, sizeLine_eq]
    simp
    omega
  · obtain ⟨sz, at_⟩ := it
    refine vals_ix _ _ ?_ fun j x u hx hu => ?_
    · unfold signsV
      rw [List.length_map]
      simp [sz]
    · obtain ⟨c2, t2, h1, rfl⟩ := at_ j u (by simpa using hu)
      unfold signsV at hx
      rw [List.getElem?_map] at hx
      have : z.cps.toList[j]? = some c2 := by simpa using h1
      rw [this] at hx
      cases hx
      exact ⟨_, rfl⟩
end KU

set_option Elab.async false
set_option linter.all false
set_option maxRecDepth 100000
set_option maxHeartbeats 4000000
/-! The reading of a draw, its numbers as letters -/
namespace KU
open PySem PySem.Spec PyProof.Rows L2 Evl
abbrev rAddI : R2 := rI0 fun i j => .int (i + j)
abbrev rSubI : R2 := rI0 fun i j => .int (i - j)
abbrev rMulI : R2 := rI CMul fun i j => .int (i * j)
abbrev rModI : R2 := rI (fun _ j => 0 < j) fun i j => .int (i % j)
abbrev rDivI : R2 := rI CDiv fun i j => .int (i / j)
abbrev rPowI : R2 := rI CPow fun i j => .int (i ^ j.toNat)
abbrev rLtI : R2 := rI0 fun i j => .bl (decide (i < j))
abbrev rGtI : R2 := rI0 fun i j => .bl (decide (j < i))
abbrev rGeI : R2 := rI0 fun i j => .bl (decide (j ≤ i))
abbrev tIntOf (t : TE) : TE := tCB rInt1 (tCons t tNil)
abbrev tAbsOf (t : TE) : TE := tCB rAbs (tCons t tNil)
abbrev tLenOf (K : PySem.W.Frag) (t : TE) : TE := tCB (rLenS K) (tCons t tNil)
abbrev cI (i : Int) : TE := tC (.int i)
/-- an item of the state -/
abbrev tPg (K : PySem.W.Frag) (j : Int) : TE := tOp (rIxL K) (tVar 0) (cI j)
def tGreat (K : PySem.W.Frag) : TS := tSeq (tAsg (tOp rAddI (tOp rMulI (cI 2) (tOp rSubI (tAbsOf (tVar 4)) (tOp rPowI (cI 10) (cI 18)))) (tIntOf (tOp rLtI (tVar 4) (cI 0)))) (gName 5))
  (tSeq (tAsg (tOp rDivI (tIntOf (tVar 5)) (tVar 1)) (gSub (tVar 0) (cI 2) rSetL)) (tRet (tOp rModI (tIntOf (tVar 5)) (tVar 1))))
def tMix (p1 a1 b1 p2 a2 b2 c2 d2 p3 : Int) : TS :=
  tSeq (tAsg (tOp rModI (tIntOf (tOp rPowI (tOp rAddI (tOp rAddI (tOp rModI (tIntOf (tVar 4)) (cI p1)) (tOp rMulI (cI a1) (tVar 3))) (cI b1)) (cI 5))) (cI p2)) (gName 6))
  (tSeq (tAsg (tOp rModI (tIntOf (tOp rPowI (tOp rAddI (tOp rAddI (tOp rMulI (tVar 6) (tOp rAddI (tOp rMulI (cI a2) (tVar 3)) (cI b2))) (tOp rMulI (tOp rMulI (cI c2) (tVar 3)) (tVar 3))) (cI d2)) (cI 3))) (cI p3)) (gName 6))
  (tRet (tOp rModI (tIntOf (tOp rDivI (tVar 6) (cI 32))) (tVar 1))))
def tDraw (K : PySem.W.Frag) (c1 c0 p1 a1 b1 p2 a2 b2 c2 d2 p3 : Int) : TS :=
  tSeq (tIfS (tTest (tOp rGtI (tPg K 2) (cI 0)))
    (tSeq (tAsg (tOp rModI (tIntOf (tPg K 2)) (tVar 1)) (gName 2)) (tSeq (tAsg (tOp rDivI (tIntOf (tPg K 2)) (tVar 1)) (gSub (tVar 0) (cI 2) rSetL)) (tRet (tVar 2)))) tNext)
  (tSeq (tAsg (tPg K 1) (gName 3))
  (tSeq (tAsg (tOp rAddI (tVar 3) (cI 1)) (gSub (tVar 0) (cI 1) rSetL))
  (tSeq (tAsg (tOp rAddI (tOp rMulI (cI c1) (tVar 3)) (cI c0)) (gName 4))
  (tSeq (tIfS (tTest (tOp (rNeD K) (tPg K 0) (tLst tNil))) (tAsg (tOp (rIxL K) (tPg K 0) (tOp rModI (tIntOf (tVar 3)) (tLenOf K (tPg K 0)))) (gName 4)) tNext)
  (tSeq (tIfS (tAnd (tTest (tOp rLtI (tVar 3) (tLenOf K (tPg K 0)))) (tTest (tOp rGeI (tAbsOf (tVar 4)) (tOp rPowI (cI 10) (cI 18))))) (tGreat K) tNext)
  (tMix p1 a1 b1 p2 a2 b2 c2 d2 p3))))))

section
variable {K : PySem.W.Frag} {σ : L2.St} {H : Hp} {te ta tb : TE}
theorem ev_int1 {i : Int} (h : Ev te σ H (.int i)) : Ev (tIntOf te) σ H (.int i) := ev_cb (ea_cons h ea_nil) (rc_int i)
theorem ev_bool1 {k : Bool} (h : Ev te σ H (.bl k)) : Ev (tIntOf te) σ H (.int (if k then 1 else 0)) := ev_cb (ea_cons h ea_nil) (rc_bool k)
theorem ev_abs1 {i : Int} (h : Ev te σ H (.int i)) : Ev (tAbsOf te) σ H (.int (if i < 0 then -i else i)) := ev_cb (ea_cons h ea_nil) (rc_abs i)
theorem ev_add {i j : Int} (a : Ev ta σ H (.int i)) (b : Ev tb σ H (.int j)) : Ev (tOp rAddI ta tb) σ H (.int (i + j)) := ev_op a b rv_I0
theorem ev_sub {i j : Int} (a : Ev ta σ H (.int i)) (b : Ev tb σ H (.int j)) : Ev (tOp rSubI ta tb) σ H (.int (i - j)) := ev_op a b rv_I0
theorem ev_mul {i j : Int} (c : CMul i j) (a : Ev ta σ H (.int i)) (b : Ev tb σ H (.int j)) : Ev (tOp rMulI ta tb) σ H (.int (i * j)) := ev_op a b (rv_I c)
theorem ev_mod {i j : Int} (c : 0 < j) (a : Ev ta σ H (.int i)) (b : Ev tb σ H (.int j)) : Ev (tOp rModI ta tb) σ H (.int (i % j)) := ev_op a b (rv_I (C := fun _ j => 0 < j) c)
theorem ev_div {i j : Int} (c : CDiv i j) (a : Ev ta σ H (.int i)) (b : Ev tb σ H (.int j)) : Ev (tOp rDivI ta tb) σ H (.int (i / j)) := ev_op a b (rv_I c)
theorem ev_pow {i j : Int} (c : CPow i j) (a : Ev ta σ H (.int i)) (b : Ev tb σ H (.int j)) : Ev (tOp rPowI ta tb) σ H (.int (i ^ j.toNat)) := ev_op a b (rv_I c)
theorem ev_pg {P L : Addr} {ns : List Int} {s : Nat} {g : Int} {j : Int} {v : V} (p : Pen H P L ns s g) (h0 : σ[0]? = some (some (.ref P))) (hv : atI ([.ref L, .int s, .int g] : List V) j = some v) : Ev (tPg K j) σ H v :=
  ev_op (ev_var h0) ev_c (rv_ixL (sq_of p.pen) hv)
theorem ev_lenC {P L : Addr} {ns : List Int} {s : Nat} {g : Int} (p : Pen H P L ns s g) (h0 : σ[0]? = some (some (.ref P))) : Ev (tLenOf K (tPg K 0)) σ H (.int (ns.length : Int)) := by
  have h := ev_len (K := K) (ev_pg (K := K) (σ := σ) (j := 0) p h0 rfl) (sq_of p.cells)
  have e : (vints ns).length = ns.length := by simp [vints]
  rw [e] at h
  exact h
end
theorem small_mul {a b : Int} (h0 : 0 ≤ a) (h1 : a < 18446744073709551616) : CMul a b := .inl ⟨by omega, by omega⟩
theorem mix_reads {p1 a1 b1 p2 a2 b2 c2 d2 p3 : Int} (hp1 : 0 < p1 ∧ p1 < 2147483648) (ha1 : 0 ≤ a1 ∧ a1 ≤ 10000000) (hb1 : 0 ≤ b1 ∧ b1 ≤ 1000000000) (hp2 : 0 < p2 ∧ p2 < 2147483648) (ha2 : 0 ≤ a2 ∧ a2 ≤ 10) (hb2 : 0 ≤ b2 ∧ b2 ≤ 1000000)
    (hc2 : 0 ≤ c2 ∧ c2 ≤ 10000000) (hd2 : 0 ≤ d2 ∧ d2 ≤ 1000000000) (hp3 : 0 < p3) {P : Addr} {m c : Int} {s : Nat} {x2 x5 x6 : Option V} {H : Hp} {Q : VK} (m0 : 0 < m) (s0 : s ≤ 100000)
    (k : ∀ (d : Nat) (H' : Hp), (d : Int) < m → Ex H H' → Q (.int d) H') :
    tMix p1 a1 b1 p2 a2 b2 c2 d2 p3 { nx := fun _ H' => Q .non H', rt := Q } [some (.ref P), some (.int m), x2, some (.int (s : Int)), some (.int c), x5, x6] H := by
  have e1 : 0 ≤ c % p1 := Int.emod_nonneg _ (by omega)
  have e2 : c % p1 < p1 := Int.emod_lt_of_pos _ hp1.1
  have e3 : 0 ≤ a1 * (s : Int) := Int.mul_nonneg ha1.1 (by omega)
  have e4 : a1 * (s : Int) ≤ 10000000 * 100000 := Int.mul_le_mul ha1.2 (by omega) (by omega) (by omega)
  have f0 : 0 ≤ (c % p1 + a1 * (s : Int) + b1) ^ 5 % p2 := Int.emod_nonneg _ (by omega)
  have f1 : (c % p1 + a1 * (s : Int) + b1) ^ 5 % p2 < p2 := Int.emod_lt_of_pos _ hp2.1
  refine q_asg (ev_mod hp2.1 (ev_int1 (ev_pow (i := c % p1 + a1 * (s : Int) + b1) (j := 5) ⟨by omega, by omega, by omega⟩ (ev_add (ev_add (ev_mod hp1.1 (ev_int1 (ev_var rfl)) ev_c) (ev_mul (small_mul ha1.1 (by omega)) ev_c (ev_var rfl))) ev_c) ev_c)) ev_c) fun H1 x1 => ?_
  have e5 : (5 : Int).toNat = 5 := rfl
  rw [e5]
  generalize hm : (c % p1 + a1 * (s : Int) + b1) ^ 5 % p2 = mx at f0 f1 ⊢
  have bd := bound_mix (m := mx) (s := (s : Int)) f0 (by omega) (by omega) (by omega) ha2.1 ha2.2 hb2.1 hb2.2 hc2.1 hc2.2 hd2.1 hd2.2
  have e6 : 0 ≤ c2 * (s : Int) := Int.mul_nonneg hc2.1 (by omega)
  have e7 : c2 * (s : Int) ≤ 10000000 * 100000 := Int.mul_le_mul hc2.2 (by omega) (by omega) (by omega)
  have g0 : 0 ≤ (mx * (a2 * (s : Int) + b2) + c2 * (s : Int) * (s : Int) + d2) ^ 3 % p3 := Int.emod_nonneg _ (by omega)
  refine q_asg (ev_mod hp3 (ev_int1 (ev_pow (i := mx * (a2 * (s : Int) + b2) + c2 * (s : Int) * (s : Int) + d2) (j := 3) ⟨by omega, by omega, by omega⟩
    (ev_add (ev_add (ev_mul (small_mul f0 (by omega)) (ev_var rfl) (ev_add (ev_mul (small_mul ha2.1 (by omega)) ev_c (ev_var rfl)) ev_c)) (ev_mul (small_mul e6 (by omega)) (ev_mul (small_mul hc2.1 (by omega)) ev_c (ev_var rfl)) (ev_var rfl))) ev_c) ev_c)) ev_c) fun H2 x2 => ?_
  have e8 : (3 : Int).toNat = 3 := rfl
  rw [e8]
  generalize hn : (mx * (a2 * (s : Int) + b2) + c2 * (s : Int) * (s : Int) + d2) ^ 3 % p3 = my at g0 ⊢
  refine s_ret (ev_mod m0 (ev_int1 (ev_div (i := my) (j := 32) ⟨by decide, by decide⟩ (ev_var rfl) ev_c)) (ev_var rfl)) fun H3 x3 => ?_
  have h0 : 0 ≤ my / 32 % m := Int.emod_nonneg _ (by omega)
  have h1 : my / 32 % m < m := Int.emod_lt_of_pos _ m0
  have h2 : ((my / 32 % m).toNat : Int) = my / 32 % m := Int.toNat_of_nonneg h0
  have z := k (my / 32 % m).toNat H3 (by omega) ((x1.trans x2).trans x3)
  rw [h2] at z
  exact z
theorem draw_reads {K : PySem.W.Frag} {c1 c0 p1 a1 b1 p2 a2 b2 c2 d2 p3 : Int} (hc1 : 0 ≤ c1 ∧ c1 ≤ 10000000) (hp1 : 0 < p1 ∧ p1 < 2147483648) (ha1 : 0 ≤ a1 ∧ a1 ≤ 10000000) (hb1 : 0 ≤ b1 ∧ b1 ≤ 1000000000) (hp2 : 0 < p2 ∧ p2 < 2147483648)
    (ha2 : 0 ≤ a2 ∧ a2 ≤ 10) (hb2 : 0 ≤ b2 ∧ b2 ≤ 1000000) (hc2 : 0 ≤ c2 ∧ c2 ≤ 10000000) (hd2 : 0 ≤ d2 ∧ d2 ≤ 1000000000) (hp3 : 0 < p3) {P L : Addr} {ns : List Int} {s : Nat} {g m : Int} {H : Hp} {Q : VK}
    (m0 : 0 < m) (m1 : m < 1000000000) (pen : Pen H P L ns s g) (s0 : s ≤ 100000)
    (k : ∀ (d : Nat) (s' : Nat) (g' : Int) (H' : Hp), (d : Int) < m → s' ≤ s + 1 → But P H H' → Pen H' P L ns s' g' → Q (.int d) H') :
    tDraw K c1 c0 p1 a1 b1 p2 a2 b2 c2 d2 p3 { nx := fun _ H' => Q .non H', rt := Q } [some (.ref P), some (.int m), none, none, none, none, none] H := by
  -- what the state is behind a store
  have stored : ∀ {H1 : Hp} {s' : Nat} {g' : Int}, Ex H H1 → 0 ≤ g' → Pen (upd H1 P (.lst [.ref L, .int s', .int g'])) P L ns s' g' := fun {H1 s' g'} x h =>
    ⟨upd_same, by rw [upd_ne pen.ne]; exact x _ _ pen.cells, pen.ne, pen.few, h⟩
  have hdv : CDiv 0 m := ⟨m0, by omega⟩
  refine q_when (b := decide (0 < g)) (et_test (ev_op (ev_pg pen rfl rfl) ev_c rv_I0)) (fun hb H1 x1 => ?_) (fun _ H1 x1 => ?_)
  · -- a digit of a great cell
    have pen1 := pen.mono x1
    have h0 : 0 ≤ g % m := Int.emod_nonneg _ (by omega)
    have h1 : g % m < m := Int.emod_lt_of_pos _ m0
    have h2 : ((g % m).toNat : Int) = g % m := Int.toNat_of_nonneg h0
    refine q_asg (ev_mod m0 (ev_int1 (ev_pg pen1 rfl rfl)) (ev_var rfl)) fun H2 x2 => ?_
    have pen2 := pen1.mono x2
    refine q_setL (j := 2) pen2.pen (ev_div ⟨m0, by omega⟩ (ev_int1 (ev_pg pen2 rfl rfl)) (ev_var rfl)) (ev_var rfl) ev_c (by show 2 < 3; decide) fun H3 x3 => ?_
    refine s_ret (ev_var rfl) fun H4 x4 => ?_
    have x03 := (x1.trans x2).trans x3
    have z := k (g % m).toNat s (g / m) H4 (by omega) (Nat.le_succ _) ((But.put (But.of_ex x03)).trans (But.of_ex x4)) ((stored x03 (Int.ediv_nonneg pen.left (by omega))).mono x4)
    rw [h2] at z
    exact z
  · have pen1 := pen.mono x1
    refine q_asg (ev_pg pen1 rfl rfl) fun H2 x2 => ?_
    have pen2 := pen1.mono x2
    refine q_setL (j := 1) pen2.pen (ev_add (ev_var rfl) ev_c) (ev_var rfl) ev_c (by show 1 < 3; decide) fun H3 x3 => ?_
    have x03 := (x1.trans x2).trans x3
    have pen4 : Pen (upd H3 P (.lst [.ref L, .int ((s + 1 : Nat) : Int), .int g])) P L ns (s + 1) g := stored x03 pen.left
    have but4 : But P H (upd H3 P (.lst [.ref L, .int ((s + 1 : Nat) : Int), .int g])) := But.put (But.of_ex x03)
    show tSeq _ _ _ _ (upd H3 P (.lst [.ref L, .int ((s + 1 : Nat) : Int), .int g]))
    generalize hH : upd H3 P (HO.lst [V.ref L, V.int ((s + 1 : Nat) : Int), V.int g]) = H4 at pen4 but4 ⊢
    refine q_asg (ev_add (ev_mul (small_mul hc1.1 (by omega)) ev_c (ev_var rfl)) ev_c) fun H5 x5 => ?_
    have pen5 := pen4.mono x5
    -- the cell, if there is one
    have tail : ∀ (c : Int) (H6 : Hp), Ex H4 H6 → tSeq (tIfS (tAnd (tTest (tOp rLtI (tVar 3) (tLenOf K (tPg K 0)))) (tTest (tOp rGeI (tAbsOf (tVar 4)) (tOp rPowI (cI 10) (cI 18))))) (tGreat K) tNext) (tMix p1 a1 b1 p2 a2 b2 c2 d2 p3)
        { nx := fun _ H' => Q .non H', rt := Q } [some (.ref P), some (.int m), none, some (.int (s : Int)), some (.int c), none, none] H6 := by
      intro c H6 x6
      have pen6 := pen4.mono x6
      refine q_when (et_and (et_test (ev_op (ev_var rfl) (ev_lenC pen6 rfl) rv_I0)) fun _ => et_test (ev_op (ev_abs1 (ev_var rfl)) (ev_pow (i := 10) (j := 18) ⟨by decide, by decide, by decide⟩ ev_c ev_c) rv_I0)) (fun hb H7 x7 => ?_) (fun _ H7 x7 => ?_)
      · have hb2 : (10 : Int) ^ (18 : Int).toNat ≤ (if c < 0 then -c else c) := by
          have := (Bool.and_eq_true_iff.mp hb).2
          exact of_decide_eq_true this
        have pen7 := pen6.mono x7
        refine q_asg (ev_add (ev_mul (small_mul (by decide) (by decide)) ev_c (ev_sub (ev_abs1 (ev_var rfl)) (ev_pow (i := 10) (j := 18) ⟨by decide, by decide, by decide⟩ ev_c ev_c))) (ev_bool1 (ev_op (ev_var rfl) ev_c rv_I0))) fun H8 x8 => ?_
        have ge : 0 ≤ 2 * ((if c < 0 then -c else c) - (10 : Int) ^ (18 : Int).toNat) + (if decide (c < 0) = true then 1 else 0) := by
          have : (0 : Int) ≤ if decide (c < 0) = true then 1 else 0 := by split <;> decide
          omega
        generalize 2 * ((if c < 0 then -c else c) - (10 : Int) ^ (18 : Int).toNat) + (if decide (c < 0) = true then 1 else 0) = gr at ge ⊢
        have pen8 := pen7.mono x8
        refine q_setL (j := 2) pen8.pen (ev_div ⟨m0, by omega⟩ (ev_int1 (ev_var rfl)) (ev_var rfl)) (ev_var rfl) ev_c (by show 2 < 3; decide) fun H9 x9 => ?_
        refine s_ret (ev_mod m0 (ev_int1 (ev_var rfl)) (ev_var rfl)) fun H10 x10 => ?_
        have h0 : 0 ≤ gr % m := Int.emod_nonneg _ (by omega)
        have h1 : gr % m < m := Int.emod_lt_of_pos _ m0
        have h2 : ((gr % m).toNat : Int) = gr % m := Int.toNat_of_nonneg h0
        have x49 := ((x6.trans x7).trans x8).trans x9
        have pen9 : Pen (upd H9 P (.lst [.ref L, .int ((s + 1 : Nat) : Int), .int (gr / m)])) P L ns (s + 1) (gr / m) :=
          ⟨upd_same, by rw [upd_ne pen.ne]; exact x49 _ _ pen4.cells, pen.ne, pen.few, Int.ediv_nonneg ge (by omega)⟩
        have z := k (gr % m).toNat (s + 1) (gr / m) H10 (by omega) (Nat.le_refl _) ((but4.trans (But.put (But.of_ex x49))).trans (But.of_ex x10)) (pen9.mono x10)
        rw [h2] at z
        exact z
      · exact mix_reads hp1 ha1 hb1 hp2 ha2 hb2 hc2 hd2 hp3 m0 s0 fun d H8 hd x8 => k d (s + 1) g H8 hd (Nat.le_refl _) (but4.trans (But.of_ex ((x6.trans x7).trans x8))) (pen4.mono ((x6.trans x7).trans x8))
    refine q_when (b := !PyData.eqv (.list (dints ns)) (.list [])) (et_test (ev_opL (ev_pg pen5 rfl rfl) (el_lst ea_nil (Nat.zero_le _)) fun p H6 hp x6 =>
      rv_neD (fun H7 x7 => .lst (sq_of ((x6.trans x7) _ _ pen5.cells)) (dp_ints ns)) (fun H7 x7 => .lst (sq_of (x7 _ _ hp)) .nil) (shaped_ints ns) (shaped_ints []))) (fun hb H6 x6 => ?_) (fun _ H6 x6 => tail _ H6 (x5.trans x6))
    have hn : 0 < ns.length := by
      rw [eqv_empty] at hb
      cases ns with
      | nil => exact absurd hb (by decide)
      | cons a r => exact Nat.succ_pos _
    have pen6 := pen5.mono x6
    have hlt : s % ns.length < ns.length := Nat.mod_lt _ hn
    refine s_asg (ev_op (ev_pg pen6 rfl rfl) (ev_mod (by omega) (ev_int1 (ev_var rfl)) (ev_lenC pen6 rfl)) (rv_ixL (v := .int (ns[s % ns.length]'hlt)) (sq_of pen6.cells) ?_)) fun H7 x7 => tail _ H7 ((x5.trans x6).trans x7)
    have e : ((s : Int) % (ns.length : Int)) = ((s % ns.length : Nat) : Int) := by simp
    rw [e]
    refine atI_nat ?_
    simp [vints, List.getElem?_map, List.getElem?_eq_getElem hlt]
theorem cut_ints (ns : List Int) (lo hi : Option Int) : ∃ ms : List Int, cutV (vints ns) lo hi = vints ms ∧ ms.length ≤ ns.length := by
  refine ⟨(ns.drop (HT.sIx (vints ns).length 0 lo)).take (HT.sIx (vints ns).length (vints ns).length hi - HT.sIx (vints ns).length 0 lo), ?_, ?_⟩
  · unfold cutV vints
    rw [List.map_take, List.map_drop]
  · rw [List.length_take, List.length_drop]
    omega
/-- [list(script[:n]), 0, 0] -/
def tPen (K : PySem.W.Frag) (n : Int) : TS := tRet (tLst (tCons (tCB (rListS K) (tCons (tSl (rSlL K) (tVar 0) tNoPart (tPart (cI n))) tNil)) (tCons (cI 0) (tCons (cI 0) tNil))))
theorem pen_reads {K : PySem.W.Frag} {n : Int} {a : Addr} {ns : List Int} {H : Hp} {Q : VK} (hS : SqL K H a (vints ns)) (hl : ns.length ≤ 63)
    (k : ∀ (P L : Addr) (ms : List Int) (H' : Hp), H P = none → Ex H H' → Pen H' P L ms 0 0 → Q (.ref P) H') : tPen K n { nx := fun _ H' => Q .non H', rt := Q } [some (.ref a)] H := by
  obtain ⟨ms, hm, hlen⟩ := cut_ints ns none (some n)
  refine ⟨_, rfl, n, rfl, a, vints ns, rfl, hS, fun p hp => ?_⟩
  rw [hm]
  refine ⟨p, vints ms, rfl, .inl (sq_of upd_same), fun l hl' => ⟨by show 3 ≤ sizeLine; decide, fun P hP => ?_⟩⟩
  have e1 : Ex H (upd H p (.lst (vints ms))) := Ex.new hp
  have e2 : Ex (upd H p (.lst (vints ms))) (upd (upd H p (.lst (vints ms))) l (.lst (vints ms))) := Ex.new hl'
  have ne : l ≠ P := ne_of_none upd_same hP
  exact k P l ms _ (fresh_back (e1.trans e2) hP) ((e1.trans e2).trans (Ex.new hP)) ⟨upd_same, by rw [upd_ne ne]; exact upd_same, ne, by omega, Int.le_refl _⟩
/-- some[draw(pen, len(some))] -/
def tPick (K : PySem.W.Frag) : TS := tRet (tOp (rIxL K) (tVar 1) (tCall spDraw [] E0 (tCons (tVar 0) (tCons (tLenOf K (tVar 1)) tNil))))
theorem pick_reads {K : PySem.W.Frag} {P L l : Addr} {ns : List Int} {xs : List V} {s : Nat} {g : Int} {H : Hp} {Q : VK} (x0 : xs ≠ []) (xl : xs.length ≤ 1000) (hl : H l = some (.lst xs)) (ne : l ≠ P) (pen : Pen H P L ns s g) (s0 : s ≤ 100000)
    (k : ∀ (v : V) (s' : Nat) (g' : Int) (H' : Hp), v ∈ xs → s' ≤ s + 1 → But P H H' → Pen H' P L ns s' g' → Q v H') :
    tPick K { nx := fun _ H' => Q .non H', rt := Q } [some (.ref P), some (.ref l)] H := by
  have pos : 0 < xs.length := List.length_pos_iff.mpr x0
  refine ⟨_, rfl, _, rfl, _, rfl, _, xs, rfl, .inl (sq_of hl), P, L, ns, s, g, (xs.length : Int), rfl, by omega, by omega, pen, s0, fun d s' g' H' hd hs but pen' => ?_⟩
  have hd' : d < xs.length := by omega
  exact ⟨l, xs, d, xs[d], rfl, rfl, sq_of (but _ _ ne hl), atI_nat (List.getElem?_eq_getElem hd'), k _ s' g' H' (List.getElem_mem hd') hs but pen'⟩
end KU

set_option Elab.async false
set_option linter.all false
set_option maxRecDepth 100000
set_option maxHeartbeats 4000000
/-! texts' maths, walks over signs, tables; is_swap, exchanged -/
namespace K02
open PySem PySem.Spec PyProof.Rows L2 Evl KU
/-! ### maths of texts -/
def signsL (al : Str) : List Str := al.cps.toList.map fun c => ⟨#[c]⟩
def Over (al t : Str) : Prop := ∀ c ∈ t.cps.toList, c ∈ al.cps.toList
def IsSL (ws : List Str) : V → Hp → Prop := fun v H => ∃ p, v = .ref p ∧ H p = some (.lst (ws.map V.str))
theorem up_isSL (ws : List Str) : Up (IsSL ws) := fun v H H' x ⟨p, e, h⟩ => ⟨p, e, x _ _ h⟩
abbrev rJoin (K : PySem.W.Frag) : V → List V → Hp → VK → Prop := fun x xs H Q => ∃ a p, ∃ ys : List Str, x = .str a ∧ xs = [.ref p] ∧ (SqL K H p (ys.map V.str) ∨ SqT K H p (ys.map V.str)) ∧ (ys.map (·.length)).sum + ys.length * a.length ≤ 16777216 ∧ Q (.str (Txt.join a ys)) H
theorem len_cps (w : Str) : w.cps.toList.length = w.length := by
  rw [Array.length_toList]
  rfl

theorem str_eq {a b : Str} (h : a.cps.toList = b.cps.toList) : a = b := by
  cases a
  cases b
  exact congrArg Str.mk (Array.toList_inj.mp h)

def strOf (l : List Nat) : Str := ⟨l.toArray⟩
theorem strOf_cps (l : List Nat) : (strOf l).cps.toList = l := rfl

theorem cat_cps (a b : Str) : (a ++ b).cps.toList = a.cps.toList ++ b.cps.toList := by
  show (a.cps ++ b.cps).toList = _
  rw [Array.toList_append]

theorem pre_iff : ∀ a b : List Nat, TL.pre a b = true ↔ a <+: b
  | [], b => by simp [TL.pre]
  | _ :: _, [] => by simp [TL.pre]
  | x :: r, y :: t => by
    have ih := pre_iff r t
    rw [List.cons_prefix_cons, ← ih]
    simp [TL.pre]
    intro _
    exact eq_comm
theorem sum_bound (f : Str → Nat) (b : Nat) : ∀ l : List Str, (∀ t ∈ l, f t ≤ b) → (l.map f).sum ≤ b * l.length
  | [], _ => Nat.zero_le _
  | a :: r, h => by
    have z := sum_bound f b r fun t ht => h t (List.mem_cons_of_mem _ ht)
    have y := h a List.mem_cons_self
    rw [List.map_cons, List.sum_cons, List.length_cons, Nat.mul_add]
    omega
theorem inS_iff {w t : Str} (hw : w.cps.toList ≠ []) : inS w t = true ↔ w.cps.toList <:+: t.cps.toList := by
  have h := StrLaws.occ_head t w 1 (Nat.le_refl _)
  have ai := TL.at_iff (x := t) (y := w) hw
  unfold inS
  constructor
  · intro z
    rcases h with ⟨e, _⟩ | ⟨i, r, e, at_, _⟩
    · rw [e] at z
      cases z
    · have p := (pre_iff _ _).mp ((ai i).mp at_)
      exact p.isInfix.trans (List.drop_suffix i _).isInfix
  · intro z
    rcases h with ⟨e, no⟩ | ⟨i, r, e, at_, _⟩
    · obtain ⟨p, q, e2⟩ := z
      refine absurd ((ai p.length).mpr ((pre_iff _ _).mpr ?_)) (no p.length)
      show w.cps.toList <+: List.drop p.length t.cps.toList
      rw [← e2, List.append_assoc, List.drop_left]
      exact List.prefix_append _ _
    · rw [e]
      rfl
/-- a text that is not empty -/
def Full (w : Str) : Prop := w.cps.toList ≠ []

section
variable {K : PySem.W.Frag} {σ : L2.St} {H : Hp} {te tl ta tb tc : TE} {ws us : List Str} {j : Nat} {vs : List Nat}

theorem walk_signsG {z : Str} : Walk (Its z) ((signsL z).map V.str).length (fun _ => True) (YAt ((signsL z).map V.str)) := by
  have l : ((signsL z).map V.str).length = z.cps.size := by
    rw [List.length_map, signsL, List.length_map]
    rfl
  rw [l]
  refine walk_str.mono (fun _ h => h) fun i H3 x H4 hi h y => ⟨y.1, ?_⟩
  obtain ⟨_, c, e, rfl⟩ := y
  unfold signsL
  rw [List.map_map, List.getElem?_map, Array.getElem?_toList, e]
  rfl
/-- the signs of a text, some of them -/
theorem el_signsF {z : Str} {tt : TT} (p : Str → Bool) (hx : Ev tl σ H (.str z)) (hl : z.length ≤ 40000) (hw : ∀ x : V, wipe ((wipe σ vs).set j (some x)) vs = wipe σ vs)
    (ht : ∀ (c : Str) (H1 : Hp), Ex H H1 → c ∈ signsL z → EvT tt ((wipe σ vs).set j (some (.str c))) H1 (p c))
    (he : ∀ (c : Str) (H1 : Hp), Ex H H1 → c ∈ signsL z → Ev te ((wipe σ vs).set j (some (.str c))) H1 (.str c)) : EvL (tLc (iStr tl) (gName j) tt te vs) σ H (((signsL z).filter p).map V.str) := by
  have e := given_fm ((signsL z).map V.str) (onSB p) (onS V.str)
  rw [fm_str] at e
  rw [← e]
  intro H1 x1 Q q
  refine hx H1 x1 _ fun H2 x2 => ⟨z, rfl, fun D hD => ?_⟩
  have ll : ((signsL z).map V.str).length = z.length := by
    rw [List.length_map, signsL, List.length_map]
    rfl
  refine lc_cw walk_signsG (fun _ _ => trivial) (by rw [ll]; exact hl) _ _ hw (fun i x H3 x3 e => ?_) (fun i x H3 x3 e _ => ?_) (x1.trans x2) hD fun p H3 hp x3 e => q p H3 (fresh_back x2 hp) (x2.trans x3) e
  · rw [e]
    obtain ⟨c, mc, rfl⟩ := List.mem_map.mp (List.mem_of_getElem? e)
    exact ht c H3 x3 mc
  · rw [e]
    obtain ⟨c, mc, rfl⟩ := List.mem_map.mp (List.mem_of_getElem? e)
    exact he c H3 x3 mc

theorem ev_join {s : Str} (h : EvP te σ H (IsSL ws)) (small : (ws.map (·.length)).sum + ws.length * s.length ≤ 16777216) : Ev (tM1 (rJoin K) (tC (.str s)) te) σ H (.str (Txt.join s ws)) := fun H1 x1 Q q =>
  ⟨⟨s, rfl⟩, h H1 x1 _ fun v H2 x2 ⟨p, e, hp⟩ => by
    subst e
    exact ⟨s, p, ws, rfl, rfl, .inl (sq_of hp), small, q H2 x2⟩⟩

theorem es_lst {ta : TA} (h : EvA ta σ H (ws.map V.str)) (few : ws.length ≤ 100000) : EvP (tLst ta) σ H (IsSL ws) := fun H1 x1 Q q => el_lst h (by rw [List.length_map]; exact few) H1 x1 Q fun p H2 hp x2 e => q _ H2 x2 ⟨p, rfl, e⟩
theorem es_var {i : Nat} {p : Addr} (e : σ[i]? = some (some (.ref p))) (h : H p = some (.lst (ws.map V.str))) : EvP (tVar i) σ H (IsSL ws) := fun H1 x1 Q q => ⟨_, e, q _ H1 (Ex.refl _) ⟨p, rfl, x1 _ _ h⟩⟩
theorem es_cat (ha : EvP ta σ H (IsSL ws)) (hb : EvP tb σ H (IsSL us)) (few : ws.length + us.length ≤ 100000) : EvP (tOp rCat ta tb) σ H (IsSL (ws ++ us)) := fun H1 x1 Q q =>
  ha H1 x1 _ fun v H2 x2 a => hb H2 (x1.trans x2) _ fun w H3 x3 ⟨m, ew, hm⟩ => by
    obtain ⟨l, ev, hl⟩ := up_isSL ws v _ _ x3 a
    subst ev ew
    exact ⟨l, m, _, _, rfl, rfl, hl, hm, by rw [List.length_map, List.length_map]; exact sz_of few, fun p hp => q _ _ ((x2.trans x3).trans (Ex.new hp)) ⟨p, rfl, by rw [upd_same, List.map_append]⟩⟩

end

abbrev nSwap : List Str := ["table", "signs", "pairs", "key", "value", "_"]
def spSwap (K : PySem.W.Frag) : Sp := fun vs H Q _ => ∃ (v : V) (al : Str) (b : Bool), vs = [v, .str al] ∧ Tabl K H al v b ∧ RetV (.bl b) H Q

theorem paired_map {α β γ : Type} {F : α → γ → Prop} {g : β → γ} : ∀ {xs : List α} {ys : List β}, Paired (fun a b => F a (g b)) xs ys → Paired F xs (ys.map g)
  | _, _, .nil => .nil
  | _, _, .cons h t => .cons h (paired_map t)
theorem paired_imp {α β : Type} {F G : α → β → Prop} : ∀ {xs : List α} {ys : List β}, Paired F xs ys → (∀ a b, F a b → G a b) → Paired G xs ys
  | _, _, .nil, _ => .nil
  | _, _, .cons h t, i => .cons (i _ _ h) (paired_imp t i)
theorem ev_allB {K : PySem.W.Frag} {σ : L2.St} {H : Hp} {tl : TE} {α : Type} {ks : List α} {p : α → Bool} (h : EvL tl σ H (ks.map fun q => V.bl (p q))) : Ev (tCB (rAll K) (tCons tl tNil)) σ H (.bl (ks.all p)) := by
  have z := ev_allN (K := K) (bs := ks.map p) (by rw [List.map_map]; exact h)
  rw [List.all_map] at z
  exact z
section
variable {P : Program} {w : World} {K : PySem.W.Frag} {mg : Str → Option Value} {base : Heap}
end

def xS (f : Nat → Nat) (t : Str) : Str := ⟨(t.cps.toList.map f).toArray⟩
theorem x_cps (f : Nat → Nat) (t : Str) : (xS f t).cps.toList = t.cps.toList.map f := rfl
theorem x_len (f : Nat → Nat) (t : Str) : (xS f t).length = t.length := by rw [← len_cps, x_cps, List.length_map, len_cps]

/-- an exchange, as a table tells it -/
def kvC (ps : List (Nat × Nat)) : List (Str × V) := ps.map fun p => (⟨#[p.1]⟩, V.str ⟨#[p.2]⟩)
def fch (ps : List (Nat × Nat)) (c : Nat) : Nat := ((ps.find? fun p => p.1 == c).map (·.2)).getD 0
theorem val_ch {ps : List (Nat × Nat)} {c : Nat} (h : c ∈ ps.map (·.1)) : valV (kvG (kvC ps)) (Sum.inr ⟨#[c]⟩) = some (V.str ⟨#[fch ps c]⟩) := by
  unfold kvG kvC
  rw [List.map_map]
  induction ps with
  | nil => cases h
  | cons p r ih =>
    rw [List.map_cons]
    by_cases e : p.1 = c
    · rw [valV_pos (by show (Sum.inr ⟨#[p.1]⟩ : Key) = _; rw [e])]
      unfold fch
      rw [List.find?_cons, e]
      simp
    · rw [valV_neg (by
        intro z
        have z' : (⟨#[p.1]⟩ : Str) = ⟨#[c]⟩ := Sum.inr.inj z
        have := congrArg (fun t : Str => t.cps.toList) z'
        simp at this
        exact e this)]
      have hr : c ∈ r.map (·.1) := by
        rcases List.mem_cons.mp h with z | z
        · exact absurd z.symm e
        · exact z
      rw [ih hr]
      unfold fch
      rw [List.find?_cons]
      have : (p.1 == c) = false := by simpa using e
      rw [this]
def spExd : Sp := fun vs H Q _ => ∃ (t : Str) (p : Addr) (ps : List (Nat × Nat)), vs = [.str t, .ref p] ∧ H p = some (.dK (kvG (kvC ps))) ∧ t.length ≤ 1000 ∧ (∀ c ∈ t.cps.toList, c ∈ ps.map (·.1)) ∧ RetV (.str (xS (fch ps) t)) H Q
theorem join_one (l : List Nat) : Txt.join "" (l.map fun c => (⟨#[c]⟩ : Str)) = ⟨l.toArray⟩ := by
  refine SJ.s_ext ?_
  show (List.foldl (fun (acc : Array Nat) (p : Str) => acc ++ (#[] : Array Nat) ++ p.cps) ((l.map fun c => (⟨#[c]⟩ : Str)).headD Str.empty).cps (List.drop 1 (l.map fun c => (⟨#[c]⟩ : Str)))).toList = l
  rw [SJ.fold_cps]
  cases l with
  | nil => rfl
  | cons c r =>
    rw [List.map_cons, List.headD_cons, List.drop_succ_cons, List.drop_zero]
    have : ∀ r : List Nat, ((r.map fun c => (⟨#[c]⟩ : Str)).flatMap fun p => (#[] : Array Nat).toList ++ p.cps.toList) = r := fun r => by
      induction r with
      | nil => rfl
      | cons d s ih =>
        rw [List.map_cons, List.flatMap_cons, ih]
        rfl
    rw [this]
    rfl
section
variable {K : PySem.W.Frag} {σ : L2.St} {H : Hp} {te tl : TE} {j : Nat} {vs : List Nat}
theorem el_signsM {z : Str} (φ : Str → V) (hx : Ev tl σ H (.str z)) (hl : z.length ≤ 40000) (hw : ∀ x : V, wipe ((wipe σ vs).set j (some x)) vs = wipe σ vs)
    (he : ∀ (c : Str) (H1 : Hp), Ex H H1 → c ∈ signsL z → Ev te ((wipe σ vs).set j (some (.str c))) H1 (φ c)) : EvL (tLc (iStr tl) (gName j) tYes te vs) σ H ((signsL z).map φ) := by
  have e := given_fm ((signsL z).map V.str) (fun _ => true) (onS φ)
  rw [all_str, List.map_map] at e
  have e2 : List.map (onS φ ∘ V.str) (signsL z) = (signsL z).map φ := rfl
  rw [e2] at e
  have e3 : given ((signsL z).map V.str).length (fun i => orNo (fun _ => true) ((signsL z).map V.str)[i]?) (fun i => orNon (onS φ) ((signsL z).map V.str)[i]?) = given ((signsL z).map V.str).length (fun _ => true) (fun i => orNon (onS φ) ((signsL z).map V.str)[i]?) := by
    unfold given
    refine congrArg (List.map _) (List.filter_congr fun i hi => ?_)
    rw [List.getElem?_eq_getElem (List.mem_range.mp hi)]
    rfl
  rw [← e, e3]
  intro H1 x1 Q q
  refine hx H1 x1 _ fun H2 x2 => ⟨z, rfl, fun D hD => ?_⟩
  have ll : ((signsL z).map V.str).length = z.length := by
    rw [List.length_map, signsL, List.length_map]
    rfl
  refine lc_cw walk_signsG (fun _ _ => trivial) (by rw [ll]; exact hl) _ _ hw (fun i x H3 x3 _ => et_yes) (fun i x H3 x3 e _ => ?_) (x1.trans x2) hD fun p H3 hp x3 e => q p H3 (fresh_back x2 hp) (x2.trans x3) e
  rw [e]
  obtain ⟨c, mc, rfl⟩ := List.mem_map.mp (List.mem_of_getElem? e)
  exact he c H3 x3 mc
theorem ev_joinL {s : Str} {ws : List Str} (h : EvL te σ H (ws.map V.str)) (small : (ws.map (·.length)).sum + ws.length * s.length ≤ 16777216) : Ev (tM1 (rJoin K) (tC (.str s)) te) σ H (.str (Txt.join s ws)) :=
  ev_join (fun H1 x1 Q q => h H1 x1 Q fun p H2 hp x2 e => q _ H2 x2 ⟨p, rfl, e⟩) small
theorem ev_dget {p : Addr} {kvs : List (Key × V)} {k : Key} {v : V} {ta tb : TE} (ha : Ev ta σ H (.ref p)) (hb : Ev tb σ H (kV k)) (hp : H p = some (.dK kvs)) (hv : valV kvs k = some v) : Ev (tDGet ta tb) σ H v := fun H1 x1 Q q =>
  ha H1 x1 _ fun H2 x2 => hb H2 (x1.trans x2) _ fun H3 x3 => ⟨p, v, rfl, by
    have g := DGet.k (k := k) ((x1.trans (x2.trans x3)) _ _ hp)
    rw [hv] at g
    exact g, q H3 (x2.trans x3)⟩
/-- the signs of a text, exchanged and joined -/
theorem ev_xch {p : Addr} {ps : List (Nat × Nat)} {t : Str} {a j : Nat} (ht : Ev tl σ H (.str t)) (hp : H p = some (.dK (kvG (kvC ps)))) (tlen : t.length ≤ 1000) (hc : ∀ c ∈ t.cps.toList, c ∈ ps.map (·.1)) (hw : ∀ x : V, wipe ((wipe σ vs).set j (some x)) vs = wipe σ vs)
    (hj : ∀ x : V, ((wipe σ vs).set j (some x))[j]? = some (some x)) (ha : ∀ x : V, ((wipe σ vs).set j (some x))[a]? = some (some (.ref p))) : Ev (tM1 (rJoin K) (tC (.str "")) (tLc (iStr tl) (gName j) tYes (tDGet (tVar a) (tVar j)) vs)) σ H (.str (xS (fch ps) t)) := by
  have z := el_signsM (te := tDGet (tVar a) (tVar j)) (j := j) (vs := vs) (fun c => .str ⟨#[fch ps (c.cps.toList.headD 0)]⟩) ht (by omega) hw (fun c H1 x1 mc => by
    obtain ⟨d, hd, rfl⟩ := List.mem_map.mp mc
    exact ev_dget (k := Sum.inr ⟨#[d]⟩) (ev_var (ha _)) (ev_var (hj _)) (x1 _ _ hp) (val_ch (hc d hd)))
  have e : (signsL t).map (fun c => V.str ⟨#[fch ps (c.cps.toList.headD 0)]⟩) = ((t.cps.toList.map (fch ps)).map fun c => (⟨#[c]⟩ : Str)).map V.str := by
    unfold signsL
    rw [List.map_map, List.map_map, List.map_map]
    rfl
  rw [e] at z
  have ll := len_cps t
  have y := ev_joinL (K := K) (s := "") z (by
    have s1 := sum_bound (fun w => w.length) 1 ((t.cps.toList.map (fch ps)).map fun c => (⟨#[c]⟩ : Str)) fun w hw => by
      obtain ⟨c, _, rfl⟩ := List.mem_map.mp hw
      exact Nat.le_refl 1
    rw [List.length_map, List.length_map, ll] at s1 ⊢
    have s2 : (((t.cps.toList.map (fch ps)).map fun c => (⟨#[c]⟩ : Str)).map (·.length)).sum ≤ 1 * t.length := s1
    have : ("" : Str).length = 0 := rfl
    rw [this]
    omega)
  rw [join_one] at y
  exact y
end
section
variable {P : Program} {w : World} {K : PySem.W.Frag} {mg : Str → Option Value} {base : Heap}
end

end K02

set_option Elab.async false
set_option linter.all false
set_option maxRecDepth 100000
set_option maxHeartbeats 4000000
/-! The draws of these rows: draw, pick (of a list, of a text), pen, mixed -/
namespace K02
open PySem PySem.Spec PyProof.Rows L2 Evl KU
section
variable {P : Program} {w : World} {K : PySem.W.Frag} {mg : Str → Option Value} {base : Heap}
theorem scDraw : FnScope ["_law_pen_here", "_law_many", "_law_digit", "_law_lap", "_law_cell", "_law_great", "_law_stir"] ["_law_pen_here", "_law_many"] (defScope sDraw) :=
  ⟨rfl, rfl, rfl, by decide +kernel, rfl, by decide +kernel, by decide +kernel⟩
theorem ok_draw {f : Addr} {fd : FuncData} (F : Fun K "_law_draw" "_law_draw" sDraw f fd) (T : Free mg) : FnOk P w K mg base CX0 1 f fd ["_law_pen_here", "_law_many"] spDraw := by
  refine F.ok scDraw (fun vs H Q E h => ?_) (fun cdv A outer s H vs Q E hr h => ?_)
  · obtain ⟨_, _, _, _, _, _, rfl, _⟩ := h
    rfl
  · obtain ⟨P, L, ns, s, g, m, rfl, m0, m1, pen, s0, k⟩ := h
    have nd := scDraw.nd
    refine ⟨_, (pss_cons (ps_if (pt_cmpR op_gt (pe_ix ix_list (pv 0) pe_int (fun _ _ => rfl)) pe_int (nomark _))
 (pss_cons (ps_set (i := 2) nd rfl (.inl rfl) (pe_op op_mod (pe_callTy call_int1 (by rfl) T.int (by decide +kernel) (pa_cons (pe_ix ix_list (pv 0) pe_int (fun _ _ => rfl)) pa_nil)) (pv 1)))
 (pss_cons (ps_asg (pe_op op_fdiv (pe_callTy call_int1 (by rfl) T.int (by decide +kernel) (pa_cons (pe_ix ix_list (pv 0) pe_int (fun _ _ => rfl)) pa_nil)) (pv 1)) (pg_sub (pv 0) pe_int set_list))
 (pss_one (ps_ret (pv 2)))))
 pss_nil)
 (pss_cons (ps_set (i := 3) nd rfl (.inl rfl) (pe_ix ix_list (pv 0) pe_int (fun _ _ => rfl)))
 (pss_cons (ps_asg (pe_op op_add (pv 3) pe_int) (pg_sub (pv 0) pe_int set_list))
 (pss_cons (ps_set (i := 4) nd rfl (.inl rfl) (pe_op op_add (pe_op op_mul pe_int (pv 3)) pe_int))
 (pss_cons (ps_if (pt_cmpR (op_neD hr.units) (pe_ix ix_list (pv 0) pe_int (fun _ _ => rfl)) (pe_lst pa_nil) (nomark _))
 (pss_one (ps_set (i := 4) nd rfl (.inl rfl) (pe_ix ix_list (pe_ix ix_list (pv 0) pe_int (fun _ _ => rfl)) (pe_op op_mod (pe_callTy call_int1 (by rfl) T.int (by decide +kernel) (pa_cons (pv 3) pa_nil)) (pe_callB call_len_seq (by rfl) T.len PySem.boot_len (pa_cons (pe_ix ix_list (pv 0) pe_int (fun _ _ => rfl)) pa_nil))) (fun _ _ => rfl))))
 pss_nil)
 (pss_cons (ps_if (PW.pt (pw_and (pt_cmpR op_lt (pv 3) (pe_callB call_len_seq (by rfl) T.len PySem.boot_len (pa_cons (pe_ix ix_list (pv 0) pe_int (fun _ _ => rfl)) pa_nil)) (nomark _)) (pw_and1 (pt_cmpR op_ge (pe_callB call_abs (by rfl) T.abs (by decide +kernel) (pa_cons (pv 4) pa_nil)) (pe_op op_pow pe_int pe_int) (nomark _)))))
 (pss_cons (ps_set (i := 5) nd rfl (.inl rfl) (pe_op op_add (pe_op op_mul pe_int (pe_op op_sub (pe_callB call_abs (by rfl) T.abs (by decide +kernel) (pa_cons (pv 4) pa_nil)) (pe_op op_pow pe_int pe_int))) (pe_callTy call_int1 (by rfl) T.int (by decide +kernel) (pa_cons (pe_cmpR op_lt (pv 4) pe_int (nomark _)) pa_nil))))
 (pss_cons (ps_asg (pe_op op_fdiv (pe_callTy call_int1 (by rfl) T.int (by decide +kernel) (pa_cons (pv 5) pa_nil)) (pv 1)) (pg_sub (pv 0) pe_int set_list))
 (pss_one (ps_ret (pe_op op_mod (pe_callTy call_int1 (by rfl) T.int (by decide +kernel) (pa_cons (pv 5) pa_nil)) (pv 1))))))
 pss_nil)
 (pss_cons (ps_set (i := 6) nd rfl (.inl rfl) (pe_op op_mod (pe_callTy call_int1 (by rfl) T.int (by decide +kernel) (pa_cons (pe_op op_pow (pe_op op_add (pe_op op_add (pe_op op_mod (pe_callTy call_int1 (by rfl) T.int (by decide +kernel) (pa_cons (pv 4) pa_nil)) pe_int) (pe_op op_mul pe_int (pv 3))) pe_int) pe_int) pa_nil)) pe_int))
 (pss_cons (ps_set (i := 6) nd rfl (.inl rfl) (pe_op op_mod (pe_callTy call_int1 (by rfl) T.int (by decide +kernel) (pa_cons (pe_op op_pow (pe_op op_add (pe_op op_add (pe_op op_mul (pv 6) (pe_op op_add (pe_op op_mul pe_int (pv 3)) pe_int)) (pe_op op_mul (pe_op op_mul pe_int (pv 3)) (pv 3))) pe_int) pe_int) pa_nil)) pe_int))
 (pss_one (ps_ret (pe_op op_mod (pe_callTy call_int1 (by rfl) T.int (by decide +kernel) (pa_cons (pe_op op_fdiv (pv 6) pe_int) pa_nil)) (pv 1)))))))))))), ?_⟩
    exact draw_reads (by decide) (by decide) (by decide) (by decide) (by decide) (by decide) (by decide) (by decide) (by decide) (by decide) m0 m1 pen s0 k
theorem scPick : FnScope ["_law_pen_here", "_law_some"] ["_law_pen_here", "_law_some"] (defScope sPick) := ⟨rfl, rfl, rfl, by decide +kernel, rfl, by decide +kernel, by decide +kernel⟩
structure Draws (K : PySem.W.Frag) (mg : Str → Option Value) (fD fP : Addr) : Prop extends Free mg where
  gDraw : mg "_law_draw" = some (.ref fD)
  kDraw : PySem.W.keepIn K (.ref fD) = true
  gPick : mg "_law_pick" = some (.ref fP)
  kPick : PySem.W.keepIn K (.ref fP) = true
theorem ok_pick {f fD : Addr} {fd fdD : FuncData} (F : Fun K "_law_pick" "_law_pick" sPick f fd) (T : Draws K mg fD f) (FD : Fun K "_law_draw" "_law_draw" sDraw fD fdD) (bD : Binds K fdD ["_law_pen_here", "_law_many"] []) :
    FnOk P w K mg base CX0 2 f fd ["_law_pen_here", "_law_some"] spPick := by
  have GD : FnOk P w K mg base CX0 1 fD fdD ["_law_pen_here", "_law_many"] spDraw := ok_draw FD T.toFree
  refine F.ok scPick (fun vs H Q E h => ?_) (fun cdv A outer s H vs Q E hr h => ?_)
  · obtain ⟨_, _, _, _, _, _, _, rfl, _⟩ := h
    rfl
  · obtain ⟨P, L, l, ns, xs, s, g, rfl, x0, xl, hl, ne, pen, s0, k⟩ := h
    have hr1 := hr
    refine ⟨_, (pss_one (ps_ret (pe_ix ix_list (pv 1) (pe_call GD hr1 (by rfl) T.gDraw T.kDraw bD .nil pass0 (pa_cons (pv 0) (pa_cons (pe_callB call_len_seq (by rfl) T.len PySem.boot_len (pa_cons (pv 1) pa_nil)) pa_nil))) (fun _ _ => rfl)))), ?_⟩
    exact pick_reads x0 xl hl ne pen s0 k
theorem scPen : FnScope ["_law_script"] ["_law_script"] (defScope sPen) := ⟨rfl, rfl, rfl, by decide +kernel, rfl, by decide +kernel, by decide +kernel⟩
theorem ok_pen {f : Addr} {fd : FuncData} (F : Fun K "_law_pen" "_law_pen" sPen f fd) (T : Free mg) : FnOk P w K mg base CX0 1 f fd ["_law_script"] (spPen K) := by
  refine F.ok scPen (fun vs H Q E h => ?_) (fun cdv A outer s H vs Q E hr h => ?_)
  · obtain ⟨_, _, rfl, _⟩ := h
    rfl
  · obtain ⟨a, ns, rfl, hS, hl, k⟩ := h
    refine ⟨_, (pss_one (ps_ret (pe_lst (pa_cons (pe_callTy call_list_of (by rfl) T.list (by decide +kernel) (pa_cons (pe_slice sl_list (pv 0) po_none (po_some pe_int)) pa_nil)) (pa_cons pe_int (pa_cons pe_int pa_nil)))))), ?_⟩
    exact pen_reads hS hl k
/-- a sign of a text -/
def spPickS : Sp := fun vs H Q _ => ∃ (P L : Addr) (ns : List Int) (z : Str) (s : Nat) (g : Int), vs = [.ref P, .str z] ∧ 0 < z.length ∧ z.length ≤ 1000 ∧ Pen H P L ns s g ∧ s ≤ 100000 ∧
  ∀ (c : Nat) (s' : Nat) (g' : Int) (H' : Hp), c ∈ z.cps.toList → s' ≤ s + 1 → But P H H' → Pen H' P L ns s' g' → Q (.str ⟨#[c]⟩) H'
theorem ok_pickS {f fD : Addr} {fd fdD : FuncData} (F : Fun K "_law_pick" "_law_pick" sPick f fd) (T : Draws K mg fD f) (FD : Fun K "_law_draw" "_law_draw" sDraw fD fdD) (bD : Binds K fdD ["_law_pen_here", "_law_many"] []) :
    FnOk P w K mg base CX0 2 f fd ["_law_pen_here", "_law_some"] spPickS := by
  have GD : FnOk P w K mg base CX0 1 fD fdD ["_law_pen_here", "_law_many"] spDraw := ok_draw FD T.toFree
  refine F.ok scPick (fun vs H Q E h => ?_) (fun cdv A outer s H vs Q E hr h => ?_)
  · obtain ⟨_, _, _, _, _, _, rfl, _⟩ := h
    rfl
  · obtain ⟨P, L, ns, z, s, g, rfl, z0, z1, pen, s0, k⟩ := h
    have hr1 := hr
    refine ⟨_, (pss_one (ps_ret (pe_ix (r := rIxS) (by exact ix_str) (pv 1) (pe_call GD hr1 (by rfl) T.gDraw T.kDraw bD .nil pass0 (pa_cons (pv 0) (pa_cons (pe_callB call_len_str (by rfl) T.len PySem.boot_len (pa_cons (pv 1) pa_nil)) pa_nil))) (fun _ _ => rfl)))), ?_⟩
    refine ⟨_, rfl, _, rfl, _, rfl, z, rfl, by rw [sizeLine_eq]; omega, P, L, ns, s, g, (z.length : Int), rfl, by omega, by omega, pen, s0, fun d s1 g1 H1 hd hs1 but1 pen1 => ?_⟩
    have dl : d < z.cps.toList.length := by
      rw [len_cps]
      omega
    exact ⟨z, (d : Int), z.cps.toList[d], rfl, rfl, by rw [sizeLine_eq]; omega, atI_nat (List.getElem?_eq_getElem dl), k _ s1 g1 H1 (List.getElem_mem dl) hs1 but1 pen1⟩
theorem perm_erase {α : Type} : ∀ {l : List α} {d : Nat} (h : d < l.length), (l[d] :: l.eraseIdx d).Perm l
  | a :: r, 0, _ => List.Perm.refl _
  | a :: r, d + 1, h => by
    have h' : d < r.length := by simpa using h
    show (r[d] :: a :: r.eraseIdx d).Perm (a :: r)
    exact (List.Perm.swap _ _ _).trans ((perm_erase h').cons a)
theorem map_erase {α β : Type} (f : α → β) : ∀ (l : List α) (d : Nat), (l.map f).eraseIdx d = (l.eraseIdx d).map f
  | [], _ => rfl
  | a :: r, 0 => rfl
  | a :: r, d + 1 => by
    show f a :: (r.map f).eraseIdx d = f a :: (r.eraseIdx d).map f
    rw [map_erase f r d]
theorem ev_neNil {K : PySem.W.Frag} {σ : L2.St} {H : Hp} {ta : TE} {p : Addr} {a : List Str} (ha : Ev ta σ H (.ref p)) (hp : H p = some (.lst (a.map V.str))) (o : ∀ t ∈ a, PyData.strOk t = true) : Ev (tOp (rNeD K) ta (tLst tNil)) σ H (.bl (!decide (a = []))) := fun H1 x1 Q q =>
  ha H1 x1 _ fun H2 x2 => ⟨by show 0 ≤ sizeLine; decide, fun l hl => by
    have x3 : Ex H2 (upd H2 l (.lst [])) := Ex.new hl
    exact rv_neL (a := a) (b := []) (x3 _ _ (x2 _ _ (x1 _ _ hp))) upd_same o (fun t ht => by cases ht) _ (Ex.refl _) Q fun H4 x4 => q H4 (x2.trans (x3.trans x4))⟩
/-- the texts, mixed -/
def spMixed : Sp := fun vs H Q _ => ∃ (P L : Addr) (ns : List Int) (s : Nat) (g : Int) (v : V) (zs : List Str), vs = [.ref P, v] ∧ ((∃ z : Str, v = .str z ∧ zs = signsL z) ∨ ∃ l, v = .ref l ∧ H l = some (.lst (zs.map V.str))) ∧ zs.length ≤ 1000 ∧ (∀ t ∈ zs, PyData.strOk t = true) ∧ Pen H P L ns s g ∧ s ≤ 90000 ∧
  ∀ (p : Addr) (ys : List Str) (s' : Nat) (g' : Int) (H' : Hp), ys.Perm zs → H p = none → s' ≤ s + zs.length → But P H H' → H' p = some (.lst (ys.map V.str)) → Pen H' P L ns s' g' → Q (.ref p) H'
abbrev nMixed : List Str := ["_law_pen_here", "_law_some", "_law_left", "_law_found"]
theorem scMixed : FnScope nMixed ["_law_pen_here", "_law_some"] (defScope sMixed) := ⟨rfl, rfl, rfl, by decide +kernel, rfl, by decide +kernel, by decide +kernel⟩
theorem ok_mixed {f fD fP : Addr} {fd fdD : FuncData} (F : Fun K "_law_mixed" "_law_mixed" sMixed f fd) (T : Draws K mg fD fP) (FD : Fun K "_law_draw" "_law_draw" sDraw fD fdD) (bD : Binds K fdD ["_law_pen_here", "_law_many"] []) :
    FnOk P w K mg base CX0 2 f fd ["_law_pen_here", "_law_some"] spMixed := by
  have GD : FnOk P w K mg base CX0 1 fD fdD ["_law_pen_here", "_law_many"] spDraw := ok_draw FD T.toFree
  refine F.ok scMixed (fun vs H Q E h => ?_) (fun cdv A outer s H vs Q E hr h => ?_)
  · obtain ⟨_, _, _, _, _, _, _, rfl, _⟩ := h
    rfl
  · obtain ⟨Pn, L, ns, s0, g0, v, zs, rfl, hv, zl, zok, pen, hs, k⟩ := h
    have nd := scMixed.nd
    -- from the list that is mixed on
    have go : ∀ (l p : Addr) (H2 : Hp), H l = none → H p = none → l ≠ p → Ex H H2 → H2 l = some (.lst (zs.map V.str)) → H2 p = some (.lst []) → ∀ D : L2.Ends, D.rt = Q →
        tSeq (tWhile (tTest (tOp (rNeD K) (tVar 2) (tLst tNil))) (tDrop (tBM K "list" rAppend (tVar 3) (tCons (tBM K "list" rPopAt (tVar 2) (tCons (tCall spDraw [] E0 (tCons (tVar 0) (tCons (tCB (rLenS K) (tCons (tVar 2) tNil)) tNil))) tNil)) tNil)))) (tRet (tVar 3)) D [some (.ref Pn), some v, some (.ref l), some (.ref p)] H2 := by
      intro l p H2 hl hp lp x2 el ep D hD
      have lP : l ≠ Pn := (ne_of_none pen.pen hl).symm
      have pP : p ≠ Pn := (ne_of_none pen.pen hp).symm
      have lL : l ≠ L := (ne_of_none pen.cells hl).symm
      have pL : p ≠ L := (ne_of_none pen.cells hp).symm
      refine q_while (fun m σ' H' => ∃ (qs ys : List Str) (s' : Nat) (g' : Int), σ' = [some (.ref Pn), some v, some (.ref l), some (.ref p)] ∧ qs.length = m ∧ (ys ++ qs).Perm zs ∧ H' l = some (.lst (qs.map V.str)) ∧ H' p = some (.lst (ys.map V.str)) ∧ (∀ b o, b ≠ Pn → H b = some o → H' b = some o) ∧ Pen H' Pn L ns s' g' ∧ s' ≤ s0 + ys.length)
        zs.length ⟨zs, [], s0, g0, rfl, rfl, List.Perm.refl _, el, ep, fun b o _ hb => x2 _ _ hb, pen.mono x2, Nat.le_refl _⟩ (fun m σ' H' q => ?_)
      obtain ⟨qs, ys, s', g', rfl, rfl, pm, el, ep, keep, pn, hs'⟩ := q
      have ql : qs.length + ys.length = zs.length := by
        have := pm.length_eq
        rw [List.length_append] at this
        omega
      refine ⟨!decide (qs = []), et_test (ev_neNil (ev_var rfl) el fun t ht => zok t (pm.mem_iff.mp (List.mem_append_right _ ht))), fun hb H1 x1 => ?_, fun hb H1 x1 => ?_⟩
      · have q0 : 0 < qs.length := by
          cases qs with
          | nil => simp at hb
          | cons a r => exact Nat.succ_pos _
        refine ⟨fun σ2 H2' => ∃ (qs' ys' : List Str) (s2 : Nat) (g2 : Int), σ2 = [some (.ref Pn), some v, some (.ref l), some (.ref p)] ∧ qs'.length + 1 = qs.length ∧ (ys' ++ qs').Perm zs ∧ H2' l = some (.lst (qs'.map V.str)) ∧ H2' p = some (.lst (ys'.map V.str)) ∧ (∀ b o, b ≠ Pn → H b = some o → H2' b = some o) ∧ Pen H2' Pn L ns s2 g2 ∧ s2 ≤ s0 + ys'.length, fun σ2 H2' q => ?_, ?_⟩
        · obtain ⟨qs', ys', s2, g2, e1, e2, e3⟩ := q
          exact ⟨qs'.length, by omega, qs', ys', s2, g2, e1, rfl, e3⟩
        · refine ⟨_, rfl, .inl ⟨rfl, _, sq_of (x1 _ _ ep)⟩, ?_⟩
          refine (?_ : tBM K "list" rPopAt (tVar 2) (tCons (tCall spDraw [] E0 (tCons (tVar 0) (tCons (tCB (rLenS K) (tCons (tVar 2) tNil)) tNil))) tNil) _ H1 _)
          refine ⟨_, rfl, .inl ⟨rfl, _, sq_of (x1 _ _ el)⟩, ?_⟩
          refine (?_ : tCall _ _ _ _ _ H1 _)
          refine ⟨_, rfl, ?_⟩
          refine (?_ : tCons _ _ _ H1 _)
          refine (ev_len (K := K) (ev_var (i := 2) rfl) (sq_of (x1 _ _ el))) H1 (Ex.refl _) _ fun H4 x4 => ?_
          rw [List.length_map]
          have pn4 := (pn.mono x1).mono x4
          refine ⟨Pn, L, ns, s', g', (qs.length : Int), rfl, by omega, by omega, pn4, by omega, fun d s4 g4 H5 hd hs4 but5 pen5 => ?_⟩
          have dl : d < qs.length := by omega
          have el5 := but5 _ _ lP (x4 _ _ (x1 _ _ el))
          have ep5 := but5 _ _ pP (x4 _ _ (x1 _ _ ep))
          refine ⟨l, qs.map V.str, (d : Int), d, .str qs[d], rfl, rfl, el5, by omega, by omega, ?_, ?_, ?_⟩
          · rw [List.length_map]
            exact seqIndex_of (by omega) (by omega)
          · rw [List.getElem?_map, List.getElem?_eq_getElem dl]
            rfl
          · refine ⟨p, ys.map V.str, .str qs[d], rfl, rfl, by rw [upd_ne lp.symm]; exact ep5, by rw [List.length_map, sizeLine_eq]; omega, ?_⟩
            refine ⟨qs.eraseIdx d, ys ++ [qs[d]], s4, g4, rfl, by rw [List.length_eraseIdx_of_lt dl]; omega, ?_, ?_, ?_, fun b o nb hb => ?_, ⟨?_, ?_, pen5.ne, pen5.few, pen5.left⟩, by rw [List.length_append]; show _ ≤ s0 + (_ + 1); omega⟩
            · rw [List.append_assoc]
              exact (List.Perm.append_left _ (perm_erase dl)).trans pm
            · rw [upd_ne lp, upd_same]
              exact congrArg (fun z => some (HO.lst z)) (map_erase _ _ _)
            · rw [upd_same, List.map_append]
              rfl
            · rw [upd_ne (ne_of_none hb hp), upd_ne (ne_of_none hb hl)]
              exact but5 _ _ nb (x4 _ _ (x1 _ _ (keep b o nb hb)))
            · rw [upd_ne pP.symm, upd_ne lP.symm]
              exact pen5.pen
            · rw [upd_ne pL.symm, upd_ne lL.symm]
              exact pen5.cells
      · have q0 : qs = [] := by
          cases qs with
          | nil => rfl
          | cons a r => simp at hb
        subst q0
        rw [List.append_nil] at pm
        refine s_ret (ev_var rfl) fun H4 x4 => ?_
        rw [hD]
        exact k p ys s' g' H4 pm hp (by have := pm.length_eq; omega) (fun b o nb hb => x4 _ _ (x1 _ _ (keep b o nb hb))) (x4 _ _ (x1 _ _ ep)) ((pn.mono x1).mono x4)
    rcases hv with ⟨z, rfl, rfl⟩ | ⟨l0, rfl, hl0⟩
    · refine ⟨_, pss_cons (ps_par (i := 2) (j := 3) (by rfl) nd rfl rfl (by decide) rfl rfl (pa_cons (pe_callTy (call_listS rfl) (by rfl) T.list (by decide +kernel) (pa_cons (pv 1) pa_nil)) (pa_cons (pe_lst pa_nil) pa_nil)) (by rfl))
        (pss_cons (ps_while PassesOwn.never (pt_cmpR (r := rNeD K) (by exact op_neD hr.units) (pv 2) (pe_lst pa_nil) (nomark _)) (pss_one (ps_expr (pe_bm PySem.F.plainAttrs_list PySem.F.slot_list_append PySem.F.type_list_append mt_append (pv 3) (pa_cons (pe_bm PySem.F.plainAttrs_list PySem.F.slot_list_pop PySem.F.type_list_pop mt_popAt (pv 2) (pa_cons (pe_call GD hr (by rfl) T.gDraw T.kDraw bD .nil pass0 (pa_cons (pv 0) (pa_cons (pe_callB call_len_seq (by rfl) T.len PySem.boot_len (pa_cons (pv 2) pa_nil)) pa_nil))) pa_nil)) pa_nil)))))
        (pss_one (ps_ret (pv 3)))), ?_⟩
      have lz := len_cps z
      have lS : (signsL z).length = z.length := by
        unfold signsL
        rw [List.length_map]
        exact lz
      refine ⟨_, rfl, z, rfl, by omega, fun l hl => ?_⟩
      refine (?_ : tCons _ _ _ _ _)
      refine ⟨by show 0 ≤ sizeLine; decide, fun p hp => ⟨_, _, rfl, ?_⟩⟩
      have x1 : Ex H (upd H l (.lst (signsV z))) := Ex.new hl
      have x2 : Ex (upd H l (.lst (signsV z))) (upd (upd H l (.lst (signsV z))) p (.lst [])) := Ex.new hp
      have e1 : upd H l (.lst (signsV z)) l = some (.lst ((signsL z).map V.str)) := by
        rw [upd_same]
        unfold signsV signsL
        rw [List.map_map]
        rfl
      exact go l p _ hl (fresh_back x1 hp) (ne_of_none e1 hp) (x1.trans x2) (x2 _ _ e1) upd_same _ rfl
    · refine ⟨_, pss_cons (ps_par (i := 2) (j := 3) (by rfl) nd rfl rfl (by decide) rfl rfl (pa_cons (pe_callTy call_list_of (by rfl) T.list (by decide +kernel) (pa_cons (pv 1) pa_nil)) (pa_cons (pe_lst pa_nil) pa_nil)) (by rfl))
        (pss_cons (ps_while PassesOwn.never (pt_cmpR (r := rNeD K) (by exact op_neD hr.units) (pv 2) (pe_lst pa_nil) (nomark _)) (pss_one (ps_expr (pe_bm PySem.F.plainAttrs_list PySem.F.slot_list_append PySem.F.type_list_append mt_append (pv 3) (pa_cons (pe_bm PySem.F.plainAttrs_list PySem.F.slot_list_pop PySem.F.type_list_pop mt_popAt (pv 2) (pa_cons (pe_call GD hr (by rfl) T.gDraw T.kDraw bD .nil pass0 (pa_cons (pv 0) (pa_cons (pe_callB call_len_seq (by rfl) T.len PySem.boot_len (pa_cons (pv 2) pa_nil)) pa_nil))) pa_nil)) pa_nil)))))
        (pss_one (ps_ret (pv 3)))), ?_⟩
      refine ⟨_, rfl, l0, _, rfl, .inl (sq_of hl0), fun l hl => ?_⟩
      refine (?_ : tCons _ _ _ _ _)
      refine ⟨by show 0 ≤ sizeLine; decide, fun p hp => ⟨_, _, rfl, ?_⟩⟩
      have x1 : Ex H (upd H l (.lst (zs.map V.str))) := Ex.new hl
      have x2 : Ex (upd H l (.lst (zs.map V.str))) (upd (upd H l (.lst (zs.map V.str))) p (.lst [])) := Ex.new hp
      have e1 : upd H l (.lst (zs.map V.str)) l = some (.lst (zs.map V.str)) := upd_same
      exact go l p _ hl (fresh_back x1 hp) (ne_of_none e1 hp) (x1.trans x2) (x2 _ _ e1) upd_same _ rfl
end
end K02

set_option Elab.async false
set_option linter.all false
set_option maxRecDepth 100000
set_option maxHeartbeats 4000000
/-! text[::-1], ~ of an own instance, op= without an own in-place def -/
namespace KU
open PySem PySem.Spec PyProof.Rows L2 Evl
/-- a text turned -/
def revS (t : Str) : Str := ⟨t.cps.toList.reverse.toArray⟩
theorem rev_cps (t : Str) : (revS t).cps.toList = t.cps.toList.reverse := by simp [revS]
theorem rev_len (t : Str) : (revS t).length = t.length := by
  show (revS t).cps.size = t.cps.size
  rw [← Array.length_toList, rev_cps, List.length_reverse, Array.length_toList]
theorem rev_made (x : Str) (t u : Tok) : sliceMade x t none none (some (-1, u)) = .str (revS x) := by
  have h1 : ¬ (((((some ((-1 : Int), u)).map (·.1)).getD 1 == 1) && ((slicePicked x none none (some (-1, u))).length == x.length)) = true) := by
    have : ((((some ((-1 : Int), u)).map (·.1)).getD 1 == 1)) = false := rfl
    rw [this]
    simp
  unfold sliceMade
  rw [if_neg h1]
  show Made.str ⟨((Builtin.Str.strSliceIndices none none (-1) x.length).filterMap (x.cps[·]?)).toArray⟩ = _
  rw [picked_rev, PySem.W.krv_range, List.filterMap_reverse]
  have e := PySem.W.krv_all x.cps
  show Made.str ⟨((List.range x.cps.size).filterMap (x.cps[·]?)).reverse.toArray⟩ = _
  rw [e]
  rfl
section
variable {X : Cx}
def tRevT (te : TE) : TE := fun σ H Q => te σ H fun x H1 => ∃ t : Str, x = .str t ∧ t.length ≤ sizeLine ∧ Q (.str (revS t)) H1
theorem pe_revT {e : Expr} {te : TE} {k : Nat} {p1 p2 p3 pos : Pos} (he : PE X e te) : PE X (.Subscript e (.Slice none none (some (.UnaryOp .USub (.Constant (.int 1) k p1) p2)) p3) pos) (tRevT te) := by
  refine ⟨fun pins s σ H Q I h => ?_⟩
  refine Subscript_ (thn (he.run pins s σ H _ I h) fun v s1 ⟨x, H1, I1, r1, q1⟩ => ?_)
  obtain ⟨t, ex, hz, q⟩ := q1
  subst ex
  obtain ⟨tk, rfl⟩ := r1
  have hst : PO X (some (.UnaryOp .USub (.Constant (.int 1) k p1) p2)) (tPart (tUn (rU fun i => .int (-i)) (tC (.int 1)))) := po_some (pe_un un_neg pe_int)
  refine wpAny_Slice (thn (po_none.run pins s1 σ H1 (fun o H2 => o = none ∧ H2 = H1) I1 ⟨rfl, rfl⟩) fun vl s2 ⟨l, H2, I2, pl, el, e2⟩ => ?_)
  subst el e2
  refine thn (po_none.run pins s2 σ H2 (fun o H3 => o = none ∧ H3 = H2) I2 ⟨rfl, rfl⟩) fun vu s3 ⟨u, H3, I3, pu, eu, e3⟩ => ?_
  subst eu e3
  refine thn (hst.run pins s3 σ H3 (fun o H4 => o = some (-1) ∧ H4 = H3) I3 ⟨1, rfl, -1, rfl, rfl, rfl⟩) fun vs s4 ⟨o, H4, I4, ps, eo, e4⟩ => ?_
  subst eo e4
  have I5 : Inv X pins σ H4 { s4 with heap := s4.heap.push { cls := .type "slice", data := .fields #[vl, vu, vs] } } := I4.kept (t' := s4.toks) fun b ob q => Heap.get?_push_of_some _ q
  obtain ⟨l', el, e1⟩ := IsPart.raw pl
  obtain ⟨u', eu, e2⟩ := IsPart.raw pu
  obtain ⟨st', es, e3⟩ := IsPart.raw ps
  have l0 : l' = none := by
    cases l' with
    | none => rfl
    | some z => cases e1
  have u0 : u' = none := by
    cases u' with
    | none => rfl
    | some z => cases e2
  obtain ⟨tk2, s0⟩ : ∃ tk2, st' = some (-1, tk2) := by
    cases st' with
    | none => cases e3
    | some z =>
      obtain ⟨i, t2⟩ := z
      cases e3
      exact ⟨t2, rfl⟩
  subst l0 u0 s0
  refine tail_any (ops := [.str t tk, .ref s4.heap.objs.size]) (typeIs_str _ _ _) F.slot_str_getitem.lookup ?_ (by with_unfolding_all rfl)
  refine wpAny_getItem_str_slice (l := none) (u := none) (st := some (-1, tk2)) ⟨_, Heap.get?_push_size _ rfl, rfl, by rw [el, eu, es]⟩ rfl ?_
  rw [rev_made]
  exact ⟨by rw [rev_len]; exact hz, .str _, H4, I5.tok _, ⟨_, rfl⟩, q⟩
end
section
variable {X : Cx} {CX : CXT} {pins : List (Addr × Obj)} {C g : Addr} {n : Nat} {sp : Sp} {E : XK}
/-- an operator with one instance, by the own def -/
def rUnI (C : Addr) (sp : Sp) (E : XK) : V → Hp → VK → Prop := fun x H Q => ∃ (a dx : Addr) (fs : List (Str × V)), x = .ref a ∧ H a = some (.ins C dx fs) ∧ sp [x] H Q E
theorem un_invI (hs : PySem.W.findIn X.K (.ref C) "__invert__" = some (some (.ref g))) (hf : PySem.W.isFn X.K (.ref g) = true)
    (F : FnR X.prog X.w X.K X.mg X.base CX n g sp) (hr : Room n X.A) (hx : Passes CX X E) : UnR X (unaryOp .Invert) (rUnI C sp E) := by
  intro pins s σ H x u Q I rx h
  obtain ⟨a, dx, fs, rfl, ha, q⟩ := h
  obtain rfl : u = Value.ref a := rx
  obtain ⟨od, Ja⟩ := ins_at I ha
  obtain ⟨m, fr⟩ := I.fr
  refine PySem.W.ksp_inv fr I.ok.mod.kin Ja hs hf ?_
  exact own_call F hr I.env0 hx I (vs := [.ref a]) (.cons rfl .nil) q
end
/-- no class of C's order has an own in-place def -/
def noInB (K : PySem.W.Frag) (C : Addr) (nm : String) : Bool := match PySem.W.clsIn K C with
  | some cd => cd.mro.all fun c => PySem.W.findIn K c (dunderI nm) == some none
  | none => false
section
variable {M : Model} {h : Heap}
theorem looks_any {f : Value → Sem Bool} : ∀ l : List Value, (∀ c ∈ l, PySem.W.Looks M h (f c) false) → PySem.W.Looks M h (l.anyM f) false
  | [], _ => PySem.W.Looks.of_pure rfl
  | c :: r, hf => by
    intro A Q E s k q
    rw [List.anyM_cons]
    refine wpAny_bind ((hf c List.mem_cons_self) A _ E s k ?_)
    exact looks_any r (fun d hd => hf d (List.mem_cons_of_mem _ hd)) A Q E s k q
end
theorem no_inplace {M : Model} {K : PySem.W.Frag} {h : Heap} {C : Addr} {nm : String} {add : Bool} (X : K.In h) (hn : noInB K C nm = true) : PySem.W.Looks M h (fillsInplaceSlot (.ref C) nm add) false := by
  unfold noInB at hn
  cases hc : PySem.W.clsIn K C with
  | none =>
    rw [hc] at hn
    cases hn
  | some cd =>
    rw [hc] at hn
    intro A Q E s k q
    have Lm : PySem.W.Looks M h (mroOf (.ref C)) cd.mro := (PySem.W.looks_clsIn X hc).andThen (f := fun cd => pure cd.mro) .now
    unfold fillsInplaceSlot
    refine wpAny_bind (Lm A _ E s k ?_)
    refine looks_any cd.mro (fun c hc2 => ?_) A Q E s k q
    intro A Q E s k q
    have z := beq_iff_eq.mp (List.all_eq_true.mp hn c hc2)
    refine wpAny_bind (PySem.W.looks_findIn X z A _ E s k ?_)
    exact wpAny_pure q
section
variable {K : PySem.W.Frag} {A : Around} {E : Value → Shared → Prop} {s : Shared} {h₀ : Heap} {L x C f : Addr} {m : Str → Option Value} {ox : Obj} {od : Option Obj}
theorem inplace_K {prog : Program} {w : World} {op : Operator} {b : Value} {Q : Value → Shared → Prop} (F : Fr h₀ L s.heap m) (X₀ : K.In h₀) (I : PySem.W.InstAt s.heap x ox C od) (hb : PySem.W.Looks (model prog w) s.heap (typeOf b) (.ref C)) (hc : PySem.W.selfFirst K C = true)
    (hn : noInB K C op.info.2 = true) (hs : PySem.W.findIn K (.ref C) (PySem.dunder op.info.2) = some (some (.ref f))) (hf : PySem.W.isFn K (.ref f) = true)
    (h : wpAny (model prog w) A (call (.ref f) [.ref x, b]) (PySem.W.CmpBack Q) E s) : wpAny (model prog w) A (inplaceOp op (.ref x) b) Q E s := by
  have X := X₀.keeps F.keep
  obtain ⟨cd, rest, hcd, hm⟩ := PySem.W.ksp_first hc
  unfold inplaceOp
  refine wpAny_holding (wpAny_bind (I.type.here (wpAny_bind ((no_inplace X hn).here ?_))))
  simp only [Bool.false_eq_true, if_false]
  refine wpAny_bind (m := binaryOp1 op.info.2 (.ref x) b) ?_
  unfold binaryOp1
  refine wpAny_bind (I.type.here (wpAny_bind (hb.here (wpAny_bind ((PySem.W.fills_K X hcd hm hs).here ?_)))))
  simp only [beq_self_eq_true, if_true]
  refine wpAny_bind (wpAny_pure ?_)
  simp only [Bool.and_false, Bool.false_eq_true, if_false, Bool.false_and]
  refine wpAny_bind (wpAny_pure ?_)
  simp only [Bool.false_eq_true, if_false]
  refine wpAny_bind (m := tryMethod (.ref x) _ b) ?_
  unfold tryMethod
  refine wpAny_bind (PySem.W.special_fn X I hs (beq_iff_eq.mp hf) (wpAny_mono h (fun v s' hv => ?_) fun _ _ e => e))
  cases v <;> first | exact hv.elim | exact wpAny_pure (wpAny_pure (wpAny_pure hv))
end
section
variable {X : Cx} {CX : CXT} {C g : Addr} {n : Nat} {sp : Sp} {E : XK}
theorem ip_binI {op : Operator} (sf : PySem.W.selfFirst X.K C = true) (hn : noInB X.K C op.info.2 = true) (hs : PySem.W.findIn X.K (.ref C) (dunder op.info.2) = some (some (.ref g))) (hf : PySem.W.isFn X.K (.ref g) = true)
    (F : FnR X.prog X.w X.K X.mg X.base CX n g sp) (hr : Room n X.A) (hx : Passes CX X E) : PIp X op (rBinI C sp E) := by
  intro pins s σ H x y u v Q I rx ry h
  obtain ⟨a, dx, fs, b, dy, gs, rfl, rfl, ha, hb, q⟩ := h
  obtain rfl : u = Value.ref a := rx
  obtain rfl : v = Value.ref b := ry
  obtain ⟨od, Ja⟩ := ins_at I ha
  obtain ⟨oe, Jb⟩ := ins_at I hb
  obtain ⟨m, fr⟩ := I.fr
  refine inplace_K fr I.ok.mod.kin Ja Jb.type sf hn hs hf ?_
  exact wpAny_mono (own_call F hr I.env0 hx I (vs := [.ref a, .ref b]) (.cons rfl (.cons rfl .nil)) q) (fun u s' ⟨z, H', I', rz, qz⟩ => SlX.cmpback rz ⟨z, H', I', rz, qz⟩) fun e s' z => z
end
end KU

set_option Elab.async false
set_option linter.all false
set_option maxRecDepth 100000
set_option maxHeartbeats 4000000
/-! What the moves' modules hold that knows nothing of moves -/
namespace K02
open PySem PySem.Spec PyProof.Rows L2 Evl KU
section
variable {K : PySem.W.Frag} {σ : L2.St} {H : Hp} {te tl t1 t2 ta tb : TE} {j : Nat} {vs : List Nat} {qs : List (Str × Str)}
theorem signsL_len (z : Str) : (signsL z).length = z.length := by
  unfold signsL
  rw [List.length_map]
  exact len_cps z
end
theorem paired_imp2 {α β : Type} {F G : α → β → Prop} : ∀ {xs : List α} {ys : List β}, Paired F xs ys → (∀ a b, F a b → G a b) → Paired G xs ys
  | _, _, .nil, _ => .nil
  | _, _, .cons h t, i => .cons (i _ _ h) (paired_imp2 t i)
theorem merge_new : ∀ (ks acc : List (Key × V)), (acc.map (·.1) ++ ks.map (·.1)).Nodup → mergeK acc ks = acc ++ ks
  | [], acc, _ => (List.append_nil _).symm
  | p :: r, acc, nd => by
    have np : p.1 ∉ acc.map (·.1) := fun h => by
      rw [List.nodup_append] at nd
      exact nd.2.2 _ h _ List.mem_cons_self rfl
    have e : putK acc p.1 p.2 = acc ++ [p] := by
      unfold putK
      rw [if_neg]
      rw [Bool.not_eq_true, List.any_eq_false]
      intro q hq z
      have z' : q.1 = p.1 := of_decide_eq_true z
      exact np (List.mem_map.mpr ⟨q, hq, z'⟩)
    show mergeK (putK acc p.1 p.2) r = _
    rw [e, merge_new r (acc ++ [p]) (by rw [List.map_append, List.append_assoc]; exact nd), List.append_assoc]
    rfl
abbrev rAddS : R2 := fun x y H Q => ∃ i j : Str, x = .str i ∧ y = .str j ∧ i.length + j.length ≤ sizeLine ∧ Q (.str (i ++ j)) H
theorem ev_cat {σ : L2.St} {H : Hp} {ta tb : TE} {a b : Str} (ha : Ev ta σ H (.str a)) (hb : Ev tb σ H (.str b)) (l : a.length + b.length ≤ 1000) : Ev (tOp rAddS ta tb) σ H (.str (a ++ b)) := ev_op ha hb fun H1 x1 Q q => ⟨a, b, rfl, rfl, by rw [sizeLine_eq]; omega, q H1 (Ex.refl _)⟩
theorem nd_idx {α : Type} : ∀ {l : List α} {i j : Nat} {x : α}, l.Nodup → l[i]? = some x → l[j]? = some x → i = j
  | [], i, _, _, _, h, _ => by simp at h
  | a :: r, 0, 0, _, _, _, _ => rfl
  | a :: r, 0, j + 1, x, nd, h1, h2 => by
    rw [List.nodup_cons] at nd
    have e : a = x := by simpa using h1
    rw [List.getElem?_cons_succ] at h2
    rw [e] at nd
    exact absurd (List.mem_of_getElem? h2) nd.1
  | a :: r, i + 1, 0, x, nd, h1, h2 => by
    rw [List.nodup_cons] at nd
    have e : a = x := by simpa using h2
    rw [List.getElem?_cons_succ] at h1
    rw [e] at nd
    exact absurd (List.mem_of_getElem? h1) nd.1
  | a :: r, i + 1, j + 1, x, nd, h1, h2 => by
    rw [List.nodup_cons] at nd
    rw [List.getElem?_cons_succ] at h1 h2
    rw [nd_idx nd.2 h1 h2]
theorem signs_nd {al : Str} (h : al.cps.toList.Nodup) : (signsL al).Nodup := List.pairwise_map.mpr (h.imp fun ne e => ne (by
  have := congrArg (fun t : Str => t.cps.toList) e
  simpa using this))
theorem sign_of {al s : Str} (h : s ∈ signsL al) : ∃ c ∈ al.cps.toList, s = ⟨#[c]⟩ := by
  obtain ⟨c, hc, rfl⟩ := List.mem_map.mp h
  exact ⟨c, hc, rfl⟩
theorem sign_over {al s : Str} (h : s ∈ signsL al) : Over al s ∧ s.length = 1 := by
  obtain ⟨c, hc, rfl⟩ := sign_of h
  exact ⟨fun d hd => by rw [show d = c by simpa using hd]; exact hc, rfl⟩
theorem cat_len (a b : Str) : (a ++ b).length = a.length + b.length := by
  rw [← len_cps, cat_cps, List.length_append, len_cps, len_cps]
theorem word_len {w al : Str} {m : Int} (h : isWordB w al m = true) : (w.length : Int) ≤ m := by
  unfold isWordB at h
  rw [Bool.and_eq_true, Bool.and_eq_true, decide_eq_true_eq, decide_eq_true_eq] at h
  exact h.2.2
theorem key_len {w al : Str} (h : isSgnV (.str w) al = true) : w.length = 1 := by
  unfold isSgnV at h
  rw [Bool.and_eq_true, decide_eq_true_eq] at h
  exact h.1
theorem cut_toV {xs : List V} {i : Nat} (hi : i ≤ xs.length) : cutV xs none (some (i : Int)) = xs.take i := by
  unfold cutV
  have e1 : HT.sIx xs.length 0 none = 0 := rfl
  have e2 : HT.sIx xs.length xs.length (some (i : Int)) = i := by
    unfold HT.sIx
    show (if (i : Int) < 0 then _ else min ((i : Int).toNat) xs.length) = i
    rw [if_neg (by omega), Int.toNat_natCast]
    exact Nat.min_eq_left hi
  rw [e1, e2, List.drop_zero, Nat.sub_zero]
theorem ev_isDict {K : PySem.W.Frag} {σ : L2.St} {H : Hp} {te : TE} {p : Addr} {kvs : List (Key × V)} (h : Ev te σ H (.ref p)) (hp : H p = some (.dK kvs)) : Ev (tCB (rIsi K) (tCons te (tCons (tC (.ty "dict")) tNil))) σ H (.bl true) := ev_cb (ea_cons h (ea_cons ev_c ea_nil)) fun H1 x1 Q1 q1 =>
  ⟨.ref p, _, _, _, true, rfl, .ty "dict", bty_tyx (.dic (x1 _ _ hp)), kit_ty (by decide +kernel), q1 H1 (Ex.refl _)⟩
def ExB (a : Addr) (H H' : Hp) : Prop := ∀ b o, b ≠ a → H b = some o → H' b = some o
structure ClsO (K : PySem.W.Frag) (C : Addr) : Prop extends Cls K C where
  cA : PySem.W.findIn K (.ref C) "__class__" = some (some (.builtin "object.__class__"))
  cG : PySem.W.specialIn K (.builtin "object.__class__") "__get__" = some (some (.builtin "getset_descriptor.__get__"))
  cT : PySem.W.takesIn K (.builtin "object.__class__") = some true
  cM : PySem.W.mroIn K C (.type "object") = some true
  cI : PySem.W.kitOne K (.ref C) (.ref C) = some true
section
variable {K : PySem.W.Frag} {σ : L2.St} {H : Hp} {tl tv : TE} {i : Nat} {tz : TS} {D : L2.Ends} {f : Str} {Pz : V → Hp → Prop} {a : Addr}
theorem q_fldP (h : EvP tv σ H Pz) (hσ : σ[i]? = some (some (.ref a))) (k : ∀ v H1, Ex H H1 → Pz v H1 → ∃ (C dx : Addr) (fs : List (Str × V)), H1 a = some (.ins C dx fs) ∧ Cls K C ∧ NoAttr K C f ∧ fs.length < 1000 ∧ tz D σ (upd H1 a (.ins C dx (putF f v fs)))) : tSeq (sFld K (tVar i) tv f) tz D σ H :=
  h H (Ex.refl _) _ fun v H1 x1 p => by
    obtain ⟨C, dx, fs, h1, h2, h3, h4, h5⟩ := k v H1 x1 p
    exact ⟨_, hσ, a, C, dx, fs, rfl, h1, h2, h3, h4, h5⟩
end
section
variable {K : PySem.W.Frag} {σ : L2.St} {H : Hp} {tl tv : TE} {i : Nat} {tz : TS} {D : L2.Ends} {f : Str} {Pz : V → Hp → Prop} {a : Addr}
theorem s_fldP (h : EvP tv σ H Pz) (hσ : σ[i]? = some (some (.ref a))) (k : ∀ v H1, Ex H H1 → Pz v H1 → ∃ (C dx : Addr) (fs : List (Str × V)), H1 a = some (.ins C dx fs) ∧ Cls K C ∧ NoAttr K C f ∧ fs.length < 1000 ∧ D.nx σ (upd H1 a (.ins C dx (putF f v fs)))) : sFld K (tVar i) tv f D σ H :=
  h H (Ex.refl _) _ fun v H1 x1 p => by
    obtain ⟨C, dx, fs, h1, h2, h3, h4, h5⟩ := k v H1 x1 p
    exact ⟨_, hσ, a, C, dx, fs, rfl, h1, h2, h3, h4, h5⟩
end
theorem ev_fld {K : PySem.W.Frag} {σ : L2.St} {H : Hp} {te : TE} {a C dx : Addr} {fs : List (Str × V)} {f : Str} {v : V} (h : Ev te σ H (.ref a)) (ha : H a = some (.ins C dx fs)) (cl : Cls K C) (no : NoAttr K C f) (lk : fs.lookup f = some v) : Ev (tFld K te f) σ H v :=
  fun H1 x1 Q q => h H1 x1 _ fun H2 x2 => ⟨a, C, dx, fs, v, rfl, (x1.trans x2) _ _ ha, cl, no, lk, q H2 x2⟩
theorem ev_isO {K : PySem.W.Frag} {C a dx : Addr} {fs : List (Str × V)} {H : Hp} (CB : ClsO K C) (h1 : H a = some (.ins C dx fs)) {ta tc : TE} {σ : L2.St} (ha : Ev ta σ H (.ref a)) (hc : Ev tc σ H (.ref C)) : Ev (tCB (rIsi K) (tCons ta (tCons tc tNil))) σ H (.bl true) :=
  ev_cb (ea_cons ha (ea_cons hc ea_nil)) fun H1 x1 Q q => ⟨_, _, _, _, true, rfl, .own C, .base (.ins (x1 _ _ h1) CB.toCls CB.cA CB.cG CB.cT CB.cM), CB.cI, q H1 (Ex.refl _)⟩
theorem tw_all (p : Nat → Bool) : ∀ l : List Nat, (∀ c ∈ l, p c = true) → l.takeWhile p = l
  | [], _ => rfl
  | a :: r, h => by rw [List.takeWhile_cons, if_pos (h a List.mem_cons_self), tw_all p r fun c hc => h c (List.mem_cons_of_mem _ hc)]
theorem strip_over {al t : Str} (h : Over al t) : Txt.stripChars t al = "" := by
  show Txt.stripBy al.cps.contains true true t = ""
  rw [stripBy_eq]
  have all : ∀ c ∈ t.cps.toList, al.cps.contains c = true := fun c hc => by
    rw [Array.contains_eq_mem, decide_eq_true_eq]
    exact Array.mem_toList_iff.mp (h c hc)
  have lo : stripLo al.cps.contains true t = t.length := by
    unfold stripLo
    rw [if_pos rfl]
    have e : t.cps.toList.takeWhile al.cps.contains = t.cps.toList := by
      exact tw_all _ _ all
    rw [e, len_cps]
  have hi : stripHi al.cps.contains true t (stripLo al.cps.contains true t) = t.length := by
    rw [lo]
    unfold stripHi
    rw [if_pos rfl, List.drop_of_length_le (by rw [len_cps]; exact Nat.le_refl _)]
    simp
  rw [hi, lo]
  refine str_ext ?_
  show (t.cps.extract t.length t.length).toList = _
  simp
  rfl
theorem word_over {al t : Str} (h : Over al t) (h0 : 0 < t.length) {m : Int} (hm : (t.length : Int) ≤ m) : isWordB t al m = true := by
  unfold isWordB isTextB
  rw [strip_over h]
  simp
  omega
theorem signs_small : ∀ c ∈ sSIGNS.cps.toList, c < 1114112 ∧ inS ⟨#[c]⟩ sSIGNS = true := by decide +kernel
theorem inS_mem {c : Nat} (al : Str) : inS ⟨#[c]⟩ al = true ↔ c ∈ al.cps.toList := by
  rw [inS_iff (by simp)]
  show [c] <:+: al.cps.toList ↔ _
  constructor
  · intro h
    exact h.subset (by simp)
  · intro h
    obtain ⟨s, r, e⟩ := List.append_of_mem h
    exact ⟨s, r, by rw [e]; simp⟩
theorem one_inj {a b : Nat} (h : (⟨#[a]⟩ : Str) = ⟨#[b]⟩) : a = b := by
  have := congrArg (fun t : Str => t.cps.toList) h
  simpa using this
def strV : V → Str
  | .str t => t
  | _ => ""
theorem alpha_str {v : V} (h : isAlphaV v = true) : ∃ t, v = .str t := by
  cases v with
  | str t => exact ⟨t, rfl⟩
  | _ => cases h
theorem ev_dIn {σ : L2.St} {H : Hp} {ta tb : TE} {p : Addr} {kvs : List (Key × V)} {k : Key} (ha : Ev ta σ H (kV k)) (hb : Ev tb σ H (.ref p)) (hp : H p = some (.dK kvs)) : Ev (tDIn ta tb) σ H (.bl (valV kvs k).isSome) := fun H1 x1 Q q =>
  ha H1 x1 _ fun H2 x2 => hb H2 (x1.trans x2) _ fun H3 x3 => ⟨p, _, rfl, DGet.k (k := k) ((x1.trans (x2.trans x3)) _ _ hp), q H3 (x2.trans x3)⟩
theorem evp_make {C : Addr} {sp : Sp} {E : XK} {t : TE} {σ : L2.St} {H : Hp} {v : V} {R : V → Hp → Prop} (ht : Ev t σ H v) (mk : ∀ (x dx : Addr) (H1 : Hp), Ex H H1 → H1 x = some (.ins C dx []) → ∀ Q : VK, (∀ H2, ExB x H1 H2 → R (.ref x) H2 → Q .non H2) → sp [.ref x, v] H1 Q E) : EvP (tMake C sp [] E (tCons t tNil)) σ H R := fun H1 x1 Q q => by
  refine ht H1 x1 _ fun H2 x2 => ?_
  intro x dx hx hdx ne
  refine mk x dx _ ((x1.trans x2).trans ?_) upd_same _ fun H3 b3 r => ⟨rfl, q _ H3 (x2.trans ?_) r⟩
  · intro b o hb
    rw [upd_ne (ne_of_none hb hx), upd_ne (ne_of_none hb hdx)]
    exact hb
  · intro b o hb
    refine b3 _ _ (ne_of_none hb hx) ?_
    rw [upd_ne (ne_of_none hb hx), upd_ne (ne_of_none hb hdx)]
    exact hb
theorem evp_makeP {C : Addr} {sp : Sp} {E : XK} {t : TE} {σ : L2.St} {H : Hp} {P R : V → Hp → Prop} (up : Up P) (ht : EvP t σ H P) (mk : ∀ (v : V) (x dx : Addr) (H1 : Hp), P v H1 → H1 x = some (.ins C dx []) → ∀ Q : VK, (∀ H2, ExB x H1 H2 → R (.ref x) H2 → Q .non H2) → sp [.ref x, v] H1 Q E) : EvP (tMake C sp [] E (tCons t tNil)) σ H R := fun H1 x1 Q q => by
  refine ht H1 x1 _ fun v H2 x2 hv => ?_
  intro x dx hx hdx ne
  have xN : Ex H2 (upd (upd H2 dx (.xd [])) x (.ins C dx [])) ∨ True := .inr trivial
  refine mk v x dx _ (up _ _ _ ?_ hv) upd_same _ fun H3 b3 r => ⟨rfl, q _ H3 (x2.trans ?_) r⟩
  · intro b o hb
    rw [upd_ne (ne_of_none hb hx), upd_ne (ne_of_none hb hdx)]
    exact hb
  · intro b o hb
    refine b3 _ _ (ne_of_none hb hx) ?_
    rw [upd_ne (ne_of_none hb hx), upd_ne (ne_of_none hb hdx)]
    exact hb
abbrev rLeS : R2 := fun x y H Q => ∃ i j : Str, x = .str i ∧ y = .str j ∧ Q (.bl (!decide (j.cps.toList < i.cps.toList))) H
end K02

set_option Elab.async false
set_option linter.all false
set_option maxRecDepth 100000
set_option maxHeartbeats 4000000
/-! A class method called by keywords, that may refuse -/
namespace KU
open PySem PySem.Spec PyProof.Rows L2 Evl
section
variable {X : Cx} {C p g : Addr} {mc : Value} {k : Nat} {fd : FuncData} {ps ks : List Str} {sp : Sp} {o : Expr} {m : Str} {pos apos : Pos} {ta : TE} {tk : TA} {kws : List Keyword} {pl : Sem Bool}
def tCMethKX (C : Addr) (n : Nat) (sp : Sp) (E : XK) (gv : List V → List V) (ta : TE) (tk : TA) : TE := fun σ H Q => ta σ H fun x H1 => x = .ref C ∧ tk σ H1 fun zs H2 => zs.length = n ∧ sp (.ref C :: gv zs) H2 Q E
theorem pe_cmethKX {CX : CXT} {E : XK} {gv : List V → List V} {gu : List Value → List Value} (he : PE X o ta) (r : ClX.CRead X.K C mc) (c : ClX.CMet X.K C mc m p g) (F : FnOk X.prog X.w X.K X.mg X.base CX k g fd ps sp) (hr : Room k X.A) (hx : Passes CX X E) (hk : PK X kws tk)
    (hb : ∀ (s' : Shared) (ws : List Value), X.K.In s'.heap → ws.length = ks.length → BindsTo s' fd ⟨[.ref C], ks.zip ws⟩ (ps.zip (.ref C :: gu ws)))
    (rel : ∀ {zs : List V} {ws : List Value}, Vals zs ws → zs.length = ks.length → Vals (gv zs) (gu ws))
    (hall : (backToKw pos (keywordEach kws X.env)).all (·.1.isSome) = true := by rfl) (hks : (backToKw pos (keywordEach kws X.env)).filterMap (·.1) = ks := by rfl)
    (hpl : ((backTo pos (starEach [] X.env)).any (·.1) || (backToKw pos (keywordEach kws X.env)).any (·.1.isNone)) = false := by rfl)
    (ht : eval (.Call (.Attribute o m apos) [] kws pos) X.env = (do
      let ov ← eval o X.env
      standAt apos.atName
      let __x ← holding [ov] (getMethod ov m pl)
      match __x with
        | (f, first) => callWith pos f first (backTo pos (starEach [] X.env)) (backToKw pos (keywordEach kws X.env))) := by rfl) :
    PE X (.Call (.Attribute o m apos) [] kws pos) (tCMethKX C ks.length sp E gv ta tk) := by
  refine ⟨fun pins s σ H Q I h => ?_⟩
  refine PySem.W.methodCall_KW (pl := pl) (thn (he.run pins s σ H _ I h) fun u s1 ⟨x, H1, I1, rx, ex, q⟩ => ?_) ht
  subst ex
  obtain rfl : u = Value.ref C := rx
  refine ClX.getmethcm_ok I1 r c fun s2 I2 => ?_
  refine callwith_met (a := C) hpl c.fi (evalArgs_kw2_nil hall (thn (hk.run pos _ s2 σ H1 _ I2 q) fun ws s3 ⟨zs, H2, I3, rv, hn, q2⟩ => ?_))
  refine ⟨⟨ClX.pin_at I3, I3.kIn⟩, ?_⟩
  rw [hks]
  have z : wpAny (model X.prog X.w) X.A (call (.ref s1.heap.objs.size) [] (ks.zip ws)) (EP X ((s1.heap.objs.size, PySem.W.methodObj (.ref g) (.ref C)) :: pins) σ Q) X.xe s3 := by
    refine wpAny_call (PySem.W.method_call (ClX.pin_at I3) (codeAny_mono (F.run X.A X.stack s3 H2 ⟨[.ref C], ks.zip ws⟩ (.ref C :: gu ws) (.ref C :: gv zs) Q E hr I3.env0 (hb s3 ws I3.kIn (by rw [← rv.length]; exact hn)) (.cons rfl (rel rv hn)) q2) fun res s' back => ?_))
    cases res with
    | error er => exact hx _ σ H2 s3 er s' I3 back
    | ok fl =>
      cases fl with
      | ret u => exact I3.after back
      | next => exact back.elim
      | brk => exact back.elim
      | cont => exact back.elim
  exact thn z fun x s' y => ClX.unpinE y
end
end KU

set_option Elab.async false
set_option linter.all false
set_option maxRecDepth 100000
set_option maxHeartbeats 4000000
/-! cursor.py: Cursor -/
namespace K02
open PySem PySem.Spec PyProof.Rows L2 Evl KU
def Raise2V (C : Addr) (f g : Str) (v w : V) (H : Hp) (E : XK) : Prop := ∀ d H', Ex H H' → H' d = some (.xd [(g, w), (f, v)]) → E (.ref C) (some d) H'
abbrev curM (i : Nat) : Stmt := inClass (topR 18) i
/-- the class Cursor -/
structure ClsC (K : PySem.W.Frag) (mg : Str → Option Value) (D : Addr) : Prop extends Cls K D where
  nWords : NoAttr K D "words"
  nAt : NoAttr K D "at"
  gC : mg "Cursor" = some (.ref D)
/-- a cursor at c, ahead of the i-th of these words -/
def CurAt (D : Addr) (H : Hp) (c : Addr) (ws : List Str) (i : Nat) : Prop := ∃ dx L, H c = some (.ins D dx [("words", .ref L), ("at", .int (i : Int))]) ∧ H L = some (.lst (ws.map V.str)) ∧ ws.length ≤ 10000
theorem CurAt.mono {D : Addr} {H H' : Hp} {c : Addr} {ws : List Str} {i : Nat} (x : Ex H H') (h : CurAt D H c ws i) : CurAt D H' c ws i := by
  obtain ⟨dx, L, h1, h2, h3⟩ := h
  exact ⟨dx, L, x _ _ h1, x _ _ h2, h3⟩
/-- the word that stands there -/
def wordAt (ws : List Str) (i : Nat) : V := match ws[i]? with
  | some w => .str w
  | none => .non
def spCurInit (D : Addr) : Sp := fun vs H Q _ => ∃ (c dx : Addr) (t : Str), vs = [.ref c, .str t] ∧ H c = some (.ins D dx []) ∧ t.length ≤ 5000 ∧ ∀ H', ExB c H H' → CurAt D H' c (Txt.split t " ") 0 → Q .non H'
theorem scCurInit : FnScope ["self", "text"] ["self", "text"] (defScope (curM 0)) := ⟨rfl, rfl, rfl, by decide +kernel, rfl, by decide +kernel, by decide +kernel⟩
section
variable {P : Program} {w : World} {K : PySem.W.Frag} {mg : Str → Option Value} {base : Heap} {D CT : Addr}
theorem ok_curInit {f : Addr} {fd : FuncData} (F : Fun K "__init__" "Cursor.__init__" (curM 0) f fd) (T : Free mg) (CC : ClsC K mg D) : FnOk P w K mg base CX0 2 f fd ["self", "text"] (spCurInit D) := by
  refine F.ok scCurInit (fun vs H Q E h => ?_) (fun cdv A outer s H vs Q E hr h => ?_)
  · obtain ⟨_, _, _, rfl, _⟩ := h
    rfl
  · obtain ⟨c, dx, t, rfl, hc, tl, k⟩ := h
    refine ⟨_, pss_cons (ps_if (pt_not (pt_val (pe_callB call_isi (by rfl) T.isinstance (by decide +kernel) (pa_cons (pv 1) (pa_cons (pe_bltn (v := .ty "str") (by rfl) T.str (by decide +kernel) rfl) pa_nil))))) (pss_one ps_never) pss_nil)
      (pss_cons (ps_fld (pv 0) (pe_bm PySem.F.plainAttrs_str PySem.F.slot_str_split PySem.F.type_str_split mt_split (pv 1) (pa_cons pe_str pa_nil)) rfl)
      (pss_one (ps_fld (pv 0) pe_int rfl))), ?_⟩
    refine q_when (b := false) (et_not (et_B (ev_isStr (v := .str t) (ev_var rfl) (.str t)))) (fun z => by cases z) fun _ H1 x1 => ?_
    have hc1 := x1 _ _ hc
    refine ⟨_, rfl, rfl, t, " ", rfl, rfl, rfl, (by rw [sizeLine_eq]; omega), fun L hL => ?_⟩
    have x2 : Ex H1 (upd H1 L (.lst ((Txt.split t " ").map V.str))) := Ex.new hL
    have nL : L ≠ c := (ne_of_none hc1 hL).symm
    have e2 : upd H1 L (.lst ((Txt.split t " ").map V.str)) L = some (.lst ((Txt.split t " ").map V.str)) := upd_same
    have c2 := x2 _ _ hc1
    generalize upd H1 L (.lst ((Txt.split t " ").map V.str)) = H2 at x2 e2 c2
    refine ⟨_, rfl, c, D, dx, [], rfl, c2, CC.toCls, CC.nWords, by simp, ?_⟩
    have e3 : upd H2 c (.ins D dx (putF "words" (.ref L) [])) c = some (.ins D dx [("words", .ref L)]) := upd_same
    have b3 : ∀ b o, b ≠ c → H2 b = some o → upd H2 c (.ins D dx (putF "words" (.ref L) [])) b = some o := fun b o nb hb => by
      rw [upd_ne nb]
      exact hb
    generalize upd H2 c (.ins D dx (putF "words" (.ref L) [])) = H3 at e3 b3 ⊢
    refine ⟨_, rfl, c, D, dx, [("words", .ref L)], rfl, e3, CC.toCls, CC.nAt, by simp, ?_⟩
    refine k _ (fun b o nb hb => ?_) ⟨dx, L, upd_same, ?_, ?_⟩
    · rw [upd_ne nb]
      exact b3 b o nb (x2 _ _ (x1 _ _ hb))
    · rw [upd_ne nL]
      exact b3 _ _ nL e2
    · have := PyProof.Rows.split_le t " "
      omega
def spPeek (D : Addr) : Sp := fun vs H Q _ => ∃ (c : Addr) (ws : List Str) (i : Nat), vs = [.ref c] ∧ CurAt D H c ws i ∧ RetV (wordAt ws i) H Q
theorem scPeek : FnScope ["self"] ["self"] (defScope (curM 1)) := ⟨rfl, rfl, rfl, by decide +kernel, rfl, by decide +kernel, by decide +kernel⟩
theorem ok_peek {f : Addr} {fd : FuncData} (F : Fun K "peek" "Cursor.peek" (curM 1) f fd) (T : Free mg) (CC : ClsC K mg D) : FnOk P w K mg base CX0 1 f fd ["self"] (spPeek D) := by
  refine F.ok scPeek (fun vs H Q E h => ?_) (fun cdv A outer s H vs Q E hr h => ?_)
  · obtain ⟨_, _, _, rfl, _⟩ := h
    rfl
  · obtain ⟨c, ws, i, rfl, hc, k⟩ := h
    obtain ⟨dx, L, h1, h2, h3⟩ := hc
    refine ⟨_, pss_cons (ps_if (pt_cmpR op_lt (pe_fld (pv 0) rfl) (pe_callB call_len_seq (by rfl) T.len PySem.boot_len (pa_cons (pe_fld (pv 0) rfl) pa_nil)) (nomark _)) (pss_one (ps_ret (pe_ix (r := rIxL K) (by exact ix_list) (pe_fld (pv 0) rfl) (pe_fld (pv 0) rfl) (fun _ _ => rfl)))) pss_nil)
      (pss_one (ps_ret pe_non)), ?_⟩
    have at_ : ∀ {G : Hp}, Ex H G → Ev (tFld K (tVar 0) "at") (start ["self"] [.ref c]) G (.int (i : Int)) := fun x => ev_fld (K := K) (ev_var rfl) (x _ _ h1) CC.toCls CC.nAt rfl
    have words_ : ∀ {G : Hp}, Ex H G → Ev (tFld K (tVar 0) "words") (start ["self"] [.ref c]) G (.ref L) := fun x => ev_fld (K := K) (ev_var rfl) (x _ _ h1) CC.toCls CC.nWords rfl
    have len_ : Ev (tCB (rLenS K) (tCons (tFld K (tVar 0) "words") tNil)) (start ["self"] [.ref c]) H (.int (ws.length : Int)) := ev_cb (ea_cons (words_ (Ex.refl _)) ea_nil) fun H1 x1 Q1 q1 => ⟨L, _, rfl, .inl (sq_of (x1 _ _ h2)), by
      rw [List.length_map]
      exact q1 H1 (Ex.refl _)⟩
    refine q_when (b := decide (i < ws.length)) (et_is (et_test (ev_op (at_ (Ex.refl _)) len_ rv_I0)) (by rw [Bool.eq_iff_iff, decide_eq_true_eq, decide_eq_true_eq]; omega)) (fun z G x => ?_) fun z G x => ?_
    · have lt := of_decide_eq_true z
      have e : ws[i]? = some ws[i] := List.getElem?_eq_getElem lt
      refine s_ret (v := wordAt ws i) (ev_op (words_ x) (at_ x) (rv_ixL (sq_of (x _ _ h2)) ?_)) fun G2 x2 => k G2 (x.trans x2)
      unfold wordAt
      rw [e]
      exact atI_nat (by rw [List.getElem?_map, e]; rfl)
    · have ge : ¬ i < ws.length := of_decide_eq_false z
      refine s_ret (v := wordAt ws i) (ev_is ev_c ?_) fun G2 x2 => k G2 (x.trans x2)
      unfold wordAt
      rw [List.getElem?_eq_none (by omega)]
def spTake (D CT : Addr) : Sp := fun vs H Q E => ∃ (c : Addr) (ws : List Str) (i : Nat) (b : Bool), vs = [.ref c, .bl b] ∧ CurAt D H c ws i ∧
  ((b = true ∧ i < ws.length ∧ ∀ H', ExB c H H' → CurAt D H' c ws (i + 1) → Q (wordAt ws i) H') ∨ (b = false ∧ Raise2V CT "line" "word" (.int 0) (.int (i : Int)) H E))
theorem scTake : FnScope ["self", "stands"] ["self", "stands"] (defScope (curM 2)) := ⟨rfl, rfl, rfl, by decide +kernel, rfl, by decide +kernel, by decide +kernel⟩
theorem ok_take {f : Addr} {fd : FuncData} (F : Fun K "take" "Cursor.take" (curM 2) f fd) (CC : ClsC K mg D) (ZT : Cl P w K mg base "BadText" CT ["line", "word"] (spI2 K "line" "word")) : FnOk P w K mg base (L2.CX P w) 3 f fd ["self", "stands"] (spTake D CT) := by
  refine F.okX scTake (fun vs H Q E h => ?_) (fun cdv A outer s H vs Q E hr h => ?_)
  · obtain ⟨_, _, _, _, rfl, _⟩ := h
    rfl
  · obtain ⟨c, ws, i, b, rfl, hc, alt⟩ := h
    obtain ⟨dx, L, h1, h2, h3⟩ := hc
    refine ⟨_, pss_cons (ps_if (pt_not (pt_val (pv 1))) (pss_one (ps_raise2 rfl (takes_of rfl rfl rfl rfl) ZT hr (pa_cons pe_int (pa_cons (pe_fld (pv 0) rfl) pa_nil)))) pss_nil)
      (pss_cons (ps_fld (pv 0) (pe_op op_add (pe_fld (pv 0) rfl) pe_int) rfl)
      (pss_one (ps_ret (pe_ix (r := rIxL K) (by exact ix_list) (pe_fld (pv 0) rfl) (pe_op op_sub (pe_fld (pv 0) rfl) pe_int) (fun _ _ => rfl))))), ?_⟩
    have at_ : ∀ {G : Hp} {σ : L2.St}, σ[0]? = some (some (.ref c)) → Ex H G → Ev (tFld K (tVar 0) "at") σ G (.int (i : Int)) := fun e x => ev_fld (K := K) (ev_var e) (x _ _ h1) CC.toCls CC.nAt rfl
    refine q_when (b := !b) (et_not (et_B (ev_var rfl))) (fun z G x => ?_) fun z G x => ?_
    · rcases alt with ⟨e, _⟩ | ⟨_, r⟩
      · rw [e] at z
        cases z
      · exact s_raise2 ZT.oex (ZT.no _ List.mem_cons_self) (ZT.no _ (List.mem_cons_of_mem _ List.mem_cons_self)) (ea_cons ev_c (ea_cons (at_ rfl x) ea_nil)) fun d H2 x2 e2 => r d H2 (x.trans x2) e2
    · rcases alt with ⟨_, lt, k⟩ | ⟨e, _⟩
      · have nL : L ≠ c := fun z => by
          rw [z, h1] at h2
          cases h2
        have plus : Ev (tOp (rI0 fun i j => .int (i + j)) (tFld K (tVar 0) "at") (tC (.int 1))) (start ["self", "stands"] [.ref c, .bl b]) G (.int ((i + 1 : Nat) : Int)) := ev_is (ev_op (at_ rfl x) ev_c rv_I0) (by simp)
        refine plus G (Ex.refl _) _ fun G1 x1 => ⟨_, rfl, c, D, dx, _, rfl, x1 _ _ (x _ _ h1), CC.toCls, CC.nAt, by simp, ?_⟩
        have xx := x.trans x1
        have e3 : upd G1 c (.ins D dx (putF "at" (.int ((i + 1 : Nat) : Int)) [("words", .ref L), ("at", .int (i : Int))])) c = some (.ins D dx [("words", .ref L), ("at", .int ((i + 1 : Nat) : Int))]) := upd_same
        have b3 : ExB c H (upd G1 c (.ins D dx (putF "at" (.int ((i + 1 : Nat) : Int)) [("words", .ref L), ("at", .int (i : Int))]))) := fun b o nb hb => by
          rw [upd_ne nb]
          exact xx _ _ hb
        generalize upd G1 c (.ins D dx (putF "at" (.int ((i + 1 : Nat) : Int)) [("words", .ref L), ("at", .int (i : Int))])) = G2 at e3 b3 ⊢
        have e : ws[i]? = some ws[i] := List.getElem?_eq_getElem lt
        have eL := b3 _ _ nL h2
        have less : Ev (tOp (rI0 fun i j => .int (i - j)) (tFld K (tVar 0) "at") (tC (.int 1))) (start ["self", "stands"] [.ref c, .bl b]) G2 (.int (i : Int)) := ev_is (ev_op (ev_fld (K := K) (te := tVar 0) (ev_var rfl) e3 CC.toCls CC.nAt rfl) ev_c rv_I0) (by simp)
        refine s_ret (v := wordAt ws i) (ev_op (ev_fld (K := K) (te := tVar 0) (ev_var rfl) e3 CC.toCls CC.nWords rfl) less (rv_ixL (sq_of eL) ?_)) fun G3 x3 => k G3 (fun b o nb hb => x3 _ _ (b3 b o nb hb)) ⟨dx, L, x3 _ _ e3, x3 _ _ eL, h3⟩
        unfold wordAt
        rw [e]
        exact atI_nat (by rw [List.getElem?_map, e]; rfl)
      · rw [e] at z
        cases z
def spExpect (D CT : Addr) : Sp := fun vs H Q E => ∃ (c : Addr) (ws : List Str) (i : Nat) (u : Str), vs = [.ref c, .str u] ∧ CurAt D H c ws i ∧
  ((wordAt ws i = .str u ∧ ∀ H', ExB c H H' → CurAt D H' c ws (i + 1) → Q .non H') ∨ (wordAt ws i ≠ .str u ∧ Raise2V CT "line" "word" (.int 0) (.int (i : Int)) H E))
theorem scExpect : FnScope ["self", "word"] ["self", "word"] (defScope (curM 3)) := ⟨rfl, rfl, rfl, by decide +kernel, rfl, by decide +kernel, by decide +kernel⟩
theorem word_lt {ws : List Str} {i : Nat} {u : Str} (h : wordAt ws i = .str u) : i < ws.length := by
  unfold wordAt at h
  rcases Nat.lt_or_ge i ws.length with lt | ge
  · exact lt
  · rw [List.getElem?_eq_none ge] at h
    cases h
theorem word_scal (ws : List Str) (i : Nat) (u : Str) : scal (wordAt ws i) (.str u) = true := by
  unfold wordAt
  split <;> rfl
theorem ok_expect {f fT fP : Addr} {fd fdT fdP : FuncData} (F : Fun K "expect" "Cursor.expect" (curM 3) f fd) (CC : ClsC K mg D) (GT : FnOk P w K mg base (L2.CX P w) 3 fT fdT ["self", "stands"] (spTake D CT)) (bT : Binds K fdT ["self", "stands"] []) (mT : Meth K D "take" fT)
    (GP : FnOk P w K mg base CX0 1 fP fdP ["self"] (spPeek D)) (bP : Binds K fdP ["self"] []) (mP : Meth K D "peek" fP) : FnOk P w K mg base (L2.CX P w) 4 f fd ["self", "word"] (spExpect D CT) := by
  refine F.okX scExpect (fun vs H Q E h => ?_) (fun cdv A outer s H vs Q E hr h => ?_)
  · obtain ⟨_, _, _, _, rfl, _⟩ := h
    rfl
  · obtain ⟨c, ws, i, u, rfl, hc, alt⟩ := h
    refine ⟨_, pss_one (ps_expr (pe_meth (CX := L2.CX P w) (E := E) (pv 0) CC.toCls mT GT hr bT .nil (passes_call (takes_of rfl rfl rfl rfl) fun _ _ _ _ h => h) (pa_cons (pe_cmpR op_eq (pe_meth0 (pv 0) CC.toCls mP GP (hr.mono (by decide)) bP .nil pass0) (pv 1) (nomark _)) pa_nil))), ?_⟩
    have hc' := hc
    obtain ⟨dx, L, h1, h2, h3⟩ := hc'
    refine ⟨_, rfl, c, dx, _, rfl, h1, rfl, ?_⟩
    have eq : Ev (tOp rEq (tMeth D "peek" (spPeek D) [] E0 (tVar 0) tNil) (tVar 1)) (start ["self", "word"] [.ref c, .str u]) H (.bl (decide (wordAt ws i = .str u))) :=
      ev_op (fun H1 x1 Q1 q1 => ⟨_, rfl, c, dx, _, rfl, x1 _ _ h1, rfl, c, ws, i, rfl, hc.mono x1, q1⟩) (ev_var rfl) (rv_eq (word_scal ws i u))
    refine (?_ : tCons _ _ _ H _)
    refine eq H (Ex.refl _) _ fun H1 x1 => ?_
    refine ⟨c, ws, i, _, rfl, hc.mono x1, ?_⟩
    rcases alt with ⟨e, k⟩ | ⟨ne, r⟩
    · exact .inl ⟨decide_eq_true e, word_lt e, fun H' x' hc2 => k H' (fun b o nb hb => x' b o nb (x1 _ _ hb)) hc2⟩
    · exact .inr ⟨decide_eq_false ne, fun d H' x' e' => r d H' (x1.trans x') e'⟩
def spFinish (D CT : Addr) : Sp := fun vs H Q E => ∃ (c : Addr) (ws : List Str) (i : Nat), vs = [.ref c] ∧ CurAt D H c ws i ∧ ((ws.length ≤ i ∧ RetV .non H Q) ∨ (i < ws.length ∧ Raise2V CT "line" "word" (.int 0) (.int (i : Int)) H E))
theorem scFinish : FnScope ["self"] ["self"] (defScope (curM 4)) := ⟨rfl, rfl, rfl, by decide +kernel, rfl, by decide +kernel, by decide +kernel⟩
theorem ok_finish {f : Addr} {fd : FuncData} (F : Fun K "finish" "Cursor.finish" (curM 4) f fd) (T : Free mg) (CC : ClsC K mg D) (ZT : Cl P w K mg base "BadText" CT ["line", "word"] (spI2 K "line" "word")) : FnOk P w K mg base (L2.CX P w) 3 f fd ["self"] (spFinish D CT) := by
  refine F.okX scFinish (fun vs H Q E h => ?_) (fun cdv A outer s H vs Q E hr h => ?_)
  · obtain ⟨_, _, _, rfl, _⟩ := h
    rfl
  · obtain ⟨c, ws, i, rfl, hc, alt⟩ := h
    obtain ⟨dx, L, h1, h2, h3⟩ := hc
    refine ⟨_, pss_one (ps_if (pt_cmpR op_lt (pe_fld (pv 0) rfl) (pe_callB call_len_seq (by rfl) T.len PySem.boot_len (pa_cons (pe_fld (pv 0) rfl) pa_nil)) (nomark _)) (pss_one (ps_raise2 rfl (takes_of rfl rfl rfl rfl) ZT hr (pa_cons pe_int (pa_cons (pe_fld (pv 0) rfl) pa_nil)))) pss_nil), ?_⟩
    have at_ : ∀ {G : Hp}, Ex H G → Ev (tFld K (tVar 0) "at") (start ["self"] [.ref c]) G (.int (i : Int)) := fun x => ev_fld (K := K) (ev_var rfl) (x _ _ h1) CC.toCls CC.nAt rfl
    have len_ : Ev (tCB (rLenS K) (tCons (tFld K (tVar 0) "words") tNil)) (start ["self"] [.ref c]) H (.int (ws.length : Int)) := ev_cb (ea_cons (ev_fld (K := K) (ev_var rfl) h1 CC.toCls CC.nWords rfl) ea_nil) fun H1 x1 Q1 q1 => ⟨L, _, rfl, .inl (sq_of (x1 _ _ h2)), by
      rw [List.length_map]
      exact q1 H1 (Ex.refl _)⟩
    refine s_when (b := decide (i < ws.length)) (et_is (et_test (ev_op (at_ (Ex.refl _)) len_ rv_I0)) (by rw [Bool.eq_iff_iff, decide_eq_true_eq, decide_eq_true_eq]; omega)) (fun z G x => ?_) fun z G x => ?_
    · rcases alt with ⟨ge, _⟩ | ⟨_, r⟩
      · have := of_decide_eq_true z
        omega
      · exact s_raise2 ZT.oex (ZT.no _ List.mem_cons_self) (ZT.no _ (List.mem_cons_of_mem _ List.mem_cons_self)) (ea_cons ev_c (ea_cons (at_ x) ea_nil)) fun d H2 x2 e2 => r d H2 (x.trans x2) e2
    · rcases alt with ⟨_, k⟩ | ⟨lt, _⟩
      · exact k G x
      · exact absurd lt (of_decide_eq_false z)
/-- a text that is none -/
def spCurInitX (K : PySem.W.Frag) (D CT : Addr) : Sp := fun vs H _ E => ∃ (c dx : Addr) (v : V), vs = [.ref c, v] ∧ H c = some (.ins D dx []) ∧ (∀ H', Ex H H' → ∃ t, TyX K H' v t ∧ PySem.W.kitOne K t (.type "str") = some false) ∧ Raise2V CT "line" "word" (.int 0) (.int 0) H E
theorem ok_curInitX {f : Addr} {fd : FuncData} (F : Fun K "__init__" "Cursor.__init__" (curM 0) f fd) (T : Free mg) (ZT : Cl P w K mg base "BadText" CT ["line", "word"] (spI2 K "line" "word")) : FnOk P w K mg base (L2.CX P w) 3 f fd ["self", "text"] (spCurInitX K D CT) := by
  refine F.okX scCurInit (fun vs H Q E h => ?_) (fun cdv A outer s H vs Q E hr h => ?_)
  · obtain ⟨_, _, _, rfl, _⟩ := h
    rfl
  · obtain ⟨c, dx, v, rfl, hc, no, r⟩ := h
    refine ⟨_, pss_cons (ps_if (pt_not (pt_val (pe_callB call_isi (by rfl) T.isinstance (by decide +kernel) (pa_cons (pv 1) (pa_cons (pe_bltn (v := .ty "str") (by rfl) T.str (by decide +kernel) rfl) pa_nil))))) (pss_one (ps_raise2 rfl (takes_of rfl rfl rfl rfl) ZT hr (pa_cons pe_int (pa_cons pe_int pa_nil)))) pss_nil) pss_never, ?_⟩
    refine q_when (b := true) (et_is (et_not (et_B (ev_cb (ea_cons (ev_var rfl) (ea_cons ev_c ea_nil)) fun H1 x1 Q1 q1 => by
      obtain ⟨t, ty, e⟩ := no H1 x1
      exact ⟨v, _, t, _, false, rfl, .ty "str", ty, e, q1 H1 (Ex.refl _)⟩))) rfl) (fun _ H1 x1 => s_raise2 ZT.oex (ZT.no _ List.mem_cons_self) (ZT.no _ (List.mem_cons_of_mem _ List.mem_cons_self)) (ea_cons ev_c (ea_cons ev_c ea_nil)) fun d H2 x2 e2 => r d H2 (x1.trans x2) e2) fun z => by cases z
end
end K02

set_option Elab.async false
set_option linter.all false
set_option maxRecDepth 100000
set_option maxHeartbeats 4000000
/-! `not in` an own instance; a method called by keywords alone -/
namespace KU
open PySem PySem.Spec PyProof.Rows L2 Evl
section
variable {X : Cx} {CX : CXT} {C g : Addr} {n : Nat} {sp : Sp} {E : XK}
/-- v not in a -/
def rNotInO (C : Addr) (sp : Sp) (E : XK) : R2 := fun v x H Q => ∃ (a dx : Addr) (fs : List (Str × V)), x = .ref a ∧ H a = some (.ins C dx fs) ∧ sp [.ref a, v] H (fun z H' => ∃ k : Bool, z = .bl k ∧ Q (.bl (!k)) H') E
theorem op_notInO (hs : PySem.W.findIn X.K (.ref C) "__contains__" = some (some (.ref g))) (hf : PySem.W.isFn X.K (.ref g) = true)
    (F : FnR X.prog X.w X.K X.mg X.base CX n g sp) (hr : Room n X.A) (hx : Passes CX X E) : OpR X (compareOp .NotIn) (rNotInO C sp E) := by
  intro pins s σ H v x u w Q I rv rx h
  obtain ⟨a, dx, fs, rfl, ha, q⟩ := h
  obtain rfl : w = Value.ref a := rx
  obtain ⟨od, Ja⟩ := ins_at I ha
  obtain ⟨m, fr⟩ := I.fr
  refine PySem.W.notIn_K fr I.ok.mod.kin Ja hs hf ?_
  refine wpAny_mono (own_call F hr I.env0 hx I (vs := [.ref a, v]) (.cons rfl (.cons rv .nil)) q) (fun u s' ⟨z, H', I', rz, k, ez, qz⟩ => ?_) fun e s' z => z
  subst ez
  cases rz
  exact wpAny_pure ⟨.bl (!k), H', I', rfl, qz⟩
end
section
variable {X : Cx} {C f : Addr} {k : Nat} {fd : FuncData} {ps ks : List Str} {sp : Sp} {o : Expr} {m : Str} {pos apos : Pos} {ta : TE} {tk : TA} {kws : List Keyword} {pl : Sem Bool}
/-- o.m(k = v, ..) -/
def tMethK (C : Addr) (m : Str) (n : Nat) (sp : Sp) (gv : List V → List V) (ta : TE) (tk : TA) : TE := fun σ H Q => ta σ H fun x H1 => ∃ (a dx : Addr) (fs : List (Str × V)), x = .ref a ∧ H1 a = some (.ins C dx fs) ∧ fs.lookup m = none ∧
  tk σ H1 fun zs H2 => zs.length = n ∧ sp (.ref a :: gv zs) H2 Q fun _ _ _ => False
theorem pe_methK {gv : List V → List V} {gu : List Value → List Value} (he : PE X o ta) (c : Cls X.K C) (hm : Meth X.K C m f) (F : FnOk X.prog X.w X.K X.mg X.base CX0 k f fd ps sp) (hr : Room k X.A) (hk : PK X kws tk)
    (hb : ∀ (s' : Shared) (a : Addr) (ws : List Value), X.K.In s'.heap → ws.length = ks.length → BindsTo s' fd ⟨[.ref a], ks.zip ws⟩ (ps.zip (.ref a :: gu ws)))
    (rel : ∀ {zs : List V} {ws : List Value}, Vals zs ws → zs.length = ks.length → Vals (gv zs) (gu ws))
    (hall : (backToKw pos (keywordEach kws X.env)).all (·.1.isSome) = true := by rfl) (hks : (backToKw pos (keywordEach kws X.env)).filterMap (·.1) = ks := by rfl)
    (hpl : ((backTo pos (starEach [] X.env)).any (·.1) || (backToKw pos (keywordEach kws X.env)).any (·.1.isNone)) = false := by rfl)
    (ht : eval (.Call (.Attribute o m apos) [] kws pos) X.env = (do
      let ov ← eval o X.env
      standAt apos.atName
      let __x ← holding [ov] (getMethod ov m pl)
      match __x with
        | (f, first) => callWith pos f first (backTo pos (starEach [] X.env)) (backToKw pos (keywordEach kws X.env))) := by rfl) :
    PE X (.Call (.Attribute o m apos) [] kws pos) (tMethK C m ks.length sp gv ta tk) := by
  refine ⟨fun pins s σ H Q I h => ?_⟩
  refine PySem.W.methodCall_KW (pl := pl) (thn (he.run pins s σ H _ I h) fun u s1 ⟨x, H1, I1, rx, a, dx, fs, ex, ea, l, q⟩ => ?_) ht
  subst ex
  obtain rfl : u = Value.ref a := rx
  refine getmeth_ok I1 ea c hm l ?_
  refine PySem.W.callWith_KW0 (first := [.ref a]) (h₀ := X.base) I.ok.mod.kin hm.kp hall (thn (hk.run pos pins s1 σ H1 _ I1 q) fun ws s2 ⟨zs, H2, I2, rv, hn, q2⟩ => ⟨I2.kIn, ?_⟩) hpl
  rw [hks]
  refine wpAny_call (codeAny_mono (F.run X.A X.stack s2 H2 ⟨[.ref a], ks.zip ws⟩ (.ref a :: gu ws) (.ref a :: gv zs) Q (fun _ _ _ => False) hr I2.env0 (hb s2 a ws I2.kIn (by rw [← rv.length]; exact hn)) (.cons rfl (rel rv hn)) q2) fun res s' back => ?_)
  cases res with
  | error er => exact back.elim
  | ok fl =>
    cases fl with
    | ret u => exact I2.after back
    | next => exact back.elim
    | brk => exact back.elim
    | cont => exact back.elim
end
end KU

set_option Elab.async false
set_option linter.all false
set_option maxRecDepth 100000
set_option maxHeartbeats 4000000
/-! The same, behind the cursor -/
namespace K02
open PySem PySem.Spec PyProof.Rows L2 Evl KU
theorem CurAt.len {D : Addr} {H : Hp} {c : Addr} {ws : List Str} {i : Nat} (h : CurAt D H c ws i) : ∃ dx fs, H c = some (.ins D dx fs) ∧ fs.lookup ("take" : Str) = none ∧ fs.lookup ("peek" : Str) = none ∧ fs.lookup ("expect" : Str) = none ∧ fs.lookup ("finish" : Str) = none := by
  obtain ⟨dx, L, h1, h2, h3⟩ := h
  exact ⟨dx, _, h1, rfl, rfl, rfl, rfl⟩
theorem word_val (ws : List Str) (i : Nat) : (∃ t ∈ ws, wordAt ws i = .str t) ∨ wordAt ws i = .non := by
  unfold wordAt
  rcases Nat.lt_or_ge i ws.length with lt | ge
  · rw [List.getElem?_eq_getElem lt]
    exact .inl ⟨_, List.getElem_mem _, rfl⟩
  · rw [List.getElem?_eq_none ge]
    exact .inr rfl
theorem tw_mem {p : Nat → Bool} : ∀ {l : List Nat} {c : Nat}, c ∈ l.takeWhile p → p c = true
  | [], c, h => by cases h
  | a :: r, c, h => by
    rw [List.takeWhile_cons] at h
    split at h
    · rename_i pa
      rcases List.mem_cons.mp h with rfl | h
      · exact pa
      · exact tw_mem h
    · cases h
theorem all_tw {p : Nat → Bool} : ∀ {l : List Nat}, (l.takeWhile p).length = l.length → ∀ c ∈ l, p c = true
  | [], _, c, h => by cases h
  | a :: r, e, c, h => by
    rw [List.takeWhile_cons] at e
    split at e
    · rename_i pa
      rcases List.mem_cons.mp h with rfl | h
      · exact pa
      · exact all_tw (by simpa using e) c h
    · simp at e
theorem text_over {al t : Str} (h : isTextB t al = true) : Over al t := by
  unfold isTextB at h
  rw [decide_eq_true_eq] at h
  injection h with h
  have h : Txt.stripBy al.cps.contains true true t = "" := h
  rw [stripBy_eq] at h
  have hl := congrArg Str.length h
  have hl : (t.cps.extract (stripLo al.cps.contains true t) (stripHi al.cps.contains true t (stripLo al.cps.contains true t))).size = 0 := hl
  rw [Array.size_extract] at hl
  have lt := len_cps t
  have tp := List.takeWhile_prefix (l := t.cps.toList) al.cps.contains
  have tpl := tp.length_le
  have tle : (((t.cps.toList.drop (stripLo al.cps.contains true t)).reverse.takeWhile al.cps.contains).length ≤ (t.cps.toList.drop (stripLo al.cps.contains true t)).reverse.length) := (List.takeWhile_prefix (l := (t.cps.toList.drop (stripLo al.cps.contains true t)).reverse) al.cps.contains).length_le
  have elo : stripLo al.cps.contains true t = (t.cps.toList.takeWhile al.cps.contains).length := by
    unfold stripLo
    rw [if_pos rfl]
  have ehi : stripHi al.cps.contains true t (stripLo al.cps.contains true t) = t.length - ((t.cps.toList.drop (stripLo al.cps.contains true t)).reverse.takeWhile al.cps.contains).length := by
    unfold stripHi
    rw [if_pos rfl]
  rw [List.length_reverse, List.length_drop] at tle
  have sz : t.cps.size = t.length := rfl
  rw [ehi, sz] at hl
  have full : ((t.cps.toList.drop (stripLo al.cps.contains true t)).reverse.takeWhile al.cps.contains).length = (t.cps.toList.drop (stripLo al.cps.contains true t)).reverse.length := by
    rw [List.length_reverse, List.length_drop]
    rw [elo] at hl tle ⊢
    omega
  intro c hc
  have pc : al.cps.contains c = true := by
    rw [← List.take_append_drop (stripLo al.cps.contains true t) t.cps.toList] at hc
    rcases List.mem_append.mp hc with h | h
    · have e : t.cps.toList.take (stripLo al.cps.contains true t) = t.cps.toList.takeWhile al.cps.contains := by
        rw [elo]
        exact (List.prefix_iff_eq_take.mp tp).symm
      rw [e] at h
      exact tw_mem h
    · exact all_tw full c (List.mem_reverse.mpr h)
  rw [Array.contains_eq_mem, decide_eq_true_eq] at pc
  exact Array.mem_toList_iff.mpr pc
theorem text_iff {al t : Str} : isTextB t al = true ↔ Over al t := ⟨text_over, fun h => by
  unfold isTextB
  rw [strip_over h]
  rfl⟩
theorem over_iff {al t : Str} : isTextB t al = true ↔ Over al t := text_iff
abbrev sgB (t : Str) : Bool := isSgnV (.str t) sSIGNS
theorem sgB_one {t : Str} (h : sgB t = true) : ∃ c ∈ sSIGNS.cps.toList, t = (⟨#[c]⟩ : Str) := by
  have l := key_len h
  have m : inS t sSIGNS = true := by
    unfold sgB isSgnV at h
    rw [Bool.and_eq_true] at h
    exact h.2
  obtain ⟨c, hc⟩ : ∃ c, t.cps.toList = [c] := by
    have : t.cps.toList.length = 1 := by rw [len_cps]; exact l
    exact List.length_eq_one_iff.mp this
  have e : t = (⟨#[c]⟩ : Str) := str_eq (by rw [hc])
  rw [e] at m
  exact ⟨c, (inS_mem _).mp m, e⟩
theorem one_sgB {c : Nat} (h : c ∈ sSIGNS.cps.toList) : sgB ⟨#[c]⟩ = true := by
  unfold sgB isSgnV
  simp only [Bool.and_eq_true, decide_eq_true_eq]
  exact ⟨rfl, (inS_mem _).mpr h⟩
theorem word_parts {w : Str} (h : isWordB w sSIGNS 3 = true) : Over sSIGNS w ∧ 1 ≤ w.length ∧ w.length ≤ 3 := by
  unfold isWordB at h
  rw [Bool.and_eq_true, Bool.and_eq_true, decide_eq_true_eq, decide_eq_true_eq] at h
  exact ⟨text_over h.1, by have := h.2.1; omega, by have := h.2.2; omega⟩
def Raise2B (a C : Addr) (f g : Str) (v w : V) (H : Hp) (E : XK) : Prop := ∀ d H', ExB a H H' → H' d = some (.xd [(g, w), (f, v)]) → E (.ref C) (some d) H'
theorem word_at {ws : List Str} {j : Nat} (lt : j < ws.length) : wordAt ws j = .str ws[j] := by
  unfold wordAt
  rw [List.getElem?_eq_getElem lt]
theorem word_none {ws : List Str} {j : Nat} (ge : ws.length ≤ j) : wordAt ws j = .non := by
  unfold wordAt
  rw [List.getElem?_eq_none ge]
theorem fold_len (g : Array Nat) (r : List Str) (a : Array Nat) : (r.foldl (fun (acc : Array Nat) (p : Str) => acc ++ g ++ p.cps) a).size = a.size + (r.map (·.length)).sum + r.length * g.size := by
  induction r generalizing a with
  | nil => simp
  | cons b t ih =>
    rw [List.foldl_cons, ih, List.map_cons, List.sum_cons, List.length_cons, Array.size_append, Array.size_append, Nat.add_mul]
    have : b.length = b.cps.size := rfl
    omega
theorem join_len (sep : Str) (ys : List Str) : (Txt.join sep ys).length ≤ (ys.map (·.length)).sum + ys.length * sep.length := by
  show (List.foldl (fun (acc : Array Nat) (p : Str) => acc ++ sep.cps ++ p.cps) (ys.headD Str.empty).cps (List.drop 1 ys)).size ≤ _
  rw [fold_len]
  cases ys with
  | nil => simp [Str.empty]
  | cons b t =>
    rw [List.headD_cons, List.drop_succ_cons, List.drop_zero, List.map_cons, List.sum_cons, List.length_cons, Nat.add_mul]
    show b.cps.size + _ + t.length * sep.cps.size ≤ b.cps.size + _ + (t.length * sep.cps.size + 1 * sep.cps.size)
    omega
theorem cut_fromV {xs : List V} (i : Nat) : cutV xs (some (i : Int)) none = xs.drop i := by
  unfold cutV
  have e1 : HT.sIx xs.length 0 (some (i : Int)) = min i xs.length := by
    unfold HT.sIx
    show (if (i : Int) < 0 then _ else min ((i : Int).toNat) xs.length) = _
    rw [if_neg (by omega), Int.toNat_natCast]
  have e2 : HT.sIx xs.length xs.length none = xs.length := rfl
  rw [e1, e2, List.take_of_length_le (by rw [List.length_drop]; exact Nat.le_refl _)]
  rcases Nat.le_total i xs.length with h | h
  · rw [Nat.min_eq_left h]
  · rw [Nat.min_eq_right h, List.drop_length, List.drop_eq_nil_of_le h]
theorem cut_toG {xs : List V} (i : Nat) : cutV xs none (some (i : Int)) = xs.take i := by
  rcases Nat.le_total i xs.length with h | h
  · exact cut_toV h
  · have : cutV xs none (some (i : Int)) = cutV xs none (some (xs.length : Int)) := by
      unfold cutV
      have e2 : HT.sIx xs.length xs.length (some (i : Int)) = HT.sIx xs.length xs.length (some (xs.length : Int)) := by
        unfold HT.sIx
        show (if (i : Int) < 0 then _ else min ((i : Int).toNat) xs.length) = (if (xs.length : Int) < 0 then _ else min ((xs.length : Int).toNat) xs.length)
        rw [if_neg (by omega), if_neg (by omega), Int.toNat_natCast, Int.toNat_natCast, Nat.min_eq_right h, Nat.min_self]
      rw [e2]
    rw [this, cut_toV (Nat.le_refl _), List.take_length, List.take_of_length_le h]
section
variable {K : PySem.W.Frag} {σ : L2.St} {H : Hp} {te ta tb tc tl : TE} {ws us : List Str}
theorem ev_chainI {a b c : Int} (ha : Ev ta σ H (.int a)) (hb : Ev tb σ H (.int b)) (hc : Ev tc σ H (.int c)) : Ev (tChain (rI0 fun i j => .bl (decide (i ≤ j))) (rI0 fun i j => .bl (decide (i ≤ j))) ta tb tc) σ H (.bl (decide (a ≤ b) && decide (b ≤ c))) := fun H1 x1 Q q =>
  ha H1 x1 _ fun H2 x2 => hb H2 (x1.trans x2) _ fun H3 x3 => ⟨a, b, rfl, rfl, _, rfl, by
    cases h : decide (a ≤ b) with
    | true =>
      rw [if_pos rfl]
      refine hc H3 (x1.trans (x2.trans x3)) _ fun H4 x4 => ⟨b, c, rfl, rfl, ?_⟩
      have z := q H4 (x2.trans (x3.trans x4))
      rw [h, Bool.true_and] at z
      exact z
    | false =>
      rw [if_neg (by decide)]
      have z := q H3 (x2.trans x3)
      rw [h, Bool.false_and] at z
      exact z⟩
end
section
variable {K : PySem.W.Frag} {σ : L2.St} {H : Hp} {te ta tb tc tl : TE} {ws us : List Str}
theorem es_to {i : Nat} (ha : EvP ta σ H (IsSL ws)) (hb : Ev tb σ H (.int (i : Int))) : EvP (L2.tSl (rSlL K) ta tNoPart (tPart tb)) σ H (IsSL (ws.take i)) := fun H1 x1 Q q =>
  ha H1 x1 _ fun v H2 x2 a => hb H2 (x1.trans x2) _ fun H3 x3 => by
    obtain ⟨l, ev, hl⟩ := up_isSL ws v _ _ x3 a
    subst ev
    exact ⟨_, rfl, l, _, rfl, sq_of hl, fun p hp => q _ _ ((x2.trans x3).trans (Ex.new hp)) ⟨p, rfl, by rw [upd_same, cut_toG, List.map_take]⟩⟩
end
section
variable {K : PySem.W.Frag} {σ : L2.St} {H : Hp} {te ta tb tc tl : TE} {ws us : List Str}
theorem es_from {i : Nat} (ha : EvP ta σ H (IsSL ws)) (hb : Ev tb σ H (.int (i : Int))) : EvP (L2.tSl (rSlL K) ta (tPart tb) tNoPart) σ H (IsSL (ws.drop i)) := fun H1 x1 Q q =>
  ha H1 x1 _ fun v H2 x2 a => hb H2 (x1.trans x2) _ fun H3 x3 => by
    obtain ⟨l, ev, hl⟩ := up_isSL ws v _ _ x3 a
    subst ev
    exact ⟨_, rfl, l, _, rfl, sq_of hl, fun p hp => q _ _ ((x2.trans x3).trans (Ex.new hp)) ⟨p, rfl, by rw [upd_same, cut_fromV, List.map_drop]⟩⟩
end
section
variable {K : PySem.W.Frag} {σ : L2.St} {H : Hp} {te ta tb tc tl : TE} {ws us : List Str}
theorem ea_starL {t : TA} {xs ys : List V} (h : EvL te σ H xs) (r : EvA t σ H ys) : EvA (StX.tStar K te t) σ H (xs ++ ys) := fun H1 x1 Q q =>
  h H1 x1 _ fun p H2 hp x2 e => ⟨p, xs, rfl, .inr (sq_of e), r H2 (x1.trans x2) _ fun H3 x3 => q H3 (x2.trans x3)⟩
end
section
variable {K : PySem.W.Frag} {σ : L2.St} {H : Hp} {te ta tb tc tl : TE} {ws us : List Str}
theorem ev_cutTo {a : Str} {n : Int} (ha : Ev ta σ H (.str a)) (hn : Ev tb σ H (.int n)) (l : a.length ≤ 1000) : Ev (L2.tSl rSlS ta tNoPart (tPart tb)) σ H (.str (cutS a none (some n))) := fun H1 x1 Q q =>
  ha H1 x1 _ fun H2 x2 => hn H2 (x1.trans x2) _ fun H3 x3 => ⟨n, rfl, a, rfl, by rw [sizeLine_eq]; omega, q H3 (x2.trans x3)⟩
end
theorem str_nil (a : Str) : Str.empty ++ a = a := str_eq (by rw [cat_cps]; rfl)
theorem cut_take {a : Str} (n : Nat) : (cutS a none (some (n : Int))).cps.toList = a.cps.toList.take n := by
  unfold cutS
  show List.take (HT.sIx a.length a.length (some (n : Int)) - 0) (List.drop 0 a.cps.toList) = _
  have e : HT.sIx a.length a.length (some (n : Int)) = min n a.length := by
    unfold HT.sIx
    show (if (n : Int) < 0 then ((n : Int) + (a.length : Int)).toNat else min ((n : Int).toNat) a.length) = _
    rw [if_neg (by omega), Int.toNat_natCast]
  rw [e, List.drop_zero, Nat.sub_zero]
  rcases Nat.le_total n a.length with h | h
  · rw [Nat.min_eq_left h]
  · rw [Nat.min_eq_right h, List.take_of_length_le (by rw [len_cps]; exact Nat.le_refl _), List.take_of_length_le (by rw [len_cps]; exact h)]
def PlainS (t : Str) : Prop := ∀ c ∈ t.cps.toList, c < 1114112
section
variable {P : Program} {w : World} {K : PySem.W.Frag} {mg : Str → Option Value} {base : Heap}
theorem plain_strOk {t : Str} (h : PlainS t) : PyData.strOk t = true := by
  show t.cps.all (· < 0x110000) = true
  rw [← Array.all_toList, List.all_eq_true]
  exact fun c hc => decide_eq_true (h c hc)
end
section
variable {K : PySem.W.Frag} {σ : L2.St} {H : Hp} {te ta tb tl : TE}
theorem inV_strs (x : Str) (us : List Str) : inV (.str x) (us.map V.str) = decide (x ∈ us) := by
  unfold inV
  rw [List.any_map, Bool.eq_iff_iff, List.any_eq_true, decide_eq_true_eq]
  constructor
  · rintro ⟨u, hu, e⟩
    have e : (u == x) = true := e
    rw [← (beq_iff_eq.mp e)]
    exact hu
  · intro h
    exact ⟨x, h, beq_iff_eq.mpr rfl⟩
end
section
variable {K : PySem.W.Frag} {σ : L2.St} {H : Hp} {te ta tb tl : TE}
theorem flat_strs (us : List Str) : (us.map V.str).all flatV = true := by
  rw [List.all_map, List.all_eq_true]
  exact fun _ _ => rfl
end
section
variable {K : PySem.W.Frag} {σ : L2.St} {H : Hp} {te ta tb tl : TE}
theorem ev_ninSL {x : Str} {us : List Str} (ha : Ev ta σ H (.str x)) (hb : EvP tb σ H (IsSL us)) : Ev (tOp (rIn K true) ta tb) σ H (.bl (!decide (x ∈ us))) := fun H1 x1 Q q =>
  ha H1 x1 _ fun H2 x2 => hb H2 (x1.trans x2) _ fun v H3 x3 ⟨p, e, hp⟩ => by
    subst e
    refine ⟨p, _, rfl, .inl (sq_of hp), rfl, flat_strs us, ?_⟩
    rw [inV_strs]
    exact q H3 (x2.trans x3)
end
section
variable {K : PySem.W.Frag} {σ : L2.St} {H : Hp} {te ta tb tl : TE}
theorem ev_mod2 {n : Nat} (h : Ev ta σ H (.int (n : Int))) : Ev (tOp rModI ta (tC (.int 2))) σ H (.int ((n % 2 : Nat) : Int)) := ev_op h ev_c fun H1 x1 Q q => ⟨(n : Int), 2, rfl, rfl, (show (0 : Int) < 2 by decide), by
  have e : (n : Int) % 2 = ((n % 2 : Nat) : Int) := by omega
  show Q (.int ((n : Int) % 2)) H1
  rw [e]
  exact q H1 (Ex.refl _)⟩
end
section
variable {K : PySem.W.Frag} {σ : L2.St} {H : Hp} {te ta tb tl : TE}
theorem ev_isNat {n m : Nat} (h : Ev ta σ H (.int (n : Int))) : Ev (tOp rEq ta (tC (.int (m : Int)))) σ H (.bl (decide (n = m))) := ev_is (ev_op h ev_c (rv_eq rfl)) (congrArg V.bl (by
  rw [Bool.eq_iff_iff, decide_eq_true_eq, decide_eq_true_eq]
  exact ⟨fun z => by injection z with z; omega, fun z => by rw [z]⟩))
end
section
variable {K : PySem.W.Frag} {σ : L2.St} {H : Hp} {te ta tb tl : TE}
theorem ev_int1 {n : Int} (h : Ev ta σ H (.int n)) : Ev (tCB rInt1 (tCons ta tNil)) σ H (.int n) := ev_cb (ea_cons h ea_nil) fun H1 x1 Q q => .inl ⟨_, rfl, q H1 (Ex.refl _)⟩
end
def NewU (xs : List V) (H : Hp) (Q : VK) : Prop := ∀ p H2, H p = none → Ex H H2 → H2 p = some (.tup xs) → Q (.ref p) H2
theorem mem_jn {c x : Nat} : ∀ {ps : List (List Nat)}, x ∈ SJ.jn c ps → x = c ∨ ∃ p ∈ ps, x ∈ p
  | [], h => by cases h
  | [a], h => by
    rw [SJ.jn_one] at h
    exact .inr ⟨a, List.mem_cons_self, h⟩
  | a :: b :: r, h => by
    rw [SJ.jn_two] at h
    rcases List.mem_append.mp h with h | h
    · exact .inr ⟨a, List.mem_cons_self, h⟩
    · rcases List.mem_cons.mp h with h | h
      · exact .inl h
      · rcases mem_jn h with h | ⟨p, m, h⟩
        · exact .inl h
        · exact .inr ⟨p, List.mem_cons_of_mem _ m, h⟩
theorem jn_mem {c x : Nat} : ∀ {ps : List (List Nat)} {p : List Nat}, p ∈ ps → x ∈ p → x ∈ SJ.jn c ps
  | [a], p, m, h => by
    rw [SJ.jn_one, ← List.mem_singleton.mp m]
    exact h
  | a :: b :: r, p, m, h => by
    rw [SJ.jn_two]
    rcases List.mem_cons.mp m with rfl | m
    · exact List.mem_append_left _ h
    · exact List.mem_append_right _ (List.mem_cons_of_mem _ (jn_mem m h))
theorem jn_len {c : Nat} : ∀ {ps : List (List Nat)}, ps ≠ [] → (SJ.jn c ps).length + 1 = (ps.map (·.length)).sum + ps.length
  | [a], _ => by
    rw [SJ.jn_one]
    simp
  | a :: b :: r, _ => by
    rw [SJ.jn_two]
    have ih := jn_len (c := c) (ps := b :: r) (by simp)
    simp only [List.length_append, List.length_cons, List.map_cons, List.sum_cons] at ih ⊢
    omega
theorem split_jn (t : Str) : t.cps.toList = SJ.jn 32 (SJ.lists (Txt.split t " ")) := by
  have e' : (Txt.join ⟨#[32]⟩ (Txt.split t " ")) = t := SJ.join_of 32 t
  have c := SJ.tjoin_cps 32 (Txt.split t " ")
  rw [e'] at c
  exact c
theorem split_nn (t : Str) : Txt.split t " " ≠ [] := SJ.split_ne t 32
def wt (ws : List Str) : Nat := (ws.map (·.length)).sum + ws.length
theorem split_wt (t : Str) : wt (Txt.split t " ") = t.length + 1 := by
  have z := jn_len (c := 32) (ps := SJ.lists (Txt.split t " ")) (fun z => split_nn t (List.map_eq_nil_iff.mp z))
  rw [← split_jn, len_cps] at z
  unfold wt
  unfold SJ.lists at z
  rw [List.map_map, List.length_map] at z
  have e : List.map ((fun x : List Nat => x.length) ∘ fun w : Str => w.cps.toList) (Txt.split t " ") = (Txt.split t " ").map (·.length) := List.map_congr_left fun w _ => len_cps w
  rw [e] at z
  omega
theorem len_sum {ws : List Str} {w : Str} (h : w ∈ ws) : w.length ≤ (ws.map (·.length)).sum := by
  induction ws with
  | nil => cases h
  | cons a r ih =>
    rw [List.map_cons, List.sum_cons]
    rcases List.mem_cons.mp h with rfl | h
    · omega
    · have := ih h
      omega
theorem word_le {t w : Str} (h : w ∈ Txt.split t " ") : w.length ≤ t.length := by
  have z := split_wt t
  have l := len_sum h
  unfold wt at z
  have := List.length_pos_of_mem h
  omega
theorem word_signs {t w : Str} (hw : w ∈ Txt.split t " ") {x : Nat} (hx : x ∈ w.cps.toList) : x ∈ t.cps.toList := by
  rw [split_jn t]
  exact jn_mem (List.mem_map.mpr ⟨w, hw, rfl⟩) hx
theorem word_plain {t w : Str} (p : PlainS t) (hw : w ∈ Txt.split t " ") : PlainS w := fun c hc => p c (word_signs hw hc)
section
variable {K : PySem.W.Frag} {σ : L2.St} {H : Hp} {te ta tb : TE} {C CP : Addr} {E : XK}
theorem ev_isLst {p : Addr} {xs : List V} (h : Ev te σ H (.ref p)) (hp : H p = some (.lst xs)) : Ev (tCB (rIsi K) (tCons te (tCons (tC (.ty "list")) tNil))) σ H (.bl true) := ev_cb (ea_cons h (ea_cons ev_c ea_nil)) fun H1 x1 Q1 q1 =>
  ⟨.ref p, _, _, _, true, rfl, .ty "list", bty_tyx (.lst (x1 _ _ hp)), kit_ty (by decide +kernel), q1 H1 (Ex.refl _)⟩
end
section
variable {K : PySem.W.Frag} {σ : L2.St} {H : Hp} {te ta tb : TE} {C CP : Addr} {E : XK}
theorem ev_first {p : Addr} {v : V} (h : Ev te σ H (.ref p)) (hp : H p = some (.lst [v])) : Ev (tOp (rIxL K) te (tC (.int 0))) σ H v := ev_op h ev_c (rv_ixL (sq_of hp) (atI_nat (j := 0) rfl))
end
theorem shows_pair : ∀ n : Nat, n < 402 → shows (.tuple [.int 0, .int (n : Int)]) = true := by decide +kernel
def Tx (n : Nat) (t : Str) : Prop := t.length ≤ n ∧ PlainS t
theorem wt_app (a b : List Str) : wt (a ++ b) = wt a + wt b := by
  unfold wt
  rw [List.map_append, List.sum_append, List.length_append]
  omega
theorem wt_cut (ws : List Str) (i : Nat) : wt (ws.take i) + wt (ws.drop i) = wt ws := by
  rw [← wt_app, List.take_append_drop]
theorem wt_take (ws : List Str) (i : Nat) : wt (ws.take i) ≤ wt ws := by
  have := wt_cut ws i
  omega
theorem wt_drop (ws : List Str) (i : Nat) : wt (ws.drop i) ≤ wt ws := by
  have := wt_cut ws i
  omega
theorem wt_drop2 (ws : List Str) {i j : Nat} (h : i ≤ j) : wt (ws.drop j) ≤ wt (ws.drop i) := by
  obtain ⟨d, rfl⟩ := Nat.exists_eq_add_of_le h
  rw [← List.drop_drop]
  exact wt_drop _ _
theorem wt_rev (ws : List Str) : wt ws.reverse = wt ws := by
  unfold wt
  rw [List.map_reverse, List.sum_reverse, List.length_reverse]
theorem join_tx {us : List Str} {n : Nat} (h : wt us ≤ n) (p : ∀ u ∈ us, PlainS u) : Tx n (Txt.join " " us) := by
  have jl := join_len " " us
  have o1 : (" " : Str).length = 1 := rfl
  rw [o1] at jl
  unfold wt at h
  have jl : (Txt.join " " us).length ≤ (us.map (·.length)).sum + us.length * 1 := jl
  refine ⟨by omega, fun c hc => ?_⟩
  have c1 := SJ.tjoin_cps 32 us
  have hc : c ∈ (Txt.join ⟨#[32]⟩ us).cps.toList := hc
  rw [c1] at hc
  rcases mem_jn hc with e | ⟨q, m, hx⟩
  · omega
  · obtain ⟨w, hw, rfl⟩ := List.mem_map.mp m
    exact p w hw c hx
theorem cat_tx {n m : Nat} {a b : Str} (h1 : Tx n a) (h2 : Tx m b) : Tx (n + m) (a ++ b) := ⟨by rw [cat_len]; have := h1.1; have := h2.1; omega, fun c hc => by
  rw [cat_cps] at hc
  rcases List.mem_append.mp hc with h | h
  · exact h1.2 c h
  · exact h2.2 c h⟩
theorem Tx.more {n m : Nat} {t : Str} (h : Tx n t) (l : n ≤ m) : Tx m t := ⟨Nat.le_trans h.1 l, h.2⟩
theorem passE0 {P : Program} {w : World} {X : Cx} : Passes (L2.CX P w) X E0 := fun _ _ _ _ _ _ _ h => by
  obtain ⟨a, B, H', cls, d, _, _, _, _, _, _, _, h⟩ := h
  exact h.elim
section
variable {K : PySem.W.Frag} {mg : Str → Option Value} {σ : L2.St} {H : Hp} {te ta tb tl : TE} {C CP : Addr} {E : XK} {ws us : List (Str × Str)}
theorem evp_var {Pz : V → Hp → Prop} {i : Nat} {v : V} (up : Up Pz) (e : σ[i]? = some (some v)) (h : Pz v H) : EvP (tVar i) σ H Pz := fun H1 x1 Q q => ⟨v, e, q v H1 (Ex.refl _) (up _ _ _ x1 h)⟩
end
theorem lam_run {TT : (XK → Hp → VK → Prop) → Hp → VK → Prop} {t : XK → TE} {σ : L2.St} {H : Hp} {Q : VK} (hT : LamX.Tabs T H) (h : ∀ H1, ExT H H1 → LamX.Tabs T H1 → TT (fun E H' Q' => t E σ H' Q') H1 Q) : LamX.tLam T TT t σ H Q := ⟨hT, h⟩
theorem tabs_but {T : List (Addr × Str)} {P L : Addr} {ns : List Int} {s : Nat} {g : Int} {H H' : Hp} (t : LamX.Tabs T H) (x : But P H H') (p : Pen H P L ns s g) : LamX.Tabs T H' := fun q hq => by
  obtain ⟨ps, h1, h2, h3⟩ := t q hq
  refine ⟨ps, x _ _ (fun z => by rw [z, p.pen] at h1; cases h1) h1, h2, fun pos cv hc => ?_⟩
  obtain ⟨c, e1, e2⟩ := h3 pos cv hc
  exact ⟨c, e1, x _ _ (fun z => by rw [z, p.pen] at e2; cases e2) e2⟩
def Kp (P : Addr) (H H' : Hp) : Prop := ∀ b o, b ≠ P → H b = some o → (∀ ps, o ≠ .tbl ps) → H' b = some o
theorem Kp.refl (P : Addr) (H : Hp) : Kp P H H := fun _ _ _ h _ => h
theorem Kp.trans {P : Addr} {H H1 H2 : Hp} (a : Kp P H H1) (b : Kp P H1 H2) : Kp P H H2 := fun x o n h t => b x o n (a x o n h t) t
theorem kp_but {P : Addr} {H H' : Hp} (x : But P H H') : Kp P H H' := fun b o n h _ => x b o n h
theorem kp_ext {P : Addr} {H H' : Hp} (x : ExT H H') : Kp P H H' := fun b o _ h t => x b o h t
theorem takes_len {X : Cx} {W : WX} (t : Takes X W) : Takes X fun cls d σ H => σ.length = X.N.length → W cls d σ H := fun u s' ⟨a, B, sI, pins, σ, H, cls, d, e, I, nb, up, sky, na, os, ag, w⟩ =>
  t u s' ⟨a, B, sI, pins, σ, H, cls, d, e, I, nb, up, sky, na, os, ag, w I.len⟩
end K02

set_option Elab.async false
set_option linter.all false
set_option maxRecDepth 100000
set_option maxHeartbeats 4000000
/-! == of two dicts of the same integers; dicts of integers -/
namespace K02
open PySem PySem.Spec PyProof.Rows L2 Evl KU
def kvN (ks : List (Str × Int)) : List (Key × V) := ks.map fun q => (Sum.inr q.1, V.int q.2)
theorem kvN_len (ks : List (Str × Int)) : (kvN ks).length = ks.length := List.length_map _
theorem kvN_keys (ks : List (Str × Int)) : (kvN ks).map (·.1) = (ks.map (·.1)).map Sum.inr := by
  unfold kvN
  rw [List.map_map, List.map_map]
  rfl
def rEqDI : R2 := fun x y H Q => ∃ (a b : Addr) (ks : List (Str × Int)), x = .ref a ∧ y = .ref b ∧ H a = some (.dK (kvN ks)) ∧ H b = some (.dK (kvN ks)) ∧ (ks.map (·.1)).Nodup ∧ Q (.bl true) H
theorem hits_same {prog : Program} {w : World} {A : Around} {s : Shared} {kb : List (Key × Value)} : ∀ {ks : List (Str × Int)} {va vb : List (Key × Value)}, KV (kvN ks) va → KV (kvN ks) vb → (∀ q ∈ vb, valueAt kb q.1 = some q.2) → PySem.W.KeqHitsP prog w A s kb va true
  | [], va, vb, h1, h2, _ => by
    cases h1
    exact .nil
  | q :: r, va, vb, h1, h2, hb => by
    cases h1 with
    | @cons p1 pa _ ra e1 t1 =>
      cases h2 with
      | @cons p2 pb _ rb e2 t2 =>
        obtain ⟨k1, v1⟩ := pa
        obtain ⟨k2, v2⟩ := pb
        obtain ⟨f1, g1⟩ := e1
        obtain ⟨f2, g2⟩ := e2
        have f1 : (Sum.inr q.1 : Key) = k1 := f1
        have f2 : (Sum.inr q.1 : Key) = k2 := f2
        subst f1 f2
        have z := hits_same (prog := prog) (w := w) (A := A) (s := s) (ks := r) (kb := kb) t1 t2 fun q hq => hb q (List.mem_cons_of_mem _ hq)
        have y := hb _ List.mem_cons_self
        have eq : SeqAt.EqP prog w A s v1 v2 true := by
          have e := eqAt_V (A := A) (s := s) g1 g2 rfl rfl
          have b : eqV (V.int q.2) (V.int q.2) = true := beq_iff_eq.mpr rfl
          rw [b] at e
          exact e.eqP
        exact .hit (e := true) (b := true) y eq z
theorem val_nodup : ∀ {ks : List (Str × Int)} {vb : List (Key × Value)}, KV (kvN ks) vb → (ks.map (·.1)).Nodup → ∀ q ∈ vb, valueAt vb q.1 = some q.2
  | [], vb, h, _, q, hq => by
    cases h
    cases hq
  | p :: r, vb, h, nd, q, hq => by
    cases h with
    | @cons p1 pb _ rb e t =>
      obtain ⟨k, v⟩ := pb
      obtain ⟨f, g⟩ := e
      have f : (Sum.inr p.1 : Key) = k := f
      subst f
      rw [List.map_cons, List.nodup_cons] at nd
      unfold valueAt
      rcases List.mem_cons.mp hq with rfl | hq
      · rw [List.find?_cons_of_pos (by simp)]
        rfl
      · have ih := val_nodup t nd.2 q hq
        have kn : ∀ {ks : List (Str × Int)} {vs : List (Key × Value)}, KV (kvN ks) vs → ∀ q ∈ vs, q.1 ∈ (ks.map (·.1)).map (Sum.inr : Str → Key) := fun {ks vs} h => by
          induction ks generalizing vs with
          | nil =>
            cases h
            intro q hq
            cases hq
          | cons a b ih2 =>
            cases h with
            | cons e t =>
              intro q hq
              rcases List.mem_cons.mp hq with rfl | hq
              · rw [← e.1]
                exact List.mem_cons_self
              · exact List.mem_cons_of_mem _ (ih2 t q hq)
        have m := kn t q hq
        obtain ⟨k2, hk2, e2⟩ := List.mem_map.mp m
        have ne : ¬ ((Sum.inr p.1 : Key) = q.1) := fun z => nd.1 (by
          rw [← e2] at z
          rw [Sum.inr.inj z]
          exact hk2)
        rw [List.find?_cons_of_neg (by simpa using ne)]
        exact ih
theorem op_eqDI {X : Cx} (hu : X.A.units < cLine) : OpR X (compareOp .Eq) rEqDI := by
  intro pins s σ H x y v u Q I rx ry h
  obtain ⟨a, b, ks, rfl, rfl, ha, hb, nd, q⟩ := h
  cases rx
  cases ry
  obtain ⟨_, na, va, k1, d1⟩ := dk_of I.hok ha
  obtain ⟨_, nb, vb, k2, d2⟩ := dk_of I.hok hb
  have l1 : va.length = ks.length := by rw [← Paired.length k1, kvN_len]
  have l2 : vb.length = ks.length := by rw [← Paired.length k2, kvN_len]
  refine PySem.W.rcP_dicts na nb d1 d2 hu (r := true) (fun _ => hits_same k1 k2 (val_nodup k2 nd)) _ _ ?_
  rw [l1, l2, Bool.and_true, beq_iff_eq.mpr rfl]
  exact ⟨.bl true, H, I, rfl, q⟩
end K02

set_option Elab.async false
set_option linter.all false
set_option maxRecDepth 100000
set_option maxHeartbeats 4000000
/-! prices.py: is_integer, is_price, are_of_signs, filled -/
namespace K02
open PySem PySem.Spec PyProof.Rows L2 Evl KU
section
variable {K : PySem.W.Frag} {σ : L2.St} {H : Hp} {te tl : TE}
theorem ev_isT {v : V} {T U : String} {b : Bool} (h : Ev te σ H v) (t : ∀ H1, Ex H H1 → BTy H1 v T) (e : PySem.W.kitOne K (.type T) (.type U) = some b) : Ev (tCB (rIsi K) (tCons te (tCons (tC (.ty U)) tNil))) σ H (.bl b) := ev_cb (ea_cons h (ea_cons ev_c ea_nil)) fun H1 x1 Q1 q1 =>
  ⟨v, _, _, _, b, rfl, .ty U, bty_tyx (t H1 x1), e, q1 H1 (Ex.refl _)⟩
end
def spIsInt : Sp := fun vs H Q _ => ∃ n : Int, vs = [.int n] ∧ RetV (.bl true) H Q
def isPriceB (n : Int) : Bool := decide (1 ≤ n) && decide (n ≤ 9)
def spIsPrice : Sp := fun vs H Q _ => ∃ n : Int, vs = [.int n] ∧ RetV (.bl (isPriceB n)) H Q
theorem scIsInt : FnScope ["value"] ["value"] (defScope (topR 12)) := ⟨rfl, rfl, rfl, by decide +kernel, rfl, by decide +kernel, by decide +kernel⟩
theorem scIsPrice : FnScope ["value"] ["value"] (defScope (topR 24)) := ⟨rfl, rfl, rfl, by decide +kernel, rfl, by decide +kernel, by decide +kernel⟩
/-- what is told for the signs: nothing, or a dict of numbers -/
inductive Told (H : Hp) : V → Option (List (Str × Int)) → Prop where
  | non : Told H .non none
  | dic {p : Addr} {ks : List (Str × Int)} : H p = some (.dK (kvN ks)) → Told H (.ref p) (some ks)
theorem Told.mono {H H' : Hp} {v : V} {o : Option (List (Str × Int))} (x : Ex H H') (h : Told H v o) : Told H' v o := by
  cases h with
  | non => exact .non
  | dic h => exact .dic (x _ _ h)
def valN (ks : List (Str × Int)) (s : Str) : Int := match valV (kvN ks) (Sum.inr s) with
  | some (.int n) => n
  | _ => 1
def numOf (o : Option (List (Str × Int))) (s : Str) : Int := match o with
  | none => 1
  | some ks => valN ks s
def fillK (al : Str) (o : Option (List (Str × Int))) : List (Str × Int) := (signsL al).map fun s => (s, numOf o s)
def GoodT (al : Str) (o : Option (List (Str × Int))) : Prop := match o with
  | none => True
  | some ks => ks.length ≤ 40 ∧ (∀ q ∈ ks, isSgnV (.str q.1) al = true) ∧ ∀ q ∈ ks, isPriceB q.2 = true
def spOfSigns : Sp := fun vs H Q _ => ∃ (v : V) (al : Str) (o : Option (List (Str × Int))), vs = [v, .str al] ∧ Told H v o ∧ GoodT al o ∧ RetV (.bl true) H Q
theorem scOfSigns : FnScope ["told", "signs", "key"] ["told", "signs"] (defScope (topR 25)) := ⟨rfl, rfl, rfl, by decide +kernel, rfl, by decide +kernel, by decide +kernel⟩
/-- a dict of these numbers -/
def IsN (ks : List (Str × Int)) : V → Hp → Prop := fun v H => ∃ D : Addr, v = .ref D ∧ H D = some (.dK (kvN ks))
theorem up_isN (ks : List (Str × Int)) : Up (IsN ks) := fun v H H' x ⟨D, e, h⟩ => ⟨D, e, x _ _ h⟩
def spFilled : Sp := fun vs H Q _ => ∃ (v : V) (al : Str) (o : Option (List (Str × Int))), vs = [v, .str al] ∧ Told H v o ∧ GoodT al o ∧ al.length ≤ 1000 ∧ (signsL al).Nodup ∧ ∀ w H', Ex H H' → IsN (fillK al o) w H' → Q w H'
abbrev nFilled : List Str := ["told", "signs", "sign", "value"]
theorem scFilled : FnScope nFilled ["told", "signs"] (defScope (topR 26)) := ⟨rfl, rfl, rfl, by decide +kernel, rfl, by decide +kernel, by decide +kernel⟩
theorem put_newN {ks : List (Str × Int)} {s : Str} {n : Int} (h : s ∉ ks.map (·.1)) : putK (kvN ks) (Sum.inr s) (.int n) = kvN (ks ++ [(s, n)]) := by
  unfold putK
  rw [if_neg (by
    rw [List.any_eq_true]
    rintro ⟨q, hq, e⟩
    unfold kvN at hq
    obtain ⟨r, hr, rfl⟩ := List.mem_map.mp hq
    have e : (Sum.inr r.1 : Key) = Sum.inr s := of_decide_eq_true e
    exact h (List.mem_map.mpr ⟨r, hr, Sum.inr.inj e⟩))]
  unfold kvN
  rw [List.map_append]
  rfl
section
variable {K : PySem.W.Frag} {σ : L2.St} {H : Hp} {te tl : TE}
/-- {sign: number for sign in a text} -/
theorem evp_dcN {te tk tv : TE} {σ : L2.St} {H : Hp} {j : Nat} {vs : List Nat} {z : Str} (v : Str → Int) (hx : Ev te σ H (.str z)) (nd : (signsL z).Nodup) (few : z.length ≤ 1000) (hw : ∀ x : V, wipe ((wipe σ vs).set j (some x)) vs = wipe σ vs)
    (h1 : ∀ s ∈ signsL z, ∀ H1, Ex H H1 → Ev tk ((wipe σ vs).set j (some (.str s))) H1 (.str s)) (h2 : ∀ s ∈ signsL z, ∀ H1, Ex H H1 → Ev tv ((wipe σ vs).set j (some (.str s))) H1 (.int (v s))) :
    EvP (tDc (iStr te) (gName j) tYes tk tv vs) σ H (IsN ((signsL z).map fun s => (s, v s))) := fun H1 x1 Q q =>
  hx H1 x1 _ fun H2 x2 => ⟨z, rfl, fun D hD => by
    have x12 := x1.trans x2
    have w := walk_signsG (z := z)
    have lz := signsL_len z
    refine dc_it w (Pv := fun n H' => Ex H2 H' ∧ H' D = some (.dK (kvN (((signsL z).take n).map fun s => (s, v s))))) ⟨Ex.new hD, upd_same⟩ (fun n H' _ c => trivial) (fun n x H3 H4 hn c y => ?_) fun H3 c => ?_
    · obtain ⟨rfl, hx'⟩ := y
      rw [List.getElem?_map] at hx'
      obtain ⟨s, hs, rfl⟩ := Option.map_eq_some_iff.mp hx'
      have ms := List.mem_of_getElem? hs
      have x3 := x12.trans c.1
      refine ⟨hw _, ?_⟩
      unfold tYes
      dsimp only
      rw [if_pos rfl]
      refine h1 s ms H4 x3 H4 (Ex.refl _) _ fun H5 x5 => ?_
      refine h2 s ms H4 x3 H5 x5 _ fun H6 x6 => ?_
      have x46 := x5.trans x6
      refine ⟨_, Sum.inr s, rfl, x46 _ _ c.2, ?_, ?_, ?_⟩
      · rw [kvN_len, List.length_map, List.length_take, sizeLine_eq]
        omega
      · intro b o hb
        rw [upd_ne (ne_of_none hb hD)]
        exact x46 _ _ (c.1 _ _ hb)
      · have nin : s ∉ (((signsL z).take n).map fun s => (s, v s)).map (·.1) := by
          rw [List.map_map]
          intro y
          obtain ⟨s1, m1, e1⟩ := List.mem_map.mp y
          have e1 : s1 = s := e1
          obtain ⟨m, hm, rfl⟩ := List.getElem_of_mem m1
          rw [List.length_take] at hm
          rw [List.getElem_take] at e1
          have g1 : (signsL z)[m]? = some s := by rw [List.getElem?_eq_getElem (by omega), ← e1]
          have := nd_idx nd g1 hs
          omega
        rw [upd_same, put_newN nin, List.take_succ, hs, List.map_append]
        rfl
    · rw [List.length_map, List.take_length] at c
      exact q _ H3 (x2.trans c.1) ⟨D, rfl, c.2⟩⟩
theorem ext_unlock {d : Addr} {u : HO} {od : Obj} {H H' : Hp} (hd : H d = some u) (x : Ex (upd H d (.frz od u)) H') : Ex H (upd H' d u) := fun b o hb => by
  by_cases e : b = d
  · rw [e, upd_same]
    rw [e, hd] at hb
    exact hb
  · rw [upd_ne e]
    exact x _ _ (by rw [upd_ne e]; exact hb)
/-- for value in told.values(): .. -/
theorem q_lockValsN {tb tz : TS} {D : L2.Ends} {d : Addr} {i j : Nat} {ks : List (Str × Int)} (hd : H d = some (.dK (kvN ks))) (hσ : ∀ y, (σ.set j y)[i]? = some (some (.ref d))) (h0 : ∃ y, σ = σ.set j y)
    (hb : ∀ a ∈ ks.map (·.2), ∀ (H' : Hp) (Dn : L2.Ends), (∀ H2, Ex H' H2 → Dn.nx (σ.set j (some (.int a))) H2) → tb Dn (σ.set j (some (.int a))) H') (k : ∀ y H', Ex H H' → tz D (σ.set j y) H') : tSeq (tLock (tFor (iVals (tVar i)) (gName j) tb)) tz D σ H := by
  obtain ⟨y0, e0⟩ := h0
  refine ⟨d, _, hd, trivial, fun od => ?_⟩
  refine ⟨_, by rw [e0]; exact hσ y0, d, od, _, rfl, upd_same, ?_⟩
  refine for_it (walk_values (d := d) (o := od) (kvs := kvN ks)) (fun n σ' H' => (∃ y, σ' = σ.set j y) ∧ Ex (upd H d (.frz od (.dK (kvN ks)))) H') ⟨⟨y0, e0⟩, Ex.refl _⟩ (fun n σ' H' _ p => p.2 _ _ upd_same) (fun n x σ' H' H2 hn p y => ?_) fun σ' H' p => ?_
  · obtain ⟨⟨y1, rfl⟩, x1⟩ := p
    obtain ⟨rfl, kk, e2⟩ := y
    have m : x ∈ (kvN ks).map (·.2) := List.mem_map.mpr ⟨_, List.mem_of_getElem? e2, rfl⟩
    have e : (kvN ks).map (·.2) = (ks.map (·.2)).map V.int := by
      unfold kvN
      rw [List.map_map, List.map_map]
      rfl
    rw [e] at m
    obtain ⟨a, ha, rfl⟩ := List.mem_map.mp m
    refine (?_ : tb _ ((σ.set j y1).set j (some (.int a))) H2)
    rw [List.set_set]
    exact hb a ha H2 _ fun H3 x3 => ⟨⟨_, rfl⟩, x1.trans x3⟩
  · obtain ⟨⟨y1, rfl⟩, x1⟩ := p
    exact ⟨x1 _ _ upd_same, k y1 _ (ext_unlock hd x1)⟩
end
section
variable {P : Program} {w : World} {K : PySem.W.Frag} {mg : Str → Option Value} {base : Heap}
theorem ok_isInt {f : Addr} {fd : FuncData} (F : Fun K "is_integer" "is_integer" (topR 12) f fd) (T : Free mg) (gB : mg "bool" = none) : FnOk P w K mg base CX0 1 f fd ["value"] spIsInt := by
  refine F.ok scIsInt (fun vs H Q E h => ?_) (fun cdv A outer s H vs Q E hr h => ?_)
  · obtain ⟨_, rfl, _⟩ := h
    rfl
  · obtain ⟨n, rfl, k⟩ := h
    refine ⟨_, pss_one (ps_ret (pe_and (pe_callB call_isi (by rfl) T.isinstance (by decide +kernel) (pa_cons (pv 0) (pa_cons (pe_bltn (v := .ty "int") (by rfl) T.int (by decide +kernel) rfl) pa_nil)))
      (pe_one (pe_not (pe_callB call_isi (by rfl) T.isinstance (by decide +kernel) (pa_cons (pv 0) (pa_cons (pe_bltn (v := .ty "bool") (by rfl) gB (by decide +kernel) rfl) pa_nil))))))), ?_⟩
    refine s_ret (v := .bl true) (ev_is (ev_andV (a := true) (b := true) (ev_isT (ev_var rfl) (fun _ _ => .int n) (kit_ty (by decide +kernel))) fun _ => ev_is (ev_notV (ev_isT (b := false) (ev_var rfl) (fun _ _ => .int n) (kit_ty (by decide +kernel)))) rfl) rfl) k
theorem ok_isPrice {f fI : Addr} {fd fdI : FuncData} (F : Fun K "is_price" "is_price" (topR 24) f fd) (T : Free mg) (gM : ∃ t, mg "MOST_PRICE" = some (.int 9 t))
    (GI : FnOk P w K mg base CX0 1 fI fdI ["value"] spIsInt) (bI : Binds K fdI ["value"] []) (gI : mg "is_integer" = some (.ref fI)) (kI : PySem.W.keepIn K (.ref fI) = true) : FnOk P w K mg base CX0 2 f fd ["value"] spIsPrice := by
  obtain ⟨tm, gM⟩ := gM
  refine F.ok scIsPrice (fun vs H Q E h => ?_) (fun cdv A outer s H vs Q E hr h => ?_)
  · obtain ⟨_, rfl, _⟩ := h
    rfl
  · obtain ⟨n, rfl, k⟩ := h
    refine ⟨_, pss_one (ps_ret (pe_and (pe_call GI hr (by rfl) gI kI bI .nil pass0 (pa_cons (pv 0) pa_nil)) (pe_one (pe_chain op_le op_le pe_int (pv 0) (pe_glob (v := .int 9) rfl gM ⟨_, rfl⟩))))), ?_⟩
    refine s_ret (v := .bl (isPriceB n)) (ev_is (ev_andV (a := true) (b := isPriceB n) (ev_call (ea_cons (ev_var rfl) ea_nil) fun H1 x1 Q1 q1 E1 => ⟨n, rfl, q1⟩) fun _ => ev_chainI ev_c (ev_var rfl) ev_c) (by rw [Bool.true_and])) k
theorem ok_ofSigns {f fG : Addr} {fd fdG : FuncData} (F : Fun K "are_of_signs" "are_of_signs" (topR 25) f fd) (T : Free mg) (gD : mg "dict" = none)
    (GG : FnOk P w K mg base CX0 1 fG fdG ["value", "signs"] (spIsSgn K)) (bG : Binds K fdG ["value", "signs"] []) (gG : mg "is_sign" = some (.ref fG)) (kG : PySem.W.keepIn K (.ref fG) = true) : FnOk P w K mg base CX0 2 f fd ["told", "signs"] spOfSigns := by
  refine F.ok scOfSigns (fun vs H Q E h => ?_) (fun cdv A outer s H vs Q E hr h => ?_)
  · obtain ⟨_, _, _, rfl, _⟩ := h
    rfl
  · obtain ⟨v, al, o, rfl, ht, G, k⟩ := h
    have nd := scOfSigns.nd
    refine ⟨_, pss_cons (ps_if (pt_cmpR op_isN (pv 0) pe_non (nomark _)) (pss_one (ps_ret pe_bl)) pss_nil)
      (pss_one (ps_ret (pe_and (pe_callB call_isi (by rfl) T.isinstance (by decide +kernel) (pa_cons (pv 0) (pa_cons (pe_bltn (v := .ty "dict") (by rfl) gD (by decide +kernel) rfl) pa_nil)))
        (pe_one (pe_callB (cr_all rfl) (by rfl) T.all (by decide +kernel) (pa_cons (pe_lock (pe_lc (own := [("key", 2)]) (wi := iKeys (tVar 0)) (g := gName 2) (tt := tYes) (te := tCall (spIsSgn K) [] E0 (tCons (tVar 2) (tCons (tVar 1) tNil))) rfl nd (by exact pi_keys (pv 0)) (by refine blkOk_by (own := [("key", 2)]) (N := ["told", "signs", "key"]) (sc := defScope (topR 25)) ?_; decide +kernel)
          (fun _ _ _ _ _ => pg_name (i := 2) nd rfl (Or.inl rfl)) (fun _ _ _ _ _ => pts_nil) (fun _ _ _ _ _ => pe_call GG (hr.mono (by decide)) (by rfl) gG kG bG .nil pass0 (pa_cons (pv 2) (pa_cons (pv 1) pa_nil))))) pa_nil)))))), ?_⟩
    cases ht with
    | non =>
      refine q_when (b := true) (et_test (ev_op (ev_var rfl) ev_c fun H1 x1 Q1 q1 => ⟨rfl, q1 H1 (Ex.refl _)⟩)) (fun _ H1 x1 => s_ret ev_c fun H2 x2 => k H2 (x1.trans x2)) (fun z => by cases z)
    | @dic p ks hp =>
      obtain ⟨few, sg, pr⟩ := G
      refine q_when (b := false) (et_test (ev_op (ev_var rfl) ev_c fun H1 x1 Q1 q1 => ⟨rfl, q1 H1 (Ex.refl _)⟩)) (fun z => by cases z) fun _ H1 x1 => ?_
      refine s_ret (v := .bl true) (ev_is (ev_andV (a := true) (b := true) (ev_isDict (ev_var rfl) (x1 _ _ hp)) fun _ => ?_) rfl) fun H2 x2 => k H2 (x1.trans x2)
      have z := el_lockE (tl := tLc (iKeys (tVar 0)) (gName 2) tYes (tCall (spIsSgn K) [] E0 (tCons (tVar 2) (tCons (tVar 1) tNil))) [2]) (σ := start ["told", "signs", "key"] [.ref p, .str al]) (xs := ((kvN ks).map fun _ => true).map V.bl) (x1 _ _ hp) trivial fun od H2 x2 => by
        have z := el_fmK (σ := start ["told", "signs", "key"] [.ref p, .str al]) (H := upd H2 p (.frz od (.dK (kvN ks)))) (te := tCall (spIsSgn K) [] E0 (tCons (tVar 2) (tCons (tVar 1) tNil))) (tl := tVar 0) (t := tYes) (j := 2) (vs := [2]) (d := p) (fun _ => true) (fun _ => .bl true)
          (ev_var rfl) upd_same (by rw [kvN_len]; omega) (fun _ => rfl) (fun _ _ _ _ => et_yes) (fun x H4 x4 m _ => by
            obtain ⟨q, hq, rfl⟩ := List.mem_map.mp m
            unfold kvN at hq
            obtain ⟨r, hr2, rfl⟩ := List.mem_map.mp hq
            have l1 := key_len (sg r hr2)
            have s1 := sg r hr2
            refine ev_is (ev_call (z := .bl (isSgnV (.str r.1) al)) (ea_cons (ev_var rfl) (ea_cons (ev_var rfl) ea_nil)) fun H5 x5 Q5 q5 E5 => ⟨.str r.1, al, rfl, .str _ (by omega), q5⟩) (by rw [s1]))
        rw [all_str, List.map_map] at z
        rw [List.map_map]
        exact z
      exact ev_is (ev_allN z) (by
        refine congrArg V.bl ?_
        rw [List.all_eq_true]
        intro b hb
        obtain ⟨_, _, rfl⟩ := List.mem_map.mp hb
        rfl)
theorem ok_filled {f fP : Addr} {fd fdP : FuncData} (F : Fun K "filled" "filled" (topR 26) f fd) (T : Free mg)
    (GP : FnOk P w K mg base CX0 2 fP fdP ["value"] spIsPrice) (bP : Binds K fdP ["value"] []) (gP : mg "is_price" = some (.ref fP)) (kP : PySem.W.keepIn K (.ref fP) = true) : FnOk P w K mg base CX0 3 f fd ["told", "signs"] spFilled := by
  refine F.ok scFilled (fun vs H Q E h => ?_) (fun cdv A outer s H vs Q E hr h => ?_)
  · obtain ⟨_, _, _, rfl, _⟩ := h
    rfl
  · obtain ⟨v, al, o, rfl, ht, G, la, ndS, k⟩ := h
    have nd := scFilled.nd
    refine ⟨_, pss_cons (ps_if (pt_cmpR op_isN (pv 0) pe_non (nomark _)) (pss_one (ps_ret (pe_dc (own := [("sign", 2)]) (wi := iStr (tVar 1)) (g := gName 2) (tt := tYes) rfl nd (by exact pi_str (pv 1)) (by refine blkOk_by (own := [("sign", 2)]) (N := nFilled) (sc := defScope (topR 26)) ?_; decide +kernel)
          (fun _ _ _ _ _ => pg_name (i := 2) nd rfl (Or.inl rfl)) (fun _ _ _ _ _ => pts_nil) (fun _ _ _ _ _ => pv 2) (fun _ _ _ _ _ => pe_int)))) pss_nil)
      (pss_cons (ps_lock (ps_for PassesOwn.never rfl (pi_values (pv 0)) (pg_name (i := 3) nd rfl (.inl rfl)) (pss_one (ps_if (pt_not (pt_val (pe_call GP (hr.mono (by decide)) (by rfl) gP kP bP .nil pass0 (pa_cons (pv 3) pa_nil)))) (pss_one ps_never) pss_nil))))
      (pss_one (ps_ret (pe_dc (own := [("sign", 2)]) (wi := iStr (tVar 1)) (g := gName 2) (tt := tYes) rfl nd (by exact pi_str (pv 1)) (by refine blkOk_by (own := [("sign", 2)]) (N := nFilled) (sc := defScope (topR 26)) ?_; decide +kernel)
          (fun _ _ _ _ _ => pg_name (i := 2) nd rfl (Or.inl rfl)) (fun _ _ _ _ _ => pts_nil) (fun _ _ _ _ _ => pv 2) (fun _ _ _ _ _ => pe_dget2 (hu_of hr) (pv 0) (pv 2) pe_int ⟨rfl, rfl, rfl, rfl⟩))))), ?_⟩
    cases ht with
    | non =>
      refine q_when (b := true) (et_test (ev_op (ev_var rfl) ev_c fun H1 x1 Q1 q1 => ⟨rfl, q1 H1 (Ex.refl _)⟩)) (fun _ H1 x1 => ?_) (fun z => by cases z)
      exact s_retP (P := IsN (fillK al none)) (evp_dcN (fun _ => 1) (ev_var rfl) ndS la (fun _ => rfl) (fun s hs H2 x2 => ev_var rfl) fun s hs H2 x2 => ev_c) fun v H2 x2 h => k v H2 (x1.trans x2) h
    | @dic p ks hp =>
      obtain ⟨few, sg, pr⟩ := G
      refine q_when (b := false) (et_test (ev_op (ev_var rfl) ev_c fun H1 x1 Q1 q1 => ⟨rfl, q1 H1 (Ex.refl _)⟩)) (fun z => by cases z) fun _ H1 x1 => ?_
      refine q_lockValsN (ks := ks) (x1 _ _ hp) (fun y => rfl) ⟨_, rfl⟩ (fun a ha H' Dn k' => ?_) fun y2 H3 x3 => ?_
      · obtain ⟨q, hq, rfl⟩ := List.mem_map.mp ha
        refine s_when (b := false) (et_is (et_not (et_B (ev_call (z := .bl (isPriceB q.2)) (ea_cons (ev_var rfl) ea_nil) fun H3 x3 Q3 q3 E3 => ⟨q.2, rfl, q3⟩))) (by rw [pr q hq]; rfl)) (fun z => by cases z) fun _ H3 x3 => k' H3 x3
      have x13 := x1.trans x3
      refine s_retP (P := IsN (fillK al (some ks))) (evp_dcN (fun s => valN ks s) (ev_var rfl) ndS la (fun _ => rfl) (fun s hs H2 x2 => ev_var rfl) fun s hs H2 x2 => ?_) fun v H2 x2 h => k v H2 (x13.trans x2) h
      refine fun H4 x4 Q q => ⟨_, rfl, p, rfl, .inl ⟨_, .inl (x4 _ _ (x2 _ _ (x13 _ _ hp)))⟩, _, rfl, ⟨_, .inl ⟨_, Sum.inr s, .inl (x4 _ _ (x2 _ _ (x13 _ _ hp))), rfl, rfl⟩, ?_⟩⟩
      have e : (valV (kvN ks) (Sum.inr s)).getD (.int 1) = .int (valN ks s) := by
        unfold valN
        cases h : valV (kvN ks) (Sum.inr s) with
        | none => rfl
        | some u =>
          unfold valV at h
          obtain ⟨r, hr2, rfl⟩ := Option.map_eq_some_iff.mp h
          have m := List.mem_of_find?_eq_some hr2
          unfold kvN at m
          obtain ⟨t, _, rfl⟩ := List.mem_map.mp m
          rfl
      exact e ▸ q H4 (Ex.refl _)
end
end K02

set_option Elab.async false
set_option linter.all false
set_option maxRecDepth 100000
set_option maxHeartbeats 4000000
/-! Own classes: truth by len; != by the own == -/
namespace KU
open PySem PySem.Spec PyProof.Rows L2
section
variable {X : Cx} {CX : CXT} {pins : List (Addr × Obj)} {σ : L2.St} {H : Hp} {s : Shared} {C g : Addr} {n : Nat} {sp : Sp} {E : XK}
theorem spec_ins {M : Model} {A : Around} {Ex : Value → Shared → Prop} {Q : Option Value → Shared → Prop} {a : Addr} {ox : Obj} {od : Option Obj} {name : Str} {r : Option Value} (kin : X.K.In s.heap) (J : PySem.W.InstAt s.heap a ox C od)
    (nb : PySem.W.findIn X.K (.ref C) name = some r) (q : Q r s) : wpAny M A (specialOf (.ref a) name) Q Ex s := by
  unfold specialOf
  exact wpAny_bind (J.type _ _ _ _ (fun _ _ h => h) (PySem.W.looks_findIn kin nb _ _ _ _ (fun _ _ h => h) q))
/-- the truth of an instance whose class has __len__ and no __bool__ -/
theorem truthy_lenI {a dx : Addr} {fs : List (Str × V)} {Q : Bool → Hp → Prop} {A : Around} (nb : PySem.W.findIn X.K (.ref C) "__bool__" = some none) (hs : PySem.W.findIn X.K (.ref C) "__len__" = some (some (.ref g))) (hf : PySem.W.isFn X.K (.ref g) = true)
    (F : FnR X.prog X.w X.K X.mg X.base CX n g sp) (hr : Room (n + 1) A) (e0 : Env0 X.prog X.w X.K X.mg X.base A X.stack s H) (hx : Passes CX X E) (I : Inv X pins σ H s) (ha : H a = some (.ins C dx fs))
    (q : sp [.ref a] H (fun z H' => ∃ k : Nat, z = .int (k : Int) ∧ k < 9223372036854775808 ∧ Q (decide (k ≠ 0)) H') E) :
    wpAny (model X.prog X.w) A (truthy (.ref a)) (fun b s' => ∃ H', Inv X pins σ H' s' ∧ Q b H') X.xe s := by
  obtain ⟨od, Ja⟩ := ins_at I ha
  obtain ⟨m, fr⟩ := I.fr
  unfold truthy callSpecial?
  refine wpAny_bind (wpAny_bind (spec_ins I.kIn Ja nb (wpAny_pure ?_)))
  refine wpAny_bind (spec_ins I.kIn Ja hs ?_)
  rw [if_neg (by simp)]
  refine wpAny_bind (runValue_entry (b := Builtin.len) rfl ?_)
  unfold Builtin.len
  show wpAny _ _ (oneArg "len" ⟨[.ref a], []⟩ >>= _) _ _ _
  refine wpAny_bind (wpAny_pure ?_)
  refine wpAny_bind (PySem.W.special_fn I.kIn Ja hs (by unfold PySem.W.isFn at hf; exact eq_of_beq hf) ?_)
  have eA : A.under (Code.builtin "len" ⟨[.ref a], []⟩) = A.in1 := rfl
  rw [eA]
  refine wpAny_mono (own_call F hr.in1 e0.in1 hx I (vs := [.ref a]) (.cons rfl .nil) q) (fun u s' ⟨z, H', I', rz, k, ez, hk, qz⟩ => ?_) fun e s' z => z
  subst ez
  obtain ⟨t, rfl⟩ := rz
  refine wpAny_bind (wpAny_holding (wpAny_pure ?_))
  refine wpAny_bind (wpAny_letGo ?_)
  rw [if_neg (by omega), if_neg (by omega)]
  refine wpAny_bind (thn (Q := fun v s2 => v = Value.int k s'.toks ∧ s2 = { s' with toks := s'.toks + 1 }) ?_ fun v s2 ⟨e1, e2⟩ => ?_)
  · exact wpAny_mkInt ⟨rfl, rfl⟩
  subst e1
  subst e2
  refine wpAny_pure ⟨_, rfl, wpAny_pure ⟨H', I'.tok _, ?_⟩⟩
  have e : ((k : Int) != 0) = decide (k ≠ 0) := by
    by_cases h : k = 0
    · subst h
      rfl
    · have h' : (k : Int) ≠ 0 := by omega
      simp [h, h']
  rw [e]
  exact qz
/-- e as a test, e such an instance -/
def tTruI (C : Addr) (sp : Sp) (E : XK) (te : TE) : TT := fun σ H Q => te σ H fun x H1 => ∃ (a dx : Addr) (fs : List (Str × V)), x = .ref a ∧ H1 a = some (.ins C dx fs) ∧
  sp [.ref a] H1 (fun z H' => ∃ k : Nat, z = .int (k : Int) ∧ k < 9223372036854775808 ∧ Q (decide (k ≠ 0)) H') E
theorem pt_truthI {e : Expr} {te : TE} (he : PE X e te) (nb : PySem.W.findIn X.K (.ref C) "__bool__" = some none) (hs : PySem.W.findIn X.K (.ref C) "__len__" = some (some (.ref g))) (hf : PySem.W.isFn X.K (.ref g) = true)
    (F : FnR X.prog X.w X.K X.mg X.base CX n g sp) (hr : Room (n + 1) X.A) (hx : Passes CX X E)
    (hsh : ∀ whole : Sem Value, PySem.isTrue e X.env whole = (do let v ← whole; standAt e.pos; holding [v] (truthy v)) := by intro _; rfl) : PT X e (tTruI C sp E te) := by
  refine ⟨fun pins s σ H Q I h => ?_⟩
  rw [hsh]
  refine wpAny_bind (thn (he.run pins s σ H _ I h) fun u s1 ⟨x, H1, I1, rx, a, dx, fs, ex, ha, q⟩ => ?_)
  subst ex
  obtain rfl : u = Value.ref a := rx
  refine wpAny_bind (wpAny_standAt ?_)
  exact wpAny_holding (truthy_lenI nb hs hf F hr I1.env0 hx I1 ha q)
/-- a != b, both of one class, by its own == -/
def rNeI (C : Addr) (sp : Sp) (E : XK) : R2 := fun x y H Q => ∃ (a dx : Addr) (fs : List (Str × V)) (b dy : Addr) (gs : List (Str × V)), x = .ref a ∧ y = .ref b ∧ H a = some (.ins C dx fs) ∧ H b = some (.ins C dy gs) ∧
  sp [x, y] H (fun z H' => ∃ k : Bool, z = .bl k ∧ Q (.bl !k) H') E
theorem call_objNe {a b : Addr} {ox : Obj} {od : Option Obj} {A : Around} {P : Value → Shared → Prop} {Ex : Value → Shared → Prop} {pr : Program} {w : World} (kin : X.K.In s.heap) (Ja : PySem.W.InstAt s.heap a ox C od)
    (he : PySem.W.findIn X.K (.ref C) "__eq__" = some (some (.ref g))) (hf : PySem.W.isFn X.K (.ref g) = true) (hm : PySem.W.mroIn X.K C (.type "object") = some true) (hu : A.in1.units < cLine)
    (h : wpAny (model pr w) A.in1 (call (.ref g) [.ref a, .ref b]) (fun v s' => ∃ k, v = .bool k ∧ P (.bool !k) s') Ex s) :
    wpAny (model pr w) A (call (.builtin "object.__ne__") [.ref a, .ref b]) P Ex s := by
  refine wpAny_call (codeAny_call_builtin F.cmp_object.ne.plain F.cmpEntry_ne (PySem.W.check_slot F.cmpKind_ne F.cmpSplit_ne (PySem.W.Looks.andThen Ja.type (PySem.W.looks_mroIn kin hm)) (F.cmpArgs_ne _ _) ?_))
  unfold Builtin.«object.__ne__»
  have es : slotArgs "__ne__" 1 ⟨[.ref a, .ref b], []⟩ = pure (.ref a, [.ref b]) := rfl
  rw [es]
  refine wpAny_bind (wpAny_pure ?_)
  refine wpAny_bind (wpAny_cRoomFor hu ?_)
  refine wpAny_bind (PySem.W.ifBound_K kin Ja he hf (wpAny_mono h (fun r s' ⟨k, ek, q⟩ => ?_) fun _ _ e => e))
  subst ek
  exact wpAny_bind (wpAny_pure (wpAny_pure q))
end
end KU

set_option Elab.async false
set_option linter.all false
set_option maxRecDepth 100000
set_option maxHeartbeats 4000000
/-! Own classes: != by the own == -/
namespace KU
open PySem PySem.Spec PyProof.Rows L2
theorem ifBound_ne {M : Model} {A : Around} {Ex : Value → Shared → Prop} {s : Shared} {K : PySem.W.Frag} {x C : Addr} {ox : Obj} {od : Option Obj} {args : List Value} {Q : Option Value → Shared → Prop} (X : K.In s.heap) (I : PySem.W.InstAt s.heap x ox C od)
    (hs : PySem.W.findIn K (.ref C) "__ne__" = some (some (.builtin "object.__ne__"))) (h : wpAny M A (call (.builtin "object.__ne__") (.ref x :: args)) (fun v => Q (some v)) Ex s) :
    wpAny M A (callSpecialIfBound? (.ref x) "__ne__" args) Q Ex s := by
  unfold callSpecialIfBound? bindSpecialIfBound? specialOf
  refine wpAny_holding (wpAny_bind (wpAny_bind (wpAny_bind (PySem.W.Looks.here I.type (PySem.W.Looks.here (PySem.W.looks_findIn X hs) ?_)))))
  refine wpAny_bind (wpAny_askSetting (wpAny_ite ?_))
  have fin : wpAny M A (call (.builtin "object.__ne__") (.ref x :: args) >>= fun a => pure (some a)) Q Ex s := wpAny_bind (wpAny_mono h (fun v s' h' => wpAny_pure h') fun _ _ h' => h')
  split
  · exact wpAny_bind (wpAny_of_eq (F.cmp_object.ne.bind (.ref x)) (wpAny_pure fin))
  · exact wpAny_tryCatch (wpAny_bind (wpAny_of_eq (F.cmp_object.ne.bind (.ref x)) (wpAny_pure fin)))
section
variable {X : Cx} {CX : CXT} {pins : List (Addr × Obj)} {σ : L2.St} {H : Hp} {s : Shared} {C g : Addr} {n : Nat} {sp : Sp} {E : XK}
theorem op_neI (hs : PySem.W.findIn X.K (.ref C) "__ne__" = some (some (.builtin "object.__ne__"))) (he : PySem.W.findIn X.K (.ref C) "__eq__" = some (some (.ref g))) (hf : PySem.W.isFn X.K (.ref g) = true)
    (hm : PySem.W.mroIn X.K C (.type "object") = some true) (F : FnR X.prog X.w X.K X.mg X.base CX n g sp) (hr : Room (n + 1) X.A) (hx : Passes CX X E) : OpR X (compareOp .NotEq) (rNeI C sp E) := by
  intro pins s σ H x y u v Q I rx ry h
  obtain ⟨a, dx, fs, b, dy, gs, rfl, rfl, ha, hb, q⟩ := h
  obtain rfl : u = Value.ref a := rx
  obtain rfl : v = Value.ref b := ry
  obtain ⟨od, Ja⟩ := ins_at I ha
  obtain ⟨oe, Jb⟩ := ins_at I hb
  have hu : X.A.units < cLine := Nat.lt_of_le_of_lt (Nat.le_add_right _ 64) hr.units
  have hu1 : X.A.in1.units < cLine := Nat.lt_of_le_of_lt (Nat.le_add_right _ 64) hr.in1.units
  show wpAny _ _ (richCompare .NotEq (.ref a) (.ref b)) _ _ _
  unfold richCompare
  refine wpAny_holding (wpAny_bind (wpAny_cRoomFor hu ?_))
  have e1 : oneThing? .NotEq (.ref a) (.ref b) = none := rfl
  rw [e1]
  show wpAny _ _ (typeOf (.ref a) >>= _) _ _ _
  refine wpAny_bind (PySem.W.Looks.here Ja.type (wpAny_bind (PySem.W.Looks.here Jb.type ?_)))
  rw [if_neg (by simp)]
  refine wpAny_bind (wpAny_pure ?_)
  show wpAny _ _ (tryCompare (.ref a) "__ne__" (.ref b) >>= _) _ _ _
  refine wpAny_bind ?_
  unfold tryCompare
  refine wpAny_bind (ifBound_ne I.kIn Ja hs (call_objNe I.kIn Ja he hf hm hu1 ?_))
  refine wpAny_mono (own_call F hr.in1 I.env0.in1 hx I (vs := [.ref a, .ref b]) (.cons rfl (.cons rfl .nil)) q) (fun u s' ⟨z, H', I', rz, k, ez, qz⟩ => ?_) fun e s' z => z
  subst ez
  cases rz
  exact ⟨k, rfl, wpAny_pure (wpAny_pure ⟨.bl !k, H', I', rfl, qz⟩)⟩
end
end KU

set_option Elab.async false
set_option linter.all false
set_option maxRecDepth 100000
set_option maxHeartbeats 4000000
/-! prices.py: class Prices: made, compared, its text -/
namespace K02
open PySem PySem.Spec PyProof.Rows L2 Evl KU
abbrev priM (i : Nat) : Stmt := inClass (topR 29) i
structure ClsPr (K : PySem.W.Frag) (mg : Str → Option Value) (C : Addr) : Prop extends ClsO K C where
  nSigns : NoAttr K C "signs"
  nPrices : NoAttr K C "_prices"
  nWeights : NoAttr K C "_weights"
  gC : mg "Prices" = some (.ref C)
def kvF (al : Str) (f : Str → Int) : List (Str × Int) := (signsL al).map fun s => (s, f s)
theorem kvF_congr {al : Str} {f g : Str → Int} (h : ∀ s ∈ signsL al, f s = g s) : kvF al f = kvF al g := List.map_congr_left fun s hs => by rw [h s hs]
/-- Prices of these signs, prices and weights -/
def PricesAt (C : Addr) (H : Hp) (a : Addr) (al : Str) (ps ws : List (Str × Int)) : Prop := ∃ dx A B : Addr, H a = some (.ins C dx [("signs", .str al), ("_prices", .ref A), ("_weights", .ref B)]) ∧ H A = some (.dK (kvN ps)) ∧ H B = some (.dK (kvN ws))
theorem PricesAt.mono {C : Addr} {H H' : Hp} {a : Addr} {al : Str} {ps ws : List (Str × Int)} (x : Ex H H') (h : PricesAt C H a al ps ws) : PricesAt C H' a al ps ws := by
  obtain ⟨dx, A, B, h1, h2, h3⟩ := h
  exact ⟨dx, A, B, x _ _ h1, x _ _ h2, x _ _ h3⟩
def IsPr (C : Addr) (al : Str) (ps ws : List (Str × Int)) : V → Hp → Prop := fun v H => ∃ a, v = .ref a ∧ PricesAt C H a al ps ws
theorem up_isPr (C : Addr) (al : Str) (ps ws : List (Str × Int)) : Up (IsPr C al ps ws) := fun v H H' x ⟨a, e, h⟩ => ⟨a, e, h.mono x⟩
def dig (n : Int) : Str := toString n
theorem dig_one {n : Int} (h : isPriceB n = true) : ∃ c : Nat, dig n = ⟨#[c]⟩ ∧ 49 ≤ c ∧ c ≤ 57 ∧ (n = (c : Int) - 48) := by
  unfold isPriceB at h
  rw [Bool.and_eq_true, decide_eq_true_eq, decide_eq_true_eq] at h
  obtain ⟨h1, h2⟩ := h
  have e : n = 1 ∨ n = 2 ∨ n = 3 ∨ n = 4 ∨ n = 5 ∨ n = 6 ∨ n = 7 ∨ n = 8 ∨ n = 9 := by omega
  rcases e with rfl | rfl | rfl | rfl | rfl | rfl | rfl | rfl | rfl
  · exact ⟨49, by decide +kernel, by omega, by omega, by omega⟩
  · exact ⟨50, by decide +kernel, by omega, by omega, by omega⟩
  · exact ⟨51, by decide +kernel, by omega, by omega, by omega⟩
  · exact ⟨52, by decide +kernel, by omega, by omega, by omega⟩
  · exact ⟨53, by decide +kernel, by omega, by omega, by omega⟩
  · exact ⟨54, by decide +kernel, by omega, by omega, by omega⟩
  · exact ⟨55, by decide +kernel, by omega, by omega, by omega⟩
  · exact ⟨56, by decide +kernel, by omega, by omega, by omega⟩
  · exact ⟨57, by decide +kernel, by omega, by omega, by omega⟩
theorem price_log {n : Int} (h : isPriceB n = true) : n.natAbs.log2 < 1920 := by
  unfold isPriceB at h
  rw [Bool.and_eq_true, decide_eq_true_eq, decide_eq_true_eq] at h
  have l : n.natAbs ≤ 9 := by omega
  rcases Nat.eq_zero_or_pos n.natAbs with z | z
  · rw [z]
    decide
  · rw [Nat.log2_lt (by omega)]
    exact Nat.lt_of_le_of_lt l (Nat.lt_of_lt_of_le (show 9 < 2 ^ 4 by decide) (Nat.pow_le_pow_right (by decide) (by decide)))
theorem val_mem : ∀ {ks : List (Str × Int)} {s : Str} {v : V}, valV (kvN ks) (Sum.inr s) = some v → ∃ q ∈ ks, q.1 = s ∧ v = .int q.2
  | ks, s, v, h => by
    unfold valV at h
    obtain ⟨r, hr, rfl⟩ := Option.map_eq_some_iff.mp h
    have m := List.mem_of_find?_eq_some hr
    have e := List.find?_some hr
    unfold kvN at m
    obtain ⟨t, ht, rfl⟩ := List.mem_map.mp m
    have e : (Sum.inr t.1 : Key) = Sum.inr s := of_decide_eq_true e
    exact ⟨t, ht, Sum.inr.inj e, rfl⟩
theorem val_none {ks : List (Str × Int)} {s : Str} (h : valV (kvN ks) (Sum.inr s) = none) : s ∉ ks.map (·.1) := fun m => by
  obtain ⟨q, hq, rfl⟩ := List.mem_map.mp m
  unfold valV at h
  rw [Option.map_eq_none_iff, List.find?_eq_none] at h
  exact h (Sum.inr q.1, V.int q.2) (List.mem_map.mpr ⟨q, hq, rfl⟩) (decide_eq_true rfl)
theorem val_F {al : Str} {f : Str → Int} {s : Str} (hs : s ∈ signsL al) : valV (kvN (kvF al f)) (Sum.inr s) = some (.int (f s)) := by
  cases h : valV (kvN (kvF al f)) (Sum.inr s) with
  | none =>
    refine absurd ?_ (val_none h)
    exact List.mem_map.mpr ⟨(s, f s), List.mem_map.mpr ⟨s, hs, rfl⟩, rfl⟩
  | some v =>
    obtain ⟨q, hq, e, rfl⟩ := val_mem h
    obtain ⟨t, _, rfl⟩ := List.mem_map.mp hq
    have e : t = s := e
    rw [e]
theorem valN_mem {ks : List (Str × Int)} (nd : (ks.map (·.1)).Nodup) {q : Str × Int} (h : q ∈ ks) : valN ks q.1 = q.2 := by
  unfold valN
  cases hv : valV (kvN ks) (Sum.inr q.1) with
  | none => exact absurd (List.mem_map.mpr ⟨q, h, rfl⟩) (val_none hv)
  | some v =>
    obtain ⟨p, hp, e, rfl⟩ := val_mem hv
    obtain ⟨i, hi, rfl⟩ := List.getElem_of_mem h
    obtain ⟨j, hj, rfl⟩ := List.getElem_of_mem hp
    have := nd_idx (x := ks[i].1) (i := i) (j := j) nd (by rw [List.getElem?_map, List.getElem?_eq_getElem hi]; rfl) (by rw [List.getElem?_map, List.getElem?_eq_getElem hj, ← e]; rfl)
    subst this
    rfl
theorem num_price {al : Str} {o : Option (List (Str × Int))} (G : GoodT al o) (s : Str) : isPriceB (numOf o s) = true := by
  cases o with
  | none => rfl
  | some ks =>
    show isPriceB (valN ks s) = true
    unfold valN
    cases h : valV (kvN ks) (Sum.inr s) with
    | none => rfl
    | some v =>
      obtain ⟨q, hq, _, rfl⟩ := val_mem h
      exact G.2.2 q hq
theorem alpha_facts {al : Str} (h : isAlphaB al = true) : al.length ≤ 4 ∧ al.cps.toList.Nodup := by
  have z := h
  unfold isAlphaB at h
  rw [Bool.and_eq_true, Bool.and_eq_true] at h
  have l := word_len h.1.1
  refine ⟨by omega, ?_⟩
  obtain ⟨_, h2⟩ := h
  rw [List.all_eq_true] at h2
  have lc := len_cps al
  have step : ∀ k, k + 1 < al.cps.toList.length → al.cps.toList.getD k 0 < al.cps.toList.getD (k + 1) 0 := fun k hk => by
    have := h2 _ (List.mem_map.mpr ⟨k, List.mem_range.mpr (by omega), rfl⟩)
    have : ltS (sgn al k) (sgn al (k + 1)) = true := this
    unfold ltS sgn at this
    rw [decide_eq_true_eq] at this
    have this : [al.cps.toList.getD k 0] < [al.cps.toList.getD (k + 1) 0] := this
    rcases List.cons_lt_cons_iff.mp this with h | h
    · exact h
    · exact absurd h.2 (by simp)
  have mono : ∀ j, j < al.cps.toList.length → ∀ i, i < j → al.cps.toList.getD i 0 < al.cps.toList.getD j 0 := fun j => by
    induction j with
    | zero =>
      intro _ i hi
      omega
    | succ j ih =>
      intro hj i hi
      have s1 := step j hj
      rcases Nat.lt_or_ge i j with lt | ge
      · exact Nat.lt_trans (ih (by omega) i lt) s1
      · have : i = j := by omega
        rw [this]
        exact s1
  rw [List.nodup_iff_pairwise_ne, List.pairwise_iff_getElem]
  intro i j hi hj lt e
  have := mono j hj i lt
  rw [List.getD_eq_getElem?_getD, List.getD_eq_getElem?_getD, List.getElem?_eq_getElem hi, List.getElem?_eq_getElem hj, e] at this
  omega
/-- the text of Prices -/
def pText (al : Str) (f g : Str → Int) : Str := Txt.join " " (al :: (":" : Str) :: ((signsL al).map (fun s => dig (f s)) ++ ("/" : Str) :: (signsL al).map fun s => dig (g s)))
def Pri (al : Str) (f : Str → Int) : Prop := ∀ s ∈ signsL al, isPriceB (f s) = true
def spPInit (C : Addr) : Sp := fun vs H Q _ => ∃ (a dx : Addr) (al : Str) (v u : V) (o o' : Option (List (Str × Int))), vs = [.ref a, .str al, v, u] ∧ H a = some (.ins C dx []) ∧ isAlphaB al = true ∧ Told H v o ∧ Told H u o' ∧ GoodT al o ∧ GoodT al o' ∧
  ∀ H', ExB a H H' → PricesAt C H' a al (kvF al (numOf o)) (kvF al (numOf o')) → Q .non H'
abbrev nPInit : List Str := ["self", "signs", "prices", "weights"]
theorem scPInit : FnScope nPInit nPInit (defScope (priM 0)) := ⟨rfl, rfl, rfl, by decide +kernel, rfl, by decide +kernel, by decide +kernel⟩
def spEqPr (C : Addr) : Sp := fun vs H Q _ => ∃ (a b : Addr) (al : Str) (ps ws : List (Str × Int)), vs = [.ref a, .ref b] ∧ PricesAt C H a al ps ws ∧ PricesAt C H b al ps ws ∧ (ps.map (·.1)).Nodup ∧ (ws.map (·.1)).Nodup ∧ RetV (.bl true) H Q
theorem scPEq : FnScope ["self", "other"] ["self", "other"] (defScope (priM 3)) := ⟨rfl, rfl, rfl, by decide +kernel, rfl, by decide +kernel, by decide +kernel⟩
def spStrPr (C : Addr) : Sp := fun vs H Q _ => ∃ (a : Addr) (al : Str) (f g : Str → Int), vs = [.ref a] ∧ PricesAt C H a al (kvF al f) (kvF al g) ∧ al.length ≤ 4 ∧ Pri al f ∧ Pri al g ∧ RetV (.str (pText al f g)) H Q
abbrev nPStr : List Str := ["self", "prices", "sign", "weights"]
theorem scPStr : FnScope nPStr ["self"] (defScope (priM 2)) := ⟨rfl, rfl, rfl, by decide +kernel, rfl, by decide +kernel, by decide +kernel⟩
section
variable {K : PySem.W.Frag} {σ : L2.St} {H : Hp} {te tl : TE} {t : TA}
theorem evp_callP {sp : Sp} {E : XK} {R : V → Hp → Prop} {vs : List V} (ha : EvA t σ H vs) (h : ∀ H1, Ex H H1 → ∀ Q : VK, (∀ v H2, Ex H1 H2 → R v H2 → Q v H2) → sp vs H1 Q E) : EvP (tCall sp [] E t) σ H R := fun H1 x1 Q q => ha H1 x1 _ fun H2 x2 => by
  rw [List.append_nil]
  exact h H2 (x1.trans x2) Q fun v H3 x3 r => q v H3 (x2.trans x3) r
theorem ea_starS {us : List Str} {ys : List V} (h : EvP te σ H (IsSL us)) (r : EvA t σ H ys) : EvA (StX.tStar K te t) σ H (us.map V.str ++ ys) := fun H1 x1 Q q =>
  h H1 x1 _ fun v H2 x2 ⟨p, e, hp⟩ => by
    subst e
    exact ⟨p, _, rfl, .inr (sq_of hp), r H2 (x1.trans x2) _ fun H3 x3 => q H3 (x2.trans x3)⟩
theorem evp_of {v : V} (h : Ev te σ H v) : EvP te σ H fun u _ => u = v := fun H1 x1 Q q => h H1 x1 _ fun H2 x2 => q v H2 x2 rfl
end
section
variable {P : Program} {w : World} {K : PySem.W.Frag} {mg : Str → Option Value} {base : Heap} {C : Addr}
theorem ok_pinit {f fA fO fF : Addr} {fd fdA fdO fdF : FuncData} {dvs : List V} {kws : List (Str × V)} (F : FunD K "__init__" "Prices.__init__" (defArgs (priM 0)) (defBody (priM 0)) (defScope (priM 0)) dvs kws f fd) (CC : ClsPr K mg C)
    (GA : FnOk P w K mg base CX0 3 fA fdA ["value"] (spAlpha K)) (bA : Binds K fdA ["value"] []) (gA : mg "is_alphabet" = some (.ref fA)) (kA : PySem.W.keepIn K (.ref fA) = true)
    (GO : FnOk P w K mg base CX0 2 fO fdO ["told", "signs"] spOfSigns) (bO : Binds K fdO ["told", "signs"] []) (gO : mg "are_of_signs" = some (.ref fO)) (kO : PySem.W.keepIn K (.ref fO) = true)
    (GF : FnOk P w K mg base CX0 3 fF fdF ["told", "signs"] spFilled) (bF : Binds K fdF ["told", "signs"] []) (gF : mg "filled" = some (.ref fF)) (kF : PySem.W.keepIn K (.ref fF) = true) : FnOk P w K mg base CX0 4 f fd nPInit (spPInit C) := by
  refine F.ok scPInit (fun vs H Q E h => ?_) (fun cdv A outer s H vs Q E hr h => ?_)
  · obtain ⟨_, _, _, _, _, _, _, rfl, _⟩ := h
    rfl
  · obtain ⟨a, dx, al, v, u, o, o', rfl, ha, hal, t1, t2, g1, g2, k⟩ := h
    obtain ⟨la, ndc⟩ := alpha_facts hal
    have ndS := signs_nd ndc
    refine ⟨_, pss_cons (ps_if (pt_not (pt_val (pe_call GA (hr.mono (by decide)) (by rfl) gA kA bA .nil pass0 (pa_cons (pv 1) pa_nil)))) (pss_one ps_never) pss_nil)
      (pss_cons (ps_if (pt_not (pt_val (pe_call GO (hr.mono (by decide)) (by rfl) gO kO bO .nil pass0 (pa_cons (pv 2) (pa_cons (pv 1) pa_nil))))) (pss_one ps_never) pss_nil)
      (pss_cons (ps_if (pt_not (pt_val (pe_call GO (hr.mono (by decide)) (by rfl) gO kO bO .nil pass0 (pa_cons (pv 3) (pa_cons (pv 1) pa_nil))))) (pss_one ps_never) pss_nil)
      (pss_cons (ps_fld (pv 0) (pv 1) rfl)
      (pss_cons (ps_fld (pv 0) (pe_call GF (hr.mono (by decide)) (by rfl) gF kF bF .nil pass0 (pa_cons (pv 2) (pa_cons (pv 1) pa_nil))) rfl)
      (pss_one (ps_fld (pv 0) (pe_call GF (hr.mono (by decide)) (by rfl) gF kF bF .nil pass0 (pa_cons (pv 3) (pa_cons (pv 1) pa_nil))) rfl)))))), ?_⟩
    refine q_when (b := false) (et_is (et_not (et_B (ev_call (z := .bl (isAlphaV (.str al))) (ea_cons (ev_var rfl) ea_nil) fun H1 x1 Q1 q1 E1 => ⟨_, rfl, .str al (by omega), q1⟩))) (by show (!isAlphaB al) = false; rw [hal]; rfl)) (fun z => by cases z) fun _ H1 x1 => ?_
    refine q_when (b := false) (et_is (et_not (et_B (ev_call (z := .bl true) (ea_cons (ev_var rfl) (ea_cons (ev_var rfl) ea_nil)) fun H2 x2 Q1 q1 E1 => ⟨v, al, o, rfl, t1.mono (x1.trans x2), g1, q1⟩))) rfl) (fun z => by cases z) fun _ H2 x2 => ?_
    refine q_when (b := false) (et_is (et_not (et_B (ev_call (z := .bl true) (ea_cons (ev_var rfl) (ea_cons (ev_var rfl) ea_nil)) fun H3 x3 Q1 q1 E1 => ⟨u, al, o', rfl, t2.mono (x1.trans (x2.trans x3)), g2, q1⟩))) rfl) (fun z => by cases z) fun _ H3 x3 => ?_
    have x13 := x1.trans (x2.trans x3)
    refine q_fldP (Pz := fun z _ => z = .str al) (a := a) (evp_of (ev_var rfl)) rfl fun z H4 x4 ez => ?_
    subst ez
    have x14 := x13.trans x4
    refine ⟨C, dx, [], x14 _ _ ha, CC.toCls, CC.nSigns, by simp, ?_⟩
    have ne : ∀ {p : Addr} {kv : List (Str × Int)}, H p = some (.dK (kvN kv)) → p ≠ a := fun h e => by
      rw [e, ha] at h
      cases h
    have b5 : ExB a H (upd H4 a (.ins C dx (putF "signs" (.str al) []))) := fun b o nb hb => by
      rw [upd_ne nb]
      exact x14 _ _ hb
    have e5 : upd H4 a (.ins C dx (putF "signs" (.str al) [])) a = some (.ins C dx [("signs", .str al)]) := upd_same
    generalize upd H4 a (.ins C dx (putF "signs" (.str al) [])) = H5 at b5 e5 ⊢
    have tb : ∀ {H' : Hp} {z : V} {q : Option (List (Str × Int))}, ExB a H H' → Told H z q → Told H' z q := fun b t => by
      cases t with
      | non => exact .non
      | dic h => exact .dic (b _ _ (ne h) h)
    refine q_fldP (Pz := IsN (fillK al o)) (a := a) (evp_callP (ea_cons (ev_var rfl) (ea_cons (ev_var rfl) ea_nil)) fun H6 x6 Q6 q6 => ⟨v, al, o, rfl, (tb b5 t1).mono x6, g1, by omega, ndS, q6⟩) rfl fun z H6 x6 ⟨A1, ez, hA1⟩ => ?_
    subst ez
    refine ⟨C, dx, _, x6 _ _ e5, CC.toCls, CC.nPrices, by simp, ?_⟩
    have nA : A1 ≠ a := fun e => by
      rw [e, x6 _ _ e5] at hA1
      cases hA1
    have b7 : ExB a H (upd H6 a (.ins C dx (putF "_prices" (.ref A1) [("signs", .str al)]))) := fun b o nb hb => by
      rw [upd_ne nb]
      exact x6 _ _ (b5 _ _ nb hb)
    have e7 : upd H6 a (.ins C dx (putF "_prices" (.ref A1) [("signs", .str al)])) a = some (.ins C dx [("signs", .str al), ("_prices", .ref A1)]) := upd_same
    have hA7 : upd H6 a (.ins C dx (putF "_prices" (.ref A1) [("signs", .str al)])) A1 = some (.dK (kvN (fillK al o))) := by
      rw [upd_ne nA]
      exact hA1
    generalize upd H6 a (.ins C dx (putF "_prices" (.ref A1) [("signs", .str al)])) = H7 at b7 e7 hA7 ⊢
    refine s_fldP (Pz := IsN (fillK al o')) (a := a) (evp_callP (ea_cons (ev_var rfl) (ea_cons (ev_var rfl) ea_nil)) fun H6 x6 Q6 q6 => ⟨u, al, o', rfl, (tb b7 t2).mono x6, g2, by omega, ndS, q6⟩) rfl fun z H8 x8 ⟨A2, ez, hA2⟩ => ?_
    subst ez
    refine ⟨C, dx, _, x8 _ _ e7, CC.toCls, CC.nWeights, by simp, ?_⟩
    have nA2 : A2 ≠ a := fun e => by
      rw [e, x8 _ _ e7] at hA2
      cases hA2
    refine k _ (fun b o nb hb => by rw [upd_ne nb]; exact x8 _ _ (b7 _ _ nb hb)) ⟨dx, A1, A2, upd_same, ?_, ?_⟩
    · rw [upd_ne nA]
      exact x8 _ _ hA7
    · rw [upd_ne nA2]
      exact hA2
theorem ok_peq {f : Addr} {fd : FuncData} (F : Fun K "__eq__" "Prices.__eq__" (priM 3) f fd) (T : Free mg) (CC : ClsPr K mg C) : FnOk P w K mg base CX0 1 f fd ["self", "other"] (spEqPr C) := by
  refine F.ok scPEq (fun vs H Q E h => ?_) (fun cdv A outer s H vs Q E hr h => ?_)
  · obtain ⟨_, _, _, _, _, rfl, _⟩ := h
    rfl
  · obtain ⟨a, b, al, ps, ws, rfl, ⟨dx, A1, B1, h1, h2, h3⟩, ⟨dy, A2, B2, g1, g2, g3⟩, n1, n2, k⟩ := h
    refine ⟨_, pss_one (ps_ret (pe_and (pe_callB call_isi (by rfl) T.isinstance (by decide +kernel) (pa_cons (pv 1) (pa_cons (pe_glob (v := .ref C) rfl CC.gC rfl) pa_nil)))
      (pe_and (pe_cmpR (r := rEqDI) (by exact op_eqDI (Nat.lt_of_succ_lt (hu_of hr))) (pe_fld (pv 0) rfl) (pe_fld (pv 1) rfl) (nomark _)) (pe_one (pe_cmpR (r := rEqDI) (by exact op_eqDI (Nat.lt_of_succ_lt (hu_of hr))) (pe_fld (pv 0) rfl) (pe_fld (pv 1) rfl) (nomark _)))))), ?_⟩
    refine s_ret (v := .bl true) (ev_is (ev_andV (a := true) (b := true) (ev_isO CC.toClsO g1 (ta := tVar 1) (tc := tC (.ref C)) (σ := start ["self", "other"] [.ref a, .ref b]) (ev_var rfl) ev_c) fun _ =>
      ev_is (ev_andV (a := true) (b := true) (ev_op (r := rEqDI) (z := .bl true) (ev_fld (K := K) (te := tVar 0) (ev_var rfl) h1 CC.toCls CC.nPrices rfl) (ev_fld (K := K) (te := tVar 1) (ev_var rfl) g1 CC.toCls CC.nPrices rfl) fun H1 x1 Q1 q1 => ⟨A1, A2, ps, rfl, rfl, x1 _ _ h2, x1 _ _ g2, n1, q1 H1 (Ex.refl _)⟩) fun _ =>
        ev_op (r := rEqDI) (z := .bl true) (ev_fld (K := K) (te := tVar 0) (ev_var rfl) h1 CC.toCls CC.nWeights rfl) (ev_fld (K := K) (te := tVar 1) (ev_var rfl) g1 CC.toCls CC.nWeights rfl) fun H1 x1 Q1 q1 => ⟨B1, B2, ws, rfl, rfl, x1 _ _ h3, x1 _ _ g3, n2, q1 H1 (Ex.refl _)⟩) rfl) rfl) k
theorem ok_pstr {f : Addr} {fd : FuncData} (F : Fun K "__str__" "Prices.__str__" (priM 2) f fd) (T : Free mg) (CC : ClsPr K mg C) : FnOk P w K mg base CX0 1 f fd ["self"] (spStrPr C) := by
  refine F.ok scPStr (fun vs H Q E h => ?_) (fun cdv A outer s H vs Q E hr h => ?_)
  · obtain ⟨_, _, _, _, rfl, _⟩ := h
    rfl
  · obtain ⟨a, al, f1, g1, rfl, ⟨dx, A1, B1, h1, h2, h3⟩, la, pf, pg, k⟩ := h
    have nd := scPStr.nd
    have ls := signsL_len al
    refine ⟨_, pss_cons (ps_setLc (i := 1) (own := [("sign", 2)]) (wi := iStr (tFld K (tVar 0) "signs")) (g := gName 2) (tt := tYes) (te := tCB (fun xs H Q => ∃ i : Int, xs = [V.int i] ∧ i.natAbs.log2 < 1920 ∧ Q (V.str (toString i)) H) (tCons (tDGet (tFld K (tVar 0) "_prices") (tVar 2)) tNil)) rfl nd rfl rfl (sw_true rfl rfl rfl (by decide +kernel)) (by exact pi_str (pe_fld (pv 0) rfl)) (by refine blkOk_by (own := [("sign", 2)]) (N := nPStr) (sc := defScope (priM 2)) ?_; decide +kernel)
          (fun _ _ _ _ _ => pg_name (i := 2) nd rfl (Or.inl rfl)) (fun _ _ _ _ _ => pts_nil) (fun _ _ _ _ _ => pe_callTy call_str_int (by rfl) T.str (by decide +kernel) (pa_cons (pe_dget (hu_of hr) (pe_fld (pv 0) rfl) (pv 2) (fun _ _ => rfl)) pa_nil)))
      (pss_cons (ps_setLc (i := 3) (own := [("sign", 2)]) (wi := iStr (tFld K (tVar 0) "signs")) (g := gName 2) (tt := tYes) (te := tCB (fun xs H Q => ∃ i : Int, xs = [V.int i] ∧ i.natAbs.log2 < 1920 ∧ Q (V.str (toString i)) H) (tCons (tDGet (tFld K (tVar 0) "_weights") (tVar 2)) tNil)) rfl nd rfl rfl (sw_true rfl rfl rfl (by decide +kernel)) (by exact pi_str (pe_fld (pv 0) rfl)) (by refine blkOk_by (own := [("sign", 2)]) (N := nPStr) (sc := defScope (priM 2)) ?_; decide +kernel)
          (fun _ _ _ _ _ => pg_name (i := 2) nd rfl (Or.inl rfl)) (fun _ _ _ _ _ => pts_nil) (fun _ _ _ _ _ => pe_callTy call_str_int (by rfl) T.str (by decide +kernel) (pa_cons (pe_dget (hu_of hr) (pe_fld (pv 0) rfl) (pv 2) (fun _ _ => rfl)) pa_nil)))
      (pss_one (ps_ret (pe_join pe_str (pe_lst (pa_cons (pe_fld (pv 0) rfl) (pa_cons pe_str (StX.pa_star (pv 1) (pa_cons pe_str (StX.pa_star (pv 3) pa_nil)))))))))), ?_⟩
    have num : ∀ {σ : L2.St} {G : Hp} {te : TE} {n : Int}, isPriceB n = true → Ev te σ G (.int n) → Ev (tCB (fun xs H Q => ∃ i : Int, xs = [V.int i] ∧ i.natAbs.log2 < 1920 ∧ Q (V.str (toString i)) H) (tCons te tNil)) σ G (.str (dig n)) := fun hn h => ev_cb (ea_cons h ea_nil) fun H1 x1 Q1 q1 => ⟨_, rfl, price_log hn, q1 H1 (Ex.refl _)⟩
    refine q_asgP (P := IsSL ((signsL al).map fun s => dig (f1 s))) (fun H1 x1 Q q => ?_) fun v1 H1 x1 ⟨l1, ev1, hl1⟩ => ?_
    · have z := el_signsM (σ := start nPStr [.ref a]) (H := H) (j := 2) (vs := [2]) (tl := tFld K (tVar 0) "signs") (te := tCB (fun xs H Q => ∃ i : Int, xs = [V.int i] ∧ i.natAbs.log2 < 1920 ∧ Q (V.str (toString i)) H) (tCons (tDGet (tFld K (tVar 0) "_prices") (tVar 2)) tNil)) (z := al) (fun s => .str (dig (f1 s)))
        (ev_fld (K := K) (te := tVar 0) (ev_var rfl) h1 CC.toCls CC.nSigns rfl) (by omega) (fun _ => rfl) (fun s H2 x2 hs => num (pf s hs) (ev_dget (k := Sum.inr s) (ev_fld (K := K) (te := tVar 0) (ev_var rfl) (x2 _ _ h1) CC.toCls CC.nPrices rfl) (ev_var rfl) (x2 _ _ h2) (val_F hs)))
      have e : (signsL al).map (fun s => V.str (dig (f1 s))) = ((signsL al).map fun s => dig (f1 s)).map V.str := by
        rw [List.map_map]
        rfl
      rw [e] at z
      exact z H1 x1 Q fun p H2 hp x2 hl => q _ H2 x2 ⟨p, rfl, hl⟩
    subst ev1
    refine q_asgP (P := IsSL ((signsL al).map fun s => dig (g1 s))) (fun H2 x2 Q q => ?_) fun v2 H2 x2 ⟨l2, ev2, hl2⟩ => ?_
    · have z := el_signsM (σ := (start nPStr [.ref a]).set 1 (some (.ref l1))) (H := H1) (j := 2) (vs := [2]) (tl := tFld K (tVar 0) "signs") (te := tCB (fun xs H Q => ∃ i : Int, xs = [V.int i] ∧ i.natAbs.log2 < 1920 ∧ Q (V.str (toString i)) H) (tCons (tDGet (tFld K (tVar 0) "_weights") (tVar 2)) tNil)) (z := al) (fun s => .str (dig (g1 s)))
        (ev_fld (K := K) (te := tVar 0) (ev_var rfl) (x1 _ _ h1) CC.toCls CC.nSigns rfl) (by omega) (fun _ => rfl) (fun s H3 x3 hs => num (pg s hs) (ev_dget (k := Sum.inr s) (ev_fld (K := K) (te := tVar 0) (ev_var rfl) (x3 _ _ (x1 _ _ h1)) CC.toCls CC.nWeights rfl) (ev_var rfl) (x3 _ _ (x1 _ _ h3)) (val_F hs)))
      have e : (signsL al).map (fun s => V.str (dig (g1 s))) = ((signsL al).map fun s => dig (g1 s)).map V.str := by
        rw [List.map_map]
        rfl
      rw [e] at z
      exact z H2 x2 Q fun p H3 hp x3 hl => q _ H3 x3 ⟨p, rfl, hl⟩
    subst ev2
    have x12 := x1.trans x2
    have hl1' := x2 _ _ hl1
    have sums : ∀ {f : Str → Int}, Pri al f → (((signsL al).map fun s => dig (f s)).map (·.length)).sum ≤ 4 := fun {f} hf => by
      have := sum_bound (fun w : Str => w.length) 1 ((signsL al).map fun s => dig (f s)) fun w hw => by
        obtain ⟨s, hs, rfl⟩ := List.mem_map.mp hw
        obtain ⟨c, e, _⟩ := dig_one (hf s hs)
        rw [e]
        exact Nat.le_refl _
      rw [List.length_map, ls] at this
      omega
    have s1 := sums pf
    have s2 := sums pg
    have disp : EvA (tCons (tFld K (tVar 0) "signs") (tCons (tC (.str ":")) (StX.tStar K (tVar 1) (tCons (tC (.str "/")) (StX.tStar K (tVar 3) tNil))))) (((start nPStr [.ref a]).set 1 (some (.ref l1))).set 3 (some (.ref l2))) H2 ((al :: (":" : Str) :: ((signsL al).map (fun s => dig (f1 s)) ++ ("/" : Str) :: (signsL al).map fun s => dig (g1 s))).map V.str) := by
      have y := ea_cons (ev_fld (K := K) (te := tVar 0) (σ := ((start nPStr [.ref a]).set 1 (some (.ref l1))).set 3 (some (.ref l2))) (H := H2) (ev_var rfl) (x12 _ _ h1) CC.toCls CC.nSigns rfl) (ea_cons (ev_c (v := .str ":")) (ea_starS (K := K) (es_var (i := 1) rfl hl1') (ea_cons (ev_c (v := .str "/")) (ea_starS (K := K) (es_var (i := 3) rfl hl2) ea_nil))))
      rw [List.append_nil] at y
      rw [List.map_cons, List.map_cons, List.map_append, List.map_cons]
      exact y
    refine s_ret (v := .str (pText al f1 g1)) (ev_join (K := K) (s := " ") (es_lst disp (by simp only [List.length_cons, List.length_append, List.length_map, ls]; omega)) ?_) fun H3 x3 => k H3 (x12.trans x3)
    simp only [List.length_cons, List.length_append, List.length_map, List.map_cons, List.map_append, List.sum_cons, List.sum_append, ls]
    simp only [List.map_map] at s1 s2 ⊢
    have o1 : (" " : Str).length = 1 := rfl
    have o2 : (":" : Str).length = 1 := rfl
    have o3 : ("/" : Str).length = 1 := rfl
    rw [o1, o2, o3]
    omega
end
end K02

set_option Elab.async false
set_option linter.all false
set_option maxRecDepth 100000
set_option maxHeartbeats 4000000
/-! prices.py: take_signs, take_numbers, take_prices, Prices.read -/
namespace K02
open PySem PySem.Spec PyProof.Rows L2 Evl KU
/-- what becomes of an alphabet and the colon -/
def spTakeSigns (D CT : Addr) : Sp := fun vs H Q E => ∃ (c : Addr) (ws : List Str) (i : Nat), vs = [.ref c] ∧ CurAt D H c ws i ∧ (∀ w ∈ ws, w.length ≤ 1000) ∧
  ((isAlphaV (wordAt ws i) = false ∧ Raise2V CT "line" "word" (.int 0) (.int (i : Int)) H E) ∨
   (isAlphaV (wordAt ws i) = true ∧ wordAt ws (i + 1) ≠ .str ":" ∧ Raise2B c CT "line" "word" (.int 0) (.int ((i + 1 : Nat) : Int)) H E) ∨
   (isAlphaV (wordAt ws i) = true ∧ wordAt ws (i + 1) = .str ":" ∧ ∀ H', ExB c H H' → CurAt D H' c ws (i + 2) → Q (wordAt ws i) H'))
theorem scTakeSigns : FnScope ["cursor", "signs"] ["cursor"] (defScope (topR 19)) := ⟨rfl, rfl, rfl, by decide +kernel, rfl, by decide +kernel, by decide +kernel⟩
theorem alpha_lt {ws : List Str} {i : Nat} (h : isAlphaV (wordAt ws i) = true) : i < ws.length := by
  rcases Nat.lt_or_ge i ws.length with lt | ge
  · exact lt
  · unfold wordAt at h
    rw [List.getElem?_eq_none ge] at h
    cases h
section
variable {P : Program} {w : World} {K : PySem.W.Frag} {mg : Str → Option Value} {base : Heap} {D CT : Addr}
theorem ok_takeSigns {f fT fP fE fA : Addr} {fd fdT fdP fdE fdA : FuncData} (F : Fun K "take_signs" "take_signs" (topR 19) f fd) (CC : ClsC K mg D) (GT : FnOk P w K mg base (L2.CX P w) 3 fT fdT ["self", "stands"] (spTake D CT)) (bT : Binds K fdT ["self", "stands"] []) (mT : Meth K D "take" fT)
    (GP : FnOk P w K mg base CX0 1 fP fdP ["self"] (spPeek D)) (bP : Binds K fdP ["self"] []) (mP : Meth K D "peek" fP) (GE : FnOk P w K mg base (L2.CX P w) 4 fE fdE ["self", "word"] (spExpect D CT)) (bE : Binds K fdE ["self", "word"] []) (mE : Meth K D "expect" fE)
    (GA : FnOk P w K mg base CX0 3 fA fdA ["value"] (spAlpha K)) (bA : Binds K fdA ["value"] []) (gA : mg "is_alphabet" = some (.ref fA)) (kA : PySem.W.keepIn K (.ref fA) = true) :
    FnOk P w K mg base (L2.CX P w) 5 f fd ["cursor"] (spTakeSigns D CT) := by
  refine F.okX scTakeSigns (fun vs H Q E h => ?_) (fun cdv A outer s H vs Q E hr h => ?_)
  · obtain ⟨_, _, _, rfl, _⟩ := h
    rfl
  · obtain ⟨c, ws, i, rfl, hc, small, alt⟩ := h
    have nd := scTakeSigns.nd
    refine ⟨_, pss_cons (ps_set (i := 1) nd rfl (.inl rfl) (pe_meth (CX := L2.CX P w) (E := E) (pv 0) CC.toCls mT GT (hr.mono (by decide)) bT .nil (passes_call (takes_of rfl rfl rfl rfl) fun _ _ _ _ h => h) (pa_cons (pe_call GA (hr.mono (by decide)) (by rfl) gA kA bA .nil pass0 (pa_cons (pe_meth0 (pv 0) CC.toCls mP GP (hr.mono (by decide)) bP .nil pass0) pa_nil)) pa_nil)))
      (pss_cons (ps_expr (pe_meth (CX := L2.CX P w) (E := E) (pv 0) CC.toCls mE GE hr bE .nil (passes_call (takes_of rfl rfl rfl rfl) fun _ _ _ _ h => h) (pa_cons pe_str pa_nil)))
      (pss_one (ps_ret (pv 1)))), ?_⟩
    obtain ⟨dx, fs, h1, l1, l2, l3, l4⟩ := hc.len
    have peek : Ev (tMeth D "peek" (spPeek D) [] E0 (tVar 0) tNil) (start ["cursor", "signs"] [.ref c]) H (wordAt ws i) := fun H1 x1 Q1 q1 => ⟨_, rfl, c, dx, fs, rfl, x1 _ _ h1, l2, c, ws, i, rfl, hc.mono x1, q1⟩
    have isA : Ev (tCall (spAlpha K) [] E0 (tCons (tMeth D "peek" (spPeek D) [] E0 (tVar 0) tNil) tNil)) (start ["cursor", "signs"] [.ref c]) H (.bl (isAlphaV (wordAt ws i))) := ev_call (ea_cons peek ea_nil) fun H1 x1 Q1 q1 E1 => by
      rcases word_val ws i with ⟨t, mt, e⟩ | e
      · rw [e] at q1 ⊢
        exact ⟨.str t, rfl, .str t (small t mt), q1⟩
      · rw [e] at q1 ⊢
        exact ⟨.non, rfl, sv_bty .non (by decide), q1⟩
    refine ⟨_, rfl, c, dx, fs, rfl, h1, l1, ?_⟩
    refine (?_ : tCons _ _ _ H _)
    refine isA H (Ex.refl _) _ fun H1 x1 => ?_
    refine ⟨c, ws, i, _, rfl, hc.mono x1, ?_⟩
    rcases alt with ⟨e, r⟩ | ⟨e, ne, r⟩ | ⟨e, e2, k⟩
    · exact .inr ⟨e, fun d H' x' e' => r d H' (x1.trans x') e'⟩
    · refine .inl ⟨e, alpha_lt e, fun H2 b2 hc2 => ?_⟩
      obtain ⟨dx2, fs2, g1, _, _, g3, _⟩ := hc2.len
      refine ⟨_, rfl, c, dx2, fs2, rfl, g1, g3, c, ws, i + 1, ":", rfl, hc2, .inr ⟨ne, fun d H' x' e' => r d H' (fun b o nb hb => x' _ _ (b2 b o nb (x1 _ _ hb))) e'⟩⟩
    · refine .inl ⟨e, alpha_lt e, fun H2 b2 hc2 => ?_⟩
      obtain ⟨dx2, fs2, g1, _, _, g3, _⟩ := hc2.len
      refine ⟨_, rfl, c, dx2, fs2, rfl, g1, g3, c, ws, i + 1, ":", rfl, hc2, .inl ⟨e2, fun H3 b3 hc3 => ?_⟩⟩
      exact s_ret (ev_var rfl) fun H4 x4 => k H4 (fun b o nb hb => x4 _ _ (b3 b o nb (b2 b o nb (x1 _ _ hb)))) (hc3.mono x4)
end
/-! ### numbers -/
theorem q_dnew {tz : TS} {D : L2.Ends} {σ : L2.St} {H : Hp} {i : Nat} (k : ∀ p, H p = none → tz D (σ.set i (some (.ref p))) (upd H p (.dK []))) : tSeq (tAsg tDNewK (gName i)) tz D σ H := fun p hp => k p hp
def sPD : Str := "123456789"
def digB (v : V) : Bool := isSgnV v sPD
def wS (ws : List Str) (k : Nat) : Str := (ws[k]?).getD ""
def dW (w : Str) : Int := ((w.cps.toList.headD 48 : Nat) : Int) - 48
def numKT (al : Str) (ws : List Str) (i m : Nat) : List (Str × Int) := (List.range m).map fun j => ((signsL al).getD j "", dW (wS ws (i + j)))
def numK (al : Str) (ws : List Str) (i : Nat) : List (Str × Int) := numKT al ws i al.length
theorem word_wS {ws : List Str} {k : Nat} {t : Str} (h : wordAt ws k = .str t) : wS ws k = t := by
  unfold wordAt at h
  unfold wS
  cases e : ws[k]? with
  | none =>
    rw [e] at h
    cases h
  | some u =>
    rw [e] at h
    exact V.str.inj h
theorem pd_signs : ∀ c ∈ sPD.cps.toList, 49 ≤ c ∧ c ≤ 57 := by decide +kernel
theorem pd_in : ∀ c, 49 ≤ c → c ≤ 57 → c ∈ sPD.cps.toList := fun c h1 h2 => by
  have e : c = 49 ∨ c = 50 ∨ c = 51 ∨ c = 52 ∨ c = 53 ∨ c = 54 ∨ c = 55 ∨ c = 56 ∨ c = 57 := by omega
  rcases e with rfl | rfl | rfl | rfl | rfl | rfl | rfl | rfl | rfl <;> decide +kernel
/-- a digit that is a price -/
theorem dig_word {v : V} (h : digB v = true) : ∃ c : Nat, v = .str ⟨#[c]⟩ ∧ 49 ≤ c ∧ c ≤ 57 := by
  cases v with
  | str t =>
    have h : isSgnV (.str t) sPD = true := h
    have l := key_len h
    have lc := len_cps t
    match e : t.cps.toList with
    | [] =>
      rw [e] at lc
      have : 0 = t.length := lc
      omega
    | [c] =>
      have et : t = ⟨#[c]⟩ := str_eq (by rw [e])
      subst et
      unfold isSgnV at h
      rw [Bool.and_eq_true] at h
      have m := (inS_mem sPD).mp h.2
      exact ⟨c, rfl, pd_signs c m⟩
    | a :: b :: r =>
      rw [e] at lc
      have : r.length + 1 + 1 = t.length := lc
      omega
  | _ => cases h
theorem word_dig {c : Nat} (h1 : 49 ≤ c) (h2 : c ≤ 57) : digB (.str ⟨#[c]⟩) = true := by
  show isSgnV (.str ⟨#[c]⟩) sPD = true
  unfold isSgnV
  rw [Bool.and_eq_true]
  exact ⟨rfl, (inS_mem sPD).mpr (pd_in c h1 h2)⟩
theorem dig_int {c : Nat} (h1 : 49 ≤ c) (h2 : c ≤ 57) : PySem.intText? (⟨#[c]⟩ : Str) = some ((c : Int) - 48) := by
  have e : c = 49 ∨ c = 50 ∨ c = 51 ∨ c = 52 ∨ c = 53 ∨ c = 54 ∨ c = 55 ∨ c = 56 ∨ c = 57 := by omega
  rcases e with rfl | rfl | rfl | rfl | rfl | rfl | rfl | rfl | rfl <;> decide +kernel
abbrev nTn : List Str := ["cursor", "signs", "numbers", "sign"]
theorem scTn : FnScope nTn ["cursor", "signs"] (defScope (topR 27)) := ⟨rfl, rfl, rfl, by decide +kernel, rfl, by decide +kernel, by decide +kernel⟩
def spTn (D CT : Addr) : Sp := fun vs H Q E => ∃ (c : Addr) (ws : List Str) (i : Nat) (al : Str), vs = [.ref c, .str al] ∧ CurAt D H c ws i ∧ (∀ w ∈ ws, w.length ≤ 1000) ∧ al.length ≤ 4 ∧ (signsL al).Nodup ∧
  (∀ k, k < al.length → (∀ j, j < k → digB (wordAt ws (i + j)) = true) → digB (wordAt ws (i + k)) = false → Raise2B c CT "line" "word" (.int 0) (.int ((i + k : Nat) : Int)) H E) ∧
  ((∀ j, j < al.length → digB (wordAt ws (i + j)) = true) → ∀ p H', ExB c H H' → CurAt D H' c ws (i + al.length) → H' p = some (.dK (kvN (numK al ws i))) → p ≠ c → Q (.ref p) H')
theorem scTp : FnScope ["cursor", "signs", "prices"] ["cursor", "signs"] (defScope (topR 28)) := ⟨rfl, rfl, rfl, by decide +kernel, rfl, by decide +kernel, by decide +kernel⟩
def spTp (D CT C : Addr) : Sp := fun vs H Q E => ∃ (c : Addr) (ws : List Str) (i : Nat) (al : Str), vs = [.ref c, .str al] ∧ CurAt D H c ws i ∧ (∀ w ∈ ws, w.length ≤ 1000) ∧ isAlphaB al = true ∧
  (∀ k, k < al.length → (∀ j, j < k → digB (wordAt ws (i + j)) = true) → digB (wordAt ws (i + k)) = false → Raise2B c CT "line" "word" (.int 0) (.int ((i + k : Nat) : Int)) H E) ∧
  ((∀ j, j < al.length → digB (wordAt ws (i + j)) = true) → wordAt ws (i + al.length) ≠ .str "/" → Raise2B c CT "line" "word" (.int 0) (.int ((i + al.length : Nat) : Int)) H E) ∧
  ((∀ j, j < al.length → digB (wordAt ws (i + j)) = true) → wordAt ws (i + al.length) = .str "/" → ∀ k, k < al.length → (∀ j, j < k → digB (wordAt ws (i + al.length + 1 + j)) = true) → digB (wordAt ws (i + al.length + 1 + k)) = false → Raise2B c CT "line" "word" (.int 0) (.int ((i + al.length + 1 + k : Nat) : Int)) H E) ∧
  ((∀ j, j < al.length → digB (wordAt ws (i + j)) = true) → wordAt ws (i + al.length) = .str "/" → (∀ j, j < al.length → digB (wordAt ws (i + al.length + 1 + j)) = true) →
    ∀ a H', ExB c H H' → CurAt D H' c ws (i + al.length + 1 + al.length) → PricesAt C H' a al (kvF al (numOf (some (numK al ws i)))) (kvF al (numOf (some (numK al ws (i + al.length + 1))))) → Q (.ref a) H')
theorem numKT_keys (al : Str) (ws : List Str) (i : Nat) {m : Nat} (h : m ≤ al.length) : (numKT al ws i m).map (·.1) = (signsL al).take m := by
  have ls := signsL_len al
  unfold numKT
  rw [List.map_map]
  refine List.ext_getElem (by rw [List.length_map, List.length_range, List.length_take]; omega) fun k h1 h2 => ?_
  rw [List.length_map, List.length_range] at h1
  rw [List.getElem_map, List.getElem_range, List.getElem_take]
  show (signsL al).getD k "" = _
  rw [List.getD_eq_getElem?_getD, List.getElem?_eq_getElem (by omega)]
  rfl
theorem sgn_in {al s : Str} (h : s ∈ signsL al) : isSgnV (.str s) al = true := by
  obtain ⟨c, hc, rfl⟩ := sign_of h
  unfold isSgnV
  rw [Bool.and_eq_true]
  exact ⟨rfl, (inS_mem al).mpr hc⟩
theorem num_good {al : Str} {ws : List Str} {i : Nat} (la : al.length ≤ 4) (h : ∀ j, j < al.length → digB (wordAt ws (i + j)) = true) : GoodT al (some (numK al ws i)) := by
  have ls := signsL_len al
  have lk : (numK al ws i).length = al.length := by
    unfold numK numKT
    rw [List.length_map, List.length_range]
  refine ⟨by omega, fun q hq => ?_, fun q hq => ?_⟩
  · have m : q.1 ∈ (numK al ws i).map (·.1) := List.mem_map.mpr ⟨q, hq, rfl⟩
    unfold numK at m
    rw [numKT_keys al ws i (Nat.le_refl _)] at m
    exact sgn_in (List.mem_of_mem_take m)
  · unfold numK numKT at hq
    obtain ⟨j, hj, rfl⟩ := List.mem_map.mp hq
    obtain ⟨c, e, h1, h2⟩ := dig_word (h j (List.mem_range.mp hj))
    show isPriceB (dW (wS ws (i + j))) = true
    rw [word_wS e]
    show isPriceB ((c : Int) - 48) = true
    unfold isPriceB
    rw [Bool.and_eq_true, decide_eq_true_eq, decide_eq_true_eq]
    omega
section
variable {P : Program} {w : World} {K : PySem.W.Frag} {mg : Str → Option Value} {base : Heap} {D CT C : Addr}
theorem svWord {K : PySem.W.Frag} {ws : List Str} (small : ∀ t ∈ ws, t.length ≤ 1000) (j : Nat) (G : Hp) : SV K G (wordAt ws j) := by
  rcases word_val ws j with ⟨t, mt, e⟩ | e
  · rw [e]
    exact .str t (small t mt)
  · rw [e]
    exact sv_bty .non (by decide)
theorem ok_tn {f fT fP fS : Addr} {fd fdT fdP fdS : FuncData} (F : Fun K "take_numbers" "take_numbers" (topR 27) f fd) (T : Free mg) (CC : ClsC K mg D) (gPD : ∃ t, mg "PRICE_DIGITS" = some (.str "123456789" t))
    (GT : FnOk P w K mg base (L2.CX P w) 3 fT fdT ["self", "stands"] (spTake D CT)) (bT : Binds K fdT ["self", "stands"] []) (mT : Meth K D "take" fT) (GP : FnOk P w K mg base CX0 1 fP fdP ["self"] (spPeek D)) (bP : Binds K fdP ["self"] []) (mP : Meth K D "peek" fP)
    (GS : FnOk P w K mg base CX0 1 fS fdS ["value", "signs"] (spIsSgn K)) (bS : Binds K fdS ["value", "signs"] []) (gS : mg "is_sign" = some (.ref fS)) (kS : PySem.W.keepIn K (.ref fS) = true) : FnOk P w K mg base (L2.CX P w) 4 f fd ["cursor", "signs"] (spTn D CT) := by
  obtain ⟨tg, gPD⟩ := gPD
  refine F.okX scTn (fun vs H Q E h => ?_) (fun cdv A outer s H vs Q E hr h => ?_)
  · obtain ⟨_, _, _, _, rfl, _⟩ := h
    rfl
  · obtain ⟨c, ws, i, al, rfl, hc, small, la, ndS, kn, ko⟩ := h
    have nd := scTn.nd
    have ls := signsL_len al
    refine ⟨_, pss_cons (ps_set (i := 2) nd rfl (.inl rfl) pe_dnewK)
      (pss_cons (ps_for (passes_of rfl) rfl (pi_str (pv 1)) (pg_name (i := 3) nd rfl (.inl rfl)) (pss_one (ps_dput (hu_of hr) (pv 2) (pv 3) (pe_callTy call_int_str (by rfl) T.int (by decide +kernel) (pa_cons (pe_meth (CX := L2.CX P w) (E := E) (pv 0) CC.toCls mT GT hr bT .nil (passes_call (takes_of rfl rfl rfl rfl) fun _ _ _ _ h => h) (pa_cons (pe_call GS (hr.mono (by decide)) (by rfl) gS kS bS .nil pass0 (pa_cons (pe_meth0 (pv 0) CC.toCls mP GP (hr.mono (by decide)) bP .nil pass0) (pa_cons (pe_glob (v := .str sPD) rfl gPD ⟨_, rfl⟩) pa_nil))) pa_nil)) pa_nil)) rfl)))
      (pss_one (ps_ret (pv 2)))), ?_⟩
    obtain ⟨dx0, fs0, hcc, _⟩ := hc.len
    refine q_dnew fun p hp => ?_
    have pc : p ≠ c := (ne_of_none hcc hp).symm
    refine ⟨_, rfl, al, rfl, ?_⟩
    refine for_it (walk_signsG (z := al)) (fun m σ' H' => (∃ y, σ' = [some (.ref c), some (.str al), some (.ref p), y]) ∧ (∀ j, j < m → digB (wordAt ws (i + j)) = true) ∧ ExB c H H' ∧ CurAt D H' c ws (i + m) ∧ H' p = some (.dK (kvN (numKT al ws i m)))) ⟨⟨none, rfl⟩, fun j hj => absurd hj (by omega), ?_, hc.mono (Ex.new hp), upd_same⟩ (fun m σ' H' _ q => trivial) (fun m x σ' H' H2 hn q y => ?_) fun σ' H' q => ?_
    · exact fun b o nb hb => by
        rw [upd_ne (ne_of_none hb hp)]
        exact hb
    · obtain ⟨rfl, hx'⟩ := y
      obtain ⟨⟨y0, rfl⟩, good, b1, hc1, hp1⟩ := q
      rw [List.length_map, ls] at hn
      rw [List.getElem?_map] at hx'
      obtain ⟨s, hs, rfl⟩ := Option.map_eq_some_iff.mp hx'
      have peek : ∀ {σ : L2.St} {G : Hp} {j : Nat}, σ[0]? = some (some (.ref c)) → CurAt D G c ws j → Ev (tMeth D "peek" (spPeek D) [] E0 (tVar 0) tNil) σ G (wordAt ws j) := fun {σ G j} es h H1 x1 Q1 q1 => by
        obtain ⟨dx, fs, h1, _, l2, _⟩ := h.len
        exact ⟨_, es, c, dx, fs, rfl, x1 _ _ h1, l2, c, ws, j, rfl, h.mono x1, q1⟩
      have isSg : ∀ {σ : L2.St} {G : Hp} {j : Nat}, σ[0]? = some (some (.ref c)) → CurAt D G c ws j → Ev (tCall (spIsSgn K) [] E0 (tCons (tMeth D "peek" (spPeek D) [] E0 (tVar 0) tNil) (tCons (tC (.str sPD)) tNil))) σ G (.bl (digB (wordAt ws j))) := fun {σ G j} es h =>
        ev_call (ea_cons (peek es h) (ea_cons ev_c ea_nil)) fun H1 x1 Q1 q1 E1 => ⟨wordAt ws j, sPD, rfl, svWord small j H1, q1⟩
      obtain ⟨dx, fs, h1, l1, _⟩ := hc1.len
      refine (?_ : sDPut _ _ _ _ [some (.ref c), some (.str al), some (.ref p), some (.str s)] H2)
      refine (?_ : tCB _ _ _ H2 _)
      refine (?_ : tCons _ _ _ H2 _)
      refine ⟨_, rfl, c, dx, fs, rfl, h1, l1, ?_⟩
      refine (?_ : tCons _ _ _ H2 _)
      refine (isSg (j := i + m) rfl hc1) H2 (Ex.refl _) _ fun H3 x3 => ?_
      refine ⟨c, ws, i + m, _, rfl, hc1.mono x3, ?_⟩
      cases hd : digB (wordAt ws (i + m)) with
      | false => exact .inr ⟨rfl, fun d H' x' e' => kn m hn good hd d H' (fun b o nb hb => x' _ _ (x3 _ _ (b1 b o nb hb))) e'⟩
      | true =>
        obtain ⟨ch, e, c1, c2⟩ := dig_word hd
        refine .inl ⟨rfl, word_lt e, fun H4 b4 hc4 => ?_⟩
        have hp4 : H4 p = some (.dK (kvN (numKT al ws i m))) := b4 _ _ pc (x3 _ _ hp1)
        have eD : dW (wS ws (i + m)) = (ch : Int) - 48 := by
          rw [word_wS e]
          rfl
        rw [e]
        refine ⟨_, _, rfl, dig_int c1 c2, (show 1 ≤ 640 by decide), ?_⟩
        refine ⟨_, rfl, _, rfl, p, upd H4 p (.dK (kvN (numKT al ws i (m + 1)))), rfl, .inl ⟨_, Sum.inr s, hp4, rfl, ?_, ?_⟩, ?_⟩
        · rw [kvN_len]
          unfold numKT
          rw [List.length_map, List.length_range, sizeLine_eq]
          omega
        · have nin : s ∉ (numKT al ws i m).map (·.1) := by
            rw [numKT_keys al ws i (by omega)]
            intro z
            obtain ⟨k, hk, e2⟩ := List.getElem_of_mem z
            rw [List.length_take] at hk
            rw [List.getElem_take] at e2
            have := nd_idx (i := k) (j := m) ndS (by rw [List.getElem?_eq_getElem (by omega), e2]) hs
            omega
          rw [put_newN nin]
          unfold numKT
          rw [List.range_succ, List.map_append]
          rw [List.map_singleton, eD, List.getD_eq_getElem?_getD, hs]
          rfl
        · refine ⟨⟨_, rfl⟩, fun j hj => ?_, fun b o nb hb => ?_, ?_, upd_same⟩
          · rcases Nat.lt_or_ge j m with lt | ge
            · exact good j lt
            · have : j = m := by omega
              rw [this]
              exact hd
          · rw [upd_ne (ne_of_none hb hp)]
            exact b4 b o nb (x3 _ _ (b1 b o nb hb))
          · obtain ⟨dx4, L4, g1, g2, g3⟩ := hc4
            refine ⟨dx4, L4, by rw [upd_ne pc.symm]; exact g1, ?_, g3⟩
            rw [upd_ne (fun z => by rw [z, hp4] at g2; cases g2)]
            exact g2
    · obtain ⟨⟨y0, rfl⟩, good, b1, hc1, hp1⟩ := q
      rw [List.length_map, ls] at good hc1 hp1
      exact s_ret (v := .ref p) (ev_var rfl) fun H2 x2 => ko good p H2 (fun b o nb hb => x2 _ _ (b1 b o nb hb)) (hc1.mono x2) (x2 _ _ hp1) pc
theorem ok_tp {f fN fX fI : Addr} {fd fdN fdX fdI : FuncData} (F : Fun K "take_prices" "take_prices" (topR 28) f fd) (CC : ClsC K mg D) (CP : ClsPr K mg C)
    (GN : FnOk P w K mg base (L2.CX P w) 4 fN fdN ["cursor", "signs"] (spTn D CT)) (bN : Binds K fdN ["cursor", "signs"] []) (gN : mg "take_numbers" = some (.ref fN)) (kN : PySem.W.keepIn K (.ref fN) = true)
    (GX : FnOk P w K mg base (L2.CX P w) 4 fX fdX ["self", "word"] (spExpect D CT)) (bX : Binds K fdX ["self", "word"] []) (mX : Meth K D "expect" fX)
    (M : Mk K C fI) (FI : FnOk P w K mg base CX0 4 fI fdI nPInit (spPInit C)) (bI : Binds K fdI nPInit []) : FnOk P w K mg base (L2.CX P w) 6 f fd ["cursor", "signs"] (spTp D CT C) := by
  refine F.okX scTp (fun vs H Q E h => ?_) (fun cdv A outer s H vs Q E hr h => ?_)
  · obtain ⟨_, _, _, _, rfl, _⟩ := h
    rfl
  · obtain ⟨c, ws, i, al, rfl, hc, small, hal, k1, k2, k3, k4⟩ := h
    have nd := scTp.nd
    obtain ⟨la, ndc⟩ := alpha_facts hal
    have ndS := signs_nd ndc
    refine ⟨_, pss_cons (ps_set (i := 2) nd rfl (.inl rfl) (pe_call (CX := L2.CX P w) (E := E) GN (hr.mono (by decide)) (by rfl) gN kN bN .nil (passes_call (takes_of rfl rfl rfl rfl) fun _ _ _ _ h => h) (pa_cons (pv 0) (pa_cons (pv 1) pa_nil))))
      (pss_cons (ps_expr (pe_meth (CX := L2.CX P w) (E := E) (pv 0) CC.toCls mX GX (hr.mono (by decide)) bX .nil (passes_call (takes_of rfl rfl rfl rfl) fun _ _ _ _ h => h) (pa_cons pe_str pa_nil)))
      (pss_one (ps_ret (pe_make M FI (hr.mono (by decide)) (by rfl) CP.gC bI .nil pass0 (pa_cons (pv 1) (pa_cons (pv 2) (pa_cons (pe_call (CX := L2.CX P w) (E := E) GN (hr.mono (by decide)) (by rfl) gN kN bN .nil (passes_call (takes_of rfl rfl rfl rfl) fun _ _ _ _ h => h) (pa_cons (pv 0) (pa_cons (pv 1) pa_nil))) pa_nil))))))), ?_⟩
    refine (?_ : tCall (spTn D CT) _ _ _ _ H _)
    refine ⟨_, rfl, _, rfl, c, ws, i, al, rfl, hc, small, la, ndS, k1, fun g1 p H1 b1 hc1 hp1 pc => ?_⟩
    dsimp only [gName, List.set_cons_succ, List.set_cons_zero]
    obtain ⟨dx, fs, h1, _, _, l3, _⟩ := hc1.len
    refine ⟨_, rfl, c, dx, fs, rfl, h1, l3, c, ws, _, "/", rfl, hc1, ?_⟩
    by_cases e : wordAt ws (i + al.length) = .str "/"
    · refine .inl ⟨e, fun H2 b2 hc2 => ?_⟩
      have bb2 : ExB c H H2 := fun b o nb hb => b2 b o nb (b1 b o nb hb)
      have hp2 := b2 _ _ pc hp1
      dsimp only
      refine (?_ : tMake _ _ _ _ _ _ H2 _)
      refine ⟨_, rfl, _, rfl, ?_⟩
      refine (?_ : tCons _ _ _ H2 _)
      refine (?_ : tCall (spTn D CT) _ _ _ _ H2 _)
      refine ⟨_, rfl, _, rfl, c, ws, _, al, rfl, hc2, small, la, ndS, fun k hk hg hb d H' x' e' => k3 g1 e k hk hg hb d H' (fun b o nb hb => x' b o nb (bb2 b o nb hb)) e', fun g2 p2 H3 b3 hc3 hp3 pc2 => ?_⟩
      have bb3 : ExB c H H3 := fun b o nb hb => b3 b o nb (bb2 b o nb hb)
      have hp23 := b3 _ _ pc hp2
      refine (fun x dx2 hx hdx ne => ?_)
      have e5 : ∀ b o, H3 b = some o → b ≠ x ∧ b ≠ dx2 := fun b o hb => ⟨ne_of_none hb hx, ne_of_none hb hdx⟩
      have x5 : Ex H3 (upd (upd H3 dx2 (.own x)) x (.ins C dx2 [])) := fun b o hb => by rw [upd_ne (e5 b o hb).1, upd_ne (e5 b o hb).2]; exact hb
      refine ⟨x, dx2, al, .ref p, .ref p2, some (numK al ws i), some (numK al ws (i + al.length + 1)), rfl, upd_same, hal, .dic (x5 _ _ hp23), .dic (x5 _ _ hp3), num_good la g1, num_good la g2, fun H6 b6 A6 => ⟨rfl, ?_⟩⟩
      have x36 : Ex H3 H6 := fun b o hb => b6 b o (e5 b o hb).1 (x5 _ _ hb)
      exact k4 g1 e g2 x H6 (fun b o nb hb => x36 _ _ (bb3 b o nb hb)) (hc3.mono x36) A6
    · exact .inr ⟨e, fun d H' x' e' => k2 g1 e d H' (fun b o nb hb => x' _ _ (b1 b o nb hb)) e'⟩
/-! ### the text as a whole -/
def fitB (ws : List Str) (n k : Nat) : Bool := if k = 1 then decide (wordAt ws 1 = .str ":") else if k = n + 2 then decide (wordAt ws k = .str "/") else digB (wordAt ws k)
end
/-- the first word that cannot stand -/
inductive Wrong (ws : List Str) : Nat → Prop where
  | alpha : isAlphaV (wordAt ws 0) = false → Wrong ws 0
  | fit {al : Str} {k : Nat} : wordAt ws 0 = .str al → isAlphaB al = true → 1 ≤ k → k ≤ 2 * al.length + 2 → (∀ j, 1 ≤ j → j < k → fitB ws al.length j = true) → fitB ws al.length k = false → Wrong ws k
  | long {al : Str} : wordAt ws 0 = .str al → isAlphaB al = true → (∀ j, 1 ≤ j → j ≤ 2 * al.length + 2 → fitB ws al.length j = true) → 2 * al.length + 3 < ws.length → Wrong ws (2 * al.length + 3)
structure RightW (ws : List Str) (al : Str) : Prop where
  sg : wordAt ws 0 = .str al
  ok : isAlphaB al = true
  fit : ∀ j, 1 ≤ j → j ≤ 2 * al.length + 2 → fitB ws al.length j = true
  few : ws.length ≤ 2 * al.length + 3
theorem fit_p {ws : List Str} {n j : Nat} (h : j < n) : fitB ws n (2 + j) = digB (wordAt ws (2 + j)) := by
  unfold fitB
  rw [if_neg (by omega), if_neg (by omega)]
theorem fit_w {ws : List Str} {n j : Nat} : fitB ws n (2 + n + 1 + j) = digB (wordAt ws (2 + n + 1 + j)) := by
  unfold fitB
  rw [if_neg (by omega), if_neg (by omega)]
theorem fit_c {ws : List Str} {n : Nat} : fitB ws n 1 = decide (wordAt ws 1 = .str ":") := by
  unfold fitB
  rw [if_pos rfl]
theorem fit_s {ws : List Str} {n : Nat} : fitB ws n (2 + n) = decide (wordAt ws (2 + n) = .str "/") := by
  unfold fitB
  rw [if_neg (by omega), if_pos (by omega)]
abbrev pWF (al : Str) (ws : List Str) : List (Str × Int) := kvF al (numOf (some (numK al ws 2)))
abbrev wWF (al : Str) (ws : List Str) : List (Str × Int) := kvF al (numOf (some (numK al ws (2 + al.length + 1))))
def spPRead (CT C : Addr) : Sp := fun vs H Q E => ∃ t : Str, vs = [.ref C, .str t] ∧ t.length ≤ 1000 ∧ (∀ w ∈ Txt.split t " ", w.length ≤ 1000) ∧
  (∀ n : Nat, Wrong (Txt.split t " ") n → Raise2V CT "line" "word" (.int 0) (.int (n : Int)) H E) ∧ (∀ al, RightW (Txt.split t " ") al → ∀ H' a, Ex H H' → PricesAt C H' a al (pWF al (Txt.split t " ")) (wWF al (Txt.split t " ")) → Q (.ref a) H')
abbrev nPRead : List Str := ["cls", "text", "cursor", "prices"]
theorem scPRead : FnScope nPRead ["cls", "text"] (defScope (priM 1)) := ⟨rfl, rfl, rfl, by decide +kernel, rfl, by decide +kernel, by decide +kernel⟩
def spPReadX (K : PySem.W.Frag) (CT C : Addr) : Sp := fun vs H _ E => ∃ v : V, vs = [.ref C, v] ∧ (∀ H', Ex H H' → ∃ t, TyX K H' v t ∧ PySem.W.kitOne K t (.type "str") = some false) ∧ Raise2V CT "line" "word" (.int 0) (.int 0) H E
section
variable {P : Program} {w : World} {K : PySem.W.Frag} {mg : Str → Option Value} {base : Heap} {D CT C : Addr}
theorem ok_pread {f fS fB fF fI : Addr} {fd fdS fdB fdF fdI : FuncData} (F : Fun K "read" "Prices.read" (priM 1) f fd) (CC : ClsC K mg D)
    (MD : Mk K D fI) (GI : FnOk P w K mg base CX0 2 fI fdI ["self", "text"] (spCurInit D)) (bI : Binds K fdI ["self", "text"] [])
    (GS : FnOk P w K mg base (L2.CX P w) 5 fS fdS ["cursor"] (spTakeSigns D CT)) (bS : Binds K fdS ["cursor"] []) (gS : mg "take_signs" = some (.ref fS)) (kS : PySem.W.keepIn K (.ref fS) = true)
    (GT : FnOk P w K mg base (L2.CX P w) 6 fB fdB ["cursor", "signs"] (spTp D CT C)) (bT : Binds K fdB ["cursor", "signs"] []) (gT : mg "take_prices" = some (.ref fB)) (kT : PySem.W.keepIn K (.ref fB) = true)
    (GF : FnOk P w K mg base (L2.CX P w) 3 fF fdF ["self"] (spFinish D CT)) (bF : Binds K fdF ["self"] []) (mF : Meth K D "finish" fF) : FnOk P w K mg base (L2.CX P w) 7 f fd ["cls", "text"] (spPRead CT C) := by
  refine F.okX scPRead (fun vs H Q E h => ?_) (fun cdv A outer s H vs Q E hr h => ?_)
  · obtain ⟨_, rfl, _⟩ := h
    rfl
  · obtain ⟨t, rfl, tl, small, kn, ko⟩ := h
    have nd := scPRead.nd
    refine ⟨_, pss_cons (ps_set (i := 2) nd rfl (.inl rfl) (pe_make MD GI (hr.mono (by decide)) (by rfl) CC.gC bI .nil pass0 (pa_cons (pv 1) pa_nil)))
      (pss_cons (ps_set (i := 3) nd rfl (.inl rfl) (pe_call (CX := L2.CX P w) (E := E) GT hr (by rfl) gT kT bT .nil (passes_call (takes_of rfl rfl rfl rfl) fun _ _ _ _ h => h) (pa_cons (pv 2) (pa_cons (pe_call (CX := L2.CX P w) (E := E) GS (hr.mono (by decide)) (by rfl) gS kS bS .nil (passes_call (takes_of rfl rfl rfl rfl) fun _ _ _ _ h => h) (pa_cons (pv 2) pa_nil)) pa_nil))))
      (pss_cons (ps_expr (pe_meth0 (CX := L2.CX P w) (E := E) (pv 2) CC.toCls mF GF (hr.mono (by decide)) bF .nil (passes_call (takes_of rfl rfl rfl rfl) fun _ _ _ _ h => h)))
      (pss_one (ps_ret (pv 3))))), ?_⟩
    refine ⟨_, rfl, fun c dc hc hdc ne => ⟨c, dc, t, rfl, upd_same, by omega, fun H1 b1 hc1 => ⟨rfl, ?_⟩⟩⟩
    have fr : Ex H H1 := fun b o hb => b1 b o (ne_of_none hb hc) (by rw [upd_ne (ne_of_none hb hc), upd_ne (ne_of_none hb hdc)]; exact hb)
    have up : ∀ {H' : Hp}, ExB c H1 H' → Ex H H' := fun y b o hb => y b o (ne_of_none hb hc) (fr _ _ hb)
    generalize Txt.split t " " = ws at small kn ko hc1 b1
    dsimp only [gName, List.set_cons_succ, List.set_cons_zero]
    refine (?_ : tCall (spTp D CT C) _ _ _ _ H1 _)
    refine ⟨_, rfl, ?_⟩
    refine (?_ : tCons _ _ _ H1 _)
    refine (?_ : tCall (spTakeSigns D CT) _ _ _ _ H1 _)
    refine ⟨_, rfl, c, ws, 0, rfl, hc1, small, ?_⟩
    cases ha : isAlphaV (wordAt ws 0) with
    | false => exact .inl ⟨rfl, fun d H' x' e' => kn 0 (.alpha ha) d H' (fr.trans x') e'⟩
    | true =>
      obtain ⟨al, eal⟩ := alpha_str ha
      have hal : isAlphaB al = true := by
        rw [eal] at ha
        exact ha
      by_cases h1 : wordAt ws 1 = .str ":"
      · have f1 : fitB ws al.length 1 = true := by
          rw [fit_c, h1]
          exact decide_eq_true rfl
        refine .inr (.inr ⟨rfl, h1, fun H2 b2 hc2 => ?_⟩)
        rw [eal]
        refine ⟨c, ws, 2, al, rfl, hc2, small, hal, fun k hk hg hb d H' x' e' => kn (2 + k) (.fit eal hal (by omega) (by omega) (fun j h1 h2 => ?_) (by rw [fit_p hk]; exact hb)) d H' (up fun b o nb hb => x' b o nb (b2 b o nb hb)) e', fun hg hb d H' x' e' => kn (2 + al.length) (.fit eal hal (by omega) (by omega) (fun j h1 h2 => ?_) (by rw [fit_s]; exact decide_eq_false hb)) d H' (up fun b o nb hb => x' b o nb (b2 b o nb hb)) e',
          fun hg hs k hk hg2 hb d H' x' e' => kn (2 + al.length + 1 + k) (.fit eal hal (by omega) (by omega) (fun j h1 h2 => ?_) (by rw [fit_w]; exact hb)) d H' (up fun b o nb hb => x' b o nb (b2 b o nb hb)) e', fun hg hs hg2 a H3 b3 hc3 A3 => ?_⟩
        · by_cases z : j = 1
          · rw [z]
            exact f1
          · have e : j = 2 + (j - 2) := by omega
            rw [e, fit_p (by omega)]
            exact hg _ (by omega)
        · by_cases z : j = 1
          · rw [z]
            exact f1
          · have e : j = 2 + (j - 2) := by omega
            rw [e, fit_p (by omega)]
            exact hg _ (by omega)
        · by_cases z : j = 1
          · rw [z]
            exact f1
          · rcases Nat.lt_or_ge j (2 + al.length) with lt | ge
            · have e : j = 2 + (j - 2) := by omega
              rw [e, fit_p (by omega)]
              exact hg _ (by omega)
            · by_cases z2 : j = 2 + al.length
              · rw [z2, fit_s]
                exact decide_eq_true hs
              · have e : j = 2 + al.length + 1 + (j - (2 + al.length + 1)) := by omega
                rw [e, fit_w]
                exact hg2 _ (by omega)
        · have all : ∀ j, 1 ≤ j → j ≤ 2 * al.length + 2 → fitB ws al.length j = true := fun j h1 h2 => by
            by_cases z : j = 1
            · rw [z]
              exact f1
            · rcases Nat.lt_or_ge j (2 + al.length) with lt | ge
              · have e : j = 2 + (j - 2) := by omega
                rw [e, fit_p (by omega)]
                exact hg _ (by omega)
              · by_cases z2 : j = 2 + al.length
                · rw [z2, fit_s]
                  exact decide_eq_true hs
                · have e : j = 2 + al.length + 1 + (j - (2 + al.length + 1)) := by omega
                  rw [e, fit_w]
                  exact hg2 _ (by omega)
          have bb3 : ExB c H1 H3 := fun b o nb hb => b3 b o nb (b2 b o nb hb)
          have x3 : Ex H H3 := up bb3
          dsimp only [gName, List.set_cons_succ, List.set_cons_zero]
          obtain ⟨dx, fs, g1, _, _, _, l4⟩ := hc3.len
          refine ⟨_, rfl, c, dx, fs, rfl, g1, l4, c, ws, _, rfl, hc3, ?_⟩
          have en : 2 + al.length + 1 + al.length = 2 * al.length + 3 := by omega
          rw [en]
          rcases Nat.lt_or_ge (2 * al.length + 3) ws.length with lt | ge
          · exact .inr ⟨lt, fun d H' x' e' => kn _ (.long eal hal all lt) d H' (x3.trans x') e'⟩
          · exact .inl ⟨ge, fun H4 x4 => ⟨_, rfl, ko al ⟨eal, hal, all, ge⟩ H4 a (x3.trans x4) (A3.mono x4)⟩⟩
      · refine .inr (.inl ⟨rfl, h1, fun d H' x' e' => kn 1 (.fit eal hal (by omega) (by omega) (fun j h1 h2 => absurd h2 (by omega)) (by rw [fit_c]; exact decide_eq_false h1)) d H' (up x') e'⟩)
theorem ok_preadX {f fI : Addr} {fd fdI : FuncData} (F : Fun K "read" "Prices.read" (priM 1) f fd) (CC : ClsC K mg D) (MD : Mk K D fI) (GI : FnOk P w K mg base (L2.CX P w) 3 fI fdI ["self", "text"] (spCurInitX K D CT)) (bI : Binds K fdI ["self", "text"] []) :
    FnOk P w K mg base (L2.CX P w) 7 f fd ["cls", "text"] (spPReadX K CT C) := by
  refine F.okX scPRead (fun vs H Q E h => ?_) (fun cdv A outer s H vs Q E hr h => ?_)
  · obtain ⟨_, rfl, _⟩ := h
    rfl
  · obtain ⟨v, rfl, no, r⟩ := h
    have nd := scPRead.nd
    refine ⟨_, pss_cons (ps_set (i := 2) nd rfl (.inl rfl) (pe_make (CX := L2.CX P w) (E := E) MD GI (hr.mono (by decide)) (by rfl) CC.gC bI .nil (passes_call (takes_of rfl rfl rfl rfl) fun _ _ _ _ h => h) (pa_cons (pv 1) pa_nil))) pss_never, ?_⟩
    refine ⟨_, rfl, fun c dc hc hdc ne => ?_⟩
    have fr : Ex H (upd (upd H dc (.own c)) c (.ins D dc [])) := fun b o hb => by
      rw [upd_ne (ne_of_none hb hc), upd_ne (ne_of_none hb hdc)]
      exact hb
    exact ⟨c, dc, v, rfl, upd_same, fun H' x' => no H' (fr.trans x'), fun d H' x' e' => r d H' (fr.trans x') e'⟩
end
end K02

set_option Elab.async false
set_option linter.all false
set_option maxRecDepth 100000
set_option maxHeartbeats 4000000
/-! prices.py: the maths of the texts of rates -/
namespace K02
open PySem PySem.Spec PyProof.Rows L2 Evl KU
def sDG : Str := "0123456789"
def dgT (n : Nat) : Str := toString ((n : Nat) : Int)
abbrev dv (t : Str) : Nat := NumText.digitsVal t.cps.toList
theorem dg_cps (n : Nat) : (dgT n).cps.toList = TL.numL n := TL.tl_num n
theorem dg_over {t : Str} : Over sDG t ↔ NumText.AllDigits t.cps.toList := by
  have e : ∀ c ∈ sDG.cps.toList, 48 ≤ c ∧ c ≤ 57 := by decide +kernel
  have e2 : ∀ c, 48 ≤ c → c ≤ 57 → c ∈ sDG.cps.toList := fun c h1 h2 => by
    have e : c = 48 ∨ c = 49 ∨ c = 50 ∨ c = 51 ∨ c = 52 ∨ c = 53 ∨ c = 54 ∨ c = 55 ∨ c = 56 ∨ c = 57 := by omega
    rcases e with rfl | rfl | rfl | rfl | rfl | rfl | rfl | rfl | rfl | rfl <;> decide +kernel
  exact ⟨fun h c hc => e c (h c hc), fun h c hc => e2 c (h c hc).1 (h c hc).2⟩
theorem dv_pos : ∀ {cs : List Nat}, NumText.AllDigits cs → (¬ ∀ c ∈ cs, c = 48) → 0 < NumText.digitsVal cs
  | [], _, h => absurd (fun c hc => by cases hc) h
  | a :: r, d, h => by
    by_cases e : a = 48
    · subst e
      rw [NumText.digitsVal_zero]
      exact dv_pos d.tail fun z => h fun c hc => by
        rcases List.mem_cons.mp hc with rfl | hc
        · rfl
        · exact z c hc
    · have := d.head
      exact NumText.digitsVal_pos (by omega)
theorem dv_zero : ∀ {cs : List Nat}, (∀ c ∈ cs, c = 48) → NumText.digitsVal cs = 0
  | [], _ => rfl
  | a :: r, h => by
    have e := h a List.mem_cons_self
    subst e
    rw [NumText.digitsVal_zero]
    exact dv_zero fun c hc => h c (List.mem_cons_of_mem _ hc)
theorem fold_lt : ∀ (cs : List Nat) (acc : Nat), NumText.AllDigits cs → cs.foldl (fun acc c => acc * 10 + (c - 48)) acc < (acc + 1) * 10 ^ cs.length
  | [], acc, _ => by
    show acc < (acc + 1) * 1
    omega
  | a :: r, acc, d => by
    have ih := fold_lt r (acc * 10 + (a - 48)) d.tail
    have h := d.head
    rw [List.foldl_cons, List.length_cons, Nat.pow_succ, Nat.mul_comm (10 ^ r.length) 10, ← Nat.mul_assoc]
    exact Nat.lt_of_lt_of_le ih (Nat.mul_le_mul_right _ (by omega))
theorem dv_lt {cs : List Nat} (d : NumText.AllDigits cs) : NumText.digitsVal cs < 10 ^ cs.length := by
  have := fold_lt cs 0 d
  unfold NumText.digitsVal
  omega
def big : Nat := 10 ^ 250
theorem big_log {n : Nat} (h : n < big) : n.log2 < 1920 := by
  rcases Nat.eq_zero_or_pos n with rfl | z
  · decide
  · rw [Nat.log2_lt (by omega)]
    exact Nat.lt_trans h (by unfold big; decide +kernel)
theorem dg_len {n : Nat} (h : n < big) : (dgT n).length ≤ 250 := by
  rw [← len_cps, dg_cps]
  exact TL.numL_len (by omega) h
/-- the text of a rate -/
def rText (p w : Nat) : Str := if w = 1 then dgT p else dgT p ++ "/" ++ dgT w
theorem sl_cps : (("/" : Str)).cps.toList = [47] := rfl
theorem rText_cps (p w : Nat) : (rText p w).cps.toList = if w = 1 then TL.numL p else TL.numL p ++ 47 :: TL.numL w := by
  unfold rText
  split
  · exact dg_cps p
  · rw [cat_cps, cat_cps, dg_cps, dg_cps, sl_cps, List.append_assoc]
    rfl
theorem rText_len {p w : Nat} (hp : p < big) (hw : w < big) : (rText p w).length ≤ 501 := by
  have h1 := dg_len hp
  have h2 := dg_len hw
  unfold rText
  split
  · omega
  · rw [cat_len, cat_len]
    show _ + 1 + _ ≤ _
    omega
/-- the price and the weight as they stand -/
def parP (t : Str) : Str := (Txt.partition t "/").1
def parW (t : Str) : Str := if (Txt.partition t "/").2.1 = "" then "1" else (Txt.partition t "/").2.2
def okR (t : Str) : Bool := isTextB (parP t ++ parW t) sDG && (!decide (V.str (parP t) = V.str "") && !isTextB (parW t) "0")
def redP (a b : Nat) : Nat := a / Nat.gcd a b
def redW (a b : Nat) : Nat := b / Nat.gcd a b
def readR (t : Str) : Option (Nat × Nat) := if okR t = true then
    if rText (redP (dv (parP t)) (dv (parW t))) (redW (dv (parP t)) (dv (parW t))) = t then some (redP (dv (parP t)) (dv (parW t)), redW (dv (parP t)) (dv (parW t))) else none
  else none
theorem ok_facts {t : Str} (h : okR t = true) : NumText.AllDigits (parP t).cps.toList ∧ NumText.AllDigits (parW t).cps.toList ∧ (parP t).cps.toList ≠ [] ∧ (parW t).cps.toList ≠ [] ∧ 0 < dv (parW t) := by
  unfold okR at h
  rw [Bool.and_eq_true, Bool.and_eq_true, Bool.not_eq_true', Bool.not_eq_true', decide_eq_false_iff_not] at h
  obtain ⟨h1, h2, h3⟩ := h
  have d := dg_over.mp (text_over h1)
  rw [cat_cps] at d
  have dw : NumText.AllDigits (parW t).cps.toList := fun c hc => d c (List.mem_append_right _ hc)
  have n0 : ¬ ∀ c ∈ (parW t).cps.toList, c = 48 := fun z => by
    have : isTextB (parW t) "0" = true := text_iff.mpr fun c hc => by
      rw [z c hc]
      decide
    rw [this] at h3
    cases h3
  refine ⟨fun c hc => d c (List.mem_append_left _ hc), dw, fun z => h2 ?_, fun z => n0 fun c hc => ?_, dv_pos dw n0⟩
  · rw [show parP t = "" from str_eq z]
  · rw [z] at hc
    cases hc
theorem red_one {a b : Nat} (h : 0 < b) : 1 ≤ redW a b ∧ Nat.gcd (redP a b) (redW a b) = 1 := by
  have g : 0 < Nat.gcd a b := Nat.gcd_pos_of_pos_right _ h
  constructor
  · unfold redW
    exact (Nat.one_le_div_iff g).mpr (Nat.le_of_dvd h (Nat.gcd_dvd_right a b))
  · unfold redP redW
    rw [Nat.gcd_div (Nat.gcd_dvd_left a b) (Nat.gcd_dvd_right a b), Nat.div_self g]
theorem red_self {a b : Nat} (h : Nat.gcd a b = 1) : redP a b = a ∧ redW a b = b := by
  unfold redP redW
  rw [h, Nat.div_one, Nat.div_one]
  exact ⟨rfl, rfl⟩
/-- rates in lowest terms -/
structure Low (p w : Nat) : Prop where
  pos : 1 ≤ w
  one : Nat.gcd p w = 1
theorem read_sound {t : Str} {r : Nat × Nat} (h : readR t = some r) : t = rText r.1 r.2 ∧ Low r.1 r.2 := by
  unfold readR at h
  split at h
  · rename_i ho
    split at h
    · rename_i e
      have h := Option.some.inj h
      subst h
      obtain ⟨_, _, _, _, pos⟩ := ok_facts ho
      obtain ⟨h1, h2⟩ := red_one (a := dv (parP t)) pos
      exact ⟨e.symm, h1, h2⟩
    · cases h
  · cases h
theorem slash_free (n : Nat) : 47 ∉ TL.numL n := TL.numL_free (.inl (by decide))
theorem read_text {p w : Nat} (L : Low p w) : readR (rText p w) = some (p, w) := by
  have pw : parP (rText p w) = dgT p ∧ parW (rText p w) = dgT w := by
    unfold parP parW rText
    by_cases e : w = 1
    · rw [if_pos e, TL.partition_none (y := "/") (s := 47) (S := []) rfl (by rw [show TL.tl (dgT p) = TL.numL p from TL.tl_num p]; exact slash_free p)]
      refine ⟨rfl, ?_⟩
      show (if Str.empty = ("" : Str) then ("1" : Str) else Str.empty) = dgT w
      rw [if_pos (show Str.empty = ("" : Str) from rfl), e]
      decide +kernel
    · rw [if_neg e, TL.partition_app (y := "/") (s := 47) (S := []) rfl (by rw [show TL.tl (dgT p) = TL.numL p from TL.tl_num p]; exact slash_free p)]
      exact ⟨rfl, if_neg (show ¬ (("/" : Str) = "") by decide)⟩
  have dp : dv (dgT p) = p := by
    unfold dv
    rw [dg_cps, TL.numL_val]
  have dw : dv (dgT w) = w := by
    unfold dv
    rw [dg_cps, TL.numL_val]
  have ok : okR (rText p w) = true := by
    unfold okR
    rw [pw.1, pw.2, Bool.and_eq_true, Bool.and_eq_true, Bool.not_eq_true', Bool.not_eq_true', decide_eq_false_iff_not]
    refine ⟨text_iff.mpr (dg_over.mpr ?_), fun z => ?_, ?_⟩
    · rw [cat_cps, dg_cps, dg_cps]
      intro c hc
      rcases List.mem_append.mp hc with h | h
      · exact TL.numL_digits p c h
      · exact TL.numL_digits w c h
    · have e := congrArg (fun s : Str => s.cps.toList) (V.str.inj z)
      have e : (dgT p).cps.toList = [] := e
      rw [dg_cps] at e
      exact TL.numL_ne p e
    · cases h : isTextB (dgT w) "0" with
      | false => rfl
      | true =>
        have o := text_over h
        have z := dv_zero (cs := (dgT w).cps.toList) fun c hc => by
          have := o c hc
          have e : (("0" : Str)).cps.toList = [48] := rfl
          rw [e, List.mem_singleton] at this
          exact this
        have z : dv (dgT w) = 0 := z
        rw [dw] at z
        have := L.pos
        omega
  unfold readR
  rw [if_pos ok, pw.1, pw.2, dp, dw, (red_self L.one).1, (red_self L.one).2, if_pos rfl]
/-! ### texts that are none -/
theorem none_of {t : Str} (h : ∀ p w, Low p w → t ≠ rText p w) : readR t = none := by
  cases e : readR t with
  | none => rfl
  | some r =>
    obtain ⟨e1, l⟩ := read_sound e
    exact absurd e1 (h _ _ l)
theorem rText_signs {p w c : Nat} (h : c ∈ (rText p w).cps.toList) : c = 47 ∨ (48 ≤ c ∧ c ≤ 57) := by
  rw [rText_cps] at h
  split at h
  · exact .inr (TL.numL_digits p c h)
  · rcases List.mem_append.mp h with h | h
    · exact .inr (TL.numL_digits p c h)
    · rcases List.mem_cons.mp h with h | h
      · exact .inl h
      · exact .inr (TL.numL_digits w c h)
/-- a sign that stands in no rate -/
theorem none_sign {t : Str} {c : Nat} (h : c ∈ t.cps.toList) (n : c ≠ 47 ∧ (c < 48 ∨ 57 < c)) : readR t = none := none_of fun p w _ e => by
  rw [e] at h
  have := rText_signs h
  omega
theorem rText_ne (p w : Nat) : (rText p w).cps.toList ≠ [] := by
  rw [rText_cps]
  split
  · exact TL.numL_ne p
  · exact fun z => by
      have := congrArg List.length z
      rw [List.length_append, List.length_cons] at this
      have e : ([] : List Nat).length = 0 := rfl
      omega
theorem none_empty : readR "" = none := none_of fun p w _ e => rText_ne p w (by rw [← e]; rfl)
theorem rText_count {p w : Nat} : (rText p w).cps.toList.count 47 ≤ 1 := by
  rw [rText_cps]
  split
  · rw [List.count_eq_zero_of_not_mem (slash_free p)]
    omega
  · rw [List.count_append, List.count_cons, List.count_eq_zero_of_not_mem (slash_free p), List.count_eq_zero_of_not_mem (slash_free w)]
    simp
/-- two strokes -/
theorem none_two {t : Str} (h : 2 ≤ t.cps.toList.count 47) : readR t = none := none_of fun p w _ e => by
  rw [e] at h
  have := rText_count (p := p) (w := w)
  omega
theorem none_last {t : Str} {xs : List Nat} (h : t.cps.toList = xs ++ [47]) : readR t = none := none_of fun p w _ e => by
  rw [e, rText_cps] at h
  split at h
  · have m : 47 ∈ TL.numL p := by
      rw [h]
      simp
    exact slash_free p m
  · have ne := TL.numL_ne w
    obtain ⟨ys, y, ey⟩ : ∃ ys y, TL.numL w = ys ++ [y] := ⟨_, _, (List.dropLast_concat_getLast ne).symm⟩
    rw [ey, ← List.cons_append, ← List.append_assoc] at h
    have := (List.append_inj' h rfl).2
    have e2 : y = 47 := List.singleton_inj.mp this
    have m : y ∈ TL.numL w := by
      rw [ey]
      simp
    rw [e2] at m
    exact slash_free w m
theorem none_first {t : Str} {xs : List Nat} (h : t.cps.toList = 47 :: xs) : readR t = none := none_of fun p w _ e => by
  rw [e, rText_cps] at h
  have ne := TL.numL_ne p
  split at h
  · have m : 47 ∈ TL.numL p := by
      rw [h]
      simp
    exact slash_free p m
  · cases en : TL.numL p with
    | nil => exact ne en
    | cons a r =>
      rw [en, List.cons_append] at h
      have e2 : a = 47 := (List.cons.inj h).1
      have m : 47 ∈ TL.numL p := by
        rw [en, e2]
        simp
      exact slash_free p m
theorem num_head {n : Nat} {r : List Nat} (h : TL.numL n = 48 :: r) : n = 0 := by
  rcases Nat.lt_or_ge n 10 with lt | ge
  · rw [TL.numL_lt lt] at h
    have := (List.cons.inj h).1
    omega
  · exact absurd h (fun h => by
      have : ∀ m : Nat, 1 ≤ m → ∀ r, TL.numL m ≠ 48 :: r := fun m => by
        induction m using Nat.strongRecOn with
        | ind m ih =>
          intro hm r hr
          rcases Nat.lt_or_ge m 10 with lt | ge
          · rw [TL.numL_lt lt] at hr
            have := (List.cons.inj hr).1
            omega
          · rw [TL.numL_step ge] at hr
            cases e : TL.numL (m / 10) with
            | nil => exact TL.numL_ne _ e
            | cons a q =>
              rw [e, List.cons_append] at hr
              have ea := (List.cons.inj hr).1
              rw [ea] at e
              exact ih (m / 10) (by omega) (by omega) q e
      exact this n (by omega) r h)
/-- a nought ahead of more -/
theorem none_nought {t : Str} {xs : List Nat} (h : t.cps.toList = 48 :: xs) (n : ∃ c r, xs = c :: r ∧ c ≠ 47) : readR t = none := none_of fun p w L e => by
  obtain ⟨c, r, rfl, nc⟩ := n
  rw [e, rText_cps] at h
  have z : p = 0 := by
    split at h
    · exact num_head h
    · cases en : TL.numL p with
      | nil => exact absurd en (TL.numL_ne p)
      | cons a q =>
        rw [en, List.cons_append] at h
        rw [(List.cons.inj h).1] at en
        exact num_head en
  subst z
  have e0 : TL.numL 0 = [48] := TL.numL_lt (by omega)
  rw [e0] at h
  split at h
  · cases h
  · have := (List.cons.inj (List.cons.inj h).2).1
    exact nc this.symm
/-- a price and a weight that are not in lowest terms, or a weight that is 1 or nought -/
theorem none_pair {t : Str} {a b : Nat} (h : t.cps.toList = TL.numL a ++ 47 :: TL.numL b) (n : b = 1 ∨ ¬ Low a b) : readR t = none := none_of fun p w L e => by
  rw [e, rText_cps] at h
  split at h
  · have m : 47 ∈ TL.numL p := by
      rw [h]
      simp
    exact slash_free p m
  · rename_i nw
    have key : ∀ {xs ys us vs : List Nat}, 47 ∉ xs → 47 ∉ us → xs ++ 47 :: ys = us ++ 47 :: vs → xs = us ∧ ys = vs := fun {xs} => by
      induction xs with
      | nil =>
        intro ys us vs h1 h2 e
        cases us with
        | nil => exact ⟨rfl, (List.cons.inj e).2⟩
        | cons a r => exact absurd (List.mem_cons.mpr (.inl (List.cons.inj e).1)) h2
      | cons x xs ih =>
        intro ys us vs h1 h2 e
        cases us with
        | nil => exact absurd (List.mem_cons.mpr (.inl (List.cons.inj e).1.symm)) h1
        | cons a r =>
          obtain ⟨e1, e2⟩ := List.cons.inj e
          obtain ⟨e3, e4⟩ := ih (fun z => h1 (List.mem_cons_of_mem _ z)) (fun z => h2 (List.mem_cons_of_mem _ z)) e2
          exact ⟨by rw [e1, e3], e4⟩
    obtain ⟨e1, e2⟩ := key (slash_free p) (slash_free a) h
    have e1 := TL.numL_inj e1
    have e2 := TL.numL_inj e2
    subst e1 e2
    rcases n with n | n
    · exact nw n
    · exact n L
end K02

set_option Elab.async false
set_option linter.all false
set_option maxRecDepth 100000
set_option maxHeartbeats 4000000
/-! prices.py: class Rate -/
namespace K02
open PySem PySem.Spec PyProof.Rows L2 Evl KU
abbrev ratM (i : Nat) : Stmt := inClass (topR 32) i
structure ClsRt (K : PySem.W.Frag) (mg : Str → Option Value) (R : Addr) : Prop extends ClsO K R where
  nPrice : NoAttr K R "price"
  nWeight : NoAttr K R "weight"
  gR : mg "Rate" = some (.ref R)
def RateAt (R : Addr) (H : Hp) (a : Addr) (p w : Nat) : Prop := ∃ dx, H a = some (.ins R dx [("price", .int (p : Int)), ("weight", .int (w : Int))])
theorem RateAt.mono {R : Addr} {H H' : Hp} {a : Addr} {p w : Nat} (x : Ex H H') (h : RateAt R H a p w) : RateAt R H' a p w := by
  obtain ⟨dx, h⟩ := h
  exact ⟨dx, x _ _ h⟩
def IsRt (R : Addr) (p w : Nat) : V → Hp → Prop := fun v H => ∃ a, v = .ref a ∧ RateAt R H a p w
theorem up_isRt (R : Addr) (p w : Nat) : Up (IsRt R p w) := fun v H H' x ⟨a, e, h⟩ => ⟨a, e, h.mono x⟩
def spRInit (R : Addr) : Sp := fun vs H Q _ => ∃ (a dx : Addr) (p w : Nat), vs = [.ref a, .int (p : Int), .int (w : Int)] ∧ H a = some (.ins R dx []) ∧ 1 ≤ w ∧ w < big ∧ ∀ H', ExB a H H' → RateAt R H' a (redP p w) (redW p w) → Q .non H'
abbrev nRInit : List Str := ["self", "price", "weight", "shared"]
theorem scRInit : FnScope nRInit ["self", "price", "weight"] (defScope (ratM 0)) := ⟨rfl, rfl, rfl, by decide +kernel, rfl, by decide +kernel, by decide +kernel⟩
def spRStr (R : Addr) : Sp := fun vs H Q _ => ∃ (a : Addr) (p w : Nat), vs = [.ref a] ∧ RateAt R H a p w ∧ p < big ∧ w < big ∧ RetV (.str (rText p w)) H Q
theorem scRStr : FnScope ["self"] ["self"] (defScope (ratM 2)) := ⟨rfl, rfl, rfl, by decide +kernel, rfl, by decide +kernel, by decide +kernel⟩
def spREq (R : Addr) : Sp := fun vs H Q _ => ∃ (a b : Addr) (p w p' w' : Nat), vs = [.ref a, .ref b] ∧ RateAt R H a p w ∧ RateAt R H b p' w' ∧ RetV (.bl (decide (p = p') && decide (w = w'))) H Q
theorem scREq : FnScope ["self", "other"] ["self", "other"] (defScope (ratM 4)) := ⟨rfl, rfl, rfl, by decide +kernel, rfl, by decide +kernel, by decide +kernel⟩
def spRRead (CT R : Addr) : Sp := fun vs H Q E => ∃ t : Str, vs = [.ref R, .str t] ∧ t.length ≤ 240 ∧ (readR t = none → Raise2V CT "line" "word" (.int 0) (.int 0) H E) ∧ (∀ p w, readR t = some (p, w) → ∀ H' a, Ex H H' → RateAt R H' a p w → Q (.ref a) H')
def spRReadX (K : PySem.W.Frag) (CT R : Addr) : Sp := fun vs H _ E => ∃ v : V, vs = [.ref R, v] ∧ (∀ H', Ex H H' → ∃ t, TyX K H' v t ∧ PySem.W.kitOne K t (.type "str") = some false) ∧ Raise2V CT "line" "word" (.int 0) (.int 0) H E
abbrev nRRead : List Str := ["cls", "text", "price", "stroke", "weight", "rate"]
theorem scRRead : FnScope nRRead ["cls", "text"] (defScope (ratM 1)) := ⟨rfl, rfl, rfl, by decide +kernel, rfl, by decide +kernel, by decide +kernel⟩
theorem q_join {tt : TT} {tu tz : TS} {D : L2.Ends} {σ : L2.St} {H : Hp} {b : Bool} {J : L2.St → Hp → Prop} (h : EvT tt σ H b) (h1 : b = true → ∀ H1, Ex H H1 → ∀ N : L2.St → Hp → Prop, (∀ σ' H', J σ' H' → N σ' H') → tu { D with nx := N } σ H1)
    (h2 : b = false → ∀ H1, Ex H H1 → J σ H1) (k : ∀ σ' H', J σ' H' → tz D σ' H') : tSeq (tIfS tt tu tNext) tz D σ H := q_when h (fun z H1 x1 => h1 z H1 x1 _ k) fun z H1 x1 => k _ _ (h2 z H1 x1)
theorem red_lt {p w : Nat} (hp : p < big) (hw : w < big) : redP p w < big ∧ redW p w < big := ⟨Nat.lt_of_le_of_lt (Nat.div_le_self _ _) hp, Nat.lt_of_le_of_lt (Nat.div_le_self _ _) hw⟩
section
variable {K : PySem.W.Frag} {σ : L2.St} {H : Hp} {te ta tb : TE}
theorem ev_strN {n : Nat} (h : Ev te σ H (.int (n : Int))) (hn : n < big) : Ev (tCB (fun xs H Q => ∃ i : Int, xs = [V.int i] ∧ i.natAbs.log2 < 1920 ∧ Q (V.str (toString i)) H) (tCons te tNil)) σ H (.str (dgT n)) := ev_cb (ea_cons h ea_nil) fun H1 x1 Q1 q1 => ⟨_, rfl, by
  rw [Int.natAbs_natCast]
  exact big_log hn, q1 H1 (Ex.refl _)⟩
abbrev rIntS : List V → Hp → VK → Prop := fun xs H Q => ∃ a n, xs = [V.str a] ∧ PySem.intText? a = some n ∧ a.length ≤ 640 ∧ Q (V.int n) H
theorem ev_intS {t : Str} (h : Ev te σ H (.str t)) (d : NumText.AllDigits t.cps.toList) (n : t.cps.toList ≠ []) (l : t.length ≤ 640) : Ev (tCB rIntS (tCons te tNil)) σ H (.int ((dv t : Nat) : Int)) := ev_cb (ea_cons h ea_nil) fun H1 x1 Q1 q1 => ⟨t, _, rfl, PySem.intText_digits d n (by omega), l, q1 H1 (Ex.refl _)⟩
theorem evp_rate {R : Addr} {E : XK} {p w : Nat} (ha : Ev ta σ H (.int (p : Int))) (hb : Ev tb σ H (.int (w : Int))) (w0 : 1 ≤ w) (wb : w < big) : EvP (tMake R (spRInit R) [] E (tCons ta (tCons tb tNil))) σ H (IsRt R (redP p w) (redW p w)) := fun H1 x1 Q q => by
  refine (?_ : tCons _ _ _ H1 _)
  refine (ea_cons ha (ea_cons hb ea_nil)) H1 x1 _ fun H2 x2 => ?_
  intro x dx hx hdx ne
  refine ⟨x, dx, p, w, rfl, upd_same, w0, wb, fun H3 b3 A => ⟨rfl, q _ H3 (x2.trans ?_) ⟨x, rfl, A⟩⟩⟩
  intro b o hb
  refine b3 _ _ (ne_of_none hb hx) ?_
  rw [upd_ne (ne_of_none hb hx), upd_ne (ne_of_none hb hdx)]
  exact hb
end
theorem sub_len (x : Str) (a b : Nat) : (PySem.Builtin.Str.strSub x a b).length ≤ x.length := by
  unfold PySem.Builtin.Str.strSub
  show (x.cps.extract a b).size ≤ x.cps.size
  rw [Array.size_extract]
  omega
theorem par_len (t : Str) : (parP t).length ≤ t.length ∧ (parW t).length ≤ t.length + 1 := by
  unfold parP parW
  rcases PyProof.Rows.partition_whole t "/" with ⟨e, _⟩ | ⟨i, e, _, _⟩
  · rw [e]
    refine ⟨Nat.le_refl _, ?_⟩
    show (if Str.empty = ("" : Str) then ("1" : Str) else Str.empty).length ≤ _
    rw [if_pos (show Str.empty = ("" : Str) from rfl)]
    show 1 ≤ _
    omega
  · rw [e]
    refine ⟨sub_len _ _ _, ?_⟩
    show (if ("/" : Str) = ("" : Str) then ("1" : Str) else PySem.Builtin.Str.strSub t (i + ("/" : Str).length) t.length).length ≤ _
    rw [if_neg (show ¬ (("/" : Str) = "") by decide)]
    have := sub_len t (i + ("/" : Str).length) t.length
    omega
section
variable {K : PySem.W.Frag} {σ : L2.St} {H : Hp} {te ta tb : TE} {E : XK} {R : Addr}
theorem ev_strR {a : Addr} {p w : Nat} (h : Ev te σ H (.ref a)) (A : RateAt R H a p w) (hp : p < big) (hw : w < big) : Ev (tCB (rStrI R (spRStr R) E) (tCons te tNil)) σ H (.str (rText p w)) := ev_cb (ea_cons h ea_nil) fun H1 x1 Q1 q1 => by
  obtain ⟨dx, h1⟩ := id A
  exact ⟨a, dx, _, rfl, x1 _ _ h1, a, p, w, rfl, A.mono x1, hp, hw, fun H2 x2 => ⟨_, rfl, q1 H2 x2⟩⟩
end
section
variable {P : Program} {w : World} {K : PySem.W.Frag} {mg : Str → Option Value} {base : Heap} {R CT : Addr}
theorem ok_rinit {f fI : Addr} {fd fdI : FuncData} {dvs : List V} {kws : List (Str × V)} (F : FunD K "__init__" "Rate.__init__" (defArgs (ratM 0)) (defBody (ratM 0)) (defScope (ratM 0)) dvs kws f fd) (CR : ClsRt K mg R) (gG : mg "gcd" = some (.builtin "math.gcd"))
    (GI : FnOk P w K mg base CX0 1 fI fdI ["value"] spIsInt) (bI : Binds K fdI ["value"] []) (gI : mg "is_integer" = some (.ref fI)) (kI : PySem.W.keepIn K (.ref fI) = true) : FnOk P w K mg base CX0 2 f fd ["self", "price", "weight"] (spRInit R) := by
  refine F.ok scRInit (fun vs H Q E h => ?_) (fun cdv A outer s H vs Q E hr h => ?_)
  · obtain ⟨_, _, _, _, rfl, _⟩ := h
    rfl
  · obtain ⟨a, dx, p, w0, rfl, ha, wp, wb, k⟩ := h
    have nd := scRInit.nd
    refine ⟨_, pss_cons (ps_if (PW.pt (pw_or (pt_not (pt_val (pe_call GI hr (by rfl) gI kI bI .nil pass0 (pa_cons (pv 1) pa_nil)))) (pw_or1 (pt_cmpR op_lt (pv 1) pe_int (nomark _))))) (pss_one ps_never) pss_nil)
      (pss_cons (ps_if (PW.pt (pw_or (pt_not (pt_val (pe_call GI hr (by rfl) gI kI bI .nil pass0 (pa_cons (pv 2) pa_nil)))) (pw_or1 (pt_cmpR op_lt (pv 2) pe_int (nomark _))))) (pss_one ps_never) pss_nil)
      (pss_cons (ps_set (i := 3) nd rfl (.inl rfl) (pe_callBfun cr_gcd (by rfl) gG (pa_cons (pv 1) (pa_cons (pv 2) pa_nil))))
      (pss_cons (ps_fld (pv 0) (pe_op op_fdivW (pv 1) (pv 3)) rfl)
      (pss_one (ps_fld (pv 0) (pe_op op_fdivW (pv 2) (pv 3)) rfl))))), ?_⟩
    have isI : ∀ {j : Nat} {n : Int} {G : Hp}, (start nRInit [.ref a, .int (p : Int), .int (w0 : Int)])[j]? = some (some (.int n)) → Ev (tCall spIsInt [] E0 (tCons (tVar j) tNil)) (start nRInit [.ref a, .int (p : Int), .int (w0 : Int)]) G (.bl true) := fun e => ev_call (ea_cons (ev_var e) ea_nil) fun H1 x1 Q1 q1 E1 => ⟨_, rfl, q1⟩
    refine q_when (b := false) (et_is (et_or (a := false) (et_is (et_not (et_B (isI rfl))) rfl) fun _ => et_test (ev_op (ev_var rfl) ev_c rv_I0)) (by rw [Bool.false_or]; exact decide_eq_false (by omega))) (fun z => by cases z) fun _ H1 x1 => ?_
    refine q_when (b := false) (et_is (et_or (a := false) (et_is (et_not (et_B (isI rfl))) rfl) fun _ => et_test (ev_op (ev_var rfl) ev_c rv_I0)) (by rw [Bool.false_or]; exact decide_eq_false (by omega))) (fun z => by cases z) fun _ H2 x2 => ?_
    have x12 := x1.trans x2
    refine ⟨_, rfl, _, rfl, (p : Int), (w0 : Int), rfl, ?_⟩
    rw [Int.natAbs_natCast, Int.natAbs_natCast]
    dsimp only [gName, List.set_cons_succ, List.set_cons_zero]
    have g0 : 0 < Nat.gcd p w0 := Nat.gcd_pos_of_pos_right _ (by omega)
    have gb : Nat.gcd p w0 < big := Nat.lt_of_le_of_lt (Nat.le_of_dvd (by omega) (Nat.gcd_dvd_right p w0)) wb
    have cd : ∀ i : Int, CDivW i ((Nat.gcd p w0 : Nat) : Int) := fun i => ⟨by omega, by
      rw [Int.natAbs_natCast]
      have := big_log gb
      omega⟩
    have fd : ∀ {j : Nat} {n : Nat} {σ : L2.St} {G : Hp}, σ[j]? = some (some (.int (n : Int))) → σ[3]? = some (some (.int ((Nat.gcd p w0 : Nat) : Int))) → Ev (tOp (rI CDivW fun i j => .int (i / j)) (tVar j) (tVar 3)) σ G (.int ((n / Nat.gcd p w0 : Nat) : Int)) := fun {j n σ G} e1 e2 =>
      ev_is (ev_op (ev_var e1) (ev_var e2) fun H1 x1 Q1 q1 => ⟨_, _, rfl, rfl, cd _, q1 H1 (Ex.refl _)⟩) (by rw [Int.natCast_ediv])
    refine q_fldP (Pz := fun z _ => z = .int ((redP p w0 : Nat) : Int)) (a := a) (evp_of (fd rfl rfl)) rfl fun z H4 x4 ez => ?_
    subst ez
    refine ⟨R, dx, [], x4 _ _ (x12 _ _ ha), CR.toCls, CR.nPrice, by simp, ?_⟩
    have b5 : ExB a H (upd H4 a (.ins R dx (putF "price" (.int ((redP p w0 : Nat) : Int)) []))) := fun b o nb hb => by
      rw [upd_ne nb]
      exact x4 _ _ (x12 _ _ hb)
    have e5 : upd H4 a (.ins R dx (putF "price" (.int ((redP p w0 : Nat) : Int)) [])) a = some (.ins R dx [("price", .int ((redP p w0 : Nat) : Int))]) := upd_same
    generalize upd H4 a (.ins R dx (putF "price" (.int ((redP p w0 : Nat) : Int)) [])) = H5 at b5 e5 ⊢
    refine s_fldP (Pz := fun z _ => z = .int ((redW p w0 : Nat) : Int)) (a := a) (evp_of (fd rfl rfl)) rfl fun z H6 x6 ez => ?_
    subst ez
    refine ⟨R, dx, _, x6 _ _ e5, CR.toCls, CR.nWeight, by simp, ?_⟩
    exact k _ (fun b o nb hb => by rw [upd_ne nb]; exact x6 _ _ (b5 _ _ nb hb)) ⟨dx, upd_same⟩
theorem ok_rstr {f : Addr} {fd : FuncData} (F : Fun K "__str__" "Rate.__str__" (ratM 2) f fd) (T : Free mg) (CR : ClsRt K mg R) : FnOk P w K mg base CX0 1 f fd ["self"] (spRStr R) := by
  refine F.ok scRStr (fun vs H Q E h => ?_) (fun cdv A outer s H vs Q E hr h => ?_)
  · obtain ⟨_, _, _, rfl, _⟩ := h
    rfl
  · obtain ⟨a, p, w0, rfl, ⟨dx, h1⟩, hp, hw, k⟩ := h
    refine ⟨_, pss_cons (ps_if (pt_cmpR op_eq (pe_fld (pv 0) rfl) pe_int (nomark _)) (pss_one (ps_ret (pe_callTy call_str_int (by rfl) T.str (by decide +kernel) (pa_cons (pe_fld (pv 0) rfl) pa_nil)))) pss_nil)
      (pss_one (ps_ret (pe_joined (.cons (pe_fmt (pe_fld (pv 0) rfl)) (.cons pe_str (.cons (pe_fmt (pe_fld (pv 0) rfl)) .nil)))))), ?_⟩
    have l1 := dg_len hp
    have l2 := dg_len hw
    refine q_when (b := decide (w0 = 1)) (et_is (et_test (ev_op (ev_fld (K := K) (te := tVar 0) (ev_var rfl) h1 CR.toCls CR.nWeight rfl) ev_c (rv_eq rfl))) ?_) (fun z H1 x1 => ?_) fun z H1 x1 => ?_
    · rw [Bool.eq_iff_iff, decide_eq_true_eq, decide_eq_true_eq]
      exact ⟨fun z => by injection z with z; omega, fun z => by rw [z]; rfl⟩
    · have e : w0 = 1 := of_decide_eq_true z
      refine s_ret (v := .str (rText p w0)) (ev_is (ev_strN (ev_fld (K := K) (te := tVar 0) (ev_var rfl) (x1 _ _ h1) CR.toCls CR.nPrice rfl) hp) (by unfold rText; rw [if_pos e])) fun H2 x2 => k H2 (x1.trans x2)
    · have e : w0 ≠ 1 := of_decide_eq_false z
      have z := k H1 x1
      unfold rText at z
      rw [if_neg e] at z
      refine ⟨_, rfl, a, R, dx, _, _, rfl, x1 _ _ h1, CR.toCls, CR.nPrice, rfl, .inr ⟨(p : Int), rfl, by rw [Int.natAbs_natCast]; exact big_log hp, dgT p, rfl, ?_, ("/" : Str), rfl, ?_, _, rfl, a, R, dx, _, _, rfl, x1 _ _ h1, CR.toCls, CR.nWeight, rfl, .inr ⟨(w0 : Int), rfl, by rw [Int.natAbs_natCast]; exact big_log hw, dgT w0, rfl, ?_, ?_⟩⟩⟩
      · rw [sizeLine_eq, str_nil]
        omega
      · rw [sizeLine_eq, str_nil, cat_len]
        show _ + 1 ≤ _
        omega
      · rw [sizeLine_eq, str_nil, cat_len, cat_len]
        show _ + 1 + _ ≤ _
        omega
      · rw [str_nil]
        exact z
theorem ok_req {f : Addr} {fd : FuncData} (F : Fun K "__eq__" "Rate.__eq__" (ratM 4) f fd) (T : Free mg) (CR : ClsRt K mg R) : FnOk P w K mg base CX0 1 f fd ["self", "other"] (spREq R) := by
  refine F.ok scREq (fun vs H Q E h => ?_) (fun cdv A outer s H vs Q E hr h => ?_)
  · obtain ⟨_, _, _, _, _, _, rfl, _⟩ := h
    rfl
  · obtain ⟨a, b, p, w0, p', w', rfl, ⟨dx, h1⟩, ⟨dy, g1⟩, k⟩ := h
    refine ⟨_, pss_one (ps_ret (pe_and (pe_callB call_isi (by rfl) T.isinstance (by decide +kernel) (pa_cons (pv 1) (pa_cons (pe_glob (v := .ref R) rfl CR.gR rfl) pa_nil)))
      (pe_and (pe_cmpR op_eq (pe_fld (pv 0) rfl) (pe_fld (pv 1) rfl) (nomark _)) (pe_one (pe_cmpR op_eq (pe_fld (pv 0) rfl) (pe_fld (pv 1) rfl) (nomark _)))))), ?_⟩
    have eqn : ∀ {m n : Nat}, decide (V.int (m : Int) = V.int (n : Int)) = decide (m = n) := fun {m n} => by
      rw [Bool.eq_iff_iff, decide_eq_true_eq, decide_eq_true_eq]
      exact ⟨fun z => by injection z with z; omega, fun z => by rw [z]⟩
    refine s_ret (v := .bl (decide (p = p') && decide (w0 = w'))) (ev_is (ev_andV (a := true) (b := decide (p = p') && decide (w0 = w')) (ev_isO CR.toClsO g1 (ta := tVar 1) (tc := tC (.ref R)) (σ := start ["self", "other"] [.ref a, .ref b]) (ev_var rfl) ev_c) fun _ =>
      ev_andV (a := decide (p = p')) (b := decide (w0 = w')) (ev_is (ev_op (ev_fld (K := K) (te := tVar 0) (ev_var rfl) h1 CR.toCls CR.nPrice rfl) (ev_fld (K := K) (te := tVar 1) (ev_var rfl) g1 CR.toCls CR.nPrice rfl) (rv_eq rfl)) (by rw [eqn])) fun _ =>
        ev_is (ev_op (ev_fld (K := K) (te := tVar 0) (ev_var rfl) h1 CR.toCls CR.nWeight rfl) (ev_fld (K := K) (te := tVar 1) (ev_var rfl) g1 CR.toCls CR.nWeight rfl) (rv_eq rfl)) (by rw [eqn])) (by rw [Bool.true_and])) k
theorem ok_rread {f fX fI fS : Addr} {fd fdX fdI : FuncData} (F : Fun K "read" "Rate.read" (ratM 1) f fd) (T : Free mg) (CR : ClsRt K mg R) (gDG : ∃ t, mg "DIGITS" = some (.str "0123456789" t))
    (ZT : Cl P w K mg base "BadText" CT ["line", "word"] (spI2 K "line" "word"))
    (GX : FnOk P w K mg base CX0 1 fX fdX ["value", "signs"] (spIsText K)) (bX : Binds K fdX ["value", "signs"] []) (gX : mg "is_text" = some (.ref fX)) (kX : PySem.W.keepIn K (.ref fX) = true)
    (M : Mk K R fI) (FI : FnOk P w K mg base CX0 2 fI fdI ["self", "price", "weight"] (spRInit R)) (bI : Binds K fdI ["self", "price", "weight"] [])
    (hS : PySem.W.findIn K (.ref R) "__str__" = some (some (.ref fS))) (iS : PySem.W.isFn K (.ref fS) = true) (GS : FnR P w K mg base CX0 1 fS (spRStr R)) : FnOk P w K mg base (L2.CX P w) 6 f fd ["cls", "text"] (spRRead CT R) := by
  obtain ⟨tg, gDG⟩ := gDG
  refine F.okX scRRead (fun vs H Q E h => ?_) (fun cdv A outer s H vs Q E hr h => ?_)
  · obtain ⟨_, rfl, _⟩ := h
    rfl
  · obtain ⟨t, rfl, tl, kn, ko⟩ := h
    have nd := scRRead.nd
    refine ⟨_, pss_cons (ps_if (pt_not (pt_val (pe_callB call_isi (by rfl) T.isinstance (by decide +kernel) (pa_cons (pv 1) (pa_cons (pe_bltn (v := .ty "str") (by rfl) T.str (by decide +kernel) rfl) pa_nil))))) (pss_one ps_never) pss_nil)
      (pss_cons (ps_asg (pe_partition (pv 1) pe_str) (pg_tup (by rfl) (pgs_cons (pg_name (i := 2) nd rfl (.inl rfl)) (pgs_cons (pg_name (i := 3) nd rfl (.inl rfl)) (pgs_cons (pg_name (i := 4) nd rfl (.inl rfl)) pgs_nil)))))
      (pss_cons (ps_if (pt_cmpR op_eq (pv 3) pe_str (nomark _)) (pss_one (ps_set (i := 4) nd rfl (.inl rfl) pe_str)) pss_nil)
      (pss_cons (ps_if (PW.pt (pw_or (pt_not (pt_val (pe_call GX (hr.mono (by decide)) (by rfl) gX kX bX .nil pass0 (pa_cons (pe_op op_add_str (pv 2) (pv 4)) (pa_cons (pe_glob (v := .str sDG) rfl gDG ⟨_, rfl⟩) pa_nil))))) (pw_or (pt_cmpR op_eq (pv 2) pe_str (nomark _)) (pw_or1 (pt_cmpR op_eq (pe_bm PySem.F.plainAttrs_str PySem.F.slot_str_strip PySem.F.type_str_strip mt_stripChars (pv 4) (pa_cons pe_str pa_nil)) pe_str (nomark _))))))
          (pss_one (ps_raise2 rfl (takes_of rfl rfl rfl rfl) ZT (hr.mono (by decide)) (pa_cons pe_int (pa_cons pe_int pa_nil)))) pss_nil)
      (pss_cons (ps_set (i := 5) nd rfl (.inl rfl) (pe_make M FI (hr.mono (by decide)) (by rfl) CR.gR bI .nil pass0 (pa_cons (pe_callTy call_int_str (by rfl) T.int (by decide +kernel) (pa_cons (pv 2) pa_nil)) (pa_cons (pe_callTy call_int_str (by rfl) T.int (by decide +kernel) (pa_cons (pv 4) pa_nil)) pa_nil))))
      (pss_cons (ps_if (pt_cmpR op_ne (pe_callTy (call_strI (C := R) hS iS GS (hr.mono (by decide)) pass0) (by rfl) T.str (by decide +kernel) (pa_cons (pv 5) pa_nil)) (pv 1) (nomark _)) (pss_one (ps_raise2 rfl (takes_of rfl rfl rfl rfl) ZT (hr.mono (by decide)) (pa_cons pe_int (pa_cons pe_int pa_nil)))) pss_nil)
      (pss_one (ps_ret (pv 5)))))))), ?_⟩
    obtain ⟨lp, lw⟩ := par_len t
    refine q_when (b := false) (et_is (et_not (et_B (ev_isStr (v := .str t) (ev_var rfl) (.str t)))) rfl) (fun z => by cases z) fun _ H1 x1 => ?_
    refine ⟨_, rfl, ⟨t, rfl⟩, t, "/", rfl, rfl, rfl, by rw [sizeLine_eq]; omega, fun pp hpp => ?_⟩
    have x2 : Ex H1 (upd H1 pp (.tup [.str (Txt.partition t "/").1, .str (Txt.partition t "/").2.1, .str (Txt.partition t "/").2.2])) := Ex.new hpp
    refine ⟨pp, _, rfl, st_of upd_same, rfl, _, _, rfl, _, _, rfl, _, _, rfl, rfl, ?_⟩
    generalize upd H1 pp (.tup [.str (Txt.partition t "/").1, .str (Txt.partition t "/").2.1, .str (Txt.partition t "/").2.2]) = H2 at x2 ⊢
    dsimp only [gName, List.set_cons_succ, List.set_cons_zero]
    have x12 := x1.trans x2
    refine q_join (b := decide (V.str (Txt.partition t "/").2.1 = V.str "")) (J := fun σ' H' => σ' = [some (.ref R), some (.str t), some (.str (parP t)), some (.str (Txt.partition t "/").2.1), some (.str (parW t)), none] ∧ Ex H H') (et_test (ev_op (ev_var rfl) ev_c (rv_eq rfl))) (fun z H3 x3 N kk => ?_) (fun z H3 x3 => ⟨?_, x12.trans x3⟩) fun σ' H' ⟨es, xx⟩ => ?_
    · have e := V.str.inj (of_decide_eq_true z)
      refine s_asgP (P := fun u _ => u = .str "1") (evp_of ev_c) fun v H4 x4 ev => ?_
      subst ev
      refine kk _ _ ⟨?_, x12.trans (x3.trans x4)⟩
      have ew : parW t = "1" := by
        unfold parW
        rw [if_pos e]
      rw [ew]
      rfl
    · have e : (Txt.partition t "/").2.1 ≠ "" := fun y => of_decide_eq_false z (by rw [y])
      have ew : parW t = (Txt.partition t "/").2.2 := by
        unfold parW
        rw [if_neg e]
      rw [ew]
      rfl
    subst es
    have strip : Ev (tBM K "str" rStrip (tVar 4) (tCons (tC (.str "0")) tNil)) [some (.ref R), some (.str t), some (.str (parP t)), some (.str (Txt.partition t "/").2.1), some (.str (parW t)), none] H' (.str (Txt.stripChars (parW t) "0")) := fun G1 y1 Q q => ⟨_, rfl, rfl, parW t, "0", rfl, rfl, by rw [sizeLine_eq]; omega, q G1 (Ex.refl _)⟩
    refine q_when (b := !okR t) (et_is (et_or (a := !isTextB (parP t ++ parW t) sDG) (b := decide (V.str (parP t) = V.str "") || isTextB (parW t) "0") (et_not (et_B (ev_call (z := .bl (isTextB (parP t ++ parW t) sDG)) (ea_cons (ev_cat (ev_var rfl) (ev_var rfl) (by omega)) (ea_cons ev_c ea_nil)) fun G1 y1 Q1 q1 E1 => ⟨.str _, sDG, rfl, .str _ (by rw [cat_len]; omega), q1⟩))) fun _ =>
      et_or (a := decide (V.str (parP t) = V.str "")) (b := isTextB (parW t) "0") (et_test (ev_op (ev_var rfl) ev_c (rv_eq rfl))) fun _ => et_test (ev_op strip ev_c (rv_eq rfl))) ?_) (fun z H3 x3 => ?_) fun z H3 x3 => ?_
    · unfold okR
      cases isTextB (parP t ++ parW t) sDG <;> cases decide (V.str (parP t) = V.str "") <;> cases isTextB (parW t) "0" <;> rfl
    · have no : okR t = false := by
        cases h : okR t with
        | false => rfl
        | true =>
          rw [h] at z
          cases z
      exact s_raise2 ZT.oex (ZT.no _ List.mem_cons_self) (ZT.no _ (List.mem_cons_of_mem _ List.mem_cons_self)) (ea_cons ev_c (ea_cons ev_c ea_nil)) fun d H4 x4 e4 => kn (by unfold readR; rw [no]; rfl) d H4 (xx.trans (x3.trans x4)) e4
    · have ok : okR t = true := by
        cases h : okR t with
        | true => rfl
        | false =>
          rw [h] at z
          cases z
      obtain ⟨d1, d2, n1, n2, pos⟩ := ok_facts ok
      have small : ∀ {u : Str}, NumText.AllDigits u.cps.toList → u.length ≤ 241 → dv u < big := fun {u} d l => by
        have h := dv_lt d
        rw [len_cps] at h
        exact Nat.lt_of_lt_of_le h (Nat.pow_le_pow_right (by omega) (by omega))
      have b1 := small d1 (by omega)
      have b2 := small d2 (by omega)
      obtain ⟨rb1, rb2⟩ := red_lt b1 b2
      refine q_asgP (P := IsRt R (redP (dv (parP t)) (dv (parW t))) (redW (dv (parP t)) (dv (parW t)))) (evp_rate (ev_intS (ev_var rfl) d1 n1 (by omega)) (ev_intS (ev_var rfl) d2 n2 (by omega)) pos b2) fun v H4 x4 ⟨a, ev, A4⟩ => ?_
      subst ev
      have x4' := xx.trans (x3.trans x4)
      refine q_when (b := !decide (rText (redP (dv (parP t)) (dv (parW t))) (redW (dv (parP t)) (dv (parW t))) = t)) (et_is (et_test (ev_op (ev_strR (R := R) (E := E0) (ev_var rfl) A4 rb1 rb2) (ev_var rfl) (rv_ne rfl))) ?_) (fun z H5 x5 => ?_) fun z H5 x5 => ?_
      · refine congrArg not ?_
        rw [Bool.eq_iff_iff, decide_eq_true_eq, decide_eq_true_eq]
        exact ⟨fun z => V.str.inj z, fun z => by rw [z]⟩
      · have ne : rText (redP (dv (parP t)) (dv (parW t))) (redW (dv (parP t)) (dv (parW t))) ≠ t := fun y => by
          rw [y] at z
          simp at z
        exact s_raise2 ZT.oex (ZT.no _ List.mem_cons_self) (ZT.no _ (List.mem_cons_of_mem _ List.mem_cons_self)) (ea_cons ev_c (ea_cons ev_c ea_nil)) fun d H6 x6 e6 => kn (by unfold readR; rw [if_pos ok, if_neg ne]) d H6 (x4'.trans (x5.trans x6)) e6
      · have eq : rText (redP (dv (parP t)) (dv (parW t))) (redW (dv (parP t)) (dv (parW t))) = t := by
          by_cases y : rText (redP (dv (parP t)) (dv (parW t))) (redW (dv (parP t)) (dv (parW t))) = t
          · exact y
          · rw [decide_eq_false y] at z
            cases z
        exact s_ret (v := .ref a) (ev_var rfl) fun H6 x6 => ko _ _ (by unfold readR; rw [if_pos ok, if_pos eq]) H6 a (x4'.trans (x5.trans x6)) ((A4.mono x5).mono x6)
theorem ok_rreadX {f : Addr} {fd : FuncData} (F : Fun K "read" "Rate.read" (ratM 1) f fd) (T : Free mg) (ZT : Cl P w K mg base "BadText" CT ["line", "word"] (spI2 K "line" "word")) :
    FnOk P w K mg base (L2.CX P w) 6 f fd ["cls", "text"] (spRReadX K CT R) := by
  refine F.okX scRRead (fun vs H Q E h => ?_) (fun cdv A outer s H vs Q E hr h => ?_)
  · obtain ⟨_, rfl, _⟩ := h
    rfl
  · obtain ⟨v, rfl, no, r⟩ := h
    refine ⟨_, pss_cons (ps_if (pt_not (pt_val (pe_callB call_isi (by rfl) T.isinstance (by decide +kernel) (pa_cons (pv 1) (pa_cons (pe_bltn (v := .ty "str") (by rfl) T.str (by decide +kernel) rfl) pa_nil))))) (pss_one (ps_raise2 rfl (takes_of rfl rfl rfl rfl) ZT (hr.mono (by decide)) (pa_cons pe_int (pa_cons pe_int pa_nil)))) pss_nil) pss_never, ?_⟩
    refine q_when (b := true) (et_is (et_not (et_B (ev_cb (ea_cons (ev_var rfl) (ea_cons ev_c ea_nil)) fun H1 x1 Q1 q1 => by
      obtain ⟨t, ty, e⟩ := no H1 x1
      exact ⟨v, _, t, _, false, rfl, .ty "str", ty, e, q1 H1 (Ex.refl _)⟩))) rfl) (fun _ H1 x1 => s_raise2 ZT.oex (ZT.no _ List.mem_cons_self) (ZT.no _ (List.mem_cons_of_mem _ List.mem_cons_self)) (ea_cons ev_c (ea_cons ev_c ea_nil)) fun d H2 x2 e2 => r d H2 (x1.trans x2) e2) fun z => by cases z
end
end K02

set_option Elab.async false
set_option linter.all false
set_option maxRecDepth 100000
set_option maxHeartbeats 4000000
/-! The law's own look at a text: is it an alphabet, which word is wrong -/
namespace K02
open PySem PySem.Spec PyProof.Rows L2 Evl KU
abbrev rNinS : R2 := fun x y H Q => ∃ i j : Str, x = .str i ∧ y = .str j ∧ Q (.bl (!inS i j)) H
theorem op_ninS {X : Cx} : OpR X (compareOp .NotIn) rNinS := op_notin_str
section
variable {K : PySem.W.Frag} {σ : L2.St} {H : Hp} {te tl ta tb tc : TE}
theorem ev_ninS {a b : Str} (ha : Ev ta σ H (.str a)) (hb : Ev tb σ H (.str b)) : Ev (tOp rNinS ta tb) σ H (.bl (!inS a b)) := ev_op ha hb fun H1 x1 Q q => ⟨a, b, rfl, rfl, q H1 (Ex.refl _)⟩
theorem ev_neNilL {a : List Str} (ha : EvL ta σ H (a.map V.str)) (o : ∀ t ∈ a, PyData.strOk t = true) : Ev (tOp (rNeD K) ta (tLst tNil)) σ H (.bl (!decide (a = []))) :=
  ev_opLL ha (el_lst (vs := ([] : List Str).map V.str) ea_nil (by decide)) fun p q H1 h1 h2 x1 => rv_neL h1 h2 o fun t ht => by cases ht
end
/-- (a if t else b) as a test -/
def tIfT (t ta tb : TT) : TT := fun σ H Q => t σ H fun c H1 => if c = true then ta σ H1 Q else tb σ H1 Q
theorem pt_ifExp {X : Cx} {a b c : Expr} {pos : Pos} {tt tu tv : TT} (hc : PT X c tt) (ha : PT X a tu) (hb : PT X b tv) : PT X (.IfExp c a b pos) (tIfT tt tu tv) := by
  refine ⟨fun pins s σ H Q I h => ?_⟩
  refine PyProof.Rows.isTrue_IfExp (thn (hc.run pins s σ H _ I h) fun d s1 ⟨H1, I1, q1⟩ => ?_)
  cases d with
  | true => exact ha.run pins s1 σ H1 Q I1 q1
  | false => exact hb.run pins s1 σ H1 Q I1 q1
theorem et_ifT {σ : L2.St} {H : Hp} {tt tu tv : TT} {b c : Bool} (h : EvT tt σ H b) (h1 : b = true → EvT tu σ H c) (h2 : b = false → EvT tv σ H c) : EvT (tIfT tt tu tv) σ H c := fun H1 e Q q => h H1 e _ fun H2 e2 => by
  cases b with
  | true =>
    rw [if_pos rfl]
    exact h1 rfl H2 (e.trans e2) Q fun H3 e3 => q H3 (e2.trans e3)
  | false =>
    rw [if_neg (by decide)]
    exact h2 rfl H2 (e.trans e2) Q fun H3 e3 => q H3 (e2.trans e3)
def oddSigns (t al : Str) : List Str := (signsL t).filter fun c => !inS c al
theorem odd_signs (t al : Str) : decide (oddSigns t al = []) = isTextB t al := by
  rw [Bool.eq_iff_iff, decide_eq_true_eq, text_iff]
  unfold oddSigns signsL
  rw [List.filter_eq_nil_iff]
  constructor
  · intro h c hc
    have := h ⟨#[c]⟩ (List.mem_map.mpr ⟨c, hc, rfl⟩)
    rw [Bool.not_eq_true, Bool.not_eq_false'] at this
    exact (inS_mem al).mp this
  · intro h s hs
    obtain ⟨c, hc, rfl⟩ := List.mem_map.mp hs
    rw [Bool.not_eq_true, Bool.not_eq_false']
    exact (inS_mem al).mpr (h c hc)
theorem odd_ok {t al : Str} (h : PlainS t) : ∀ u ∈ oddSigns t al, PyData.strOk u = true := fun u hu => by
  obtain ⟨c, hc, rfl⟩ := List.mem_map.mp (List.mem_filter.mp hu).1
  exact plain_strOk fun d hd => by
    have e : ((⟨#[c]⟩ : Str)).cps.toList = [c] := rfl
    rw [e, List.mem_singleton] at hd
    rw [hd]
    exact h c hc
def riseB (t : Str) : Bool := ((List.range (t.length - 1)).map fun k => ltS (sgn t k) (sgn t (k + 1))).all id
theorem rise_iff (t : Str) : riseB t = true ↔ t.cps.toList.Pairwise (· < ·) := by
  have lc := len_cps t
  have lts : ∀ {a b : Nat}, ltS (⟨#[a]⟩ : Str) ⟨#[b]⟩ = true ↔ a < b := fun {a b} => by
    unfold ltS
    rw [decide_eq_true_eq]
    show [a] < [b] ↔ _
    rw [List.cons_lt_cons_iff]
    exact ⟨fun h => h.elim (fun h => h) fun h => absurd h.2 (by simp), fun h => .inl h⟩
  unfold riseB
  rw [List.all_map, List.all_eq_true, List.pairwise_iff_getElem]
  constructor
  · intro h2
    have step : ∀ k, k + 1 < t.cps.toList.length → t.cps.toList.getD k 0 < t.cps.toList.getD (k + 1) 0 := fun k hk => lts.mp (h2 k (List.mem_range.mpr (by omega)))
    have mono : ∀ j, j < t.cps.toList.length → ∀ i, i < j → t.cps.toList.getD i 0 < t.cps.toList.getD j 0 := fun j => by
      induction j with
      | zero =>
        intro _ i hi
        omega
      | succ j ih =>
        intro hj i hi
        have s1 := step j hj
        rcases Nat.lt_or_ge i j with lt | ge
        · exact Nat.lt_trans (ih (by omega) i lt) s1
        · have : i = j := by omega
          rw [this]
          exact s1
    intro i j hi hj lt
    have := mono j hj i lt
    rw [List.getD_eq_getElem?_getD, List.getD_eq_getElem?_getD, List.getElem?_eq_getElem hi, List.getElem?_eq_getElem hj] at this
    exact this
  · intro h k hk
    have hk := List.mem_range.mp hk
    have := h k (k + 1) (by omega) (by omega) (by omega)
    show ltS (sgn t k) (sgn t (k + 1)) = true
    unfold sgn
    refine lts.mpr ?_
    rw [List.getD_eq_getElem?_getD, List.getD_eq_getElem?_getD, List.getElem?_eq_getElem (by omega), List.getElem?_eq_getElem (by omega)]
    exact this
theorem srt_pairs (ws : List Str) : (srt ws).Pairwise fun a b => a.cps.toList ≤ b.cps.toList := by
  have z := List.pairwise_mergeSort (le := fun a b : Str => decide (a.cps.toList ≤ b.cps.toList)) (fun a b c h1 h2 => decide_eq_true (List.le_trans (of_decide_eq_true h1) (of_decide_eq_true h2)))
    (fun a b => by
      rw [Bool.or_eq_true, decide_eq_true_eq, decide_eq_true_eq]
      exact List.le_total _ _) (uniq ws)
  exact z.imp fun h => of_decide_eq_true h
/-- the signs in order, each once, are the text: they rise -/
theorem join_rise (t : Str) : decide (V.str (Txt.join "" (srt (signsL t))) = V.str t) = riseB t := by
  have me : Txt.join "" (signsL t) = t := by
    have := join_one t.cps.toList
    unfold signsL
    rw [this]
  rw [Bool.eq_iff_iff, decide_eq_true_eq, rise_iff]
  have leI : ∀ {a b : Nat}, [a] ≤ [b] → a ≤ b := fun {a b} h => by
    rcases Nat.lt_or_ge b a with lt | ge
    · exact absurd (List.cons_lt_cons_iff.mpr (.inl lt)) (List.not_lt.mpr h)
    · exact ge
  constructor
  · intro h
    have h := V.str.inj h
    have all : ∀ u ∈ srt (signsL t), ∃ c, u = (⟨#[c]⟩ : Str) := fun u hu => by
      obtain ⟨c, _, e⟩ := sign_of ((mem_srt _ _).mp hu)
      exact ⟨c, e⟩
    obtain ⟨cs, ecs⟩ : ∃ cs : List Nat, srt (signsL t) = cs.map fun c => (⟨#[c]⟩ : Str) := by
      refine ⟨(srt (signsL t)).map fun u => u.cps.toList.headD 0, ?_⟩
      rw [List.map_map]
      refine (List.map_id _).symm.trans (List.map_congr_left fun u hu => ?_)
      obtain ⟨c, e⟩ := all u hu
      rw [e]
      rfl
    have e1 : cs = t.cps.toList := by
      rw [ecs, join_one] at h
      rw [← h]
    have p := srt_pairs (signsL t)
    have n := nodup_srt (signsL t)
    rw [ecs, List.pairwise_map] at p
    rw [ecs] at n
    have n := List.pairwise_map.mp n
    rw [← e1]
    refine (p.and n).imp fun {a b} h => ?_
    have l := leI h.1
    rcases Nat.lt_or_ge a b with lt | ge
    · exact lt
    · exact absurd (show (⟨#[a]⟩ : Str) = ⟨#[b]⟩ by rw [show a = b by omega]) h.2
  · intro h
    have e : signsL t = srt (signsL t) := by
      refine srt_is (sorted_of ?_) (signs_nd (h.imp fun z => by omega)) fun k => Iff.rfl
      unfold signsL
      rw [List.pairwise_map]
      exact h.imp fun {a b} z => by
        show [a] ≤ [b]
        exact List.not_lt.mp fun y => by
          rcases List.cons_lt_cons_iff.mp y with y | y
          · omega
          · omega
    rw [← e, me]
abbrev sLAl : Stmt := topR 38
abbrev nLAl : List Str := ["_law_word", "_law_sign"]
theorem scLAl : FnScope nLAl ["_law_word"] (defScope sLAl) := ⟨rfl, rfl, rfl, by decide +kernel, rfl, by decide +kernel, by decide +kernel⟩
def spLAl : Sp := fun vs H Q _ => ∃ t : Str, vs = [.str t] ∧ t.length ≤ 1000 ∧ PlainS t ∧ RetV (.bl (isAlphaB t)) H Q
theorem law_alpha (t : Str) : (if (!(decide ((2 : Int) ≤ (t.length : Int)) && decide ((t.length : Int) ≤ 4)) || !decide (oddSigns t sSIGNS = [])) = true then false else decide (V.str (Txt.join "" (srt (signsL t))) = V.str t)) = isAlphaB t := by
  rw [odd_signs, join_rise]
  unfold isAlphaB isWordB
  change _ = ((_ && _) && riseB t)
  generalize riseB t = z
  have a1 : decide ((2 : Int) ≤ (t.length : Int)) = !decide ((t.length : Int) < 2) := by rw [Bool.eq_iff_iff]; simp
  have a2 : decide ((t.length : Int) < 2) = false → decide ((1 : Int) ≤ (t.length : Int)) = true := fun h => by
    have := of_decide_eq_false h
    exact decide_eq_true (by omega)
  rw [a1]
  cases h : decide ((t.length : Int) < 2) with
  | true => cases isTextB t sSIGNS <;> cases decide ((1 : Int) ≤ (t.length : Int)) <;> cases decide ((t.length : Int) ≤ 4) <;> rfl
  | false =>
    rw [a2 h]
    cases isTextB t sSIGNS <;> cases decide ((t.length : Int) ≤ 4) <;> simp
abbrev sLWr : Stmt := topR 39
abbrev nLWr : List Str := ["_law_words", "_law_many", "_law_due", "_law_at", "_law_word"]
theorem scLWr : FnScope nLWr ["_law_words"] (defScope sLWr) := ⟨rfl, rfl, rfl, by decide +kernel, rfl, by decide +kernel, by decide +kernel⟩
def spLWr : Sp := fun vs H Q _ => ∃ (W : Addr) (ws : List Str), vs = [.ref W] ∧ H W = some (.lst (ws.map V.str)) ∧ ws ≠ [] ∧ ws.length ≤ 1000 ∧ (∀ w ∈ ws, w.length ≤ 1000 ∧ PlainS w) ∧
  (∀ n : Nat, Wrong ws n → RetV (.int (n : Int)) H Q) ∧ (∀ al, RightW ws al → RetV .non H Q)
def dueS (n : Nat) : List Str := ((":" : Str) :: List.replicate n ("n" : Str)) ++ (("/" : Str) :: List.replicate n ("n" : Str))
def dueAt (n i : Nat) : Str := if i = 0 then ":" else if i = n + 1 then "/" else "n"
theorem due_len (n : Nat) : (dueS n).length = 2 * n + 2 := by
  unfold dueS
  rw [List.length_append, List.length_cons, List.length_cons, List.length_replicate]
  omega
theorem due_at {n i : Nat} (h : i < 2 * n + 2) : (dueS n)[i]? = some (dueAt n i) := by
  unfold dueS dueAt
  rcases Nat.lt_or_ge i (n + 1) with lt | ge
  · rw [List.getElem?_append_left (by rw [List.length_cons, List.length_replicate]; exact lt)]
    cases i with
    | zero => rfl
    | succ i =>
      rw [List.getElem?_cons_succ, List.getElem?_replicate, if_pos (by omega), if_neg (by omega), if_neg (by omega)]
  · rw [List.getElem?_append_right (by rw [List.length_cons, List.length_replicate]; exact ge), List.length_cons, List.length_replicate, if_neg (by omega)]
    by_cases e : i = n + 1
    · rw [if_pos e, e, Nat.sub_self]
      rfl
    · rw [if_neg e, show i - (n + 1) = (i - (n + 2)) + 1 by omega, List.getElem?_cons_succ, List.getElem?_replicate, if_pos (by omega)]
theorem rep_flat (n : Nat) (s : Str) : (List.replicate n [V.str s]).flatten = (List.replicate n s).map V.str := by
  induction n with
  | zero => rfl
  | succ n ih =>
    rw [List.replicate_succ, List.replicate_succ, List.flatten_cons, ih]
    rfl
theorem fit_word {ws : List Str} {k : Nat} (h : fitB ws n k = true) : k < ws.length := by
  rcases Nat.lt_or_ge k ws.length with lt | ge
  · exact lt
  · have e : wordAt ws k = .non := by
      unfold wordAt
      rw [List.getElem?_eq_none ge]
    unfold fitB at h
    split at h
    · rename_i z
      rw [z] at e
      rw [e] at h
      cases h
    · split at h
      · rw [e] at h
        cases h
      · rw [e] at h
        cases h
theorem fit_none {ws : List Str} {n k : Nat} (ge : ws.length ≤ k) : fitB ws n k = false := by
  cases h : fitB ws n k with
  | false => rfl
  | true =>
    have := fit_word h
    omega
theorem fit_test {ws : List Str} {n i : Nat} {w : Str} (h : ws[i + 1]? = some w) : (if decide (V.str (dueAt n i) = V.str "n") = true then (!decide (V.int (w.length : Int) = V.int 1) || !inS w sPD) else !decide (V.str w = V.str (dueAt n i))) = !fitB ws n (i + 1) := by
  have e : wordAt ws (i + 1) = .str w := by
    unfold wordAt
    rw [h]
  have n1 : decide (V.str (":" : Str) = V.str "n") = false := by decide
  have n2 : decide (V.str ("/" : Str) = V.str "n") = false := by decide
  have n3 : decide (V.str ("n" : Str) = V.str "n") = true := by decide
  unfold fitB dueAt
  by_cases z : i = 0
  · subst z
    rw [if_pos rfl, if_pos rfl, n1, if_neg (by decide), e]
  · rw [if_neg z, if_neg (show ¬ (i + 1 = 1) by omega)]
    by_cases y : i = n + 1
    · rw [if_pos y, n2, if_neg (by decide), if_pos (show i + 1 = n + 2 by omega), e]
    · rw [if_neg y, n3, if_pos rfl, if_neg (show ¬ (i + 1 = n + 2) by omega), e]
      show _ = !isSgnV (.str w) sPD
      unfold isSgnV
      dsimp only
      have e1 : decide (V.int (w.length : Int) = V.int 1) = decide (w.length = 1) := by
        rw [Bool.eq_iff_iff, decide_eq_true_eq, decide_eq_true_eq]
        exact ⟨fun z => by injection z with z; omega, fun z => by rw [z]; rfl⟩
      rw [e1]
      cases decide (w.length = 1) <;> cases inS w sPD <;> rfl
section
variable {P : Program} {w : World} {K : PySem.W.Frag} {mg : Str → Option Value} {base : Heap}
theorem ok_lal {f : Addr} {fd : FuncData} (F : Fun K "_law_is_alphabet" "_law_is_alphabet" sLAl f fd) (T : Free mg) (gS : mg "set" = none) : FnOk P w K mg base CX0 1 f fd ["_law_word"] spLAl := by
  refine F.ok scLAl (fun vs H Q E h => ?_) (fun cdv A outer s H vs Q E hr h => ?_)
  · obtain ⟨_, rfl, _⟩ := h
    rfl
  · obtain ⟨t, rfl, tl, pl, k⟩ := h
    have nd := scLAl.nd
    refine ⟨_, pss_cons (ps_if (PW.pt (pw_or (pt_not (pt_chain op_le op_le pe_int (pe_callB call_len_str (by rfl) T.len PySem.boot_len (pa_cons (pv 0) pa_nil)) pe_int))
        (pw_or1 (pt_cmpR (r := rNeD K) (by exact op_neD hr.units) (pe_lc (own := [("_law_sign", 1)]) (wi := iStr (tVar 0)) (g := gName 1) rfl nd (by exact pi_str (pv 0)) (by refine blkOk_by (own := [("_law_sign", 1)]) (N := nLAl) (sc := defScope sLAl) ?_; decide +kernel)
          (fun _ _ _ _ _ => pg_name (i := 1) nd rfl (Or.inl rfl)) (fun _ _ _ _ _ => pts_one (pt_cmpR op_ninS (pv 1) pe_str (by rfl))) (fun _ _ _ _ _ => pv 1)) (pe_lst pa_nil) (nomark _))))) (pss_one (ps_ret pe_bl)) pss_nil)
      (pss_one (ps_ret (pe_cmpR op_eq (pe_join pe_str (pe_callB (r := rSortedTxt w) (by exact cr_sortedTxt rfl) (by rfl) T.sorted (by decide +kernel) (pa_cons (pe_callTy (r := rSetTxt K w) (by exact cr_setTxt rfl) (by rfl) gS (by decide +kernel) (pa_cons (pe_lc (own := [("_law_sign", 1)]) (wi := iStr (tVar 0)) (g := gName 1) (tt := tYes) rfl nd (by exact pi_str (pv 0)) (by refine blkOk_by (own := [("_law_sign", 1)]) (N := nLAl) (sc := defScope sLAl) ?_; decide +kernel)
          (fun _ _ _ _ _ => pg_name (i := 1) nd rfl (Or.inl rfl)) (fun _ _ _ _ _ => pts_nil) (fun _ _ _ _ _ => pe_callTy SkE.call_str_str (by rfl) T.str (by decide +kernel) (pa_cons (pv 1) pa_nil))) pa_nil)) pa_nil))) (pv 0) (nomark _)))), ?_⟩
    have hz : t.length ≤ sizeLine := by
      rw [sizeLine_eq]
      omega
    have oddE := el_signsF (σ := start nLAl [.str t]) (H := H) (tl := tVar 0) (te := tVar 1) (tt := tTest (tOp rNinS (tVar 1) (tC (.str sSIGNS)))) (j := 1) (vs := [1]) (z := t) (fun c => !inS c sSIGNS) (ev_var rfl) (by omega) (fun _ => rfl)
      (fun c H1 x1 mc => et_test (ev_ninS (ev_var rfl) ev_c)) fun c H1 x1 mc => ev_var rfl
    change EvL _ _ _ ((oddSigns t sSIGNS).map V.str) at oddE
    have lw := law_alpha t
    refine q_when (et_or (et_not (et_test (ev_chainI ev_c (ev_lenS (ev_var rfl) hz) ev_c))) fun _ => et_test (ev_neNilL (K := K) oddE (odd_ok pl))) (fun hb H1 x1 => ?_) fun hb H1 x1 => ?_
    · refine s_ret (v := .bl (isAlphaB t)) (ev_is ev_c ?_) fun H2 x2 => k H2 (x1.trans x2)
      rw [← lw, if_pos hb]
    · have e : isAlphaB t = decide (V.str (Txt.join "" (srt (signsL t))) = V.str t) := by
        rw [← lw, if_neg (by rw [show (_ : Bool) = false from hb]; decide)]
      have l4 : t.length ≤ 4 := by
        have h1 : decide ((t.length : Int) ≤ 4) = true := by
          revert hb
          cases decide ((2 : Int) ≤ (t.length : Int)) <;> cases decide ((t.length : Int) ≤ 4) <;> simp
        have := of_decide_eq_true h1
        omega
      have ls := signsL_len t
      have z := el_signsM (σ := start nLAl [.str t]) (H := H1) (j := 1) (vs := [1]) (tl := tVar 0) (te := tCB (fun xs H Q => ∃ a : Str, xs = [V.str a] ∧ Q (V.str a) H) (tCons (tVar 1) tNil)) (z := t) (fun s => .str s) (ev_var rfl) (by omega) (fun _ => rfl) (fun s H2 x2 hs => ev_cb (ea_cons (ev_var rfl) ea_nil) fun H3 x3 Q3 q3 => ⟨s, rfl, q3 H3 (Ex.refl _)⟩)
      have y := el_srt (K := K) (w := w) z (by omega)
      refine s_ret (v := .bl (isAlphaB t)) (ev_is (ev_op (ev_joinL (K := K) (s := "") y ?_) (ev_var rfl) (rv_eq rfl)) (by rw [e])) fun H2 x2 => k H2 (x1.trans x2)
      have o1 : ("" : Str).length = 0 := rfl
      have := sum_bound (fun w : Str => w.length) 1 (srt (signsL t)) fun w hw => by
        obtain ⟨c, _, e⟩ := sign_of ((mem_srt _ _).mp hw)
        rw [e]
        exact Nat.le_refl _
      have l5 := srt_len (signsL t)
      rw [o1]
      omega
theorem ok_lwr {f fA : Addr} {fd fdA : FuncData} (F : Fun K "_law_wrong" "_law_wrong" sLWr f fd) (T : Free mg) (GA : FnOk P w K mg base CX0 1 fA fdA ["_law_word"] spLAl) (bA : Binds K fdA ["_law_word"] []) (gA : mg "_law_is_alphabet" = some (.ref fA)) (kA : PySem.W.keepIn K (.ref fA) = true) :
    FnOk P w K mg base CX0 2 f fd ["_law_words"] spLWr := by
  refine F.ok scLWr (fun vs H Q E h => ?_) (fun cdv A outer s H vs Q E hr h => ?_)
  · obtain ⟨_, _, rfl, _⟩ := h
    rfl
  · obtain ⟨W, ws, rfl, hW, ne, few, each, kn, ko⟩ := h
    have nd := scLWr.nd
    refine ⟨_, pss_cons (ps_if (pt_not (pt_val (pe_call GA hr (by rfl) gA kA bA .nil pass0 (pa_cons (pe_ix (r := rIxL K) (by exact ix_list) (pv 0) pe_int (fun _ _ => rfl)) pa_nil)))) (pss_one (ps_ret pe_int)) pss_nil)
      (pss_cons (ps_set (i := 1) nd rfl (.inl rfl) (pe_callB call_len_str (by rfl) T.len PySem.boot_len (pa_cons (pe_ix (r := rIxL K) (by exact ix_list) (pv 0) pe_int (fun _ _ => rfl)) pa_nil)))
      (pss_cons (ps_set (i := 2) nd rfl (.inl rfl) (pe_op op_cat (pe_op op_cat (pe_op op_cat (pe_lst (pa_cons pe_str pa_nil)) (pe_op op_rep (pe_lst (pa_cons pe_str pa_nil)) (pv 1))) (pe_lst (pa_cons pe_str pa_nil))) (pe_op op_rep (pe_lst (pa_cons pe_str pa_nil)) (pv 1))))
      (pss_cons (ps_for PassesOwn.never rfl (pi_range1 rfl T.range (pa_cons (pe_callB call_len_seq (by rfl) T.len PySem.boot_len (pa_cons (pv 2) pa_nil)) pa_nil)) (pg_name (i := 3) nd rfl (.inl rfl))
        (pss_cons (ps_if (pt_cmpR op_ge (pe_op op_add (pv 3) pe_int) (pe_callB call_len_seq (by rfl) T.len PySem.boot_len (pa_cons (pv 0) pa_nil)) (nomark _)) (pss_one (ps_ret (pe_callB call_len_seq (by rfl) T.len PySem.boot_len (pa_cons (pv 0) pa_nil)))) pss_nil)
        (pss_cons (ps_set (i := 4) nd rfl (.inl rfl) (pe_ix (r := rIxL K) (by exact ix_list) (pv 0) (pe_op op_add (pv 3) pe_int) (fun _ _ => rfl)))
        (pss_one (ps_if (pt_ifExp (pt_cmpR op_eq (pe_ix (r := rIxL K) (by exact ix_list) (pv 2) (pv 3) (fun _ _ => rfl)) pe_str (nomark _)) (PW.pt (pw_or (pt_cmpR op_ne (pe_callB call_len_str (by rfl) T.len PySem.boot_len (pa_cons (pv 4) pa_nil)) pe_int (nomark _)) (pw_or1 (pt_cmpR op_ninS (pv 4) pe_str (by rfl))))) (pt_cmpR op_ne (pv 4) (pe_ix (r := rIxL K) (by exact ix_list) (pv 2) (pv 3) (fun _ _ => rfl)) (nomark _))) (pss_one (ps_ret (pe_op op_add (pv 3) pe_int))) pss_nil)))))
      (pss_one (ps_ret (pe_ifExp (pt_cmpR op_gt (pe_callB call_len_seq (by rfl) T.len PySem.boot_len (pa_cons (pv 0) pa_nil)) (pe_op op_add (pe_callB call_len_seq (by rfl) T.len PySem.boot_len (pa_cons (pv 2) pa_nil)) pe_int) (nomark _)) (pe_op op_add (pe_callB call_len_seq (by rfl) T.len PySem.boot_len (pa_cons (pv 2) pa_nil)) pe_int) pe_non)))))), ?_⟩
    obtain ⟨a, r, rfl⟩ := List.exists_cons_of_ne_nil ne
    obtain ⟨la, pa⟩ := each a List.mem_cons_self
    have w0 : wordAt (a :: r) 0 = .str a := rfl
    have item : ∀ {G : Hp} {σ : L2.St} {te : TE} {i : Nat} {z : Str}, Ex H G → σ[0]? = some (some (.ref W)) → Ev te σ G (.int (i : Int)) → (a :: r)[i]? = some z → Ev (tOp (rIxL K) (tVar 0) te) σ G (.str z) := fun x es et e => ev_op (ev_var es) et (rv_ixL (sq_of (x _ _ hW)) (atI_nat (by rw [List.getElem?_map, e]; rfl)))
    have len_ : ∀ {G : Hp} {σ : L2.St}, Ex H G → σ[0]? = some (some (.ref W)) → Ev (tCB (rLenS K) (tCons (tVar 0) tNil)) σ G (.int ((a :: r).length : Int)) := fun x es => ev_is (ev_len (ev_var es) (sq_of (x _ _ hW))) (by rw [List.length_map])
    refine q_when (b := !isAlphaB a) (et_not (et_B (ev_call (z := .bl (isAlphaB a)) (ea_cons (item (i := 0) (Ex.refl _) rfl ev_c rfl) ea_nil) fun G x Q1 q1 E1 => ⟨a, rfl, la, pa, q1⟩))) (fun hb G x => ?_) fun hb G x => ?_
    · have h0 : isAlphaB a = false := by simpa using hb
      exact s_ret (v := .int ((0 : Nat) : Int)) ev_c fun G2 x2 => kn 0 (.alpha (by rw [w0]; exact h0)) G2 (x.trans x2)
    have hA : isAlphaB a = true := by simpa using hb
    clear hb
    obtain ⟨l4, _⟩ := alpha_facts hA
    refine q_asg (v := .int (a.length : Int)) (ev_lenS (item (i := 0) x rfl ev_c rfl) (by rw [sizeLine_eq]; omega)) fun G2 x2 => ?_
    refine (?_ : tSeq _ _ _ [some (.ref W), some (.int (a.length : Int)), none, none, none] G2)
    have rep : ∀ {σ : L2.St} {G : Hp}, σ[1]? = some (some (.int (a.length : Int))) → EvP (tOp rRep (tLst (tCons (tC (.str "n")) tNil)) (tVar 1)) σ G (IsSL (List.replicate a.length ("n" : Str))) := fun {σ G} es H1 x1 Q q => by
      refine (el_lst (vs := [V.str "n"]) (ea_cons ev_c ea_nil) (by decide)) H1 x1 _ fun p H3 hp x3 e3 => ?_
      refine ⟨_, es, p, (a.length : Int), _, rfl, rfl, e3, by omega, by omega, ?_, fun q2 hq2 => q _ _ (x3.trans (Ex.new hq2)) ⟨q2, rfl, ?_⟩⟩
      · rw [sizeLine_eq]
        show 1 * ((a.length : Int)).toNat ≤ _
        omega
      · rw [upd_same, Int.toNat_natCast, rep_flat]
    have one : ∀ {σ : L2.St} {G : Hp} {s : Str}, EvP (tLst (tCons (tC (.str s)) tNil)) σ G (IsSL [s]) := fun {σ G s} => es_lst (ws := [s]) (ea_cons ev_c ea_nil) (show 1 ≤ 100000 by decide)
    have lr : (List.replicate a.length ("n" : Str)).length = a.length := List.length_replicate
    refine q_asgP (P := IsSL (dueS a.length)) (fun H1 x1 Q q => ?_) fun v3 G3 x3 ⟨L, ev, hL⟩ => ?_
    · have z := es_cat (es_cat (es_cat (σ := [some (.ref W), some (.int (a.length : Int)), none, none, none]) (H := G2) (one (s := ":")) (rep rfl) (by rw [lr]; show 1 + _ ≤ _; omega)) (one (s := "/")) (by rw [List.length_append, lr]; show 1 + _ + 1 ≤ _; omega)) (rep rfl) (by rw [List.length_append, List.length_append, lr]; show 1 + _ + 1 + _ ≤ _; omega)
      have e : (([(":" : Str)] ++ List.replicate a.length ("n" : Str)) ++ [("/" : Str)]) ++ List.replicate a.length ("n" : Str) = dueS a.length := by
        unfold dueS
        rw [List.append_assoc]
        rfl
      rw [e] at z
      exact z H1 x1 Q q
    subst ev
    have x03 := x.trans (x2.trans x3)
    have dl := due_len a.length
    have lenD : ∀ {G : Hp} {σ : L2.St}, Ex G3 G → σ[2]? = some (some (.ref L)) → Ev (tCB (rLenS K) (tCons (tVar 2) tNil)) σ G (.int ((2 * a.length + 2 : Nat) : Int)) := fun x es => ev_is (ev_len (ev_var es) (sq_of (x _ _ hL))) (by rw [List.length_map, dl])
    refine q_forR1 (n := ((2 * a.length + 2 : Nat) : Int)) (ea_cons (lenD (Ex.refl _) rfl) ea_nil) ⟨by omega, by omega⟩
      (fun i σ' H' => (∃ y3 y4 : Option V, σ' = [some (.ref W), some (.int (a.length : Int)), some (.ref L), y3, y4]) ∧ Ex G3 H' ∧ ∀ j, 1 ≤ j → j ≤ i → fitB (a :: r) a.length j = true) (fun G5 x5 => ⟨⟨_, _, rfl⟩, x5, fun j h1 h2 => absurd h1 (by omega)⟩) (fun i σ' H' hi p => ?_) fun σ' H' p => ?_
    · obtain ⟨⟨y3, y4, rfl⟩, xx, fit⟩ := p
      have hi : i < 2 * a.length + 2 := by omega
      have xH := x03.trans xx
      refine (?_ : tSeq _ _ _ [some (.ref W), some (.int (a.length : Int)), some (.ref L), some (.int (i : Int)), y4] H')
      have ip : ∀ {σ : L2.St} {G : Hp}, σ[3]? = some (some (.int (i : Int))) → Ev (tOp (rI0 fun i j => .int (i + j)) (tVar 3) (tC (.int 1))) σ G (.int ((i + 1 : Nat) : Int)) := fun es => ev_is (ev_op (ev_var es) ev_c rv_I0) (by simp)
      have have_ : i < (a :: r).length := by
        rcases Nat.eq_zero_or_pos i with z | z
        · rw [z]
          exact Nat.succ_pos _
        · exact fit_word (fit i z (Nat.le_refl _))
      refine q_when (b := decide ((a :: r).length ≤ i + 1)) (et_is (et_test (ev_op (ip rfl) (len_ xH rfl) rv_I0)) (by rw [Bool.eq_iff_iff, decide_eq_true_eq, decide_eq_true_eq]; omega)) (fun hb G4 x4 => ?_) fun hb G4 x4 => ?_
      · have le := of_decide_eq_true hb
        have e : (a :: r).length = i + 1 := by omega
        refine s_ret (v := .int ((a :: r).length : Int)) (len_ (xH.trans x4) rfl) fun G5 x5 => ?_
        have z := kn (i + 1) (.fit w0 hA (by omega) (by omega) (fun j h1 h2 => fit j h1 (by omega)) (fit_none (by omega))) G5 (xH.trans (x4.trans x5))
        rw [← e] at z
        exact z
      have lt : i + 1 < (a :: r).length := by
        have := of_decide_eq_false hb
        omega
      have e1 : (a :: r)[i + 1]? = some (a :: r)[i + 1] := List.getElem?_eq_getElem lt
      generalize (a :: r)[i + 1] = u at e1
      have mu := List.mem_of_getElem? e1
      obtain ⟨lu, pu⟩ := each u mu
      refine q_asg (v := .str u) (item (i := i + 1) (xH.trans x4) rfl (ip rfl) e1) fun G5 x5 => ?_
      have x45 := x4.trans x5
      refine (?_ : tIfS _ _ tNext _ [some (.ref W), some (.int (a.length : Int)), some (.ref L), some (.int (i : Int)), some (.str u)] G5)
      have due : ∀ {G : Hp} {σ : L2.St}, Ex G3 G → σ[2]? = some (some (.ref L)) → σ[3]? = some (some (.int (i : Int))) → Ev (tOp (rIxL K) (tVar 2) (tVar 3)) σ G (.str (dueAt a.length i)) := fun x es e3 => ev_op (ev_var es) (ev_var e3) (rv_ixL (sq_of (x _ _ hL)) (atI_nat (by rw [List.getElem?_map, due_at hi]; rfl)))
      have ft := fit_test (n := a.length) e1
      refine s_when (b := !fitB (a :: r) a.length (i + 1)) (et_is (et_ifT (c := if decide (V.str (dueAt a.length i) = V.str "n") = true then (!decide (V.int (u.length : Int) = V.int 1) || !inS u sPD) else !decide (V.str u = V.str (dueAt a.length i))) (et_test (ev_op (due (xx.trans x45) rfl rfl) ev_c (rv_eq rfl))) (fun hb => ?_) fun hb => ?_) ft) (fun hb G6 x6 => ?_) fun hb G6 x6 => ?_
      · rw [if_pos hb]
        exact et_or (a := !decide (V.int (u.length : Int) = V.int 1)) (b := !inS u sPD) (et_test (ev_op (ev_lenS (ev_var rfl) (by rw [sizeLine_eq]; omega)) ev_c (rv_ne rfl))) fun _ => et_test (ev_ninS (ev_var rfl) ev_c)
      · rw [if_neg (by rw [hb]; decide)]
        exact et_test (ev_op (ev_var rfl) (due (xx.trans x45) rfl rfl) (rv_ne rfl))
      · have f0 : fitB (a :: r) a.length (i + 1) = false := by simpa using hb
        exact s_ret (v := .int ((i + 1 : Nat) : Int)) (ip rfl) fun G7 x7 => kn (i + 1) (.fit w0 hA (by omega) (by omega) (fun j h1 h2 => fit j h1 (by omega)) f0) G7 (xH.trans (x45.trans (x6.trans x7)))
      · have f1 : fitB (a :: r) a.length (i + 1) = true := by simpa using hb
        refine ⟨⟨_, _, rfl⟩, xx.trans (x45.trans x6), fun j h1 h2 => ?_⟩
        rcases Nat.lt_or_ge i j with lt2 | ge
        · rw [show j = i + 1 by omega]
          exact f1
        · exact fit j h1 ge
    · obtain ⟨⟨y3, y4, rfl⟩, xx, fit⟩ := p
      rw [Int.toNat_natCast] at fit
      have xH := x03.trans xx
      have ld1 : Ev (tOp (rI0 fun i j => .int (i + j)) (tCB (rLenS K) (tCons (tVar 2) tNil)) (tC (.int 1))) [some (.ref W), some (.int (a.length : Int)), some (.ref L), y3, y4] H' (.int ((2 * a.length + 3 : Nat) : Int)) := ev_is (ev_op (lenD xx rfl) ev_c rv_I0) (by simp; omega)
      by_cases lt : 2 * a.length + 3 < (a :: r).length
      · exact s_ret (v := .int ((2 * a.length + 3 : Nat) : Int)) (ev_if (b := true) (et_is (et_test (ev_op (len_ xH rfl) ld1 rv_I0)) (decide_eq_true (by omega))) (fun _ => ld1) fun z => by cases z) fun G4 x4 => kn _ (.long w0 hA fit lt) G4 (xH.trans x4)
      · exact s_ret (v := .non) (ev_if (b := false) (et_is (et_test (ev_op (len_ xH rfl) ld1 rv_I0)) (decide_eq_false (by omega))) (fun z => by cases z) fun _ => ev_c) fun G4 x4 => ko a ⟨w0, hA, fit, by omega⟩ G4 (xH.trans x4)
end
end K02

set_option Elab.async false
set_option linter.all false
set_option maxRecDepth 100000
set_option maxHeartbeats 4000000
/-! What the law hears of a text; is it right -/
namespace K02
open PySem PySem.Spec PyProof.Rows L2 Evl KU
abbrev sHeard : Stmt := topR 40
abbrev nHeard : List Str := ["_law_ask", "_law_caught", "error"]
theorem scHeard : FnScope nHeard ["_law_ask"] (defScope sHeard) := ⟨rfl, rfl, rfl, by decide +kernel, rfl, by decide +kernel, by decide +kernel⟩
structure HErrP (K : PySem.W.Frag) (mg : Str → Option Value) (CF CX : Addr) : Prop where
  gF : mg "FlagError" = some (.ref CF)
  gX : mg "BadText" = some (.ref CX)
  xX : ExcC K CX
  nX1 : PySem.W.findIn K (.ref CX) "line" = some none
  nX2 : PySem.W.findIn K (.ref CX) "word" = some none
  tX : PySem.W.exmOne K (.ref CX) (.ref CF) = some true
  iXX : PySem.W.kitOne K (.ref CX) (.ref CX) = some true
def HeardEP (CX : Addr) (Q : VK) : XK := fun cls d H' => ∃ (dd : Addr) (n : Int), cls = .ref CX ∧ d = some dd ∧ H' dd = some (.xd [("word", .int n), ("line", .int 0)]) ∧ NewU [.int 0, .int n] H' Q
def THeardP (CX : Addr) : (XK → Hp → VK → Prop) → Hp → VK → Prop := fun tl H Q => ∀ H1, Ex H H1 → ∀ R : VK, (∀ v H2, NewL [v] H2 Q → R v H2) → tl (HeardEP CX Q) H1 R
section
variable {X : Cx} {CF CX : Addr}
theorem heard_givesP {q : Str} {g : Addr} {cdg : Value} {k : Nat} (hr : Room (k + 1) X.A) (E : HErrP X.K X.mg CF CX) (fi : X.mg "isinstance" = none) :
    LamX.GivesTo X nHeard "_law_heard" (defScope sHeard) g cdg (defBody sHeard) "_law_ask" q (THeardP CX) := by
  intro f c' s H Q tl act hc h
  have nd := scHeard.nd
  refine ⟨_, pss_cons (ps_set (i := 1) nd rfl (.inl rfl) pe_non)
    (pss_cons (ps_try_asK (X := (cxOf C8.CX0 X.prog X.w X.K X.mg X.base nHeard "_law_heard" (defScope sHeard) g cdg X.A X.stack s H C8.E0).nox) (c := .ref CF) (i := 2)
        (tb := fun W D σ H => ∃ Ech : XK, (∀ cls d σ' H', Ech cls d H' → σ'.length = 3 → W cls d σ' H') ∧ σ[0]? = some (some (.ref f)) ∧ H c' = some (LamX.CodeO c' q) ∧ tl Ech H fun v H' => 1 ≤ sizeLine ∧ ∀ p, H' p = none → D.rt (.ref p) (upd H' p (.lst [v])))
        rfl rfl rfl nd rfl rfl ⟨by rfl, by decide, .inl E.gF⟩ (fun W pn xe tk => ?_) (fun a oe cls d pn => pss_one (ps_set (i := 1) nd rfl (.inl rfl) (pv 2))))
    (pss_one (ps_ret (pe_ifExp (pt_val (pe_callB (r := rIsCau X.K) (id := "isinstance") (by exact call_isCau) (by rfl) fi (by decide +kernel) (pa_cons (pv 1) (pa_cons (pe_glob rfl E.gX (v := .ref CX) rfl) pa_nil))))
      (pe_tup (pa_cons (pe_cauF (pv 1)) (pa_cons (pe_cauF (pv 1)) pa_nil)))
      (pe_tup (pa_cons pe_str pa_nil)))))), ?_⟩
  · refine ⟨fun pins s' σ H' D I h' => ?_⟩
    obtain ⟨Ech, hW, h1, h2, h3⟩ := h'
    exact (pss_one (ps_ret (pe_lst (pa_cons (act (fun cls d σ H => σ.length = 3 → W cls d σ H) pn xe Ech _ _ (takes_len tk) hW) pa_nil)))).run pins s' σ H' D I ⟨h1, h2, h3⟩
  · refine q_asg (v := .non) ev_c fun H1 x1 => ?_
    refine ⟨HeardEP CX Q, fun cls d σ' H' he hl => ?_, rfl, x1 _ _ hc, ?_⟩
    · obtain ⟨dd, n, rfl, rfl, hx, k⟩ := he
      obtain ⟨y0, y1, y2, rfl⟩ : ∃ y0 y1 y2, σ' = [y0, y1, y2] := by
        match σ', hl with
        | [y0, y1, y2], _ => exact ⟨y0, y1, y2, rfl⟩
      refine ⟨E.tX, fun a na => ⟨.ref a, rfl, fun na' => ?_⟩⟩
      have xG : Ex H' (upd H' a (hxo a (.ref CX) (some dd))) := Ex.new na'
      have at_ : CauAt (upd H' a (hxo a (.ref CX) (some dd))) a CX [("word", .int n), ("line", .int 0)] := ⟨dd, upd_same, xG _ _ hx⟩
      dsimp only [List.set_cons_succ, List.set_cons_zero]
      refine s_retU (xs := [.int 0, .int n]) (fun G5 y5 R r => ?_) fun q G5 hq y5 e5 => k q G5 (fresh_back xG hq) (xG.trans y5) e5
      refine (et_B (ev_isCau E.xX (.own CX) at_ E.iXX (ev_var rfl))) G5 y5 _ fun G6 y6 => ?_
      rw [if_pos rfl]
      exact eu_tup (ea_cons (ev_cauF E.xX E.nX1 at_ (by rfl) (ev_var rfl)) (ea_cons (ev_cauF E.xX E.nX2 at_ (by rfl) (ev_var rfl)) ea_nil)) (by show 2 ≤ 100000; decide) G6 (y5.trans y6) R fun q G7 hq y7 e7 => r q G7 (fresh_back y6 hq) (y6.trans y7) e7
    · refine h _ x1 _ fun v H2 k => ⟨by decide, fun p hp => ?_⟩
      exact k p _ hp (Ex.new hp) upd_same
end
section
variable {K : PySem.W.Frag} {T : List (Addr × Str)} {σ : L2.St} {H : Hp} {CX : Addr} {t : XK → TE}
/-- the error of a text -/
theorem hears_bad {n : Int} {Q : VK} (hT : LamX.Tabs T H) (ask : ∀ H1, ExT H H1 → ∀ (E : XK) (R : VK), Raise2V CX "line" "word" (.int 0) (.int n) H1 E → t E σ H1 R)
    (k : ∀ (p : Addr) (H1 : Hp), ExT H H1 → LamX.Tabs T H1 → H1 p = some (.tup [.int 0, .int n]) → Q (.ref p) H1) : LamX.tLam T (THeardP CX) t σ H Q := by
  refine lam_run hT fun H1 x1 T1 H2 x2 R hR => ?_
  have x12 := x1.trans (exT x2)
  refine ask H2 x12 _ _ fun dd H3 x3 e3 => ⟨dd, n, rfl, rfl, e3, fun p H4 hp x4 e4 => ?_⟩
  exact k p H4 (x12.trans (exT (x3.trans x4))) (tabs_ex (tabs_ex T1 x2) (x3.trans x4)) e4
/-- an answer, in a list -/
theorem hears_ok {Pz : V → Hp → Prop} (up : Up Pz) (hT : LamX.Tabs T H) (ask : ∀ H1, ExT H H1 → ∀ (E : XK) (R : VK), (∀ v H2, Ex H1 H2 → Pz v H2 → R v H2) → t E σ H1 R) {Q : VK}
    (k : ∀ (p : Addr) (v : V) (H1 : Hp), ExT H H1 → LamX.Tabs T H1 → H1 p = some (.lst [v]) → Pz v H1 → Q (.ref p) H1) : LamX.tLam T (THeardP CX) t σ H Q := by
  refine lam_run hT fun H1 x1 T1 H2 x2 R hR => ?_
  have x12 := x1.trans (exT x2)
  exact ask H2 x12 _ _ fun v H3 x3 pv => hR v H3 fun p H4 hp x4 e4 => k p v H4 (x12.trans (exT (x3.trans x4))) (tabs_ex (tabs_ex T1 x2) (x3.trans x4)) e4 (up _ _ _ x4 pv)
end
/-! ### a text that is right is that of its prices -/
theorem dig_back {c : Nat} (h1 : 49 ≤ c) (h2 : c ≤ 57) : dig ((c : Int) - 48) = ⟨#[c]⟩ := by
  have e : c = 49 ∨ c = 50 ∨ c = 51 ∨ c = 52 ∨ c = 53 ∨ c = 54 ∨ c = 55 ∨ c = 56 ∨ c = 57 := by omega
  rcases e with rfl | rfl | rfl | rfl | rfl | rfl | rfl | rfl | rfl <;> decide +kernel
theorem num_at {al : Str} {ws : List Str} {i j : Nat} (nd : (signsL al).Nodup) (hj : j < al.length) (h : digB (wordAt ws (i + j)) = true) : ∃ s, (signsL al)[j]? = some s ∧ ws[i + j]? = some (dig (numOf (some (numK al ws i)) s)) := by
  have ls := signsL_len al
  obtain ⟨c, e, h1, h2⟩ := dig_word h
  have lt := word_lt e
  refine ⟨(signsL al)[j]'(by omega), List.getElem?_eq_getElem _, ?_⟩
  have kk := numKT_keys al ws i (Nat.le_refl al.length)
  have ndk : ((numK al ws i).map (·.1)).Nodup := by
    unfold numK
    rw [kk, List.take_of_length_le (by omega)]
    exact nd
  have m : ((signsL al)[j]'(by omega), dW (wS ws (i + j))) ∈ numK al ws i := by
    unfold numK numKT
    refine List.mem_map.mpr ⟨j, List.mem_range.mpr hj, ?_⟩
    rw [List.getD_eq_getElem?_getD, List.getElem?_eq_getElem (by omega)]
    rfl
  have v := valN_mem ndk m
  show ws[i + j]? = some (dig (valN (numK al ws i) _))
  rw [v]
  dsimp only
  rw [word_wS e]
  have e2 : dW (⟨#[c]⟩ : Str) = (c : Int) - 48 := rfl
  rw [e2, dig_back h1 h2, List.getElem?_eq_getElem lt]
  unfold wordAt at e
  rw [List.getElem?_eq_getElem lt] at e
  exact congrArg some (V.str.inj e)
theorem right_text {t : Str} {al : Str} (R : RightW (Txt.split t " ") al) : pText al (numOf (some (numK al (Txt.split t " ") 2))) (numOf (some (numK al (Txt.split t " ") (2 + al.length + 1)))) = t := by
  have back : Txt.join " " (Txt.split t " ") = t := SJ.join_of 32 t
  generalize Txt.split t " " = ws at R back ⊢
  obtain ⟨sg, ok, fit, few⟩ := R
  obtain ⟨la, ndc⟩ := alpha_facts ok
  have nd := signs_nd ndc
  have ls := signsL_len al
  have long : 2 * al.length + 2 < ws.length := fit_word (fit (2 * al.length + 2) (by omega) (Nat.le_refl _))
  have lw : ws.length = 2 * al.length + 3 := by omega
  have dp : ∀ j, j < al.length → digB (wordAt ws (2 + j)) = true := fun j hj => by
    have := fit (2 + j) (by omega) (by omega)
    rw [fit_p hj] at this
    exact this
  have dw : ∀ j, j < al.length → digB (wordAt ws (2 + al.length + 1 + j)) = true := fun j hj => by
    have := fit (2 + al.length + 1 + j) (by omega) (by omega)
    rw [fit_w] at this
    exact this
  have e0 : ws[0]? = some al := by
    unfold wordAt at sg
    rw [List.getElem?_eq_getElem (by omega)] at sg ⊢
    exact congrArg some (V.str.inj sg)
  have e1 : ws[1]? = some (":" : Str) := by
    have := fit 1 (by omega) (by omega)
    rw [fit_c, decide_eq_true_eq] at this
    unfold wordAt at this
    rw [List.getElem?_eq_getElem (by omega)] at this ⊢
    exact congrArg some (V.str.inj this)
  have e2 : ws[2 + al.length]? = some ("/" : Str) := by
    have := fit (2 + al.length) (by omega) (by omega)
    rw [fit_s, decide_eq_true_eq] at this
    unfold wordAt at this
    rw [List.getElem?_eq_getElem (by omega)] at this ⊢
    exact congrArg some (V.str.inj this)
  unfold pText
  refine Eq.trans (congrArg (Txt.join " ") ?_) back
  refine List.ext_getElem? fun i => ?_
  match i with
  | 0 => exact e0.symm
  | 1 => exact e1.symm
  | i + 2 =>
    rw [List.getElem?_cons_succ, List.getElem?_cons_succ]
    rcases Nat.lt_or_ge i al.length with lt | ge
    · rw [List.getElem?_append_left (by rw [List.length_map]; omega), List.getElem?_map]
      obtain ⟨s, hs, hw⟩ := num_at nd lt (dp i lt)
      rw [hs, show i + 2 = 2 + i by omega, hw]
      rfl
    · rw [List.getElem?_append_right (by rw [List.length_map]; omega), List.length_map, ls]
      by_cases z : i = al.length
      · rw [z, Nat.sub_self, show al.length + 2 = 2 + al.length by omega, e2]
        rfl
      · rw [show i - al.length = (i - al.length - 1) + 1 by omega, List.getElem?_cons_succ, List.getElem?_map]
        rcases Nat.lt_or_ge (i - al.length - 1) al.length with lt2 | ge2
        · obtain ⟨s, hs, hw⟩ := num_at nd lt2 (dw _ lt2)
          rw [hs, show i + 2 = 2 + al.length + 1 + (i - al.length - 1) by omega, hw]
          rfl
        · rw [List.getElem?_eq_none (by omega), List.getElem?_eq_none (by omega)]
          rfl
theorem right_pri {ws : List Str} {al : Str} (R : RightW ws al) : Pri al (numOf (some (numK al ws 2))) ∧ Pri al (numOf (some (numK al ws (2 + al.length + 1)))) := by
  obtain ⟨la, _⟩ := alpha_facts R.ok
  refine ⟨fun s _ => num_price (num_good la fun j hj => ?_) s, fun s _ => num_price (num_good la fun j hj => ?_) s⟩
  · have := R.fit (2 + j) (by omega) (by omega)
    rw [fit_p hj] at this
    exact this
  · have := R.fit (2 + al.length + 1 + j) (by omega) (by omega)
    rw [fit_w] at this
    exact this
theorem wrong_le {ws : List Str} {n : Nat} (h : Wrong ws n) : n ≤ 11 := by
  cases h with
  | alpha => omega
  | fit _ ok _ le _ _ =>
    have := (alpha_facts ok).1
    omega
  | long _ ok _ _ =>
    have := (alpha_facts ok).1
    omega
theorem wrong_or (ws : List Str) : (∃ n, Wrong ws n) ∨ ∃ al, RightW ws al := by
  cases ha : isAlphaV (wordAt ws 0) with
  | false => exact .inl ⟨0, .alpha ha⟩
  | true =>
    obtain ⟨al, e⟩ := alpha_str ha
    have hal : isAlphaB al = true := by
      rw [e] at ha
      exact ha
    have first : ∀ m, (∀ j, 1 ≤ j → j ≤ m → fitB ws al.length j = true) ∨ ∃ k, 1 ≤ k ∧ k ≤ m ∧ (∀ j, 1 ≤ j → j < k → fitB ws al.length j = true) ∧ fitB ws al.length k = false := fun m => by
      induction m with
      | zero => exact .inl fun j h1 h2 => by omega
      | succ m ih =>
        rcases ih with h | ⟨k, h1, h2, h3, h4⟩
        · cases hf : fitB ws al.length (m + 1) with
          | true =>
            refine .inl fun j h1 h2 => ?_
            rcases Nat.lt_or_ge m j with lt | ge
            · rw [show j = m + 1 by omega]
              exact hf
            · exact h j h1 ge
          | false => exact .inr ⟨m + 1, by omega, Nat.le_refl _, fun j h1 h2 => h j h1 (by omega), hf⟩
        · exact .inr ⟨k, h1, by omega, h3, h4⟩
    rcases first (2 * al.length + 2) with h | ⟨k, h1, h2, h3, h4⟩
    · rcases Nat.lt_or_ge (2 * al.length + 3) ws.length with lt | ge
      · exact .inl ⟨_, .long e hal h lt⟩
      · exact .inr ⟨al, e, hal, h, ge⟩
    · exact .inl ⟨k, .fit e hal h1 h2 h3 h4⟩
/-- only one of them -/
theorem wrong_uniq {ws : List Str} {n m : Nat} (h1 : Wrong ws n) (h2 : Wrong ws m) : n = m := by
  have sg : ∀ {a b : Str}, wordAt ws 0 = .str a → wordAt ws 0 = .str b → a = b := fun e1 e2 => V.str.inj (e1.symm.trans e2)
  have al : ∀ {a : Str}, isAlphaV (wordAt ws 0) = false → wordAt ws 0 = .str a → isAlphaB a = true → False := fun h e ok => by
    rw [e] at h
    have h : isAlphaB _ = false := h
    rw [ok] at h
    cases h
  cases h1 with
  | alpha a1 =>
    cases h2 with
    | alpha => rfl
    | fit e ok _ _ _ _ => exact (al a1 e ok).elim
    | long e ok _ _ => exact (al a1 e ok).elim
  | fit e ok l1 l2 f1 f2 =>
    cases h2 with
    | alpha a1 => exact (al a1 e ok).elim
    | fit e' ok' l1' l2' f1' f2' =>
      have := sg e e'
      subst this
      rcases Nat.lt_trichotomy n m with lt | eq | gt
      · rw [f1' n l1 lt] at f2
        cases f2
      · exact eq
      · rw [f1 m l1' gt] at f2'
        cases f2'
    | long e' ok' f1' lt =>
      have := sg e e'
      subst this
      rw [f1' n l1 l2] at f2
      cases f2
  | long e ok f1 lt =>
    cases h2 with
    | alpha a1 => exact (al a1 e ok).elim
    | fit e' ok' l1' l2' f1' f2' =>
      have := sg e e'
      subst this
      rw [f1 m l1' l2'] at f2'
      cases f2'
    | long e' ok' f1' lt' =>
      have := sg e e'
      subst this
      rfl
theorem wrong_not {ws : List Str} {n : Nat} {al : Str} (h : Wrong ws n) (R : RightW ws al) : False := by
  have sg : ∀ {a : Str}, wordAt ws 0 = .str a → a = al := fun e1 => V.str.inj (e1.symm.trans R.sg)
  cases h with
  | alpha a1 =>
    rw [R.sg] at a1
    have a1 : isAlphaB _ = false := a1
    rw [R.ok] at a1
    cases a1
  | fit e ok l1 l2 f1 f2 =>
    have := sg e
    subst this
    rw [R.fit n l1 l2] at f2
    cases f2
  | long e ok f1 lt =>
    have := sg e
    subst this
    have := R.few
    omega
/-! ### right -/
abbrev sRight : Stmt := topR 41
abbrev nRight : List Str := ["_law_text_so", "_law_at", "_law_heard_here"]
theorem scRight : FnScope nRight ["_law_text_so"] (defScope sRight) := ⟨rfl, rfl, rfl, by decide +kernel, rfl, by decide +kernel, by decide +kernel⟩
def spPReadA (K : PySem.W.Frag) (CT C : Addr) : Sp := fun vs H Q E => spPRead CT C vs H Q E ∨ spPReadX K CT C vs H Q E
structure FreeP (mg : Str → Option Value) : Prop extends Free mg where
  set : mg "set" = none
  bool : mg "bool" = none
  dict : mg "dict" = none
  repr : mg "repr" = none
/-- what the law's lambdas ask of Prices -/
structure AsksP (P : Program) (w : World) (K : PySem.W.Frag) (mg : Str → Option Value) (base : Heap) (C CF CX fR fH mc fSt : Addr) (mcv : Value) (fdR fdH : FuncData) : Prop where
  T : FreeP mg
  CP : ClsPr K mg C
  E : HErrP K mg CF CX
  cr : ClX.CRead K C mcv
  cm : ClX.CMet K C mcv "read" mc fR
  GR : FnOk P w K mg base (L2.CX P w) 7 fR fdR ["cls", "text"] (spPReadA K CX C)
  bR : Binds K fdR ["cls", "text"] []
  bRK : ∀ (s' : Shared) (ws : List Value), K.In s'.heap → ws.length = (["text"] : List Str).length → BindsTo s' fdR ⟨[.ref C], (["text"] : List Str).zip ws⟩ ((["cls", "text"] : List Str).zip (.ref C :: ws))
  FH : ∃ (oc : Value) (od : Option Addr) (kV doc pm : Value) (an : Option Addr) (cdv ct : Value) (osl : Array (Option Value)), fdH = PySem.W.fnOf "_law_heard" "_law_heard" (defArgs sHeard) (defBody sHeard) (defScope sHeard) .none kV doc pm an cdv ct ∧ K.lookup fH = some ⟨oc, od, .func fdH, osl⟩ ∧ PySem.W.codeIn K cdv "_law_heard" = true
  bH : Binds K fdH ["_law_ask"] []
  gH : mg "_law_heard" = some (.ref fH)
  kH : PySem.W.keepIn K (.ref fH) = true
  hSt : PySem.W.findIn K (.ref C) "__str__" = some (some (.ref fSt))
  iSt : PySem.W.isFn K (.ref fSt) = true
  GSt : FnR P w K mg base CX0 1 fSt (spStrPr C)
def spRight (T : List (Addr × Str)) : Sp := fun vs H Q _ => ∃ t : Str, vs = [.str t] ∧ t.length ≤ 400 ∧ PlainS t ∧ LamX.Tabs T H ∧ ∀ H', ExT H H' → LamX.Tabs T H' → Q (.bl true) H'
section
variable {K : PySem.W.Frag} {C CX : Addr} {H : Hp} {E : XK} {R : VK} {t : Str}
theorem ask_bad {n : Nat} (l : t.length ≤ 400) (h : Wrong (Txt.split t " ") n) (r : Raise2V CX "line" "word" (.int 0) (.int (n : Int)) H E) : spPReadA K CX C [.ref C, .str t] H R E :=
  .inl ⟨t, rfl, by omega, fun w hw => by have := word_le hw; omega, fun m hm => by rw [wrong_uniq hm h]; exact r, fun al ra => (wrong_not h ra).elim⟩
theorem ask_ok {al : Str} (l : t.length ≤ 400) (h : RightW (Txt.split t " ") al) (r : ∀ v H2, Ex H H2 → IsPr C al (pWF al (Txt.split t " ")) (wWF al (Txt.split t " ")) v H2 → R v H2) : spPReadA K CX C [.ref C, .str t] H R E :=
  .inl ⟨t, rfl, by omega, fun w hw => by have := word_le hw; omega, fun m hm => (wrong_not hm h).elim, fun al' ra H' a x A => by
    have e : al' = al := V.str.inj (ra.sg.symm.trans h.sg)
    subst e
    exact r _ H' x ⟨a, rfl, A⟩⟩
end
section
variable {P : Program} {w : World} {K : PySem.W.Frag} {mg : Str → Option Value} {base : Heap} {C CF CX fR fH mc fSt : Addr} {mcv : Value} {fdR fdH : FuncData} {T : List (Addr × Str)}
theorem ok_right {f fW : Addr} {fd fdW : FuncData} {c Pt : Addr} (F : Fun K "_law_right" "_law_right" sRight f fd) (S : AsksP P w K mg base C CF CX fR fH mc fSt mcv fdR fdH)
    (GW : FnOk P w K mg base CX0 2 fW fdW ["_law_words"] spLWr) (bW : Binds K fdW ["_law_words"] []) (gW : mg "_law_wrong" = some (.ref fW)) (kW : PySem.W.keepIn K (.ref fW) = true)
    (TB : LamX.TabB base mg c Pt) (hc : fd.code = .ref c) (hm : (Pt, ("_law_right.<locals>.<lambda>" : Str)) ∈ T) (hu : ∀ p ∈ T, p.1 = Pt → p.2 = ("_law_right.<locals>.<lambda>" : Str)) : FnG P w K mg base CX0 10 f fd ["_law_text_so"] (spRight T) := by
  refine FnG.bodyC F scRight (fun vs H Q E h => ?_) (fun A outer s H vs Q E hgd hr h => ?_)
  · obtain ⟨_, rfl, _⟩ := h
    rfl
  · obtain ⟨t, rfl, tl, pl, hT, k⟩ := h
    have nd := scRight.nd
    obtain ⟨oc, od, kV, doc, pm, an, cdv, ct, osl, rfl, lk, hcd⟩ := S.FH
    have FR : FnR P w K mg base (L2.CX P w) 7 fR (spPReadA K CX C) := fnr_of S.GR S.bR
    have hg2 : (cxOf CX0 P w K mg base nRight "_law_right" (defScope sRight) f fd.code A outer s H E).nox.A.guards = some [] := hgd
    have hu2 : (cxOf CX0 P w K mg base nRight "_law_right" (defScope sRight) f fd.code A outer s H E).nox.A.units + 64 < cLine := hr.units
    refine ⟨_, pss_cons (ps_par (i := 1) (j := 2) (by rfl) nd rfl rfl (by decide) rfl rfl (pa_cons (pe_call GW (hr.mono (by decide)) (by rfl) gW kW bW .nil pass0 (pa_cons (pe_bm PySem.F.plainAttrs_str PySem.F.slot_str_split PySem.F.type_str_split mt_split (pv 0) (pa_cons pe_str pa_nil)) pa_nil)) (pa_cons (LamX.pe_lamcall (k := 7) (T := T) (t := fun E => ClX.tCMeth C (spPReadA K CX C) E (tC (.ref C)) (tCons (tVar 0) tNil)) (by rfl) S.gH S.kH lk hcd S.bH scHeard rfl (.inl rfl) (heard_givesP (k := 8) hr S.E S.T.isinstance) TB hc hm hu hr (LamX.lamS_by (by show LamX.lamSB (defScope sRight) _ = true; decide +kernel)) rfl (fun _ _ _ _ _ => rfl)
          (fun A outer s H E f c' hr2 => ClX.pe_cmeth (pe_glob (v := .ref C) (by rfl) S.CP.gC rfl) S.cr S.cm FR hr2 (passes_call (takes_of rfl rfl rfl rfl) fun _ _ _ _ h => h) (pa_cons (pv 0) pa_nil))) pa_nil)) (by rfl))
      (pss_cons (ps_if (pt_cmpR op_notN (pv 1) pe_non (nomark _)) (pss_one (ps_ret (pe_cmpR op_eq (pe_callB (r := rReprA K) (id := "repr") (by exact call_reprA hg2 hu2) (by rfl) S.T.repr (by decide +kernel) (pa_cons (pv 2) pa_nil)) (pe_callB (r := rReprA K) (id := "repr") (by exact call_reprA hg2 hu2) (by rfl) S.T.repr (by decide +kernel) (pa_cons (pe_tup (pa_cons pe_int (pa_cons (pv 1) pa_nil))) pa_nil)) (nomark _)))) pss_nil)
      (pss_one (ps_ret (pe_and (pe_callB call_isi (by rfl) S.T.isinstance (by decide +kernel) (pa_cons (pv 2) (pa_cons (pe_bltn (v := .ty "list") (by rfl) S.T.list (by decide +kernel) rfl) pa_nil))) (pe_one (pe_cmpR op_eq (pe_callTy (call_strI (C := C) S.hSt S.iSt S.GSt (hr.mono (by decide)) pass0) (by rfl) S.T.str (by decide +kernel) (pa_cons (pe_ix (r := rIxL K) (by exact ix_list) (pv 2) pe_int (fun _ _ => rfl)) pa_nil)) (pv 0) (nomark _))))))), ?_⟩
    have few : (Txt.split t " ").length ≤ t.length + 1 := by
      have := split_wt t
      unfold wt at this
      omega
    have each : ∀ w ∈ Txt.split t " ", w.length ≤ 1000 ∧ PlainS w := fun w hw => ⟨by have := word_le hw; omega, word_plain pl hw⟩
    have ne := split_nn t
    refine ⟨_, rfl, rfl, t, " ", rfl, rfl, rfl, (by rw [sizeLine_eq]; omega), fun W hW => ?_⟩
    have x1 : Ex H (upd H W (.lst ((Txt.split t " ").map V.str))) := Ex.new hW
    have e1 : upd H W (.lst ((Txt.split t " ").map V.str)) W = some (.lst ((Txt.split t " ").map V.str)) := upd_same
    generalize upd H W (.lst ((Txt.split t " ").map V.str)) = H1 at x1 e1 ⊢
    rcases wrong_or (Txt.split t " ") with ⟨n, hw⟩ | ⟨al, hr2⟩
    · refine ⟨W, Txt.split t " ", rfl, e1, ne, by omega, each, fun m hm H2 x2 => ?_, fun al ra => (wrong_not hw ra).elim⟩
      have em := wrong_uniq hm hw
      subst em
      have x12 := x1.trans x2
      have T2 := tabs_ex hT x12
      refine (?_ : LamX.tLam T (THeardP CX) _ _ H2 _)
      refine hears_bad (n := (m : Int)) T2 (fun G y E' R' r => ⟨rfl, _, rfl, ask_bad tl hw r⟩) fun p H3 x3 T3 e3 => ?_
      refine ⟨_, _, rfl, ?_⟩
      refine (?_ : tSeq _ _ _ [some (.str t), some (.int (m : Int)), some (.ref p)] H3)
      have isN : EvT (tTest (tOp (fun x y H Q => y = .non ∧ Q (.bl (!decide (x = .non))) H) (tVar 1) (tC .non))) [some (.str t), some (.int (m : Int)), some (.ref p)] H3 true := et_is (et_test (ev_op (z := .bl (!decide (V.int (m : Int) = .non))) (ev_var rfl) ev_c fun G y Q1 q1 => ⟨rfl, q1 G (Ex.refl _)⟩)) (by simp)
      have le := wrong_le hw
      have sh := shows_pair m (by omega)
      refine q_when isN (fun _ G y => ?_) fun z => by cases z
      have r1 : Ev (tCB (rReprA K) (tCons (tVar 2) tNil)) [some (.str t), some (.int (m : Int)), some (.ref p)] G (.str (PyData.tuple [.int 0, .int (m : Int)]).shown) := ev_reprA (ev_var rfl) (.tup (st_of (y _ _ e3)) (.cons (.int 0) (.cons (.int _) .nil))) sh
      have r2 : Ev (tCB (rReprA K) (tCons (tTup (tCons (tC (.int 0)) (tCons (tVar 1) tNil))) tNil)) [some (.str t), some (.int (m : Int)), some (.ref p)] G (.str (PyData.tuple [.int 0, .int (m : Int)]).shown) := fun G1 y1 Q1 q1 =>
        by
          refine (?_ : tCons _ _ _ G1 _)
          refine (eu_tup (vs := [.int 0, .int (m : Int)]) (ea_cons ev_c (ea_cons (ev_var rfl) ea_nil)) (by show 2 ≤ 100000; decide)) G1 y1 _ fun u G2 hu2 y2 e2 => ?_
          unfold shows at sh
          simp only [Bool.and_eq_true, decide_eq_true_eq] at sh
          exact ⟨.ref u, .tuple [.int 0, .int (m : Int)], rfl, .tup (st_of e2) (.cons (.int 0) (.cons (.int _) .nil)), sh.1.1, sh.1.2, sh.2, q1 G2 y2⟩
      refine s_ret (v := .bl true) (ev_is (ev_op r1 r2 (rv_eq rfl)) (congrArg V.bl (decide_eq_true rfl))) fun G2 y2 => ?_
      exact k G2 ((exT x12).trans (x3.trans (exT (y.trans y2)))) (tabs_ex T3 (y.trans y2))
    · refine ⟨W, Txt.split t " ", rfl, e1, ne, by omega, each, fun m hm => (wrong_not hm hr2).elim, fun al' ra H2 x2 => ?_⟩
      have x12 := x1.trans x2
      have T2 := tabs_ex hT x12
      refine (?_ : LamX.tLam T (THeardP CX) _ _ H2 _)
      refine hears_ok (Pz := IsPr C al (pWF al (Txt.split t " ")) (wWF al (Txt.split t " "))) (up_isPr _ _ _ _) T2 (fun G y E' R' r => ⟨rfl, _, rfl, ask_ok tl hr2 r⟩) fun p v H3 x3 T3 e3 ⟨a, ev, A⟩ => ?_
      subst ev
      refine ⟨_, _, rfl, ?_⟩
      refine (?_ : tSeq _ _ _ [some (.str t), some .non, some (.ref p)] H3)
      have isN : EvT (tTest (tOp (fun x y H Q => y = .non ∧ Q (.bl (!decide (x = .non))) H) (tVar 1) (tC .non))) [some (.str t), some .non, some (.ref p)] H3 false := et_is (et_test (ev_op (z := .bl (!decide (V.non = .non))) (ev_var rfl) ev_c fun G y Q1 q1 => ⟨rfl, q1 G (Ex.refl _)⟩)) rfl
      refine q_when isN (fun z => by cases z) fun _ G y => ?_
      obtain ⟨p1, p2⟩ := right_pri hr2
      obtain ⟨dx, A1, B1, h1, _⟩ := id (A.mono y)
      have strE : Ev (tCB (rStrI C (spStrPr C) E0) (tCons (tOp (rIxL K) (tVar 2) (tC (.int 0))) tNil)) [some (.str t), some .non, some (.ref p)] G (.str t) := by
        have z : Ev (tCB (rStrI C (spStrPr C) E0) (tCons (tOp (rIxL K) (tVar 2) (tC (.int 0))) tNil)) [some (.str t), some .non, some (.ref p)] G (.str (pText al (numOf (some (numK al (Txt.split t " ") 2))) (numOf (some (numK al (Txt.split t " ") (2 + al.length + 1)))))) :=
          ev_cb (ea_cons (ev_first (ev_var rfl) (y _ _ e3)) ea_nil) fun G5 y5 Q1 q1 => ⟨a, dx, _, rfl, y5 _ _ h1, a, al, _, _, rfl, (A.mono y).mono y5, (alpha_facts hr2.ok).1, p1, p2, fun G6 y6 => ⟨_, rfl, q1 G6 y6⟩⟩
        rw [right_text hr2] at z
        exact z
      refine s_ret (v := .bl true) (ev_is (ev_andV (a := true) (b := true) (ev_isLst (K := K) (ev_var rfl) (y _ _ e3)) fun _ => ev_is (ev_op strE (ev_var rfl) (rv_eq rfl)) (congrArg V.bl (decide_eq_true rfl))) rfl) fun G2 y2 => ?_
      exact k G2 ((exT x12).trans (x3.trans (exT (y.trans y2)))) (tabs_ex T3 (y.trans y2))
end
end K02

set_option Elab.async false
set_option linter.all false
set_option maxRecDepth 100000
set_option maxHeartbeats 4000000
/-! The law's bent texts -/
namespace K02
open PySem PySem.Spec PyProof.Rows L2 Evl KU
abbrev sBent : Stmt := topR 42
abbrev nBent : List Str := ["_law_pen_here", "_law_text_so", "_law_words", "_law_way", "_law_at", "_law_odd"]
theorem scBent : FnScope nBent ["_law_pen_here", "_law_text_so"] (defScope sBent) := ⟨rfl, rfl, rfl, by decide +kernel, rfl, by decide +kernel, by decide +kernel⟩
def oddB : List Str := [("" : Str), ("0" : Str), ("10" : Str), ("9" : Str), ("01" : Str), ("+1" : Str), ("-1" : Str), ("--1" : Str), ("/" : Str), (":" : Str), ("x" : Str), ("01 : 1" : Str), ("1\n" : Str), (" " : Str)]
def tailB : List Str := [(" " : Str), (" 1" : Str), (" /" : Str), ("\n" : Str), ("1" : Str)]
theorem oddB_ok : ∀ u ∈ oddB, u.length ≤ 6 ∧ PlainS u := by
  unfold PlainS
  decide +kernel
theorem tailB_ok : ∀ u ∈ tailB, u.length ≤ 6 ∧ PlainS u := by
  unfold PlainS
  decide +kernel
def spBent : Sp := fun vs H Q _ => ∃ (P L : Addr) (ns : List Int) (s : Nat) (g : Int) (t : Str) (n : Nat), vs = [.ref P, .str t] ∧ n ≤ 100 ∧ Tx n t ∧ Pen H P L ns s g ∧ s ≤ 90000 ∧
  ∀ (u : Str) (s' : Nat) (g' : Int) (H' : Hp), Tx (2 * n + 8) u → s' ≤ s + 4 → But P H H' → Pen H' P L ns s' g' → Q (.str u) H'
theorem ea_list_odd {σ : L2.St} {H : Hp} : EvA (tCons (tC (.str "")) (tCons (tC (.str "0")) (tCons (tC (.str "10")) (tCons (tC (.str "9")) (tCons (tC (.str "01")) (tCons (tC (.str "+1")) (tCons (tC (.str "-1")) (tCons (tC (.str "--1")) (tCons (tC (.str "/")) (tCons (tC (.str ":")) (tCons (tC (.str "x")) (tCons (tC (.str "01 : 1")) (tCons (tC (.str "1\n")) (tCons (tC (.str " ")) tNil)))))))))))))) σ H (oddB.map V.str) := (ea_cons ev_c (ea_cons ev_c (ea_cons ev_c (ea_cons ev_c (ea_cons ev_c (ea_cons ev_c (ea_cons ev_c (ea_cons ev_c (ea_cons ev_c (ea_cons ev_c (ea_cons ev_c (ea_cons ev_c (ea_cons ev_c (ea_cons ev_c ea_nil))))))))))))))
theorem ea_list_tail {σ : L2.St} {H : Hp} : EvA (tCons (tC (.str " ")) (tCons (tC (.str " 1")) (tCons (tC (.str " /")) (tCons (tC (.str "\n")) (tCons (tC (.str "1")) tNil))))) σ H (tailB.map V.str) := (ea_cons ev_c (ea_cons ev_c (ea_cons ev_c (ea_cons ev_c (ea_cons ev_c ea_nil)))))
section
variable {P : Program} {w : World} {K : PySem.W.Frag} {mg : Str → Option Value} {base : Heap}
theorem ok_bent {f fD fP : Addr} {fd fdD fdP : FuncData} (F : Fun K "_law_bent" "_law_bent" sBent f fd) (T : Draws K mg fD fP) (FP : Fun K "_law_pick" "_law_pick" sPick fP fdP) (bP : Binds K fdP ["_law_pen_here", "_law_some"] [])
    (FD : Fun K "_law_draw" "_law_draw" sDraw fD fdD) (bD : Binds K fdD ["_law_pen_here", "_law_many"] []) : FnOk P w K mg base CX0 3 f fd ["_law_pen_here", "_law_text_so"] spBent := by
  have GP : FnOk P w K mg base CX0 2 fP fdP ["_law_pen_here", "_law_some"] spPick := ok_pick FP T FD bD
  have GD : FnOk P w K mg base CX0 1 fD fdD ["_law_pen_here", "_law_many"] spDraw := ok_draw FD T.toFree
  refine F.ok scBent (fun vs H Q E h => ?_) (fun cdv A outer s H vs Q E hr h => ?_)
  · obtain ⟨_, _, _, _, _, _, _, rfl, _⟩ := h
    rfl
  · obtain ⟨Pn, L, ns, s0, g0, t, n0, rfl, hn, B, pen, hs, k⟩ := h
    have nd := scBent.nd
    refine ⟨_, (pss_cons (ps_par (i := 2) (j := 3) (by rfl) nd rfl rfl (by decide) rfl rfl (pa_cons (pe_bm PySem.F.plainAttrs_str PySem.F.slot_str_split PySem.F.type_str_split mt_split (pv 1) (pa_cons pe_str pa_nil)) (pa_cons (pe_call GD (hr.mono (by decide)) (by rfl) T.gDraw T.kDraw bD .nil pass0 (pa_cons (pv 0) (pa_cons pe_int pa_nil))) pa_nil)) (by rfl))
      (pss_cons (ps_set (i := 4) nd rfl (.inl rfl) (pe_call GD (hr.mono (by decide)) (by rfl) T.gDraw T.kDraw bD .nil pass0 (pa_cons (pv 0) (pa_cons (pe_callB call_len_seq (by rfl) T.len PySem.boot_len (pa_cons (pv 2) pa_nil)) pa_nil))))
      (pss_cons (ps_set (i := 5) nd rfl (.inl rfl) (pe_call GP hr (by rfl) T.gPick T.kPick bP .nil pass0 (pa_cons (pv 0) (pa_cons (pe_lst (pa_cons pe_str (pa_cons pe_str (pa_cons pe_str (pa_cons pe_str (pa_cons pe_str (pa_cons pe_str (pa_cons pe_str (pa_cons pe_str (pa_cons pe_str (pa_cons pe_str (pa_cons pe_str (pa_cons pe_str (pa_cons pe_str (pa_cons pe_str pa_nil))))))))))))))) pa_nil))))
      (pss_cons (ps_if (pt_cmpR op_eq (pv 3) pe_int (nomark _)) (pss_one (ps_ret (pe_join pe_str (pe_op op_cat (pe_slice sl_list (pv 2) po_none (po_some (pv 4))) (pe_slice sl_list (pv 2) (po_some (pe_op op_add (pv 4) pe_int)) po_none))))) pss_nil)
      (pss_cons (ps_if (pt_cmpR op_eq (pv 3) pe_int (nomark _)) (pss_one (ps_ret (pe_join pe_str (pe_op op_cat (pe_op op_cat (pe_slice sl_list (pv 2) po_none (po_some (pv 4))) (pe_lst (pa_cons (pv 5) pa_nil))) (pe_slice sl_list (pv 2) (po_some (pv 4)) po_none))))) pss_nil)
      (pss_cons (ps_if (pt_cmpR op_eq (pv 3) pe_int (nomark _)) (pss_one (ps_ret (pe_join pe_str (pe_op op_cat (pe_op op_cat (pe_slice sl_list (pv 2) po_none (po_some (pv 4))) (pe_lst (pa_cons (pv 5) pa_nil))) (pe_slice sl_list (pv 2) (po_some (pe_op op_add (pv 4) pe_int)) po_none))))) pss_nil)
      (pss_one (ps_ret (pe_op op_add_str (pv 1) (pe_call GP hr (by rfl) T.gPick T.kPick bP .nil pass0 (pa_cons (pv 0) (pa_cons (pe_lst (pa_cons pe_str (pa_cons pe_str (pa_cons pe_str (pa_cons pe_str (pa_cons pe_str pa_nil)))))) pa_nil)))))))))))), ?_⟩
    have bl := B.1
    have bp := B.2
    have ne := split_nn t
    have sw := split_wt t
    have wpl : ∀ w ∈ Txt.split t " ", PlainS w := fun w hw => word_plain bp hw
    have few : (Txt.split t " ").length ≤ t.length + 1 := by
      unfold wt at sw
      omega
    refine ⟨_, rfl, rfl, t, " ", rfl, rfl, rfl, (by rw [sizeLine_eq]; omega), fun W hW => ?_⟩
    have x1 : Ex H (upd H W (.lst ((Txt.split t " ").map V.str))) := Ex.new hW
    have e1 : upd H W (.lst ((Txt.split t " ").map V.str)) W = some (.lst ((Txt.split t " ").map V.str)) := upd_same
    have WP : W ≠ Pn := ne_of_none pen.pen hW |>.symm
    generalize upd H W (.lst ((Txt.split t " ").map V.str)) = H1 at x1 e1 ⊢
    generalize Txt.split t " " = ws at ne sw wpl few e1 ⊢
    have wl : 0 < ws.length := List.length_pos_iff.mpr ne
    have pen1 := pen.mono x1
    refine ⟨_, rfl, Pn, L, ns, s0, g0, 4, rfl, by decide, by decide, pen1, by omega, fun d1 s1 g1 H2 hd1 hs1 but2 pen2 => ⟨_, _, rfl, ?_⟩⟩
    refine (?_ : tSeq _ _ _ [some (.ref Pn), some (.str t), some (.ref W), some (.int (d1 : Int)), none, none] H2)
    have e2 := but2 _ _ WP e1
    -- the place
    refine ⟨_, rfl, ?_⟩
    refine (?_ : tCons _ _ _ H2 _)
    refine (ev_is (ev_len (K := K) (ev_var (i := 2) rfl) (sq_of e2)) (by rw [List.length_map])) H2 (Ex.refl _) _ fun H3 x3 => ?_
    refine ⟨Pn, L, ns, s1, g1, (ws.length : Int), rfl, by omega, by omega, pen2.mono x3, by omega, fun d s2 g2 H4 hd hs2 but4 pen4 => ?_⟩
    have e4 := but4 _ _ WP (x3 _ _ e2)
    have b04 : But Pn H H4 := (But.of_ex x1).trans (but2.trans ((But.of_ex x3).trans but4))
    dsimp only [gName, List.set_cons_succ, List.set_cons_zero]
    -- the odd word
    refine ⟨_, rfl, ?_⟩
    refine (?_ : tLst _ _ H4 _)
    refine (ea_list_odd (σ := [some (.ref Pn), some (.str t), some (.ref W), some (.int (d1 : Int)), some (.int (d : Int)), none]) (H := H4)) H4 (Ex.refl _) _ fun H5 x5 => ⟨by show 14 ≤ sizeLine; decide, fun l hl => ?_⟩
    have x6 : Ex H5 (upd H5 l (.lst (oddB.map V.str))) := Ex.new hl
    have lP : l ≠ Pn := ne_of_none (pen4.mono x5).pen hl |>.symm
    refine ⟨Pn, L, l, ns, oddB.map V.str, s2, g2, rfl, by unfold oddB; simp, (show 14 ≤ 1000 from by decide), upd_same, lP, (pen4.mono x5).mono x6, by omega, fun v s3 g3 H6 hv hs3 but6 pen6 => ?_⟩
    obtain ⟨u, hu, rfl⟩ := mem_str hv
    obtain ⟨ul, up⟩ := oddB_ok u hu
    have b06 : But Pn H H6 := b04.trans ((But.of_ex (x5.trans x6)).trans but6)
    have e6 := ((But.of_ex (x5.trans x6)).trans but6) _ _ WP e4
    clear hv
    dsimp only [gName, List.set_cons_succ, List.set_cons_zero]
    have wsE : ∀ {G : Hp} {σ : L2.St}, Ex H6 G → σ[2]? = some (some (.ref W)) → EvP (tVar 2) σ G (IsSL ws) := fun x es => es_var es (x _ _ e6)
    have plus : ∀ {G : Hp} {σ : L2.St} (j : Nat), σ[4]? = some (some (.int (d : Int))) → Ev (tOp (rI0 fun i j => .int (i + j)) (tVar 4) (tC (.int (j : Int)))) σ G (.int ((d + j : Nat) : Int)) := fun j es => ev_is (ev_op (ev_var es) ev_c rv_I0) (by simp)
    have fin : ∀ {us : List Str} {te : TE} {G : Hp} {D : L2.Ends} {σ : L2.St}, Ex H6 G → wt us ≤ 2 * n0 + 8 → (∀ w ∈ us, PlainS w) → EvP te σ G (IsSL us) → (∀ v G2, Q v G2 → D.rt v G2) → tRet (tM1 (rJoin K) (tC (.str " ")) te) D σ G := fun {us te G D σ} x hw hp ev hD =>
      s_ret (v := .str (Txt.join " " us)) (ev_join ev (by
        have o1 : (" " : Str).length = 1 := rfl
        rw [o1]
        unfold wt at hw
        have hw : (us.map (·.length)).sum + us.length ≤ 2 * n0 + 8 := hw
        omega)) fun G2 x2 => hD _ _ (k _ s3 g3 G2 (join_tx hw hp) (by omega) (b06.trans (But.of_ex (x.trans x2))) (pen6.mono (x.trans x2)))
    have wu : wt [u] ≤ 7 := by
      unfold wt
      simp
      omega
    have upl : ∀ w ∈ [u], PlainS w := fun w hw => by rw [List.mem_singleton.mp hw]; exact up
    have cutw := wt_cut ws
    have tkp : ∀ i, ∀ w ∈ ws.take i, PlainS w := fun i w hw => wpl w (List.mem_of_mem_take hw)
    have drp : ∀ i, ∀ w ∈ ws.drop i, PlainS w := fun i w hw => wpl w (List.mem_of_mem_drop hw)
    have mdp : ∀ i j, ∀ w ∈ (ws.drop i).take j, PlainS w := fun i j w hw => wpl w (List.mem_of_mem_drop (List.mem_of_mem_take hw))
    have app : ∀ {a b : List Str}, (∀ w ∈ a, PlainS w) → (∀ w ∈ b, PlainS w) → ∀ w ∈ a ++ b, PlainS w := fun h1 h2 w hw => (List.mem_append.mp hw).elim (h1 w) (h2 w)
    have sml : ∀ i, (ws.take i).length ≤ 200 ∧ (ws.drop i).length ≤ 200 := fun i => by
      rw [List.length_take, List.length_drop]
      omega
    have smm : ∀ i j, ((ws.drop i).take j).length ≤ 200 := fun i j => by
      rw [List.length_take, List.length_drop]
      omega
    have lu : ∀ {G : Hp} {σ : L2.St}, σ[5]? = some (some (.str u)) → EvP (tLst (tCons (tVar 5) tNil)) σ G (IsSL [u]) := fun es => es_lst (ws := [u]) (ea_cons (ev_var es) ea_nil) (show 1 ≤ 100000 by decide)
    have one : ([u] : List Str).length = 1 := rfl
    refine q_when (et_test (ev_op (ev_var rfl) ev_c (rv_eq rfl))) (fun _ G2 x => ?_) fun _ G2 x => ?_
    · exact fin x (by rw [wt_app]; have := cutw d; have := wt_drop2 ws (show d ≤ d + 1 by omega); omega) (app (tkp _) (drp _)) (es_cat (es_to (wsE x rfl) (ev_var rfl)) (es_from (wsE x rfl) (plus 1 rfl)) (by have := sml d; have := sml (d + 1); omega)) fun v G2 q => q
    refine q_when (et_test (ev_op (ev_var rfl) ev_c (rv_eq rfl))) (fun _ G3 y3 => ?_) fun _ G3 y3 => ?_
    · have x := x.trans y3
      exact fin x (by rw [wt_app, wt_app]; have := cutw d; omega) (app (app (tkp _) upl) (drp _)) (es_cat (es_cat (es_to (wsE x rfl) (ev_var rfl)) (lu rfl) (by have := sml d; omega)) (es_from (wsE x rfl) (ev_var rfl)) (by rw [List.length_append]; have := sml d; omega)) fun v G2 q => q
    replace x := x.trans y3
    refine q_when (et_test (ev_op (ev_var rfl) ev_c (rv_eq rfl))) (fun _ G4 y4 => ?_) fun _ G4 y4 => ?_
    · have x := x.trans y4
      exact fin x (by rw [wt_app, wt_app]; have := cutw d; have := wt_drop2 ws (show d ≤ d + 1 by omega); omega) (app (app (tkp _) upl) (drp _)) (es_cat (es_cat (es_to (wsE x rfl) (ev_var rfl)) (lu rfl) (by have := sml d; omega)) (es_from (wsE x rfl) (plus 1 rfl)) (by rw [List.length_append]; have := sml d; have := sml (d + 1); omega)) fun v G2 q => q
    replace x := x.trans y4
    refine (?_ : tOp rAddS _ _ _ G4 _)
    refine ⟨_, rfl, ?_⟩
    refine (?_ : tCall spPick _ _ _ _ G4 _)
    refine ⟨_, rfl, ?_⟩
    refine (?_ : tLst _ _ G4 _)
    refine (ea_list_tail (σ := [some (.ref Pn), some (.str t), some (.ref W), some (.int (d1 : Int)), some (.int (d : Int)), some (.str u)]) (H := G4)) G4 (Ex.refl _) _ fun G8 y8 => ⟨by show 5 ≤ sizeLine; decide, fun l2 hl2 => ?_⟩
    have y9 : Ex G8 (upd G8 l2 (.lst (tailB.map V.str))) := Ex.new hl2
    have pen8 := pen6.mono (x.trans y8)
    have lP2 : l2 ≠ Pn := ne_of_none pen8.pen hl2 |>.symm
    refine ⟨Pn, L, l2, ns, tailB.map V.str, s3, g3, rfl, by unfold tailB; simp, (show 5 ≤ 1000 from by decide), upd_same, lP2, pen8.mono y9, by omega, fun v s4 g4 G9 hv hs4 but9 pen9 => ?_⟩
    obtain ⟨u2, hu2, rfl⟩ := mem_str hv
    obtain ⟨ul2, up2⟩ := tailB_ok u2 hu2
    refine ⟨t, u2, rfl, rfl, by rw [sizeLine_eq]; omega, ?_⟩
    exact k _ s4 g4 G9 ((cat_tx B ⟨ul2, up2⟩).more (by omega)) (by omega) (b06.trans ((But.of_ex (x.trans (y8.trans y9))).trans but9)) pen9
end
end K02

set_option Elab.async false
set_option linter.all false
set_option maxRecDepth 100000
set_option maxHeartbeats 4000000
/-! The texts of drawn prices -/
namespace K02
open PySem PySem.Spec PyProof.Rows L2 Evl KU
def alphs : List Str := [("01" : Str), ("012" : Str), ("abz" : Str), ("0az" : Str), ("wxyz" : Str), ("19" : Str)]
theorem alphs_ok : ∀ al ∈ alphs, isAlphaB al = true ∧ (∀ c ∈ al.cps.toList, c < 1114112 ∧ c ≠ 32) ∧ 2 ≤ al.length ∧ al.length ≤ 4 := by decide +kernel
def listP (al : Str) (f g : Str → Int) : List Str := al :: (":" : Str) :: ((signsL al).map (fun s => dig (f s)) ++ ("/" : Str) :: (signsL al).map fun s => dig (g s))
theorem dig_inj {a b : Int} (ha : isPriceB a = true) (hb : isPriceB b = true) (e : dig a = dig b) : a = b := by
  obtain ⟨c, e1, _, _, h1⟩ := dig_one ha
  obtain ⟨d, e2, _, _, h2⟩ := dig_one hb
  rw [e1, e2] at e
  have := one_inj e
  omega
theorem listP_at {al : Str} {f g : Str → Int} : (listP al f g)[0]? = some al ∧ (listP al f g)[1]? = some (":" : Str) ∧ (listP al f g)[2 + al.length]? = some ("/" : Str) ∧ (∀ j, j < al.length → (listP al f g)[2 + j]? = ((signsL al)[j]?).map fun s => dig (f s)) ∧ (∀ j, j < al.length → (listP al f g)[2 + al.length + 1 + j]? = ((signsL al)[j]?).map fun s => dig (g s)) ∧ (listP al f g).length = 2 * al.length + 3 := by
  have ls := signsL_len al
  refine ⟨rfl, rfl, ?_, fun j hj => ?_, fun j hj => ?_, ?_⟩
  · unfold listP
    rw [show 2 + al.length = al.length + 1 + 1 by omega, List.getElem?_cons_succ, List.getElem?_cons_succ, List.getElem?_append_right (by rw [List.length_map]; omega), List.length_map, ls, Nat.sub_self]
    rfl
  · unfold listP
    rw [show 2 + j = j + 1 + 1 by omega, List.getElem?_cons_succ, List.getElem?_cons_succ, List.getElem?_append_left (by rw [List.length_map]; omega), List.getElem?_map]
  · unfold listP
    rw [show 2 + al.length + 1 + j = (al.length + 1 + j) + 1 + 1 by omega, List.getElem?_cons_succ, List.getElem?_cons_succ, List.getElem?_append_right (by rw [List.length_map]; omega), List.length_map, ls, show al.length + 1 + j - al.length = j + 1 by omega, List.getElem?_cons_succ, List.getElem?_map]
  · unfold listP
    rw [List.length_cons, List.length_cons, List.length_append, List.length_cons, List.length_map, List.length_map, ls]
    omega
theorem word_of {ws : List Str} {k : Nat} {t : Str} (h : ws[k]? = some t) : wordAt ws k = .str t := by
  unfold wordAt
  rw [h]
theorem dig_fit {n : Int} (h : isPriceB n = true) : digB (.str (dig n)) = true := by
  obtain ⟨c, e, h1, h2, _⟩ := dig_one h
  rw [e]
  exact word_dig h1 h2
theorem listP_right {al : Str} {f g : Str → Int} (hal : isAlphaB al = true) (pf : Pri al f) (pg : Pri al g) : RightW (listP al f g) al := by
  obtain ⟨a0, a1, a2, ap, aw, al'⟩ := listP_at (al := al) (f := f) (g := g)
  have ls := signsL_len al
  refine ⟨word_of a0, hal, fun j h1 h2 => ?_, by omega⟩
  by_cases z : j = 1
  · rw [z, fit_c, word_of a1]
    exact decide_eq_true rfl
  · rcases Nat.lt_or_ge j (2 + al.length) with lt | ge
    · have e : j = 2 + (j - 2) := by omega
      have lj : j - 2 < (signsL al).length := by omega
      rw [e, fit_p (by omega)]
      have h := ap (j - 2) (by omega)
      rw [List.getElem?_eq_getElem lj] at h
      rw [word_of h]
      exact dig_fit (pf _ (List.getElem_mem _))
    · by_cases z2 : j = 2 + al.length
      · rw [z2, fit_s, word_of a2]
        exact decide_eq_true rfl
      · have e : j = 2 + al.length + 1 + (j - (2 + al.length + 1)) := by omega
        have lj : j - (2 + al.length + 1) < (signsL al).length := by omega
        rw [e, fit_w]
        have h := aw (j - (2 + al.length + 1)) (by omega)
        rw [List.getElem?_eq_getElem lj] at h
        rw [word_of h]
        exact dig_fit (pg _ (List.getElem_mem _))
theorem listP_F {al : Str} {f g : Str → Int} (hal : isAlphaB al = true) (pf : Pri al f) (pg : Pri al g) : pWF al (listP al f g) = kvF al f ∧ wWF al (listP al f g) = kvF al g := by
  obtain ⟨a0, a1, a2, ap, aw, al'⟩ := listP_at (al := al) (f := f) (g := g)
  have ls := signsL_len al
  have R := listP_right hal pf pg
  obtain ⟨p1, p2⟩ := right_pri R
  obtain ⟨la, ndc⟩ := alpha_facts hal
  have nd := signs_nd ndc
  refine ⟨kvF_congr fun s hs => ?_, kvF_congr fun s hs => ?_⟩
  · obtain ⟨j, hj, rfl⟩ := List.getElem_of_mem hs
    have lj : j < al.length := by omega
    have fj := R.fit (2 + j) (by omega) (by omega)
    rw [fit_p lj] at fj
    obtain ⟨s', h1, h2⟩ := num_at nd lj fj
    rw [List.getElem?_eq_getElem hj] at h1
    have h1 := Option.some.inj h1
    subst h1
    rw [ap j lj, List.getElem?_eq_getElem hj] at h2
    exact (dig_inj (pf _ hs) (p1 _ hs) (Option.some.inj h2)).symm
  · obtain ⟨j, hj, rfl⟩ := List.getElem_of_mem hs
    have lj : j < al.length := by omega
    have fj := R.fit (2 + al.length + 1 + j) (by omega) (by omega)
    rw [fit_w] at fj
    obtain ⟨s', h1, h2⟩ := num_at nd lj fj
    rw [List.getElem?_eq_getElem hj] at h1
    have h1 := Option.some.inj h1
    subst h1
    rw [aw j lj, List.getElem?_eq_getElem hj] at h2
    exact (dig_inj (pg _ hs) (p2 _ hs) (Option.some.inj h2)).symm
theorem dig_signs {n : Int} (h : isPriceB n = true) : (dig n).length = 1 ∧ ∀ c ∈ (dig n).cps.toList, c < 1114112 ∧ c ≠ 32 := by
  obtain ⟨c, e, h1, h2, _⟩ := dig_one h
  rw [e]
  refine ⟨rfl, fun d hd => ?_⟩
  have e : ((⟨#[c]⟩ : Str)).cps.toList = [c] := rfl
  rw [e, List.mem_singleton] at hd
  omega
theorem listP_each {al : Str} {f g : Str → Int} (h : ∀ c ∈ al.cps.toList, c < 1114112 ∧ c ≠ 32) (pf : Pri al f) (pg : Pri al g) : ∀ w ∈ listP al f g, ∀ c ∈ w.cps.toList, c < 1114112 ∧ c ≠ 32 := fun w hw c hc => by
  unfold listP at hw
  rcases List.mem_cons.mp hw with rfl | hw
  · exact h c hc
  rcases List.mem_cons.mp hw with rfl | hw
  · have e : ((":" : Str)).cps.toList = [58] := rfl
    rw [e, List.mem_singleton] at hc
    omega
  rcases List.mem_append.mp hw with hw | hw
  · obtain ⟨s, hs, rfl⟩ := List.mem_map.mp hw
    exact (dig_signs (pf s hs)).2 c hc
  rcases List.mem_cons.mp hw with rfl | hw
  · have e : (("/" : Str)).cps.toList = [47] := rfl
    rw [e, List.mem_singleton] at hc
    omega
  · obtain ⟨s, hs, rfl⟩ := List.mem_map.mp hw
    exact (dig_signs (pg s hs)).2 c hc
theorem pText_split {al : Str} {f g : Str → Int} (h : ∀ c ∈ al.cps.toList, c < 1114112 ∧ c ≠ 32) (pf : Pri al f) (pg : Pri al g) : Txt.split (pText al f g) " " = listP al f g :=
  SJ.split_join (c := 32) (by simp) fun w hw hc => (listP_each h pf pg w hw 32 hc).2 rfl
theorem pText_tx {al : Str} {f g : Str → Int} (h : ∀ c ∈ al.cps.toList, c < 1114112 ∧ c ≠ 32) (l4 : al.length ≤ 4) (pf : Pri al f) (pg : Pri al g) : Tx 25 (pText al f g) := by
  refine join_tx (us := listP al f g) ?_ fun w hw c hc => (listP_each h pf pg w hw c hc).1
  have ls := signsL_len al
  have sums : ∀ {f : Str → Int}, Pri al f → (((signsL al).map fun s => dig (f s)).map (·.length)).sum ≤ 4 := fun {f} hf => by
    have := sum_bound (fun w : Str => w.length) 1 ((signsL al).map fun s => dig (f s)) fun w hw => by
      obtain ⟨s, hs, rfl⟩ := List.mem_map.mp hw
      rw [(dig_signs (hf s hs)).1]
      exact Nat.le_refl _
    rw [List.length_map, ls] at this
    omega
  have s1 := sums pf
  have s2 := sums pg
  unfold wt listP
  simp only [List.length_cons, List.length_append, List.length_map, List.map_cons, List.map_append, List.sum_cons, List.sum_append, ls]
  simp only [List.map_map] at s1 s2 ⊢
  have o2 : (":" : Str).length = 1 := rfl
  have o3 : ("/" : Str).length = 1 := rfl
  rw [o2, o3]
  omega
theorem jn_app (c : Nat) : ∀ {a b : List (List Nat)}, a ≠ [] → b ≠ [] → SJ.jn c (a ++ b) = SJ.jn c a ++ c :: SJ.jn c b
  | [], _, h, _ => absurd rfl h
  | [p], b, _, hb => by
    obtain ⟨q, r, rfl⟩ := List.exists_cons_of_ne_nil hb
    show SJ.jn c (p :: q :: r) = _
    rw [SJ.jn_two, SJ.jn_one]
  | p :: q :: r, b, _, hb => by
    have ih := jn_app c (a := q :: r) (b := b) (by simp) hb
    show SJ.jn c (p :: q :: (r ++ b)) = _
    rw [SJ.jn_two, SJ.jn_two]
    have ih : SJ.jn c (q :: (r ++ b)) = SJ.jn c (q :: r) ++ c :: SJ.jn c b := ih
    rw [ih, List.append_assoc]
    rfl
def partT (al : Str) (f : Str → Int) : Str := Txt.join " " ((signsL al).map fun s => dig (f s))
theorem pText_parts {al : Str} {f g : Str → Int} (l0 : 0 < al.length) : (((al ++ " : ") ++ partT al f) ++ " / ") ++ partT al g = pText al f g := by
  have ls := signsL_len al
  have ne : ∀ {f : Str → Int}, SJ.lists ((signsL al).map fun s => dig (f s)) ≠ [] := fun {f} z => by
    have := congrArg List.length z
    unfold SJ.lists at this
    rw [List.length_map, List.length_map, ls] at this
    have e : ([] : List (List Nat)).length = 0 := rfl
    omega
  refine str_eq ?_
  rw [cat_cps, cat_cps, cat_cps, cat_cps]
  unfold partT pText
  have c1 := SJ.tjoin_cps 32 ((signsL al).map fun s => dig (f s))
  have c2 := SJ.tjoin_cps 32 ((signsL al).map fun s => dig (g s))
  have c3 := SJ.tjoin_cps 32 (listP al f g)
  change (Txt.join " " _).cps.toList = _ at c1 c2 c3
  unfold listP at c3
  rw [c1, c2, c3]
  have e1 : SJ.lists (al :: (":" : Str) :: ((signsL al).map (fun s => dig (f s)) ++ ("/" : Str) :: (signsL al).map fun s => dig (g s))) = [al.cps.toList] ++ ([[58]] ++ (SJ.lists ((signsL al).map fun s => dig (f s)) ++ ([[47]] ++ SJ.lists ((signsL al).map fun s => dig (g s))))) := by
    unfold SJ.lists
    simp only [List.map_cons, List.map_append]
    rfl
  have n1 : [[47]] ++ SJ.lists ((signsL al).map fun s => dig (g s)) ≠ [] := by simp
  have n2 : SJ.lists ((signsL al).map fun s => dig (f s)) ++ ([[47]] ++ SJ.lists ((signsL al).map fun s => dig (g s))) ≠ [] := by simp
  have n3 : [[58]] ++ (SJ.lists ((signsL al).map fun s => dig (f s)) ++ ([[47]] ++ SJ.lists ((signsL al).map fun s => dig (g s)))) ≠ [] := by simp
  rw [e1, jn_app 32 (by simp) n3, jn_app 32 (by simp) n2, jn_app 32 ne n1, jn_app 32 (by simp) ne]
  have k1 : ((" : " : Str)).cps.toList = [32, 58, 32] := rfl
  have k2 : ((" / " : Str)).cps.toList = [32, 47, 32] := rfl
  have j1 : ∀ x : List Nat, SJ.jn 32 [x] = x := fun x => SJ.jn_one 32 x
  rw [k1, k2, j1, j1, j1]
  simp
end K02

set_option Elab.async false
set_option linter.all false
set_option maxRecDepth 100000
set_option maxHeartbeats 4000000
/-! Drawn prices are right -/
namespace K02
open PySem PySem.Spec PyProof.Rows L2 Evl KU
abbrev rDictP (K : PySem.W.Frag) : List V → Hp → VK → Prop := fun xs H Q => ∃ (a : Addr) (ps : List Addr) (kvs : List (Key × V)), xs = [.ref a] ∧ SqL K H a (ps.map V.ref) ∧ Paired (fun p kv => SqT K H p [kV kv.1, kv.2]) ps kvs ∧ ∀ p, H p = none → Q (.ref p) (upd H p (.dK (mergeK [] kvs)))
abbrev tDrawn (j : Nat) : TE := tTup (tCons (tVar j) (tCons (tOp (rI0 fun i j => .int (i + j)) (tC (.int 1)) (tCall spDraw [] E0 (tCons (tVar 0) (tCons (tC (.int 9)) tNil)))) tNil))
abbrev tDrawnL (j : Nat) : TE := tLc (iStr (tVar 1)) (gName j) tYes (tDrawn j) [j]
theorem keys_F {al : Str} (nd : (signsL al).Nodup) {ks : List (Str × Int)} (h : ks.map (·.1) = signsL al) : ks = kvF al (valN ks) := by
  unfold kvF
  rw [← h, List.map_map]
  refine (List.map_id ks).symm.trans (List.map_congr_left fun q hq => ?_)
  show q = (q.1, valN ks q.1)
  rw [valN_mem (by rw [h]; exact nd) hq]
theorem paired_snoc {α β : Type} {F : α → β → Prop} : ∀ {xs : List α} {ys : List β} {x : α} {y : β}, Paired F xs ys → F x y → Paired F (xs ++ [x]) (ys ++ [y])
  | _, _, _, _, .nil, h => .cons h .nil
  | _, _, _, _, .cons a r, h => .cons a (paired_snoc r h)
section
variable {K : PySem.W.Frag} {σ : L2.St} {H : Hp} {P L : Addr} {ns : List Int} {s : Nat} {g : Int} {al : Str} {j : Nat} {Q : VK}
/-- [(sign, 1 + draw(pen, 9)) for sign in signs] -/
theorem run_drawn (nd : (signsL al).Nodup) (l4 : al.length ≤ 4) (h0 : ∀ x : V, ((wipe σ [j]).set j (some x))[0]? = some (some (.ref P))) (h1 : σ[1]? = some (some (.str al))) (hj : ∀ x : V, ((wipe σ [j]).set j (some x))[j]? = some (some x)) (hw : ∀ x : V, wipe ((wipe σ [j]).set j (some x)) [j] = wipe σ [j])
    (pen : Pen H P L ns s g) (hs : s ≤ 90000) (k : ∀ (D : Addr) (ts : List Addr) (qs : List (Str × Int)) (s' : Nat) (g' : Int) (H2 : Hp), H D = none → But P H H2 → Pen H2 P L ns s' g' → s' ≤ s + 4 → H2 D = some (.lst (ts.map V.ref)) → Paired (fun (t : Addr) (q : Str × Int) => H2 t = some (.tup [V.str q.1, V.int q.2])) ts qs → qs.map (·.1) = signsL al → (∀ q ∈ qs, isPriceB q.2 = true) → Q (.ref D) H2) :
    tDrawnL j σ H Q := by
  have ls := signsL_len al
  refine ⟨_, h1, al, rfl, fun D hD => ?_⟩
  have DP : D ≠ P := (ne_of_none pen.pen hD).symm
  have DL : D ≠ L := (ne_of_none pen.cells hD).symm
  refine lc_it (walk_signsG (z := al)) (Pv := fun m H' => ∃ (ts : List Addr) (qs : List (Str × Int)) (s' : Nat) (g' : Int), But P H H' ∧ Pen H' P L ns s' g' ∧ s' ≤ s + m ∧ H' D = some (.lst (ts.map V.ref)) ∧ ts.length = m ∧ Paired (fun (t : Addr) (q : Str × Int) => H' t = some (.tup [V.str q.1, V.int q.2])) ts qs ∧ qs.map (·.1) = (signsL al).take m ∧ (∀ q ∈ qs, isPriceB q.2 = true))
    ⟨[], [], s, g, But.of_ex (Ex.new hD), pen.mono (Ex.new hD), Nat.le_refl _, upd_same, rfl, .nil, rfl, fun q hq => by cases hq⟩ (fun m H' _ _ => trivial) (fun m x H3 H4 hm c y => ?_) fun H' c => ?_
  · obtain ⟨rfl, hx⟩ := y
    obtain ⟨ts, qs, s', g', b3, pen3, hs3, hD3, lt, pr, kq, pq⟩ := c
    rw [List.length_map, ls] at hm
    rw [List.getElem?_map] at hx
    obtain ⟨c, hc, rfl⟩ := Option.map_eq_some_iff.mp hx
    refine ⟨hw _, ?_⟩
    unfold tYes
    dsimp only
    rw [if_pos rfl]
    refine (?_ : tCons _ _ _ H4 _)
    refine ⟨_, hj _, ?_⟩
    refine (?_ : tCons _ _ _ H4 _)
    refine (?_ : tOp _ _ _ _ H4 _)
    refine (?_ : tCall spDraw _ _ _ _ H4 _)
    refine ⟨_, h0 _, ?_⟩
    refine ⟨P, L, ns, s', g', 9, rfl, by decide, by decide, pen3, by omega, fun d s5 g5 H5 hd hs5 b5 pen5 => ?_⟩
    refine ⟨_, _, rfl, rfl, ?_⟩
    refine ⟨by show 2 ≤ sizeLine; decide, fun t ht => ?_⟩
    have b45 : But P H H5 := b3.trans b5
    have hD5 := b5 _ _ DP hD3
    have tD : t ≠ D := fun z => by
      rw [z, hD5] at ht
      cases ht
    have x6 : Ex H5 (upd H5 t (.tup [V.str c, V.int (1 + (d : Int))])) := Ex.new ht
    refine ⟨_, x6 _ _ hD5, by rw [List.length_map, sizeLine_eq]; omega, ts ++ [t], qs ++ [(c, 1 + (d : Int))], s5, g5, ?_, ?_, by omega, ?_, by rw [List.length_append, lt]; rfl, ?_, ?_, ?_⟩
    · intro b o nb hb
      rw [upd_ne (ne_of_none hb hD)]
      exact x6 _ _ (b45 b o nb hb)
    · exact ⟨by rw [upd_ne DP.symm]; exact x6 _ _ pen5.pen, by rw [upd_ne DL.symm]; exact x6 _ _ pen5.cells, pen5.ne, pen5.few, pen5.left⟩
    · rw [upd_same, List.map_append]
      rfl
    · refine paired_snoc (paired_imp2 pr fun t' q h => ?_) ?_
      · have n1 : t' ≠ D := fun z => by
          rw [z, hD3] at h
          cases h
        have n2 : t' ≠ P := fun z => by
          rw [z, pen3.pen] at h
          cases h
        rw [upd_ne n1]
        exact x6 _ _ (b5 _ _ n2 h)
      · rw [upd_ne tD]
        exact upd_same
    · rw [List.map_append, kq, List.take_succ, hc]
      rfl
    · intro q hq
      rcases List.mem_append.mp hq with hq | hq
      · exact pq q hq
      · rw [List.mem_singleton.mp hq]
        show isPriceB (1 + (d : Int)) = true
        unfold isPriceB
        rw [Bool.and_eq_true, decide_eq_true_eq, decide_eq_true_eq]
        omega
  · obtain ⟨ts, qs, s', g', b3, pen3, hs3, hD3, lt, pr, kq, pq⟩ := c
    rw [List.length_map, ls] at hs3 kq
    rw [List.take_of_length_le (by omega)] at kq
    exact k D ts qs s' g' H' hD b3 pen3 (by omega) hD3 pr kq pq
/-- .. and the dict of them -/
theorem run_dict (nd : (signsL al).Nodup) (l4 : al.length ≤ 4) (h0 : ∀ x : V, ((wipe σ [j]).set j (some x))[0]? = some (some (.ref P))) (h1 : σ[1]? = some (some (.str al))) (hj : ∀ x : V, ((wipe σ [j]).set j (some x))[j]? = some (some x)) (hw : ∀ x : V, wipe ((wipe σ [j]).set j (some x)) [j] = wipe σ [j])
    (pen : Pen H P L ns s g) (hs : s ≤ 90000) (k : ∀ (D : Addr) (f : Str → Int) (s' : Nat) (g' : Int) (H2 : Hp), But P H H2 → Pen H2 P L ns s' g' → s' ≤ s + 4 → H2 D = some (.dK (kvN (kvF al f))) → Pri al f → Q (.ref D) H2) : tCB (rDictP K) (tCons (tDrawnL j) tNil) σ H Q := by
  show tDrawnL j σ H fun x H1 => rDictP K [x] H1 Q
  refine run_drawn nd l4 h0 h1 hj hw pen hs fun D ts qs s' g' H2 hD b2 pen2 hs2 hD2 pr kq pq => ?_
  refine ⟨D, ts, kvN qs, rfl, sq_of hD2, ?_, fun p hp => ?_⟩
  · clear kq pq hD2
    induction pr with
    | nil => exact .nil
    | cons h _ ih => exact .cons (st_of h) ih
  · have e : mergeK [] (kvN qs) = kvN qs := by
      have := merge_new (kvN qs) [] (by
        rw [kvN_keys, kq]
        exact List.pairwise_map.mpr (nd.imp fun ne z => ne (Sum.inr.inj z)))
      rw [this, List.nil_append]
    rw [e]
    have x3 : Ex H2 (upd H2 p (.dK (kvN qs))) := Ex.new hp
    have kf := keys_F nd kq
    refine k p (valN qs) s' g' _ (b2.trans (But.of_ex x3)) (pen2.mono x3) hs2 ?_ fun s hs => ?_
    · rw [upd_same]
      exact congrArg (fun z => some (HO.dK (kvN z))) kf
    · rw [← kq] at hs
      obtain ⟨q, hq, rfl⟩ := List.mem_map.mp hs
      rw [valN_mem (by rw [kq]; exact nd) hq]
      exact pq q hq
end
abbrev nPR : List Str := ["_law_pen_here", "_law_signs", "_law_some", "_law_made", "_law_parts", "_law_text_so", "_law_again", "_law_bent_here", "_law_turn", "_law_sign", "_law_one"]
abbrev sPR : Stmt := topR 43
theorem scPR : FnScope nPR ["_law_pen_here"] (defScope sPR) := ⟨rfl, rfl, rfl, by decide +kernel, rfl, by decide +kernel, by decide +kernel⟩
section
variable {K : PySem.W.Frag} {H : Hp} {P L : Addr} {ns : List Int} {s : Nat} {g : Int} {al : Str} {Q : VK}
abbrev tSome (K : PySem.W.Frag) : TE := tLc (iRng1 (tCons (tC (.int 2)) tNil)) (gName 8) tYes (tCB (rDictP K) (tCons (tDrawnL 9) tNil)) [8]
theorem run_some (nd : (signsL al).Nodup) (l4 : al.length ≤ 4) (pen : Pen H P L ns s g) (hs : s ≤ 80000)
    (k : ∀ (D A B : Addr) (f g0 : Str → Int) (s' : Nat) (g' : Int) (H2 : Hp), But P H H2 → Pen H2 P L ns s' g' → s' ≤ s + 8 → H2 D = some (.lst [.ref A, .ref B]) → H2 A = some (.dK (kvN (kvF al f))) → H2 B = some (.dK (kvN (kvF al g0))) → Pri al f → Pri al g0 → Q (.ref D) H2) :
    tSome K [some (.ref P), some (.str al), none, none, none, none, none, none, none, none, none] H Q := by
  refine ⟨2, rfl, by decide, by decide, fun D hD => ?_⟩
  have DP : D ≠ P := (ne_of_none pen.pen hD).symm
  have DL : D ≠ L := (ne_of_none pen.cells hD).symm
  refine lc_range (lo := 0) (n := 2) (Pv := fun m H' => ∃ (ps : List Addr) (fs : List (Str → Int)) (s' : Nat) (g' : Int), But P H H' ∧ Pen H' P L ns s' g' ∧ s' ≤ s + 4 * m ∧ H' D = some (.lst (ps.map V.ref)) ∧ ps.length = m ∧ Paired (fun (p : Addr) (f : Str → Int) => H' p = some (.dK (kvN (kvF al f))) ∧ Pri al f) ps fs)
    ⟨[], [], s, g, But.of_ex (Ex.new hD), pen.mono (Ex.new hD), Nat.le_refl _, upd_same, rfl, .nil⟩ (fun m H3 hm c => ?_) fun H' c => ?_
  · obtain ⟨ps, fs, s', g', b3, pen3, hs3, hD3, lt, pr⟩ := c
    refine ⟨rfl, ?_⟩
    unfold tYes
    dsimp only
    rw [if_pos rfl]
    refine run_dict (σ := [some (.ref P), some (.str al), none, none, none, none, none, none, some (.int (0 + (m : Int))), none, none]) nd l4 (fun _ => rfl) rfl (fun _ => rfl) (fun _ => rfl) pen3 (by omega) fun A f s5 g5 H5 b5 pen5 hs5 hA pf => ?_
    have hD5 := b5 _ _ DP hD3
    have AD : A ≠ D := fun z => by
      rw [z, hD5] at hA
      cases hA
    refine ⟨_, hD5, by rw [List.length_map, sizeLine_eq]; omega, ps ++ [A], fs ++ [f], s5, g5, ?_, ?_, by omega, ?_, by rw [List.length_append, lt]; rfl, ?_⟩
    · intro b o nb hb
      rw [upd_ne (ne_of_none hb hD)]
      exact b5 _ _ nb (b3 b o nb hb)
    · exact ⟨by rw [upd_ne DP.symm]; exact pen5.pen, by rw [upd_ne DL.symm]; exact pen5.cells, pen5.ne, pen5.few, pen5.left⟩
    · rw [upd_same, List.map_append]
      rfl
    · refine paired_snoc (paired_imp2 pr fun p f h => ?_) ?_
      · obtain ⟨h, pf⟩ := h
        have n1 : p ≠ D := fun z => by
          rw [z, hD3] at h
          cases h
        have n2 : p ≠ P := fun z => by
          rw [z, pen3.pen] at h
          cases h
        rw [upd_ne n1]
        exact ⟨b5 _ _ n2 h, pf⟩
      · rw [upd_ne AD]
        exact ⟨hA, pf⟩
  · obtain ⟨ps, fs, s', g', b3, pen3, hs3, hD3, lt, pr⟩ := c
    match ps, fs, lt, pr with
    | [A, B], [f, g0], _, .cons h1 (.cons h2 .nil) => exact k D A B f g0 s' g' H' b3 pen3 (by omega) hD3 h1.1 h2.1 h1.2 h2.2
end
def spPR (T : List (Addr × Str)) : Sp := fun vs H Q _ => ∃ (P L : Addr) (ns : List Int) (s : Nat) (g : Int), vs = [.ref P] ∧ LamX.Tabs T H ∧ Pen H P L ns s g ∧ s ≤ 70000 ∧ ∀ (s' : Nat) (g' : Int) (H' : Hp), s' ≤ s + 60 → Kp P H H' → LamX.Tabs T H' → Pen H' P L ns s' g' → Q (.bl true) H'
def scSome : Scope := { kind := .function, names := [(".0", .local), ("_law_turn", .local), ("dict", .globalImplicit), ("_law_pen_here", .cell), ("_law_signs", .cell)], isGenerator := false, isCoroutine := false }
def scParts : Scope := { kind := .function, names := [(".0", .local), ("_law_one", .cell), ("_law_signs", .cell)], isGenerator := false, isCoroutine := false }
abbrev rStrI0 : List V → Hp → VK → Prop := fun xs H Q => ∃ i : Int, xs = [V.int i] ∧ i.natAbs.log2 < 1920 ∧ Q (V.str (toString i)) H
section
variable {K : PySem.W.Frag} {σ : L2.St} {H : Hp} {te ta tb : TE} {T : List (Addr × Str)} {C CX : Addr} {E : XK} {al : Str} {ps ws : List (Str × Int)}
theorem right_run {t : Str} {Q : Bool → Hp → Prop} (h : Ev te σ H (.str t)) (l : t.length ≤ 400) (pl : PlainS t) (hT : LamX.Tabs T H) (k : ∀ H', ExT H H' → LamX.Tabs T H' → Q false H') : tNot (tB (tCall (spRight T) [] E0 (tCons te tNil))) σ H Q := by
  refine (?_ : tCall (spRight T) [] E0 (tCons te tNil) σ H _)
  refine (ea_cons h ea_nil) H (Ex.refl _) _ fun H1 x1 => ?_
  exact ⟨t, rfl, l, pl, tabs_ex hT x1, fun H2 x2 T2 => ⟨true, rfl, k H2 ((exT x1).trans x2) T2⟩⟩
theorem t_or_no {tt tu : TT} {Q : Bool → Hp → Prop} (h : EvT tt σ H false) (k : ∀ H1, Ex H H1 → tu σ H1 Q) : tOr tt tu σ H Q := h H (Ex.refl _) _ fun H1 x1 => by
  rw [if_neg (by decide)]
  exact k H1 x1
theorem ev_nePr (n1 : (ps.map (·.1)).Nodup) (n2 : (ws.map (·.1)).Nodup) (ha : EvP ta σ H (IsPr C al ps ws)) (hb : EvP tb σ H (IsPr C al ps ws)) : Ev (tOp (rNeI C (spEqPr C) E) ta tb) σ H (.bl false) := fun H1 x1 Q q =>
  ha H1 x1 _ fun v H2 x2 p1 => hb H2 (x1.trans x2) _ fun w H3 x3 ⟨y, ew, B2⟩ => by
    obtain ⟨x, ev, B1⟩ := up_isPr C al ps ws _ _ _ x3 p1
    subst ev ew
    obtain ⟨dx, _, _, e1, _⟩ := id B1
    obtain ⟨dy, _, _, e2, _⟩ := id B2
    exact ⟨x, dx, _, y, dy, _, rfl, rfl, e1, e2, x, y, al, ps, ws, rfl, B1, B2, n1, n2, fun H4 x4 => ⟨_, rfl, q H4 ((x2.trans x3).trans x4)⟩⟩
theorem ev_strPr {f g : Str → Int} (l : al.length ≤ 4) (pf : Pri al f) (pg : Pri al g) (h : EvP te σ H (IsPr C al (kvF al f) (kvF al g))) : Ev (tCB (rStrI C (spStrPr C) E) (tCons te tNil)) σ H (.str (pText al f g)) := fun H1 x1 Q q => by
  refine (?_ : tCons _ _ _ H1 _)
  refine h H1 x1 _ fun v H2 x2 ⟨a, ev, A⟩ => ?_
  subst ev
  obtain ⟨dx, A1, B1, h1, _⟩ := id A
  exact ⟨a, dx, _, rfl, h1, a, al, f, g, rfl, A, l, pf, pg, fun H3 x3 => ⟨_, rfl, q H3 (x2.trans x3)⟩⟩
theorem evp_made {v u : V} {o o' : Option (List (Str × Int))} {t1 t2 t3 : TE} (hal : isAlphaB al = true) (h1 : Ev t1 σ H (.str al)) (h2 : Ev t2 σ H v) (h3 : Ev t3 σ H u) (d1 : Told H v o) (d2 : Told H u o') (g1 : GoodT al o) (g2 : GoodT al o') :
    EvP (tMake C (spPInit C) [] E (tCons t1 (tCons t2 (tCons t3 tNil)))) σ H (IsPr C al (kvF al (numOf o)) (kvF al (numOf o'))) := fun H1 x1 Q q => by
  refine (?_ : tCons _ _ _ H1 _)
  refine (ea_cons h1 (ea_cons h2 (ea_cons h3 ea_nil))) H1 x1 _ fun H2 x2 => ?_
  intro x dx hx hdx ne
  have fr : Ex H2 (upd (upd H2 dx (.own x)) x (.ins C dx [])) := fun b o hb => by
    rw [upd_ne (ne_of_none hb hx), upd_ne (ne_of_none hb hdx)]
    exact hb
  refine ⟨x, dx, al, v, u, o, o', rfl, upd_same, hal, d1.mono ((x1.trans x2).trans fr), d2.mono ((x1.trans x2).trans fr), g1, g2, fun H3 b3 A => ⟨rfl, q _ H3 (x2.trans ?_) ⟨x, rfl, A⟩⟩⟩
  intro b o hb
  exact b3 _ _ (ne_of_none hb hx) (fr _ _ hb)
theorem evp_pread {t : Str} (R : RightW (Txt.split t " ") al) (l : t.length ≤ 400) (h : Ev te σ H (.str t)) : EvP (ClX.tCMeth C (spPReadA K CX C) E (tC (.ref C)) (tCons te tNil)) σ H (IsPr C al (pWF al (Txt.split t " ")) (wWF al (Txt.split t " "))) := fun H1 x1 Q q => by
  refine ⟨rfl, ?_⟩
  refine (?_ : tCons _ _ _ H1 _)
  refine h H1 x1 _ fun H2 x2 => ?_
  exact ask_ok l R fun v H3 x3 hv => q v H3 (x2.trans x3) hv
end
theorem F_good {al : Str} {f : Str → Int} (l4 : al.length ≤ 4) (pf : Pri al f) : GoodT al (some (kvF al f)) := by
  have ls := signsL_len al
  refine ⟨by unfold kvF; rw [List.length_map]; omega, fun q hq => ?_, fun q hq => ?_⟩
  · obtain ⟨s, hs, rfl⟩ := List.mem_map.mp hq
    exact sgn_in hs
  · obtain ⟨s, hs, rfl⟩ := List.mem_map.mp hq
    exact pf s hs
theorem F_num {al : Str} {f : Str → Int} : kvF al (numOf (some (kvF al f))) = kvF al f := kvF_congr fun s hs => by
  show valN (kvF al f) s = f s
  unfold valN
  rw [val_F hs]
theorem F_keys {al : Str} {f : Str → Int} : (kvF al f).map (·.1) = signsL al := by
  unfold kvF
  rw [List.map_map]
  exact List.map_id' _
theorem part_len {al : Str} {f : Str → Int} (l4 : al.length ≤ 4) (pf : Pri al f) : (partT al f).length ≤ 8 ∧ ((((signsL al).map fun s => dig (f s)).map (·.length)).sum + ((signsL al).map fun s => dig (f s)).length * 1 ≤ 8) := by
  have ls := signsL_len al
  have := sum_bound (fun w : Str => w.length) 1 ((signsL al).map fun s => dig (f s)) fun w hw => by
    obtain ⟨s, hs, rfl⟩ := List.mem_map.mp hw
    rw [(dig_signs (pf s hs)).1]
    exact Nat.le_refl _
  rw [List.length_map, ls] at this
  have z := join_len " " ((signsL al).map fun s => dig (f s))
  have o1 : (" " : Str).length = 1 := rfl
  rw [o1] at z
  have e : ((signsL al).map fun s => dig (f s)).length = al.length := by rw [List.length_map, ls]
  rw [e] at z ⊢
  unfold partT
  omega
end K02

set_option Elab.async false
set_option linter.all false
set_option maxRecDepth 100000
set_option maxHeartbeats 4000000
/-! The law's prices_right -/
namespace K02
open PySem PySem.Spec PyProof.Rows L2 Evl KU
theorem ea_alphs {σ : L2.St} {H : Hp} : EvA (tCons (tC (.str "01")) (tCons (tC (.str "012")) (tCons (tC (.str "abz")) (tCons (tC (.str "0az")) (tCons (tC (.str "wxyz")) (tCons (tC (.str "19")) tNil)))))) σ H (alphs.map V.str) := ea_cons ev_c (ea_cons ev_c (ea_cons ev_c (ea_cons ev_c (ea_cons ev_c (ea_cons ev_c ea_nil)))))
theorem pen_ext {H H' : Hp} {P L : Addr} {ns : List Int} {s : Nat} {g : Int} (x : ExT H H') (p : Pen H P L ns s g) : Pen H' P L ns s g := ⟨ext_lst x p.pen, ext_lst x p.cells, p.ne, p.few, p.left⟩
/-- what the law's own defs want of Prices -/
structure UsesP (P : Program) (w : World) (K : PySem.W.Frag) (mg : Str → Option Value) (base : Heap) (C fI fEq fRt fBt fD fP : Addr) (fdI fdRt fdBt fdD fdP : FuncData) (T : List (Addr × Str)) : Prop where
  M : Mk K C fI
  FI : FnOk P w K mg base CX0 4 fI fdI nPInit (spPInit C)
  bI : Binds K fdI nPInit []
  hNe : PySem.W.findIn K (.ref C) "__ne__" = some (some (.builtin "object.__ne__"))
  hEq : PySem.W.findIn K (.ref C) "__eq__" = some (some (.ref fEq))
  iEq : PySem.W.isFn K (.ref fEq) = true
  GEq : FnR P w K mg base CX0 1 fEq (spEqPr C)
  gRt : mg "_law_right" = some (.ref fRt)
  kRt : PySem.W.keepIn K (.ref fRt) = true
  GRt : FnG P w K mg base CX0 10 fRt fdRt ["_law_text_so"] (spRight T)
  bRt : Binds K fdRt ["_law_text_so"] []
  gBt : mg "_law_bent" = some (.ref fBt)
  kBt : PySem.W.keepIn K (.ref fBt) = true
  GBt : FnOk P w K mg base CX0 3 fBt fdBt ["_law_pen_here", "_law_text_so"] spBent
  bBt : Binds K fdBt ["_law_pen_here", "_law_text_so"] []
  DT : Draws K mg fD fP
  GD : FnOk P w K mg base CX0 1 fD fdD ["_law_pen_here", "_law_many"] spDraw
  bD : Binds K fdD ["_law_pen_here", "_law_many"] []
  GP : FnOk P w K mg base CX0 2 fP fdP ["_law_pen_here", "_law_some"] spPick
  bP : Binds K fdP ["_law_pen_here", "_law_some"] []
section
variable {P : Program} {w : World} {K : PySem.W.Frag} {mg : Str → Option Value} {base : Heap} {C CF CX fR fH mc fSt fI fEq fRt fBt fD fP : Addr} {mcv : Value} {fdR fdH fdI fdRt fdBt fdD fdP : FuncData} {T : List (Addr × Str)}
theorem ok_pr {f : Addr} {fd : FuncData} (F : Fun K "_law_prices_right" "_law_prices_right" sPR f fd) (S : AsksP P w K mg base C CF CX fR fH mc fSt mcv fdR fdH) (U : UsesP P w K mg base C fI fEq fRt fBt fD fP fdI fdRt fdBt fdD fdP T) :
    FnG P w K mg base CX0 12 f fd ["_law_pen_here"] (spPR T) := by
  have FR : FnR P w K mg base (L2.CX P w) 7 fR (spPReadA K CX C) := fnr_of S.GR S.bR
  refine FnG.body F scPR (fun vs H Q E h => ?_) (fun cdv A outer s H vs Q E hgd hr h => ?_)
  · obtain ⟨_, _, _, _, _, rfl, _⟩ := h
    rfl
  · obtain ⟨Pn, L, ns, s0, g0, rfl, hT, pen, hs, k⟩ := h
    have nd := scPR.nd
    have hg2 : (cxOf CX0 P w K mg base nPR "_law_prices_right" (defScope sPR) f cdv A outer s H E).nox.A.guards = some [] := hgd
    refine ⟨_, pss_cons (ps_set (i := 1) nd rfl (.inr rfl) (pe_call U.GP (hr.mono (by decide)) (by rfl) U.DT.gPick U.DT.kPick U.bP .nil pass0 (pa_cons (pv 0) (pa_cons (pe_lst (pa_cons pe_str (pa_cons pe_str (pa_cons pe_str (pa_cons pe_str (pa_cons pe_str (pa_cons pe_str pa_nil))))))) pa_nil))))
      (pss_cons (ps_setLc (i := 2) (own := [("_law_turn", 8)]) (wi := iRng1 (tCons (tC (.int 2)) tNil)) (g := gName 8) (tt := tYes) (te := tCB (rDictP K) (tCons (tDrawnL 9) tNil)) rfl nd rfl rfl (sw_true rfl rfl rfl (by decide +kernel)) (by exact pi_range1 rfl S.T.range (pa_cons pe_int pa_nil)) (by refine blkOk_by (own := [("_law_turn", 8)]) (N := nPR) (sc := defScope sPR) ?_; decide +kernel)
          (fun _ _ _ _ _ => pg_name (i := 8) nd rfl (Or.inl rfl)) (fun _ _ _ _ _ => pts_nil) (fun _ _ _ _ _ => pe_callTy (r := rDictP K) (by exact call_dictP rfl) (by rfl) S.T.dict (by decide +kernel) (pa_cons (pe_lc (own := [("_law_sign", 9)]) (wi := iStr (tVar 1)) (g := gName 9) (tt := tYes) (te := tDrawn 9) rfl nd (by exact pi_str (pv 1)) (by refine blkOk_by (own := [("_law_sign", 9)]) (N := nPR) (sc := scSome) ?_; decide +kernel)
            (fun _ _ _ _ _ => pg_name (i := 9) nd rfl (Or.inl rfl)) (fun _ _ _ _ _ => pts_nil) (fun _ _ _ _ _ => pe_tup (pa_cons (pv 9) (pa_cons (pe_op op_add pe_int (pe_call U.GD (hr.mono (by decide)) (by rfl) U.DT.gDraw U.DT.kDraw U.bD .nil pass0 (pa_cons (pv 0) (pa_cons pe_int pa_nil)))) pa_nil)))) pa_nil)))
      (pss_cons (ps_set (i := 3) nd rfl (.inl rfl) (pe_make U.M U.FI (hr.mono (by decide)) (by rfl) S.CP.gC U.bI .nil pass0 (pa_cons (pv 1) (pa_cons (pe_ix (r := rIxL K) (by exact ix_list) (pv 2) pe_int (fun _ _ => rfl)) (pa_cons (pe_ix (r := rIxL K) (by exact ix_list) (pv 2) pe_int (fun _ _ => rfl)) pa_nil)))))
      (pss_cons (ps_setLc (i := 4) (own := [("_law_one", 10)]) (wi := iList K (tVar 2)) (g := gName 10) (tt := tYes) (te := tM1 (rJoin K) (tC (.str " ")) (tLc (iStr (tVar 1)) (gName 9) tYes (tCB rStrI0 (tCons (tDGet (tVar 10) (tVar 9)) tNil)) [9])) rfl nd rfl rfl (sw_true rfl rfl rfl (by decide +kernel)) (by exact pi_list (pv 2)) (by refine blkOk_by (own := [("_law_one", 10)]) (N := nPR) (sc := defScope sPR) ?_; decide +kernel)
          (fun _ _ _ _ _ => pg_name (i := 10) nd rfl (Or.inr rfl)) (fun _ _ _ _ _ => pts_nil) (fun _ _ _ _ _ => pe_join pe_str (pe_lc (own := [("_law_sign", 9)]) (wi := iStr (tVar 1)) (g := gName 9) (tt := tYes) (te := tCB rStrI0 (tCons (tDGet (tVar 10) (tVar 9)) tNil)) rfl nd (by exact pi_str (pv 1)) (by refine blkOk_by (own := [("_law_sign", 9)]) (N := nPR) (sc := scParts) ?_; decide +kernel)
            (fun _ _ _ _ _ => pg_name (i := 9) nd rfl (Or.inl rfl)) (fun _ _ _ _ _ => pts_nil) (fun _ _ _ _ _ => pe_callTy call_str_int (by rfl) S.T.str (by decide +kernel) (pa_cons (pe_dget (hu_of hr) (pv 10) (pv 9) (fun _ _ => rfl)) pa_nil)))))
      (pss_cons (ps_set (i := 5) nd rfl (.inl rfl) (pe_op op_add_str (pe_op op_add_str (pe_op op_add_str (pe_op op_add_str (pv 1) pe_str) (pe_ix (r := rIxL K) (by exact ix_list) (pv 4) pe_int (fun _ _ => rfl))) pe_str) (pe_ix (r := rIxL K) (by exact ix_list) (pv 4) pe_int (fun _ _ => rfl))))
      (pss_cons (ps_if (PW.pt (pw_or (pt_cmpR op_ne (pe_callTy (call_strI (C := C) S.hSt S.iSt S.GSt (hr.mono (by decide)) pass0) (by rfl) S.T.str (by decide +kernel) (pa_cons (pv 3) pa_nil)) (pv 5) (nomark _)) (pw_or (pt_cmpR (op_neI (C := C) U.hNe U.hEq U.iEq S.CP.cM U.GEq (hr.mono (by decide)) pass0) (ClX.pe_cmeth (pe_glob (v := .ref C) (by rfl) S.CP.gC rfl) S.cr S.cm FR (hr.mono (by decide)) passE0 (pa_cons (pv 5) pa_nil)) (pv 3) (nomark _)) (pw_or1 (pt_not (pt_val (pe_callG U.GRt (by exact hg2) (hr.mono (by decide)) (by rfl) U.gRt U.kRt U.bRt pass0 (pa_cons (pv 5) pa_nil)))))))) (pss_one (ps_ret pe_bl)) pss_nil)
      (pss_cons (ps_for PassesOwn.never rfl (pi_range1 rfl S.T.range (pa_cons pe_int pa_nil)) (pg_name (i := 6) nd rfl (.inl rfl))
        (pss_cons (ps_set (i := 7) nd rfl (.inl rfl) (pe_call U.GBt (hr.mono (by decide)) (by rfl) U.gBt U.kBt U.bBt .nil pass0 (pa_cons (pv 0) (pa_cons (pv 5) pa_nil))))
        (pss_one (ps_if (PW.pt (pw_or (pt_not (pt_val (pe_callG U.GRt (by exact hg2) (hr.mono (by decide)) (by rfl) U.gRt U.kRt U.bRt pass0 (pa_cons (pv 7) pa_nil)))) (pw_or1 (pt_not (pt_val (pe_callG U.GRt (by exact hg2) (hr.mono (by decide)) (by rfl) U.gRt U.kRt U.bRt pass0 (pa_cons (pe_call U.GBt (hr.mono (by decide)) (by rfl) U.gBt U.kBt U.bBt .nil pass0 (pa_cons (pv 0) (pa_cons (pv 7) pa_nil))) pa_nil))))))) (pss_one (ps_ret pe_bl)) pss_nil))))
      (pss_one (ps_ret pe_bl)))))))), ?_⟩
    -- the signs
    refine (?_ : tCall spPick _ _ _ _ H _)
    refine ⟨_, rfl, ?_⟩
    refine (?_ : tLst _ _ H _)
    refine (ea_alphs (σ := start nPR [.ref Pn]) (H := H)) H (Ex.refl _) _ fun H1 x1 => ⟨by show 6 ≤ sizeLine; decide, fun l hl => ?_⟩
    have x2 : Ex H1 (upd H1 l (.lst (alphs.map V.str))) := Ex.new hl
    have lP : l ≠ Pn := ne_of_none (pen.mono x1).pen hl |>.symm
    refine ⟨Pn, L, l, ns, alphs.map V.str, s0, g0, rfl, by unfold alphs; simp, (show 6 ≤ 1000 from by decide), upd_same, lP, (pen.mono x1).mono x2, by omega, fun v s1 g1 H2 hv hs1 but2 pen2 => ?_⟩
    obtain ⟨al, hal, rfl⟩ := mem_str hv
    obtain ⟨ok, sg, l2, l4⟩ := alphs_ok al hal
    clear hv
    obtain ⟨_, ndc⟩ := alpha_facts ok
    have ndS := signs_nd ndc
    have ls := signsL_len al
    have b2 : Kp Pn H H2 := (kp_ext (exT (x1.trans x2))).trans (kp_but but2)
    have T2 := tabs_but (tabs_ex hT (x1.trans x2)) but2 ((pen.mono x1).mono x2)
    show tSeq (tAsg (tSome K) (gName 2)) _ _ [some (.ref Pn), some (.str al), none, none, none, none, none, none, none, none, none] H2
    refine q_asgR ?_
    refine run_some ndS l4 pen2 (by omega) fun D d0 d1 f g2 s3 g3 H3 but3 pen3 hs3 hD h0 h1 pf pg => ?_
    have b3 := b2.trans (kp_but but3)
    have T3 := tabs_but T2 but3 pen2
    refine (?_ : tSeq _ _ _ [some (.ref Pn), some (.str al), some (.ref D), none, none, none, none, none, none, none, none] H3)
    have ixS : ∀ {σ : L2.St} {G : Hp} {i : Nat} {v : V}, Ex H3 G → σ[2]? = some (some (.ref D)) → ([.ref d0, .ref d1] : List V)[i]? = some v → Ev (tOp (rIxL K) (tVar 2) (tC (.int (i : Int)))) σ G v := fun x es e => ev_op (ev_var es) ev_c (rv_ixL (sq_of (x _ _ hD)) (atI_nat e))
    refine q_asgP (P := IsPr C al (kvF al f) (kvF al g2)) (fun G1 y Q1 q1 => ?_) fun v4 H4 x4 ⟨a, ev, A4⟩ => ?_
    · have z := evp_made (C := C) (E := E0) (σ := [some (.ref Pn), some (.str al), some (.ref D), none, none, none, none, none, none, none, none]) (H := H3) ok (ev_var (i := 1) rfl) (ixS (i := 0) (Ex.refl _) rfl rfl) (ixS (i := 1) (Ex.refl _) rfl rfl) (.dic h0) (.dic h1) (F_good l4 pf) (F_good l4 pg)
      rw [F_num, F_num] at z
      exact z G1 y Q1 q1
    subst ev
    refine (?_ : tSeq _ _ _ [some (.ref Pn), some (.str al), some (.ref D), some (.ref a), none, none, none, none, none, none, none] H4)
    -- the parts
    have partE : ∀ {d : Addr} {h : Str → Int} {G : Hp}, G d = some (.dK (kvN (kvF al h))) → Pri al h → Ev (tM1 (rJoin K) (tC (.str " ")) (tLc (iStr (tVar 1)) (gName 9) tYes (tCB rStrI0 (tCons (tDGet (tVar 10) (tVar 9)) tNil)) [9])) [some (.ref Pn), some (.str al), some (.ref D), some (.ref a), none, none, none, none, none, none, some (.ref d)] G (.str (partT al h)) := fun {d h G} hd ph => by
      have z := el_signsM (σ := [some (.ref Pn), some (.str al), some (.ref D), some (.ref a), none, none, none, none, none, none, some (.ref d)]) (H := G) (j := 9) (vs := [9]) (tl := tVar 1) (te := tCB rStrI0 (tCons (tDGet (tVar 10) (tVar 9)) tNil)) (z := al) (fun s => .str (dig (h s)))
        (ev_var rfl) (by omega) (fun _ => rfl) (fun s G1 y hs => ev_cb (ea_cons (ev_dget (k := Sum.inr s) (ev_var rfl) (ev_var rfl) (y _ _ hd) (val_F hs)) ea_nil) fun G2 y2 Q2 q2 => ⟨_, rfl, price_log (ph s hs), q2 G2 (Ex.refl _)⟩)
      have e : (signsL al).map (fun s => V.str (dig (h s))) = ((signsL al).map fun s => dig (h s)).map V.str := by
        rw [List.map_map]
        rfl
      rw [e] at z
      refine ev_joinL (K := K) (s := " ") z ?_
      have := (part_len l4 ph).2
      have o1 : (" " : Str).length = 1 := rfl
      rw [o1]
      omega
    have parts : EvL (tLc (iList K (tVar 2)) (gName 10) tYes (tM1 (rJoin K) (tC (.str " ")) (tLc (iStr (tVar 1)) (gName 9) tYes (tCB rStrI0 (tCons (tDGet (tVar 10) (tVar 9)) tNil)) [9])) [10]) [some (.ref Pn), some (.str al), some (.ref D), some (.ref a), none, none, none, none, none, none, none] H4 (([partT al f, partT al g2] : List Str).map V.str) := by
      have z := el_lcL (K := K) (σ := [some (.ref Pn), some (.str al), some (.ref D), some (.ref a), none, none, none, none, none, none, none]) (H := H4) (a := D) (xs := [.ref d0, .ref d1]) (tl := tVar 2) (t := tYes) (te := tM1 (rJoin K) (tC (.str " ")) (tLc (iStr (tVar 1)) (gName 9) tYes (tCB rStrI0 (tCons (tDGet (tVar 10) (tVar 9)) tNil)) [9])) (j := 10) (vs := [10]) (fun _ => true) (fun i => .str (if i = 0 then partT al f else partT al g2))
        (ev_var rfl) (sq_of (x4 _ _ hD)) (show 2 ≤ 40000 by decide) (fun _ => rfl) (fun _ _ _ _ _ => et_yes) (fun i x G y hx _ => by
          match i, hx with
          | 0, hx =>
            cases hx
            exact partE (y _ _ (x4 _ _ h0)) pf
          | 1, hx =>
            cases hx
            exact partE (y _ _ (x4 _ _ h1)) pg
          | i + 2, hx => cases hx)
      exact z
    refine q_asgP (P := IsSL [partT al f, partT al g2]) (fun G1 y Q1 q1 => parts G1 y Q1 fun p G2 hp y2 e2 => q1 _ G2 y2 ⟨p, rfl, e2⟩) fun v5 H5 x5 ⟨l5, ev, h5⟩ => ?_
    subst ev
    refine (?_ : tSeq _ _ _ [some (.ref Pn), some (.str al), some (.ref D), some (.ref a), some (.ref l5), none, none, none, none, none, none] H5)
    -- the text
    have tx := pText_tx sg l4 pf pg
    have tp := pText_parts (al := al) (f := f) (g := g2) (by omega)
    have p1 := (part_len l4 pf).1
    have p2 := (part_len l4 pg).1
    have ixP : ∀ {σ : L2.St} {G : Hp} {i : Nat} {v : Str}, Ex H5 G → σ[4]? = some (some (.ref l5)) → ([partT al f, partT al g2] : List Str)[i]? = some v → Ev (tOp (rIxL K) (tVar 4) (tC (.int (i : Int)))) σ G (.str v) := fun x es e => ev_op (ev_var es) ev_c (rv_ixL (sq_of (x _ _ h5)) (atI_nat (by rw [List.getElem?_map, e]; rfl)))
    refine q_asg (v := .str (pText al f g2)) (ev_is (ev_cat (ev_cat (ev_cat (ev_cat (ev_var (i := 1) rfl) (ev_c (v := .str " : ")) (by show _ + 3 ≤ _; omega)) (ixP (i := 0) (Ex.refl _) rfl rfl) (by rw [cat_len]; show _ + 3 + _ ≤ _; omega)) (ev_c (v := .str " / ")) (by rw [cat_len, cat_len]; show _ + 3 + _ + 3 ≤ _; omega)) (ixP (i := 1) (Ex.refl _) rfl rfl) (by rw [cat_len, cat_len, cat_len]; show _ + 3 + _ + 3 + _ ≤ _; omega)) (by rw [tp])) fun H6 x6 => ?_
    refine (?_ : tSeq _ _ _ [some (.ref Pn), some (.str al), some (.ref D), some (.ref a), some (.ref l5), some (.str (pText al f g2)), none, none, none, none, none] H6)
    have sp := pText_split sg pf pg
    have R := listP_right ok pf pg
    rw [← sp] at R
    obtain ⟨w1, w2⟩ := listP_F ok pf pg
    rw [← sp] at w1 w2
    have A6 := (A4.mono x5).mono x6
    have x46 : Ex H4 H6 := x5.trans x6
    have b6 := b3.trans (kp_ext (exT (x4.trans x46)))
    have T6 := tabs_ex T3 (x4.trans x46)
    have pen6 := pen3.mono (x4.trans x46)
    have keysN : ∀ {h : Str → Int}, ((kvF al h).map (·.1)).Nodup := fun {h} => by
      rw [F_keys]
      exact ndS
    have made : ∀ {σ : L2.St} {G : Hp}, Ex H6 G → σ[3]? = some (some (.ref a)) → EvP (tVar 3) σ G (IsPr C al (kvF al f) (kvF al g2)) := fun x es => evp_var (up_isPr _ _ _ _) es ⟨a, rfl, A6.mono x⟩
    refine (?_ : tOr _ _ _ H6 _)
    refine t_or_no (et_is (et_test (ev_op (ev_strPr (C := C) (E := E0) l4 pf pg (made (Ex.refl _) rfl)) (ev_var rfl) (rv_ne rfl))) (by simp)) fun H7 x7 => ?_
    refine t_or_no (et_test (ev_nePr (C := C) (E := E0) (σ := [some (.ref Pn), some (.str al), some (.ref D), some (.ref a), some (.ref l5), some (.str (pText al f g2)), none, none, none, none, none]) (al := al) (ps := kvF al f) (ws := kvF al g2) keysN keysN (fun G y Q1 q1 => ?_) (made x7 rfl))) fun H8 x8 => ?_
    · have z := evp_pread (K := K) (C := C) (CX := CX) (E := E0) (te := tVar 5) (σ := [some (.ref Pn), some (.str al), some (.ref D), some (.ref a), some (.ref l5), some (.str (pText al f g2)), none, none, none, none, none]) (H := H7) R (by have := tx.1; omega) (ev_var rfl)
      rw [w1, w2] at z
      exact z G y Q1 q1
    have x68 := x7.trans x8
    refine right_run (ev_var rfl) (by have := tx.1; omega) tx.2 (tabs_ex T6 x68) fun H9 x9 T9 => ?_
    rw [if_neg (by decide)]
    refine (?_ : tSeq _ _ _ [some (.ref Pn), some (.str al), some (.ref D), some (.ref a), some (.ref l5), some (.str (pText al f g2)), none, none, none, none, none] H9)
    have kp9 : Kp Pn H H9 := b6.trans (kp_ext ((exT x68).trans x9))
    have pen9 : Pen H9 Pn L ns s3 g3 := pen_ext ((exT x68).trans x9) pen6
    -- the bent texts
    refine q_forR1 (n := 5) (ea_cons ev_c ea_nil) ⟨by decide, by decide⟩ (fun i σ' H' => ∃ (y6 y7 y8 y9 y10 : Option V) (s' : Nat) (g' : Int), σ' = [some (.ref Pn), some (.str al), some (.ref D), some (.ref a), some (.ref l5), some (.str (pText al f g2)), y6, y7, y8, y9, y10] ∧ Kp Pn H H' ∧ LamX.Tabs T H' ∧ Pen H' Pn L ns s' g' ∧ s' ≤ s0 + 9 + 8 * i)
      (fun G y => ⟨_, _, _, _, _, s3, g3, rfl, kp9.trans (kp_ext (exT y)), tabs_ex T9 y, pen9.mono y, by omega⟩) (fun i σ' H' hi p => ?_) fun σ' H' p => ?_
    · obtain ⟨y6, y7, y8, y9, y10, s', g', rfl, kp, Tt, pen', hs'⟩ := p
      have hi : i < 5 := by omega
      refine (?_ : tSeq _ _ _ [some (.ref Pn), some (.str al), some (.ref D), some (.ref a), some (.ref l5), some (.str (pText al f g2)), some (.int (i : Int)), y7, y8, y9, y10] H')
      refine (?_ : tCall spBent _ _ _ _ H' _)
      refine ⟨_, rfl, _, rfl, Pn, L, ns, s', g', pText al f g2, 25, rfl, by decide, tx, pen', by omega, fun u s5 g5 G1 hu hs5 but5 pen5 => ?_⟩
      dsimp only [gName, List.set_cons_succ, List.set_cons_zero]
      refine (?_ : tOr _ _ _ G1 _)
      have T5 := tabs_but Tt but5 pen'
      have kp5 := kp.trans (kp_but but5)
      refine right_run (ev_var rfl) (by have := hu.1; omega) hu.2 T5 fun G2 y2 T6 => ?_
      rw [if_neg (by decide)]
      have pen6 : Pen G2 Pn L ns s5 g5 := pen_ext y2 pen5
      refine (?_ : tCall (spRight T) _ _ _ _ G2 _)
      refine (?_ : tCall spBent _ _ _ _ G2 _)
      refine ⟨_, rfl, _, rfl, Pn, L, ns, s5, g5, u, 58, rfl, by decide, hu, pen6, by omega, fun u2 s7 g7 G3 hu2 hs7 but7 pen7 => ?_⟩
      refine ⟨u2, rfl, by have := hu2.1; omega, hu2.2, tabs_but T6 but7 pen6, fun G4 y4 T8 => ⟨true, rfl, ?_⟩⟩
      show if (!true) = true then _ else _
      rw [if_neg (by decide)]
      exact ⟨_, _, _, _, _, s7, g7, rfl, ((kp5.trans (kp_ext y2)).trans (kp_but but7)).trans (kp_ext y4), T8, pen_ext y4 pen7, by omega⟩
    · obtain ⟨y6, y7, y8, y9, y10, s', g', rfl, kp, Tt, pen', hs'⟩ := p
      exact s_ret (v := .bl true) ev_c fun G y => k s' g' G (by have e : ((5 : Int)).toNat = 5 := rfl; rw [e] at hs'; omega) (kp.trans (kp_ext (exT y))) (tabs_ex Tt y) (pen'.mono y)
end
end K02

set_option Elab.async false
set_option linter.all false
set_option maxRecDepth 100000
set_option maxHeartbeats 4000000
/-! The law's rate_text; texts near that of a rate -/
namespace K02
open PySem PySem.Spec PyProof.Rows L2 Evl KU
abbrev sRT : Stmt := topR 44
abbrev nRT : List Str := ["_law_price", "_law_weight", "_law_one", "_law_other"]
theorem scRT : FnScope nRT ["_law_price", "_law_weight"] (defScope sRT) := ⟨rfl, rfl, rfl, by decide +kernel, rfl, by decide +kernel, by decide +kernel⟩
def spRT : Sp := fun vs H Q _ => ∃ p w : Nat, vs = [.int (p : Int), .int (w : Int)] ∧ p < big ∧ 1 ≤ w ∧ w < big ∧ RetV (.str (rText (redP p w) (redW p w))) H Q
section
variable {P : Program} {w : World} {K : PySem.W.Frag} {mg : Str → Option Value} {base : Heap}
theorem ok_rt {f : Addr} {fd : FuncData} (F : Fun K "_law_rate_text" "_law_rate_text" sRT f fd) (T : Free mg) : FnOk P w K mg base CX0 1 f fd ["_law_price", "_law_weight"] spRT := by
  refine F.ok scRT (fun vs H Q E h => ?_) (fun cdv A outer s H vs Q E hr h => ?_)
  · obtain ⟨_, _, rfl, _⟩ := h
    rfl
  · obtain ⟨p, w0, rfl, hp, wp, hw, k⟩ := h
    have nd := scRT.nd
    refine ⟨_, pss_cons (ps_par (i := 2) (j := 3) (by rfl) nd rfl rfl (by decide) rfl rfl (pa_cons (pv 0) (pa_cons (pv 1) pa_nil)) (by rfl))
      (pss_cons (ps_while PassesOwn.never (pt_cmpR op_gt (pv 3) pe_int (nomark _)) (pss_one (ps_par (i := 2) (j := 3) (by rfl) nd rfl rfl (by decide) rfl rfl (pa_cons (pv 3) (pa_cons (pe_op op_mod (pe_callTy call_int1 (by rfl) T.int (by decide +kernel) (pa_cons (pv 2) pa_nil)) (pv 3)) pa_nil)) (by rfl))))
      (pss_one (ps_ret (pe_op op_add_str (pe_callTy call_str_int (by rfl) T.str (by decide +kernel) (pa_cons (pe_op op_fdivW (pv 0) (pv 2)) pa_nil)) (pe_ifExp (pt_cmpR op_eq (pv 1) (pv 2) (nomark _)) pe_str (pe_op op_add_str pe_str (pe_callTy call_str_int (by rfl) T.str (by decide +kernel) (pa_cons (pe_op op_fdivW (pv 1) (pv 2)) pa_nil)))))))), ?_⟩
    refine ⟨_, rfl, _, rfl, ?_⟩
    refine ⟨_, _, rfl, ?_⟩
    refine (?_ : tSeq _ _ _ [some (.int (p : Int)), some (.int (w0 : Int)), some (.int (p : Int)), some (.int (w0 : Int))] H)
    refine q_while (fun m σ' H' => ∃ a b : Nat, σ' = [some (.int (p : Int)), some (.int (w0 : Int)), some (.int (a : Int)), some (.int (b : Int))] ∧ b = m ∧ Nat.gcd a b = Nat.gcd p w0 ∧ Ex H H') w0 ⟨p, w0, rfl, rfl, rfl, Ex.refl _⟩ (fun m σ' H' q => ?_)
    obtain ⟨a, b, rfl, rfl, g, xx⟩ := q
    refine ⟨decide ((0 : Int) < (b : Int)), et_test (ev_op (ev_var rfl) ev_c rv_I0), fun hb H1 x1 => ?_, fun hb H1 x1 => ?_⟩
    · have b0 : 0 < b := by
        have := of_decide_eq_true hb
        omega
      refine ⟨fun σ2 H2 => σ2 = [some (.int (p : Int)), some (.int (w0 : Int)), some (.int (b : Int)), some (.int ((a % b : Nat) : Int))] ∧ Ex H H2, fun σ2 H2 q => ?_, ?_⟩
      · exact ⟨a % b, Nat.mod_lt _ b0, b, a % b, q.1, rfl, by rw [Nat.gcd_comm b (a % b), ← Nat.gcd_rec, Nat.gcd_comm b a]; exact g, q.2⟩
      · refine ⟨_, rfl, ?_⟩
        have md : Ev (tOp (rI (fun _ j => 0 < j) fun i j => .int (i % j)) (tCB rInt1 (tCons (tVar 2) tNil)) (tVar 3)) [some (.int (p : Int)), some (.int (w0 : Int)), some (.int (a : Int)), some (.int (b : Int))] H1 (.int ((a % b : Nat) : Int)) := ev_is (ev_op (ev_int1 (ev_var rfl)) (ev_var rfl) fun G y Q1 q1 => ⟨_, _, rfl, rfl, by omega, q1 G (Ex.refl _)⟩) (by rw [Int.natCast_emod])
        refine (?_ : tCons _ _ _ H1 _)
        refine md H1 (Ex.refl _) _ fun H2 x2 => ?_
        exact ⟨_, _, rfl, rfl, xx.trans (x1.trans x2)⟩
    · have b0 : b = 0 := by
        have := of_decide_eq_false hb
        omega
      subst b0
      rw [Nat.gcd_zero_right] at g
      subst g
      have g0 : 0 < Nat.gcd p w0 := Nat.gcd_pos_of_pos_right _ (by omega)
      have gb : Nat.gcd p w0 < big := Nat.lt_of_le_of_lt (Nat.le_of_dvd (by omega) (Nat.gcd_dvd_right p w0)) hw
      obtain ⟨r1, r2⟩ := red_lt hp hw
      have cd : ∀ i : Int, CDivW i ((Nat.gcd p w0 : Nat) : Int) := fun i => ⟨by omega, by
        rw [Int.natAbs_natCast]
        have := big_log gb
        omega⟩
      have fd : ∀ {j n : Nat} {G : Hp}, ([some (.int (p : Int)), some (.int (w0 : Int)), some (.int ((Nat.gcd p w0 : Nat) : Int)), some (.int ((0 : Nat) : Int))] : L2.St)[j]? = some (some (.int (n : Int))) → Ev (tOp (rI CDivW fun i j => .int (i / j)) (tVar j) (tVar 2)) [some (.int (p : Int)), some (.int (w0 : Int)), some (.int ((Nat.gcd p w0 : Nat) : Int)), some (.int ((0 : Nat) : Int))] G (.int ((n / Nat.gcd p w0 : Nat) : Int)) := fun {j n G} e1 =>
        ev_is (ev_op (ev_var e1) (ev_var rfl) fun H1 x1 Q1 q1 => ⟨_, _, rfl, rfl, cd _, q1 H1 (Ex.refl _)⟩) (by rw [Int.natCast_ediv])
      have l1 := dg_len r1
      have l2 := dg_len r2
      have one : (w0 = Nat.gcd p w0) ↔ redW p w0 = 1 := by
        unfold redW
        constructor
        · intro e
          rw [← e, Nat.div_self (by omega)]
        · intro e
          have := Nat.div_mul_cancel (Nat.gcd_dvd_right p w0)
          rw [e, Nat.one_mul] at this
          exact this.symm
      refine s_ret (v := .str (rText (redP p w0) (redW p w0))) (ev_is (v := .str (dgT (redP p w0) ++ (if redW p w0 = 1 then ("" : Str) else ("/" : Str) ++ dgT (redW p w0)))) (ev_cat (ev_strN (fd rfl) r1) (ev_if (b := decide (w0 = Nat.gcd p w0)) (et_is (et_test (ev_op (ev_var rfl) (ev_var rfl) (rv_eq rfl))) ?_) (fun hb => ev_is ev_c ?_) fun hb => ev_is (ev_cat (ev_c (v := .str "/")) (ev_strN (fd rfl) r2) (by show 1 + _ ≤ _; have : (dgT (w0 / Nat.gcd p w0)).length ≤ 250 := l2; omega)) ?_) ?_) ?_) fun H2 x2 => k H2 (xx.trans (x1.trans x2))
      · rw [Bool.eq_iff_iff, decide_eq_true_eq, decide_eq_true_eq]
        exact ⟨fun z => by injection z with z; omega, fun z => by rw [← z]⟩
      · rw [if_pos (one.mp (of_decide_eq_true hb))]
      · rw [if_neg fun z => of_decide_eq_false hb (one.mpr z)]
        rfl
      · split
        · show _ + 0 ≤ _
          omega
        · rw [cat_len]
          show _ + (1 + _) ≤ _
          omega
      · unfold rText
        split
        · refine congrArg V.str (str_eq ?_)
          rw [cat_cps]
          have e : (("" : Str)).cps.toList = [] := rfl
          rw [e, List.append_nil]
        · refine congrArg V.str (str_eq ?_)
          rw [cat_cps, cat_cps, cat_cps, cat_cps, List.append_assoc]
end
/-! ### texts near that of a rate -/
theorem num_cons (n : Nat) : ∃ c r, TL.numL n = c :: r ∧ 48 ≤ c ∧ c ≤ 57 := by
  obtain ⟨c, r, e⟩ := List.exists_cons_of_ne_nil (TL.numL_ne n)
  have := TL.numL_digits n c (by rw [e]; exact List.mem_cons_self)
  exact ⟨c, r, e, this⟩
theorem rText_head (p w : Nat) : ∃ c r, (rText p w).cps.toList = c :: r ∧ 48 ≤ c ∧ c ≤ 57 := by
  obtain ⟨c, r, e, h⟩ := num_cons p
  rw [rText_cps]
  split
  · exact ⟨c, r, e, h⟩
  · exact ⟨c, r ++ 47 :: TL.numL w, by rw [e]; rfl, h⟩
section
variable {p w : Nat}
theorem near_0 : readR (("0" : Str) ++ rText p w) = none := by
  obtain ⟨c, r, e, h1, h2⟩ := rText_head p w
  exact none_nought (xs := (rText p w).cps.toList) (by rw [cat_cps]; rfl) ⟨c, r, e, by omega⟩
theorem near_pre {a : Str} {c : Nat} (h : a.cps.toList = [c]) (n : c ≠ 47 ∧ (c < 48 ∨ 57 < c)) : readR (a ++ rText p w) = none := none_sign (c := c) (by rw [cat_cps, h]; simp) n
theorem near_post {a : Str} {c : Nat} (h : a.cps.toList = [c]) (n : c ≠ 47 ∧ (c < 48 ∨ 57 < c)) : readR (rText p w ++ a) = none := none_sign (c := c) (by rw [cat_cps, h]; simp) n
theorem near_1 : readR (rText p w ++ ("/1" : Str)) = none := by
  have e : (("/1" : Str)).cps.toList = [47, 49] := rfl
  have n1 : TL.numL 1 = [49] := TL.numL_lt (by omega)
  by_cases z : w = 1
  · exact none_pair (a := p) (b := 1) (by rw [cat_cps, rText_cps, if_pos z, e, n1]) (.inl rfl)
  · refine none_two ?_
    rw [cat_cps, rText_cps, if_neg z, e, List.count_append, List.count_append, List.count_cons]
    simp
    omega
theorem near_s : readR (rText p w ++ ("/" : Str)) = none := none_last (xs := (rText p w).cps.toList) (by rw [cat_cps]; rfl)
theorem near_f : readR (("/" : Str) ++ rText p w) = none := none_first (xs := (rText p w).cps.toList) (by rw [cat_cps]; rfl)
theorem near_2 : readR ((dgT (2 * p + 2) ++ "/") ++ dgT (2 * w)) = none := none_pair (a := 2 * p + 2) (b := 2 * w) (by rw [cat_cps, cat_cps, dg_cps, dg_cps, sl_cps, List.append_assoc]; rfl) (.inr fun L => by
  have d1 : 2 ∣ 2 * p + 2 := ⟨p + 1, by omega⟩
  have d2 : 2 ∣ 2 * w := ⟨w, rfl⟩
  have := Nat.dvd_gcd d1 d2
  rw [L.one] at this
  have := Nat.le_of_dvd (by omega) this
  omega)
theorem near_d0 : readR (dgT p ++ ("/0" : Str)) = none := none_pair (a := p) (b := 0) (by rw [cat_cps, dg_cps, show TL.numL 0 = [48] from TL.numL_lt (by omega)]; rfl) (.inr fun L => by have := L.pos; omega)
theorem near_0w : readR (("0/" : Str) ++ dgT w) = none := none_pair (a := 0) (b := w) (by rw [cat_cps, dg_cps, show TL.numL 0 = [48] from TL.numL_lt (by omega)]; rfl) (by
  by_cases z : w = 1
  · exact .inl z
  · refine .inr fun L => z ?_
    have := L.one
    rw [Nat.gcd_zero_left] at this
    exact this)
end
def nearC : List Str := [("" : Str), ("x" : Str), ("1/-2" : Str), ("-1/-2" : Str), ("--1" : Str), ("1/--2" : Str), ("--1/2" : Str), ("6 /5" : Str), ("1/2/3" : Str), ("1.5" : Str)]
theorem nearC_none : ∀ t ∈ nearC, t.length ≤ 240 ∧ readR t = none := fun t ht => by
  unfold nearC at ht
  simp only [List.mem_cons, List.not_mem_nil, or_false] at ht
  rcases ht with rfl | rfl | rfl | rfl | rfl | rfl | rfl | rfl | rfl | rfl
  · exact ⟨by decide, none_empty⟩
  · exact ⟨by decide, none_sign (c := 120) (by decide) (by decide)⟩
  · exact ⟨by decide, none_sign (c := 45) (by decide) (by decide)⟩
  · exact ⟨by decide, none_sign (c := 45) (by decide) (by decide)⟩
  · exact ⟨by decide, none_sign (c := 45) (by decide) (by decide)⟩
  · exact ⟨by decide, none_sign (c := 45) (by decide) (by decide)⟩
  · exact ⟨by decide, none_sign (c := 45) (by decide) (by decide)⟩
  · exact ⟨by decide, none_sign (c := 32) (by decide) (by decide)⟩
  · exact ⟨by decide, none_two (by decide)⟩
  · exact ⟨by decide, none_sign (c := 46) (by decide) (by decide)⟩
theorem near_42 : readR ("4/2" : Str) = none := none_pair (a := 4) (b := 2) (by rw [show TL.numL 4 = [52] from TL.numL_lt (by omega), show TL.numL 2 = [50] from TL.numL_lt (by omega)]; rfl) (.inr fun L => by
  have := L.one
  revert this
  decide)
end K02

set_option Elab.async false
set_option linter.all false
set_option maxRecDepth 100000
set_option maxHeartbeats 8000000
/-! The law's rates_right -/
namespace K02
open PySem PySem.Spec PyProof.Rows L2 Evl KU
/-- what is no text -/
inductive NoT (CP Pn : Addr) : V → Hp → Prop where
  | non {H : Hp} : NoT CP Pn .non H
  | int {H : Hp} (i : Int) : NoT CP Pn (.int i) H
  | bl {H : Hp} (b : Bool) : NoT CP Pn (.bl b) H
  | lst {H : Hp} {a : Addr} {xs : List V} : a ≠ Pn → H a = some (.lst xs) → NoT CP Pn (.ref a) H
  | tup {H : Hp} {a : Addr} {xs : List V} : a ≠ Pn → H a = some (.tup xs) → NoT CP Pn (.ref a) H
  | dic {H : Hp} {a : Addr} {kvs : List (Key × V)} : a ≠ Pn → H a = some (.dK kvs) → NoT CP Pn (.ref a) H
  | put {H : Hp} {a dx : Addr} {fs : List (Str × V)} : a ≠ Pn → H a = some (.ins CP dx fs) → NoT CP Pn (.ref a) H
theorem up_noT (CP Pn : Addr) : Up (NoT CP Pn) := fun v H H' x h => by
  cases h with
  | non => exact .non
  | int i => exact .int i
  | bl b => exact .bl b
  | lst n e => exact .lst n (x _ _ e)
  | tup n e => exact .tup n (x _ _ e)
  | dic n e => exact .dic n (x _ _ e)
  | put n e => exact .put n (x _ _ e)
theorem noT_but {CP Pn : Addr} {v : V} {H H' : Hp} (x : But Pn H H') (h : NoT CP Pn v H) : NoT CP Pn v H' := by
  cases h with
  | non => exact .non
  | int i => exact .int i
  | bl b => exact .bl b
  | lst n e => exact .lst n (x _ _ n e)
  | tup n e => exact .tup n (x _ _ n e)
  | dic n e => exact .dic n (x _ _ n e)
  | put n e => exact .put n (x _ _ n e)
theorem noT_ext {CP Pn : Addr} {v : V} {H H' : Hp} (x : ExT H H') (h : NoT CP Pn v H) : NoT CP Pn v H' := by
  cases h with
  | non => exact .non
  | int i => exact .int i
  | bl b => exact .bl b
  | lst n e => exact .lst n (x _ _ e fun ps z => by cases z)
  | tup n e => exact .tup n (x _ _ e fun ps z => by cases z)
  | dic n e => exact .dic n (x _ _ e fun ps z => by cases z)
  | put n e => exact .put n (x _ _ e fun ps z => by cases z)
theorem NoT.ty {K : PySem.W.Frag} {CP Pn : Addr} {v : V} {H : Hp} (CU : ClsO K CP) (kS : PySem.W.kitOne K (.ref CP) (.type "str") = some false) (h : NoT CP Pn v H) : ∀ H', Ex H H' → ∃ t, TyX K H' v t ∧ PySem.W.kitOne K t (.type "str") = some false := fun H' x => by
  cases h with
  | non => exact ⟨_, .base .non, kit_ty (by decide +kernel)⟩
  | int i => exact ⟨_, .base (.int i), kit_ty (by decide +kernel)⟩
  | bl b => exact ⟨_, .base (.bl b), kit_ty (by decide +kernel)⟩
  | lst n e => exact ⟨_, bty_tyx (.lst (x _ _ e)), kit_ty (by decide +kernel)⟩
  | tup n e => exact ⟨_, bty_tyx (.tup (x _ _ e)), kit_ty (by decide +kernel)⟩
  | dic n e => exact ⟨_, bty_tyx (.dic (x _ _ e)), kit_ty (by decide +kernel)⟩
  | put n e => exact ⟨.ref CP, .base (.ins (x _ _ e) CU.toCls CU.cA CU.cG CU.cT CU.cM), kS⟩
/-- a text that is none of a rate, or no text -/
def Nr (R Pn : Addr) : V → Hp → Prop := fun v H => (∃ t, v = .str t ∧ t.length ≤ 240 ∧ readR t = none) ∨ NoT R Pn v H
theorem up_nr (R Pn : Addr) : Up (Nr R Pn) := fun v H H' x h => h.imp id fun h => up_noT _ _ _ _ _ x h
theorem nr_but {R Pn : Addr} {v : V} {H H' : Hp} (x : But Pn H H') (h : Nr R Pn v H) : Nr R Pn v H' := h.imp id fun h => noT_but x h
theorem nr_ext {R Pn : Addr} {v : V} {H H' : Hp} (x : ExT H H') (h : Nr R Pn v H) : Nr R Pn v H' := h.imp id fun h => noT_ext x h
/-- a list of such -/
def AllL (Rz : V → Hp → Prop) (n : Nat) : V → Hp → Prop := fun v H => ∃ (l : Addr) (xs : List V), v = .ref l ∧ H l = some (.lst xs) ∧ xs.length = n ∧ ∀ x ∈ xs, Rz x H
theorem up_allL {Rz : V → Hp → Prop} (up : Up Rz) (n : Nat) : Up (AllL Rz n) := fun v H H' x ⟨l, xs, e, h, hn, a⟩ => ⟨l, xs, e, x _ _ h, hn, fun y hy => up _ _ _ x (a y hy)⟩
section
variable {K : PySem.W.Frag} {σ : L2.St} {H : Hp} {Rz : V → Hp → Prop} {ta tb : TE} {n m : Nat}
theorem all_nil {R : V → Hp → Prop} : EvPA tNil σ H (fun vs H' => vs.length = 0 ∧ ∀ v ∈ vs, R v H') := fun H1 _ Q q => q [] H1 (Ex.refl _) ⟨rfl, fun v hv => by cases hv⟩
theorem all_cons {R : V → Hp → Prop} (up : Up R) {te : TE} {tr : TA} {n : Nat} (h : EvP te σ H R) (hr : EvPA tr σ H (fun vs H' => vs.length = n ∧ ∀ v ∈ vs, R v H')) : EvPA (tCons te tr) σ H (fun vs H' => vs.length = n + 1 ∧ ∀ v ∈ vs, R v H') := fun H1 x1 Q q =>
  h H1 x1 _ fun v H2 x2 p => hr H2 (x1.trans x2) _ fun vs H3 x3 ⟨l, e⟩ => q _ H3 (x2.trans x3) ⟨by rw [List.length_cons, l], fun u hu => by
    rcases List.mem_cons.mp hu with rfl | hu
    · exact up _ _ _ x3 p
    · exact e u hu⟩
theorem al_lst {ta : TA} (up : Up Rz) (h : EvPA ta σ H (fun vs H' => vs.length = n ∧ ∀ v ∈ vs, Rz v H')) (small : n ≤ 1000) : EvP (tLst ta) σ H (AllL Rz n) := fun H1 x1 Q q =>
  h H1 x1 _ fun vs H2 x2 ⟨l, e⟩ => ⟨by rw [l, sizeLine_eq]; omega, fun p hp => q _ _ (x2.trans (Ex.new hp)) ⟨p, vs, rfl, upd_same, l, fun y hy => up _ _ _ (Ex.new hp) (e y hy)⟩⟩
theorem al_cat (up : Up Rz) (h1 : EvP ta σ H (AllL Rz n)) (h2 : EvP tb σ H (AllL Rz m)) (small : n + m ≤ 1000) : EvP (tOp rCat ta tb) σ H (AllL Rz (n + m)) := fun H1 x1 Q q =>
  h1 H1 x1 _ fun v H2 x2 a => h2 H2 (x1.trans x2) _ fun w H3 x3 b => by
    obtain ⟨l, xs, rfl, hl, nl, al⟩ := up_allL up n _ _ _ x3 a
    obtain ⟨k, ys, rfl, hk, nk, ak⟩ := b
    refine ⟨l, k, xs, ys, rfl, rfl, hl, hk, by rw [nl, nk, sizeLine_eq]; omega, fun p hp => q _ _ ((x2.trans x3).trans (Ex.new hp)) ⟨p, xs ++ ys, rfl, upd_same, by rw [List.length_append, nl, nk], fun y hy => ?_⟩⟩
    rcases List.mem_append.mp hy with z | z
    · exact up _ _ _ (Ex.new hp) (al y z)
    · exact up _ _ _ (Ex.new hp) (ak y z)
theorem al_var {i : Nat} {v : V} (up : Up Rz) (e : σ[i]? = some (some v)) (h : AllL Rz n v H) : EvP (tVar i) σ H (AllL Rz n) := fun H1 x1 Q q => ⟨v, e, q v H1 (Ex.refl _) (up_allL up n _ _ _ x1 h)⟩
theorem evp_str {R Pn : Addr} {te : TE} {t : Str} (h : Ev te σ H (.str t)) (l : t.length ≤ 240) (n : readR t = none) : EvP te σ H (Nr R Pn) := fun H1 x1 Q q => h H1 x1 _ fun H2 x2 => q _ H2 x2 (.inl ⟨t, rfl, l, n⟩)
theorem evp_not {R Pn : Addr} {te : TE} {v : V} (h : Ev te σ H v) (n : ∀ G, NoT R Pn v G) : EvP te σ H (Nr R Pn) := fun H1 x1 Q q => h H1 x1 _ fun H2 x2 => q _ H2 x2 (.inr (n H2))
theorem ev_neRt {R : Addr} {E : XK} {p w : Nat} (ha : EvP ta σ H (IsRt R p w)) (hb : EvP tb σ H (IsRt R p w)) : Ev (tOp (rNeI R (spREq R) E) ta tb) σ H (.bl false) := fun H1 x1 Q q =>
  ha H1 x1 _ fun v H2 x2 p1 => hb H2 (x1.trans x2) _ fun u H3 x3 ⟨y, ew, B2⟩ => by
    obtain ⟨x, ev, B1⟩ := up_isRt R p w _ _ _ x3 p1
    subst ev ew
    obtain ⟨dx, e1⟩ := id B1
    obtain ⟨dy, e2⟩ := id B2
    exact ⟨x, dx, _, y, dy, _, rfl, rfl, e1, e2, x, y, p, w, p, w, rfl, B1, B2, fun H4 x4 => ⟨_, rfl, by
      rw [decide_eq_true rfl, decide_eq_true rfl]
      exact q H4 ((x2.trans x3).trans x4)⟩⟩
end
def spRReadA (K : PySem.W.Frag) (CT R : Addr) : Sp := fun vs H Q E => spRRead CT R vs H Q E ∨ spRReadX K CT R vs H Q E
/-- what the law's lambdas ask of Rate -/
structure AsksR (P : Program) (w : World) (K : PySem.W.Frag) (mg : Str → Option Value) (base : Heap) (R CX fR mc fSt fEq fI fRT : Addr) (mcv : Value) (fdR fdI fdRT : FuncData) : Prop where
  CR : ClsRt K mg R
  kS : PySem.W.kitOne K (.ref R) (.type "str") = some false
  cr : ClX.CRead K R mcv
  cm : ClX.CMet K R mcv "read" mc fR
  GR : FnOk P w K mg base (L2.CX P w) 6 fR fdR ["cls", "text"] (spRReadA K CX R)
  bR : Binds K fdR ["cls", "text"] []
  bRK : ∀ (s' : Shared) (ws : List Value), K.In s'.heap → ws.length = (["text"] : List Str).length → BindsTo s' fdR ⟨[.ref R], (["text"] : List Str).zip ws⟩ ((["cls", "text"] : List Str).zip (.ref R :: ws))
  hSt : PySem.W.findIn K (.ref R) "__str__" = some (some (.ref fSt))
  iSt : PySem.W.isFn K (.ref fSt) = true
  GSt : FnR P w K mg base CX0 1 fSt (spRStr R)
  hNe : PySem.W.findIn K (.ref R) "__ne__" = some (some (.builtin "object.__ne__"))
  hEq : PySem.W.findIn K (.ref R) "__eq__" = some (some (.ref fEq))
  iEq : PySem.W.isFn K (.ref fEq) = true
  GEq : FnR P w K mg base CX0 1 fEq (spREq R)
  M : Mk K R fI
  FI : FnOk P w K mg base CX0 2 fI fdI ["self", "price", "weight"] (spRInit R)
  bI : Binds K fdI ["self", "price", "weight"] []
  gRT : mg "_law_rate_text" = some (.ref fRT)
  kRT : PySem.W.keepIn K (.ref fRT) = true
  GRT : FnOk P w K mg base CX0 1 fRT fdRT ["_law_price", "_law_weight"] spRT
  bRT : Binds K fdRT ["_law_price", "_law_weight"] []
abbrev sRR : Stmt := topR 45
abbrev nRR : List Str := ["_law_pen_here", "_law_price", "_law_weight", "_law_made", "_law_text_so", "_law_near", "_law_wrong_here", "_law_heard_here"]
theorem scRR : FnScope nRR ["_law_pen_here"] (defScope sRR) := ⟨rfl, rfl, rfl, by decide +kernel, rfl, by decide +kernel, by decide +kernel⟩
def spRR (T : List (Addr × Str)) : Sp := fun vs H Q _ => ∃ (P L : Addr) (ns : List Int) (s : Nat) (g : Int), vs = [.ref P] ∧ LamX.Tabs T H ∧ Pen H P L ns s g ∧ s ≤ 70000 ∧ ∀ (s' : Nat) (g' : Int) (H' : Hp), s' ≤ s + 10 → Kp P H H' → LamX.Tabs T H' → Pen H' P L ns s' g' → Q (.bl true) H'
section
variable {K : PySem.W.Frag} {R CX : Addr} {H : Hp} {E : XK} {Q : VK}
theorem askR_bad {t : Str} (l : t.length ≤ 240) (n : readR t = none) (r : Raise2V CX "line" "word" (.int 0) (.int 0) H E) : spRReadA K CX R [.ref R, .str t] H Q E := .inl ⟨t, rfl, l, fun _ => r, fun p w h => by rw [n] at h; cases h⟩
theorem askR_nr {Pn : Addr} {v : V} (CU : ClsO K R) (kS : PySem.W.kitOne K (.ref R) (.type "str") = some false) (h : Nr R Pn v H) (r : Raise2V CX "line" "word" (.int 0) (.int 0) H E) : spRReadA K CX R [.ref R, v] H Q E := by
  rcases h with ⟨t, rfl, l, n⟩ | h
  · exact askR_bad l n r
  · exact .inr ⟨v, rfl, h.ty CU kS, r⟩
end
/-- one of these is drawn -/
theorem e29 : ((10 : Int) ^ (29 : Int).toNat) = ((10 ^ 29 : Nat) : Int) := by decide +kernel
theorem shows_two : shows (.list [.tuple [.int 0, .int 0], .tuple [.int 0, .int 0]]) = true := by decide +kernel
theorem shown_two : (PyData.list [.tuple [.int 0, .int 0], .tuple [.int 0, .int 0]]).shown = "[(0, 0), (0, 0)]" := by decide +kernel
end K02

set_option Elab.async false
set_option linter.all false
set_option maxRecDepth 100000
set_option maxHeartbeats 8000000
/-! The law's rates_right: the run -/
namespace K02
open PySem PySem.Spec PyProof.Rows L2 Evl KU
abbrev tDr90 : TE := tCall spDraw [] E0 (tCons (tVar 0) (tCons (tC (.int 90)) tNil))
abbrev tP29 : TE := tOp (rI CPow fun i j => .int (i ^ j.toNat)) (tC (.int 10)) (tC (.int 29))
abbrev tPrice : TE := tCall spPick [] E0 (tCons (tVar 0) (tCons (tLst (tCons (tC (.int 0)) (tCons (tC (.int 1)) (tCons (tC (.int 6)) (tCons (tC (.int 12)) (tCons tDr90 (tCons tP29 tNil))))))) tNil))
abbrev tWeight : TE := tCall spPick [] E0 (tCons (tVar 0) (tCons (tLst (tCons (tC (.int 0)) (tCons (tC (.int 4)) (tCons (tC (.int 9)) (tCons tDr90 (tCons tP29 tNil)))))) tNil))
section
variable {K : PySem.W.Frag} {σ : L2.St} {H : Hp} {P L : Addr} {ns : List Int} {s : Nat} {g : Int} {Q : VK}
theorem run_price (h0 : σ[0]? = some (some (.ref P))) (pen : Pen H P L ns s g) (hs : s ≤ 90000) (k : ∀ (p s' : Nat) (g' : Int) (H' : Hp), p ≤ 10 ^ 29 → s' ≤ s + 2 → But P H H' → Pen H' P L ns s' g' → Q (.int (p : Int)) H') : tPrice σ H Q := by
  refine ⟨_, h0, ?_⟩
  refine (?_ : tLst _ σ H _)
  refine (?_ : tDr90 σ H _)
  refine ⟨_, h0, P, L, ns, s, g, 90, rfl, by decide, by decide, pen, by omega, fun d s1 g1 H1 hd hs1 but1 pen1 => ?_⟩
  refine (?_ : tP29 σ H1 _)
  refine ⟨10, 29, rfl, rfl, ⟨by decide, by decide, by decide⟩, ?_⟩
  refine ⟨by show 6 ≤ sizeLine; decide, fun l hl => ?_⟩
  have x2 : Ex H1 (upd H1 l (.lst [V.int 0, V.int 1, V.int 6, V.int 12, V.int (d : Int), V.int ((10 : Int) ^ (29 : Int).toNat)])) := Ex.new hl
  have lP : l ≠ P := (ne_of_none pen1.pen hl).symm
  refine ⟨P, L, l, ns, [V.int 0, V.int 1, V.int 6, V.int 12, V.int (d : Int), V.int ((10 : Int) ^ (29 : Int).toNat)], s1, g1, rfl, by simp, (show 6 ≤ 1000 by decide), upd_same, lP, pen1.mono x2, by omega, fun v s2 g2 H2 hv hs2 but2 pen2 => ?_⟩
  have bb := but1.trans ((But.of_ex x2).trans but2)
  have all : ∃ p : Nat, v = .int (p : Int) ∧ p ≤ 10 ^ 29 := by
    simp only [List.mem_cons, List.not_mem_nil, or_false] at hv
    have t29 : 90 ≤ 10 ^ 29 := by decide
    rcases hv with rfl | rfl | rfl | rfl | rfl | rfl
    · exact ⟨0, rfl, by omega⟩
    · exact ⟨1, rfl, by omega⟩
    · exact ⟨6, rfl, by omega⟩
    · exact ⟨12, rfl, by omega⟩
    · exact ⟨d, rfl, by omega⟩
    · exact ⟨10 ^ 29, congrArg V.int e29, Nat.le_refl _⟩
  obtain ⟨p, rfl, hp⟩ := all
  exact k p s2 g2 H2 hp (by omega) bb pen2
theorem run_weight (h0 : σ[0]? = some (some (.ref P))) (pen : Pen H P L ns s g) (hs : s ≤ 90000) (k : ∀ (p s' : Nat) (g' : Int) (H' : Hp), p ≤ 10 ^ 29 → s' ≤ s + 2 → But P H H' → Pen H' P L ns s' g' → Q (.int (p : Int)) H') : tWeight σ H Q := by
  refine ⟨_, h0, ?_⟩
  refine (?_ : tLst _ σ H _)
  refine (?_ : tDr90 σ H _)
  refine ⟨_, h0, P, L, ns, s, g, 90, rfl, by decide, by decide, pen, by omega, fun d s1 g1 H1 hd hs1 but1 pen1 => ?_⟩
  refine (?_ : tP29 σ H1 _)
  refine ⟨10, 29, rfl, rfl, ⟨by decide, by decide, by decide⟩, ?_⟩
  refine ⟨by show 5 ≤ sizeLine; decide, fun l hl => ?_⟩
  have x2 : Ex H1 (upd H1 l (.lst [V.int 0, V.int 4, V.int 9, V.int (d : Int), V.int ((10 : Int) ^ (29 : Int).toNat)])) := Ex.new hl
  have lP : l ≠ P := (ne_of_none pen1.pen hl).symm
  refine ⟨P, L, l, ns, [V.int 0, V.int 4, V.int 9, V.int (d : Int), V.int ((10 : Int) ^ (29 : Int).toNat)], s1, g1, rfl, by simp, (show 5 ≤ 1000 by decide), upd_same, lP, pen1.mono x2, by omega, fun v s2 g2 H2 hv hs2 but2 pen2 => ?_⟩
  have bb := but1.trans ((But.of_ex x2).trans but2)
  have all : ∃ p : Nat, v = .int (p : Int) ∧ p ≤ 10 ^ 29 := by
    simp only [List.mem_cons, List.not_mem_nil, or_false] at hv
    have t29 : 90 ≤ 10 ^ 29 := by decide
    rcases hv with rfl | rfl | rfl | rfl | rfl
    · exact ⟨0, rfl, by omega⟩
    · exact ⟨4, rfl, by omega⟩
    · exact ⟨9, rfl, by omega⟩
    · exact ⟨d, rfl, by omega⟩
    · exact ⟨10 ^ 29, congrArg V.int e29, Nat.le_refl _⟩
  obtain ⟨p, rfl, hp⟩ := all
  exact k p s2 g2 H2 hp (by omega) bb pen2
end
theorem tabs_upd {T : List (Addr × Str)} {l : Addr} {xs : List V} {o : HO} {H : Hp} (t : LamX.Tabs T H) (h : H l = some (.lst xs)) : LamX.Tabs T (upd H l o) := fun q hq => by
  obtain ⟨ps, h1, h2, h3⟩ := t q hq
  refine ⟨ps, ?_, h2, fun pos cv hc => ?_⟩
  · rw [upd_ne (fun z => by rw [z, h] at h1; cases h1)]
    exact h1
  · obtain ⟨c, e1, e2⟩ := h3 pos cv hc
    refine ⟨c, e1, ?_⟩
    rw [upd_ne (fun z => by rw [z, h] at e2; cases e2)]
    exact e2
theorem num_few {n k : Nat} (hk : 0 < k) (h : n < 10 ^ k) : (dgT n).length ≤ k := by
  rw [← len_cps, dg_cps]
  exact TL.numL_len hk h
theorem rText_few {p w k : Nat} (hk : 0 < k) (hp : p < 10 ^ k) (hw : w < 10 ^ k) : (rText p w).length ≤ 2 * k + 1 := by
  have h1 := num_few hk hp
  have h2 := num_few hk hw
  unfold rText
  split
  · omega
  · rw [cat_len, cat_len]
    show _ + 1 + _ ≤ _
    omega
section
variable {P : Program} {w : World} {K : PySem.W.Frag} {mg : Str → Option Value} {base : Heap} {C CF CX fR fH mc fSt fI fEq fRt fBt fD fP R fR2 mc2 fSt2 fEq2 fI2 fRT : Addr} {mcv mcv2 : Value} {fdR fdH fdI fdRt fdBt fdD fdP fdR2 fdI2 fdRT : FuncData} {T : List (Addr × Str)}
theorem ok_rr {f : Addr} {fd : FuncData} {c Pt : Addr} (F : Fun K "_law_rates_right" "_law_rates_right" sRR f fd) (S : AsksP P w K mg base C CF CX fR fH mc fSt mcv fdR fdH) (U : UsesP P w K mg base C fI fEq fRt fBt fD fP fdI fdRt fdBt fdD fdP T) (A2 : AsksR P w K mg base R CX fR2 mc2 fSt2 fEq2 fI2 fRT mcv2 fdR2 fdI2 fdRT)
    (TB : LamX.TabB base mg c Pt) (hc : fd.code = .ref c) (hm : (Pt, ("_law_rates_right.<locals>.<lambda>" : Str)) ∈ T) (hu : ∀ p ∈ T, p.1 = Pt → p.2 = ("_law_rates_right.<locals>.<lambda>" : Str)) : FnG P w K mg base CX0 9 f fd ["_law_pen_here"] (spRR T) := by
  have FR : FnR P w K mg base (L2.CX P w) 6 fR2 (spRReadA K CX R) := fnr_of A2.GR A2.bR
  refine FnG.bodyC F scRR (fun vs H Q E h => ?_) (fun A outer s H vs Q E hgd hr h => ?_)
  · obtain ⟨_, _, _, _, _, rfl, _⟩ := h
    rfl
  · obtain ⟨Pn, L, ns, s0, g0, rfl, hT, pen, hs, k⟩ := h
    have nd := scRR.nd
    obtain ⟨oc, od, kV, doc, pm, an, cdv, ct, osl, rfl, lk, hcd⟩ := S.FH
    have hg2 : (cxOf CX0 P w K mg base nRR "_law_rates_right" (defScope sRR) f fd.code A outer s H E).nox.A.guards = some [] := hgd
    have hu2 : (cxOf CX0 P w K mg base nRR "_law_rates_right" (defScope sRR) f fd.code A outer s H E).nox.A.units + 64 < cLine := hr.units
    refine ⟨_, pss_cons (ps_par (i := 1) (j := 2) (by rfl) nd rfl rfl (by decide) rfl rfl (pa_cons (pe_call U.GP (hr.mono (by decide)) (by rfl) U.DT.gPick U.DT.kPick U.bP .nil pass0 (pa_cons (pv 0) (pa_cons (pe_lst (pa_cons pe_int (pa_cons pe_int (pa_cons pe_int (pa_cons pe_int (pa_cons (pe_call U.GD (hr.mono (by decide)) (by rfl) U.DT.gDraw U.DT.kDraw U.bD .nil pass0 (pa_cons (pv 0) (pa_cons pe_int pa_nil))) (pa_cons (pe_op op_pow pe_int pe_int) pa_nil))))))) pa_nil)))
        (pa_cons (pe_op op_add pe_int (pe_call U.GP (hr.mono (by decide)) (by rfl) U.DT.gPick U.DT.kPick U.bP .nil pass0 (pa_cons (pv 0) (pa_cons (pe_lst (pa_cons pe_int (pa_cons pe_int (pa_cons pe_int (pa_cons (pe_call U.GD (hr.mono (by decide)) (by rfl) U.DT.gDraw U.DT.kDraw U.bD .nil pass0 (pa_cons (pv 0) (pa_cons pe_int pa_nil))) (pa_cons (pe_op op_pow pe_int pe_int) pa_nil)))))) pa_nil)))) pa_nil)) (by rfl))
      (pss_cons (ps_par (i := 3) (j := 4) (by rfl) nd rfl rfl (by decide) rfl rfl (pa_cons (pe_make A2.M A2.FI (hr.mono (by decide)) (by rfl) A2.CR.gR A2.bI .nil pass0 (pa_cons (pv 1) (pa_cons (pv 2) pa_nil))) (pa_cons (pe_call A2.GRT (hr.mono (by decide)) (by rfl) A2.gRT A2.kRT A2.bRT .nil pass0 (pa_cons (pv 1) (pa_cons (pv 2) pa_nil))) pa_nil)) (by rfl))
      (pss_cons (ps_if (PW.pt (pw_or (pt_cmpR op_ne (pe_callTy (call_strI (C := R) A2.hSt A2.iSt A2.GSt (hr.mono (by decide)) pass0) (by rfl) S.T.str (by decide +kernel) (pa_cons (pv 3) pa_nil)) (pv 4) (nomark _)) (pw_or1 (pt_cmpR (op_neI (C := R) A2.hNe A2.hEq A2.iEq A2.CR.cM A2.GEq (hr.mono (by decide)) pass0) (ClX.pe_cmeth (pe_glob (v := .ref R) (by rfl) A2.CR.gR rfl) A2.cr A2.cm FR (hr.mono (by decide)) passE0 (pa_cons (pv 4) pa_nil)) (pv 3) (nomark _))))) (pss_one (ps_ret pe_bl)) pss_nil)
      (pss_cons (ps_set (i := 5) nd rfl (.inl rfl) (pe_lst (pa_cons (pe_op op_add_str pe_str (pv 4)) (pa_cons (pe_op op_add_str (pv 4) pe_str) (pa_cons (pe_op op_add_str pe_str (pv 4)) (pa_cons (pe_op op_add_str (pv 4) pe_str) (pa_cons (pe_op op_add_str (pv 4) pe_str) (pa_cons (pe_op op_add_str pe_str (pv 4)) (pa_cons (pe_op op_add_str pe_str (pv 4)) (pa_cons (pe_op op_add_str pe_str (pv 4)) (pa_cons (pe_op op_add_str (pv 4) pe_str) pa_nil)))))))))))
      (pss_cons (ps_set (i := 5) nd rfl (.inl rfl) (pe_op op_cat (pv 5) (pe_lst (pa_cons (pe_op op_add_str (pe_op op_add_str (pe_callTy call_str_int (by rfl) S.T.str (by decide +kernel) (pa_cons (pe_op op_add (pe_op op_mul pe_int (pv 1)) pe_int) pa_nil)) pe_str) (pe_callTy call_str_int (by rfl) S.T.str (by decide +kernel) (pa_cons (pe_op op_mul pe_int (pv 2)) pa_nil))) (pa_cons (pe_op op_add_str (pe_callTy call_str_int (by rfl) S.T.str (by decide +kernel) (pa_cons (pv 1) pa_nil)) pe_str) (pa_cons (pe_op op_add_str pe_str (pe_callTy call_str_int (by rfl) S.T.str (by decide +kernel) (pa_cons (pv 2) pa_nil)))
          (pa_cons pe_str (pa_cons pe_str (pa_cons pe_str (pa_cons pe_str (pa_cons pe_str (pa_cons pe_str (pa_cons pe_str (pa_cons pe_str (pa_cons pe_str (pa_cons pe_str pa_nil))))))))))))))))
      (pss_cons (ps_set (i := 5) nd rfl (.inl rfl) (pe_op op_cat (pv 5) (pe_lst (pa_cons pe_non (pa_cons pe_int (pa_cons pe_int (pa_cons pe_bl (pa_cons (pe_lst (pa_cons pe_str pa_nil)) (pa_cons (pe_tup (pa_cons pe_str pa_nil)) (pa_cons pe_dnewK (pa_cons (pv 3) pa_nil)))))))))))
      (pss_cons (ps_set (i := 6) nd rfl (.inr rfl) (pe_call U.GP (hr.mono (by decide)) (by rfl) U.DT.gPick U.DT.kPick U.bP .nil pass0 (pa_cons (pv 0) (pa_cons (pv 5) pa_nil))))
      (pss_cons (ps_set (i := 7) nd rfl (.inl rfl) (pe_lstB (pa_cons (LamX.pe_lamcall (k := 6) (T := T) (t := fun E => ClX.tCMeth R (spRReadA K CX R) E (tC (.ref R)) (tCons (tVar 6) tNil)) (by rfl) S.gH S.kH lk hcd S.bH scHeard rfl (.inl rfl) (heard_givesP (k := 7) hr S.E S.T.isinstance) TB hc hm hu hr (LamX.lamS_by (by show LamX.lamSB (defScope sRR) _ = true; decide +kernel)) rfl (fun _ _ _ _ _ => rfl)
          (fun A outer s H E f c' hr2 => ClX.pe_cmeth (pe_glob (v := .ref R) (by rfl) A2.CR.gR rfl) A2.cr A2.cm FR hr2 (passes_call (takes_of rfl rfl rfl rfl) fun _ _ _ _ h => h) (pa_cons (pv 6) pa_nil))) pa_nil)))
      (pss_cons (ps_expr (pe_bm PySem.F.plainAttrs_list PySem.F.slot_list_append PySem.F.type_list_append mt_append (pv 7) (pa_cons (LamX.pe_lamcall (k := 6) (T := T) (t := fun E => tCMethKX R 1 (spRReadA K CX R) E (fun zs => zs) (tC (.ref R)) (tCons (tC (.str "4/2")) tNil)) (by rfl) S.gH S.kH lk hcd S.bH scHeard rfl (.inl rfl) (heard_givesP (k := 7) hr S.E S.T.isinstance) TB hc hm hu hr (LamX.lamS_by (by show LamX.lamSB (defScope sRR) _ = true; decide +kernel)) rfl (fun _ _ _ _ _ => rfl)
          (fun A outer s H E f c' hr2 => pe_cmethKX (ks := ["text"]) (gv := fun zs => zs) (gu := fun ws => ws) (pe_glob (v := .ref R) (by rfl) A2.CR.gR rfl) A2.cr A2.cm A2.GR hr2 (passes_call (takes_of rfl rfl rfl rfl) fun _ _ _ _ h => h) (pk_cons pe_str pk_nil) A2.bRK (fun r _ => r))) pa_nil)))
      (pss_one (ps_ret (pe_cmpR op_eq (pe_callB (r := rReprA K) (id := "repr") (by exact call_reprA hg2 hu2) (by rfl) S.T.repr (by decide +kernel) (pa_cons (pv 7) pa_nil)) pe_str (nomark _)))))))))))), ?_⟩
    -- price and weight
    refine (?_ : tPrice (start nRR [.ref Pn]) H _)
    refine run_price rfl pen (by omega) fun p s1 g1 H1 hp hs1 but1 pen1 => ?_
    refine (?_ : tCons _ _ _ H1 _)
    refine (?_ : tWeight (start nRR [.ref Pn]) H1 _)
    refine run_weight rfl pen1 (by omega) fun w1 s2 g2 H2 hw hs2 but2 pen2 => ?_
    refine ⟨_, _, rfl, rfl, ?_⟩
    refine ⟨_, _, rfl, ?_⟩
    have e1 : (1 : Int) + (w1 : Int) = ((w1 + 1 : Nat) : Int) := by omega
    dsimp only
    rw [e1]
    obtain ⟨W, eW⟩ : ∃ W, W = w1 + 1 := ⟨_, rfl⟩
    rw [← eW]
    have W1 : 1 ≤ W := by omega
    have t29 : (10 ^ 29 : Nat) + 1 < 10 ^ 30 := by decide
    have p30 : p < 10 ^ 30 := by omega
    have w30 : W < 10 ^ 30 := by omega
    have b30 : (10 ^ 30 : Nat) * 4 < big := by unfold big; decide +kernel
    have pb : p < big := by omega
    have wb : W < big := by omega
    have kp2 : Kp Pn H H2 := kp_but (but1.trans but2)
    have T2 := tabs_but hT (but1.trans but2) pen
    obtain ⟨r1, r2⟩ := red_one (a := p) (b := W) W1
    have Lw : Low (redP p W) (redW p W) := ⟨r1, r2⟩
    obtain ⟨rb1, rb2⟩ := red_lt pb wb
    have rt30 : (rText (redP p W) (redW p W)).length ≤ 61 := rText_few (k := 30) (by decide) (Nat.lt_of_le_of_lt (Nat.div_le_self _ _) p30) (Nat.lt_of_le_of_lt (Nat.div_le_self _ _) w30)
    have dp30 : (dgT p).length ≤ 30 := num_few (by decide) p30
    have dw30 : (dgT W).length ≤ 30 := num_few (by decide) w30
    have d2p : (dgT (2 * p + 2)).length ≤ 31 := num_few (by decide) (by omega)
    have d2w : (dgT (2 * W)).length ≤ 31 := num_few (by decide) (by omega)
    have rt := read_text Lw
    have n0 := near_0 (p := redP p W) (w := redW p W)
    have n1 := near_1 (p := redP p W) (w := redW p W)
    have n2 := near_s (p := redP p W) (w := redW p W)
    have n3 := near_f (p := redP p W) (w := redW p W)
    have npre : ∀ {a : Str} {c : Nat}, a.cps.toList = [c] → (c ≠ 47 ∧ (c < 48 ∨ 57 < c)) → readR (a ++ rText (redP p W) (redW p W)) = none := fun h n => near_pre h n
    have npost : ∀ {a : Str} {c : Nat}, a.cps.toList = [c] → (c ≠ 47 ∧ (c < 48 ∨ 57 < c)) → readR (rText (redP p W) (redW p W) ++ a) = none := fun h n => near_post h n
    have made0 := evp_rate (R := R) (E := E0) (σ := [some (.ref Pn), some (.int (p : Int)), some (.int (W : Int)), none, none, none, none, none]) (H := H2) (ta := tVar 1) (tb := tVar 2) (ev_var rfl) (ev_var rfl) W1 wb
    refine (?_ : tPar 3 4 _ _ _ H2)
    refine (?_ : tCons _ _ _ H2 _)
    refine made0 H2 (Ex.refl _) _ fun v3 H3 x3 ⟨a, ev, A3⟩ => ?_
    subst ev
    refine (?_ : tCons _ _ _ H3 _)
    refine (?_ : tCall spRT _ _ _ _ H3 _)
    refine ⟨_, rfl, _, rfl, p, W, rfl, pb, W1, wb, fun H4 x4 => ?_⟩
    refine ⟨_, _, rfl, ?_⟩
    refine (?_ : tSeq _ _ _ [some (.ref Pn), some (.int (p : Int)), some (.int (W : Int)), some (.ref a), some (.str (rText (redP p W) (redW p W))), none, none, none] H4)
    have x24 := x3.trans x4
    have A4 := A3.mono x4
    have pen4 := pen2.mono x24
    have T4 := tabs_ex T2 x24
    have aP : a ≠ Pn := fun z => by
      obtain ⟨dx, h⟩ := A4
      rw [z, pen4.pen] at h
      cases h
    have readE : ∀ {σ : L2.St} {G : Hp}, σ[4]? = some (some (.str (rText (redP p W) (redW p W)))) → EvP (ClX.tCMeth R (spRReadA K CX R) E0 (tC (.ref R)) (tCons (tVar 4) tNil)) σ G (IsRt R (redP p W) (redW p W)) := fun es G1 y Q1 q1 => ⟨rfl, _, es, .inl ⟨_, rfl, by omega, (fun n => by rw [rt] at n; cases n), fun p2 w2 h H' b x Ab => by
      rw [rt] at h
      cases h
      exact q1 _ H' x ⟨b, rfl, Ab⟩⟩⟩
    refine q_when (b := false) (et_is (et_or (a := false) (b := false) (et_is (et_test (ev_op (ev_strR (R := R) (E := E0) (ev_var rfl) A4 rb1 rb2) (ev_var rfl) (rv_ne rfl))) (by simp)) fun _ => et_test (ev_neRt (R := R) (E := E0) (readE rfl) (evp_var (up_isRt _ _ _) rfl ⟨a, rfl, A4⟩))) rfl) (fun z => by cases z) fun _ H5 x5 => ?_
    have up := up_nr R Pn
    have pre : ∀ {u : Str} {σ : L2.St} {G : Hp}, σ[4]? = some (some (.str (rText (redP p W) (redW p W)))) → u.length ≤ 10 → readR (u ++ rText (redP p W) (redW p W)) = none → EvP (tOp rAddS (tC (.str u)) (tVar 4)) σ G (Nr R Pn) := fun es l n => evp_str (ev_cat ev_c (ev_var es) (by omega)) (by rw [cat_len]; omega) n
    have post : ∀ {u : Str} {σ : L2.St} {G : Hp}, σ[4]? = some (some (.str (rText (redP p W) (redW p W)))) → u.length ≤ 10 → readR (rText (redP p W) (redW p W) ++ u) = none → EvP (tOp rAddS (tVar 4) (tC (.str u))) σ G (Nr R Pn) := fun es l n => evp_str (ev_cat (ev_var es) ev_c (by omega)) (by rw [cat_len]; omega) n
    have con : ∀ {u : Str} {σ : L2.St} {G : Hp}, u ∈ nearC → EvP (tC (.str u)) σ G (Nr R Pn) := fun h => evp_str ev_c (nearC_none _ h).1 (nearC_none _ h).2
    -- near texts
    refine q_asgP (P := AllL (Nr R Pn) 9) (al_lst up (all_cons up (pre rfl (by decide) n0) (all_cons up (post (u := " ") rfl (by decide) (npost (c := 32) rfl (by decide))) (all_cons up (pre (u := " ") rfl (by decide) (npre (c := 32) rfl (by decide))) (all_cons up (post rfl (by decide) n1) (all_cons up (post rfl (by decide) n2) (all_cons up (pre (u := "-") rfl (by decide) (npre (c := 45) rfl (by decide))) (all_cons up (pre rfl (by decide) n3) (all_cons up (pre (u := "+") rfl (by decide) (npre (c := 43) rfl (by decide))) (all_cons up (post (u := "\n") rfl (by decide) (npost (c := 10) rfl (by decide))) all_nil))))))))) (by decide)) fun v6 H6 x6 L6 => ?_
    refine (?_ : tSeq _ _ _ [some (.ref Pn), some (.int (p : Int)), some (.int (W : Int)), some (.ref a), some (.str (rText (redP p W) (redW p W))), some v6, none, none] H6)
    have e2p : Ev (tOp (rI0 fun i j => .int (i + j)) (tOp (rI CMul fun i j => .int (i * j)) (tC (.int 2)) (tVar 1)) (tC (.int 2))) [some (.ref Pn), some (.int (p : Int)), some (.int (W : Int)), some (.ref a), some (.str (rText (redP p W) (redW p W))), some v6, none, none] H6 (.int ((2 * p + 2 : Nat) : Int)) := ev_is (ev_op (ev_op ev_c (ev_var rfl) fun G y Q1 q1 => ⟨_, _, rfl, rfl, .inl ⟨by decide, by decide⟩, q1 G (Ex.refl _)⟩) ev_c rv_I0) (by simp)
    have e2w : Ev (tOp (rI CMul fun i j => .int (i * j)) (tC (.int 2)) (tVar 2)) [some (.ref Pn), some (.int (p : Int)), some (.int (W : Int)), some (.ref a), some (.str (rText (redP p W) (redW p W))), some v6, none, none] H6 (.int ((2 * W : Nat) : Int)) := ev_is (ev_op ev_c (ev_var rfl) fun G y Q1 q1 => ⟨_, _, rfl, rfl, .inl ⟨by decide, by decide⟩, q1 G (Ex.refl _)⟩) (by simp)
    have z1E : EvP (tOp rAddS (tOp rAddS (tCB rStrI0 (tCons (tOp (rI0 fun i j => .int (i + j)) (tOp (rI CMul fun i j => .int (i * j)) (tC (.int 2)) (tVar 1)) (tC (.int 2))) tNil)) (tC (.str "/"))) (tCB rStrI0 (tCons (tOp (rI CMul fun i j => .int (i * j)) (tC (.int 2)) (tVar 2)) tNil))) [some (.ref Pn), some (.int (p : Int)), some (.int (W : Int)), some (.ref a), some (.str (rText (redP p W) (redW p W))), some v6, none, none] H6 (Nr R Pn) :=
      evp_str (ev_cat (ev_cat (ev_strN e2p (by omega)) (ev_c (v := .str "/")) (by show _ + 1 ≤ _; omega)) (ev_strN e2w (by omega)) (by rw [cat_len]; show _ + 1 + _ ≤ _; omega)) (by rw [cat_len, cat_len]; show _ + 1 + _ ≤ _; omega) near_2
    have z2E : EvP (tOp rAddS (tCB rStrI0 (tCons (tVar 1) tNil)) (tC (.str "/0"))) [some (.ref Pn), some (.int (p : Int)), some (.int (W : Int)), some (.ref a), some (.str (rText (redP p W) (redW p W))), some v6, none, none] H6 (Nr R Pn) :=
      evp_str (ev_cat (ev_strN (ev_var rfl) pb) (ev_c (v := .str "/0")) (by show _ + 2 ≤ _; omega)) (by rw [cat_len]; show _ + 2 ≤ _; omega) near_d0
    have z3E : EvP (tOp rAddS (tC (.str "0/")) (tCB rStrI0 (tCons (tVar 2) tNil))) [some (.ref Pn), some (.int (p : Int)), some (.int (W : Int)), some (.ref a), some (.str (rText (redP p W) (redW p W))), some v6, none, none] H6 (Nr R Pn) :=
      evp_str (ev_cat (ev_c (v := .str "0/")) (ev_strN (ev_var rfl) wb) (by show 2 + _ ≤ _; omega)) (by rw [cat_len]; show 2 + _ ≤ _; omega) near_0w
    refine q_asgP (P := AllL (Nr R Pn) 22) (al_cat up (al_var up rfl L6) (al_lst up (all_cons up z1E (all_cons up z2E (all_cons up z3E (all_cons up (con (by decide)) (all_cons up (con (by decide)) (all_cons up (con (by decide)) (all_cons up (con (by decide)) (all_cons up (con (by decide)) (all_cons up (con (by decide)) (all_cons up (con (by decide)) (all_cons up (con (by decide)) (all_cons up (con (by decide)) (all_cons up (con (by decide)) all_nil))))))))))))) (by decide)) (by decide)) fun v7 H7 x7 L7 => ?_
    refine (?_ : tSeq _ _ _ [some (.ref Pn), some (.int (p : Int)), some (.int (W : Int)), some (.ref a), some (.str (rText (redP p W) (redW p W))), some v7, none, none] H7)
    have x47 := x5.trans (x6.trans x7)
    have pen7 := pen4.mono x47
    have A7 := A4.mono x47
    have fresh : ∀ {G1 : Hp} {q : Addr}, Ex H7 G1 → G1 q = none → q ≠ Pn := fun y hq => (ne_of_none (y _ _ pen7.pen) hq).symm
    have m1 : EvP (tLst (tCons (tC (.str "1")) tNil)) [some (.ref Pn), some (.int (p : Int)), some (.int (W : Int)), some (.ref a), some (.str (rText (redP p W) (redW p W))), some v7, none, none] H7 (Nr R Pn) := fun G1 y Q1 q1 => (el_lst (vs := [.str "1"]) (ea_cons ev_c ea_nil) (by show 1 ≤ 100000; decide)) G1 y Q1 fun q G2 hq y2 e => q1 _ G2 y2 (.inr (.lst (fresh y hq) e))
    have m2 : EvP (tTup (tCons (tC (.str "1/2")) tNil)) [some (.ref Pn), some (.int (p : Int)), some (.int (W : Int)), some (.ref a), some (.str (rText (redP p W) (redW p W))), some v7, none, none] H7 (Nr R Pn) := fun G1 y Q1 q1 => (eu_tup (vs := [.str "1/2"]) (ea_cons ev_c ea_nil) (by show 1 ≤ 100000; decide)) G1 y Q1 fun q G2 hq y2 e => q1 _ G2 y2 (.inr (.tup (fresh y hq) e))
    have m3 : EvP tDNewK [some (.ref Pn), some (.int (p : Int)), some (.int (W : Int)), some (.ref a), some (.str (rText (redP p W) (redW p W))), some v7, none, none] H7 (Nr R Pn) := fun G1 y Q1 q1 q hq => q1 _ _ (Ex.new hq) (.inr (.dic (fresh y hq) upd_same))
    have m4 : EvP (tVar 3) [some (.ref Pn), some (.int (p : Int)), some (.int (W : Int)), some (.ref a), some (.str (rText (redP p W) (redW p W))), some v7, none, none] H7 (Nr R Pn) := fun G1 y Q1 q1 => ⟨_, rfl, q1 _ G1 (Ex.refl _) (by
      obtain ⟨dx, h⟩ := A7.mono y
      exact .inr (.put aP h))⟩
    refine q_asgP (P := AllL (Nr R Pn) 30) (al_cat up (al_var up rfl L7) (al_lst up (all_cons up (evp_not ev_c fun _ => .non) (all_cons up (evp_not ev_c fun _ => .int 0) (all_cons up (evp_not ev_c fun _ => .int 5) (all_cons up (evp_not ev_c fun _ => .bl true) (all_cons up m1 (all_cons up m2 (all_cons up m3 (all_cons up m4 all_nil)))))))) (by decide)) (by decide)) fun v8 H8 x8 ⟨l8, xs8, ev, hl8, n8, a8⟩ => ?_
    subst ev
    have x28 := x24.trans (x47.trans x8)
    have pen8 := pen2.mono x28
    have T8 := tabs_ex T2 x28
    have l8P : l8 ≠ Pn := fun z => by
      rw [z, pen8.pen] at hl8
      injection hl8 with hl8
      injection hl8 with hl8
      rw [← hl8] at n8
      cases n8
    refine (?_ : tSeq _ _ _ [some (.ref Pn), some (.int (p : Int)), some (.int (W : Int)), some (.ref a), some (.str (rText (redP p W) (redW p W))), some (.ref l8), none, none] H8)
    refine (?_ : tCall spPick _ _ _ _ H8 _)
    refine ⟨_, rfl, _, rfl, Pn, L, l8, ns, xs8, s2, g2, rfl, (fun z => by rw [z] at n8; cases n8), by omega, hl8, l8P, pen8, by omega, fun v s9 g9 H9 hv hs9 but9 pen9 => ?_⟩
    have nr9 : Nr R Pn v H9 := nr_but but9 (a8 v hv)
    have T9 := tabs_but T8 but9 pen8
    have kp9 : Kp Pn H H9 := (kp2.trans (kp_ext (exT x28))).trans (kp_but but9)
    dsimp only [gName, List.set_cons_succ, List.set_cons_zero]
    -- heard
    refine q_asgR ?_
    refine (?_ : tCons _ _ _ H9 _)
    refine (?_ : LamX.tLam T (THeardP CX) _ _ H9 _)
    refine hears_bad (n := 0) T9 (fun G y E' R' r => ⟨rfl, _, rfl, askR_nr A2.CR.toClsO A2.kS (nr_ext y nr9) r⟩) fun p1 H10 x10 T10 e10 => ?_
    refine ⟨by show 1 ≤ sizeLine; decide, fun l7 hl7 nsys => ?_⟩
    have kp10 := kp9.trans (kp_ext x10)
    have pen10 := pen_ext x10 pen9
    have x11 : Ex H10 (upd H10 l7 (.lst [V.ref p1])) := Ex.new hl7
    have e11 : upd H10 l7 (.lst [V.ref p1]) l7 = some (.lst [V.ref p1]) := upd_same
    have q11 := x11 _ _ e10
    have T11 := tabs_ex T10 x11
    generalize upd H10 l7 (.lst [V.ref p1]) = H11 at x11 e11 q11 T11 ⊢
    dsimp only [gName, List.set_cons_succ, List.set_cons_zero]
    refine ⟨_, rfl, .inl ⟨rfl, _, sq_of e11⟩, ?_⟩
    refine (?_ : tCons _ _ _ H11 _)
    refine (?_ : LamX.tLam T (THeardP CX) _ _ H11 _)
    refine hears_bad (n := 0) T11 (fun G y E' R' r => ⟨rfl, rfl, askR_bad (t := "4/2") (by decide) near_42 r⟩) fun p2 H12 x12 T12 e12 => ?_
    have e12l := ext_lst x12 e11
    refine ⟨l7, [.ref p1], .ref p2, rfl, rfl, e12l, by show 1 < sizeLine; decide, ?_⟩
    have lp1 : p1 ≠ l7 := ne_of_none e10 hl7
    have lp2 : p2 ≠ l7 := fun z => by
      rw [z, e12l] at e12
      cases e12
    have q12 : H12 p1 = some (.tup [.int 0, .int 0]) := x12 _ _ q11 fun ps z => by cases z
    have kp13 : Kp Pn H (upd H12 l7 (.lst ([V.ref p1] ++ [V.ref p2]))) := fun b o nb hb nt => by
      have h10 := kp10 b o nb hb nt
      rw [upd_ne (ne_of_none h10 hl7)]
      exact x12 _ _ (x11 _ _ h10) nt
    have T13 : LamX.Tabs T (upd H12 l7 (.lst ([V.ref p1] ++ [V.ref p2]))) := tabs_upd T12 e12l
    have pen11 := pen10.mono x11
    have pen12 := pen_ext x12 pen11
    have l7P : Pn ≠ l7 := ne_of_none pen10.pen hl7
    have l7L : L ≠ l7 := ne_of_none pen10.cells hl7
    have pen13 : Pen (upd H12 l7 (.lst ([V.ref p1] ++ [V.ref p2]))) Pn L ns s9 g9 := ⟨by rw [upd_ne l7P]; exact pen12.pen, by rw [upd_ne l7L]; exact pen12.cells, pen12.ne, pen12.few, pen12.left⟩
    have r13 : upd H12 l7 (.lst ([V.ref p1] ++ [V.ref p2])) p1 = some (.tup [.int 0, .int 0]) := by
      rw [upd_ne lp1]
      exact q12
    have r14 : upd H12 l7 (.lst ([V.ref p1] ++ [V.ref p2])) p2 = some (.tup [.int 0, .int 0]) := by
      rw [upd_ne lp2]
      exact e12
    have r15 : upd H12 l7 (.lst ([V.ref p1] ++ [V.ref p2])) l7 = some (.lst [.ref p1, .ref p2]) := upd_same
    generalize upd H12 l7 (.lst ([V.ref p1] ++ [V.ref p2])) = H13 at kp13 T13 pen13 r13 r14 r15 ⊢
    have rep : Ev (tCB (rReprA K) (tCons (tVar 7) tNil)) [some (.ref Pn), some (.int (p : Int)), some (.int (W : Int)), some (.ref a), some (.str (rText (redP p W) (redW p W))), some (.ref l8), some v, some (.ref l7)] H13 (.str (PyData.list [.tuple [.int 0, .int 0], .tuple [.int 0, .int 0]]).shown) := ev_reprA (ev_var rfl) (.lst (sq_of r15) nsys (.cons (.tup (st_of r13) (.cons (.int 0) (.cons (.int 0) .nil))) (.cons (.tup (st_of r14) (.cons (.int 0) (.cons (.int 0) .nil))) .nil))) shows_two
    refine s_ret (v := .bl true) (ev_is (ev_op rep ev_c (rv_eq rfl)) (congrArg V.bl (by rw [shown_two]; exact decide_eq_true rfl))) fun H14 x14 => ?_
    exact k s9 g9 H14 (by omega) (kp13.trans (kp_ext (exT x14))) (tabs_ex T13 x14) (pen13.mono x14)
end
end K02

set_option Elab.async false
set_option linter.all false
set_option maxRecDepth 100000
set_option maxHeartbeats 8000000
/-! The law of the texts of prices and rates -/
namespace K02
open PySem PySem.Spec PyProof.Rows L2 Evl KU
abbrev sLaw : Stmt := topR 46
abbrev nLaw : List Str := ["_law_script", "_law_pen_here", "_law_turn", "_law_some", "_law_odd", "_law_text_so"]
theorem scLaw : FnScope nLaw ["_law_script"] (defScope sLaw) := ⟨rfl, rfl, rfl, by decide +kernel, rfl, by decide +kernel, by decide +kernel⟩
def spLawT (K : PySem.W.Frag) (T : List (Addr × Str)) : Sp := fun vs H Q _ => ∃ (a : Addr) (ns : List Int), vs = [.ref a] ∧ SqL K H a (vints ns) ∧ ns.length ≤ 63 ∧ LamX.Tabs T H ∧ ∀ H', Q (.bl true) H'
def some1 : List Str := [("" : Str), ("01" : Str), ("01 :" : Str), ("01 : 1" : Str), ("01 : 1 1" : Str), ("01 : 1 1 /" : Str), ("01 : 1 1 / 1" : Str), ("01 : 1 1 / 1 1 1" : Str), ("10 : 1 1 / 1 1" : Str), ("01 : 0 1 / 1 1" : Str)]
def some2 : List Str := [("01 : 1 10 / 1 1" : Str), ("01 : 1 1 1 / 1" : Str), ("01  : 1 1 / 1 1" : Str), ("01 : 9 9 / 9 9" : Str)]
def some3 : List Str := [("01 : --1 1 / 1 1" : Str), ("01 : 1 1 / 1 --1" : Str)]
theorem some_ok : ∀ t ∈ some1 ++ some2 ++ some3, t.length ≤ 400 ∧ PlainS t := by
  unfold PlainS
  decide +kernel
def t13 : Str := "01 : 2 1 / 1 3"
theorem t13_right : RightW (Txt.split t13 " ") "01" := by
  refine ⟨by decide +kernel, by decide +kernel, fun j h1 h2 => ?_, by decide +kernel⟩
  have l : (("01" : Str)).length = 2 := rfl
  rw [l] at h2 ⊢
  have e : j = 1 ∨ j = 2 ∨ j = 3 ∨ j = 4 ∨ j = 5 ∨ j = 6 := by omega
  rcases e with rfl | rfl | rfl | rfl | rfl | rfl <;> decide +kernel
theorem t13_p : pWF "01" (Txt.split t13 " ") = kvF "01" (numOf (some [(("0" : Str), 2)])) := by decide +kernel
theorem t13_w : wWF "01" (Txt.split t13 " ") = kvF "01" (numOf (some [(("1" : Str), 3)])) := by decide +kernel
theorem t13_keys (f : Str → Int) : ((kvF "01" f).map (·.1)).Nodup := by
  rw [F_keys]
  decide +kernel
theorem good0 : GoodT "01" (some [(("0" : Str), 2)]) := ⟨by decide, by decide +kernel, by decide +kernel⟩
theorem good1 : GoodT "01" (some [(("1" : Str), 3)]) := ⟨by decide, by decide +kernel, by decide +kernel⟩
theorem alpha01 : isAlphaB ("01" : Str) = true := by decide +kernel
theorem low65 : Low 6 5 := ⟨by decide, by decide⟩
theorem r65 : rText 6 5 = "6/5" := by decide +kernel
theorem read65 : readR "6/5" = some (6, 5) := by
  have := read_text low65
  rw [r65] at this
  exact this
theorem r1210 : rText (redP 12 10) (redW 12 10) = "6/5" := by decide +kernel
theorem r07 : rText (redP 0 7) (redW 0 7) = "0" := by decide +kernel
theorem r84 : rText (redP 8 4) (redW 8 4) = "2" := by decide +kernel
theorem shows_one : shows (.tuple [.int 0, .int 0]) = true := by decide +kernel
theorem shown_one : (PyData.tuple [.int 0, .int 0]).shown = "(0, 0)" := by decide +kernel
section
variable {K : PySem.W.Frag} {σ : L2.St} {H : Hp} {te ta tb : TE} {C R CX : Addr} {E : XK} {T : List (Addr × Str)}
theorem ea_some1 : EvA (tCons (tC (.str "")) (tCons (tC (.str "01")) (tCons (tC (.str "01 :")) (tCons (tC (.str "01 : 1")) (tCons (tC (.str "01 : 1 1")) (tCons (tC (.str "01 : 1 1 /")) (tCons (tC (.str "01 : 1 1 / 1")) (tCons (tC (.str "01 : 1 1 / 1 1 1")) (tCons (tC (.str "10 : 1 1 / 1 1")) (tCons (tC (.str "01 : 0 1 / 1 1")) tNil)))))))))) σ H (some1.map V.str) := ea_cons ev_c (ea_cons ev_c (ea_cons ev_c (ea_cons ev_c (ea_cons ev_c (ea_cons ev_c (ea_cons ev_c (ea_cons ev_c (ea_cons ev_c (ea_cons ev_c ea_nil)))))))))
theorem ea_some2 : EvA (tCons (tC (.str "01 : 1 10 / 1 1")) (tCons (tC (.str "01 : 1 1 1 / 1")) (tCons (tC (.str "01  : 1 1 / 1 1")) (tCons (tC (.str "01 : 9 9 / 9 9")) tNil)))) σ H (some2.map V.str) := ea_cons ev_c (ea_cons ev_c (ea_cons ev_c (ea_cons ev_c ea_nil)))
theorem ea_some3 : EvA (tCons (tC (.str "01 : --1 1 / 1 1")) (tCons (tC (.str "01 : 1 1 / 1 --1")) tNil)) σ H (some3.map V.str) := ea_cons ev_c (ea_cons ev_c ea_nil)
/-- Prices('01') -/
theorem evp_bare (h1 : Ev te σ H (.str "01")) : EvP (tMake C (spPInit C) [.non, .non] E (tCons te tNil)) σ H (IsPr C "01" (kvF "01" (numOf none)) (kvF "01" (numOf none))) := fun H1 x1 Q q => by
  refine (?_ : tCons _ _ _ H1 _)
  refine (ea_cons h1 ea_nil) H1 x1 _ fun H2 x2 => ?_
  intro x dx hx hdx ne
  have fr : Ex H2 (upd (upd H2 dx (.own x)) x (.ins C dx [])) := fun b o hb => by
    rw [upd_ne (ne_of_none hb hx), upd_ne (ne_of_none hb hdx)]
    exact hb
  refine ⟨x, dx, "01", .non, .non, none, none, rfl, upd_same, alpha01, .non, .non, trivial, trivial, fun H3 b3 A => ⟨rfl, q _ H3 (x2.trans ?_) ⟨x, rfl, A⟩⟩⟩
  intro b o hb
  exact b3 _ _ (ne_of_none hb hx) (fr _ _ hb)
/-- {k: n} -/
theorem evp_one {k : Str} {n : Int} : EvP (tDisp [(tC (.str k), tC (.int n))]) σ H (IsN [(k, n)]) := fun H1 x1 Q q p hp => by
  refine ⟨upd_same, kvN [(k, n)], rfl, by show 1 ≤ 15; decide, ?_⟩
  refine q _ _ (fun b o hb => ?_) ⟨p, rfl, upd_same⟩
  rw [upd_ne (ne_of_none hb hp), upd_ne (ne_of_none hb hp)]
  exact hb
/-- Prices('01', {'0': 2}, {'1': 3}) -/
theorem t_consP {Pz : V → Hp → Prop} {ta : TA} {Rz : List V → Hp → Prop} (h : EvP te σ H Pz) (k : ∀ v H2, Ex H H2 → Pz v H2 → ta σ H2 fun xs H3 => Rz (v :: xs) H3) : tCons te ta σ H Rz := h H (Ex.refl _) _ k
theorem t_nil {Rz : List V → Hp → Prop} (h : Rz [] H) : tNil σ H Rz := h
theorem evp_made2 : EvP (tMake C (spPInit C) [] E (tCons (tC (.str "01")) (tCons (tDisp [(tC (.str "0"), tC (.int 2))]) (tCons (tDisp [(tC (.str "1"), tC (.int 3))]) tNil)))) σ H (IsPr C "01" (kvF "01" (numOf (some [(("0" : Str), 2)]))) (kvF "01" (numOf (some [(("1" : Str), 3)])))) := fun H1 x1 Q q => by
  refine (?_ : tCons _ _ _ H1 _)
  refine t_consP (evp_of ev_c) fun v0 H2 x2 e => ?_
  subst e
  refine t_consP (evp_one (k := "0") (n := 2)) fun v H3 x3 ⟨d0, e0, h0⟩ => ?_
  subst e0
  refine t_consP (evp_one (k := "1") (n := 3)) fun v H4 x4 ⟨d1, e1, h1⟩ => ?_
  subst e1
  refine t_nil ?_
  have h0 := x4 _ _ h0
  have x14 := x2.trans (x3.trans x4)
  intro x dx hx hdx ne
  have fr : Ex H4 (upd (upd H4 dx (.own x)) x (.ins C dx [])) := fun b o hb => by
    rw [upd_ne (ne_of_none hb hx), upd_ne (ne_of_none hb hdx)]
    exact hb
  refine ⟨x, dx, "01", .ref d0, .ref d1, some [(("0" : Str), 2)], some [(("1" : Str), 3)], rfl, upd_same, alpha01, .dic (fr _ _ h0), .dic (fr _ _ h1), good0, good1, fun H5 b5 A => ⟨rfl, q _ H5 (x14.trans ?_) ⟨x, rfl, A⟩⟩⟩
  intro b o hb
  exact b5 _ _ (ne_of_none hb hx) (fr _ _ hb)
theorem evp_read13 : EvP (tCMethKX C 1 (spPReadA K CX C) E (fun zs => zs) (tC (.ref C)) (tCons (tC (.str t13)) tNil)) σ H (IsPr C "01" (kvF "01" (numOf (some [(("0" : Str), 2)]))) (kvF "01" (numOf (some [(("1" : Str), 3)])))) := fun H1 x1 Q q => by
  refine ⟨rfl, rfl, ?_⟩
  refine ask_ok (by decide) t13_right fun v H2 x2 h => ?_
  rw [t13_p, t13_w] at h
  exact q v H2 x2 h
theorem evp_read65 : EvP (ClX.tCMeth R (spRReadA K CX R) E (tC (.ref R)) (tCons (tC (.str "6/5")) tNil)) σ H (IsRt R 6 5) := fun H1 x1 Q q => by
  refine ⟨rfl, ?_⟩
  refine .inl ⟨"6/5", rfl, by decide, (fun n => by rw [read65] at n; cases n), fun p w h H' a x A => ?_⟩
  rw [read65] at h
  cases h
  exact q _ H' x ⟨a, rfl, A⟩
theorem ev_strRP {p w : Nat} (hp : p < big) (hw : w < big) (h : EvP te σ H (IsRt R p w)) : Ev (tCB (rStrI R (spRStr R) E) (tCons te tNil)) σ H (.str (rText p w)) := fun H1 x1 Q q => by
  refine (?_ : tCons _ _ _ H1 _)
  refine h H1 x1 _ fun v H2 x2 ⟨a, ev, A⟩ => ?_
  subst ev
  obtain ⟨dx, h1⟩ := id A
  exact ⟨a, dx, _, rfl, h1, a, p, w, rfl, A, hp, hw, fun H3 x3 => ⟨_, rfl, q H3 (x2.trans x3)⟩⟩
/-- one of these, drawn -/
theorem pick_of {i0 : Nat} {R : V → Hp → Prop} (up : Up R) {P L : Addr} {ns : List Int} {s : Nat} {g : Int} (bt : ∀ {v : V} {G G' : Hp} {s' : Nat} {g' : Int}, But P G G' → Pen G P L ns s' g' → R v G → R v G') {n : Nat} {ta : TA} {Q : VK}
    (h0 : σ[i0]? = some (some (.ref P))) (h : EvPA ta σ H (fun vs H' => vs.length = n ∧ ∀ v ∈ vs, R v H')) (n0 : 0 < n) (n1 : n ≤ 100) (pen : Pen H P L ns s g) (hs : s ≤ 100000)
    (q : ∀ v s2 g2 G2, R v G2 → s2 ≤ s + 1 → But P H G2 → Pen G2 P L ns s2 g2 → Q v G2) : tCall spPick [] E0 (tCons (tVar i0) (tCons (tLst ta) tNil)) σ H Q := by
  refine ⟨_, h0, ?_⟩
  refine (?_ : tCons _ _ _ H _)
  refine h H (Ex.refl _) _ fun vs G1 x1 ⟨vl, each⟩ => ⟨by rw [vl, sizeLine_eq]; omega, fun l2 hl2 => ?_⟩
  have y2 : Ex G1 (upd G1 l2 (.lst vs)) := Ex.new hl2
  have pn2 := (pen.mono x1).mono y2
  refine ⟨P, L, l2, ns, vs, s, g, rfl, fun z => by rw [z] at vl; exact absurd vl (by show ¬ 0 = n; omega), by omega, upd_same, (ne_of_none (pen.mono x1).pen hl2).symm, pn2, hs, fun v s2 g2 G3 hv hs2 but pen3 => ?_⟩
  exact q v s2 g2 G3 (bt but pn2 (up _ _ _ y2 (each v hv))) hs2 (((But.of_ex x1).trans (But.of_ex y2)).trans but) pen3
/-- [text for text in some if not right(text)] -/
theorem run_none {a : Addr} {us : List Str} {Q : VK} {i j : Nat} (hi : σ[i]? = some (some (.ref a))) (ha : H a = some (.lst (us.map V.str))) (few : us.length ≤ 1000) (hw : ∀ x : V, wipe ((wipe σ [j]).set j (some x)) [j] = wipe σ [j]) (hj : ∀ x : V, ((wipe σ [j]).set j (some x))[j]? = some (some x))
    (each : ∀ t ∈ us, t.length ≤ 400 ∧ PlainS t) (hT : LamX.Tabs T H) (k : ∀ D H', ExT H H' → LamX.Tabs T H' → H' D = some (.lst []) → Q (.ref D) H') :
    tLc (iList K (tVar i)) (gName j) (tNot (tB (tCall (spRight T) [] E0 (tCons (tVar j) tNil)))) (tVar j) [j] σ H Q := by
  refine ⟨_, hi, a, rfl, ⟨_, sq_of ha⟩, fun D hD => ?_⟩
  refine lc_list (xs := us.map V.str) (Pv := fun n H' => ExT H H' ∧ LamX.Tabs T H' ∧ H' D = some (.lst [])) ⟨exT (Ex.new hD), tabs_ex hT (Ex.new hD), upd_same⟩ (fun n H' _ p => sq_of (ext_lst p.1 ha)) (fun n x H' hn p => ?_) fun H' p => k D H' p.1 p.2.1 p.2.2
  rw [List.getElem?_map] at hn
  obtain ⟨t, ht, rfl⟩ := Option.map_eq_some_iff.mp hn
  obtain ⟨l, pl⟩ := each t (List.mem_of_getElem? ht)
  refine ⟨hw _, ?_⟩
  refine right_run (te := tVar j) (σ := (wipe σ [j]).set j (some (.str t))) (ev_var (hj _)) l pl p.2.1 fun H2 x2 T2 => ?_
  rw [if_neg (by decide)]
  exact ⟨p.1.trans x2, T2, ext_lst x2 p.2.2⟩
end
section
variable {P : Program} {w : World} {K : PySem.W.Frag} {mg : Str → Option Value} {base : Heap} {C CF CX fR fH mc fSt fI fEq fRt fBt fD fP R fR2 mc2 fSt2 fEq2 fI2 fRT fPen fPR fRR : Addr} {mcv mcv2 : Value} {fdR fdH fdI fdRt fdBt fdD fdP fdR2 fdI2 fdRT fdPen fdPR fdRR : FuncData} {T : List (Addr × Str)}
theorem ok_law18 {f : Addr} {fd : FuncData} {c Pt : Addr} {ds : List Value} (F : Fun K "law" "law" sLaw f fd) (S : AsksP P w K mg base C CF CX fR fH mc fSt mcv fdR fdH) (U : UsesP P w K mg base C fI fEq fRt fBt fD fP fdI fdRt fdBt fdD fdP T) (A2 : AsksR P w K mg base R CX fR2 mc2 fSt2 fEq2 fI2 fRT mcv2 fdR2 fdI2 fdRT)
    (kS : PySem.W.kitOne K (.ref C) (.type "str") = some false) (bI2 : Binds K fdI nPInit ds) (dI2 : Vals [V.non, V.non] ds)
    (gPen : mg "_law_pen" = some (.ref fPen)) (kPen : PySem.W.keepIn K (.ref fPen) = true) (GPen : FnOk P w K mg base CX0 1 fPen fdPen ["_law_script"] (spPen K)) (bPen : Binds K fdPen ["_law_script"] [])
    (gPR : mg "_law_prices_right" = some (.ref fPR)) (kPR : PySem.W.keepIn K (.ref fPR) = true) (GPR : FnG P w K mg base CX0 12 fPR fdPR ["_law_pen_here"] (spPR T)) (bPR : Binds K fdPR ["_law_pen_here"] [])
    (gRR : mg "_law_rates_right" = some (.ref fRR)) (kRR : PySem.W.keepIn K (.ref fRR) = true) (GRR : FnG P w K mg base CX0 9 fRR fdRR ["_law_pen_here"] (spRR T)) (bRR : Binds K fdRR ["_law_pen_here"] [])
    (TB : LamX.TabB base mg c Pt) (hc : fd.code = .ref c) (hm : (Pt, ("law.<locals>.<lambda>" : Str)) ∈ T) (hu : ∀ p ∈ T, p.1 = Pt → p.2 = ("law.<locals>.<lambda>" : Str)) : FnG P w K mg base CX0 14 f fd ["_law_script"] (spLawT K T) := by
  have FRP : FnR P w K mg base (L2.CX P w) 7 fR (spPReadA K CX C) := fnr_of S.GR S.bR
  have FRR : FnR P w K mg base (L2.CX P w) 6 fR2 (spRReadA K CX R) := fnr_of A2.GR A2.bR
  refine FnG.bodyC F scLaw (fun vs H Q E h => ?_) (fun A outer s H vs Q E hgd hr h => ?_)
  · obtain ⟨_, _, rfl, _⟩ := h
    rfl
  · obtain ⟨a, ns, rfl, hS, hl, hT, k⟩ := h
    have nd := scLaw.nd
    obtain ⟨oc, od, kV, doc, pm, an, cdv, ct, osl, rfl, lk, hcd⟩ := S.FH
    have hg2 : (cxOf CX0 P w K mg base nLaw "law" (defScope sLaw) f fd.code A outer s H E).nox.A.guards = some [] := hgd
    have hu2 : (cxOf CX0 P w K mg base nLaw "law" (defScope sLaw) f fd.code A outer s H E).nox.A.units + 64 < cLine := hr.units
    refine ⟨_, pss_cons (ps_set (i := 1) nd rfl (.inl rfl) (pe_call GPen (hr.mono (by decide)) (by rfl) gPen kPen bPen .nil pass0 (pa_cons (pv 0) pa_nil)))
      (pss_cons (ps_for PassesOwn.never rfl (pi_range1 rfl S.T.range (pa_cons pe_int pa_nil)) (pg_name (i := 2) nd rfl (.inl rfl))
        (pss_cons (ps_if (PW.pt (pw_or (pt_not (pt_val (pe_callG GPR (by exact hg2) (hr.mono (by decide)) (by rfl) gPR kPR bPR pass0 (pa_cons (pv 1) pa_nil)))) (pw_or (pt_not (pt_val (pe_callG GRR (by exact hg2) (hr.mono (by decide)) (by rfl) gRR kRR bRR pass0 (pa_cons (pv 1) pa_nil)))) (pw_or1 (pt_not (pt_val (pe_callG GRR (by exact hg2) (hr.mono (by decide)) (by rfl) gRR kRR bRR pass0 (pa_cons (pv 1) pa_nil)))))))) (pss_one (ps_ret pe_bl)) pss_nil)
        (pss_cons (ps_set (i := 4) nd rfl (.inr rfl) (pe_call U.GP (hr.mono (by decide)) (by rfl) U.DT.gPick U.DT.kPick U.bP .nil pass0 (pa_cons (pv 1) (pa_cons (pe_lst (pa_cons pe_non (pa_cons pe_int (pa_cons pe_bl (pa_cons (pe_lst (pa_cons pe_str pa_nil)) (pa_cons (pe_tup (pa_cons pe_str pa_nil)) (pa_cons pe_dnewK (pa_cons (pe_make U.M U.FI (hr.mono (by decide)) (by rfl) S.CP.gC bI2 dI2 pass0 (pa_cons pe_str pa_nil)) pa_nil)))))))) pa_nil))))
        (pss_one (ps_if (pt_cmpR op_ne (pe_callB (r := rReprA K) (id := "repr") (by exact call_reprA hg2 hu2) (by rfl) S.T.repr (by decide +kernel) (pa_cons (LamX.pe_lamcall (k := 7) (T := T) (t := fun E => ClX.tCMeth C (spPReadA K CX C) E (tC (.ref C)) (tCons (tVar 4) tNil)) (by rfl) S.gH S.kH lk hcd S.bH scHeard rfl (.inl rfl) (heard_givesP (k := 8) (hr.mono (by decide)) S.E S.T.isinstance) TB hc hm hu (hr.mono (by decide)) (LamX.lamS_by (by show LamX.lamSB (defScope sLaw) _ = true; decide +kernel)) rfl (fun _ _ _ _ _ => rfl)
          (fun A outer s H E f c' hr2 => ClX.pe_cmeth (pe_glob (v := .ref C) (by rfl) S.CP.gC rfl) S.cr S.cm FRP hr2 (passes_call (takes_of rfl rfl rfl rfl) fun _ _ _ _ h => h) (pa_cons (pv 4) pa_nil))) pa_nil)) pe_str (nomark _)) (pss_one (ps_ret pe_bl)) pss_nil)))))
      (pss_cons (ps_set (i := 3) nd rfl (.inl rfl) (pe_lst (pa_cons pe_str (pa_cons pe_str (pa_cons pe_str (pa_cons pe_str (pa_cons pe_str (pa_cons pe_str (pa_cons pe_str (pa_cons pe_str (pa_cons pe_str (pa_cons pe_str pa_nil))))))))))))
      (pss_cons (ps_set (i := 3) nd rfl (.inl rfl) (pe_op op_cat (pv 3) (pe_lst (pa_cons pe_str (pa_cons pe_str (pa_cons pe_str (pa_cons pe_str pa_nil)))))))
      (pss_cons (ps_set (i := 3) nd rfl (.inl rfl) (pe_op op_cat (pv 3) (pe_lst (pa_cons pe_str (pa_cons pe_str pa_nil)))))
      (pss_cons (ps_if (PW.pt (pw_or (pt_cmpR (r := rNeD K) (by exact op_neD hr.units) (pe_lc (own := [("_law_text_so", 5)]) (wi := iList K (tVar 3)) (g := gName 5) (tt := tNot (tB (tCall (spRight T) [] E0 (tCons (tVar 5) tNil)))) (te := tVar 5) rfl nd (by exact pi_list (pv 3)) (by refine blkOk_by (own := [("_law_text_so", 5)]) (N := nLaw) (sc := defScope sLaw) ?_; decide +kernel)
          (fun _ _ _ _ _ => pg_name (i := 5) nd rfl (Or.inl rfl)) (fun _ _ _ _ _ => pts_one (pt_not (pt_val (pe_callG U.GRt (by exact hg2) (hr.mono (by decide)) (by rfl) U.gRt U.kRt U.bRt pass0 (pa_cons (pv 5) pa_nil))))) (fun _ _ _ _ _ => pv 5)) (pe_lst pa_nil) (nomark _))
          (pw_or1 (pt_cmpR (op_neI (C := C) U.hNe U.hEq U.iEq S.CP.cM U.GEq (hr.mono (by decide)) pass0) (pe_cmethKX (ks := ["text"]) (gv := fun zs => zs) (gu := fun ws => ws) (pe_glob (v := .ref C) (by rfl) S.CP.gC rfl) S.cr S.cm S.GR (hr.mono (by decide)) passE0 (pk_cons pe_str pk_nil) S.bRK (fun r _ => r)) (pe_make U.M U.FI (hr.mono (by decide)) (by rfl) S.CP.gC U.bI .nil pass0 (pa_cons pe_str (pa_cons (pe_disp (pps_cons pe_str pe_int pps_nil) rfl rfl (by simp) (by decide)) (pa_cons (pe_disp (pps_cons pe_str pe_int pps_nil) rfl rfl (by simp) (by decide)) pa_nil)))) (nomark _))))) (pss_one (ps_ret pe_bl)) pss_nil)
      (pss_one (ps_ret (pe_cmpR (r := rEqD K) (by exact op_eqD hr.units) (pe_lst (pa_cons (pe_callTy (call_strI (C := R) A2.hSt A2.iSt A2.GSt (hr.mono (by decide)) pass0) (by rfl) S.T.str (by decide +kernel) (pa_cons (pe_make A2.M A2.FI (hr.mono (by decide)) (by rfl) A2.CR.gR A2.bI .nil pass0 (pa_cons pe_int (pa_cons pe_int pa_nil))) pa_nil)) (pa_cons (pe_callTy (call_strI (C := R) A2.hSt A2.iSt A2.GSt (hr.mono (by decide)) pass0) (by rfl) S.T.str (by decide +kernel) (pa_cons (pe_make A2.M A2.FI (hr.mono (by decide)) (by rfl) A2.CR.gR A2.bI .nil pass0 (pa_cons pe_int (pa_cons pe_int pa_nil))) pa_nil)) (pa_cons (pe_callTy (call_strI (C := R) A2.hSt A2.iSt A2.GSt (hr.mono (by decide)) pass0) (by rfl) S.T.str (by decide +kernel) (pa_cons (pe_make A2.M A2.FI (hr.mono (by decide)) (by rfl) A2.CR.gR A2.bI .nil pass0 (pa_cons pe_int (pa_cons pe_int pa_nil))) pa_nil)) (pa_cons (pe_callTy (call_strI (C := R) A2.hSt A2.iSt A2.GSt (hr.mono (by decide)) pass0) (by rfl) S.T.str (by decide +kernel) (pa_cons (ClX.pe_cmeth (pe_glob (v := .ref R) (by rfl) A2.CR.gR rfl) A2.cr A2.cm FRR (hr.mono (by decide)) passE0 (pa_cons pe_str pa_nil)) pa_nil)) pa_nil)))))
          (pe_lst (pa_cons pe_str (pa_cons pe_str (pa_cons pe_str (pa_cons pe_str pa_nil))))) (nomark _))))))))), ?_⟩
    refine ⟨_, rfl, a, ns, rfl, hS, hl, fun Pn L ms H0 hP0 x0 pen0 => ?_⟩
    refine q_forR1 (n := 5) (ea_cons ev_c ea_nil) ⟨by decide, by decide⟩
      (fun i σ' H' => ∃ (y2 y4 : Option V) (s : Nat) (g : Int), σ' = [some (.ref a), some (.ref Pn), y2, none, y4, none] ∧ LamX.Tabs T H' ∧ Pen H' Pn L ms s g ∧ s ≤ 90 * i)
      (fun H1 x1 => ⟨_, _, 0, 0, rfl, tabs_ex hT (x0.trans x1), pen0.mono x1, Nat.le_refl _⟩) (fun i σ' H' hi p => ?_) (fun σ' H' p => ?_)
    · obtain ⟨y2, y4, s1, g1, rfl, T1, pen1, hs1⟩ := p
      have hi : i < 5 := by omega
      dsimp only [List.set_cons_succ, List.set_cons_zero]
      refine (?_ : tOr _ _ _ H' _)
      refine (?_ : tCall (spPR T) _ _ _ _ H' _)
      refine ⟨_, rfl, Pn, L, ms, s1, g1, rfl, T1, pen1, by omega, fun s2 g2 H2 hs2 kp2 T2 pen2 => ⟨true, rfl, ?_⟩⟩
      show if (!true) = true then _ else _
      rw [if_neg (by decide)]
      refine (?_ : tOr _ _ _ H2 _)
      refine (?_ : tCall (spRR T) _ _ _ _ H2 _)
      refine ⟨_, rfl, Pn, L, ms, s2, g2, rfl, T2, pen2, by omega, fun s3 g3 H3 hs3 kp3 T3 pen3 => ⟨true, rfl, ?_⟩⟩
      show if (!true) = true then _ else _
      rw [if_neg (by decide)]
      refine (?_ : tCall (spRR T) _ _ _ _ H3 _)
      refine ⟨_, rfl, Pn, L, ms, s3, g3, rfl, T3, pen3, by omega, fun s4 g4 H4 hs4 kp4 T4 pen4 => ⟨true, rfl, ?_⟩⟩
      show if (!true) = true then _ else _
      rw [if_neg (by decide)]
      -- no text
      have nv : ∀ {te : TE} {v' : V}, Ev te [some (.ref a), some (.ref Pn), some (.int (i : Int)), none, y4, none] H4 v' → (∀ G, NoT C Pn v' G) → EvP te [some (.ref a), some (.ref Pn), some (.int (i : Int)), none, y4, none] H4 (NoT C Pn) := fun h n G1 y Q1 q1 => h G1 y _ fun G2 y2 => q1 _ G2 y2 (n G2)
      have fresh : ∀ {G1 : Hp} {q : Addr}, Ex H4 G1 → G1 q = none → q ≠ Pn := fun y hq => (ne_of_none (y _ _ pen4.pen) hq).symm
      have up := up_noT C Pn
      dsimp only [tNext]
      refine q_asgR ?_
      refine pick_of (R := NoT C Pn) (i0 := 1) up (n := 7) (fun b _ h => noT_but b h) rfl (all_cons up (nv ev_c fun _ => .non) (all_cons up (nv ev_c fun _ => .int 0) (all_cons up (nv ev_c fun _ => .bl true)
          (all_cons up (fun G1 y Q1 q1 => (el_lst (vs := [.str "01"]) (ea_cons ev_c ea_nil) (by show 1 ≤ 100000; decide)) G1 y Q1 fun q G2 hq y2 e => q1 _ G2 y2 (.lst (fresh y hq) e))
          (all_cons up (fun G1 y Q1 q1 => (eu_tup (vs := [.str "01 : 1 1 / 1 1"]) (ea_cons ev_c ea_nil) (by show 1 ≤ 100000; decide)) G1 y Q1 fun q G2 hq y2 e => q1 _ G2 y2 (.tup (fresh y hq) e))
          (all_cons up (fun G1 y Q1 q1 q hq => q1 _ _ (Ex.new hq) (.dic (fresh y hq) upd_same))
          (all_cons up (fun G1 y Q1 q1 => (evp_bare (C := C) (E := E0) (te := tC (.str "01")) ev_c) G1 y _ fun v G2 y2 ⟨q, e, dx, A1, B1, h, _⟩ => by
            subst e
            exact q1 _ G2 y2 (.put (fun z => by
              have := y2 _ _ (y _ _ pen4.pen)
              rw [← z, h] at this
              cases this) h)) all_nil))))))) (by decide) (by decide) pen4 (by omega) fun v s5 g5 H5 nt hs5 but5 pen5 => ?_
      have T5 := tabs_but T4 but5 pen4
      dsimp only [gName, List.set_cons_succ, List.set_cons_zero]
      refine (?_ : tOp rNe _ _ _ H5 _)
      refine (?_ : tCB _ _ _ H5 _)
      refine (?_ : tCons _ _ _ H5 _)
      refine (?_ : LamX.tLam T (THeardP CX) _ _ H5 _)
      refine hears_bad (n := 0) T5 (fun G y E' R' r => ⟨rfl, _, rfl, .inr ⟨v, rfl, (noT_ext y nt).ty S.CP.toClsO kS, r⟩⟩) fun p1 H6 x6 T6 e6 => ?_
      have sh := shows_one
      unfold shows at sh
      simp only [Bool.and_eq_true, decide_eq_true_eq] at sh
      refine ⟨.ref p1, .tuple [.int 0, .int 0], rfl, .tup (st_of e6) (.cons (.int 0) (.cons (.int 0) .nil)), sh.1.1, sh.1.2, sh.2, ?_⟩
      rw [shown_one]
      dsimp only [tC]
      refine (rv_ne (x := .str "(0, 0)") (y := .str "(0, 0)") rfl) H6 (Ex.refl _) _ fun H7 x7 => ⟨_, rfl, ?_⟩
      rw [if_neg (by decide)]
      exact ⟨_, _, s5, g5, rfl, tabs_ex T6 x7, (pen_ext x6 pen5).mono x7, by omega⟩
    · obtain ⟨y2, y4, s1, g1, rfl, T1, pen1, hs1⟩ := p
      refine q_asgP (P := IsSL some1) (es_lst (ws := some1) ea_some1 (by decide)) fun v H1 x1 ⟨l1, ev, h1⟩ => ?_
      subst ev
      refine (?_ : tSeq _ _ _ [some (.ref a), some (.ref Pn), y2, some (.ref l1), y4, none] H1)
      refine q_asgP (P := IsSL (some1 ++ some2)) (es_cat (es_var rfl h1) (es_lst (ws := some2) ea_some2 (by decide)) (by decide)) fun v H2 x2 ⟨l2, ev, h2⟩ => ?_
      subst ev
      refine (?_ : tSeq _ _ _ [some (.ref a), some (.ref Pn), y2, some (.ref l2), y4, none] H2)
      refine q_asgP (P := IsSL (some1 ++ some2 ++ some3)) (es_cat (es_var rfl h2) (es_lst (ws := some3) ea_some3 (by decide)) (by decide)) fun v H3 x3 ⟨l3, ev, h3⟩ => ?_
      subst ev
      refine (?_ : tSeq _ _ _ [some (.ref a), some (.ref Pn), y2, some (.ref l3), y4, none] H3)
      have T3 := tabs_ex T1 (x1.trans (x2.trans x3))
      refine (?_ : tOr _ _ _ H3 _)
      refine (?_ : tTest _ _ H3 _)
      refine (?_ : tOp _ _ _ _ H3 _)
      refine run_none (us := some1 ++ some2 ++ some3) rfl h3 (by decide) (fun _ => rfl) (fun _ => rfl) some_ok T3 fun D H4 x4 T4 hD => ?_
      refine (et_test (ev_neNil (K := K) (σ := [some (.ref a), some (.ref Pn), y2, some (.ref l3), y4, none]) (H := H4) (ta := fun _ H Q => Q (.ref D) H) (p := D) (a := []) (fun G y Q1 q1 => q1 G (Ex.refl _)) hD (fun t ht => by cases ht))) H4 (Ex.refl _) _ fun H5 x5 => ?_
      rw [if_neg (by decide)]
      refine (et_test (ev_nePr (C := C) (E := E0) (al := "01") (σ := [some (.ref a), some (.ref Pn), y2, some (.ref l3), y4, none]) (H := H5) (t13_keys _) (t13_keys _) (evp_read13 (K := K) (CX := CX)) evp_made2)) H5 (Ex.refl _) _ fun H6 x6 => ?_
      rw [if_neg (by decide)]
      have bg : ∀ {n : Nat}, n ≤ 100 → n < big := fun h => Nat.lt_of_le_of_lt h (by unfold big; decide +kernel)
      have rd : ∀ {p w : Nat}, p ≤ 100 → w ≤ 100 → redP p w < big ∧ redW p w < big := fun h1 h2 => red_lt (bg h1) (bg h2)
      have rt : ∀ {p w : Nat} {t : Str} {G : Hp}, 1 ≤ w → p ≤ 100 → w ≤ 100 → rText (redP p w) (redW p w) = t → Ev (tCB (rStrI R (spRStr R) E0) (tCons (tMake R (spRInit R) [] E0 (tCons (tC (.int (p : Int))) (tCons (tC (.int (w : Int))) tNil))) tNil)) [some (.ref a), some (.ref Pn), y2, some (.ref l3), y4, none] G (.str t) := fun w1 h1 h2 e => e ▸ ev_strRP (rd h1 h2).1 (rd h1 h2).2 (evp_rate ev_c ev_c w1 (bg h2))
      have la : EvL (tLst (tCons (tCB (rStrI R (spRStr R) E0) (tCons (tMake R (spRInit R) [] E0 (tCons (tC (.int 12)) (tCons (tC (.int 10)) tNil))) tNil)) (tCons (tCB (rStrI R (spRStr R) E0) (tCons (tMake R (spRInit R) [] E0 (tCons (tC (.int 0)) (tCons (tC (.int 7)) tNil))) tNil)) (tCons (tCB (rStrI R (spRStr R) E0) (tCons (tMake R (spRInit R) [] E0 (tCons (tC (.int 8)) (tCons (tC (.int 4)) tNil))) tNil)) (tCons (tCB (rStrI R (spRStr R) E0) (tCons (ClX.tCMeth R (spRReadA K CX R) E0 (tC (.ref R)) (tCons (tC (.str "6/5")) tNil)) tNil)) tNil)))))
          [some (.ref a), some (.ref Pn), y2, some (.ref l3), y4, none] H6 (([("6/5" : Str), ("0" : Str), ("2" : Str), ("6/5" : Str)] : List Str).map V.str) :=
        el_lst (ea_cons (rt (p := 12) (w := 10) (by decide) (by decide) (by decide) r1210) (ea_cons (rt (p := 0) (w := 7) (by decide) (by decide) (by decide) r07) (ea_cons (rt (p := 8) (w := 4) (by decide) (by decide) (by decide) r84) (ea_cons (r65 ▸ ev_strRP (E := E0) (bg (by decide)) (bg (by decide)) (evp_read65 (K := K) (CX := CX))) ea_nil)))) (by decide)
      have lb : EvL (tLst (tCons (tC (.str "6/5")) (tCons (tC (.str "0")) (tCons (tC (.str "2")) (tCons (tC (.str "6/5")) tNil))))) [some (.ref a), some (.ref Pn), y2, some (.ref l3), y4, none] H6 (([("6/5" : Str), ("0" : Str), ("2" : Str), ("6/5" : Str)] : List Str).map V.str) := el_lst (ea_cons ev_c (ea_cons ev_c (ea_cons ev_c (ea_cons ev_c ea_nil)))) (by decide)
      have okS : ∀ t ∈ ([("6/5" : Str), ("0" : Str), ("2" : Str), ("6/5" : Str)] : List Str), PyData.strOk t = true := by decide +kernel
      exact s_ret (v := .bl true) (ev_is (ev_opLL la lb fun p q G h1 h2 x1 => rv_eqL h1 h2 okS okS) (congrArg V.bl (decide_eq_true rfl))) fun G y => k G
end
end K02

set_option Elab.async false
set_option linter.all false
set_option maxRecDepth 100000
set_option maxHeartbeats 8000000
/-! What the text's top has written, and the law from it -/
namespace K02
open PySem PySem.Spec PyProof.Rows L2 Evl KU
/-- a method with defaults -/
theorem metD_mk {K : PySem.W.Frag} {x qual : Str} {st : Stmt} {f T : Addr} {oc oc2 : Value} {od od2 an : Option Addr} {osl osl2 : Array (Option Value)} {kV doc pm cdv ct : Value} {dvs : List V} {xs : Array Value} {n : Nat}
    (l : K.lookup f = some ⟨oc, od, .func (PySem.W.fnOf x qual (defArgs st) (defBody st) (defScope st) (.ref T) kV doc pm an cdv ct), osl⟩) (c : (PySem.W.codeIn K cdv qual && PySem.W.keepIn K (.ref f)) = true) (lT : K.lookup T = some ⟨oc2, od2, .seq xs n, osl2⟩) (r : ∃ its : List Value, xs = its.toArray ∧ Vals dvs its) (ne : dvs ≠ []) :
    FunD K x qual (defArgs st) (defBody st) (defScope st) dvs [] f (PySem.W.fnOf x qual (defArgs st) (defBody st) (defScope st) (.ref T) kV doc pm an cdv ct) := by
  rw [Bool.and_eq_true] at c
  obtain ⟨its, e, v⟩ := r
  exact ⟨⟨oc, od, .ref T, kV, doc, pm, an, cdv, ct, osl, rfl, l, c.1, .inr ⟨ne, T, _, its, n, rfl, lT, by rw [e], v⟩, .inl rfl⟩, c.2⟩
/-- a def of the text's top -/
structure FnF (K : PySem.W.Frag) (mg : Str → Option Value) (x : Str) (st : Stmt) (f : Addr) (fd : FuncData) : Prop where
  g : mg x = some (.ref f)
  F : Fun K x x st f fd
theorem fnf_mk {K : PySem.W.Frag} {h : Heap} {mg : Str → Option Value} (X : K.In h) (G : h.Ns mainGlobals mg) {x : Str} {st : Stmt} {f : Addr} {oc kV dc pm cd ct : Value} {od an : Option Addr} {osl : Array (Option Value)} (a : PySem.W.nsIn K mainGlobals x = some (some (.ref f)))
    (l : K.lookup f = some ⟨oc, od, .func (PySem.W.fnOf x x (defArgs st) (defBody st) (defScope st) .none kV dc pm an cd ct), osl⟩) (B : (PySem.W.codeIn K cd x && PySem.W.keepIn K (.ref f)) = true) : FnF K mg x st f (PySem.W.fnOf x x (defArgs st) (defBody st) (defScope st) .none kV dc pm an cd ct) := by
  obtain ⟨b1, b2⟩ := Bool.and_eq_true_iff.mp B
  exact ⟨PySem.W.mg_of X G a, fun_mk l b1 b2⟩
/-- a def of the class -/
theorem met_mk {K : PySem.W.Frag} {x q : Str} {st : Stmt} {f : Addr} {oc kV dc pm cd ct : Value} {od an : Option Addr} {osl : Array (Option Value)}
    (l : K.lookup f = some ⟨oc, od, .func (PySem.W.fnOf x q (defArgs st) (defBody st) (defScope st) .none kV dc pm an cd ct), osl⟩) (B : (PySem.W.codeIn K cd q && PySem.W.keepIn K (.ref f)) = true) : Fun K x q st f (PySem.W.fnOf x q (defArgs st) (defBody st) (defScope st) .none kV dc pm an cd ct) := by
  obtain ⟨b1, b2⟩ := Bool.and_eq_true_iff.mp B
  exact fun_mk l b1 b2
def freeL : List Str := ["int", "len", "abs", "list", "str", "isinstance", "all", "any", "range", "sorted", "tuple", "set", "bool", "dict", "repr"]
def freeB (K : PySem.W.Frag) : Bool := freeL.all fun x => PySem.W.nsIn K mainGlobals x == some none
theorem free_of {K : PySem.W.Frag} {h : Heap} {mg : Str → Option Value} (X : K.In h) (G : h.Ns mainGlobals mg) (B : freeB K = true) : ∀ x ∈ freeL, mg x = none := fun x hx => by
  unfold freeB at B
  simp only [List.all_eq_true, beq_iff_eq] at B
  exact PySem.W.mg_none_of X G (B x hx)
/-- what is looked up of Prices -/
def priB (K : PySem.W.Frag) (C fPInit fPEq fPStr fPRead : Addr) : Bool := PySem.W.plainGet K C Str.empty &&
  PySem.W.hasDictIn K C &&
  PySem.W.plainOver K C &&
  PySem.W.findIn K (.ref C) "__setattr__" == some (some (.builtin "object.__setattr__")) &&
  (["signs", "_prices", "_weights"] : List Str).all (fun f => PySem.W.findIn K (.ref C) f == some none) &&
  PySem.W.findIn K (.ref C) "__class__" == some (some (.builtin "object.__class__")) &&
  PySem.W.specialIn K (.builtin "object.__class__") "__get__" == some (some (.builtin "getset_descriptor.__get__")) &&
  PySem.W.takesIn K (.builtin "object.__class__") == some true &&
  PySem.W.mroIn K C (.type "object") == some true &&
  PySem.W.kitOne K (.ref C) (.ref C) == some true &&
  PySem.W.makesIn K C &&
  PySem.W.findIn K (.ref C) "__init__" == some (some (.ref fPInit)) &&
  PySem.W.isFn K (.ref fPInit) &&
  PySem.W.keepIn K (.ref C) &&
  PySem.W.findIn K (.ref C) "__eq__" == some (some (.ref fPEq)) &&
  PySem.W.isFn K (.ref fPEq) &&
  PySem.W.findIn K (.ref C) "__str__" == some (some (.ref fPStr)) &&
  PySem.W.isFn K (.ref fPStr) &&
  PySem.W.findIn K (.ref C) "__ne__" == some (some (.builtin "object.__ne__")) &&
  PySem.W.kitOne K (.ref C) (.type "str") == some false &&
  PySem.W.readsIn K C (.type "type") &&
  PySem.W.specialIn K (.ref C) "__getattribute__" == some (some (.builtin "type.__getattribute__")) &&
  PySem.W.fnIn K fPRead
/-- what is looked up of Rate -/
def ratB (K : PySem.W.Frag) (R fRInit fREq fRStr fRRead : Addr) : Bool := PySem.W.plainGet K R Str.empty &&
  PySem.W.hasDictIn K R &&
  PySem.W.plainOver K R &&
  PySem.W.findIn K (.ref R) "__setattr__" == some (some (.builtin "object.__setattr__")) &&
  (["price", "weight"] : List Str).all (fun f => PySem.W.findIn K (.ref R) f == some none) &&
  PySem.W.findIn K (.ref R) "__class__" == some (some (.builtin "object.__class__")) &&
  PySem.W.specialIn K (.builtin "object.__class__") "__get__" == some (some (.builtin "getset_descriptor.__get__")) &&
  PySem.W.takesIn K (.builtin "object.__class__") == some true &&
  PySem.W.mroIn K R (.type "object") == some true &&
  PySem.W.kitOne K (.ref R) (.ref R) == some true &&
  PySem.W.makesIn K R &&
  PySem.W.findIn K (.ref R) "__init__" == some (some (.ref fRInit)) &&
  PySem.W.isFn K (.ref fRInit) &&
  PySem.W.keepIn K (.ref R) &&
  PySem.W.findIn K (.ref R) "__eq__" == some (some (.ref fREq)) &&
  PySem.W.isFn K (.ref fREq) &&
  PySem.W.findIn K (.ref R) "__str__" == some (some (.ref fRStr)) &&
  PySem.W.isFn K (.ref fRStr) &&
  PySem.W.findIn K (.ref R) "__ne__" == some (some (.builtin "object.__ne__")) &&
  PySem.W.kitOne K (.ref R) (.type "str") == some false &&
  PySem.W.readsIn K R (.type "type") &&
  PySem.W.specialIn K (.ref R) "__getattribute__" == some (some (.builtin "type.__getattribute__")) &&
  PySem.W.fnIn K fRRead
/-- what is looked up of Cursor -/
def curB (K : PySem.W.Frag) (D fUInit fPeek fTake fExpect fFinish : Addr) : Bool := PySem.W.plainGet K D Str.empty &&
  PySem.W.hasDictIn K D &&
  PySem.W.plainOver K D &&
  PySem.W.findIn K (.ref D) "__setattr__" == some (some (.builtin "object.__setattr__")) &&
  (["words", "at"] : List Str).all (fun f => PySem.W.findIn K (.ref D) f == some none) &&
  PySem.W.makesIn K D &&
  PySem.W.findIn K (.ref D) "__init__" == some (some (.ref fUInit)) &&
  PySem.W.isFn K (.ref fUInit) &&
  PySem.W.keepIn K (.ref D) &&
  PySem.W.findIn K (.ref D) "peek" == some (some (.ref fPeek)) &&
  PySem.W.isFn K (.ref fPeek) &&
  PySem.W.findIn K (.ref D) "take" == some (some (.ref fTake)) &&
  PySem.W.isFn K (.ref fTake) &&
  PySem.W.findIn K (.ref D) "expect" == some (some (.ref fExpect)) &&
  PySem.W.isFn K (.ref fExpect) &&
  PySem.W.findIn K (.ref D) "finish" == some (some (.ref fFinish)) &&
  PySem.W.isFn K (.ref fFinish)
/-- the answers about the error classes -/
def errB (K : PySem.W.Frag) (CF CX : Addr) : Bool := PySem.W.exmOne K (.ref CX) (.ref CF) == some true &&
  PySem.W.kitOne K (.ref CX) (.ref CX) == some true
section
variable {P : Program} {w : World} {K : PySem.W.Frag} {mg : Str → Option Value} {base : Heap}
theorem iniBadText {f : Addr} {fd : FuncData} (F : Fun K "__init__" "BadText.__init__" (inClass (topR 5) 0) f fd) : FnOk P w K mg base CX0 1 f fd ["self", "line", "word"] (spI2 K "line" "word") := by
  refine F.ok (N := ["self", "line", "word"]) ⟨rfl, rfl, rfl, by decide +kernel, rfl, by decide +kernel, by decide +kernel⟩ (fun vs H Q E h => ?_) (fun cdv A outer s H vs Q E hr h => ?_)
  · obtain ⟨_, _, _, _, rfl, _⟩ := h
    rfl
  · obtain ⟨a, C, y, z, rfl, T, no, no2, ha, k⟩ := h
    exact ⟨_, pss_cons (ps_ost (pv 0) (pv 1)) (pss_one (ps_ost (pv 0) (pv 2))), init2_reads (E := E) (N := ["self", "line", "word"]) rfl ⟨a, C, y, z, rfl, T, no, no2, ha, k⟩⟩
theorem clBadText {C : Addr} (gb : getB K = true) (Z : ClF K mg "BadText" "BadText.__init__" (inClass (topR 5) 0) C ["line", "word"]) : Cl P w K mg base "BadText" C ["line", "word"] (spI2 K "line" "word") :=
  cl2_of gb Z (fun F => iniBadText F) (fun _ _ _ _ _ _ us hl => match us, hl with | [_, _, _], _ => rfl) fun _ _ _ _ _ _ _ _ _ => rfl
end
theorem tab_is {K : PySem.W.Frag} {x q : Str} {st : Stmt} {f c p : Addr} {fd : FuncData} {oc : Value} {od : Option Addr} {vs : Array Value} {osl : Array (Option Value)} (a : PySem.W.nsIn K mainGlobals x = some (some (.ref f))) (F : Fun K x q st f fd) (k : fd.code = .ref c)
    (l : K.lookup c = some ⟨oc, od, .fields vs, osl⟩) (r : (vs[11]? : Option Value) = some (.ref p)) : PySem.W.tabIn K x = some (c, p) := by
  obtain ⟨oc', od', kV, doc, pm, an, cdv, ct, osl', e, lk, _⟩ := F.ex
  unfold PySem.W.tabIn
  simp only [a, lk, k, l, r]
/-- the tables of the defs that make lambdas -/
def tabsOf : List (Addr × Addr) → List (Addr × Str)
  | [a, b, c] => [(a.2, "_law_right.<locals>.<lambda>"), (b.2, "_law_rates_right.<locals>.<lambda>"), (c.2, "law.<locals>.<lambda>")]
  | _ => []
def spLawC (K : PySem.W.Frag) (cs : List (Addr × Addr)) : Sp := fun vs H Q _ => ∃ (a : Addr) (ns : List Int), vs = [.ref a] ∧ SqL K H a (vints ns) ∧ ns.length ≤ 63 ∧ (∀ p ∈ cs, H p.2 = some (.tbl #[])) ∧ ∀ H', Q (.bl true) H'
theorem alln {α : Type} {a b c : α} {p : α → Prop} (ha : p a) (hb : p b) (hc : p c) : ∀ x ∈ [a, b, c], p x := fun x hx => by
  rcases List.mem_cons.mp hx with rfl | hx
  · exact ha
  · rcases List.mem_cons.mp hx with rfl | hx
    · exact hb
    · rw [List.mem_singleton.mp hx]
      exact hc
theorem tabs_start {cs : List (Addr × Addr)} {H : Hp} (h : ∀ p ∈ cs, H p.2 = some (.tbl #[])) : LamX.Tabs (tabsOf cs) H := fun q hq => by
  unfold tabsOf at hq
  split at hq
  · rename_i a b c
    exact alln (p := fun q : Addr × Str => LamX.TabS H q.1 q.2) (.nil (h _ List.mem_cons_self)) (.nil (h _ (List.mem_cons_of_mem _ List.mem_cons_self))) (.nil (h _ (List.mem_cons_of_mem _ (List.mem_cons_of_mem _ List.mem_cons_self)))) q hq
  · cases hq
theorem FnG.imp {P : Program} {w : World} {K : PySem.W.Frag} {mg : Str → Option Value} {base : Heap} {CX : CXT} {k : Nat} {f : Addr} {fd : FuncData} {ps : List Str} {sp sp' : Sp} (F : KU.FnG P w K mg base CX k f fd ps sp)
    (h : ∀ vs H Q E, sp' vs H Q E → sp vs H Q E) : KU.FnG P w K mg base CX k f fd ps sp' := ⟨fun vs H Q E z => F.many vs H Q E (h vs H Q E z), fun A out s H args us vs Q E hg hr e0 hb r z => F.goes A out s H args us vs Q E hg hr e0 hb r (h vs H Q E z)⟩
theorem law_of {P : Program} {w : World} {K : PySem.W.Frag} {h : Heap} {mg : Str → Option Value} {fa : Addr} (X : K.In h) (G : h.Ns mainGlobals mg) (hfa : mg "law" = some (.ref fa)) {C R D CF CBadText pOf pOf2 : Addr} {rest rest2 : List Value} {fIsInteger : Addr} {fdIsInteger : FuncData} {fIsText : Addr} {fdIsText : FuncData} {fIsWord : Addr} {fdIsWord : FuncData} {fIsSign : Addr} {fdIsSign : FuncData} {fIsAlphabet : Addr} {fdIsAlphabet : FuncData} {fTakeSigns : Addr} {fdTakeSigns : FuncData} {fIsPrice : Addr} {fdIsPrice : FuncData} {fAreOfSigns : Addr} {fdAreOfSigns : FuncData} {fFilled : Addr} {fdFilled : FuncData} {fTakeNumbers : Addr} {fdTakeNumbers : FuncData} {fTakePrices : Addr} {fdTakePrices : FuncData} {fLawPen : Addr} {fdLawPen : FuncData} {fLawDraw : Addr} {fdLawDraw : FuncData} {fLawPick : Addr} {fdLawPick : FuncData} {fLawIsAlphabet : Addr} {fdLawIsAlphabet : FuncData} {fLawWrong : Addr} {fdLawWrong : FuncData} {fLawHeard : Addr} {fdLawHeard : FuncData} {fLawBent : Addr} {fdLawBent : FuncData} {fLawPricesRight : Addr} {fdLawPricesRight : FuncData} {fLawRateText : Addr} {fdLawRateText : FuncData} {fLawRight : Addr} {fdLawRight : FuncData} {fLawRatesRight : Addr} {fdLawRatesRight : FuncData} {fPRead : Addr} {fdPRead : FuncData} {fPStr : Addr} {fdPStr : FuncData} {fPEq : Addr} {fdPEq : FuncData} {fRRead : Addr} {fdRRead : FuncData} {fRStr : Addr} {fdRStr : FuncData} {fREq : Addr} {fdREq : FuncData} {fUInit : Addr} {fdUInit : FuncData} {fPeek : Addr} {fdPeek : FuncData} {fTake : Addr} {fdTake : FuncData} {fExpect : Addr} {fdExpect : FuncData} {fFinish : Addr} {fdFinish : FuncData} {fPInit : Addr} {fdPInit : FuncData} {fRInit : Addr} {fdRInit : FuncData} {t0 t1 t2 t3 : Tok} {c1 p1 c2 p2 c3 p3 : Addr} {oc1 oc2 oc3 : Value} {od1 od2 od3 : Option Addr} {vs1 vs2 vs3 : Array Value} {osl1 osl2 osl3 : Array (Option Value)}
    {fLaw : Addr} {oc kV dc pm cd ct : Value} {od an : Option Addr} {osl : Array (Option Value)}
    (fr : freeB K = true) (aS : PySem.W.nsIn K mainGlobals "SIGNS" = some (some (.str "0123456789abcdefghijklmnopqrstuvwxyz" t0))) (aDG : PySem.W.nsIn K mainGlobals "DIGITS" = some (some (.str "0123456789" t1))) (aPD : PySem.W.nsIn K mainGlobals "PRICE_DIGITS" = some (some (.str "123456789" t2))) (aMP : PySem.W.nsIn K mainGlobals "MOST_PRICE" = some (some (.int 9 t3))) (aG : PySem.W.nsIn K mainGlobals "gcd" = some (some (.builtin "math.gcd")))
    (aC : PySem.W.nsIn K mainGlobals "Prices" = some (some (.ref C))) (aR : PySem.W.nsIn K mainGlobals "Rate" = some (some (.ref R))) (aD : PySem.W.nsIn K mainGlobals "Cursor" = some (some (.ref D))) (aF : PySem.W.nsIn K mainGlobals "FlagError" = some (some (.ref CF)))
    (cPStr : PySem.W.findIn K (.ref C) "__str__" = some (some (.ref fPStr))) (cPEq : PySem.W.findIn K (.ref C) "__eq__" = some (some (.ref fPEq))) (cRStr : PySem.W.findIn K (.ref R) "__str__" = some (some (.ref fRStr))) (cREq : PySem.W.findIn K (.ref R) "__eq__" = some (some (.ref fREq))) (cUInit : PySem.W.findIn K (.ref D) "__init__" = some (some (.ref fUInit))) (cPeek : PySem.W.findIn K (.ref D) "peek" = some (some (.ref fPeek))) (cTake : PySem.W.findIn K (.ref D) "take" = some (some (.ref fTake))) (cExpect : PySem.W.findIn K (.ref D) "expect" = some (some (.ref fExpect))) (cFinish : PySem.W.findIn K (.ref D) "finish" = some (some (.ref fFinish))) (cPInit : PySem.W.findIn K (.ref C) "__init__" = some (some (.ref fPInit))) (cRInit : PySem.W.findIn K (.ref R) "__init__" = some (some (.ref fRInit))) (cf : PySem.W.findCls K (.ref C) (.type "type") "read" = some (.get (.builtin "classmethod.__get__") (.ref pOf) .none (.ref C))) (cr : PySem.W.recIn K pOf "classmethod" = some (.ref fPRead :: rest))
    (cf2 : PySem.W.findCls K (.ref R) (.type "type") "read" = some (.get (.builtin "classmethod.__get__") (.ref pOf2) .none (.ref R))) (cr2 : PySem.W.recIn K pOf2 "classmethod" = some (.ref fRRead :: rest2))
    (cB : priB K C fPInit fPEq fPStr fPRead = true) (rB : ratB K R fRInit fREq fRStr fRRead = true) (uB : curB K D fUInit fPeek fTake fExpect fFinish = true) (gb : getB K = true) (eB : errB K CF CBadText = true)
    (ZBadText : ClF K mg "BadText" "BadText.__init__" (inClass (topR 5) 0) CBadText ["line", "word"])
    (HIsInteger : FnF K mg "is_integer" (topR 12) fIsInteger fdIsInteger) (HIsText : FnF K mg "is_text" sIsText fIsText fdIsText) (HIsWord : FnF K mg "is_word" sIsWord fIsWord fdIsWord) (HIsSign : FnF K mg "is_sign" sIsSgn fIsSign fdIsSign) (HIsAlphabet : FnF K mg "is_alphabet" sIsAlphabet fIsAlphabet fdIsAlphabet) (HTakeSigns : FnF K mg "take_signs" (topR 19) fTakeSigns fdTakeSigns) (HIsPrice : FnF K mg "is_price" (topR 24) fIsPrice fdIsPrice) (HAreOfSigns : FnF K mg "are_of_signs" (topR 25) fAreOfSigns fdAreOfSigns) (HFilled : FnF K mg "filled" (topR 26) fFilled fdFilled) (HTakeNumbers : FnF K mg "take_numbers" (topR 27) fTakeNumbers fdTakeNumbers) (HTakePrices : FnF K mg "take_prices" (topR 28) fTakePrices fdTakePrices) (HLawPen : FnF K mg "_law_pen" sPen fLawPen fdLawPen) (HLawDraw : FnF K mg "_law_draw" sDraw fLawDraw fdLawDraw) (HLawPick : FnF K mg "_law_pick" sPick fLawPick fdLawPick) (HLawIsAlphabet : FnF K mg "_law_is_alphabet" sLAl fLawIsAlphabet fdLawIsAlphabet) (HLawWrong : FnF K mg "_law_wrong" sLWr fLawWrong fdLawWrong) (HLawHeard : FnF K mg "_law_heard" sHeard fLawHeard fdLawHeard) (HLawBent : FnF K mg "_law_bent" sBent fLawBent fdLawBent) (HLawPricesRight : FnF K mg "_law_prices_right" sPR fLawPricesRight fdLawPricesRight) (HLawRateText : FnF K mg "_law_rate_text" sRT fLawRateText fdLawRateText) (HLawRight : FnF K mg "_law_right" sRight fLawRight fdLawRight) (HLawRatesRight : FnF K mg "_law_rates_right" sRR fLawRatesRight fdLawRatesRight)
    (MPRead : Fun K "read" "Prices.read" (priM 1) fPRead fdPRead) (MPStr : Fun K "__str__" "Prices.__str__" (priM 2) fPStr fdPStr) (MPEq : Fun K "__eq__" "Prices.__eq__" (priM 3) fPEq fdPEq) (MRRead : Fun K "read" "Rate.read" (ratM 1) fRRead fdRRead) (MRStr : Fun K "__str__" "Rate.__str__" (ratM 2) fRStr fdRStr) (MREq : Fun K "__eq__" "Rate.__eq__" (ratM 4) fREq fdREq) (MUInit : Fun K "__init__" "Cursor.__init__" (curM 0) fUInit fdUInit) (MPeek : Fun K "peek" "Cursor.peek" (curM 1) fPeek fdPeek) (MTake : Fun K "take" "Cursor.take" (curM 2) fTake fdTake) (MExpect : Fun K "expect" "Cursor.expect" (curM 3) fExpect fdExpect) (MFinish : Fun K "finish" "Cursor.finish" (curM 4) fFinish fdFinish) (MPInit : FunD K "__init__" "Prices.__init__" (defArgs (priM 0)) (defBody (priM 0)) (defScope (priM 0)) [V.non, V.non] [] fPInit fdPInit) (MRInit : FunD K "__init__" "Rate.__init__" (defArgs (ratM 0)) (defBody (ratM 0)) (defScope (ratM 0)) [V.int 1] [] fRInit fdRInit)
    (x1 : PySem.W.nsIn K mainGlobals "_law_right" = some (some (.ref fLawRight))) (x2 : PySem.W.nsIn K mainGlobals "_law_rates_right" = some (some (.ref fLawRatesRight))) (k1 : fdLawRight.code = .ref c1) (k2 : fdLawRatesRight.code = .ref c2) (k3 : (PySem.W.fnOf "law" "law" (defArgs sLaw) (defBody sLaw) (defScope sLaw) .none kV dc pm an cd ct).code = .ref c3)
    (q1 : K.lookup c1 = some ⟨oc1, od1, .fields vs1, osl1⟩) (q2 : K.lookup c2 = some ⟨oc2, od2, .fields vs2, osl2⟩) (q3 : K.lookup c3 = some ⟨oc3, od3, .fields vs3, osl3⟩) (r1 : (vs1[11]? : Option Value) = some (.ref p1)) (r2 : (vs2[11]? : Option Value) = some (.ref p2)) (r3 : (vs3[11]? : Option Value) = some (.ref p3))
    (n12 : p1 ≠ p2) (n13 : p1 ≠ p3) (n23 : p2 ≠ p3) (n1 : K.lookup p1 = none) (n2 : K.lookup p2 = none) (n3 : K.lookup p3 = none)
    (aL : PySem.W.nsIn K mainGlobals "law" = some (some (.ref fLaw))) (lL : K.lookup fLaw = some ⟨oc, od, .func (PySem.W.fnOf "law" "law" (defArgs sLaw) (defBody sLaw) (defScope sLaw) .none kV dc pm an cd ct), osl⟩) (bL : (PySem.W.codeIn K cd "law" && PySem.W.keepIn K (.ref fLaw)) = true) :
    ∃ (fd : FuncData) (cs : List (Addr × Addr)), ((["_law_right", "_law_rates_right", "law"] : List Str).map fun y => PySem.W.tabIn K y) = cs.map some ∧ (∀ p ∈ cs, K.lookup p.2 = none) ∧ (∀ (s : Shared) (u : Value), BindsTo s fd ⟨[u], []⟩ [("_law_script", u)]) ∧
      ∀ base : Heap, K.In base → base.Ns mainGlobals mg → (∀ p ∈ cs, LamX.TabB base mg p.1 p.2) → FnG P w K mg base CX0 14 fa fd ["_law_script"] (spLawC K cs) := by
  have t1 := tab_is x1 HLawRight.F k1 q1 r1
  have t2 := tab_is x2 HLawRatesRight.F k2 q2 r2
  have HLaw := fnf_mk (st := sLaw) X G aL lL bL
  have t3 := tab_is aL HLaw.F k3 q3 r3
  have e := hfa.symm.trans HLaw.g
  cases e
  have fn := free_of X G fr
  unfold priB at cB
  simp only [Bool.and_eq_true, beq_iff_eq, List.all_eq_true] at cB
  obtain ⟨⟨⟨⟨⟨⟨⟨⟨⟨⟨⟨⟨⟨⟨⟨⟨⟨⟨⟨⟨⟨⟨bpg, bhd⟩, bpo⟩, bsa⟩, bno⟩, bcA⟩, bcG⟩, bcT⟩, bcM⟩, bcI⟩, bmk1⟩, bmk2⟩, bmk3⟩, bmk4⟩, beq1⟩, beq2⟩, bst1⟩, bst2⟩, bne⟩, bks⟩, brd1⟩, brd2⟩, brd3⟩ := cB
  unfold ratB at rB
  simp only [Bool.and_eq_true, beq_iff_eq, List.all_eq_true] at rB
  obtain ⟨⟨⟨⟨⟨⟨⟨⟨⟨⟨⟨⟨⟨⟨⟨⟨⟨⟨⟨⟨⟨⟨upg, uhd⟩, upo⟩, usa⟩, uno⟩, ucA⟩, ucG⟩, ucT⟩, ucM⟩, ucI⟩, umk1⟩, umk2⟩, umk3⟩, umk4⟩, ueq1⟩, ueq2⟩, ust1⟩, ust2⟩, une⟩, uks⟩, urd1⟩, urd2⟩, urd3⟩ := rB
  unfold curB at uB
  simp only [Bool.and_eq_true, beq_iff_eq, List.all_eq_true] at uB
  obtain ⟨⟨⟨⟨⟨⟨⟨⟨⟨⟨⟨⟨⟨⟨⟨⟨dpg, dhd⟩, dpo⟩, dsa⟩, dno⟩, dmk1⟩, dmk2⟩, dmk3⟩, dmk4⟩, dPeek1⟩, dPeek2⟩, dTake1⟩, dTake2⟩, dExpect1⟩, dExpect2⟩, dFinish1⟩, dFinish2⟩ := uB
  unfold errB at eB
  simp only [Bool.and_eq_true, beq_iff_eq, List.all_eq_true] at eB
  obtain ⟨e0, e1⟩ := eB
  have TF : Free mg := ⟨fn _ (by decide +kernel), fn _ (by decide +kernel), fn _ (by decide +kernel), fn _ (by decide +kernel), fn _ (by decide +kernel), fn _ (by decide +kernel), fn _ (by decide +kernel), fn _ (by decide +kernel), fn _ (by decide +kernel), fn _ (by decide +kernel), fn _ (by decide +kernel)⟩
  have TP : FreeP mg := { toFree := TF, set := fn _ (by decide +kernel), bool := fn _ (by decide +kernel), dict := fn _ (by decide +kernel), repr := fn _ (by decide +kernel) }
  have CP : ClsPr K mg C := { pg := bpg, hd := bhd, po := bpo, sa := bsa, cA := bcA, cG := bcG, cT := bcT, cM := bcM, cI := bcI, nSigns := bno _ (by decide +kernel), nPrices := bno _ (by decide +kernel), nWeights := bno _ (by decide +kernel), gC := PySem.W.mg_of X G aC }
  have CR : ClsRt K mg R := { pg := upg, hd := uhd, po := upo, sa := usa, cA := ucA, cG := ucG, cT := ucT, cM := ucM, cI := ucI, nPrice := uno _ (by decide +kernel), nWeight := uno _ (by decide +kernel), gR := PySem.W.mg_of X G aR }
  have CD : ClsC K mg D := { pg := dpg, hd := dhd, po := dpo, sa := dsa, nWords := dno _ (by decide +kernel), nAt := dno _ (by decide +kernel), gC := PySem.W.mg_of X G aD }
  have MC : Mk K C fPInit := ⟨bmk1, bmk2, bmk3, bmk4⟩
  have MR : Mk K R fRInit := ⟨umk1, umk2, umk3, umk4⟩
  have MD : Mk K D fUInit := ⟨dmk1, dmk2, dmk3, dmk4⟩
  obtain ⟨dP4, vP4, qP4⟩ := MPInit.binds1 (ps := nPInit) 4 2 (by simp) rfl fun T kV doc pm an cdv ct us its h1 h2 => match us, its, h1, h2 with | [_, _, _, _], [_, _], _, _ => ⟨_, rfl, rfl⟩
  cases vP4
  obtain ⟨dP2, vP2, qP2⟩ := MPInit.binds1 (ps := nPInit) 2 0 (by simp) rfl fun T kV doc pm an cdv ct us its h1 h2 => match us, its, h1, h2 with | [_, _], [_, _], _, _ => ⟨_, rfl, rfl⟩
  obtain ⟨dR3, vR3, qR3⟩ := MRInit.binds1 (ps := ["self", "price", "weight"]) 3 1 (by simp) rfl fun T kV doc pm an cdv ct us its h1 h2 => match us, its, h1, h2 with | [_, _, _], [_], _, _ => ⟨_, rfl, rfl⟩
  cases vR3
  have bIsInteger := HIsInteger.F.binds (ps := ["value"]) fun _ _ _ _ _ _ us hl => match us, hl with | [_], _ => rfl
  have bIsText := HIsText.F.binds (ps := ["value", "signs"]) fun _ _ _ _ _ _ us hl => match us, hl with | [_, _], _ => rfl
  have bIsWord := HIsWord.F.binds (ps := ["value", "signs", "most"]) fun _ _ _ _ _ _ us hl => match us, hl with | [_, _, _], _ => rfl
  have bIsSign := HIsSign.F.binds (ps := ["value", "signs"]) fun _ _ _ _ _ _ us hl => match us, hl with | [_, _], _ => rfl
  have bIsAlphabet := HIsAlphabet.F.binds (ps := ["value"]) fun _ _ _ _ _ _ us hl => match us, hl with | [_], _ => rfl
  have bTakeSigns := HTakeSigns.F.binds (ps := ["cursor"]) fun _ _ _ _ _ _ us hl => match us, hl with | [_], _ => rfl
  have bIsPrice := HIsPrice.F.binds (ps := ["value"]) fun _ _ _ _ _ _ us hl => match us, hl with | [_], _ => rfl
  have bAreOfSigns := HAreOfSigns.F.binds (ps := ["told", "signs"]) fun _ _ _ _ _ _ us hl => match us, hl with | [_, _], _ => rfl
  have bFilled := HFilled.F.binds (ps := ["told", "signs"]) fun _ _ _ _ _ _ us hl => match us, hl with | [_, _], _ => rfl
  have bTakeNumbers := HTakeNumbers.F.binds (ps := ["cursor", "signs"]) fun _ _ _ _ _ _ us hl => match us, hl with | [_, _], _ => rfl
  have bTakePrices := HTakePrices.F.binds (ps := ["cursor", "signs"]) fun _ _ _ _ _ _ us hl => match us, hl with | [_, _], _ => rfl
  have bLawPen := HLawPen.F.binds (ps := ["_law_script"]) fun _ _ _ _ _ _ us hl => match us, hl with | [_], _ => rfl
  have bLawDraw := HLawDraw.F.binds (ps := ["_law_pen_here", "_law_many"]) fun _ _ _ _ _ _ us hl => match us, hl with | [_, _], _ => rfl
  have bLawPick := HLawPick.F.binds (ps := ["_law_pen_here", "_law_some"]) fun _ _ _ _ _ _ us hl => match us, hl with | [_, _], _ => rfl
  have bLawIsAlphabet := HLawIsAlphabet.F.binds (ps := ["_law_word"]) fun _ _ _ _ _ _ us hl => match us, hl with | [_], _ => rfl
  have bLawWrong := HLawWrong.F.binds (ps := ["_law_words"]) fun _ _ _ _ _ _ us hl => match us, hl with | [_], _ => rfl
  have bLawHeard := HLawHeard.F.binds (ps := ["_law_ask"]) fun _ _ _ _ _ _ us hl => match us, hl with | [_], _ => rfl
  have bLawBent := HLawBent.F.binds (ps := ["_law_pen_here", "_law_text_so"]) fun _ _ _ _ _ _ us hl => match us, hl with | [_, _], _ => rfl
  have bLawPricesRight := HLawPricesRight.F.binds (ps := ["_law_pen_here"]) fun _ _ _ _ _ _ us hl => match us, hl with | [_], _ => rfl
  have bLawRateText := HLawRateText.F.binds (ps := ["_law_price", "_law_weight"]) fun _ _ _ _ _ _ us hl => match us, hl with | [_, _], _ => rfl
  have bLawRight := HLawRight.F.binds (ps := ["_law_text_so"]) fun _ _ _ _ _ _ us hl => match us, hl with | [_], _ => rfl
  have bLawRatesRight := HLawRatesRight.F.binds (ps := ["_law_pen_here"]) fun _ _ _ _ _ _ us hl => match us, hl with | [_], _ => rfl
  have qPRead := MPRead.binds (ps := ["cls", "text"]) fun _ _ _ _ _ _ us hl => match us, hl with | [_, _], _ => rfl
  have qPStr := MPStr.binds (ps := ["self"]) fun _ _ _ _ _ _ us hl => match us, hl with | [_], _ => rfl
  have qPEq := MPEq.binds (ps := ["self", "other"]) fun _ _ _ _ _ _ us hl => match us, hl with | [_, _], _ => rfl
  have qRRead := MRRead.binds (ps := ["cls", "text"]) fun _ _ _ _ _ _ us hl => match us, hl with | [_, _], _ => rfl
  have qRStr := MRStr.binds (ps := ["self"]) fun _ _ _ _ _ _ us hl => match us, hl with | [_], _ => rfl
  have qREq := MREq.binds (ps := ["self", "other"]) fun _ _ _ _ _ _ us hl => match us, hl with | [_, _], _ => rfl
  have qUInit := MUInit.binds (ps := ["self", "text"]) fun _ _ _ _ _ _ us hl => match us, hl with | [_, _], _ => rfl
  have qPeek := MPeek.binds (ps := ["self"]) fun _ _ _ _ _ _ us hl => match us, hl with | [_], _ => rfl
  have qTake := MTake.binds (ps := ["self", "stands"]) fun _ _ _ _ _ _ us hl => match us, hl with | [_, _], _ => rfl
  have qExpect := MExpect.binds (ps := ["self", "word"]) fun _ _ _ _ _ _ us hl => match us, hl with | [_, _], _ => rfl
  have qFinish := MFinish.binds (ps := ["self"]) fun _ _ _ _ _ _ us hl => match us, hl with | [_], _ => rfl
  have gS : ∃ t, mg "SIGNS" = some (.str "0123456789abcdefghijklmnopqrstuvwxyz" t) := ⟨_, PySem.W.mg_of X G aS⟩
  have TS : TSigns K mg fIsText fIsWord fIsAlphabet := { toFree := TF, gT := HIsText.g, kT := HIsText.F.kp, gW := HIsWord.g, kW := HIsWord.F.kp, gA := HIsAlphabet.g, kA := HIsAlphabet.F.kp, gS := gS }
  have TD : Draws K mg fLawDraw fLawPick := { toFree := TF, gDraw := HLawDraw.g, kDraw := HLawDraw.F.kp, gPick := HLawPick.g, kPick := HLawPick.F.kp }
  refine ⟨(PySem.W.fnOf "law" "law" (defArgs sLaw) (defBody sLaw) (defScope sLaw) .none kV dc pm an cd ct), [(c1, p1), (c2, p2), (c3, p3)], by rw [List.map_cons, List.map_cons, List.map_cons, t1, t2, t3]; rfl, alln (p := fun q : Addr × Addr => K.lookup q.2 = none) n1 n2 n3, fun s u => .of_eq rfl, fun base _ _ hTB => ?_⟩
  have TB1 := hTB (c1, p1) List.mem_cons_self
  have TB2 := hTB (c2, p2) (List.mem_cons_of_mem _ List.mem_cons_self)
  have TB3 := hTB (c3, p3) (List.mem_cons_of_mem _ (List.mem_cons_of_mem _ List.mem_cons_self))
  have ZX : Cl P w K mg base "BadText" CBadText ["line", "word"] (spI2 K "line" "word") := clBadText gb ZBadText
  have GX : FnOk P w K mg base CX0 1 fIsText fdIsText ["value", "signs"] (spIsText K) := ok_is_text HIsText.F TF
  have GA : FnOk P w K mg base CX0 3 fIsAlphabet fdIsAlphabet ["value"] (spAlpha K) := ok_alpha HIsAlphabet.F TS HIsText.F bIsText HIsWord.F bIsWord
  have GG : FnOk P w K mg base CX0 1 fIsSign fdIsSign ["value", "signs"] (spIsSgn K) := ok_isSgn HIsSign.F TF
  have GI : FnOk P w K mg base CX0 1 fIsInteger fdIsInteger ["value"] spIsInt := ok_isInt HIsInteger.F TF TP.bool
  have GPc : FnOk P w K mg base CX0 2 fIsPrice fdIsPrice ["value"] spIsPrice := ok_isPrice HIsPrice.F TF ⟨_, PySem.W.mg_of X G aMP⟩ GI bIsInteger HIsInteger.g HIsInteger.F.kp
  have GOf : FnOk P w K mg base CX0 2 fAreOfSigns fdAreOfSigns ["told", "signs"] spOfSigns := ok_ofSigns HAreOfSigns.F TF TP.dict GG bIsSign HIsSign.g HIsSign.F.kp
  have GFl : FnOk P w K mg base CX0 3 fFilled fdFilled ["told", "signs"] spFilled := ok_filled HFilled.F TF GPc bIsPrice HIsPrice.g HIsPrice.F.kp
  have FP : FnOk P w K mg base CX0 4 fPInit fdPInit nPInit (spPInit C) := ok_pinit MPInit CP GA bIsAlphabet HIsAlphabet.g HIsAlphabet.F.kp GOf bAreOfSigns HAreOfSigns.g HAreOfSigns.F.kp GFl bFilled HFilled.g HFilled.F.kp
  have FRt : FnOk P w K mg base CX0 2 fRInit fdRInit ["self", "price", "weight"] (spRInit R) := ok_rinit MRInit CR (PySem.W.mg_of X G aG) GI bIsInteger HIsInteger.g HIsInteger.F.kp
  have mPeek : Meth K D "peek" fPeek := ⟨dPeek1, dPeek2, MPeek.kp⟩
  have mTake : Meth K D "take" fTake := ⟨dTake1, dTake2, MTake.kp⟩
  have mExpect : Meth K D "expect" fExpect := ⟨dExpect1, dExpect2, MExpect.kp⟩
  have mFinish : Meth K D "finish" fFinish := ⟨dFinish1, dFinish2, MFinish.kp⟩
  have GTake : FnOk P w K mg base (L2.CX P w) 3 fTake fdTake ["self", "stands"] (spTake D CBadText) := ok_take MTake CD ZX
  have GPeek : FnOk P w K mg base CX0 1 fPeek fdPeek ["self"] (spPeek D) := ok_peek MPeek TF CD
  have GExp : FnOk P w K mg base (L2.CX P w) 4 fExpect fdExpect ["self", "word"] (spExpect D CBadText) := ok_expect MExpect CD GTake qTake mTake GPeek qPeek mPeek
  have GFin : FnOk P w K mg base (L2.CX P w) 3 fFinish fdFinish ["self"] (spFinish D CBadText) := ok_finish MFinish TF CD ZX
  have GSi : FnOk P w K mg base (L2.CX P w) 5 fTakeSigns fdTakeSigns ["cursor"] (spTakeSigns D CBadText) := ok_takeSigns HTakeSigns.F CD GTake qTake mTake GPeek qPeek mPeek GExp qExpect mExpect GA bIsAlphabet HIsAlphabet.g HIsAlphabet.F.kp
  have GTn : FnOk P w K mg base (L2.CX P w) 4 fTakeNumbers fdTakeNumbers ["cursor", "signs"] (spTn D CBadText) := ok_tn HTakeNumbers.F TF CD ⟨_, PySem.W.mg_of X G aPD⟩ GTake qTake mTake GPeek qPeek mPeek GG bIsSign HIsSign.g HIsSign.F.kp
  have GTp : FnOk P w K mg base (L2.CX P w) 6 fTakePrices fdTakePrices ["cursor", "signs"] (spTp D CBadText C) := ok_tp HTakePrices.F CD CP GTn bTakeNumbers HTakeNumbers.g HTakeNumbers.F.kp GExp qExpect mExpect MC FP qP4
  have GR : FnOk P w K mg base (L2.CX P w) 7 fPRead fdPRead ["cls", "text"] (spPReadA K CBadText C) := KU.or_fn (ok_pread MPRead CD MD (ok_curInit MUInit TF CD) qUInit GSi bTakeSigns HTakeSigns.g HTakeSigns.F.kp GTp bTakePrices HTakePrices.g HTakePrices.F.kp GFin qFinish mFinish) (ok_preadX MPRead CD MD (ok_curInitX MUInit TF ZX) qUInit)
  have GPs : FnR P w K mg base CX0 1 fPStr (spStrPr C) := fnr_of (ok_pstr MPStr TF CP) qPStr
  have GRs : FnR P w K mg base CX0 1 fRStr (spRStr R) := fnr_of (ok_rstr MRStr TF CR) qRStr
  have GR2 : FnOk P w K mg base (L2.CX P w) 6 fRRead fdRRead ["cls", "text"] (spRReadA K CBadText R) := KU.or_fn (ok_rread (fdI := fdRInit) MRRead TF CR ⟨_, PySem.W.mg_of X G aDG⟩ ZX GX bIsText HIsText.g HIsText.F.kp MR FRt qR3 ust1 ust2 GRs) (ok_rreadX MRRead TF ZX)
  have S : AsksP P w K mg base C CF CBadText fPRead fLawHeard pOf fPStr (.type "type") fdPRead fdLawHeard :=
    { T := TP, CP := CP, E := { gF := PySem.W.mg_of X G aF, gX := ZX.gC, xX := ZX.exc, nX1 := ZX.no _ List.mem_cons_self, nX2 := ZX.no _ (List.mem_cons_of_mem _ List.mem_cons_self), tX := e0, iXX := e1 }
      cr := ⟨brd1, brd2⟩, cm := ⟨cf, ⟨_, cr⟩, brd3⟩, GR := GR, bR := qPRead
      bRK := fun s' ws hs hl => by
        obtain ⟨oc2, od2, kV2, doc2, pm2, an2, cdv2, ct2, osl2, rfl, _, _⟩ := MPRead.ex
        exact match ws, hl with | [_], _ => .of_eq rfl
      FH := HLawHeard.F.ex, bH := bLawHeard, gH := HLawHeard.g, kH := HLawHeard.F.kp, hSt := bst1, iSt := bst2, GSt := GPs }
  have GWr : FnOk P w K mg base CX0 2 fLawWrong fdLawWrong ["_law_words"] spLWr := ok_lwr HLawWrong.F TF (ok_lal HLawIsAlphabet.F TF TP.set) bLawIsAlphabet HLawIsAlphabet.g HLawIsAlphabet.F.kp
  have GRt : FnG P w K mg base CX0 10 fLawRight fdLawRight ["_law_text_so"] (spRight (tabsOf [(c1, p1), (c2, p2), (c3, p3)])) := ok_right HLawRight.F S GWr bLawWrong HLawWrong.g HLawWrong.F.kp TB1 k1 List.mem_cons_self (alln (p := fun q : Addr × Str => q.1 = p1 → q.2 = ("_law_right.<locals>.<lambda>" : Str)) (fun _ => rfl) (fun z => absurd z n12.symm) (fun z => absurd z n13.symm))
  have U : UsesP P w K mg base C fPInit fPEq fLawRight fLawBent fLawDraw fLawPick fdPInit fdLawRight fdLawBent fdLawDraw fdLawPick (tabsOf [(c1, p1), (c2, p2), (c3, p3)]) :=
    { M := MC, FI := FP, bI := qP4, hNe := bne, hEq := beq1, iEq := beq2, GEq := fnr_of (ok_peq MPEq TF CP) qPEq
      gRt := HLawRight.g, kRt := HLawRight.F.kp, GRt := GRt, bRt := bLawRight
      gBt := HLawBent.g, kBt := HLawBent.F.kp, GBt := ok_bent HLawBent.F TD HLawPick.F bLawPick HLawDraw.F bLawDraw, bBt := bLawBent
      DT := TD, GD := ok_draw HLawDraw.F TF, bD := bLawDraw, GP := ok_pick HLawPick.F TD HLawDraw.F bLawDraw, bP := bLawPick }
  have A2 : AsksR P w K mg base R CBadText fRRead pOf2 fRStr fREq fRInit fLawRateText (.type "type") fdRRead fdRInit fdLawRateText :=
    { CR := CR, kS := uks, cr := ⟨urd1, urd2⟩, cm := ⟨cf2, ⟨_, cr2⟩, urd3⟩, GR := GR2, bR := qRRead
      bRK := fun s' ws hs hl => by
        obtain ⟨oc2, od2, kV2, doc2, pm2, an2, cdv2, ct2, osl2, rfl, _, _⟩ := MRRead.ex
        exact match ws, hl with | [_], _ => .of_eq rfl
      hSt := ust1, iSt := ust2, GSt := GRs, hNe := une, hEq := ueq1, iEq := ueq2, GEq := fnr_of (ok_req MREq TF CR) qREq
      M := MR, FI := FRt, bI := qR3, gRT := HLawRateText.g, kRT := HLawRateText.F.kp, GRT := ok_rt HLawRateText.F TF, bRT := bLawRateText }
  exact FnG.imp (ok_law18 HLaw.F S U A2 bks qP2 vP2 HLawPen.g HLawPen.F.kp (ok_pen HLawPen.F TF) bLawPen HLawPricesRight.g HLawPricesRight.F.kp (ok_pr HLawPricesRight.F S U) bLawPricesRight HLawRatesRight.g HLawRatesRight.F.kp (ok_rr HLawRatesRight.F S U A2 TB2 k2 (List.mem_cons_of_mem _ List.mem_cons_self) (alln (p := fun q : Addr × Str => q.1 = p2 → q.2 = ("_law_rates_right.<locals>.<lambda>" : Str)) (fun z => absurd z n12) (fun _ => rfl) (fun z => absurd z n23.symm))) bLawRatesRight TB3 k3 (List.mem_cons_of_mem _ (List.mem_cons_of_mem _ List.mem_cons_self)) (alln (p := fun q : Addr × Str => q.1 = p3 → q.2 = ("law.<locals>.<lambda>" : Str)) (fun z => absurd z n13) (fun z => absurd z n23) (fun _ => rfl))) fun vs H Q E ⟨a, ns, e1, e2, e3, e4, e5⟩ => ⟨a, ns, e1, e2, e3, tabs_start e4, e5⟩
end K02

set_option Elab.async false
set_option linter.all false
set_option maxRecDepth 100000
open PySem PySem.W PyProof.Rows
set_option maxRecDepth 100000 in
set_option maxHeartbeats 0 in
theorem PySem.Challenge.cw_flagfree_k18_texts_of_prices_and_rates_holds : PySem.Challenge.rw_flagfree_k18_texts_of_prices_and_rates.Holds := by
  w_on; o_law; k_head; (case hw => w_witness2)
  k_fill
  refine KU.end_ofT (l := PySem.Challenge.rw_flagfree_k18_texts_of_prices_and_rates) (n := 63) (k := 14) (x := "_law_script") (sp := K02.spLawC) ["_law_right", "_law_rates_right", "law"] rfl (by decide) rfl ⟨rfl, by decide, by decide⟩ (fun w h Y => PySem.W.km_in_of Y) ?xs ?F (fun K cs H a ns hl hT hS => ⟨a, ns, rfl, hS, hl, hT, fun _ => rfl⟩)
  (case xs => kernel_rfl)
  case F =>
    intro w mg fa h KX G hmg
    refine' K02.law_of KX G hmg ?fr ?aS ?aDG ?aPD ?aMP ?aG ?aC ?aR ?aD ?aF ?cPStr ?cPEq ?cRStr ?cREq ?cUInit ?cPeek ?cTake ?cExpect ?cFinish ?cPInit ?cRInit ?cf ?cr ?cf2 ?cr2 ?cB ?rB ?uB ?gb ?eB (KU.clf_mk KX G ?eaBadText ?exBadText ?eiBadText ?elBadText ?ehBadText ?ebBadText) (K02.fnf_mk KX G ?aIsInteger ?lIsInteger ?bIsInteger) (K02.fnf_mk KX G ?aIsText ?lIsText ?bIsText) (K02.fnf_mk KX G ?aIsWord ?lIsWord ?bIsWord) (K02.fnf_mk KX G ?aIsSign ?lIsSign ?bIsSign) (K02.fnf_mk KX G ?aIsAlphabet ?lIsAlphabet ?bIsAlphabet) (K02.fnf_mk KX G ?aTakeSigns ?lTakeSigns ?bTakeSigns) (K02.fnf_mk KX G ?aIsPrice ?lIsPrice ?bIsPrice) (K02.fnf_mk KX G ?aAreOfSigns ?lAreOfSigns ?bAreOfSigns) (K02.fnf_mk KX G ?aFilled ?lFilled ?bFilled) (K02.fnf_mk KX G ?aTakeNumbers ?lTakeNumbers ?bTakeNumbers) (K02.fnf_mk KX G ?aTakePrices ?lTakePrices ?bTakePrices) (K02.fnf_mk KX G ?aLawPen ?lLawPen ?bLawPen) (K02.fnf_mk KX G ?aLawDraw ?lLawDraw ?bLawDraw) (K02.fnf_mk KX G ?aLawPick ?lLawPick ?bLawPick) (K02.fnf_mk KX G ?aLawIsAlphabet ?lLawIsAlphabet ?bLawIsAlphabet) (K02.fnf_mk KX G ?aLawWrong ?lLawWrong ?bLawWrong) (K02.fnf_mk KX G ?aLawHeard ?lLawHeard ?bLawHeard) (K02.fnf_mk KX G ?aLawBent ?lLawBent ?bLawBent) (K02.fnf_mk KX G ?aLawPricesRight ?lLawPricesRight ?bLawPricesRight) (K02.fnf_mk KX G ?aLawRateText ?lLawRateText ?bLawRateText) (K02.fnf_mk KX G ?aLawRight ?lLawRight ?bLawRight) (K02.fnf_mk KX G ?aLawRatesRight ?lLawRatesRight ?bLawRatesRight) (K02.met_mk ?mPRead ?nPRead) (K02.met_mk ?mPStr ?nPStr) (K02.met_mk ?mPEq ?nPEq) (K02.met_mk ?mRRead ?nRRead) (K02.met_mk ?mRStr ?nRStr) (K02.met_mk ?mREq ?nREq) (K02.met_mk ?mUInit ?nUInit) (K02.met_mk ?mPeek ?nPeek) (K02.met_mk ?mTake ?nTake) (K02.met_mk ?mExpect ?nExpect) (K02.met_mk ?mFinish ?nFinish) (K02.metD_mk ?mPInit ?nPInit ?tPInit ?rPInit (by simp)) (K02.metD_mk ?mRInit ?nRInit ?tRInit ?rRInit (by simp)) ?x1 ?x2 ?k1 ?k2 ?k3 ?q1 ?q2 ?q3 ?r1 ?r2 ?r3 ?n12 ?n13 ?n23 ?n1 ?n2 ?n3 ?aL ?lL ?bL
    (case aS => k_is)
    (case aDG => k_is)
    (case aPD => k_is)
    (case aMP => k_is)
    (case aG => k_is)
    (case aC => k_is)
    (case aR => k_is)
    (case aD => k_is)
    (case aF => k_is)
    (case cPStr => k_is)
    (case cPEq => k_is)
    (case cRStr => k_is)
    (case cREq => k_is)
    (case cUInit => k_is)
    (case cPeek => k_is)
    (case cTake => k_is)
    (case cExpect => k_is)
    (case cFinish => k_is)
    (case cPInit => k_is)
    (case cRInit => k_is)
    (case cf => k_is)
    (case cr => k_is)
    (case cf2 => k_is)
    (case cr2 => k_is)
    (case eaBadText => k_is)
    (case exBadText => k_is)
    (case eiBadText => k_is)
    (case elBadText => k_is)
    (case ehBadText => rfl)
    (case aIsInteger => k_is)
    (case aIsText => k_is)
    (case aIsWord => k_is)
    (case aIsSign => k_is)
    (case aIsAlphabet => k_is)
    (case aTakeSigns => k_is)
    (case aIsPrice => k_is)
    (case aAreOfSigns => k_is)
    (case aFilled => k_is)
    (case aTakeNumbers => k_is)
    (case aTakePrices => k_is)
    (case aLawPen => k_is)
    (case aLawDraw => k_is)
    (case aLawPick => k_is)
    (case aLawIsAlphabet => k_is)
    (case aLawWrong => k_is)
    (case aLawHeard => k_is)
    (case aLawBent => k_is)
    (case aLawPricesRight => k_is)
    (case aLawRateText => k_is)
    (case aLawRight => k_is)
    (case aLawRatesRight => k_is)
    (case lIsInteger => k_is)
    (case lIsText => k_is)
    (case lIsWord => k_is)
    (case lIsSign => k_is)
    (case lIsAlphabet => k_is)
    (case lTakeSigns => k_is)
    (case lIsPrice => k_is)
    (case lAreOfSigns => k_is)
    (case lFilled => k_is)
    (case lTakeNumbers => k_is)
    (case lTakePrices => k_is)
    (case lLawPen => k_is)
    (case lLawDraw => k_is)
    (case lLawPick => k_is)
    (case lLawIsAlphabet => k_is)
    (case lLawWrong => k_is)
    (case lLawHeard => k_is)
    (case lLawBent => k_is)
    (case lLawPricesRight => k_is)
    (case lLawRateText => k_is)
    (case lLawRight => k_is)
    (case lLawRatesRight => k_is)
    (case mPRead => k_is)
    (case mPStr => k_is)
    (case mPEq => k_is)
    (case mRRead => k_is)
    (case mRStr => k_is)
    (case mREq => k_is)
    (case mUInit => k_is)
    (case mPeek => k_is)
    (case mTake => k_is)
    (case mExpect => k_is)
    (case mFinish => k_is)
    (case mPInit => k_is)
    (case mRInit => k_is)
    (case tPInit => k_is)
    (case tRInit => k_is)
    (case rPInit => exact ⟨[_, _], rfl, .cons rfl (.cons rfl .nil)⟩)
    (case rRInit => exact ⟨[_], rfl, .cons ⟨_, rfl⟩ .nil⟩)
    (case aL => k_is)
    (case lL => k_is)
    (case x1 => k_is)
    (case x2 => k_is)
    (case k1 => rfl)
    (case k2 => rfl)
    (case k3 => rfl)
    (case q1 => k_is)
    (case q2 => k_is)
    (case q3 => k_is)
    (case r1 => rfl)
    (case r2 => rfl)
    (case r3 => rfl)
    (case n12 => decide)
    (case n13 => decide)
    (case n23 => decide)
    (case n1 => kernel_rfl)
    (case n2 => kernel_rfl)
    (case n3 => kernel_rfl)
    (case ebBadText => kernel_rfl)
    (case bIsInteger => kernel_rfl)
    (case bIsText => kernel_rfl)
    (case bIsWord => kernel_rfl)
    (case bIsSign => kernel_rfl)
    (case bIsAlphabet => kernel_rfl)
    (case bTakeSigns => kernel_rfl)
    (case bIsPrice => kernel_rfl)
    (case bAreOfSigns => kernel_rfl)
    (case bFilled => kernel_rfl)
    (case bTakeNumbers => kernel_rfl)
    (case bTakePrices => kernel_rfl)
    (case bLawPen => kernel_rfl)
    (case bLawDraw => kernel_rfl)
    (case bLawPick => kernel_rfl)
    (case bLawIsAlphabet => kernel_rfl)
    (case bLawWrong => kernel_rfl)
    (case bLawHeard => kernel_rfl)
    (case bLawBent => kernel_rfl)
    (case bLawPricesRight => kernel_rfl)
    (case bLawRateText => kernel_rfl)
    (case bLawRight => kernel_rfl)
    (case bLawRatesRight => kernel_rfl)
    (case nPRead => kernel_rfl)
    (case nPStr => kernel_rfl)
    (case nPEq => kernel_rfl)
    (case nRRead => kernel_rfl)
    (case nRStr => kernel_rfl)
    (case nREq => kernel_rfl)
    (case nUInit => kernel_rfl)
    (case nPeek => kernel_rfl)
    (case nTake => kernel_rfl)
    (case nExpect => kernel_rfl)
    (case nFinish => kernel_rfl)
    (case nPInit => kernel_rfl)
    (case nRInit => kernel_rfl)
    (case bL => kernel_rfl)
    (case fr => kernel_rfl)
    (case cB => kernel_rfl)
    (case rB => kernel_rfl)
    (case uB => kernel_rfl)
    (case gb => kernel_rfl)
    (case eB => kernel_rfl)
