import PyProof.Rows.All
import Wide.All
import OpenK.AllK
import Wide.FinOn
import HandS.ForMost
import HandS.ExcInit
import HandS.Evl
import HandS.Wide
import KE.KExcIs
import HandS.ExcIs
import HandS.IsInst
import HandS.Defaults
import HandS.ExcOwn
import HandS.ExcValue
import HandS.Star
import HandS.SlotsOwn
import KE.KOpsOwn
import KE.KCallOwn
import KE.KOwnIter
import HandS.IterVal
import HandS.IterNext
import HandS.Walk
import HandS.StrMore
import HandS.RaiseMore
import HandS.SortKw
import KE.SortKeyHeap
import HandS.DictComp
import HandS.FStr
import HandS.ClsMeth
import HandS.Lambda
import HandS.EndTab
import KE.KNest
import PyProof.EqAt
import PyProof.EqKinds
import PyProof.TupleCall
import HandS.Base
import HandS.Call
import HandS.List
import HandS.Set
import HandS.Strs
import HandS.SetFor
import HandS.Flow
import HandS.WordsDict
import HandS.WordsExc
import PyProof.StrLawsRepr
import HandS.Style
import PyProof.SliceStr2
import PyProof.Rows.StrRev
import KE.KRevSl
import PyProof.SetRoads
import PyProof.StrLawsTight
import PyProof.StrLawsChain
import HandS.Text
import HandS.ListItems
import HandS.Small
import HandS.More
import PySem.Challenge.RW_flagfree_k07_signs_exchanged
set_option Elab.async false
set_option linter.all false
set_option maxRecDepth 100000
set_option maxHeartbeats 4000000
/-! An own exception class called with keywords too: type.__call__, the base's __new__, the own __init__ -/
namespace PySem
namespace KUx
open Builtin Builtin.ObjectAttr HandSPX
section
variable {M : Model} {A : Around} {E : Value → Shared → Prop} {hh : Heap} {gg : Array GenState} {dw : Drawn} {tt : Nat} {os : OsState}
variable {nm q : Str} {C N : Addr} {bs bm bmB : List Value} {hdct : Bool} {sn : List Str} {sub : List Value} {ab : Bool} {col : Option Bool} {dd : Option Addr} {k0 k1 k2 k3 k5 : Option Value} {B newId initId : String}
theorem kw_check_new (F : ExcBaseFacts B newId initId bmB) (hT : ∀ X : String, bm.contains (.type X) = bmB.contains (.type X)) {pos : List Value} {kw : List (Str × Value)}
    {Q : Unit → Shared → Prop} (hC : hh.get? C = some (excClassObj nm q C N bs bm hdct sn sub ab col dd k0 k1 k2 k3 k5 newId))
    (done : Q () ⟨hh, gg, dw, tt, os⟩) : wpAny M A (checkBuiltinCall newId ⟨.ref C :: pos, kw⟩) Q E ⟨hh, gg, dw, tt, os⟩ := by
  have inB : (Value.ref C :: bm).contains (.type B) = true := by
    rw [List.contains_cons, hT, F.hasB]
    exact Bool.or_true _
  have star := F.noStar
  simp only [checkBuiltinCall, F.newRow, F.newKind, F.newSplit]
  repeat (first
    | refine wpAny_loadPart_at hC ?_
    | (refine wpAny_isSubtype_exc hC ?_
       rw [inB])
    | refine wpAny_staticBase_exc hC ?_
    | refine wpAny_madeBy_exc hC ?_
    | simp only [if_false, Bool.false_eq_true, bne_self_eq_false]
    | wp_step)
  exact done
end
section
variable {prog : Program} {w : World} {A : Around} {E : Value → Shared → Prop} {R : Result → Shared → Prop} {hh : Heap} {gg : Array GenState} {dw : Drawn} {tt : Nat} {os : OsState}
variable {nm q : Str} {C N : Addr} {bs bm bmB : List Value} {hdct : Bool} {sn : List Str} {sub : List Value} {ab : Bool} {col : Option Bool} {dd : Option Addr} {k0 k1 k2 k3 k5 : Option Value} {B newId initId : String}
theorem kw_new (F : ExcBaseFacts B newId initId bmB) (hT : ∀ X : String, bm.contains (.type X) = bmB.contains (.type X)) {pos : List Value} {kw : List (Str × Value)}
    (hC : hh.get? C = some (excClassObj nm q C N bs bm hdct sn sub ab col dd k0 k1 k2 k3 k5 newId))
    (done : R (.ok (.ret (.ref (hh.objs.size + 1)))) ⟨(hh.push (W.kdv_tup pos)).push (excO C hh.objs.size), gg, dw, tt, os⟩)
    (small : pos.length ≤ sizeLine) : codeAny (model prog w) A (.builtin newId ⟨.ref C :: pos, kw⟩) R ⟨hh, gg, dw, tt, os⟩ := by
  have ends := F.ends
  have inB : (Value.ref C :: bm).contains (.type B) = true := by
    rw [List.contains_cons, hT, F.hasB]
    exact Bool.or_true _
  have noA : (Value.ref C :: bm).contains (.type "AttributeError") = false := by
    rw [List.contains_cons, hT, F.noAttr]
    rfl
  have noN : (Value.ref C :: bm).contains (.type "NameError") = false := by
    rw [List.contains_cons, hT, F.noName]
    rfl
  refine codeAny_builtinAt F.entry ?_
  unfold Builtin.«BaseException.__new__»
  refine wpAt_bind ?_
  show wpAt _ _ _ (stack >>= _) _ _ _
  refine wpAt_bind (wpAt_stack fun p below => wpAt_of_wpAny ?_)
  wp_walk
  refine wpAt_of_wpAny ?_
  rw [F.owner]
  repeat (first
    | with_reducible refine wpAny_madeHere_exc F.canon hC ?_
    | with_reducible refine wpAny_loadPart_at hC ?_
    | (with_reducible refine wpAny_isSubtype_exc hC ?_
       first | rw [inB] | rw [noA] | rw [noN])
    | wp_step)
  show R _ _
  rw [Heap.size_push]
  exact done

theorem kw_type_call (F : ExcBaseFacts B newId initId bmB) (hT : ∀ X : String, bm.contains (.type X) = bmB.contains (.type X)) {pos : List Value} {kw : List (Str × Value)} {fI : Addr}
    {Q : Fin → Shared → Prop} (hC : hh.get? C = some (excClassObj nm q C N bs bm hdct sn sub ab col dd k0 k1 k2 k3 k5 newId))
    (hi : W.Looks (model prog w) hh (typeLookup (.ref C) "__init__") (some (.ref fI)))
    (hb : ∀ self, W.Looks (model prog w) hh (bindSpecial (.ref fI) self) (.ref fI, [self])) (small : pos.length ≤ sizeLine)
    (run : codeAny (model prog w) A (.call (.ref fI) ⟨.ref (hh.objs.size + 1) :: pos, kw⟩)
      (fun r s' => match r with
        | .ok (.ret v) => v = .none ∧ Q (.done (.ret (.ref (hh.objs.size + 1)))) s'
        | .ok _ => False
        | .error e => E e s')
      ⟨(hh.push (W.kdv_tup pos)).push (excO C hh.objs.size), gg, dw, tt, os⟩) :
    wpAny (model prog w) A (Builtin.«type.__call__» ⟨.ref C :: pos, kw⟩) Q E ⟨hh, gg, dw, tt, os⟩ := by
  repeat (first
    | with_reducible refine wpAny_loadPart_at hC ?_
    | with_reducible refine wpAny_madeBy_exc hC ?_
    | wp_step)
  refine codeAny_call_builtin_code (Code.quiet_builtin _ F.quiet) (kw_check_new F hT hC ?_)
  refine kw_new F hT hC ?_ small
  show wpAny _ _ _ _ _ _
  have keep : ∀ b o, hh.get? b = some o → ((hh.push (W.kdv_tup pos)).push (excO C hh.objs.size)).get? b = some o := fun b o e =>
    Heap.get?_push_of_some _ (Heap.get?_push_of_some _ e)
  have hC1 := keep _ _ hC
  have here : ((hh.push (W.kdv_tup pos)).push (excO C hh.objs.size)).get? (hh.objs.size + 1) = some (excO C hh.objs.size) := by heap_get
  have inC : (Value.ref C :: bm).contains (.ref C) = true := by simp
  have i1 := hi.keeps keep
  have b1 := (hb (.ref (hh.objs.size + 1))).keeps keep
  unfold isInstance
  repeat (first
    | with_reducible refine wpAny_loadPart_at here ?_
    | (with_reducible refine wpAny_isSubtype_exc hC1 ?_
       rw [inC])
    | wp_step)
  show wpAny _ _ (typeLookup (.ref C) _) _ _ _
  refine i1.at ?_
  refine wpAny_holding (wpAny_bind (b1.at ?_))
  refine wpAny_bind (wpAny_call (codeAny_mono run fun r s' z => ?_))
  cases r with
  | error e => exact z
  | ok fl =>
    cases fl with
    | ret v =>
      obtain ⟨rfl, z⟩ := z
      first
        | exact wpAny_pure (wpAny_pure z)
        | (wp_walk
           exact z)
        | wp_walk
    | next => exact z.elim
    | brk => exact z.elim
    | cont => exact z.elim

/-- C(e, .., k = v, ..) of an own exception class with its own __init__ at fI -/
theorem kw_call (F : ExcBaseFacts B newId initId bmB) (hT : ∀ X : String, bm.contains (.type X) = bmB.contains (.type X)) {pos : List Value} {kw : List (Str × Value)} {fI : Addr}
    (hC : hh.get? C = some (excClassObj nm q C N bs bm hdct sn sub ab col dd k0 k1 k2 k3 k5 newId))
    (hi : W.Looks (model prog w) hh (typeLookup (.ref C) "__init__") (some (.ref fI)))
    (hb : ∀ self, W.Looks (model prog w) hh (bindSpecial (.ref fI) self) (.ref fI, [self])) (small : pos.length ≤ sizeLine)
    (run : codeAny (model prog w) (A.under (.builtin "type.__call__" ⟨.ref C :: pos, kw⟩)) (.call (.ref fI) ⟨.ref (hh.objs.size + 1) :: pos, kw⟩)
      (W.InitBack (hh.objs.size + 1) R) ⟨(hh.push (W.kdv_tup pos)).push (excO C hh.objs.size), gg, dw, tt, os⟩) :
    codeAny (model prog w) A (.call (.ref C) ⟨pos, kw⟩) R ⟨hh, gg, dw, tt, os⟩ := by
  have f1 := tc_lookup
  have f2 := tc_bind (.ref C)
  have hTy : (⟨hh, gg, dw, tt, os⟩ : Shared).TypeIs (.ref C) "type" := ⟨_, hC, rfl⟩
  refine codeAny_of_tree ?_
  show wpAny _ _ (callAny (.ref C) _) _ _ _
  repeat (any_goals (first
    | assumption
    | with_reducible refine wpAny_loadPart_at hC ?_
    | wp_step))
  refine ⟨rfl, ?_⟩
  refine codeAny_call_builtin_at (Code.quiet_builtin _ (by decide +kernel)) entry_typeCall (wpAny_check_type_call_sub hC (kw_type_call F hT hC hi hb small ?_))
  refine codeAny_mono run fun r s' z => ?_
  rcases r with e | (v | _ | _ | _) <;> exact z
end
end KUx
end PySem

set_option Elab.async false
set_option linter.all false
set_option maxRecDepth 100000
set_option maxHeartbeats 4000000
/-! Own rules over the hand layer: defs that know that no repr is under way, own errors as values, repr of data -/
namespace KU
open PySem PySem.Spec PyProof.Rows L2

/-! ### a def entered where no repr is under way -/
structure FnG (P : Program) (w : World) (K : PySem.W.Frag) (mg : Str → Option Value) (base : Heap) (CX : CXT) (k : Nat) (f : Addr) (fd : FuncData) (ps : List Str) (sp : Sp) : Prop where
  many : ∀ vs H Q E, sp vs H Q E → vs.length = ps.length
  goes : ∀ (A : Around) (out : List Env) (s : Shared) (H : Hp) (args : Args) (us : List Value) (vs : List V) (Q : VK) (E : XK), A.guards = some [] → Room k A →
    Env0 P w K mg base A out s H → BindsTo s fd args (ps.zip us) → Vals vs us → sp vs H Q E → codeAny (model P w) A (.call (.ref f) args) (CR CX out P w H s Q E) s
theorem FnG.of {P : Program} {w : World} {K : PySem.W.Frag} {mg : Str → Option Value} {base : Heap} {CX : CXT} {k : Nat} {f : Addr} {fd : FuncData} {ps : List Str} {sp : Sp}
    (F : FnOk P w K mg base CX k f fd ps sp) : FnG P w K mg base CX k f fd ps sp := ⟨F.len, fun A out s H args us vs Q E _ => F.run A out s H args us vs Q E⟩

/-- a def of the text by its body, where no repr is under way -/
theorem FnG.body {P : Program} {w : World} {K : PySem.W.Frag} {mg : Str → Option Value} {base : Heap} {x qual : Str} {st : Stmt} {f : Addr} {fd : FuncData} {N ps : List Str} {k : Nat} {sp : Sp}
    (F : Fun K x qual st f fd) (S : FnScope N ps (defScope st)) (many : ∀ vs H Q E, sp vs H Q E → vs.length = ps.length)
    (walk : ∀ (cdv : Value) (A : Around) (out : List Env) (s : Shared) (H : Hp) (vs : List V) (Q : VK) (E : XK), A.guards = some [] → Room k (A.deeper (envOfC qual (defScope st) s.heap.objs.size f cdv)) → sp vs H Q E →
      ∃ t, PSs (cxOf CX0 P w K mg base N qual (defScope st) f cdv A out s H E).nox (defBody st) t ∧ t { nx := fun _ H' => Q .non H', rt := Q } (start N vs) H) :
    FnG P w K mg base CX0 (k + 1) f fd ps sp := by
  refine ⟨many, fun A out s H args us vs Q E hg hr e0 hb r hsp => ?_⟩
  obtain ⟨oc, od, kV, doc, pm, an, cdv, ct, osl, rfl, lk, hcd⟩ := F.ex
  let sp1 : Sp := fun vs1 H1 Q1 E1 => vs1 = vs ∧ H1 = H ∧ Q1 = Q ∧ E1 = E
  have hl := many _ _ _ _ hsp
  have KX : K.In s.heap := e0.mod.kin.keeps fun b o e => (e0.bs b o e).1
  have lim : s.heap.NoLimit := e0.mod.nolimit.keeps fun b o e => (e0.bs b o e).1
  have kinds : ∀ y ∈ ps.zip us, (defScope st).names.lookup y.1 = some .local ∨ ((defScope st).names.lookup y.1 = some .cell ∧ ((cellsFrom (s.heap.objs.size + 1) (defScope st).names []).lookup y.1).isSome = true) := by
    intro ⟨n, v⟩ hy
    rcases S.par n (List.of_mem_zip hy).1 with q | q
    · exact .inl q
    · exact .inr ⟨q, PySem.W.cellsFrom_some _ _ _ (.inl q)⟩
  refine codeAny_call_function hr.depth (KX _ _ lk) rfl S.co S.gen rfl (PySem.W.codeRec_of KX hcd) (hb _ _ _ _ ?_)
  refine wpAny_newFunctionEnv_cells S.kind kinds fun env he s1 x => ?_
  subst he
  refine ⟨lim.keeps x.toInCall.keep, codeAny_func ?_⟩
  obtain ⟨t, ht, hq⟩ := walk cdv A out s H vs Q E hg (hr.deeper _) hsp
  have I : Inv (cxOf CX0 P w K mg base N qual (defScope st) f cdv A out s H E) [] (start N vs) H s1 := inv_start S hr.hd e0 hl r x
  refine wpAny_mono (ht.nox.run [] s1 (start N vs) H _ I hq) (fun fl s' hs => ?_) fun e s' hs => hs
  have last : ∀ {σ' : L2.St} {H' : Hp} {v : V} {u : Value}, Inv (cxOf CX0 P w K mg base N qual (defScope st) f cdv A out s H E) [] σ' H' s' → RelV v u → Q v H' → CE out P w H s Q u s' := by
    intro σ' H' v u J rv q
    exact ⟨v, H', J.os, J.bare, J.base, J.hok, rv, q⟩
  cases fl with
  | next =>
    obtain ⟨σ', H', J, q⟩ := hs
    exact last (v := V.non) (u := Value.none) J rfl q
  | ret u =>
    obtain ⟨v, σ', H', J, rv, q⟩ := hs
    exact last J rv q
  | brk =>
    obtain ⟨_, _, _, q⟩ := hs
    exact q.elim
  | cont =>
    obtain ⟨_, _, _, q⟩ := hs
    exact q.elim
/-! ### own errors as values -/
/-- an own error at e: of the class at C, its fields fs (none of them: it has no dict) -/
def ErrAt (H : Hp) (e C : Addr) (fs : List (Str × V)) : Prop := (∃ d, H e = some (exo e C (some d)) ∧ H d = some (exd d fs)) ∨ (fs = [] ∧ H e = some (exo e C none))
theorem ErrAt.mono {H H' : Hp} {e C : Addr} {fs : List (Str × V)} (x : Evl.Ex H H') (h : ErrAt H e C fs) : ErrAt H' e C fs := by
  rcases h with ⟨d, h1, h2⟩ | ⟨h1, h2⟩
  · exact .inl ⟨d, x _ _ h1, x _ _ h2⟩
  · exact .inr ⟨h1, x _ _ h2⟩
section
variable {X : Cx} {C fI : Addr} {k : Nat} {fd : FuncData} {ps : List Str} {sp : Sp}
/-- the class is called: positional values us, keywords kw, bound to all -/
theorem run_err {pins : List (Addr × Obj)} {σ : L2.St} {H : Hp} {s : Shared} {Q : VK} {us all : List Value} {kw : List (Str × Value)} {vs : List V}
    (T : OexC X.K C) (iC : PySem.W.findIn X.K (.ref C) "__init__" = some (some (.ref fI))) (tI : PySem.W.typeIn X.K (.ref fI) = some (.type "function"))
    (F1 : FnOk X.prog X.w X.K X.mg X.base CX0 k fI fd ps sp) (hr : Room (k + 1) X.A) (I : Inv X pins σ H s) (r : Vals vs all) (small : us.length ≤ 1000)
    (hb : ∀ (s' : Shared) (a : Addr), X.K.In s'.heap → BindsTo s' fd ⟨.ref a :: us, kw⟩ (ps.zip (.ref a :: all)))
    (hq : ∀ a, H a = none → sp (.ref a :: vs) (upd H a (exo a C none)) (fun v H2 => v = .non ∧ Q (.ref a) H2) fun _ _ _ => False) :
    wpAny (model X.prog X.w) X.A (call (.ref C) us kw) (EP X pins σ Q) X.xe s := by
  obtain ⟨nm, q, N, bs, bm, sn, sub, ab, col, dd, k0, k1, k2, k3, k5, hC, hbm⟩ := T.cls
  obtain ⟨hp, g, dr, tk, os⟩ := s
  have above : hp.objs.size ≤ hp.objs.size + 1 := Nat.le_succ _
  have free := I.hok.fresh above
  have want := hq (hp.objs.size + 1) free
  have kp : ∀ b o, hp.get? b = some o → ((hp.push (PySem.W.kdv_tup us)).push (PySem.HandSPX.excO C hp.objs.size)).get? b = some o := fun b o e =>
    Heap.get?_push_of_some _ (Heap.get?_push_of_some _ e)
  have here : ((hp.push (PySem.W.kdv_tup us)).push (PySem.HandSPX.excO C hp.objs.size)).get? (hp.objs.size + 1) = some (PySem.HandSPX.excO C hp.objs.size) := by heap_get
  have I2 : Inv X pins σ (upd H (hp.objs.size + 1) (exo (hp.objs.size + 1) C none)) ⟨(hp.push (PySem.W.kdv_tup us)).push (PySem.HandSPX.excO C hp.objs.size), g, dr, tk, os⟩ :=
    I.laid (t' := tk) (a := hp.objs.size + 1) (o := exo (hp.objs.size + 1) C none) (h' := (hp.push (PySem.W.kdv_tup us)).push (PySem.HandSPX.excO C hp.objs.size)) kp above (exo_ok here)
  have sz : us.length ≤ sizeLine := by
    rw [sizeLine_eq]
    omega
  refine wpAny_call (PySem.KUx.kw_call PySem.F.excBase_ValueError (fun Y => PySem.HandSPX.refsVE_contains Y bm hbm) (I.kIn _ _ hC) (PySem.W.looks_findIn I.kIn iC)
    (fun self => PySem.W.bind_fn I.kIn self tI) sz ?_)
  refine codeAny_mono (F1.run _ X.stack _ _ ⟨.ref (hp.objs.size + 1) :: us, kw⟩ (.ref (hp.objs.size + 1) :: all) (.ref (hp.objs.size + 1) :: vs) _ (fun _ _ _ => False)
    (hr.make C us kw) (I2.env0.make C us kw) (hb _ _ I2.kIn) (.cons rfl r) want) fun res s' back => ?_
  cases res with
  | error er => exact back.elim
  | ok fl =>
    cases fl with
    | ret u =>
      obtain ⟨v, H', I3, rv, ev, q3⟩ := I2.after back
      subst ev
      exact ⟨rv, ⟨V.ref (hp.objs.size + 1), H', I3, rfl, q3⟩⟩
    | next => exact back.elim
    | brk => exact back.elim
    | cont => exact back.elim
variable {x : Str} {p pos : Pos} {e : Expr} {es : List Expr} {kws : List Keyword} {ta tk : TA} {ks : List Str} {g : List Value → List Value → List Value} {gV : List V → List V → List V}
/-- C(e, ..) as a value -/
def tErr (C : Addr) (sp : Sp) (ta : TA) : TE := fun σ H Q => ta σ H fun vs H1 => vs.length ≤ 1000 ∧ ∀ a, H1 a = none →
  sp (.ref a :: vs) (upd H1 a (exo a C none)) (fun v H2 => v = .non ∧ Q (.ref a) H2) fun _ _ _ => False
theorem pe_err (T : OexC X.K C) (iC : PySem.W.findIn X.K (.ref C) "__init__" = some (some (.ref fI))) (tI : PySem.W.typeIn X.K (.ref fI) = some (.type "function"))
    (F1 : FnOk X.prog X.w X.K X.mg X.base CX0 k fI fd ps sp) (hr : Room (k + 1) X.A) (hb : Binds X.K fd ps []) (gC : X.mg x = some (.ref C)) (ha : PA X (e :: es) ta)
    (hg : Gl X x := by rfl) (hdb : (x == ("__debug__" : Str)) = false := by decide) (he : starEach (e :: es) X.env = (false, eval e X.env) :: starEach es X.env := by rfl)
    (hpl : (backTo pos (starEach es X.env)).any (·.1) = false := by rfl) : PE X (.Call (.Name x p) (e :: es) [] pos) (tErr C sp ta) := by
  refine ⟨fun pins s σ H Q I h => ?_⟩
  refine wpAny_Call_Name_kw (ld_glob I hg gC ?_ hdb)
  refine PySem.W.callWith_K (h₀ := X.base) I.ok.mod.kin T.kC (thn (ha.run pos pins s σ H _ I h) fun us s1 ⟨vs, H1, I1, r1, hz, q1⟩ => ⟨I1.kIn, ?_⟩) he hpl
  have hl := F1.len _ _ _ _ (q1 (s1.heap.objs.size + 1) (I1.hok.fresh (Nat.le_succ _)))
  refine run_err (us := us) (all := us) (kw := []) (vs := vs) T iC tI F1 hr I1 r1 (by rw [← r1.length]; exact hz) (fun s' a kin => ?_) q1
  have z := hb s' (.ref a :: us) kin (by
    rw [List.append_nil, ← hl, List.length_cons, List.length_cons, r1.length])
  rw [List.append_nil] at z
  exact z
/-- C(k = v, ..) as a value -/
def tErrK (C : Addr) (n : Nat) (sp : Sp) (gV : List V → List V) (tk : TA) : TE := fun σ H Q => tk σ H fun zs H1 => zs.length = n ∧ zs.length ≤ 1000 ∧ ∀ a, H1 a = none →
  sp (.ref a :: gV zs) (upd H1 a (exo a C none)) (fun v H2 => v = .non ∧ Q (.ref a) H2) fun _ _ _ => False
theorem pe_errK {gv : List V → List V} {gu : List Value → List Value} (T : OexC X.K C) (iC : PySem.W.findIn X.K (.ref C) "__init__" = some (some (.ref fI)))
    (tI : PySem.W.typeIn X.K (.ref fI) = some (.type "function")) (F1 : FnOk X.prog X.w X.K X.mg X.base CX0 k fI fd ps sp) (hr : Room (k + 1) X.A)
    (hb : ∀ (s' : Shared) (a : Addr) (ws : List Value), X.K.In s'.heap → ws.length = ks.length → BindsTo s' fd ⟨[.ref a], ks.zip ws⟩ (ps.zip (.ref a :: gu ws)))
    (rel : ∀ {zs : List V} {ws : List Value}, Vals zs ws → zs.length = ks.length → Vals (gv zs) (gu ws)) (gC : X.mg x = some (.ref C)) (hk : PK X kws tk)
    (hall : (backToKw pos (keywordEach kws X.env)).all (·.1.isSome) = true := by rfl) (hks : (backToKw pos (keywordEach kws X.env)).filterMap (·.1) = ks := by rfl)
    (hg : Gl X x := by rfl) (hdb : (x == ("__debug__" : Str)) = false := by decide)
    (hpl : ((backTo pos (starEach [] X.env)).any (·.1) || (backToKw pos (keywordEach kws X.env)).any (·.1.isNone)) = false := by rfl) :
    PE X (.Call (.Name x p) [] kws pos) (tErrK C ks.length sp gv tk) := by
  refine ⟨fun pins s σ H Q I h => ?_⟩
  refine wpAny_Call_Name_kw (ld_glob I hg gC ?_ hdb)
  refine PySem.W.callWith_KW0 (h₀ := X.base) I.ok.mod.kin T.kC hall (thn (hk.run pos pins s σ H _ I h) fun ws s1 ⟨zs, H1, I1, r1, hn, hz, q1⟩ => ⟨I1.kIn, ?_⟩) hpl
  rw [hks]
  show wpAny _ _ (call (.ref C) [] (ks.zip ws)) _ _ _
  exact run_err (us := []) (all := gu ws) (kw := ks.zip ws) (vs := gv zs) T iC tI F1 hr I1 (rel r1 hn) (Nat.zero_le _) (fun s' a kin => hb s' a ws kin (by rw [← r1.length]; exact hn)) q1
end

/-! ### what __init__ of such a class promises -/
def spI1 (K : PySem.W.Frag) (f : Str) : Sp := fun vs H Q _ => ∃ (a C : Addr) (y : V), vs = [.ref a, y] ∧ OexC K C ∧ PySem.W.findIn K (.ref C) f = some none ∧ H a = some (exo a C none) ∧
  ∀ dx, H dx = none → dx ≠ a → Q .non (upd (upd H dx (exd dx [(f, y)])) a (exo a C (some dx)))
def spI2 (K : PySem.W.Frag) (f g : Str) : Sp := fun vs H Q _ => ∃ (a C : Addr) (y z : V), vs = [.ref a, y, z] ∧ OexC K C ∧ PySem.W.findIn K (.ref C) f = some none ∧ PySem.W.findIn K (.ref C) g = some none ∧
  H a = some (exo a C none) ∧ ∀ dx H', H dx = none → dx ≠ a → H' a = some (exo a C (some dx)) → H' dx = some (exd dx [(g, z), (f, y)]) → (∀ b, b ≠ a → b ≠ dx → H' b = H b) → Q .non H'

section
variable {X : Cx} {e : Expr} {te : TE} {f : Str} {pos : Pos}
/-- e.f of an own error -/
def tErrF (K : PySem.W.Frag) (f : Str) (te : TE) : TE := fun σ H Q => te σ H fun x H1 => ∃ (a C : Addr) (fs : List (Str × V)) (v : V), x = .ref a ∧ ExcC K C ∧ PySem.W.findIn K (.ref C) f = some none ∧
  ErrAt H1 a C fs ∧ fs.lookup f = some v ∧ Q v H1
theorem pe_errF (he : PE X e te) (hb : attributeBase e f X.env (eval e X.env) = eval e X.env := by rfl) : PE X (.Attribute e f pos) (tErrF X.K f te) := by
  refine ⟨fun pins s σ H Q I h => ?_⟩
  refine attr_of hb (thn (he.run pins s σ H _ I h) fun u s1 ⟨x, H1, I1, rx, a, C, fs, v, ex, T, no, at_, lk, q⟩ => ?_)
  subst ex
  obtain rfl : u = Value.ref a := rx
  rcases at_ with ⟨d, h1, h2⟩ | ⟨h1, _⟩
  · obtain ⟨t1, ho⟩ := exo_at I1.hok h1
    obtain ⟨mA, hns, rel⟩ := exd_at I1.hok h2
    obtain ⟨od, hod, hlk⟩ := lookIn_ns hns
    obtain ⟨y, hy, ry⟩ := RelO.some_of (v := v) (o := mA f) (by rw [← lk]; exact rel f)
    have J : PySem.W.InstAt s1.heap a { cls := .ref C, dict := some d, data := .fields #[.ref t1, .none, .none, .none, .bool false, .none] } C (some od) := ⟨ho, rfl, rfl, hod⟩
    exact HandSPX.exc_get I1.kIn J T.hg T.hk T.hs (PySem.W.findObj_own T.hd no rfl (by rw [hlk, hy])) (handed_of ry) ⟨v, H1, I1.tok _, ry, q⟩
  · subst h1
    cases lk
/-- isinstance(e, c), e an own error -/
def rIsErr (K : PySem.W.Frag) : List V → Hp → VK → Prop := fun xs H Q => ∃ (a C : Addr) (fs : List (Str × V)) (c : V) (u : Value) (b : Bool), xs = [.ref a, c] ∧ ClsV c u ∧ ExcC K C ∧ ErrAt H a C fs ∧
  PySem.W.kitOne K (.ref C) u = some b ∧ Q (.bl b) H
theorem call_isErr : CallR X (.builtin "isinstance") (rIsErr X.K) := by
  intro pins s σ H xs us Q I r h
  obtain ⟨a, C, fs, c, w, b, rfl, k, T, at_, e, q⟩ := h
  obtain ⟨u1, u2, rfl, r1, r2⟩ := vals2 r
  obtain rfl : u1 = Value.ref a := r1
  have e2 := k.eq r2
  subst e2
  have hc : (PySem.W.clsIn X.K C).isSome = true := by
    have z := T.hd
    unfold PySem.W.hasDictIn at z
    cases q : PySem.W.clsIn X.K C with
    | none =>
      rw [q] at z
      cases z
    | some cd => rfl
  have fin : ∀ tk, EP X pins σ Q (.bool b) { s with toks := tk } := fun tk => ⟨.bl b, H, I.tok tk, rfl, q⟩
  rcases at_ with ⟨d, h1, h2⟩ | ⟨_, h1⟩
  · obtain ⟨t1, ho⟩ := exo_at I.hok h1
    obtain ⟨mA, hns, rel⟩ := exd_at I.hok h2
    obtain ⟨od, hod, hlk⟩ := lookIn_ns hns
    have J : PySem.W.InstAt s.heap a { cls := .ref C, dict := some d, data := .fields #[.ref t1, .none, .none, .none, .bool false, .none] } C (some od) := ⟨ho, rfl, rfl, hod⟩
    exact PySem.W.kia_one (PySem.W.kitx_exc hc T.hg T.hk T.hs T.ha T.hn T.ht T.hm) I.kIn J e (fun z => nomatch z) fin
  · obtain ⟨t1, ho⟩ := exo_at I.hok h1
    have J : PySem.W.InstAt s.heap a { cls := .ref C, dict := none, data := .fields #[.ref t1, .none, .none, .none, .bool false, .none] } C none := ⟨ho, rfl, rfl, trivial⟩
    exact PySem.W.kia_one (PySem.W.kitx_exc hc T.hg T.hk T.hs T.ha T.hn T.ht T.hm) I.kIn J e (fun z => nomatch z) fin
end

/-! ### repr of data -/
mutual
inductive RD (K : PySem.W.Frag) (H : Hp) : V → PyData → Prop where
  | non : RD K H .non .none
  | bl (b : Bool) : RD K H (.bl b) (.bool b)
  | int (i : Int) : RD K H (.int i) (.int i)
  | str (x : Str) : RD K H (.str x) (.str x)
  | tup {a : Addr} {xs : List V} {ds : List PyData} : SqT K H a xs → RDs K H xs ds → RD K H (.ref a) (.tuple ds)
  | lst {a : Addr} {xs : List V} {ds : List PyData} : SqL K H a xs → a ≠ sysModules → RDs K H xs ds → RD K H (.ref a) (.list ds)
  | dic {a : Addr} : H a = some (.dK []) → RD K H (.ref a) (.dict [])
inductive RDs (K : PySem.W.Frag) (H : Hp) : List V → List PyData → Prop where
  | nil : RDs K H [] []
  | cons {v : V} {vs : List V} {d : PyData} {ds : List PyData} : RD K H v d → RDs K H vs ds → RDs K H (v :: vs) (d :: ds)
end
section
variable {X : Cx} {pins : List (Addr × Obj)} {σ : L2.St} {H : Hp} {s : Shared}
mutual
theorem RD.reads (I : Inv X pins σ H s) : ∀ (d : PyData) (v : V) (u : Value), RD X.K H v d → RelV v u → ∃ as, Reads s.heap u d as ∧ sysModules ∉ as
  | .none, _, _, h, r => by
    cases h
    cases r
    exact ⟨_, Reads.none, List.not_mem_nil⟩
  | .bool b, _, _, h, r => by
    cases h
    cases r
    exact ⟨_, Reads.bool b, List.not_mem_nil⟩
  | .int i, _, _, h, r => by
    cases h
    obtain ⟨t, rfl⟩ := r
    exact ⟨_, Reads.int i t, List.not_mem_nil⟩
  | .str x, _, _, h, r => by
    cases h
    obtain ⟨t, rfl⟩ := r
    exact ⟨_, Reads.str x t, List.not_mem_nil⟩
  | .list ds, _, _, h, r => by
    cases h with
    | lst hs hn ha =>
      cases r
      obtain ⟨its, rv, ⟨o, n, ho, hc, _, hd⟩, _⟩ := I.list hs
      obtain ⟨as, hr, no⟩ := RD.readsAll I ds _ its ha rv
      refine ⟨_, Reads.list ho hc hd hr, fun z => ?_⟩
      rcases List.mem_cons.mp z with z | z
      · exact hn z.symm
      · exact no z
  | .tuple ds, _, _, h, r => by
    cases h with
    | tup hs ha =>
      cases r
      obtain ⟨its, rv, ⟨o, ho, hc, n, hd⟩, _⟩ := I.tuple hs
      obtain ⟨as, hr, no⟩ := RD.readsAll I ds _ its ha rv
      exact ⟨_, Reads.tuple ho hc hd hr, no⟩
  | .dict kvs, _, _, h, r => by
    cases h with
    | dic hs =>
      cases r
      obtain ⟨_, hn, vs, rel, o, es, ep, ho, hx, hd, _, pr, _⟩ := dk_of I.hok hs
      have e0 : vs = [] := by
        cases rel
        rfl
      subst e0
      have e1 : es.toList = [] := by
        cases h : es.toList with
        | nil => rfl
        | cons a b =>
          rw [h] at pr
          cases pr
      refine ⟨_, Reads.dict (kvs := []) (as := []) (bs := []) ho hx.1 hd (by rw [e1]; exact ReadsAll.nil) (by rw [e1]; exact ReadsAll.nil), fun z => ?_⟩
      have z' := List.mem_singleton.mp (by simpa using z)
      rw [← z'] at hn
      exact absurd hn (by decide)
theorem RD.readsAll (I : Inv X pins σ H s) : ∀ (ds : List PyData) (vs : List V) (us : List Value), RDs X.K H vs ds → Vals vs us → ∃ as, ReadsAll s.heap us ds as ∧ sysModules ∉ as
  | [], _, _, h, r => by
    cases h
    cases r
    exact ⟨_, ReadsAll.nil, List.not_mem_nil⟩
  | d :: ds, _, _, h, r => by
    cases h with
    | cons h1 h2 =>
      cases r with
      | cons r1 r2 =>
        obtain ⟨as, q1, n1⟩ := RD.reads I d _ _ h1 r1
        obtain ⟨bs, q2, n2⟩ := RD.readsAll I ds _ _ h2 r2
        refine ⟨_, ReadsAll.cons q1 q2, fun z => ?_⟩
        rcases List.mem_append.mp z with z | z
        · exact n1 z
        · exact n2 z
end
end
section
variable {X : Cx}
/-- repr of a list -/
def rRepr (K : PySem.W.Frag) : List V → Hp → VK → Prop := fun xs H Q => ∃ (a : Addr) (d : PyData), xs = [.ref a] ∧ RD K H (.ref a) d ∧ d.showable = true ∧ d.depth ≤ 60 ∧ d.shown.length ≤ 100000 ∧ Q (.str d.shown) H
theorem call_repr (hg : X.A.guards = some []) (hu : X.A.units + 64 < cLine) : CallR X (.builtin "repr") (rRepr X.K) := by
  intro pins s σ H xs us Q I r h
  obtain ⟨a, d, rfl, rd, sh, dp, sz, q⟩ := h
  obtain ⟨u, rfl, ru⟩ := vals1 r
  obtain ⟨as, hr, no⟩ := RD.reads I d _ _ rd ru
  obtain rfl : u = Value.ref a := ru
  exact repr_of_reads' hr sh (fun _ => no) hg (by omega) (fun _ _ e => e) (fun h' u tk kp => ⟨.str d.shown, H, I.kept kp, ⟨_, rfl⟩, q⟩) (Nat.le_trans sz (by decide))
/-- a list's display, new above the startup's objects -/
def tLstB (t : TA) : TE := fun σ H Q => t σ H fun xs H1 => xs.length ≤ sizeLine ∧ ∀ p, H1 p = none → p ≠ sysModules → Q (.ref p) (upd H1 p (.lst xs))
theorem pe_lstB {es : List Expr} {t : TA} {pos : Pos} (h : PA X es t) : PE X (.List es pos) (tLstB t) := by
  refine ⟨fun pins s σ H Q I hq => ?_⟩
  refine wpAny_List_spliced (thn (h.run pos pins s σ H _ I hq) fun us s1 ⟨xs, H1, I1, r, z, q⟩ => ⟨?_, ?_⟩)
  · rw [← r.length]
    exact z
  have free : H1 s1.heap.objs.size = none := I1.hok.fresh (Nat.le_refl _)
  refine ⟨.ref s1.heap.objs.size, upd H1 s1.heap.objs.size (.lst xs), ?_, rfl, q _ free (Nat.ne_of_gt I1.big)⟩
  exact I1.laid (t' := s1.toks) (fun b u e => Heap.get?_push_of_some _ e) (Nat.le_refl _) ⟨z, us, 0, r, Heap.get?_push_size _ rfl⟩
end
end KU

set_option Elab.async false
set_option linter.all false
set_option maxRecDepth 100000
set_option maxHeartbeats 4000000
/-! The end of a law's row, the law's def being known where no repr is under way -/
namespace KU
open PySem PySem.Spec PyProof.Rows L2

theorem hid_ns {h : Heap} {H : Hp} {b : Addr} {m : Str → Option Value} (no : ∀ o es ep, h.get? b = some o → o.data = .dict es ep → H b = none) (n : h.Ns b m) : (hidT h H).Ns b m := by
  obtain ⟨o, es, ep, e, d, r⟩ := n
  exact ⟨o, es, ep, hidT_get e (no o es ep e d), d, r⟩

theorem call_law {P : Program} {w : World} {K : PySem.W.Frag} {mg mb : Str → Option Value} {k : Nat} {fa a : Addr} {fd : FuncData} {x : Str} {sp : Sp} {s1 : Shared} {vs : List Value} {ns : List Int}
    (KX : K.In s1.heap) (hns : s1.heap.Ns mainGlobals mg) (hb : s1.heap.Ns builtinsNs mb) (hbb : ∀ x : Str, x ≠ "__name__" → mb x = bootBuiltins x) (hlim : s1.heap.NoLimit) (hg : s1.gens = #[])
    (ha : s1.heap.get? a = some { cls := .type "list", data := .seq vs.toArray }) (hi : IntsAre vs ns) (hl : ns.length ≤ sizeLine) (hr : Room k callerA)
    (F : ∀ base : Heap, K.In base → base.Ns mainGlobals mg → FnG P w K mg base CX0 k fa fd [x] sp) (hbind : ∀ (s : Shared) (u : Value), BindsTo s fd ⟨[u], []⟩ [(x, u)])
    (hsp : ∀ H : Hp, Only H → SqL K H a (ns.map V.int) → sp [.ref a] H (fun v _ => v = .bl true) fun _ _ _ => False) :
    codeAny (model P w) callerA (.call (.ref fa) ⟨[.ref a], []⟩)
      (fun r s' => r = .ok (.ret (.bool true)) ∧ OldK s1.heap s'.heap ∧ s'.os = s1.os ∧ AllBare s'.gens) s1 := by
  have rv := vals_ints hi
  have lenV := hi.length
  have main : ∀ H : Hp, Only H → SqL K H a (ns.map V.int) → HOk P w H s1.heap → (∀ b, H b ≠ none → b = a) → (H a ≠ none → K.lookup a = none) →
      codeAny (model P w) callerA (.call (.ref fa) ⟨[.ref a], []⟩)
        (fun r s' => r = .ok (.ret (.bool true)) ∧ OldK s1.heap s'.heap ∧ s'.os = s1.os ∧ AllBare s'.gens) s1 := by
    intro H only seq ok just hK
    have atA : ∀ {b u}, H b = some u → b = a := fun {b u} q => just b (by rw [q]; simp)
    have noD : ∀ b o es ep, s1.heap.get? b = some o → o.data = .dict es ep → H b = none := by
      intro b o es ep e d
      cases q : H b with
      | none => rfl
      | some u =>
        rw [atA q, ha] at e
        cases e
        have d' : Data.seq vs.toArray _ = Data.dict es ep := d
        cases d'
    have kin : K.In (hidT s1.heap H) := by
      intro b o e
      refine hidT_get (KX b o e) ?_
      cases q : H b with
      | none => rfl
      | some u =>
        have eb := atA q
        subst eb
        rw [hK (by rw [q]; simp)] at e
        cases e
    have lim : (hidT s1.heap H).NoLimit := by
      obtain ⟨mc, h1, h2⟩ := hlim
      exact ⟨mc, hid_ns (noD _) h1, h2⟩
    have md : Mod K mg (hidT s1.heap H) := ⟨kin, hid_ns (noD _) hns, ⟨mb, hid_ns (noD _) hb, hbb⟩, lim⟩
    have e0 : Env0 P w K mg (hidT s1.heap H) callerA [] s1 H :=
      ⟨rfl, md, fun b o e => of_hidT e, Nat.le_of_eq (hidT_size _ _), trivial, fun b hb => absurd hb List.not_mem_nil, ok, .of_eq hg⟩
    have run := (F _ kin (hid_ns (noD _) hns)).goes callerA [] s1 H ⟨[.ref a], []⟩ [.ref a] [.ref a] _ _ rfl hr e0 (hbind s1 (.ref a)) (.cons rfl .nil) (hsp H only seq)
    refine codeAny_mono run fun r s' h => ?_
    cases r with
    | error e => exact h.elim
    | ok fl =>
      cases fl with
      | next => exact h.elim
      | brk => exact h.elim
      | cont => exact h.elim
      | ret u =>
        obtain ⟨v, H', os, bare, un, ok', r', q⟩ := h
        have q' : v = .bl true := q
        subst q'
        obtain rfl : u = Value.bool true := r'
        refine ⟨rfl, OldK.of_keep fun b o e => ?_, os, bare⟩
        cases q : H b with
        | none => exact un.keep b o e q List.not_mem_nil List.not_mem_nil
        | some u =>
          rcases only b with z | ⟨ob, xs, z⟩
          · rw [q] at z
            cases z
          · obtain ⟨e1, _⟩ := ok b _ z
            obtain ⟨e2, _⟩ := ok' b _ (un.frzs b ob _ z)
            rw [e] at e1
            cases e1
            exact e2
  cases hk : K.lookup a with
  | some o =>
    have e := KX a o hk
    rw [ha] at e
    cases e
    refine main (fun _ => none) (fun _ => .inl rfl) (.inr ⟨_, vs.toArray, _, hk, rfl, rfl, rfl, ?_, ?_⟩) (fun b u z => nomatch z) (fun b z => absurd rfl z) fun z => absurd rfl z
    · rw [List.size_toArray, lenV]
      exact hl
    · simpa using rv
  | none =>
    let H1 : Hp := fun b => if b = a then some (.frz { cls := .type "list", data := .seq vs.toArray } (.lst (ns.map V.int))) else none
    have at_ : H1 a = some (.frz { cls := .type "list", data := .seq vs.toArray } (.lst (ns.map V.int))) := if_pos rfl
    have off : ∀ b, b ≠ a → H1 b = none := fun b hb => if_neg hb
    refine main H1 (fun b => ?_) (.inl (.inr ⟨_, at_⟩)) (fun b u z => ?_) (fun b z => ?_) fun _ => hk
    · by_cases hb : b = a
      · subst hb
        exact .inr ⟨_, _, at_⟩
      · exact .inl (off b hb)
    · by_cases hb : b = a
      · subst hb
        rw [at_] at z
        cases z
        refine ⟨ha, ?_, vs, _, rv, ha⟩
        rw [List.length_map]
        exact hl
      · rw [off b hb] at z
        cases z
    · by_cases hb : b = a
      · exact hb
      · exact absurd (off b hb) z

/-- the goal that the head leaves, from the law's promise -/
theorem end_of {l : PySem.W.OpenLaw} {n k : Nat} {q : Program} {loose : List Str} {XP : (Str → Option Value) → Heap → Prop} {YP : World → Heap → Prop} {d : DefRec} {K : Params → PySem.W.Frag} {sp : PySem.W.Frag → Sp} {x : Str}
    (hn : l.most = some n) (hn2 : n ≤ sizeLine) (hdf : d.params.defaults = []) (hr : Room k callerA) (hY : ∀ (w : World) (h : Heap), YP w h → (K w.params).In h)
    (F : ∀ (w : World) (mg : Str → Option Value) (fa : Addr) (h : Heap), (K w.params).In h → h.Ns mainGlobals mg → mg d.name = some (.ref fa) →
      ∃ fd : FuncData, (∀ (s : Shared) (u : Value), BindsTo s fd ⟨[u], []⟩ [(x, u)]) ∧
        ∀ base : Heap, (K w.params).In base → base.Ns mainGlobals mg → FnG l.prog w (K w.params) mg base CX0 k fa fd [x] (sp (K w.params)))
    (hsp : ∀ (K : PySem.W.Frag) (H : Hp) (a : Addr) (ns : List Int), ns.length ≤ n → Only H → SqL K H a (ns.map V.int) → sp K [.ref a] H (fun v _ => v = .bl true) fun _ _ _ => False) :
    PySem.W.WalkO q loose XP YP l.row.toRowW d [] (fun f vs => PySem.call f vs) := by
  refine Att.attach_call hn hdf fun w s₀ s₁ mg mb fa o pm cd doc a vs ns G Y ho hd hcd hmg hobj hints hlen hg => ?_
  have kin := hY w _ Y
  obtain ⟨fd, hb, hF⟩ := F w mg fa _ kin G.T.g hmg
  exact call_law kin G.T.g G.T.b G.T.builtins G.T.nolimit hg hobj hints (Nat.le_trans hlen hn2) hr hF hb fun H hO hS => hsp _ H a ns hlen hO hS
end KU

set_option Elab.async false
set_option linter.all false
set_option maxRecDepth 100000
set_option maxHeartbeats 4000000
/-! A text's error classes in one record each; what evaluates to something with a property -/
namespace KU
open PySem PySem.Spec PyProof.Rows L2 Evl

/-! ### an error class of the text -/
structure Cl (P : Program) (w : World) (K : PySem.W.Frag) (mg : Str → Option Value) (base : Heap) (x : Str) (C : Addr) (fs : List Str) (sp : Sp) : Prop where
  oex : OexC K C
  exc : ExcC K C
  gC : mg x = some (.ref C)
  no : ∀ f ∈ fs, PySem.W.findIn K (.ref C) f = some none
  fn : ∃ (fI : Addr) (fd : FuncData), PySem.W.findIn K (.ref C) "__init__" = some (some (.ref fI)) ∧ PySem.W.typeIn K (.ref fI) = some (.type "function") ∧
    FnOk P w K mg base CX0 1 fI fd (("self" : Str) :: fs) sp ∧ Binds K fd (("self" : Str) :: fs) [] ∧
    ∀ (s : Shared) (a : Addr) (ws : List Value), ws.length = fs.length → BindsTo s fd ⟨[.ref a], fs.reverse.zip ws⟩ ((("self" : Str) :: fs).zip (.ref a :: ws.reverse))
section
variable {X : Cx} {x : Str} {C : Addr} {fs : List Str} {sp : Sp} {p pos : Pos} {e : Expr} {es : List Expr} {kws : List Keyword} {ta tk : TA}
theorem pe_cl (Z : Cl X.prog X.w X.K X.mg X.base x C fs sp) (hr : Room 2 X.A) (ha : PA X (e :: es) ta) (hg : Gl X x := by rfl) (hdb : (x == ("__debug__" : Str)) = false := by decide)
    (he : starEach (e :: es) X.env = (false, eval e X.env) :: starEach es X.env := by rfl) (hpl : (backTo pos (starEach es X.env)).any (·.1) = false := by rfl) :
    PE X (.Call (.Name x p) (e :: es) [] pos) (tErr C sp ta) := by
  obtain ⟨fI, fd, i1, i2, G, b, _⟩ := Z.fn
  exact pe_err Z.oex i1 i2 G hr b Z.gC ha hg hdb he hpl
theorem Vals.rev {zs : List V} {ws : List Value} (r : Vals zs ws) : Vals zs.reverse ws.reverse := by
  induction r with
  | nil => exact .nil
  | cons a _ ih =>
    rw [List.reverse_cons, List.reverse_cons]
    exact Vals.append ih (.cons a .nil)
theorem pe_clK (Z : Cl X.prog X.w X.K X.mg X.base x C fs sp) (hr : Room 2 X.A) (hk : PK X kws tk)
    (hall : (backToKw pos (keywordEach kws X.env)).all (·.1.isSome) = true := by rfl) (hks : (backToKw pos (keywordEach kws X.env)).filterMap (·.1) = fs.reverse := by rfl)
    (hg : Gl X x := by rfl) (hdb : (x == ("__debug__" : Str)) = false := by decide)
    (hpl : ((backTo pos (starEach [] X.env)).any (·.1) || (backToKw pos (keywordEach kws X.env)).any (·.1.isNone)) = false := by rfl) :
    PE X (.Call (.Name x p) [] kws pos) (tErrK C fs.reverse.length sp List.reverse tk) := by
  obtain ⟨fI, fd, i1, i2, G, _, b⟩ := Z.fn
  exact pe_errK (ks := fs.reverse) (gv := List.reverse) (gu := List.reverse) Z.oex i1 i2 G hr (fun s' a ws _ hl => b s' a ws (by rw [hl, List.length_reverse])) (fun r _ => Vals.rev r) Z.gC hk hall hks hg hdb hpl

/-! ### a class without an __init__ of its own -/
theorem run_bare {pins : List (Addr × Obj)} {σ : L2.St} {H : Hp} {s : Shared} {Q : VK} {us : List Value} {bmB : List Value} {B newId initId : String} (F : ExcBaseFacts B newId initId bmB) (q : PySem.W.excIn X.K C bmB newId = true)
    (I : Inv X pins σ H s) (small : us.length ≤ 1000) (hq : ∀ a, H a = none → Q (.ref a) (upd H a (exo a C none))) : wpAny (model X.prog X.w) X.A (call (.ref C) us) (EP X pins σ Q) X.xe s := by
  obtain ⟨bm, N, nm, qn, bs, hdct, sn, sub, ab, col, dd, k0, k1, k2, k3, k5, mN, hC, hN, hni, T⟩ := exc_obj I.kIn q
  refine wpAny_call_exc_subT F T hC hN hni (fun h' a hm => ?_) (by rw [sizeLine_eq]; omega)
  obtain ⟨t, ht, _, _⟩ := hm.there
  have n := I.hok.gone hm.new
  exact ⟨.ref a, upd H a (exo a C none), I.laidN hm.keeps hm.new n (exo_ok ht), rfl, hq a n⟩
/-- C(), C(e, ..) -/
def tBare (C : Addr) (ta : TA) : TE := fun σ H Q => ta σ H fun vs H1 => vs.length ≤ 1000 ∧ ∀ a, H1 a = none → Q (.ref a) (upd H1 a (exo a C none))
theorem pe_bare0 {bmB : List Value} {B newId initId : String} (F : ExcBaseFacts B newId initId bmB) (q : PySem.W.excIn X.K C bmB newId = true) (gC : X.mg x = some (.ref C)) (kC : PySem.W.keepIn X.K (.ref C) = true)
    (hg : Gl X x := by rfl) (hdb : (x == ("__debug__" : Str)) = false := by decide) : PE X (.Call (.Name x p) [] [] pos) (tBare C tNil) := by
  refine ⟨fun pins s σ H Q I h => ?_⟩
  refine wpAny_Call_Name_kw (ld_glob I hg gC ?_ hdb)
  exact PySem.W.callWith_K0 I.kIn kC (run_bare (us := []) F q I (Nat.zero_le _) h.2)
theorem pe_bare1 {bmB : List Value} {B newId initId : String} (F : ExcBaseFacts B newId initId bmB) (q : PySem.W.excIn X.K C bmB newId = true) (gC : X.mg x = some (.ref C)) (kC : PySem.W.keepIn X.K (.ref C) = true) (ha : PA X (e :: es) ta)
    (hg : Gl X x := by rfl) (hdb : (x == ("__debug__" : Str)) = false := by decide) (he : starEach (e :: es) X.env = (false, eval e X.env) :: starEach es X.env := by rfl)
    (hpl : (backTo pos (starEach es X.env)).any (·.1) = false := by rfl) : PE X (.Call (.Name x p) (e :: es) [] pos) (tBare C ta) := by
  refine ⟨fun pins s σ H Q I h => ?_⟩
  refine wpAny_Call_Name_kw (ld_glob I hg gC ?_ hdb)
  refine PySem.W.callWith_K (h₀ := X.base) I.ok.mod.kin kC (thn (ha.run pos pins s σ H _ I h) fun us s1 ⟨vs, H1, I1, r1, hz, q1⟩ => ⟨I1.kIn, ?_⟩) he hpl
  exact run_bare (us := us) F q I1 (by rw [← r1.length]; exact hz) q1
end

/-! ### what evaluates to something with a property -/
def EvP (te : TE) (σ : L2.St) (H : Hp) (P : V → Hp → Prop) : Prop := ∀ H1, Ex H H1 → ∀ Q : VK, (∀ v H2, Ex H1 H2 → P v H2 → Q v H2) → te σ H1 Q
def EvPA (ta : TA) (σ : L2.St) (H : Hp) (P : List V → Hp → Prop) : Prop := ∀ H1, Ex H H1 → ∀ Q : List V → Hp → Prop, (∀ vs H2, Ex H1 H2 → P vs H2 → Q vs H2) → ta σ H1 Q
def Up (P : V → Hp → Prop) : Prop := ∀ v H H', Ex H H' → P v H → P v H'
/-- the values have the properties, one by one -/
def Each (Ps : List (V → Hp → Prop)) (vs : List V) (H : Hp) : Prop := Paired (fun (P : V → Hp → Prop) v => P v H) Ps vs
theorem Each.up {Ps : List (V → Hp → Prop)} (u : ∀ P ∈ Ps, Up P) {vs : List V} {H H' : Hp} (e : Ex H H') (h : Each Ps vs H) : Each Ps vs H' := by
  unfold Each at h ⊢
  induction h with
  | nil => exact .nil
  | cons a _ ih => exact .cons (u _ (List.mem_cons_self ..) _ _ _ e a) (ih fun P hP => u P (List.mem_cons_of_mem _ hP))
theorem Each.app {Ps Qs : List (V → Hp → Prop)} {vs ws : List V} {H : Hp} (a : Each Ps vs H) (b : Each Qs ws H) : Each (Ps ++ Qs) (vs ++ ws) H := by
  unfold Each at a b ⊢
  induction a with
  | nil => exact b
  | cons x _ ih => exact .cons x ih
theorem Each.len {Ps : List (V → Hp → Prop)} {vs : List V} {H : Hp} (a : Each Ps vs H) : vs.length = Ps.length := (Paired.length a).symm
theorem Each.get {Ps : List (V → Hp → Prop)} {vs : List V} {H : Hp} (a : Each Ps vs H) : ∀ {i : Nat} {P : V → Hp → Prop}, Ps[i]? = some P → ∃ v, vs[i]? = some v ∧ P v H := by
  unfold Each at a
  induction a with
  | nil =>
    intro i P h
    simp at h
  | @cons P0 v0 _ _ h0 _ ih =>
    intro i P h
    cases i with
    | zero =>
      simp at h
      subst h
      exact ⟨v0, rfl, h0⟩
    | succ i =>
      obtain ⟨v, h1, h2⟩ := ih (i := i) (P := P) (by simpa using h)
      exact ⟨v, by simpa using h1, h2⟩
section
variable {σ : L2.St} {H : Hp} {ta te tb : TE} {tr : TA} {P P1 P2 P3 : V → Hp → Prop} {Ps Qs : List (V → Hp → Prop)} {v : V}
theorem EvP.of {te : TE} (h : Ev te σ H v) : EvP te σ H (fun u _ => u = v) := fun H1 e Q q => h H1 e Q fun H2 e2 => q v H2 e2 rfl
theorem ep_nil : EvPA tNil σ H (Each []) := fun H1 _ _ q => q [] H1 (Ex.refl H1) .nil
theorem ep_cons (u : Up P) (h : EvP te σ H P) (hr : EvPA tr σ H (Each Ps)) : EvPA (tCons te tr) σ H (Each (P :: Ps)) := fun H1 e Q q =>
  h H1 e _ fun v H2 e2 p => hr H2 (e.trans e2) _ fun vs H3 e3 ps => q _ H3 (e2.trans e3) (.cons (u _ _ _ e3 p) ps)
/-- a list of such -/
def IsL (Ps : List (V → Hp → Prop)) (v : V) (H : Hp) : Prop := ∃ (l : Addr) (xs : List V), v = .ref l ∧ H l = some (.lst xs) ∧ Each Ps xs H
def IsT (Ps : List (V → Hp → Prop)) (v : V) (H : Hp) : Prop := ∃ (l : Addr) (xs : List V), v = .ref l ∧ H l = some (.tup xs) ∧ Each Ps xs H
theorem up_isL (u : ∀ P ∈ Ps, Up P) : Up (IsL Ps) := fun v H H' e ⟨l, xs, h1, h2, h3⟩ => ⟨l, xs, h1, e _ _ h2, h3.up u e⟩
theorem up_isT (u : ∀ P ∈ Ps, Up P) : Up (IsT Ps) := fun v H H' e ⟨l, xs, h1, h2, h3⟩ => ⟨l, xs, h1, e _ _ h2, h3.up u e⟩
theorem ep_lst (u : ∀ P ∈ Ps, Up P) (h : EvPA tr σ H (Each Ps)) (small : Ps.length ≤ 100000) : EvP (tLst tr) σ H (IsL Ps) := fun H1 e Q q =>
  h H1 e _ fun vs H2 e2 ps => ⟨by rw [ps.len]; exact sz_of small, fun p hp => q _ _ (e2.trans (Ex.new hp)) ⟨p, vs, rfl, upd_same, ps.up u (Ex.new hp)⟩⟩
theorem ep_tup (u : ∀ P ∈ Ps, Up P) (h : EvPA tr σ H (Each Ps)) (small : Ps.length ≤ 100000) : EvP (tTup tr) σ H (IsT Ps) := fun H1 e Q q =>
  h H1 e _ fun vs H2 e2 ps => ⟨by rw [ps.len]; exact sz_of small, fun p hp => q _ _ (e2.trans (Ex.new hp)) ⟨p, vs, rfl, upd_same, ps.up u (Ex.new hp)⟩⟩
/-- two lists joined -/
theorem ep_cat (u1 : ∀ P ∈ Ps, Up P) (u2 : ∀ P ∈ Qs, Up P) (h1 : EvP ta σ H (IsL Ps)) (h2 : EvP tb σ H (IsL Qs)) (small : Ps.length + Qs.length ≤ 100000) : EvP (tOp rCat ta tb) σ H (IsL (Ps ++ Qs)) := fun H1 e Q q =>
  h1 H1 e _ fun v H2 e2 p1 => h2 H2 (e.trans e2) _ fun w H3 e3 p2 => by
    obtain ⟨l, xs, rfl, hl, ex⟩ := up_isL u1 v _ _ e3 p1
    obtain ⟨m, ys, rfl, hm, ey⟩ := p2
    refine ⟨l, m, xs, ys, rfl, rfl, hl, hm, by rw [ex.len, ey.len]; exact sz_of small, fun p hp => q _ _ ((e2.trans e3).trans (Ex.new hp)) ⟨p, xs ++ ys, rfl, upd_same, (ex.app ey).up ?_ (Ex.new hp)⟩⟩
    intro P hP
    rcases List.mem_append.mp hP with z | z
    · exact u1 P z
    · exact u2 P z
theorem s_asgP {D : Ends} {i : Nat} (h : EvP te σ H P) (k : ∀ v H1, Ex H H1 → P v H1 → D.nx (σ.set i (some v)) H1) : tAsg te (gName i) D σ H := h H (Ex.refl H) _ fun v H1 e p => k v H1 e p
theorem q_asgP {D : Ends} {tz : TS} {i : Nat} (h : EvP te σ H P) (k : ∀ v H1, Ex H H1 → P v H1 → tz D (σ.set i (some v)) H1) : tSeq (tAsg te (gName i)) tz D σ H := s_asgP (D := { D with nx := tz D }) h k
theorem s_retP {D : Ends} (h : EvP te σ H P) (k : ∀ v H1, Ex H H1 → P v H1 → D.rt v H1) : tRet te D σ H := h H (Ex.refl H) _ fun v H1 e p => k v H1 e p
theorem ep_var {i : Nat} (u : Up P) (h : σ[i]? = some (some v)) (p : P v H) : EvP (tVar i) σ H P := fun H1 e Q q => ⟨v, h, q v H1 (Ex.refl H1) (u _ _ _ e p)⟩
end

/-! ### own errors evaluate so -/
/-- an error of this class with these fields -/
def IsE (C : Addr) (fs : List (Str × V)) (v : V) (H : Hp) : Prop := ∃ e, v = .ref e ∧ ErrAt H e C fs
theorem up_isE (C : Addr) (fs : List (Str × V)) : Up (IsE C fs) := fun v H H' x ⟨e, h1, h2⟩ => ⟨e, h1, h2.mono x⟩
theorem up_eq (u : V) : Up (fun v _ => v = u) := fun _ _ _ _ h => h
section
variable {K : PySem.W.Frag} {σ : L2.St} {H : Hp} {ta tb : TE} {C : Addr} {f g : Str} {y z : V}
theorem made1 {H1 : Hp} {Q : VK} (T : OexC K C) (no : PySem.W.findIn K (.ref C) f = some none) (q : ∀ v H2, Ex H1 H2 → IsE C [(f, y)] v H2 → Q v H2) :
    ∀ a, H1 a = none → spI1 K f [.ref a, y] (upd H1 a (exo a C none)) (fun v H2 => v = .non ∧ Q (.ref a) H2) fun _ _ _ => False := fun a hn =>
  ⟨a, C, y, rfl, T, no, upd_same, fun dx hd ne => ⟨rfl, q _ _ (by
    have e1 : Ex H1 (upd H1 a (exo a C none)) := Ex.new hn
    have e2 : Ex (upd H1 a (exo a C none)) (upd (upd H1 a (exo a C none)) dx (exd dx [(f, y)])) := Ex.new hd
    exact (e1.trans e2).mut hn) ⟨a, rfl, .inl ⟨dx, upd_same, by rw [upd_ne ne]; exact upd_same⟩⟩⟩⟩
theorem made2 {H1 : Hp} {Q : VK} (T : OexC K C) (no : PySem.W.findIn K (.ref C) f = some none) (no2 : PySem.W.findIn K (.ref C) g = some none) (q : ∀ v H2, Ex H1 H2 → IsE C [(g, z), (f, y)] v H2 → Q v H2) :
    ∀ a, H1 a = none → spI2 K f g [.ref a, y, z] (upd H1 a (exo a C none)) (fun v H2 => v = .non ∧ Q (.ref a) H2) fun _ _ _ => False := fun a hn =>
  ⟨a, C, y, z, rfl, T, no, no2, upd_same, fun dx H' hd ne h1 h2 h3 => ⟨rfl, q _ _ (fun b o hb => by
    have n1 : b ≠ a := ne_of_none hb hn
    have n2 : b ≠ dx := fun e => by
      rw [e] at hb
      rw [upd_ne ne, hb] at hd
      cases hd
    rw [h3 b n1 n2, upd_ne n1]
    exact hb) ⟨a, rfl, .inl ⟨dx, h1, h2⟩⟩⟩⟩
theorem ep_err1 (T : OexC K C) (no : PySem.W.findIn K (.ref C) f = some none) (h : Ev ta σ H y) : EvP (tErr C (spI1 K f) (tCons ta tNil)) σ H (IsE C [(f, y)]) := fun H1 e Q q =>
  h H1 e _ fun H2 e2 => ⟨by show 1 ≤ 1000; decide, made1 T no fun v H3 e3 p => q v H3 (e2.trans e3) p⟩
theorem ep_err2 (T : OexC K C) (no : PySem.W.findIn K (.ref C) f = some none) (no2 : PySem.W.findIn K (.ref C) g = some none) (h : Ev ta σ H y) (h2 : Ev tb σ H z) :
    EvP (tErr C (spI2 K f g) (tCons ta (tCons tb tNil))) σ H (IsE C [(g, z), (f, y)]) := fun H1 e Q q =>
  h H1 e _ fun H2 e2 => h2 H2 (e.trans e2) _ fun H3 e3 => ⟨by show 2 ≤ 1000; decide, made2 T no no2 fun v H4 e4 p => q v H4 ((e2.trans e3).trans e4) p⟩
theorem ep_errK1 (T : OexC K C) (no : PySem.W.findIn K (.ref C) f = some none) (h : Ev ta σ H y) : EvP (tErrK C 1 (spI1 K f) List.reverse (tCons ta tNil)) σ H (IsE C [(f, y)]) := fun H1 e Q q =>
  h H1 e _ fun H2 e2 => ⟨rfl, by show 1 ≤ 1000; decide, made1 T no fun v H3 e3 p => q v H3 (e2.trans e3) p⟩
theorem ep_errK2 (T : OexC K C) (no : PySem.W.findIn K (.ref C) f = some none) (no2 : PySem.W.findIn K (.ref C) g = some none) (h2 : Ev tb σ H z) (h : Ev ta σ H y) :
    EvP (tErrK C 2 (spI2 K f g) List.reverse (tCons tb (tCons ta tNil))) σ H (IsE C [(g, z), (f, y)]) := fun H1 e Q q =>
  h2 H1 e _ fun H2 e2 => h H2 (e.trans e2) _ fun H3 e3 => ⟨rfl, by show 2 ≤ 1000; decide, made2 T no no2 fun v H4 e4 p => q v H4 ((e2.trans e3).trans e4) p⟩
theorem ep_bare {ta : TA} {vs : List V} (h : EvA ta σ H vs) (small : vs.length ≤ 1000) : EvP (tBare C ta) σ H (IsE C []) := fun H1 e Q q =>
  h H1 e _ fun H2 e2 => ⟨small, fun a hn => q _ _ (e2.trans (Ex.new hn)) ⟨a, rfl, .inr ⟨rfl, upd_same⟩⟩⟩
/-- e.f -/
theorem ev_errF {e : Addr} {fs : List (Str × V)} {v : V} (T : ExcC K C) (no : PySem.W.findIn K (.ref C) f = some none) (at_ : ErrAt H e C fs) (lk : fs.lookup f = some v) (h : Ev ta σ H (.ref e)) : Ev (tErrF K f ta) σ H v := fun H1 x Q q =>
  h H1 x _ fun H2 x2 => ⟨e, C, fs, v, rfl, T, no, at_.mono (x.trans x2), lk, q H2 x2⟩
/-- isinstance(e, D) -/
theorem rc_isErr {e : Addr} {fs : List (Str × V)} {c : V} {u : Value} {b : Bool} (T : ExcC K C) (k : ClsV c u) (at_ : ErrAt H e C fs) (hb : PySem.W.kitOne K (.ref C) u = some b) : RC (rIsErr K) [.ref e, c] H (.bl b) := fun H1 x _ q =>
  ⟨e, C, fs, c, u, b, rfl, k, T, at_.mono x, hb, q H1 (Ex.refl H1)⟩
theorem ev_isErr {e : Addr} {fs : List (Str × V)} {c : V} {u : Value} {b : Bool} (T : ExcC K C) (k : ClsV c u) (at_ : ErrAt H e C fs) (hb : PySem.W.kitOne K (.ref C) u = some b) (h : Ev ta σ H (.ref e)) : Ev (tCB (rIsErr K) (tCons ta (tCons (tC c) tNil))) σ H (.bl b) :=
  ev_cb (ea_cons h (ea_cons ev_c ea_nil)) (rc_isErr T k at_ hb)
end

/-! ### the __init__s -/
section
variable {K : PySem.W.Frag} {H : Hp} {Q : VK} {E : XK} {vs : List V}
theorem init1_reads {f : Str} {N : List Str} (hN : start N vs = vs.map some) (h : spI1 K f vs H Q E) : tOst K f (tVar 0) (tVar 1) { nx := fun _ H' => Q .non H', rt := Q } (start N vs) H := by
  obtain ⟨a, C, y, rfl, T, no, ha, k⟩ := h
  rw [hN]
  exact ⟨_, rfl, _, rfl, a, C, rfl, T, no, .inl ⟨ha, fun dx h1 h2 => k dx h1 h2⟩⟩
theorem init2_reads {f g : Str} {N : List Str} (hN : start N vs = vs.map some) (h : spI2 K f g vs H Q E) :
    tSeq (tOst K f (tVar 0) (tVar 1)) (tOst K g (tVar 0) (tVar 2)) { nx := fun _ H' => Q .non H', rt := Q } (start N vs) H := by
  obtain ⟨a, C, y, z, rfl, T, no, no2, ha, k⟩ := h
  rw [hN]
  refine ⟨_, rfl, _, rfl, a, C, rfl, T, no, .inl ⟨ha, fun dx h1 h2 => ?_⟩⟩
  refine ⟨_, rfl, _, rfl, a, C, rfl, T, no2, .inr ⟨dx, [(f, y)], upd_same, by rw [upd_ne h2]; exact upd_same, (by show 1 ≤ 900; decide), ?_⟩⟩
  refine k dx _ h1 h2 (by rw [upd_ne (Ne.symm h2)]; exact upd_same) upd_same fun b n1 n2 => ?_
  rw [upd_ne n2, upd_ne n1, upd_ne n2]
end
end KU

set_option Elab.async false
set_option linter.all false
set_option maxRecDepth 100000
set_option maxHeartbeats 4000000
/-! Own classes: operators, comparisons, len, str, in by the class's own defs -/
namespace KU
open PySem PySem.Spec PyProof.Rows L2
section
variable {X : Cx} {CX : CXT} {pins : List (Addr × Obj)} {σ : L2.St} {H : Hp} {s : Shared} {C g : Addr} {n : Nat} {sp : Sp} {E : XK}
theorem ins_at {a dx : Addr} {fs : List (Str × V)} (I : Inv X pins σ H s) (h : H a = some (.ins C dx fs)) : ∃ od, PySem.W.InstAt s.heap a (PySem.W.instObj C dx) C (some od) := by
  obtain ⟨mA, O, _⟩ := ins_get I.hok h
  obtain ⟨od, J, _⟩ := O.look
  exact ⟨od, J⟩
/-- an own def is called by values -/
theorem own_call {A : Around} {Q : VK} {us : List Value} {vs : List V} (F : FnR X.prog X.w X.K X.mg X.base CX n g sp) (hr : Room n A) (e0 : Env0 X.prog X.w X.K X.mg X.base A X.stack s H) (hx : Passes CX X E)
    (I : Inv X pins σ H s) (r : Vals vs us) (h : sp vs H Q E) : wpAny (model X.prog X.w) A (call (.ref g) us) (EP X pins σ Q) X.xe s :=
  wpAny_call (SlX.run_at F hr e0 hx I r h)
/-- a compared with b, a and b instances, by the own def of a's class -/
def rCmpI (K : PySem.W.Frag) (C : Addr) (sp : Sp) (E : XK) : R2 := fun x y H Q => ∃ (a dx : Addr) (fs : List (Str × V)) (b C' dy : Addr) (gs : List (Str × V)), x = .ref a ∧ y = .ref b ∧ H a = some (.ins C dx fs) ∧ H b = some (.ins C' dy gs) ∧
  PySem.W.notFirst K C (.ref C') = true ∧ sp [x, y] H Q E
theorem op_cmpI {op : CmpOp} (hop : ∀ a b, compareOp op a b = richCompare op a b) (hs : PySem.W.findIn X.K (.ref C) (cmpInfo op).2.1 = some (some (.ref g))) (hf : PySem.W.isFn X.K (.ref g) = true)
    (F : FnR X.prog X.w X.K X.mg X.base CX n g sp) (hr : Room n X.A) (hx : Passes CX X E) : OpR X (compareOp op) (rCmpI X.K C sp E) := by
  intro pins s σ H x y u v Q I rx ry h
  obtain ⟨a, dx, fs, b, C', dy, gs, rfl, rfl, ha, hb, nf, q⟩ := h
  obtain rfl : u = Value.ref a := rx
  obtain rfl : v = Value.ref b := ry
  obtain ⟨od, Ja⟩ := ins_at I ha
  obtain ⟨oe, Jb⟩ := ins_at I hb
  obtain ⟨m, fr⟩ := I.fr
  rw [hop]
  refine PySem.W.cmp_K (Nat.lt_of_le_of_lt (Nat.le_add_right _ 64) hr.units) fr I.ok.mod.kin Ja Jb.type nf hs hf ?_
  exact wpAny_mono (own_call F hr I.env0 hx I (vs := [.ref a, .ref b]) (.cons rfl (.cons rfl .nil)) q) (fun u s' ⟨z, H', I', rz, qz⟩ => SlX.cmpback rz ⟨z, H', I', rz, qz⟩) fun e s' z => z
/-- a op b, both of one class, by its own def -/
def rBinI (C : Addr) (sp : Sp) (E : XK) : R2 := fun x y H Q => ∃ (a dx : Addr) (fs : List (Str × V)) (b dy : Addr) (gs : List (Str × V)), x = .ref a ∧ y = .ref b ∧ H a = some (.ins C dx fs) ∧ H b = some (.ins C dy gs) ∧ sp [x, y] H Q E
theorem op_binI {op : Operator} (sf : PySem.W.selfFirst X.K C = true) (hs : PySem.W.findIn X.K (.ref C) (dunder op.info.2) = some (some (.ref g))) (hf : PySem.W.isFn X.K (.ref g) = true)
    (F : FnR X.prog X.w X.K X.mg X.base CX n g sp) (hr : Room n X.A) (hx : Passes CX X E) : OpR X (binaryOp op) (rBinI C sp E) := by
  intro pins s σ H x y u v Q I rx ry h
  obtain ⟨a, dx, fs, b, dy, gs, rfl, rfl, ha, hb, q⟩ := h
  obtain rfl : u = Value.ref a := rx
  obtain rfl : v = Value.ref b := ry
  obtain ⟨od, Ja⟩ := ins_at I ha
  obtain ⟨oe, Jb⟩ := ins_at I hb
  obtain ⟨m, fr⟩ := I.fr
  refine PySem.W.binop_K fr I.ok.mod.kin Ja Jb.type sf hs hf ?_
  exact wpAny_mono (own_call F hr I.env0 hx I (vs := [.ref a, .ref b]) (.cons rfl (.cons rfl .nil)) q) (fun u s' ⟨z, H', I', rz, qz⟩ => SlX.cmpback rz ⟨z, H', I', rz, qz⟩) fun e s' z => z
/-- len(a) -/
def rLenI (C : Addr) (sp : Sp) (E : XK) : List V → Hp → VK → Prop := fun xs H Q => ∃ (a dx : Addr) (fs : List (Str × V)), xs = [.ref a] ∧ H a = some (.ins C dx fs) ∧ sp [.ref a] H (fun z H' => ∃ k : Nat, z = .int (k : Int) ∧ k < 9223372036854775808 ∧ Q (.int (k : Int)) H') E
theorem call_lenI (hs : PySem.W.findIn X.K (.ref C) "__len__" = some (some (.ref g))) (hf : PySem.W.isFn X.K (.ref g) = true)
    (F : FnR X.prog X.w X.K X.mg X.base CX n g sp) (hr : Room (n + 1) X.A) (hx : Passes CX X E) : CallR X (.builtin "len") (rLenI C sp E) := by
  intro pins s σ H xs us Q I r h
  obtain ⟨a, dx, fs, rfl, ha, q⟩ := h
  obtain ⟨u, rfl, r1⟩ := vals1 r
  obtain rfl : u = Value.ref a := r1
  obtain ⟨od, Ja⟩ := ins_at I ha
  obtain ⟨m, fr⟩ := I.fr
  refine PySem.W.len_K fr I.ok.mod.kin Ja hs hf ?_
  refine wpAny_mono (own_call F hr.in1 I.env0.in1 hx I (vs := [.ref a]) (.cons rfl .nil) q) (fun u s' ⟨z, H', I', rz, k, ez, hk, qz⟩ => ?_) fun e s' z => z
  subst ez
  obtain ⟨t, rfl⟩ := rz
  exact ⟨⟨by omega, by omega⟩, ⟨.int (k : Int), H', I'.tok _, ⟨_, rfl⟩, qz⟩⟩
/-- str(a) -/
def rStrI (C : Addr) (sp : Sp) (E : XK) : List V → Hp → VK → Prop := fun xs H Q => ∃ (a dx : Addr) (fs : List (Str × V)), xs = [.ref a] ∧ H a = some (.ins C dx fs) ∧ sp [.ref a] H (fun z H' => ∃ t : Str, z = .str t ∧ Q (.str t) H') E
theorem call_strI (hs : PySem.W.findIn X.K (.ref C) "__str__" = some (some (.ref g))) (hf : PySem.W.isFn X.K (.ref g) = true)
    (F : FnR X.prog X.w X.K X.mg X.base CX n g sp) (hr : Room (n + 2) X.A) (hx : Passes CX X E) : CallR X (.type "str") (rStrI C sp E) := by
  intro pins s σ H xs us Q I r h
  obtain ⟨a, dx, fs, rfl, ha, q⟩ := h
  obtain ⟨u, rfl, r1⟩ := vals1 r
  obtain rfl : u = Value.ref a := r1
  obtain ⟨od, Ja⟩ := ins_at I ha
  refine PySem.W.kso_call (Nat.lt_of_le_of_lt (Nat.le_add_right _ 64) hr.in1.in1.units) I.kIn Ja hs hf ?_
  refine wpAny_mono (own_call F hr.in1.in1 I.env0.in1.in1 hx I (vs := [.ref a]) (.cons rfl .nil) q) (fun u s' ⟨z, H', I', rz, t, ez, qz⟩ => ?_) fun e s' z => z
  subst ez
  obtain ⟨tk, rfl⟩ := rz
  exact ⟨.str t, H', I', ⟨_, rfl⟩, qz⟩
/-- v in a -/
def rInI (C : Addr) (sp : Sp) (E : XK) : R2 := fun v x H Q => ∃ (a dx : Addr) (fs : List (Str × V)), x = .ref a ∧ H a = some (.ins C dx fs) ∧ sp [.ref a, v] H (fun z H' => ∃ k : Bool, z = .bl k ∧ Q (.bl k) H') E
theorem op_inI (hs : PySem.W.findIn X.K (.ref C) "__contains__" = some (some (.ref g))) (hf : PySem.W.isFn X.K (.ref g) = true)
    (F : FnR X.prog X.w X.K X.mg X.base CX n g sp) (hr : Room n X.A) (hx : Passes CX X E) : OpR X (compareOp .In) (rInI C sp E) := by
  intro pins s σ H v x u w Q I rv rx h
  obtain ⟨a, dx, fs, rfl, ha, q⟩ := h
  obtain rfl : w = Value.ref a := rx
  obtain ⟨od, Ja⟩ := ins_at I ha
  obtain ⟨m, fr⟩ := I.fr
  refine PySem.W.in_K fr I.ok.mod.kin Ja hs hf ?_
  refine wpAny_mono (own_call F hr I.env0 hx I (vs := [.ref a, v]) (.cons rfl (.cons rv .nil)) q) (fun u s' ⟨z, H', I', rz, k, ez, qz⟩ => ?_) fun e s' z => z
  subst ez
  cases rz
  exact wpAny_pure ⟨.bl k, H', I', rfl, qz⟩
end
end KU

set_option Elab.async false
set_option linter.all false
set_option maxRecDepth 100000
set_option maxHeartbeats 4000000
/-! Own classes: what __iter__ tells, walked; truth by len; != by the own == -/
namespace KU
open PySem PySem.Spec PyProof.Rows L2
/-- a def of the text, called where something more is known of what surrounds the call -/
structure FnP (Pre : Around → Shared → Prop) (P : Program) (w : World) (K : PySem.W.Frag) (mg : Str → Option Value) (base : Heap) (CX : CXT) (k : Nat) (f : Addr) (fd : FuncData) (ps : List Str) (sp : Sp) : Prop where
  many : ∀ vs H Q E, sp vs H Q E → vs.length = ps.length
  goes : ∀ (A : Around) (out : List Env) (s : Shared) (H : Hp) (args : Args) (us : List Value) (vs : List V) (Q : VK) (E : XK), Pre A s → Room k A →
    Env0 P w K mg base A out s H → BindsTo s fd args (ps.zip us) → Vals vs us → sp vs H Q E → codeAny (model P w) A (.call (.ref f) args) (CR CX out P w H s Q E) s
theorem FnP.body {Pre : Around → Shared → Prop} {P : Program} {w : World} {K : PySem.W.Frag} {mg : Str → Option Value} {base : Heap} {x qual : Str} {st : Stmt} {f : Addr} {fd : FuncData} {N ps : List Str} {k : Nat} {sp : Sp}
    (F : Fun K x qual st f fd) (S : FnScope N ps (defScope st)) (many : ∀ vs H Q E, sp vs H Q E → vs.length = ps.length)
    (walk : ∀ (cdv : Value) (A : Around) (out : List Env) (s : Shared) (H : Hp) (vs : List V) (Q : VK) (E : XK), Pre A s → Room k (A.deeper (envOfC qual (defScope st) s.heap.objs.size f cdv)) → sp vs H Q E →
      ∃ t, PSs (cxOf CX0 P w K mg base N qual (defScope st) f cdv A out s H E).nox (defBody st) t ∧ t { nx := fun _ H' => Q .non H', rt := Q } (start N vs) H) :
    FnP Pre P w K mg base CX0 (k + 1) f fd ps sp := by
  refine ⟨many, fun A out s H args us vs Q E hg hr e0 hb r hsp => ?_⟩
  obtain ⟨oc, od, kV, doc, pm, an, cdv, ct, osl, rfl, lk, hcd⟩ := F.ex
  have hl := many _ _ _ _ hsp
  have KX : K.In s.heap := e0.mod.kin.keeps fun b o e => (e0.bs b o e).1
  have lim : s.heap.NoLimit := e0.mod.nolimit.keeps fun b o e => (e0.bs b o e).1
  have kinds : ∀ y ∈ ps.zip us, (defScope st).names.lookup y.1 = some .local ∨ ((defScope st).names.lookup y.1 = some .cell ∧ ((cellsFrom (s.heap.objs.size + 1) (defScope st).names []).lookup y.1).isSome = true) := by
    intro ⟨n, v⟩ hy
    rcases S.par n (List.of_mem_zip hy).1 with q | q
    · exact .inl q
    · exact .inr ⟨q, PySem.W.cellsFrom_some _ _ _ (.inl q)⟩
  refine codeAny_call_function hr.depth (KX _ _ lk) rfl S.co S.gen rfl (PySem.W.codeRec_of KX hcd) (hb _ _ _ _ ?_)
  refine wpAny_newFunctionEnv_cells S.kind kinds fun env he s1 x => ?_
  subst he
  refine ⟨lim.keeps x.toInCall.keep, codeAny_func ?_⟩
  obtain ⟨t, ht, hq⟩ := walk cdv A out s H vs Q E hg (hr.deeper _) hsp
  have I : Inv (cxOf CX0 P w K mg base N qual (defScope st) f cdv A out s H E) [] (start N vs) H s1 := inv_start S hr.hd e0 hl r x
  refine wpAny_mono (ht.nox.run [] s1 (start N vs) H _ I hq) (fun fl s' hs => ?_) fun e s' hs => hs
  have last : ∀ {σ' : L2.St} {H' : Hp} {v : V} {u : Value}, Inv (cxOf CX0 P w K mg base N qual (defScope st) f cdv A out s H E) [] σ' H' s' → RelV v u → Q v H' → CE out P w H s Q u s' := by
    intro σ' H' v u J rv q
    exact ⟨v, H', J.os, J.bare, J.base, J.hok, rv, q⟩
  cases fl with
  | next =>
    obtain ⟨σ', H', J, q⟩ := hs
    exact last (v := V.non) (u := Value.none) J rfl q
  | ret u =>
    obtain ⟨v, σ', H', J, rv, q⟩ := hs
    exact last J rv q
  | brk =>
    obtain ⟨_, _, _, q⟩ := hs
    exact q.elim
  | cont =>
    obtain ⟨_, _, _, q⟩ := hs
    exact q.elim
section
variable {X : Cx} {CX : CXT} {pins : List (Addr × Obj)} {σ : L2.St} {H : Hp} {s : Shared} {C g : Addr} {n : Nat} {sp : Sp} {E : XK}
/-- iter(t), t a tuple, not yet walked -/
def TtO (t it : Addr) : HO := .ext fun h => h.IsTupleIter it t 0
theorem tto_ok {t it : Addr} {P : Program} {w : World} {H : Hp} {h : Heap} (e : h.IsTupleIter it t 0) : ObjOk P w H h it (TtO t it) :=
  ⟨e, by
    obtain ⟨o, ho, _⟩ := e
    exact ⟨o, ho⟩, fun h1 h2 e1 k => by
    obtain ⟨o, ho, hc, hd⟩ := e1
    exact ⟨o, k _ ho, hc, hd⟩⟩
theorem call_iter_of {P : Program} {w : World} {A : Around} {Ex : Value → Shared → Prop} {v : Value} {Q : Value → Shared → Prop} {s : Shared} (h : wpAny (model P w) A.in1 (pyIter v) Q Ex s) :
    wpAny (model P w) A (call (.builtin "iter") [v]) Q Ex s := by
  refine call_function_tree (b := Builtin.iter) (by decide +kernel) (by decide +kernel) rfl rfl ?_
  show wpAny _ _ (someArgs "iter" 1 2 ⟨[v], []⟩ >>= _) _ _ _
  refine wpAny_bind (wpAny_pure ?_)
  exact wpAny_bind (thn h fun u s1 q => wpAny_pure q)
/-- iter(t) as a value: new to the whole call -/
def rIterT (K : PySem.W.Frag) (N : Nat) : List V → Hp → VK → Prop := fun xs H Q => ∃ (t : Addr) (zs : List V), xs = [.ref t] ∧ SqT K H t zs ∧ ∀ it, H it = none → N ≤ it → Q (.ref it) (upd H it (TtO t it))
theorem call_iterT : CallR X (.builtin "iter") (rIterT X.K X.s_0.heap.objs.size) := by
  intro pins s σ H xs us Q I r h
  obtain ⟨t, zs, rfl, hs, q⟩ := h
  obtain ⟨u, rfl, r1⟩ := vals1 r
  obtain rfl : u = Value.ref t := r1
  obtain ⟨its, rv, ht, hn⟩ := I.tuple hs
  refine call_iter_of (wpAny_pyIter_tuple (items := its.toArray) ht ?_)
  have e : (s.heap.push { cls := Value.type "tuple_iterator", data := Data.fields #[Value.ref t, Value.int 0 0] }).IsTupleIter s.heap.objs.size t 0 := ⟨_, Heap.get?_push_size _ rfl, rfl, rfl⟩
  exact ⟨.ref s.heap.objs.size, _, I.laid (fun b u hb => Heap.get?_push_of_some _ hb) (Nat.le_refl _) (tto_ok e), rfl, q _ (I.hok.fresh (Nat.le_refl _)) I.sz⟩
/-- for .. in e, e an instance: by its own __iter__, which tells an iterator over a tuple -/
def iOwn (K : PySem.W.Frag) (C : Addr) (N : Nat) (sp : Sp) (te : TE) : TI := fun σ H R => te σ H fun x H1 => ∃ (a dx : Addr) (fs : List (Str × V)), x = .ref a ∧ H1 a = some (.ins C dx fs) ∧
  sp [.ref a] H1 (fun z H2 => ∃ it t, z = .ref it ∧ N ≤ it ∧ H2 it = some (TtO t it) ∧ R (Itt K t) (ItX.dropH H2 it)) fun _ _ _ => False
theorem spec_tit {M : Model} {A : Around} {Ex : Value → Shared → Prop} {s : Shared} {it t : Addr} {i : Nat} {Q : Option Value → Shared → Prop} (h : s.heap.IsTupleIter it t i) (q : ∀ v, Q (some v) s) :
    wpAny M A (specialOf (.ref it) "__next__") Q Ex s := by
  obtain ⟨o, ho, hc, _⟩ := h
  unfold specialOf
  refine wpAny_bind (wpAny_typeOf_ref ho ?_)
  rw [hc]
  have e : typeLookup (.type "tuple_iterator") "__next__" = pure (some (.builtin "tuple_iterator.__next__")) := rfl
  rw [e]
  exact wpAny_pure (q _)
theorem pi_own {tg e : Expr} {te : TE} {k : Nat} {fd : FuncData} {ps : List Str} {spN : Nat → Sp} (he : PE X e te) (hs : PySem.W.findIn X.K (.ref C) "__iter__" = some (some (.ref g))) (hf : PySem.W.isFn X.K (.ref g) = true)
    (F : ∀ N, FnP (fun _ s => N ≤ s.heap.objs.size) X.prog X.w X.K X.mg X.base CX0 k g fd ps (spN N)) (hb : Binds X.K fd ps []) (hr : Room k X.A) : PI X tg e (iOwn X.K C X.s_0.heap.objs.size (spN X.s_0.heap.objs.size) te) := by
  refine ⟨fun pins s σ H R I h => thn (he.run pins s σ H _ I h) fun u s1 ⟨x, H1, I1, rx, a, dx, fs, ex, ha, q⟩ => ?_⟩
  subst ex
  obtain rfl : u = Value.ref a := rx
  obtain ⟨od, Ja⟩ := ins_at I1 ha
  obtain ⟨m, fr⟩ := I1.fr
  refine PySem.W.owit_iter fr I1.ok.mod.kin Ja hs hf ?_
  refine wpAny_call (codeAny_mono ((F _).goes X.A X.stack s1 H1 ⟨[.ref a], []⟩ [.ref a] [.ref a] _ (fun _ _ _ => False) I1.sz hr I1.env0 ?_ (.cons rfl .nil) q) fun rs s' back => ?_)
  · have hl := (F _).many _ _ _ _ q
    have z := hb s1 [.ref a] I1.kIn (by rw [List.append_nil]; exact hl)
    rw [List.append_nil] at z
    exact z
  cases rs with
  | error er => exact back.elim
  | ok fl =>
    cases fl with
    | ret u =>
      obtain ⟨v, H', I3, rv, it, t, ev, hN, hit, hR⟩ := I1.after back
      subst ev
      obtain rfl : u = Value.ref it := rv
      have at_ : s'.heap.IsTupleIter it t 0 := (I3.hok _ _ hit).1
      refine spec_tit at_ fun _ => ?_
      exact ⟨it, [it], _, Itt X.K t, ItX.dropH H' it, rfl, ItX.inv_drop I3 hit, turn_tuple t it, at_, fun b hb' => by
        obtain rfl := List.mem_singleton.mp hb'
        exact ItX.inv_fp I3 hit hN, hR⟩
    | next => exact back.elim
    | brk => exact back.elim
    | cont => exact back.elim
end
end KU

set_option Elab.async false
set_option linter.all false
set_option maxRecDepth 100000
set_option maxHeartbeats 4000000
/-! Comprehensions over tuples, over lists or tuples, over anything that is walked -/
namespace KU
open PySem PySem.Spec PyProof.Rows L2 Evl
section
variable {K : PySem.W.Frag} {σ : L2.St} {H : Hp} {te tl : TE} {t : TT} {xs : List V} {j : Nat} {vs : List Nat}
theorem lc_cw {J : It} {G : Hp → Prop} (w : Walk J xs.length G (YAt xs)) (hG : ∀ H1, Ex H H1 → G H1) (hl : xs.length ≤ 40000) (f : Nat → Bool) (v : Nat → V)
    (hw : ∀ x : V, wipe ((wipe σ vs).set j (some x)) vs = wipe σ vs)
    (ht : ∀ (i : Nat) (x : V) (H1 : Hp), Ex H H1 → xs[i]? = some x → EvT t ((wipe σ vs).set j (some x)) H1 (f i))
    (he : ∀ (i : Nat) (x : V) (H1 : Hp), Ex H H1 → xs[i]? = some x → f i = true → Ev te ((wipe σ vs).set j (some x)) H1 (v i))
    {H1 : Hp} (x1 : Ex H H1) {D : Addr} (hD : H1 D = none) {Q : VK} (q : ∀ (p : Addr) (H2 : Hp), H1 p = none → Ex H1 H2 → H2 p = some (.lst (given xs.length f v)) → Q (.ref p) H2) :
    ∃ W : Nat → Nat → Hp → Prop, (∃ m, W 0 m (upd H1 D (.lst []))) ∧ ∀ (i m : Nat) (H' : Hp), W i m H' → (J.stop i H' ∧ Q (.ref D) H') ∨ (J.go i H' ∧ ∃ Nx : Hp → Prop, (∀ H', Nx H' → ∃ m', m' < m ∧ W (i + 1) m' H') ∧
      ∀ (x : V) (H2 : Hp), J.yld i H' x H2 → gName j x (wipe σ vs) H2 fun σ2 H3 => wipe σ2 vs = wipe σ vs ∧ t σ2 H3 fun b H4 => if b = true then te σ2 H4 fun y H5 => ∃ acc, H5 D = some (.lst acc) ∧ acc.length < sizeLine ∧ Nx (upd H5 D (.lst (acc ++ [y]))) else Nx H4) := by
  refine lc_it w (Pv := fun i H' => Cw H1 f v D i H') ⟨hD, Ex.new hD, upd_same⟩ (fun i H' _ c => hG H' (x1.trans c.2.1)) (fun i x H' H2 hi c y => ?_) fun H' c => q D H' hD c.2.1 c.2.2
  obtain ⟨rfl, hx⟩ := y
  exact ⟨hw x, cw_turn c (by omega) (ht i x H1 x1 hx) (he i x H1 x1 hx)⟩
theorem el_lcT {a : Addr} (f : Nat → Bool) (v : Nat → V) (hx : Ev tl σ H (.ref a)) (hs : SqT K H a xs) (hl : xs.length ≤ 40000)
    (hw : ∀ x : V, wipe ((wipe σ vs).set j (some x)) vs = wipe σ vs)
    (ht : ∀ (i : Nat) (x : V) (H1 : Hp), Ex H H1 → xs[i]? = some x → EvT t ((wipe σ vs).set j (some x)) H1 (f i))
    (he : ∀ (i : Nat) (x : V) (H1 : Hp), Ex H H1 → xs[i]? = some x → f i = true → Ev te ((wipe σ vs).set j (some x)) H1 (v i)) : EvL (tLc (iTup K tl) (gName j) t te vs) σ H (given xs.length f v) := by
  intro H1 x1 Q q
  refine hx H1 x1 _ fun H2 x2 => ⟨a, rfl, ⟨xs, ex_t (x1.trans x2) hs⟩, fun D hD => ?_⟩
  exact lc_cw walk_tup (fun H3 x3 => ex_t x3 hs) hl f v hw ht he (x1.trans x2) hD fun p H3 hp x3 e => q p H3 (fresh_back x2 hp) (x2.trans x3) e
/-- a list or a tuple that a name holds, walked -/
def iSeqV (K : PySem.W.Frag) (i : Nat) : TI := fun σ H R => ∃ a xs, σ[i]? = some (some (.ref a)) ∧ ((SqL K H a xs ∧ R (Itl K a) H) ∨ (SqT K H a xs ∧ R (Itt K a) H))
theorem pi_seqV {X : Cx} {tg e : Expr} {i : Nat} (he : PE X e (tVar i)) : PI X tg e (iSeqV X.K i) := by
  refine ⟨fun pins s σ H R I h => ?_⟩
  obtain ⟨a, xs, hv, h⟩ := h
  rcases h with ⟨hs, r⟩ | ⟨hs, r⟩
  · exact (pi_list he).run pins s σ H R I ⟨_, hv, a, rfl, ⟨xs, hs⟩, r⟩
  · exact (pi_tup he).run pins s σ H R I ⟨_, hv, a, rfl, ⟨xs, hs⟩, r⟩
theorem el_lcS {a : Addr} {i : Nat} (f : Nat → Bool) (v : Nat → V) (hx : σ[i]? = some (some (.ref a))) (hs : SqL K H a xs ∨ SqT K H a xs) (hl : xs.length ≤ 40000)
    (hw : ∀ x : V, wipe ((wipe σ vs).set j (some x)) vs = wipe σ vs)
    (ht : ∀ (i : Nat) (x : V) (H1 : Hp), Ex H H1 → xs[i]? = some x → EvT t ((wipe σ vs).set j (some x)) H1 (f i))
    (he : ∀ (i : Nat) (x : V) (H1 : Hp), Ex H H1 → xs[i]? = some x → f i = true → Ev te ((wipe σ vs).set j (some x)) H1 (v i)) : EvL (tLc (iSeqV K i) (gName j) t te vs) σ H (given xs.length f v) := by
  intro H1 x1 Q q
  rcases hs with hs | hs
  · refine ⟨a, xs, hx, .inl ⟨ex_l x1 hs, fun D hD => ?_⟩⟩
    exact lc_cw walk_list (fun H3 x3 => ex_l x3 hs) hl f v hw ht he x1 hD q
  · refine ⟨a, xs, hx, .inr ⟨ex_t x1 hs, fun D hD => ?_⟩⟩
    exact lc_cw walk_tup (fun H3 x3 => ex_t x3 hs) hl f v hw ht he x1 hD q
/-- what a comprehension gives, over the items themselves -/
theorem given_map (xs : List α) (f : Nat → Bool) (v : Nat → β) (p : α → Bool) (φ : α → β) (hf : ∀ i x, xs[i]? = some x → f i = p x) (hv : ∀ i x, xs[i]? = some x → v i = φ x) :
    ((List.range xs.length).filter f).map v = (xs.filter p).map φ := by
  induction xs generalizing f v with
  | nil => rfl
  | cons a r ih =>
    have h0 : f 0 = p a := hf 0 a rfl
    have v0 : v 0 = φ a := hv 0 a rfl
    have z := ih (fun i => f (i + 1)) (fun i => v (i + 1)) (fun i x h => hf (i + 1) x (by simpa using h)) fun i x h => hv (i + 1) x (by simpa using h)
    rw [List.length_cons, List.range_succ_eq_map, List.filter_cons, List.filter_cons, h0]
    have m : ((List.map Nat.succ (List.range r.length)).filter f).map v = (r.filter p).map φ := by
      rw [List.filter_map, List.map_map]
      exact z
    split
    · rw [List.map_cons, List.map_cons, m, v0]
    · exact m
theorem given_all (xs : List α) (v : Nat → β) (φ : α → β) (hv : ∀ i x, xs[i]? = some x → v i = φ x) : ((List.range xs.length).filter fun _ => true).map v = xs.map φ := by
  have z := given_map xs (fun _ => true) v (fun _ => true) φ (fun _ _ _ => rfl) hv
  rw [z]
  congr 1
  exact List.filter_eq_self.mpr fun _ _ => rfl
def orNon (φ : V → V) : Option V → V
  | some y => φ y
  | none => .non
def orNo (p : V → Bool) : Option V → Bool
  | some y => p y
  | none => false
theorem given_fm (xs : List V) (p : V → Bool) (φ : V → V) : given xs.length (fun i => orNo p xs[i]?) (fun i => orNon φ xs[i]?) = (xs.filter p).map φ :=
  given_map xs _ _ p φ (fun i x h => by rw [h]; rfl) fun i x h => by rw [h]; rfl
theorem et_yes : EvT tYes σ H true := fun H1 x1 Q q => q H1 (Ex.refl _)
theorem el_fmS {a : Addr} {i : Nat} (p : V → Bool) (φ : V → V) (hx : σ[i]? = some (some (.ref a))) (hs : SqL K H a xs ∨ SqT K H a xs) (hl : xs.length ≤ 40000)
    (hw : ∀ x : V, wipe ((wipe σ vs).set j (some x)) vs = wipe σ vs)
    (ht : ∀ (x : V) (H1 : Hp), Ex H H1 → x ∈ xs → EvT t ((wipe σ vs).set j (some x)) H1 (p x))
    (he : ∀ (x : V) (H1 : Hp), Ex H H1 → x ∈ xs → p x = true → Ev te ((wipe σ vs).set j (some x)) H1 (φ x)) : EvL (tLc (iSeqV K i) (gName j) t te vs) σ H ((xs.filter p).map φ) := by
  rw [← given_fm]
  refine el_lcS _ _ hx hs hl hw (fun i x H1 x1 e => ?_) fun i x H1 x1 e k => ?_
  · rw [e]
    exact ht x H1 x1 (List.mem_of_getElem? e)
  · rw [e] at k ⊢
    exact he x H1 x1 (List.mem_of_getElem? e) k
theorem el_fmL {a : Addr} (p : V → Bool) (φ : V → V) (hx : Ev tl σ H (.ref a)) (hs : SqL K H a xs) (hl : xs.length ≤ 40000)
    (hw : ∀ x : V, wipe ((wipe σ vs).set j (some x)) vs = wipe σ vs)
    (ht : ∀ (x : V) (H1 : Hp), Ex H H1 → x ∈ xs → EvT t ((wipe σ vs).set j (some x)) H1 (p x))
    (he : ∀ (x : V) (H1 : Hp), Ex H H1 → x ∈ xs → p x = true → Ev te ((wipe σ vs).set j (some x)) H1 (φ x)) : EvL (tLc (iList K tl) (gName j) t te vs) σ H ((xs.filter p).map φ) := by
  rw [← given_fm]
  refine el_lcL _ _ hx hs hl hw (fun i x H1 x1 e => ?_) fun i x H1 x1 e k => ?_
  · rw [e]
    exact ht x H1 x1 (List.mem_of_getElem? e)
  · rw [e] at k ⊢
    exact he x H1 x1 (List.mem_of_getElem? e) k
theorem el_fmN (p : V → Bool) (φ : V → V) (hx : EvL tl σ H xs) (hl : xs.length ≤ 40000)
    (hw : ∀ x : V, wipe ((wipe σ vs).set j (some x)) vs = wipe σ vs)
    (ht : ∀ (x : V) (H1 : Hp), Ex H H1 → x ∈ xs → EvT t ((wipe σ vs).set j (some x)) H1 (p x))
    (he : ∀ (x : V) (H1 : Hp), Ex H H1 → x ∈ xs → p x = true → Ev te ((wipe σ vs).set j (some x)) H1 (φ x)) : EvL (tLc (iList K tl) (gName j) t te vs) σ H ((xs.filter p).map φ) := by
  rw [← given_fm]
  refine el_lcNL _ _ hx hl hw (fun i x H1 x1 e => ?_) fun i x H1 x1 e k => ?_
  · rw [e]
    exact ht x H1 x1 (List.mem_of_getElem? e)
  · rw [e] at k ⊢
    exact he x H1 x1 (List.mem_of_getElem? e) k
theorem el_fmT {a : Addr} (p : V → Bool) (φ : V → V) (hx : Ev tl σ H (.ref a)) (hs : SqT K H a xs) (hl : xs.length ≤ 40000)
    (hw : ∀ x : V, wipe ((wipe σ vs).set j (some x)) vs = wipe σ vs)
    (ht : ∀ (x : V) (H1 : Hp), Ex H H1 → x ∈ xs → EvT t ((wipe σ vs).set j (some x)) H1 (p x))
    (he : ∀ (x : V) (H1 : Hp), Ex H H1 → x ∈ xs → p x = true → Ev te ((wipe σ vs).set j (some x)) H1 (φ x)) : EvL (tLc (iTup K tl) (gName j) t te vs) σ H ((xs.filter p).map φ) := by
  rw [← given_fm]
  refine el_lcT _ _ hx hs hl hw (fun i x H1 x1 e => ?_) fun i x H1 x1 e k => ?_
  · rw [e]
    exact ht x H1 x1 (List.mem_of_getElem? e)
  · rw [e] at k ⊢
    exact he x H1 x1 (List.mem_of_getElem? e) k
/-- the same over texts -/
def onS (φ : Str → V) : V → V
  | .str w => φ w
  | _ => .non
def onSB (p : Str → Bool) : V → Bool
  | .str w => p w
  | _ => false
theorem fm_str (ws : List Str) (p : Str → Bool) (φ : Str → V) : ((ws.map V.str).filter (onSB p)).map (onS φ) = (ws.filter p).map φ := by
  rw [List.filter_map, List.map_map]
  rfl
theorem mem_str {ws : List Str} {x : V} (h : x ∈ ws.map V.str) : ∃ w ∈ ws, x = .str w := by
  obtain ⟨w, m, rfl⟩ := List.mem_map.mp h
  exact ⟨w, m, rfl⟩
theorem el_strS {a : Addr} {i : Nat} {ws : List Str} (p : Str → Bool) (φ : Str → V) (hx : σ[i]? = some (some (.ref a))) (hs : SqL K H a (ws.map V.str) ∨ SqT K H a (ws.map V.str)) (hl : ws.length ≤ 40000)
    (hw : ∀ x : V, wipe ((wipe σ vs).set j (some x)) vs = wipe σ vs)
    (ht : ∀ (x : Str) (H1 : Hp), Ex H H1 → x ∈ ws → EvT t ((wipe σ vs).set j (some (.str x))) H1 (p x))
    (he : ∀ (x : Str) (H1 : Hp), Ex H H1 → x ∈ ws → p x = true → Ev te ((wipe σ vs).set j (some (.str x))) H1 (φ x)) : EvL (tLc (iSeqV K i) (gName j) t te vs) σ H ((ws.filter p).map φ) := by
  rw [← fm_str]
  refine el_fmS _ _ hx hs (by rw [List.length_map]; exact hl) hw (fun x H1 x1 m => ?_) fun x H1 x1 m k => ?_
  · obtain ⟨w, mw, rfl⟩ := mem_str m
    exact ht w H1 x1 mw
  · obtain ⟨w, mw, rfl⟩ := mem_str m
    exact he w H1 x1 mw k
theorem all_str (ws : List α) : ws.filter (fun _ => true) = ws := List.filter_eq_self.mpr fun _ _ => rfl
end
end KU

set_option Elab.async false
set_option linter.all false
set_option maxRecDepth 100000
set_option maxHeartbeats 4000000
/-! Walks over an instance that a name holds, also within a comprehension -/
namespace KU
open PySem PySem.Spec PyProof.Rows L2 Evl
theorem fnr_of {P : Program} {w : World} {K : PySem.W.Frag} {mg : Str → Option Value} {base : Heap} {CX : CXT} {k : Nat} {f : Addr} {fd : FuncData} {ps : List Str} {sp : Sp} (F : FnOk P w K mg base CX k f fd ps sp) (hb : Binds K fd ps []) : FnR P w K mg base CX k f sp :=
  (F.raw hb .nil).imp fun vs H Q E h => by rw [List.append_nil]; exact h
/-- for .. in x, x a name that holds an instance -/
def iOwnV (K : PySem.W.Frag) (C : Addr) (spN : Nat → Sp) (i : Nat) : TI := fun σ H R => ∃ (a dx : Addr) (fs : List (Str × V)), σ[i]? = some (some (.ref a)) ∧ H a = some (.ins C dx fs) ∧
  ∀ N, spN N [.ref a] H (fun z H2 => ∃ it t, z = .ref it ∧ N ≤ it ∧ H2 it = some (TtO t it) ∧ R (Itt K t) (ItX.dropH H2 it)) fun _ _ _ => False
theorem pi_ownV {X : Cx} {C g : Addr} {tg e : Expr} {i k : Nat} {fd : FuncData} {ps : List Str} {spN : Nat → Sp} (he : PE X e (tVar i)) (hs : PySem.W.findIn X.K (.ref C) "__iter__" = some (some (.ref g))) (hf : PySem.W.isFn X.K (.ref g) = true)
    (F : ∀ N, FnP (fun _ s => N ≤ s.heap.objs.size) X.prog X.w X.K X.mg X.base CX0 k g fd ps (spN N)) (hb : Binds X.K fd ps []) (hr : Room k X.A) : PI X tg e (iOwnV X.K C spN i) := by
  refine ⟨fun pins s σ H R I h => ?_⟩
  obtain ⟨a, dx, fs, hx, ha, q⟩ := h
  exact (pi_own he hs hf F hb hr).run pins s σ H R I ⟨_, hx, a, dx, fs, rfl, ha, q _⟩
section
variable {K : PySem.W.Frag} {σ : L2.St} {H : Hp} {te tl : TE} {t : TT} {xs : List V} {j i : Nat} {vs : List Nat} {C : Addr} {spN : Nat → Sp}
theorem drop_new {H : Hp} {it : Addr} {o : HO} (h : H it = none) : ItX.dropH (upd H it o) it = H := by
  funext b
  unfold ItX.dropH
  by_cases c : b = it
  · subst c
    rw [if_pos rfl, h]
  · rw [if_neg c, upd_ne c]
/-- a comprehension over an instance whose __iter__ walks over a tuple -/
theorem el_ownV {a dx : Addr} {fs : List (Str × V)} (p : V → Bool) (φ : V → V) (hx : σ[i]? = some (some (.ref a))) (ha : H a = some (.ins C dx fs))
    (sp : ∀ (N : Nat) (H1 : Hp) (R : VK), Ex H H1 → (∀ W it, H1 W = some (.tup xs) → H1 it = none → N ≤ it → R (.ref it) (upd H1 it (TtO W it))) → spN N [.ref a] H1 R fun _ _ _ => False) (hl : xs.length ≤ 40000)
    (hw : ∀ x : V, wipe ((wipe σ vs).set j (some x)) vs = wipe σ vs)
    (ht : ∀ (x : V) (H1 : Hp), Ex H H1 → x ∈ xs → EvT t ((wipe σ vs).set j (some x)) H1 (p x))
    (he : ∀ (x : V) (H1 : Hp), Ex H H1 → x ∈ xs → p x = true → Ev te ((wipe σ vs).set j (some x)) H1 (φ x)) : EvL (tLc (iOwnV K C spN i) (gName j) t te vs) σ H ((xs.filter p).map φ) := by
  rw [← given_fm]
  intro H1 x1 Q q
  refine ⟨a, dx, fs, hx, x1 _ _ ha, fun N => sp N H1 _ x1 fun W it hW hit hN => ⟨it, W, rfl, hN, upd_same, ?_⟩⟩
  rw [drop_new hit]
  refine fun D hD => lc_cw (H := H1) walk_tup (fun H3 x3 => ex_t x3 (st_of hW)) hl (fun i => orNo p xs[i]?) (fun i => orNon φ xs[i]?) hw (fun k x H3 x3 e => ?_) (fun k x H3 x3 e kk => ?_) (Ex.refl _) hD q
  · rw [e]
    exact ht x H3 (x1.trans x3) (List.mem_of_getElem? e)
  · rw [e] at kk ⊢
    exact he x H3 (x1.trans x3) (List.mem_of_getElem? e) kk
/-- the same where a list is made in each turn -/
theorem el_ownLL {a dx : Addr} {fs : List (Str × V)} {ys : List V} (hx : σ[i]? = some (some (.ref a))) (ha : H a = some (.ins C dx fs))
    (sp : ∀ (N : Nat) (H1 : Hp) (R : VK), Ex H H1 → (∀ W it, H1 W = some (.tup xs) → H1 it = none → N ≤ it → R (.ref it) (upd H1 it (TtO W it))) → spN N [.ref a] H1 R fun _ _ _ => False) (hl : xs.length ≤ 40000)
    (hw : ∀ x : V, wipe ((wipe σ vs).set j (some x)) vs = wipe σ vs)
    (he : ∀ (x : V) (H1 : Hp), Ex H H1 → x ∈ xs → EvL te ((wipe σ vs).set j (some x)) H1 ys) {H1 : Hp} {Q : VK} (x1 : Ex H H1)
    (q : ∀ (p : Addr) (H2 : Hp) (rs : List Addr), H1 p = none → Ex H1 H2 → H2 p = some (.lst (rs.map V.ref)) → rs.length = xs.length → (∀ r ∈ rs, H2 r = some (.lst ys)) → Q (.ref p) H2) : tLc (iOwnV K C spN i) (gName j) tYes te vs σ H1 Q := by
  refine ⟨a, dx, fs, hx, x1 _ _ ha, fun N => sp N H1 _ x1 fun W it hW hit hN => ⟨it, W, rfl, hN, upd_same, ?_⟩⟩
  rw [drop_new hit]
  refine fun D hD => lc_it walk_tup (Pv := fun k H' => Ex H1 H' ∧ ∃ rs : List Addr, H' D = some (.lst (rs.map V.ref)) ∧ rs.length = k ∧ ∀ r ∈ rs, r ≠ D ∧ H' r = some (.lst ys)) ⟨Ex.new hD, [], upd_same, rfl, fun r hr => by cases hr⟩ (fun k H' _ p => ex_t p.1 (st_of hW)) (fun k x H' H2 hk p y => ?_) fun H' p => ?_
  · obtain ⟨rfl, hxk⟩ := y
    obtain ⟨xx, rs, eD, rl, all⟩ := p
    refine ⟨hw x, et_yes (H := H2) H2 (Ex.refl _) _ fun H3 x3 => ?_⟩
    rw [if_pos rfl]
    refine he x H3 ((x1.trans xx).trans x3) (List.mem_of_getElem? hxk) H3 (Ex.refl _) _ fun l H4 hl4 x4 e4 => ?_
    have eD4 := x4 _ _ (x3 _ _ eD)
    have lD : l ≠ D := by
      rintro rfl
      rw [x3 _ _ eD] at hl4
      cases hl4
    refine ⟨_, eD4, ?_, fun b o hb => ?_, rs ++ [l], ?_, ?_, fun r hr => ?_⟩
    · rw [List.length_map, sizeLine_eq]
      omega
    · have ne : b ≠ D := by
        rintro rfl
        rw [hD] at hb
        cases hb
      rw [upd_ne ne]
      exact x4 _ _ (x3 _ _ (xx _ _ hb))
    · rw [upd_same, List.map_append]
      rfl
    · rw [List.length_append, rl]
      rfl
    · rcases List.mem_append.mp hr with h | h
      · exact ⟨(all r h).1, by rw [upd_ne (all r h).1]; exact x4 _ _ (x3 _ _ (all r h).2)⟩
      · rw [List.mem_singleton.mp h]
        exact ⟨lD, by rw [upd_ne lD]; exact e4⟩
  · obtain ⟨xx, rs, eD, rl, all⟩ := p
    exact q D H' rs hD xx eD rl fun r hr => (all r hr).2
end
end KU

set_option Elab.async false
set_option linter.all false
set_option maxRecDepth 100000
set_option maxHeartbeats 4000000
/-! signs.py -/
namespace K02
open PySem PySem.Spec PyProof.Rows L2 Evl KU
def topR (i : Nat) : Stmt := PySem.Challenge.pw_flagfree_k07_signs_exchanged.main.body.getD i (.Pass ⟨0, 0, 0, 0⟩)
/-- the same places as where the text has no exchanges -/
def top (i : Nat) : Stmt := topR (if i ≤ 13 then i else if i = 14 then 15 else if i = 15 then 20 else i + 5)
abbrev sIsText : Stmt := top 12
abbrev sIsWord : Stmt := top 13
abbrev sIsAlphabet : Stmt := top 14
abbrev sHoldsSome : Stmt := top 15
structure Free (mg : Str → Option Value) : Prop where
  int : mg "int" = none
  len : mg "len" = none
  abs : mg "abs" = none
  list : mg "list" = none
  str : mg "str" = none
  isinstance : mg "isinstance" = none
  all : mg "all" = none
  any : mg "any" = none
  range : mg "range" = none
  sorted : mg "sorted" = none
  tuple : mg "tuple" = none
section
variable {K : PySem.W.Frag} {σ : L2.St} {H : Hp} {te tl ta tb : TE}
abbrev rStrip : V → List V → Hp → VK → Prop := fun x xs H Q => ∃ a b, x = V.str a ∧ xs = [V.str b] ∧ a.length ≤ sizeLine ∧ Q (V.str (Txt.stripChars a b)) H
/-- w in t -/
def inS (w t : Str) : Bool := !(Builtin.Str.occurrences t w 0 t.length 1).isEmpty
def rInS : R2 := fun x y H Q => ∃ i j, x = V.str i ∧ y = V.str j ∧ Q (V.bl (inS i j)) H
theorem op_inS {X : Cx} : OpR X (compareOp .In) rInS := op_in_str
theorem ev_inS {a b : Str} (ha : Ev ta σ H (.str a)) (hb : Ev tb σ H (.str b)) : Ev (tOp rInS ta tb) σ H (.bl (inS a b)) := ev_op ha hb fun H1 x1 Q q => ⟨a, b, rfl, rfl, q H1 (Ex.refl _)⟩
def ltS (a b : Str) : Bool := decide (a.cps.toList < b.cps.toList)
def rLtS : R2 := fun x y H Q => ∃ i j, x = V.str i ∧ y = V.str j ∧ Q (V.bl (ltS i j)) H
theorem op_ltS {X : Cx} : OpR X (compareOp .Lt) rLtS := op_lt_str
theorem ev_ltS {a b : Str} (ha : Ev ta σ H (.str a)) (hb : Ev tb σ H (.str b)) : Ev (tOp rLtS ta tb) σ H (.bl (ltS a b)) := ev_op ha hb fun H1 x1 Q q => ⟨a, b, rfl, rfl, q H1 (Ex.refl _)⟩
theorem ev_anyN {bs : List Bool} (h : EvL tl σ H (bs.map V.bl)) : Ev (tCB (rAny K) (tCons tl tNil)) σ H (.bl (bs.any id)) := fun H1 x1 Q q => h H1 x1 _ fun p H2 hp x2 e => ⟨p, bs, rfl, sq_of e, q H2 x2⟩
theorem ev_allN {bs : List Bool} (h : EvL tl σ H (bs.map V.bl)) : Ev (tCB (rAll K) (tCons tl tNil)) σ H (.bl (bs.all id)) := fun H1 x1 Q q => h H1 x1 _ fun p H2 hp x2 e => ⟨p, bs, rfl, sq_of e, q H2 x2⟩
abbrev rLenStr : List V → Hp → VK → Prop := fun xs H Q => ∃ z : Str, xs = [V.str z] ∧ z.length ≤ sizeLine ∧ Q (V.int (z.length : Int)) H
theorem ev_lenS {x : Str} (h : Ev te σ H (.str x)) (hx : x.length ≤ sizeLine) : Ev (tCB rLenStr (tCons te tNil)) σ H (.int (x.length : Int)) := ev_cb (ea_cons h ea_nil) fun H1 x1 Q q => ⟨x, rfl, hx, q H1 (Ex.refl _)⟩
end
def isTextB (x al : Str) : Bool := decide (V.str (Txt.stripChars x al) = V.str "")
def isWordB (x al : Str) (m : Int) : Bool := isTextB x al && (decide ((1 : Int) ≤ (x.length : Int)) && decide ((x.length : Int) ≤ m))
def holdsB (x : Str) (ws : List Str) : Bool := ws.any fun w => inS w x
def spIsText : Sp := fun vs H Q _ => ∃ x al : Str, vs = [.str x, .str al] ∧ x.length ≤ sizeLine ∧ RetV (.bl (isTextB x al)) H Q
def spIsWord : Sp := fun vs H Q _ => ∃ (x al : Str) (m : Int), vs = [.str x, .str al, .int m] ∧ x.length ≤ sizeLine ∧ RetV (.bl (isWordB x al m)) H Q
def spHolds (K : PySem.W.Frag) : Sp := fun vs H Q _ => ∃ (x : Str) (a : Addr) (ws : List Str), vs = [.str x, .ref a] ∧ (SqL K H a (ws.map V.str) ∨ SqT K H a (ws.map V.str)) ∧ ws.length ≤ 40000 ∧ RetV (.bl (holdsB x ws)) H Q
section
variable {P : Program} {w : World} {K : PySem.W.Frag} {mg : Str → Option Value} {base : Heap}
theorem scIsText : FnScope ["value", "signs"] ["value", "signs"] (defScope sIsText) := ⟨rfl, rfl, rfl, by decide +kernel, rfl, by decide +kernel, by decide +kernel⟩
theorem ok_is_text {f : Addr} {fd : FuncData} (F : Fun K "is_text" "is_text" sIsText f fd) (T : Free mg) : FnOk P w K mg base CX0 1 f fd ["value", "signs"] spIsText := by
  refine F.ok scIsText (fun vs H Q E h => ?_) (fun cdv A outer s H vs Q E hr h => ?_)
  · obtain ⟨_, _, rfl, _⟩ := h
    rfl
  · obtain ⟨x, al, rfl, hx, k⟩ := h
    refine ⟨_, pss_one (ps_ret (pe_and (pe_callB call_isi (by rfl) T.isinstance (by decide +kernel) (pa_cons (pv 0) (pa_cons (pe_bltn (v := .ty "str") (by rfl) T.str (by decide +kernel) rfl) pa_nil)))
      (pe_one (pe_cmpR op_eq (pe_bm PySem.F.plainAttrs_str PySem.F.slot_str_strip PySem.F.type_str_strip mt_stripChars (pv 0) (pa_cons (pv 1) pa_nil)) pe_str (nomark _))))), ?_⟩
    refine ⟨_, rfl, _, _, _, _, true, rfl, .ty "str", .base (.str _), kit_ty (by decide +kernel), true, rfl, ?_⟩
    exact ⟨_, rfl, rfl, _, rfl, x, al, rfl, rfl, hx, rfl, k H (Ex.refl _)⟩
theorem scIsWord : FnScope ["value", "signs", "most"] ["value", "signs", "most"] (defScope sIsWord) := ⟨rfl, rfl, rfl, by decide +kernel, rfl, by decide +kernel, by decide +kernel⟩
structure TSigns (K : PySem.W.Frag) (mg : Str → Option Value) (fT fW fA fH : Addr) : Prop extends Free mg where
  gT : mg "is_text" = some (.ref fT)
  kT : PySem.W.keepIn K (.ref fT) = true
  gW : mg "is_word" = some (.ref fW)
  kW : PySem.W.keepIn K (.ref fW) = true
  gH : mg "holds_some" = some (.ref fH)
  kH : PySem.W.keepIn K (.ref fH) = true
  gA : mg "is_alphabet" = some (.ref fA)
  kA : PySem.W.keepIn K (.ref fA) = true
  gS : ∃ t, mg "SIGNS" = some (.str "0123456789abcdefghijklmnopqrstuvwxyz" t)
theorem ok_is_word {f fT fA fH : Addr} {fd fdT : FuncData} (F : Fun K "is_word" "is_word" sIsWord f fd) (T : TSigns K mg fT f fA fH) (FT : Fun K "is_text" "is_text" sIsText fT fdT) (bT : Binds K fdT ["value", "signs"] []) :
    FnOk P w K mg base CX0 2 f fd ["value", "signs", "most"] spIsWord := by
  have GT : FnOk P w K mg base CX0 1 fT fdT ["value", "signs"] spIsText := ok_is_text FT T.toFree
  refine F.ok scIsWord (fun vs H Q E h => ?_) (fun cdv A outer s H vs Q E hr h => ?_)
  · obtain ⟨_, _, _, rfl, _⟩ := h
    rfl
  · obtain ⟨x, al, m, rfl, hx, k⟩ := h
    refine ⟨_, pss_one (ps_ret (pe_and (pe_call GT hr (by rfl) T.gT T.kT bT .nil pass0 (pa_cons (pv 0) (pa_cons (pv 1) pa_nil)))
      (pe_one (pe_chain op_le op_le pe_int (pe_callB call_len_str (by rfl) T.len PySem.boot_len (pa_cons (pv 0) pa_nil)) (pv 2))))), ?_⟩
    refine ⟨_, rfl, _, rfl, x, al, rfl, hx, fun H2 x2 => ⟨_, rfl, ?_⟩⟩
    cases hb : isTextB x al with
    | false =>
      rw [if_neg (by decide)]
      have z := k H2 x2
      unfold isWordB at z
      rw [hb] at z
      exact z
    | true =>
      rw [if_pos rfl]
      refine ⟨_, rfl, x, rfl, hx, _, _, rfl, rfl, _, rfl, ?_⟩
      have z := k H2 x2
      unfold isWordB at z
      rw [hb, Bool.true_and] at z
      cases h1 : decide ((1 : Int) ≤ (x.length : Int)) with
      | false =>
        rw [if_neg (by decide)]
        rw [h1] at z
        exact z
      | true =>
        rw [if_pos rfl]
        rw [h1, Bool.true_and] at z
        exact ⟨_, rfl, _, _, rfl, rfl, z⟩
theorem scHolds : FnScope ["text", "words", "word"] ["text", "words"] (defScope sHoldsSome) := ⟨rfl, rfl, rfl, by decide +kernel, rfl, by decide +kernel, by decide +kernel⟩
theorem ok_holds {f : Addr} {fd : FuncData} (F : Fun K "holds_some" "holds_some" sHoldsSome f fd) (T : Free mg) : FnOk P w K mg base CX0 1 f fd ["text", "words"] (spHolds K) := by
  refine F.ok scHolds (fun vs H Q E h => ?_) (fun cdv A outer s H vs Q E hr h => ?_)
  · obtain ⟨_, _, _, rfl, _⟩ := h
    rfl
  · obtain ⟨x, a, ws, rfl, hs, hl, k⟩ := h
    have nd := scHolds.nd
    refine ⟨_, pss_one (ps_ret (pe_callB (cr_any rfl) (by rfl) T.any (by decide +kernel) (pa_cons (pe_lc (own := [("word", 2)]) (g := gName 2) (tt := tYes) rfl nd (pi_seqV (pv 1)) (blkOk_by (own := [("word", 2)]) (N := ["text", "words", "word"]) (sc := defScope sHoldsSome) (by decide +kernel))
      (fun _ _ _ _ _ => pg_name (i := 2) nd rfl (Or.inl rfl)) (fun _ _ _ _ _ => pts_nil) (fun _ _ _ _ _ => pe_cmpR op_inS (pv 2) (pv 0) (by rfl))) pa_nil))), ?_⟩
    refine s_ret (v := .bl (holdsB x ws)) ?_ fun H1 x1 => k H1 x1
    have e : holdsB x ws = (ws.map fun w => inS w x).any id := by
      unfold holdsB
      rw [List.any_map]
      rfl
    rw [e]
    refine ev_anyN ?_
    have z := el_strS (K := K) (σ := start ["text", "words", "word"] [.str x, .ref a]) (H := H) (te := tOp rInS (tVar 2) (tVar 0)) (t := tYes) (j := 2) (vs := [2]) (a := a) (i := 1) (ws := ws) (fun _ => true) (fun w => .bl (inS w x)) rfl hs hl (fun _ => rfl)
      (fun _ _ _ _ => et_yes) fun w H1 x1 m _ => ev_inS (ev_var rfl) (ev_var rfl)
    rw [all_str] at z
    rw [List.map_map]
    exact z
def sSIGNS : Str := "0123456789abcdefghijklmnopqrstuvwxyz"
def sgn (x : Str) (k : Nat) : Str := ⟨#[x.cps.toList.getD k 0]⟩
def isAlphaB (x : Str) : Bool := (isWordB x sSIGNS 4 && !decide ((x.length : Int) < 2)) && ((List.range (x.length - 1)).map fun k => ltS (sgn x k) (sgn x (k + 1))).all id
def spAlpha : Sp := fun vs H Q _ => ∃ x : Str, vs = [.str x] ∧ x.length ≤ 1000 ∧ RetV (.bl (isAlphaB x)) H Q
theorem spv_isWord {x al : Str} {m : Int} {H : Hp} (hx : x.length ≤ sizeLine) : SpV spIsWord [.str x, .str al, .int m] H (.bl (isWordB x al m)) := fun H1 x1 Q q E => ⟨x, al, m, rfl, hx, q⟩
theorem scAlpha : FnScope ["value", "k"] ["value"] (defScope sIsAlphabet) := ⟨rfl, rfl, rfl, by decide +kernel, rfl, by decide +kernel, by decide +kernel⟩
theorem ok_alpha {f fT fW fH : Addr} {fd fdT fdW : FuncData} (F : Fun K "is_alphabet" "is_alphabet" sIsAlphabet f fd) (T : TSigns K mg fT fW f fH) (FT : Fun K "is_text" "is_text" sIsText fT fdT) (bT : Binds K fdT ["value", "signs"] [])
    (FW : Fun K "is_word" "is_word" sIsWord fW fdW) (bW : Binds K fdW ["value", "signs", "most"] []) : FnOk P w K mg base CX0 3 f fd ["value"] spAlpha := by
  have GW : FnOk P w K mg base CX0 2 fW fdW ["value", "signs", "most"] spIsWord := ok_is_word FW (T := ⟨T.toFree, T.gT, T.kT, T.gW, T.kW, T.gH, T.kH, T.gA, T.kA, T.gS⟩) FT bT
  obtain ⟨tk, gS⟩ := T.gS
  refine F.ok scAlpha (fun vs H Q E h => ?_) (fun cdv A outer s H vs Q E hr h => ?_)
  · obtain ⟨_, rfl, _⟩ := h
    rfl
  · obtain ⟨x, rfl, hx, k⟩ := h
    have nd := scAlpha.nd
    refine ⟨_, pss_cons (ps_if (PW.pt (pw_or (pt_not (pt_val (pe_call GW hr (by rfl) T.gW T.kW bW .nil pass0 (pa_cons (pv 0) (pa_cons (pe_glob (v := .str sSIGNS) rfl gS ⟨_, rfl⟩) (pa_cons pe_int pa_nil))))))
      (pw_or1 (pt_cmpR op_lt (pe_callB call_len_str (by rfl) T.len PySem.boot_len (pa_cons (pv 0) pa_nil)) pe_int (nomark _))))) (pss_one (ps_ret pe_bl)) pss_nil)
      (pss_one (ps_ret (pe_callB (cr_all rfl) (by rfl) T.all (by decide +kernel) (pa_cons (pe_lc (own := [("k", 1)]) (g := gName 1) (tt := tYes) rfl nd (pi_range1 rfl T.range (pa_cons (pe_op op_sub (pe_callB call_len_str (by rfl) T.len PySem.boot_len (pa_cons (pv 0) pa_nil)) pe_int) pa_nil)) (blkOk_by (own := [("k", 1)]) (N := ["value", "k"]) (sc := defScope sIsAlphabet) (by decide +kernel))
      (fun _ _ _ _ _ => pg_name (i := 1) nd rfl (Or.inl rfl)) (fun _ _ _ _ _ => pts_nil) (fun _ _ _ _ _ => pe_cmpR op_ltS (pe_ix (r := rIxS) (by exact ix_str) (pv 0) (pv 1) (fun _ _ => rfl)) (pe_ix (r := rIxS) (by exact ix_str) (pv 0) (pe_op op_add (pv 1) pe_int) (fun _ _ => rfl)) (nomark _))) pa_nil)))), ?_⟩
    have hz : x.length ≤ sizeLine := by
      rw [sizeLine_eq]
      omega
    refine q_when (b := !isWordB x sSIGNS 4 || decide ((x.length : Int) < 2)) (et_or (et_not (et_B (ev_call (ea_cons (ev_var rfl) (ea_cons ev_c (ea_cons ev_c ea_nil))) (spv_isWord hz)))) fun _ => et_test (ev_op (ev_lenS (ev_var rfl) hz) ev_c rv_I0)) (fun hb H1 x1 => ?_) (fun hb H1 x1 => ?_)
    · refine s_ret ev_c fun H2 x2 => ?_
      have z := k H2 (x1.trans x2)
      have e : isAlphaB x = false := by
        unfold isAlphaB
        have : (isWordB x sSIGNS 4 && !decide ((x.length : Int) < 2)) = false := by
          revert hb
          cases isWordB x sSIGNS 4 <;> cases decide ((x.length : Int) < 2) <;> simp
        rw [this, Bool.false_and]
      rw [e] at z
      exact z
    · refine s_ret (v := .bl (isAlphaB x)) ?_ fun H2 x2 => k H2 (x1.trans x2)
      have h1 : (isWordB x sSIGNS 4 && !decide ((x.length : Int) < 2)) = true := by
        revert hb
        cases isWordB x sSIGNS 4 <;> cases decide ((x.length : Int) < 2) <;> simp
      have h2 : 2 ≤ x.length := by
        have : decide ((x.length : Int) < 2) = false := by
          revert h1
          cases decide ((x.length : Int) < 2) <;> simp
        have := of_decide_eq_false this
        omega
      unfold isAlphaB
      rw [h1, Bool.true_and]
      refine ev_allN ?_
      have z := el_lcR1 (σ := start ["value", "k"] [.str x]) (H := H1) (te := tOp rLtS (tOp rIxS (tVar 0) (tVar 1)) (tOp rIxS (tVar 0) (tOp (rI0 fun i j => .int (i + j)) (tVar 1) (tC (.int 1))))) (t := tYes) (j := 1) (vs := [1]) (n := (x.length : Int) - 1)
        (ta := tCons (tOp (rI0 fun i j => .int (i - j)) (tCB rLenStr (tCons (tVar 0) tNil)) (tC (.int 1))) tNil) (fun _ => true) (fun k => .bl (ltS (sgn x k) (sgn x (k + 1))))
        (ea_cons (ev_op (ev_lenS (ev_var rfl) hz) ev_c rv_I0) ea_nil) ⟨by omega, by omega⟩ (fun _ => rfl) (fun _ _ _ _ => et_yes) (fun i H3 x3 hi _ => ?_)
      · have e : ((x.length : Int) - 1).toNat = x.length - 1 := by omega
        rw [e] at z
        unfold given at z
        rw [all_str] at z
        rw [List.map_map]
        exact z
      · have hi0 : i < x.cps.toList.length := by
          have : x.length = x.cps.toList.length := by
            show x.cps.size = _
            simp
          omega
        have hi1 : i + 1 < x.cps.toList.length := by
          have : x.length = x.cps.toList.length := by
            show x.cps.size = _
            simp
          omega
        have g0 : x.cps.toList[i]? = some (x.cps.toList.getD i 0) := by rw [List.getElem?_eq_getElem hi0, List.getD_eq_getElem?_getD, List.getElem?_eq_getElem hi0]; rfl
        have g1 : x.cps.toList[i + 1]? = some (x.cps.toList.getD (i + 1) 0) := by rw [List.getElem?_eq_getElem hi1, List.getD_eq_getElem?_getD, List.getElem?_eq_getElem hi1]; rfl
        exact ev_ltS (ev_op (ev_var rfl) (ev_var rfl) (rv_ixS (by omega) (atI_nat g0))) (ev_op (ev_var rfl) (ev_op (ev_var rfl) ev_c rv_I0) (rv_ixS (by omega) (atI_nat (j := i + 1) g1)))
end
end K02

set_option Elab.async false
set_option linter.all false
set_option maxRecDepth 100000
set_option maxHeartbeats 4000000
/-! sorted(t, key=len, reverse=True), t a tuple of texts -/
namespace KU
open PySem PySem.Spec PyProof.Rows L2 Evl
abbrev kwLR : List (Str × Value) := [("key", .builtin "len"), ("reverse", .bool true)]
def RelS (v : Value) (x : Str) : Prop := ∃ t, v = Value.str x t
theorem each_of : ∀ {ws : List Str} {its : List Value}, Vals (ws.map V.str) its → PySem.W.EachIs RelS its ws
  | [], [], .nil => .nil
  | _ :: _, _ :: _, .cons r q => .cons r (each_of q)
theorem of_each : ∀ {ws : List Str} {its : List Value}, PySem.W.EachIs RelS its ws → Vals (ws.map V.str) its
  | [], [], .nil => .nil
  | _ :: _, _ :: _, .cons r q => .cons r (of_each q)
theorem len_falls (ws : List Str) : (ws.mergeSort (PySem.W.dataLe true fun x : Str => .int (x.length : Int))).Pairwise (fun a b : Str => b.length ≤ a.length) := by
  rw [PySem.W.dataGe_int]
  have z := List.pairwise_mergeSort (le := fun a b : Str => decide ((b.length : Int) ≤ (a.length : Int))) (fun a b c h1 h2 => decide_eq_true (Int.le_trans (of_decide_eq_true h2) (of_decide_eq_true h1)))
    (fun a b => by
      rw [Bool.or_eq_true, decide_eq_true_eq, decide_eq_true_eq]
      exact Int.le_total _ _) ws
  exact z.imp fun h => Int.ofNat_le.mp (of_decide_eq_true h)
theorem sorted_lenT {P : Program} {w : World} {A : Around} {Ex : Value → Shared → Prop} {s : Shared} {t : Addr} {ws : List Str} {its : List Value} {Q : Value → Shared → Prop} (ht : IsTup s.heap t its.toArray) (rel : Vals (ws.map V.str) its)
    (hl : its.length ≤ sizeLine) (hz : ∀ x ∈ ws, x.length ≤ 1000) (hu : A.units + 100 < cLine)
    (q : ∀ (h1 h' : Heap) (tk : Nat) (out : List Value) (c : Nat) (ys : List Str), (∀ b o, s.heap.get? b = some o → h1.get? b = some o) → (∀ b o, h1.get? b = some o → h'.get? b = some o) → h'.get? h1.objs.size = some (seqObj "list" out.toArray c) → Vals (ys.map V.str) out → ys.Perm ws → ys.Pairwise (fun a b : Str => b.length ≤ a.length) →
      Q (.ref h1.objs.size) { heap := h', gens := s.gens, drawn := s.drawn, toks := tk, os := s.os }) : wpAny (model P w) A (call (.builtin "sorted") [.ref t] kwLR) Q Ex s := by
  refine call_function_entry_kw kind_sorted plain_sorted entry_sorted rfl ?_
  show wpAny _ _ (checkCount "sorted" 1 1 1 >>= _) _ _ _
  refine wpAny_bind (wpAny_pure ?_)
  obtain ⟨o, ho, hc, n, hd⟩ := ht
  refine wpAny_bind (wpAny_collect_seq t (.inr rfl) ho hc hd (fun h' kp => ?_) (by simpa using hl))
  refine wpAny_bind (wpAny_newList ?_ (by simpa using hl))
  have hD0 : (h'.push { cls := .type "list", data := .seq its.toArray }).get? h'.objs.size = some (seqObj "list" its.toArray 0) := Heap.get?_push_size _ rfl
  have old : ∀ b o, h'.get? b = some o → b ≠ h'.objs.size ∧ (h'.push { cls := .type "list", data := .seq its.toArray }).get? b = some o := fun b o e =>
    ⟨Nat.ne_of_lt (Heap.lt_size e), Heap.get?_push_of_some _ e⟩
  refine wpAny_bind (wpAny_holding (PySem.W.list_sort_key_data (k := fun x : Str => .int (x.length : Int)) (R := RelS) (bs := ws) (b := true) hD0 (each_of rel) ?_ ?_ ?_ (fun x hx => ?_) rfl rfl (fun v x hR hx h tk kb => ?_) fun out c h2 tk kb hD hlen each => ?_))
  · intro d hd d' hd'
    obtain ⟨x, _, rfl⟩ := List.mem_map.mp hd
    obtain ⟨y, _, rfl⟩ := List.mem_map.mp hd'
    rfl
  · refine .inr fun d hd => ?_
    obtain ⟨x, _, rfl⟩ := List.mem_map.mp hd
    refine (⟨?_, ?_⟩ : _ ∧ _)
    · intro z
      cases z
    · intro xs z
      cases z
  · have := rel.length
    rw [List.length_map] at this
    rw [this]
    exact hl
  · simp only [PyData.depth]
    show A.units + 1 + 1 + 0 < cLine
    omega
  · obtain ⟨t2, rfl⟩ := hR
    have hx1 := hz x hx
    exact PySem.P.len_str (by omega) ⟨h, _, rfl, fun _ _ e => e, Reads.int _ _⟩
  · exact wpAny_pure ⟨_, rfl, q h' h2 tk out c _ kp (fun b o e => kb b o (old b o e).1 (old b o e).2) hD (of_each each) (List.mergeSort_perm _ _) (len_falls ws)⟩
section
variable {X : Cx} {e : Expr} {te : TE}
def tSLR (K : PySem.W.Frag) (te : TE) : TE := fun σ H Q => te σ H fun x H1 => ∃ (t : Addr) (ws : List Str), [x] = [V.ref t] ∧ SqT K H1 t (ws.map V.str) ∧ (∀ y ∈ ws, y.length ≤ 1000) ∧ ∀ (ys : List Str) (p : Addr), ys.Perm ws → ys.Pairwise (fun a b : Str => b.length ≤ a.length) → H1 p = none → Q (.ref p) (upd H1 p (.lst (ys.map V.str)))
theorem pe_sortedLR {p p2 p3 k1 k2 pos : Pos} {j : Nat} (he : PE X e te) (hg : Gl X "sorted") (hm : X.mg "sorted" = none) (hgl : Gl X "len") (hml : X.mg "len" = none) (hu : X.A.units + 100 < cLine)
    (hst : starEach [e] X.env = (false, eval e X.env) :: starEach [] X.env := by rfl) (hpl : (backTo pos (starEach [e] X.env)).any (·.1) = false := by rfl)
    (hbk : backTo pos (starEach [e] X.env) = (false, eval e X.env) :: backTo pos (starEach [] X.env) := by rfl) : PE X (.Call (.Name "sorted" p) [e] [⟨some "key", .Name "len" p2, k1⟩, ⟨some "reverse", .Constant (.bool true) j p3, k2⟩] pos) (tSLR X.K te) := by
  refine ⟨fun pins s σ H Q I h => ?_⟩
  refine wpAny_Call_Name_kw (ld_blt I hg hm (by decide +kernel : bootBuiltins "sorted" = some (.builtin "sorted")) ?_)
  refine callWith_kw (thn ((pa_cons he pa_nil hst).run pos pins s σ H (fun vs H1 => ∃ (t : Addr) (ws : List Str), vs = [V.ref t] ∧ SqT X.K H1 t (ws.map V.str) ∧ (∀ y ∈ ws, y.length ≤ 1000) ∧ ∀ (ys : List Str) (p : Addr), ys.Perm ws → ys.Pairwise (fun a b : Str => b.length ≤ a.length) → H1 p = none → Q (.ref p) (upd H1 p (.lst (ys.map V.str)))) I h) fun us s1 z => ?_) hbk hpl rfl rfl
  obtain ⟨vs, H1, I1, r1, t, ws, ev, hs, hz, q⟩ := z
  refine wpAny_evalAll_cons (wpAny_bind (ld_blt I1 hgl hml PySem.boot_len (wpAny_bind (wpAny_standAt (wpAny_pure (wpAny_evalAll_cons (wpAny_bind (wpAny_mono ((pe_bl (X := X) (b := true) (j := j) (pos := p3)).run pins s1 σ H1 (fun v H2 => v = .bl true ∧ H2 = H1) I1 ⟨rfl, rfl⟩) (fun u s2 z => ?_) fun _ _ z => z))))))))
  obtain ⟨v, H2, I2, r2, e1, e2⟩ := z
  subst e1
  subst e2
  cases r2
  refine wpAny_bind (wpAny_standAt (wpAny_pure (wpAny_evalAll_nil ?_)))
  show wpAny _ _ (call (.builtin "sorted") us kwLR) _ _ _
  obtain ⟨u, rfl, ru⟩ := vals1 (by rw [ev] at r1; exact r1)
  obtain rfl : u = Value.ref t := ru
  obtain ⟨its, rv, ht, hn⟩ := I2.tuple hs
  have hl : its.length ≤ sizeLine := by
    rw [← rv.length]
    exact hn
  refine sorted_lenT ht rv hl hz hu fun h1 h' tk out c ys k1 k2 hD rel pe pw => ?_
  have J : Inv X pins σ H2 { heap := h1, gens := s2.gens, drawn := s2.drawn, toks := s2.toks, os := s2.os } := I2.turnedL (ch := []) (fun b o _ => k1 b o) (fun b hb => by cases hb)
  refine ⟨.ref h1.objs.size, _, J.laid (h' := h') (a := h1.objs.size) (o := .lst (ys.map V.str)) k2 (Nat.le_refl _) ?_, rfl, q ys _ pe pw (J.hok.fresh (Nat.le_refl _))⟩
  have len : ys.length ≤ sizeLine := by
    rw [pe.length_eq, ← List.length_map (f := V.str)]
    exact hn
  exact ⟨by rw [List.length_map]; exact len, out, c, rel, hD⟩
end
end KU

set_option Elab.async false
set_option linter.all false
set_option maxRecDepth 100000
set_option maxHeartbeats 4000000
/-! sorted(t, key=len), t a tuple of texts -/
namespace KU
open PySem PySem.Spec PyProof.Rows L2 Evl
abbrev kwL1 : List (Str × Value) := [("key", .builtin "len")]
theorem len_rises (ws : List Str) : (ws.mergeSort (PySem.W.dataLe false fun x : Str => .int (x.length : Int))).Pairwise (fun a b : Str => a.length ≤ b.length) := by
  rw [PySem.W.dataLe_int]
  have z := List.pairwise_mergeSort (le := fun a b : Str => decide ((a.length : Int) ≤ (b.length : Int))) (fun a b c h1 h2 => decide_eq_true (Int.le_trans (of_decide_eq_true h1) (of_decide_eq_true h2)))
    (fun a b => by
      rw [Bool.or_eq_true, decide_eq_true_eq, decide_eq_true_eq]
      exact Int.le_total _ _) ws
  exact z.imp fun h => Int.ofNat_le.mp (of_decide_eq_true h)
theorem sorted_len1 {P : Program} {w : World} {A : Around} {Ex : Value → Shared → Prop} {s : Shared} {t : Addr} {ws : List Str} {its : List Value} {Q : Value → Shared → Prop} (ht : IsTup s.heap t its.toArray) (rel : Vals (ws.map V.str) its)
    (hl : its.length ≤ sizeLine) (hz : ∀ x ∈ ws, x.length ≤ 1000) (hu : A.units + 100 < cLine)
    (q : ∀ (h1 h' : Heap) (tk : Nat) (out : List Value) (c : Nat) (ys : List Str), (∀ b o, s.heap.get? b = some o → h1.get? b = some o) → (∀ b o, h1.get? b = some o → h'.get? b = some o) → h'.get? h1.objs.size = some (seqObj "list" out.toArray c) → Vals (ys.map V.str) out → ys.Perm ws → ys.Pairwise (fun a b : Str => a.length ≤ b.length) →
      Q (.ref h1.objs.size) { heap := h', gens := s.gens, drawn := s.drawn, toks := tk, os := s.os }) : wpAny (model P w) A (call (.builtin "sorted") [.ref t] kwL1) Q Ex s := by
  refine call_function_entry_kw kind_sorted plain_sorted entry_sorted rfl ?_
  show wpAny _ _ (checkCount "sorted" 1 1 1 >>= _) _ _ _
  refine wpAny_bind (wpAny_pure ?_)
  obtain ⟨o, ho, hc, n, hd⟩ := ht
  refine wpAny_bind (wpAny_collect_seq t (.inr rfl) ho hc hd (fun h' kp => ?_) (by simpa using hl))
  refine wpAny_bind (wpAny_newList ?_ (by simpa using hl))
  have hD0 : (h'.push { cls := .type "list", data := .seq its.toArray }).get? h'.objs.size = some (seqObj "list" its.toArray 0) := Heap.get?_push_size _ rfl
  have old : ∀ b o, h'.get? b = some o → b ≠ h'.objs.size ∧ (h'.push { cls := .type "list", data := .seq its.toArray }).get? b = some o := fun b o e =>
    ⟨Nat.ne_of_lt (Heap.lt_size e), Heap.get?_push_of_some _ e⟩
  refine wpAny_bind (wpAny_holding (PySem.W.list_sort_key_data (k := fun x : Str => .int (x.length : Int)) (R := RelS) (bs := ws) (b := false) hD0 (each_of rel) ?_ ?_ ?_ (fun x hx => ?_) rfl rfl (fun v x hR hx h tk kb => ?_) fun out c h2 tk kb hD hlen each => ?_))
  · intro d hd d' hd'
    obtain ⟨x, _, rfl⟩ := List.mem_map.mp hd
    obtain ⟨y, _, rfl⟩ := List.mem_map.mp hd'
    rfl
  · refine .inr fun d hd => ?_
    obtain ⟨x, _, rfl⟩ := List.mem_map.mp hd
    refine (⟨?_, ?_⟩ : _ ∧ _)
    · intro z
      cases z
    · intro xs z
      cases z
  · have := rel.length
    rw [List.length_map] at this
    rw [this]
    exact hl
  · simp only [PyData.depth]
    show A.units + 1 + 1 + 0 < cLine
    omega
  · obtain ⟨t2, rfl⟩ := hR
    have hx1 := hz x hx
    exact PySem.P.len_str (by omega) ⟨h, _, rfl, fun _ _ e => e, Reads.int _ _⟩
  · exact wpAny_pure ⟨_, rfl, q h' h2 tk out c _ kp (fun b o e => kb b o (old b o e).1 (old b o e).2) hD (of_each each) (List.mergeSort_perm _ _) (len_rises ws)⟩
section
variable {X : Cx} {e : Expr} {te : TE}
def tSL1 (K : PySem.W.Frag) (te : TE) : TE := fun σ H Q => te σ H fun x H1 => ∃ (t : Addr) (ws : List Str), [x] = [V.ref t] ∧ SqT K H1 t (ws.map V.str) ∧ (∀ y ∈ ws, y.length ≤ 1000) ∧ ∀ (ys : List Str) (p : Addr), ys.Perm ws → ys.Pairwise (fun a b : Str => a.length ≤ b.length) → H1 p = none → Q (.ref p) (upd H1 p (.lst (ys.map V.str)))
theorem pe_sortedL1 {p p2 k1 pos : Pos} (he : PE X e te) (hg : Gl X "sorted") (hm : X.mg "sorted" = none) (hgl : Gl X "len") (hml : X.mg "len" = none) (hu : X.A.units + 100 < cLine)
    (hst : starEach [e] X.env = (false, eval e X.env) :: starEach [] X.env := by rfl) (hpl : (backTo pos (starEach [e] X.env)).any (·.1) = false := by rfl)
    (hbk : backTo pos (starEach [e] X.env) = (false, eval e X.env) :: backTo pos (starEach [] X.env) := by rfl) : PE X (.Call (.Name "sorted" p) [e] [⟨some "key", .Name "len" p2, k1⟩] pos) (tSL1 X.K te) := by
  refine ⟨fun pins s σ H Q I h => ?_⟩
  refine wpAny_Call_Name_kw (ld_blt I hg hm (by decide +kernel : bootBuiltins "sorted" = some (.builtin "sorted")) ?_)
  refine callWith_kw (thn ((pa_cons he pa_nil hst).run pos pins s σ H (fun vs H1 => ∃ (t : Addr) (ws : List Str), vs = [V.ref t] ∧ SqT X.K H1 t (ws.map V.str) ∧ (∀ y ∈ ws, y.length ≤ 1000) ∧ ∀ (ys : List Str) (p : Addr), ys.Perm ws → ys.Pairwise (fun a b : Str => a.length ≤ b.length) → H1 p = none → Q (.ref p) (upd H1 p (.lst (ys.map V.str)))) I h) fun us s1 z => ?_) hbk hpl rfl rfl
  obtain ⟨vs, H1, I1, r1, t, ws, ev, hs, hz, q⟩ := z
  refine wpAny_evalAll_cons (wpAny_bind (ld_blt I1 hgl hml PySem.boot_len (wpAny_bind (wpAny_standAt (wpAny_pure (wpAny_evalAll_nil ?_))))))
  show wpAny _ _ (call (.builtin "sorted") us kwL1) _ _ _
  obtain ⟨u, rfl, ru⟩ := vals1 (by rw [ev] at r1; exact r1)
  obtain rfl : u = Value.ref t := ru
  obtain ⟨its, rv, ht, hn⟩ := I1.tuple hs
  have hl : its.length ≤ sizeLine := by
    rw [← rv.length]
    exact hn
  refine sorted_len1 ht rv hl hz hu fun h1 h' tk out c ys k1 k2 hD rel pe pw => ?_
  have J : Inv X pins σ H1 { heap := h1, gens := s1.gens, drawn := s1.drawn, toks := s1.toks, os := s1.os } := I1.turnedL (ch := []) (fun b o _ => k1 b o) (fun b hb => by cases hb)
  refine ⟨.ref h1.objs.size, _, J.laid (h' := h') (a := h1.objs.size) (o := .lst (ys.map V.str)) k2 (Nat.le_refl _) ?_, rfl, q ys _ pe pw (J.hok.fresh (Nat.le_refl _))⟩
  have len : ys.length ≤ sizeLine := by
    rw [pe.length_eq, ← List.length_map (f := V.str)]
    exact hn
  exact ⟨by rw [List.length_map]; exact len, out, c, rel, hD⟩
end
end KU

set_option Elab.async false
set_option linter.all false
set_option maxRecDepth 100000
set_option maxHeartbeats 4000000
/-! Dict comprehensions, walks over the keys of a locked dict -/
namespace KU
open PySem PySem.Spec PyProof.Rows L2 Evl
section
variable {K : PySem.W.Frag} {σ : L2.St} {H : Hp} {te tl tk tv : TE} {t : TT} {xs : List V} {j : Nat} {vs : List Nat}
theorem dc_it {J : It} {n : Nat} {G : Hp → Prop} {Y : Nat → Hp → V → Hp → Prop} (w : Walk J n G Y) {g : TG} {H1 : Hp} {D : Addr} {Qd : Hp → Prop} (Pv : Nat → Hp → Prop) (h0 : Pv 0 (upd H1 D (.dK []))) (hG : ∀ i H, i ≤ n → Pv i H → G H)
    (hs : ∀ i x H H', i < n → Pv i H → Y i H x H' → g x (wipe σ vs) H' fun σ2 H2 => wipe σ2 vs = wipe σ vs ∧ t σ2 H2 fun b H3 => if b = true then tk σ2 H3 fun y H4 => tv σ2 H4 fun z H5 =>
      ∃ kvs k, y = kV k ∧ H5 D = some (.dK kvs) ∧ kvs.length < sizeLine ∧ Pv (i + 1) (upd H5 D (.dK (putK kvs k z))) else Pv (i + 1) H3) (hd : ∀ H, Pv n H → Qd H) :
    ∃ W : Nat → Nat → Hp → Prop, (∃ m, W 0 m (upd H1 D (.dK []))) ∧ ∀ i m H, W i m H → (J.stop i H ∧ Qd H) ∨ (J.go i H ∧ ∃ Nx : Hp → Prop, (∀ H', Nx H' → ∃ m', m' < m ∧ W (i + 1) m' H') ∧
      ∀ x H', J.yld i H x H' → g x (wipe σ vs) H' fun σ2 H2 => wipe σ2 vs = wipe σ vs ∧ t σ2 H2 fun b H3 => if b = true then tk σ2 H3 fun y H4 => tv σ2 H4 fun z H5 =>
        ∃ kvs k, y = kV k ∧ H5 D = some (.dK kvs) ∧ kvs.length < sizeLine ∧ Nx (upd H5 D (.dK (putK kvs k z))) else Nx H3) := by
  refine ⟨fun i m H => i ≤ n ∧ m = n - i ∧ Pv i H, ⟨n, Nat.zero_le _, rfl, h0⟩, fun i m H ⟨hi, hm, p⟩ => ?_⟩
  by_cases e : i = n
  · subst e
    exact .inl ⟨w.stops H (hG i H hi p), hd H p⟩
  · have lt : i < n := by omega
    exact .inr ⟨w.goes i H lt (hG i H hi p), Pv (i + 1), fun H' q => ⟨n - (i + 1), by omega, by omega, rfl, q⟩, fun x H' y => hs i x H H' lt p (w.yields i H x H' lt (hG i H hi p) y)⟩
theorem on_true {p q : Prop} (h : p) : if true = true then p else q := by
  rw [if_pos rfl]
  exact h
/-- the texts of a walk as keys, in the order in which they first come -/
def keysD (ws : List Str) : List (Key × V) := ws.foldl (fun kvs w => putK kvs (Sum.inr w) (.bl true)) []
theorem keysD_snoc (ws : List Str) (w : Str) : keysD (ws ++ [w]) = putK (keysD ws) (Sum.inr w) (.bl true) := by
  unfold keysD
  rw [List.foldl_append]
  rfl
theorem putK_len (kvs : List (Key × V)) (k : Key) (v : V) : (putK kvs k v).length ≤ kvs.length + 1 := by
  unfold putK
  split
  · rw [List.length_map]
    omega
  · rw [List.length_append]
    exact Nat.le_refl _
theorem keysD_len (ws : List Str) : (keysD ws).length ≤ ws.length := by
  have : ∀ (acc : List (Key × V)), (ws.foldl (fun kvs w => putK kvs (Sum.inr w) (.bl true)) acc).length ≤ acc.length + ws.length := by
    induction ws with
    | nil => intro acc; exact Nat.le_refl _
    | cons a r ih =>
      intro acc
      have z := ih (putK acc (Sum.inr a) (.bl true))
      have y := putK_len acc (Sum.inr a) (.bl true)
      rw [List.foldl_cons, List.length_cons]
      omega
  have z := this []
  rw [List.length_nil, Nat.zero_add] at z
  exact z
/-- {w: True for w in ws}: a new dict -/
theorem dc_str {a : Addr} {i : Nat} {ws : List Str} {H1 : Hp} {Q : VK} (hx : σ[i]? = some (some (.ref a))) (hs : SqL K H1 a (ws.map V.str) ∨ SqT K H1 a (ws.map V.str)) (hl : ws.length ≤ 40000)
    (hw : ∀ x : V, wipe ((wipe σ vs).set j (some x)) vs = wipe σ vs)
    (hk : ∀ (x : Str) (H2 : Hp), Ev tk ((wipe σ vs).set j (some (.str x))) H2 (.str x))
    (q : ∀ (D : Addr) (H2 : Hp), H1 D = none → Ex H1 H2 → H2 D = some (.dK (keysD ws)) → Q (.ref D) H2) : tDc (iSeqV K i) (gName j) tYes tk (tC (.bl true)) vs σ H1 Q := by
  have core : ∀ (J : It) (G : Hp → Prop), Walk J (ws.map V.str).length G (YAt (ws.map V.str)) → (∀ H2, Ex H1 H2 → G H2) → ∀ D, H1 D = none → ∃ W : Nat → Nat → Hp → Prop, (∃ m, W 0 m (upd H1 D (.dK []))) ∧ ∀ i m H, W i m H → (J.stop i H ∧ Q (.ref D) H) ∨ (J.go i H ∧ ∃ Nx : Hp → Prop, (∀ H', Nx H' → ∃ m', m' < m ∧ W (i + 1) m' H') ∧
      ∀ x H', J.yld i H x H' → gName j x (wipe σ vs) H' fun σ2 H2 => wipe σ2 vs = wipe σ vs ∧ tYes σ2 H2 fun b H3 => if b = true then tk σ2 H3 fun y H4 => tC (.bl true) σ2 H4 fun z H5 =>
        ∃ kvs k, y = kV k ∧ H5 D = some (.dK kvs) ∧ kvs.length < sizeLine ∧ Nx (upd H5 D (.dK (putK kvs k z))) else Nx H3) := by
    intro J G w hG D hD
    refine dc_it w (Pv := fun i H2 => Ex H1 H2 ∧ H2 D = some (.dK (keysD (ws.take i)))) ⟨Ex.new hD, upd_same⟩ (fun i H2 _ c => hG H2 c.1) (fun i x H2 H3 hi c y => ?_) fun H2 c => ?_
    · obtain ⟨rfl, hx⟩ := y
      rw [List.getElem?_map] at hx
      cases e : ws[i]? with
      | none =>
        rw [e] at hx
        cases hx
      | some w0 =>
        rw [e] at hx
        cases hx
        refine ⟨hw _, ?_⟩
        refine et_yes (H := H3) H3 (Ex.refl _) _ fun H5 x5 => ?_
        rw [if_pos rfl]
        refine hk w0 H5 H5 (Ex.refl _) _ fun H4 x4' => ?_
        have x4 := x5.trans x4'
        refine ⟨keysD (ws.take i), Sum.inr w0, rfl, x4 _ _ c.2, ?_, ?_, ?_⟩
        · have := keysD_len (ws.take i)
          rw [sizeLine_eq]
          rw [List.length_take] at this
          omega
        · intro b o hb
          have ne : b ≠ D := by
            rintro rfl
            rw [hD] at hb
            cases hb
          rw [upd_ne ne]
          exact x4 _ _ (c.1 _ _ hb)
        · rw [upd_same]
          have e2 : ws.take (i + 1) = ws.take i ++ [w0] := by
            rw [List.take_succ, e]
            rfl
          rw [e2, keysD_snoc]
    · have e : (ws.map V.str).length = ws.length := List.length_map _
      rw [e, List.take_length] at c
      exact q D H2 hD c.1 c.2
  rcases hs with hs | hs
  · exact ⟨a, _, hx, .inl ⟨hs, fun D hD => core _ _ walk_list (fun H2 x2 => ex_l x2 hs) D hD⟩⟩
  · exact ⟨a, _, hx, .inr ⟨hs, fun D hD => core _ _ walk_tup (fun H2 x2 => ex_t x2 hs) D hD⟩⟩
/-- a comprehension over the keys of a dict that is locked -/
theorem el_fmK {d : Addr} {o : Obj} {kvs : List (Key × V)} (p : V → Bool) (φ : V → V) (hx : Ev tl σ H (.ref d)) (hd : H d = some (.frz o (.dK kvs))) (hl : kvs.length ≤ 40000)
    (hw : ∀ x : V, wipe ((wipe σ vs).set j (some x)) vs = wipe σ vs)
    (ht : ∀ (x : V) (H1 : Hp), Ex H H1 → x ∈ kvs.map (fun kv => kV kv.1) → EvT t ((wipe σ vs).set j (some x)) H1 (p x))
    (he : ∀ (x : V) (H1 : Hp), Ex H H1 → x ∈ kvs.map (fun kv => kV kv.1) → p x = true → Ev te ((wipe σ vs).set j (some x)) H1 (φ x)) : EvL (tLc (iKeys tl) (gName j) t te vs) σ H (((kvs.map fun kv => kV kv.1).filter p).map φ) := by
  rw [← given_fm]
  intro H1 x1 Q q
  refine hx H1 x1 _ fun H2 x2 => ⟨d, o, rfl, .inl ⟨kvs, (x1.trans x2) _ _ hd, fun D hD => ?_⟩⟩
  have wk : Walk (Itk d o kvs) (kvs.map fun kv => kV kv.1).length (fun H => H d = some (.frz o (.dK kvs))) (YAt (kvs.map fun kv => kV kv.1)) := by
    rw [List.length_map]
    refine walk_keys.mono (fun _ h => h) fun i H3 x H4 hi h y => ⟨y.1, ?_⟩
    obtain ⟨_, k, v, e, rfl⟩ := y
    rw [List.getElem?_map, e]
    rfl
  refine lc_cw wk (fun H3 x3 => x3 _ _ hd) (by rw [List.length_map]; exact hl) _ _ hw (fun i x H3 x3 e => ?_) (fun i x H3 x3 e k => ?_) (x1.trans x2) hD fun p H3 hp x3 e => q p H3 (fresh_back x2 hp) (x2.trans x3) e
  · rw [e]
    exact ht x H3 x3 (List.mem_of_getElem? e)
  · rw [e] at k ⊢
    exact he x H3 x3 (List.mem_of_getElem? e) k
theorem q_asgR {te : TE} {i : Nat} {tz : TS} {D : Ends} (h : te σ H fun x H1 => tz D (σ.set i (some x)) H1) : tSeq (tAsg te (gName i)) tz D σ H := h
theorem q_lockR {te : TE} {i : Nat} {tz : TS} {D : Ends} {d : Addr} {u : HO} (hd : H d = some u) (m : Mut (some u))
    (h : ∀ od, te σ (upd H d (.frz od u)) fun x H1 => H1 d = some (.frz od u) ∧ tz D (σ.set i (some x)) (upd H1 d u)) : tSeq (tLock (tAsg te (gName i))) tz D σ H := ⟨d, u, hd, m, h⟩
theorem ev_call_vl {ta : TE} {sp : Sp} {E : XK} {v z : V} (ha : Ev ta σ H v) (hl : EvL tl σ H xs) (h : ∀ (p : Addr) (H1 : Hp), Ex H H1 → H1 p = some (.lst xs) → SpV sp [v, .ref p] H1 z) : Ev (tCall sp [] E (tCons ta (tCons tl tNil))) σ H z :=
  fun H1 x1 Q q => ha H1 x1 _ fun H2 x2 => hl H2 (x1.trans x2) _ fun p H3 hp x3 e => h p H3 ((x1.trans x2).trans x3) e H3 (Ex.refl _) Q (fun H4 x4 => q H4 ((x2.trans x3).trans x4)) E
theorem q_forS {g : TG} {tb tz : TS} {D : Ends} {H0 : Hp} {a : Addr} {i : Nat} (hx : σ[i]? = some (some (.ref a))) (hs : SqL K H0 a xs ∨ SqT K H0 a xs) (Pv : Nat → L2.St → Hp → Prop) (x0 : Ex H0 H) (h0 : Pv 0 σ H) (hex : ∀ i σ' H', Pv i σ' H' → Ex H0 H')
    (ht : ∀ (i : Nat) (x : V) (σ' : L2.St) (H' : Hp), xs[i]? = some x → Pv i σ' H' → g x σ' H' fun σ2 H2 => tb { nx := Pv (i + 1), rt := D.rt, bk := tz D, ct := Pv (i + 1) } σ2 H2) (hd : ∀ σ' H', Pv xs.length σ' H' → tz D σ' H') : tSeq (tFor (iSeqV K i) g tb) tz D σ H := by
  rcases hs with hs | hs
  · refine ⟨a, xs, hx, .inl ⟨ex_l x0 hs, ?_⟩⟩
    exact for_it (D := { D with nx := tz D }) walk_list Pv h0 (fun i σ' H' _ p => ex_l (hex i σ' H' p) hs) (fun i x σ' H' H2 hi p y => by
      obtain ⟨rfl, e⟩ := y
      exact ht i x σ' _ e p) hd
  · refine ⟨a, xs, hx, .inr ⟨ex_t x0 hs, ?_⟩⟩
    exact for_it (D := { D with nx := tz D }) walk_tup Pv h0 (fun i σ' H' _ p => ex_t (hex i σ' H' p) hs) (fun i x σ' H' H2 hi p y => by
      obtain ⟨rfl, e⟩ := y
      exact ht i x σ' _ e p) hd
theorem el_lockE {d : Addr} {u : HO} (hd : H d = some u) (m : Mut (some u)) (h : ∀ od H1, Ex H H1 → EvL tl σ (upd H1 d (.frz od u)) xs) : EvL (tLockE tl) σ H xs := by
  intro H1 x1 Q q
  refine ⟨d, u, x1 _ _ hd, m, fun od => h od H1 x1 _ (Ex.refl _) _ fun p H2 hp x2 e => ⟨x2 _ _ upd_same, ?_⟩⟩
  have ne : p ≠ d := by
    rintro rfl
    rw [upd_same] at hp
    cases hp
  rw [upd_ne ne] at hp
  refine q p _ hp (fun b o hb => ?_) (by rw [upd_ne ne]; exact e)
  by_cases nb : b = d
  · subst nb
    rw [x1 _ _ hd] at hb
    rw [upd_same, hb]
  · rw [upd_ne nb]
    refine x2 _ _ ?_
    rw [upd_ne nb]
    exact hb
end
end KU

set_option Elab.async false
set_option linter.all false
set_option maxRecDepth 100000
set_option maxHeartbeats 4000000
/-! Dict comprehensions over texts in a sequence, over the signs of a text: what is known of the entries -/
namespace KU
open PySem PySem.Spec PyProof.Rows L2 Evl
section
variable {K : PySem.W.Frag} {σ : L2.St} {H : Hp} {te tl tk tv : TE} {t : TT} {xs : List V} {j : Nat} {vs : List Nat}
theorem dc_seqG {a : Addr} {i : Nat} {ws : List Str} {H1 : Hp} {Q : VK} {φ : Str → V} (Iv : Nat → List (Key × V) → Prop) (i0 : Iv 0 []) (few : ∀ i kvs, Iv i kvs → kvs.length ≤ i)
    (step : ∀ i w kvs, ws[i]? = some w → Iv i kvs → Iv (i + 1) (putK kvs (Sum.inr w) (φ w))) (hx : σ[i]? = some (some (.ref a))) (hs : SqL K H1 a (ws.map V.str) ∨ SqT K H1 a (ws.map V.str)) (hl : ws.length ≤ 40000)
    (hw : ∀ x : V, wipe ((wipe σ vs).set j (some x)) vs = wipe σ vs) (hk : ∀ (x : Str) (H2 : Hp), Ev tk ((wipe σ vs).set j (some (.str x))) H2 (.str x)) (hv : ∀ (x : Str) (H2 : Hp), Ex H1 H2 → x ∈ ws → Ev tv ((wipe σ vs).set j (some (.str x))) H2 (φ x))
    (q : ∀ (D : Addr) (H2 : Hp) (kvs : List (Key × V)), H1 D = none → Ex H1 H2 → H2 D = some (.dK kvs) → Iv ws.length kvs → Q (.ref D) H2) : tDc (iSeqV K i) (gName j) tYes tk tv vs σ H1 Q := by
  have core : ∀ (J : It) (G : Hp → Prop), Walk J (ws.map V.str).length G (YAt (ws.map V.str)) → (∀ H2, Ex H1 H2 → G H2) → ∀ D, H1 D = none → ∃ W : Nat → Nat → Hp → Prop, (∃ m, W 0 m (upd H1 D (.dK []))) ∧ ∀ i m H, W i m H → (J.stop i H ∧ Q (.ref D) H) ∨ (J.go i H ∧ ∃ Nx : Hp → Prop, (∀ H', Nx H' → ∃ m', m' < m ∧ W (i + 1) m' H') ∧
      ∀ x H', J.yld i H x H' → gName j x (wipe σ vs) H' fun σ2 H2 => wipe σ2 vs = wipe σ vs ∧ tYes σ2 H2 fun b H3 => if b = true then tk σ2 H3 fun y H4 => tv σ2 H4 fun z H5 =>
        ∃ kvs k, y = kV k ∧ H5 D = some (.dK kvs) ∧ kvs.length < sizeLine ∧ Nx (upd H5 D (.dK (putK kvs k z))) else Nx H3) := by
    intro J G w hG D hD
    refine dc_it w (Pv := fun i H2 => Ex H1 H2 ∧ ∃ kvs, H2 D = some (.dK kvs) ∧ Iv i kvs) ⟨Ex.new hD, [], upd_same, i0⟩ (fun i H2 _ c => hG H2 c.1) (fun i x H2 H3 hi c y => ?_) fun H2 c => ?_
    · obtain ⟨rfl, hx⟩ := y
      obtain ⟨xx, kvs, eD, iv⟩ := c
      rw [List.getElem?_map] at hx
      cases e : ws[i]? with
      | none =>
        rw [e] at hx
        cases hx
      | some w0 =>
        rw [e] at hx
        cases hx
        refine ⟨hw _, et_yes (H := H3) H3 (Ex.refl _) _ fun H5 x5 => ?_⟩
        rw [if_pos rfl]
        refine hk w0 H5 H5 (Ex.refl _) _ fun H4 x4 => hv w0 H4 ((xx.trans x5).trans x4) (List.mem_of_getElem? e) H4 (Ex.refl _) _ fun H6 x6 => ?_
        have x3 := (x5.trans x4).trans x6
        refine ⟨kvs, Sum.inr w0, rfl, x3 _ _ eD, ?_, ?_, _, upd_same, step i w0 kvs e iv⟩
        · have := few i kvs iv
          have lt := (List.getElem?_eq_some_iff.mp e).1
          rw [sizeLine_eq]
          omega
        · intro b o hb
          have ne : b ≠ D := by
            rintro rfl
            rw [hD] at hb
            cases hb
          rw [upd_ne ne]
          exact x3 _ _ (xx _ _ hb)
    · obtain ⟨xx, kvs, eD, iv⟩ := c
      rw [List.length_map] at iv
      exact q D H2 kvs hD xx eD iv
  rcases hs with hs | hs
  · exact ⟨a, _, hx, .inl ⟨hs, fun D hD => core _ _ walk_list (fun H2 x2 => ex_l x2 hs) D hD⟩⟩
  · exact ⟨a, _, hx, .inr ⟨hs, fun D hD => core _ _ walk_tup (fun H2 x2 => ex_t x2 hs) D hD⟩⟩
/-- {c: .. for c in z}, z a text: an entry for each of its signs -/
theorem dc_txtG {z : Str} {H1 : Hp} {Q : VK} {φ : Nat → V} (hz : Ev te σ H1 (.str z)) (hl : z.length ≤ 40000) (hw : ∀ x : V, wipe ((wipe σ vs).set j (some x)) vs = wipe σ vs)
    (hk : ∀ (c : Nat) (H2 : Hp), Ev tk ((wipe σ vs).set j (some (.str ⟨#[c]⟩))) H2 (.str ⟨#[c]⟩)) (hv : ∀ (c : Nat) (H2 : Hp), Ex H1 H2 → c ∈ z.cps.toList → Ev tv ((wipe σ vs).set j (some (.str ⟨#[c]⟩))) H2 (φ c))
    (q : ∀ (D : Addr) (H2 : Hp) (kvs : List (Key × V)), H1 D = none → Ex H1 H2 → H2 D = some (.dK kvs) → kvs.length ≤ z.length → (∀ c ∈ z.cps.toList, valV kvs (Sum.inr ⟨#[c]⟩) = some (φ c)) → Q (.ref D) H2) : tDc (iStr te) (gName j) tYes tk tv vs σ H1 Q := by
  refine hz H1 (Ex.refl _) _ fun H1' x1 => ⟨z, rfl, fun D hD' => ?_⟩
  have hD : H1 D = none := fresh_back x1 hD'
  refine dc_it walk_str (Pv := fun i H2 => Ex H1 H2 ∧ ∃ kvs, H2 D = some (.dK kvs) ∧ kvs.length ≤ i ∧ ∀ k c, k < i → z.cps.toList[k]? = some c → valV kvs (Sum.inr ⟨#[c]⟩) = some (φ c)) ⟨x1.trans (Ex.new hD'), [], upd_same, Nat.le_refl _, fun k c h _ => absurd h (Nat.not_lt_zero _)⟩
    (fun _ _ _ _ => trivial) (fun i x H2 H3 hi p y => ?_) fun H2 p => ?_
  · obtain ⟨rfl, c0, hc, rfl⟩ := y
    obtain ⟨xx, kvs, eD, kl, all⟩ := p
    have hc' : z.cps.toList[i]? = some c0 := by
      rw [Array.getElem?_toList]
      exact hc
    refine ⟨hw _, et_yes (H := H3) H3 (Ex.refl _) _ fun H5 x5 => ?_⟩
    rw [if_pos rfl]
    refine hk c0 H5 H5 (Ex.refl _) _ fun H4 x4 => hv c0 H4 ((xx.trans x5).trans x4) (List.mem_of_getElem? hc') H4 (Ex.refl _) _ fun H6 x6 => ?_
    have x3 := (x5.trans x4).trans x6
    refine ⟨kvs, Sum.inr ⟨#[c0]⟩, rfl, x3 _ _ eD, ?_, ?_, _, upd_same, ?_, fun k c hk2 hk3 => ?_⟩
    · have e : z.length = z.cps.size := rfl
      rw [sizeLine_eq]
      omega
    · intro b o hb
      have ne : b ≠ D := by
        rintro rfl
        rw [hD] at hb
        cases hb
      rw [upd_ne ne]
      exact x3 _ _ (xx _ _ hb)
    · have := putK_len kvs (Sum.inr ⟨#[c0]⟩) (φ c0)
      omega
    · rw [valV_put]
      by_cases e : c = c0
      · subst e
        rw [if_pos rfl]
      · rw [if_neg fun q => e (by cases q; rfl)]
        refine all k c ?_ hk3
        refine Nat.lt_of_le_of_ne (Nat.le_of_lt_succ hk2) ?_
        rintro rfl
        rw [hc'] at hk3
        cases hk3
        exact e rfl
  · obtain ⟨xx, kvs, eD, kl, all⟩ := p
    refine q D H2 kvs hD xx eD kl fun c hc => ?_
    obtain ⟨k, hk1, hk2⟩ := List.getElem_of_mem hc
    refine all k c ?_ (by rw [List.getElem?_eq_getElem hk1, hk2])
    rw [Array.length_toList] at hk1
    exact hk1
end
end KU

set_option Elab.async false
set_option linter.all false
set_option maxRecDepth 100000
/-! Texts in order, each once -/
namespace KU
open PySem PySem.Spec PyProof.Rows L2
theorem ltCps_iff : ∀ a b : List Nat, ltCps a b = true ↔ a < b
  | [], [] => by simp [ltCps]
  | [], _ :: _ => by simp [ltCps]
  | _ :: _, [] => by simp [ltCps]
  | a :: r, b :: t => by
    have ih := ltCps_iff r t
    rw [List.cons_lt_cons_iff]
    simp only [ltCps]
    rw [← ih]
    simp [Bool.or_eq_true, Bool.and_eq_true]
theorem str_ext {a b : Str} (h : a.cps.toList = b.cps.toList) : a = b := by
  cases a with
  | mk x =>
    cases b with
    | mk y =>
      congr 1
      exact Array.ext' h
theorem rising_pw (x : Str) (l : List Str) (h : risingS x l = true) : (x :: l).Pairwise fun a b => a.cps.toList ≤ b.cps.toList := by
  induction l generalizing x with
  | nil => exact List.pairwise_singleton _ _
  | cons y r ih =>
    simp only [risingS, Bool.and_eq_true, Bool.not_eq_true'] at h
    have z := ih y h.2
    have le : x.cps.toList ≤ y.cps.toList := by
      refine List.not_lt.mp fun q => ?_
      have := (ltCps_iff _ _).mpr q
      rw [this] at h
      exact absurd h.1 (by decide)
    refine List.Pairwise.cons (fun b hb => ?_) z
    rcases List.mem_cons.mp hb with rfl | hb
    · exact le
    · exact List.le_trans le (List.rel_of_pairwise_cons z hb)
theorem sorted_pw {l : List Str} (h : sortedS l = true) : l.Pairwise fun a b => a.cps.toList ≤ b.cps.toList := by
  cases l with
  | nil => exact List.Pairwise.nil
  | cons x r => exact rising_pw x r h
theorem sorted_unique {a b : List Str} (p : a.Perm b) (ha : sortedS a = true) (hb : sortedS b = true) : a = b :=
  p.eq_of_pairwise (fun x y _ _ h1 h2 => str_ext (List.le_antisymm h1 h2)) (sorted_pw ha) (sorted_pw hb)
/-- the texts, each at its first place -/
def uniq (ws : List Str) : List Str := ws.foldl (fun acc w => if w ∈ acc then acc else acc ++ [w]) []
theorem uniq_snoc (ws : List Str) (w : Str) : uniq (ws ++ [w]) = if w ∈ uniq ws then uniq ws else uniq ws ++ [w] := by
  unfold uniq
  rw [List.foldl_append]
  rfl
theorem snoc_ind {α : Type} {p : List α → Prop} (h0 : p []) (h1 : ∀ l a, p l → p (l ++ [a])) (l : List α) : p l := by
  have : ∀ r : List α, p r.reverse := by
    intro r
    induction r with
    | nil => exact h0
    | cons a t ih =>
      rw [List.reverse_cons]
      exact h1 _ _ ih
  have z := this l.reverse
  rw [List.reverse_reverse] at z
  exact z
theorem mem_uniq (ws : List Str) (x : Str) : x ∈ uniq ws ↔ x ∈ ws := by
  induction ws using snoc_ind with
  | h0 => exact Iff.rfl
  | h1 l a ih =>
    rw [uniq_snoc]
    split
    · rename_i h
      rw [ih, List.mem_append, List.mem_singleton]
      constructor
      · exact .inl
      · rintro (q | rfl)
        · exact q
        · exact ih.mp h
    · rw [List.mem_append, List.mem_append, ih]
theorem nodup_uniq (ws : List Str) : (uniq ws).Nodup := by
  induction ws using snoc_ind with
  | h0 => exact List.nodup_nil
  | h1 l a ih =>
    rw [uniq_snoc]
    split
    · exact ih
    · rename_i h
      refine List.nodup_append.mpr ⟨ih, List.pairwise_singleton _ _, fun x hx y hy => ?_⟩
      rw [List.mem_singleton] at hy
      subst hy
      rintro rfl
      exact h hx
theorem uniq_len (ws : List Str) : (uniq ws).length ≤ ws.length := by
  induction ws using snoc_ind with
  | h0 => exact Nat.le_refl _
  | h1 l a ih =>
    rw [uniq_snoc]
    split
    · rw [List.length_append]
      omega
    · rw [List.length_append, List.length_append]
      exact Nat.add_le_add_right ih _
theorem keysD_uniq (ws : List Str) : keysD ws = (uniq ws).map fun w => (Sum.inr w, V.bl true) := by
  induction ws using snoc_ind with
  | h0 => rfl
  | h1 l a ih =>
    rw [keysD_snoc, uniq_snoc, ih]
    unfold putK
    by_cases h : a ∈ uniq l
    · have e : (((uniq l).map fun w => ((Sum.inr w : Key), V.bl true)).any fun kv => decide (kv.1 = Sum.inr a)) = true := by
        rw [List.any_map, List.any_eq_true]
        exact ⟨a, h, by simp⟩
      rw [if_pos e, if_pos h, List.map_map]
      refine List.map_congr_left fun x _ => ?_
      show (if (Sum.inr x : Key) = Sum.inr a then ((Sum.inr x : Key), V.bl true) else (Sum.inr x, V.bl true)) = _
      split <;> rfl
    · have e : ¬ (((uniq l).map fun w => ((Sum.inr w : Key), V.bl true)).any fun kv => decide (kv.1 = Sum.inr a)) = true := by
        rw [List.any_map, List.any_eq_true]
        rintro ⟨x, hx, q⟩
        have : (Sum.inr x : Key) = Sum.inr a := of_decide_eq_true q
        cases this
        exact h hx
      rw [if_neg e, if_neg h, List.map_append]
      rfl
theorem keysD_keys (ws : List Str) : (keysD ws).map (fun kv => kV kv.1) = (uniq ws).map V.str := by
  rw [keysD_uniq, List.map_map]
  rfl
/-- two lists of texts, each once, of the same texts, sorted: one list -/
theorem sorted_same {a b x y : List Str} (pa : x.Perm a) (pb : y.Perm b) (na : a.Nodup) (nb : b.Nodup) (same : ∀ t, t ∈ a ↔ t ∈ b) (hx : sortedS x = true) (hy : sortedS y = true) : x = y :=
  sorted_unique ((pa.trans ((List.perm_ext_iff_of_nodup na nb).mpr same)).trans pb.symm) hx hy
end KU

set_option Elab.async false
set_option linter.all false
set_option maxRecDepth 100000
set_option maxHeartbeats 4000000
/-! bars.py: least words, ends -/
namespace K02
open PySem PySem.Spec PyProof.Rows L2 Evl KU
abbrev sLeast : Stmt := top 24
abbrev sEnds : Stmt := top 25
abbrev sChecked : Stmt := top 27
/-- the scope of the outer comprehension of least_words -/
def scOuter : PySem.Scope := { kind := .function, names := [(".0", .local), ("word", .cell), ("holds_some", .globalImplicit), ("unlike", .cell)], isGenerator := false, isCoroutine := false }
section
variable {P : Program} {w : World} {K : PySem.W.Frag} {mg : Str → Option Value} {base : Heap}
theorem scLeast : FnScope ["words", "unlike", "least", "word", "other"] ["words"] (defScope sLeast) := ⟨rfl, rfl, rfl, by decide +kernel, rfl, by decide +kernel, by decide +kernel⟩
/-- the words that hold no other one -/
def leastU (ws : List Str) : List Str := (uniq ws).filter fun w => !holdsB w ((uniq ws).filter fun o => !decide (V.str o = V.str w))
/-- a new tuple of some texts, sorted -/
def NewT (zs : List Str) (H : Hp) (Q : VK) : Prop := ∀ (ys : List Str) (p : Addr) (H' : Hp), ys.Perm zs → sortedS ys = true → H p = none → Ex H H' → H' p = some (.tup (ys.map V.str)) → Q (.ref p) H'
abbrev rTupleOf (K : PySem.W.Frag) : List V → Hp → VK → Prop := fun xs H Q => ∃ (p : Addr) (ys : List V), xs = [V.ref p] ∧ ((SqL K H p ys ∧ ∀ l : Addr, H l = none → Q (V.ref l) (upd H l (.tup ys))) ∨ (SqT K H p ys ∧ Q (V.ref p) H))
theorem ret_sorted {K : PySem.W.Frag} {σ : L2.St} {H : Hp} {tl : TE} {D : Ends} {zs : List Str} (hl : EvL tl σ H (zs.map V.str)) (lt : zs.length < 64) (k : NewT zs H D.rt) :
    tRet (tCB (rTupleOf K) (tCons (tCB (rSortedS K) (tCons tl tNil)) tNil)) D σ H := by
  have z := hl H (Ex.refl _) (fun v H1 => rSortedS K [v] H1 fun v2 H2 => rTupleOf K [v2] H2 D.rt) fun L2 H6 hL2 x6 e6 => ⟨L2, zs, rfl, sq_of e6, lt, fun ys p perm srt hp => ⟨p, ys.map V.str, rfl, .inl ⟨sq_of upd_same, fun l hl => ?_⟩⟩⟩
  · exact z
  · have x7 : Ex H (upd H6 p (.lst (ys.map V.str))) := x6.trans (Ex.new hp)
    exact k ys l _ perm srt (fresh_back x7 hl) (x7.trans (Ex.new hl)) upd_same
theorem NewT.mono {zs : List Str} {H H' : Hp} {Q : VK} (x : Ex H H') (k : NewT zs H Q) : NewT zs H' Q := fun ys p H2 pe so hp x2 e => k ys p H2 pe so (fresh_back x hp) (x.trans x2) e
def spLeast (K : PySem.W.Frag) : Sp := fun vs H Q _ => ∃ (a : Addr) (ws : List Str), vs = [.ref a] ∧ (SqL K H a (ws.map V.str) ∨ SqT K H a (ws.map V.str)) ∧ ws.length < 64 ∧ NewT (leastU ws) H Q
theorem spv_holds {x : Str} {a : Addr} {ws : List Str} {H : Hp} (hs : SqL K H a (ws.map V.str)) (hl : ws.length ≤ 40000) : SpV (spHolds K) [.str x, .ref a] H (.bl (holdsB x ws)) :=
  fun H1 x1 Q q E => ⟨x, a, ws, rfl, .inl (ex_l x1 hs), hl, q⟩
theorem ok_least {f fT fW fA fH : Addr} {fd fdH : FuncData} (F : Fun K "least_words" "least_words" sLeast f fd) (T : TSigns K mg fT fW fA fH) (FH : Fun K "holds_some" "holds_some" sHoldsSome fH fdH) (bH : Binds K fdH ["text", "words"] []) :
    FnOk P w K mg base CX0 2 f fd ["words"] (spLeast K) := by
  have GH : FnOk P w K mg base CX0 1 fH fdH ["text", "words"] (spHolds K) := ok_holds FH T.toFree
  refine F.ok scLeast (fun vs H Q E h => ?_) (fun cdv A outer s H vs Q E hr h => ?_)
  · obtain ⟨_, _, rfl, _⟩ := h
    rfl
  · obtain ⟨a, ws, rfl, hs, hl, k⟩ := h
    have nd := scLeast.nd
    refine ⟨_, pss_cons (ps_set (i := 1) nd rfl (.inr rfl) (pe_dc (own := [("word", 3)]) (g := gName 3) (tt := tYes) rfl nd (pi_seqV (pv 0)) (blkOk_by (own := [("word", 3)]) (N := ["words", "unlike", "least", "word", "other"]) (sc := defScope sLeast) (by decide +kernel))
        (fun _ _ _ _ _ => pg_name (i := 3) nd rfl (Or.inl rfl)) (fun _ _ _ _ _ => pts_nil) (fun _ _ _ _ _ => pv 3) (fun _ _ _ _ _ => pe_bl)))
      (pss_cons (ps_lock (ps_setLc (i := 2) (own := [("word", 3)]) (g := gName 3) rfl nd rfl rfl (sw_true rfl rfl rfl (by decide +kernel)) (pi_keys (pv 1)) (blkOk_by (own := [("word", 3)]) (N := ["words", "unlike", "least", "word", "other"]) (sc := defScope sLeast) (by decide +kernel))
        (fun _ _ _ _ _ => pg_name (i := 3) nd rfl (Or.inr rfl)) (fun _ _ _ _ _ => pts_one (pt_not (pt_val (pe_call GH hr (by rfl) T.gH T.kH bH .nil pass0 (pa_cons (pv 3) (pa_cons
            (pe_lc (own := [("other", 4)]) (g := gName 4) rfl nd (pi_keys (pv 1)) (by refine blkOk_by (N := ["words", "unlike", "least", "word", "other"]) (sc := scOuter) ?_; decide +kernel)
              (fun _ _ _ _ _ => pg_name (i := 4) nd rfl (Or.inl rfl)) (fun _ _ _ _ _ => pts_one (pt_cmpR op_ne (pv 4) (pv 3) (nomark _))) (fun _ _ _ _ _ => pv 4)) pa_nil)))))) (fun _ _ _ _ _ => pv 3)))
      (pss_one (ps_ret (pe_callTy call_tuple_of (by rfl) T.tuple (by decide +kernel) (pa_cons (pe_callB cr_sortedS (by rfl) T.sorted (by decide +kernel) (pa_cons
        (pe_lc (own := [("word", 3)]) (g := gName 3) (tt := tYes) rfl nd (pi_list (pv 2)) (blkOk_by (own := [("word", 3)]) (N := ["words", "unlike", "least", "word", "other"]) (sc := defScope sLeast) (by decide +kernel))
          (fun _ _ _ _ _ => pg_name (i := 3) nd rfl (Or.inl rfl)) (fun _ _ _ _ _ => pts_nil) (fun _ _ _ _ _ => pe_callTy SkE.call_str_str (by rfl) T.str (by decide +kernel) (pa_cons (pv 3) pa_nil))) pa_nil)) pa_nil))))), ?_⟩
    have hu := uniq_len ws
    refine q_asgR (dc_str (σ := [some (.ref a), none, none, none, none]) (i := 0) (j := 3) (vs := [3]) (tk := tVar 3) rfl hs (by omega) (fun _ => rfl) (fun x H2 => ev_var rfl) fun D H2 hD x2 eD => ?_)
    refine q_lockR eD trivial fun od => ?_
    have keyL : (keysD ws).length ≤ 40000 := by
      have := keysD_len ws
      omega
    have e3 : upd H2 D (.frz od (.dK (keysD ws))) D = some (.frz od (.dK (keysD ws))) := upd_same
    generalize hH3 : upd H2 D (.frz od (.dK (keysD ws))) = H3 at e3 ⊢
    have z := el_fmK (σ := [some (.ref a), some (.ref D), none, none, none]) (H := H3) (te := tVar 3) (tl := tVar 1) (j := 3) (vs := [3])
      (t := tNot (tB (tCall (spHolds K) [] E0 (tCons (tVar 3) (tCons (tLc (iKeys (tVar 1)) (gName 4) (tTest (tOp rNe (tVar 4) (tVar 3))) (tVar 4) [4]) tNil)))))
      (onSB fun w => !holdsB w ((uniq ws).filter fun o => !decide (V.str o = V.str w))) (fun x => x) (ev_var rfl) e3 keyL (fun _ => rfl) (fun x H4 x4 m => ?_) (fun x H4 x4 m _ => ev_var rfl)
    · refine z H3 (Ex.refl _) _ fun L H4 hL x4 eL => ⟨x4 _ _ e3, ?_⟩
      have x5 : Ex H2 (upd H4 D (.dK (keysD ws))) := by
        intro b o hb
        by_cases ne : b = D
        · subst ne
          rw [eD] at hb
          rw [upd_same, hb]
        · rw [upd_ne ne]
          refine x4 _ _ ?_
          rw [← hH3, upd_ne ne]
          exact hb
      have eL5 : upd H4 D (.dK (keysD ws)) L = some (.lst ((leastU ws).map V.str)) := by
        have ne : L ≠ D := by
          rintro rfl
          rw [e3] at hL
          cases hL
        rw [upd_ne ne, eL, keysD_keys, List.map_id', List.filter_map]
        rfl
      generalize upd H4 D (.dK (keysD ws)) = H5 at x5 eL5 ⊢
      have lle : (leastU ws).length < 64 := by
        have := List.length_filter_le (fun w => !holdsB w ((uniq ws).filter fun o => !decide (V.str o = V.str w))) (uniq ws)
        unfold leastU
        omega
      have y := el_fmL (K := K) (σ := [some (.ref a), some (.ref D), some (.ref L), none, none]) (H := H5) (te := tCB (fun xs H Q => ∃ a : Str, xs = [V.str a] ∧ Q (V.str a) H) (tCons (tVar 3) tNil)) (tl := tVar 2) (j := 3) (vs := [3]) (t := tYes) (fun _ => true) (fun x => x)
        (ev_var rfl) (sq_of eL5) (by rw [List.length_map]; omega) (fun _ => rfl) (fun _ _ _ _ => et_yes) (fun x H6 x6 m _ => ?_)
      · rw [all_str, List.map_id'] at y
        exact ret_sorted y lle (k.mono (x2.trans x5))
      · obtain ⟨w0, mw, rfl⟩ := mem_str m
        exact ev_cb (ea_cons (ev_var rfl) ea_nil) fun H7 x7 Q7 q7 => ⟨w0, rfl, q7 H7 (Ex.refl _)⟩
    · rw [keysD_keys] at m
      obtain ⟨w0, mw, rfl⟩ := mem_str m
      refine et_not (et_B (ev_call_vl (xs := ((uniq ws).filter fun o => !decide (V.str o = V.str w0)).map V.str) (ev_var rfl) ?_ fun p H5 x5 e5 => spv_holds (sq_of e5) ?_))
      · have y := el_fmK (σ := [some (.ref a), some (.ref D), none, some (.str w0), none]) (H := H4) (te := tVar 4) (tl := tVar 1) (j := 4) (vs := [4]) (t := tTest (tOp rNe (tVar 4) (tVar 3))) (onSB fun o => !decide (V.str o = V.str w0)) (fun x => x)
          (ev_var rfl) (x4 _ _ e3) keyL (fun _ => rfl) (fun x H5 x5 m5 => ?_) (fun x H5 x5 m5 _ => ev_var rfl)
        · rw [keysD_keys] at y
          have e : List.map (fun x => x) (((uniq ws).map V.str).filter (onSB fun o => !decide (V.str o = V.str w0))) = ((uniq ws).filter fun o => !decide (V.str o = V.str w0)).map V.str := by
            rw [List.map_id', List.filter_map]
            rfl
          rw [e] at y
          exact y
        · rw [keysD_keys] at m5
          obtain ⟨w1, mw1, rfl⟩ := mem_str m5
          exact et_test (ev_op (ev_var rfl) (ev_var rfl) (rv_ne rfl))
      · have := List.length_filter_le (fun o => !decide (V.str o = V.str w0)) (uniq ws)
        omega
end
end K02

set_option Elab.async false
set_option linter.all false
set_option maxRecDepth 100000
set_option maxHeartbeats 4000000
/-! bars.py: ends -/
namespace K02
open PySem PySem.Spec PyProof.Rows L2 Evl KU
def begins (w : Str) : List Str := (List.range w.length).map fun k : Nat => cutS w none (some (k : Int))
def endsL (ws : List Str) : List Str := "" :: ws.flatMap begins
section
variable {P : Program} {w : World} {K : PySem.W.Frag} {mg : Str → Option Value} {base : Heap}
theorem scEnds : FnScope ["words", "found", "word", "k", "end"] ["words"] (defScope sEnds) := ⟨rfl, rfl, rfl, by decide +kernel, rfl, by decide +kernel, by decide +kernel⟩
def spEnds (K : PySem.W.Frag) : Sp := fun vs H Q _ => ∃ (a : Addr) (ws : List Str), vs = [.ref a] ∧ (SqL K H a (ws.map V.str) ∨ SqT K H a (ws.map V.str)) ∧ (endsL ws).length < 64 ∧ (∀ t ∈ ws, t.length ≤ 1000) ∧ NewT (uniq (endsL ws)) H Q
theorem ok_ends {f : Addr} {fd : FuncData} (F : Fun K "ends_of" "ends_of" sEnds f fd) (T : Free mg) : FnOk P w K mg base CX0 1 f fd ["words"] (spEnds K) := by
  refine F.ok scEnds (fun vs H Q E h => ?_) (fun cdv A outer s H vs Q E hr h => ?_)
  · obtain ⟨_, _, rfl, _⟩ := h
    rfl
  · obtain ⟨a, ws, rfl, hs, hl, hz, k⟩ := h
    have nd := scEnds.nd
    refine ⟨_, pss_cons (ps_set (i := 1) nd rfl (.inl rfl) (pe_disp (pps_cons pe_str pe_bl pps_nil) (by rfl) (by rfl) (fun z => by cases z) (by decide)))
      (pss_cons (ps_for PassesOwn.never rfl (pi_seqV (pv 0)) (pg_name (i := 2) nd rfl (.inl rfl)) (pss_one (ps_for PassesOwn.never rfl (pi_range1 rfl T.range (pa_cons (pe_callB call_len_str (by rfl) T.len PySem.boot_len (pa_cons (pv 2) pa_nil)) pa_nil)) (pg_name (i := 3) nd rfl (.inl rfl))
        (pss_one (ps_dput (hu_of hr) (pv 1) (pe_slice sl_str (pv 2) po_none (po_some (pv 3))) pe_bl rfl)))))
      (pss_one (ps_ret (pe_callTy call_tuple_of (by rfl) T.tuple (by decide +kernel) (pa_cons (pe_callB cr_sortedS (by rfl) T.sorted (by decide +kernel) (pa_cons
        (pe_lock (pe_lc (own := [("end", 4)]) (g := gName 4) (tt := tYes) rfl nd (pi_keys (pv 1)) (blkOk_by (own := [("end", 4)]) (N := ["words", "found", "word", "k", "end"]) (sc := defScope sEnds) (by decide +kernel))
          (fun _ _ _ _ _ => pg_name (i := 4) nd rfl (Or.inl rfl)) (fun _ _ _ _ _ => pts_nil) (fun _ _ _ _ _ => pe_callTy SkE.call_str_str (by rfl) T.str (by decide +kernel) (pa_cons (pv 4) pa_nil)))) pa_nil)) pa_nil))))), ?_⟩
    refine q_asgR fun D hD => ?_
    refine ⟨upd_same, [(Sum.inr "", .bl true)], rfl, by decide, ?_⟩
    have x1 : Ex H (upd (upd H D (.dK [])) D (.dK (mergeK [] [(Sum.inr "", .bl true)]))) := by
      intro b o hb
      have ne : b ≠ D := by
        rintro rfl
        rw [hD] at hb
        cases hb
      rw [upd_ne ne, upd_ne ne]
      exact hb
    have e1 : upd (upd H D (.dK [])) D (.dK (mergeK [] [(Sum.inr "", .bl true)])) D = some (.dK (keysD (endsL []))) := upd_same
    generalize upd (upd H D (.dK [])) D (.dK (mergeK [] [(Sum.inr "", .bl true)])) = H1 at x1 e1 ⊢
    have step : ∀ i (w0 : Str), ws[i]? = some w0 → endsL (ws.take (i + 1)) = endsL (ws.take i) ++ begins w0 := by
      intro i w0 e
      rw [List.take_succ, e]
      unfold endsL
      simp
    refine q_forS (K := K) (H0 := H) (a := a) (xs := ws.map V.str) (Pv := fun i σ' H' => (∃ x2 x3, σ' = [some (.ref a), some (.ref D), x2, x3, none]) ∧ Ex H H' ∧ H' D = some (.dK (keysD (endsL (ws.take i))))) rfl hs x1 ⟨⟨_, _, rfl⟩, x1, e1⟩ (fun i σ' H' p => p.2.1) (fun i x σ' H' ex p => ?_) fun σ' H' p => ?_
    · obtain ⟨⟨x2, x3, rfl⟩, xx, eD⟩ := p
      rw [List.getElem?_map] at ex
      cases e : ws[i]? with
      | none =>
        rw [e] at ex
        cases ex
      | some w0 =>
        rw [e] at ex
        cases ex
        have hw0 : w0.length ≤ 1000 := hz _ (List.mem_of_getElem? e)
        have hw1 : w0.length ≤ sizeLine := by
          rw [sizeLine_eq]
          omega
        refine s_forR1 (n := (w0.length : Int)) (ea_cons (ev_lenS (ev_var rfl) hw1) ea_nil) ⟨by omega, by omega⟩ (fun m σ2 H2 => (∃ x3, σ2 = [some (.ref a), some (.ref D), some (.str w0), x3, none]) ∧ Ex H H2 ∧ H2 D = some (.dK (keysD (endsL (ws.take i) ++ (begins w0).take m))))
          (fun H2 x2 => ⟨⟨_, rfl⟩, xx.trans x2, by rw [List.take_zero, List.append_nil]; exact x2 _ _ eD⟩) (fun m σ2 H2 hm p => ?_) fun σ2 H2 p => ?_
        · obtain ⟨⟨x4, rfl⟩, x5, e5⟩ := p
          have hm' : m < w0.length := by omega
          have em : (begins w0).take (m + 1) = (begins w0).take m ++ [cutS w0 none (some (m : Int))] := by
            rw [List.take_succ]
            congr 1
            unfold begins
            rw [List.getElem?_map, List.getElem?_range hm']
            rfl
          have sz : (keysD (endsL (ws.take i) ++ (begins w0).take m)).length < sizeLine := by
            have h1 := keysD_len (endsL (ws.take i) ++ (begins w0).take m)
            have h2 : (endsL (ws.take i) ++ (begins w0).take m).length ≤ 1064 := by
              have h3 : (endsL (ws.take i)).length ≤ (endsL ws).length := by
                unfold endsL
                have : ws.flatMap begins = (ws.take i).flatMap begins ++ (ws.drop i).flatMap begins := by rw [← List.flatMap_append, List.take_append_drop]
                rw [this, List.length_cons, List.length_cons, List.length_append]
                omega
              rw [List.length_append, List.length_take]
              omega
            rw [sizeLine_eq]
            omega
          refine ⟨_, rfl, _, rfl, _, rfl, _, rfl, w0, rfl, hw1, D, _, rfl, DPut.k (k := Sum.inr _) e5 sz, ?_⟩
          refine ⟨⟨_, rfl⟩, fun b o hb => ?_, ?_⟩
          · have ne : b ≠ D := by
              rintro rfl
              rw [hD] at hb
              cases hb
            rw [upd_ne ne]
            exact x5 _ _ hb
          · rw [upd_same, em, ← List.append_assoc, keysD_snoc]
        · obtain ⟨⟨x4, rfl⟩, x5, e5⟩ := p
          refine ⟨⟨_, _, rfl⟩, x5, ?_⟩
          rw [e5, step i w0 e]
          have : (begins w0).length = w0.length := by
            unfold begins
            rw [List.length_map, List.length_range]
          have e6 : (begins w0).take (w0.length : Int).toNat = begins w0 := by
            rw [List.take_of_length_le]
            omega
          rw [e6]
    · obtain ⟨⟨x2, x3, rfl⟩, xx, eD⟩ := p
      rw [List.length_map, List.take_length] at eD
      have lt : (uniq (endsL ws)).length < 64 := by
        have := uniq_len (endsL ws)
        omega
      have kl : (keysD (endsL ws)).length ≤ 40000 := by
        have := keysD_len (endsL ws)
        omega
      refine ret_sorted (K := K) (zs := uniq (endsL ws)) (el_lockE eD trivial fun od H2 x4 => ?_) lt (k.mono xx)
      have z := el_fmK (σ := [some (.ref a), some (.ref D), x2, x3, none]) (H := upd H2 D (.frz od (.dK (keysD (endsL ws))))) (te := tCB (fun xs H Q => ∃ a : Str, xs = [V.str a] ∧ Q (V.str a) H) (tCons (tVar 4) tNil)) (tl := tVar 1) (j := 4) (vs := [4]) (t := tYes) (fun _ => true) (fun x => x)
        (ev_var rfl) upd_same kl (fun _ => rfl) (fun _ _ _ _ => et_yes) (fun x H6 x6 m _ => ?_)
      · rw [all_str, List.map_id', keysD_keys] at z
        exact z
      · rw [keysD_keys] at m
        obtain ⟨w0, mw, rfl⟩ := mem_str m
        exact ev_cb (ea_cons (ev_var rfl) ea_nil) fun H7 x7 Q7 q7 => ⟨w0, rfl, q7 H7 (Ex.refl _)⟩
end
end K02

set_option Elab.async false
set_option linter.all false
set_option maxRecDepth 100000
/-! A text that stands in another one; least words -/
namespace K02
open PySem PySem.Spec PyProof.Rows L2 Evl KU
theorem pre_iff : ∀ a b : List Nat, TL.pre a b = true ↔ a <+: b
  | [], b => by simp [TL.pre]
  | _ :: _, [] => by simp [TL.pre]
  | x :: r, y :: t => by
    have ih := pre_iff r t
    rw [List.cons_prefix_cons, ← ih]
    simp [TL.pre]
    intro _
    exact eq_comm
theorem inS_iff {w t : Str} (hw : w.cps.toList ≠ []) : inS w t = true ↔ w.cps.toList <:+: t.cps.toList := by
  have h := StrLaws.occ_head t w 1 (Nat.le_refl _)
  have ai := TL.at_iff (x := t) (y := w) hw
  unfold inS
  constructor
  · intro z
    rcases h with ⟨e, _⟩ | ⟨i, r, e, at_, _⟩
    · rw [e] at z
      cases z
    · have p := (pre_iff _ _).mp ((ai i).mp at_)
      exact p.isInfix.trans (List.drop_suffix i _).isInfix
  · intro z
    rcases h with ⟨e, no⟩ | ⟨i, r, e, at_, _⟩
    · obtain ⟨p, q, e2⟩ := z
      refine absurd ((ai p.length).mpr ((pre_iff _ _).mpr ?_)) (no p.length)
      show w.cps.toList <+: List.drop p.length t.cps.toList
      rw [← e2, List.append_assoc, List.drop_left]
      exact List.prefix_append _ _
    · rw [e]
      rfl
/-- a text that is not empty -/
def Full (w : Str) : Prop := w.cps.toList ≠ []
theorem inS_refl {w : Str} (h : Full w) : inS w w = true := (inS_iff h).mpr List.infix_rfl
theorem inS_trans {a b c : Str} (ha : Full a) (hb : Full b) (h1 : inS a b = true) (h2 : inS b c = true) : inS a c = true := (inS_iff ha).mpr (((inS_iff ha).mp h1).trans ((inS_iff hb).mp h2))
theorem inS_anti {a b : Str} (ha : Full a) (hb : Full b) (h1 : inS a b = true) (h2 : inS b a = true) : a = b := by
  have p := (inS_iff ha).mp h1
  have q := (inS_iff hb).mp h2
  exact str_ext (p.eq_of_length (Nat.le_antisymm p.length_le q.length_le))
theorem holdsB_iff (x : Str) (ws : List Str) : holdsB x ws = true ↔ ∃ w ∈ ws, inS w x = true := by
  unfold holdsB
  rw [List.any_eq_true]
theorem ne_V (o w : Str) : (!decide (V.str o = V.str w)) = true ↔ o ≠ w := by
  constructor
  · intro h e
    subst e
    simp at h
  · intro h
    have : V.str o ≠ V.str w := fun q => h (by cases q; rfl)
    simp [this]
theorem mem_least (ws : List Str) (x : Str) : x ∈ leastU ws ↔ x ∈ ws ∧ ∀ o ∈ ws, o ≠ x → inS o x = false := by
  unfold leastU
  rw [List.mem_filter, mem_uniq]
  refine and_congr_right fun _ => ?_
  constructor
  · intro h o ho ne
    cases g : inS o x with
    | false => rfl
    | true =>
      have : holdsB x ((uniq ws).filter fun o => !decide (V.str o = V.str x)) = true := (holdsB_iff _ _).mpr ⟨o, List.mem_filter.mpr ⟨(mem_uniq ws o).mpr ho, (ne_V o x).mpr ne⟩, g⟩
      rw [this] at h
      cases h
  · intro h
    cases g : holdsB x ((uniq ws).filter fun o => !decide (V.str o = V.str x)) with
    | false => rfl
    | true =>
      obtain ⟨o, ho, q⟩ := (holdsB_iff _ _).mp g
      obtain ⟨h1, h2⟩ := List.mem_filter.mp ho
      rw [h o ((mem_uniq ws o).mp h1) ((ne_V o x).mp h2)] at q
      cases q
theorem nodup_least (ws : List Str) : (leastU ws).Nodup := (nodup_uniq ws).filter _
/-- each word holds a least one -/
theorem has_least (ws : List Str) (full : ∀ w ∈ ws, Full w) : ∀ (n : Nat) (x : Str), x.cps.toList.length ≤ n → x ∈ ws → ∃ m ∈ leastU ws, inS m x = true := by
  intro n
  induction n with
  | zero =>
    intro x hn hx
    exact absurd (List.length_eq_zero_iff.mp (Nat.le_zero.mp hn)) (full x hx)
  | succ n ih =>
    intro x hn hx
    by_cases h : ∀ o ∈ ws, o ≠ x → inS o x = false
    · exact ⟨x, (mem_least ws x).mpr ⟨hx, h⟩, inS_refl (full x hx)⟩
    · simp only [Classical.not_forall] at h
      obtain ⟨o, ho, ne, q⟩ := h
      have q' : inS o x = true := by
        cases g : inS o x with
        | false => exact absurd g q
        | true => rfl
      have p := (inS_iff (full o ho)).mp q'
      have lt : o.cps.toList.length < x.cps.toList.length := by
        refine Nat.lt_of_le_of_ne p.length_le fun e => ne ?_
        exact str_ext (p.eq_of_length e)
      obtain ⟨m, hm, qm⟩ := ih o (by omega) ho
      exact ⟨m, hm, inS_trans (full m ((mem_least ws m).mp hm).1) (full o ho) qm q'⟩
/-- least words of least words, with one more -/
theorem least_more (ws us vs : List Str) (full : ∀ w ∈ ws ++ vs, Full w) (hu : ∀ x, x ∈ us ↔ x ∈ leastU ws) (x : Str) : x ∈ leastU (us ++ vs) ↔ x ∈ leastU (ws ++ vs) := by
  rw [mem_least, mem_least]
  have fw : ∀ w ∈ ws, Full w := fun w h => full w (List.mem_append_left _ h)
  constructor
  · rintro ⟨h1, h2⟩
    have xin : x ∈ ws ++ vs := by
      rcases List.mem_append.mp h1 with h | h
      · exact List.mem_append_left _ ((mem_least ws x).mp ((hu x).mp h)).1
      · exact List.mem_append_right _ h
    refine ⟨xin, fun o ho ne => ?_⟩
    rcases List.mem_append.mp ho with h | h
    · obtain ⟨m, hm, q⟩ := has_least ws fw _ o (Nat.le_refl _) h
      cases g : inS o x with
      | false => rfl
      | true =>
        have mw := ((mem_least ws m).mp hm).1
        have mx := inS_trans (fw m mw) (fw o h) q g
        by_cases e : m = x
        · subst e
          exact absurd (inS_anti (fw o h) (fw m mw) g q) ne
        · have := h2 m (List.mem_append_left _ ((hu m).mpr hm)) e
          rw [this] at mx
          cases mx
    · exact h2 o (List.mem_append_right _ h) ne
  · rintro ⟨h1, h2⟩
    refine ⟨?_, fun o ho ne => ?_⟩
    · rcases List.mem_append.mp h1 with h | h
      · exact List.mem_append_left _ ((hu x).mpr ((mem_least ws x).mpr ⟨h, fun o ho ne => h2 o (List.mem_append_left _ ho) ne⟩))
      · exact List.mem_append_right _ h
    · rcases List.mem_append.mp ho with h | h
      · exact h2 o (List.mem_append_left _ ((mem_least ws o).mp ((hu o).mp h)).1) ne
      · exact h2 o (List.mem_append_right _ h) ne
end K02

set_option Elab.async false
set_option linter.all false
set_option maxRecDepth 100000
/-! Ends of words: what is cut off is an end again, no word stands in one -/
namespace K02
open PySem PySem.Spec PyProof.Rows L2 Evl KU
theorem len_cps (w : Str) : w.cps.toList.length = w.length := by
  rw [Array.length_toList]
  rfl
theorem cut_to (w : Str) {k : Nat} (h : k ≤ w.length) : (cutS w none (some (k : Int))).cps.toList = w.cps.toList.take k := by
  unfold cutS
  show List.take (HT.sIx w.length w.length (some (k : Int)) - 0) (List.drop 0 w.cps.toList) = _
  have e : HT.sIx w.length w.length (some (k : Int)) = k := by
    unfold HT.sIx
    show (if (k : Int) < 0 then ((k : Int) + (w.length : Int)).toNat else min ((k : Int).toNat) w.length) = k
    rw [if_neg (by omega)]
    omega
  rw [e]
  rfl
theorem cut_off (w : Str) : (cutS w none (some (-1))).cps.toList = w.cps.toList.dropLast := by
  unfold cutS
  show List.take (HT.sIx w.length w.length (some (-1)) - 0) (List.drop 0 w.cps.toList) = _
  have e : HT.sIx w.length w.length (some (-1)) = w.length - 1 := by
    unfold HT.sIx
    show (if (-1 : Int) < 0 then ((-1 : Int) + (w.length : Int)).toNat else _) = _
    rw [if_pos (by decide)]
    omega
  rw [e, List.dropLast_eq_take, len_cps]
  rfl
theorem mem_begins {w e : Str} : e ∈ begins w ↔ ∃ k, k < w.length ∧ e.cps.toList = w.cps.toList.take k := by
  unfold begins
  rw [List.mem_map]
  constructor
  · rintro ⟨k, hk, rfl⟩
    have lt := List.mem_range.mp hk
    exact ⟨k, lt, cut_to w (Nat.le_of_lt lt)⟩
  · rintro ⟨k, lt, q⟩
    exact ⟨k, List.mem_range.mpr lt, str_ext ((cut_to w (Nat.le_of_lt lt)).trans q.symm)⟩
theorem mem_ends {ws : List Str} {e : Str} : e ∈ endsL ws ↔ e = "" ∨ ∃ w ∈ ws, ∃ k, k < w.length ∧ e.cps.toList = w.cps.toList.take k := by
  unfold endsL
  rw [List.mem_cons, List.mem_flatMap]
  exact or_congr_right (exists_congr fun w => and_congr_right fun _ => mem_begins)
/-- an end without its last sign -/
theorem ends_off {ws : List Str} {e p : Str} (h : e ∈ endsL ws) (q : p.cps.toList = e.cps.toList.dropLast) : p ∈ endsL ws := by
  rcases mem_ends.mp h with rfl | ⟨w, hw, k, lt, eq⟩
  · exact mem_ends.mpr (.inl (str_ext q))
  · refine mem_ends.mpr (.inr ⟨w, hw, k - 1, by omega, ?_⟩)
    rw [q, eq, List.dropLast_eq_take, List.length_take, List.take_take, len_cps]
    congr 1
    omega
/-- no word stands in an end, where no word stands in another one -/
theorem ends_free {ws : List Str} (full : ∀ w ∈ ws, Full w) (least : ∀ o ∈ ws, ∀ x ∈ ws, o ≠ x → inS o x = false) {e w : Str} (h : e ∈ endsL ws) (hw : w ∈ ws) : ¬ w.cps.toList <:+: e.cps.toList := by
  intro q
  rcases mem_ends.mp h with rfl | ⟨x, hx, k, lt, eq⟩
  · have z : w.cps.toList = [] := List.infix_nil.mp q
    exact full w hw z
  · rw [eq] at q
    have q2 : w.cps.toList <:+: x.cps.toList := q.trans (List.take_prefix k _).isInfix
    by_cases c : w = x
    · subst c
      have l := q.length_le
      rw [List.length_take, len_cps] at l
      omega
    · have z := least w hw x hx c
      rw [(inS_iff (full w hw)).mpr q2] at z
      cases z
theorem ends_sign {ws : List Str} {al : List Nat} (over : ∀ w ∈ ws, ∀ c ∈ w.cps.toList, c ∈ al) {e : Str} (h : e ∈ endsL ws) {c : Nat} (hc : c ∈ e.cps.toList) : c ∈ al := by
  rcases mem_ends.mp h with rfl | ⟨x, hx, k, lt, eq⟩
  · cases hc
  · rw [eq] at hc
    exact over x hx c (List.mem_of_mem_take hc)
end K02

set_option Elab.async false
set_option linter.all false
set_option maxRecDepth 100000
set_option maxHeartbeats 4000000
/-! bars.py: the table of ends -/
namespace K02
open PySem PySem.Spec PyProof.Rows L2 Evl KU
abbrev sOnward : Stmt := top 26
/-- what such a table tells behind a text -/
def Behind (ys es : List Str) (tl : List Nat) (v : V) : Prop := (v = .non ∧ ∃ w ∈ ys, w.cps.toList <:+ tl) ∨ ∃ t : Str, v = .str t ∧ t ∈ es ∧ t.cps.toList <:+ tl
def RowOk (al : Str) (ys es : List Str) (e : Str) (rk : List (Key × V)) : Prop := ∀ c ∈ al.cps.toList, ∃ v, valV rk (Sum.inr ⟨#[c]⟩) = some v ∧ Behind ys es (e.cps.toList ++ [c]) v
theorem Behind.up {ys es : List Str} {a b : List Nat} {v : V} (h : Behind ys es a v) (s : a <:+ b) : Behind ys es b v := by
  rcases h with ⟨rfl, w, hw, q⟩ | ⟨t, rfl, ht, q⟩
  · exact .inl ⟨rfl, w, hw, q.trans s⟩
  · exact .inr ⟨t, rfl, ht, q.trans s⟩
theorem cat_cps (a b : Str) : (a ++ b).cps.toList = a.cps.toList ++ b.cps.toList := by
  show (a.cps ++ b.cps).toList = _
  rw [Array.toList_append]
/-- least words of one alphabet with their ends -/
structure Ends (al : Str) (ys es : List Str) : Prop where
  full : ∀ w ∈ ys, Full w
  least : ∀ o ∈ ys, ∀ x ∈ ys, o ≠ x → inS o x = false
  over : ∀ w ∈ ys, ∀ c ∈ w.cps.toList, c ∈ al.cps.toList
  mem : ∀ e, e ∈ es ↔ e ∈ endsL ys
  nd : es.Nodup
  few : es.length ≤ 1000
  len : ∀ e ∈ es, e.length ≤ 1000
  words : ys.length ≤ 1000
  al : al.length ≤ 1000
def KnOk (ys es : List Str) (kn : List (Key × V)) : Prop := ∀ x v, valV kn (Sum.inr x) = some v → (v = .non ∧ x ∈ ys) ∨ (v = .str x ∧ x ∈ es)
/-- what stands in the two tables of an end that was gone through -/
def EndOk (al : Str) (ys es : List Str) (F S : Addr) (H : Hp) (fk sk : List (Key × V)) (e : Str) : Prop :=
  (∃ (d : Addr) (rk : List (Key × V)), valV fk (Sum.inr e) = some (.ref d) ∧ H d = some (.dK rk) ∧ d ≠ F ∧ d ≠ S ∧ RowOk al ys es e rk) ∧
  ∃ s : Str, valV sk (Sum.inr e) = some (.str s) ∧ s ∈ es ∧ s.cps.toList <:+ e.cps.toList ∧ (s.length < e.length ∨ e = "")
theorem ev_dgetK {σ : L2.St} {H : Hp} {td ty : TE} {a : Addr} {k : Key} {kvs : List (Key × V)} {v : V} (hd : Ev td σ H (.ref a)) (hk : Ev ty σ H (kV k)) (ha : H a = some (.dK kvs)) (hv : valV kvs k = some v) : Ev (tDGet td ty) σ H v := fun H1 x1 Q q =>
  hd H1 x1 _ fun H2 x2 => hk H2 (x1.trans x2) _ fun H3 x3 => ⟨a, v, rfl, hv ▸ DGet.k ((x1.trans (x2.trans x3)) _ _ ha), q H3 (x2.trans x3)⟩
theorem before {zs : List Str} {i : Nat} {e e' : Str} (pw : zs.Pairwise (fun a b : Str => a.length ≤ b.length)) (he : zs[i]? = some e) (hm : e' ∈ zs) (lt : e'.length < e.length) : e' ∈ zs.take i := by
  obtain ⟨j, hj, rfl⟩ := List.getElem_of_mem hm
  by_cases c : j < i
  · exact List.mem_take_iff_getElem.mpr ⟨j, by omega, rfl⟩
  · exfalso
    obtain ⟨hi, q⟩ := List.getElem?_eq_some_iff.mp he
    by_cases d : i = j
    · subst d
      rw [q] at lt
      omega
    · have := List.pairwise_iff_getElem.mp pw i j hi hj (by omega)
      rw [q] at this
      omega
theorem suf_len {a b : Str} (h : a.cps.toList <:+ b.cps.toList) : a.length ≤ b.length := by
  have := h.length_le
  rw [len_cps, len_cps] at this
  exact this
section
variable {P : Program} {w : World} {K : PySem.W.Frag} {mg : Str → Option Value} {base : Heap}
theorem lt100 {k : Nat} {A : Around} (hr : Room k A) : A.units + 100 < cLine := by
  have := hr.un
  omega
theorem scOnward : FnScope ["signs", "words", "ends", "end", "known", "word", "found", "shorter", "less", "sign"] ["signs", "words", "ends"] (defScope sOnward) := ⟨rfl, rfl, rfl, by decide +kernel, rfl, by decide +kernel, by decide +kernel⟩
def spOnward (K : PySem.W.Frag) : Sp := fun vs H Q _ => ∃ (al : Str) (a b : Addr) (ys es : List Str), vs = [.str al, .ref a, .ref b] ∧ SqT K H a (ys.map V.str) ∧ SqT K H b (es.map V.str) ∧ Ends al ys es ∧ ∀ (F : Addr) (H' : Hp) (fk : List (Key × V)), H F = none → Ex H H' → H' F = some (.dK fk) → Q (.ref F) H'
abbrev nOn : List Str := ["signs", "words", "ends", "end", "known", "word", "found", "shorter", "less", "sign"]
theorem ok_onward {f : Addr} {fd : FuncData} (F : Fun K "onward_ends" "onward_ends" sOnward f fd) (T : Free mg) : FnOk P w K mg base CX0 1 f fd ["signs", "words", "ends"] (spOnward K) := by
  refine F.ok scOnward (fun vs H Q E h => ?_) (fun cdv A outer s H vs Q E hr h => ?_)
  · obtain ⟨_, _, _, _, _, rfl, _⟩ := h
    rfl
  · obtain ⟨al, a, b, ys, es, rfl, hy, he, N, k⟩ := h
    have nd := scOnward.nd
    refine ⟨_, pss_cons (ps_set (i := 4) nd rfl (.inr rfl) (pe_dc (own := [("end", 3)]) (g := gName 3) (tt := tYes) rfl nd (pi_seqV (pv 2)) (blkOk_by (own := [("end", 3)]) (N := nOn) (sc := defScope sOnward) (by decide +kernel))
        (fun _ _ _ _ _ => pg_name (i := 3) nd rfl (Or.inl rfl)) (fun _ _ _ _ _ => pts_nil) (fun _ _ _ _ _ => pv 3) (fun _ _ _ _ _ => pv 3)))
      (pss_cons (ps_for PassesOwn.never rfl (pi_seqV (pv 1)) (pg_name (i := 5) nd rfl (.inl rfl)) (pss_one (ps_dput (hu_of hr) (pv 4) (pv 5) pe_non rfl)))
      (pss_cons (ps_set (i := 6) nd rfl (.inl rfl) pe_dnewK)
      (pss_cons (ps_set (i := 7) nd rfl (.inl rfl) pe_dnewK)
      (pss_cons (ps_for PassesOwn.never rfl (pi_list (pe_sortedL1 (pv 2) (by rfl) T.sorted (by rfl) T.len (lt100 hr))) (pg_name (i := 3) nd rfl (.inr rfl))
        (pss_cons (ps_dput (hu_of hr) (pv 7) (pv 3) (pe_ifExp (pt_cmpR op_gt (pe_callB call_len_str (by rfl) T.len PySem.boot_len (pa_cons (pv 3) pa_nil)) pe_int (nomark _))
            (pe_dget (hu_of hr) (pe_dget (hu_of hr) (pv 6) (pe_dget (hu_of hr) (pv 7) (pe_slice sl_str (pv 3) po_none (po_some (pe_un un_neg pe_int))) (fun _ _ => rfl)) (fun _ _ => rfl))
              (pe_ix (r := rIxS) (by exact ix_str) (pv 3) (pe_un un_neg pe_int) (fun _ _ => rfl)) (fun _ _ => rfl)) pe_str) rfl)
        (pss_cons (ps_set (i := 8) nd rfl (.inr rfl) (pe_ifExp (pt_cmpR op_ne (pv 3) pe_str (nomark _)) (pe_dget (hu_of hr) (pv 6) (pe_dget (hu_of hr) (pv 7) (pv 3) (fun _ _ => rfl)) (fun _ _ => rfl)) pe_dnewK))
        (pss_one (ps_dput (hu_of hr) (pv 6) (pv 3) (pe_dc (own := [("sign", 9)]) (g := gName 9) (tt := tYes) rfl nd (pi_str (pv 0)) (blkOk_by (own := [("sign", 9)]) (N := nOn) (sc := defScope sOnward) (by decide +kernel))
            (fun _ _ _ _ _ => pg_name (i := 9) nd rfl (Or.inl rfl)) (fun _ _ _ _ _ => pts_nil) (fun _ _ _ _ _ => pv 9)
            (fun _ _ _ _ _ => pe_dget2 (hu_of hr) (pv 4) (pe_op op_add_str (pv 3) (pv 9)) (pe_dget2 (hu_of hr) (pv 8) (pv 9) pe_str ⟨rfl, rfl, rfl, rfl⟩) ⟨rfl, rfl, rfl, rfl⟩)) rfl)))))
      (pss_one (ps_ret (pv 6))))))), ?_⟩
    have few := N.few
    refine q_asgR (dc_seqG (K := K) (i := 2) (j := 3) (vs := [3]) (ws := es) (φ := V.str) (fun i kvs => kvs.length ≤ i ∧ ∀ x v, valV kvs (Sum.inr x) = some v → v = .str x ∧ x ∈ es) ⟨Nat.le_refl _, fun x v z => by cases z⟩ (fun i kvs h => h.1) (fun i w kvs e h => ⟨?_, fun x v z => ?_⟩)
      rfl (.inr he) (by omega) (fun _ => rfl) (fun x H2 => ev_var rfl) (fun x H2 _ _ => ev_var rfl) fun Kn H1 kn0 hKn x1 e1 iv => ?_)
    · have := putK_len kvs (Sum.inr w) (.str w)
      have := h.1
      omega
    · rw [valV_put] at z
      by_cases c : (Sum.inr x : Key) = Sum.inr w
      · rw [if_pos c] at z
        cases c
        cases z
        exact ⟨rfl, List.mem_of_getElem? e⟩
      · rw [if_neg c] at z
        exact h.2 x v z
    have words := N.words
    refine q_forS (K := K) (H0 := H) (a := a) (xs := ys.map V.str) (Pv := fun i σ' H' => (∃ y5, σ' = [some (.str al), some (.ref a), some (.ref b), none, some (.ref Kn), y5, none, none, none, none]) ∧ Ex H H' ∧ ∃ kn, H' Kn = some (.dK kn) ∧ kn.length ≤ es.length + i ∧ KnOk ys es kn)
      rfl (.inr hy) x1 ⟨⟨_, rfl⟩, x1, kn0, e1, iv.1, fun x v z => .inr (iv.2 x v z)⟩ (fun i σ' H' p => p.2.1) (fun i x σ' H' ex p => ?_) fun σ' H' p => ?_
    · obtain ⟨⟨y5, rfl⟩, xx, kn, eK, kl, ok⟩ := p
      rw [List.getElem?_map] at ex
      cases e : ys[i]? with
      | none =>
        rw [e] at ex
        cases ex
      | some w0 =>
        rw [e] at ex
        cases ex
        have lt := (List.getElem?_eq_some_iff.mp e).1
        refine ⟨_, rfl, _, rfl, Kn, _, rfl, DPut.k (k := Sum.inr w0) eK (by rw [sizeLine_eq]; omega), ⟨_, rfl⟩, fun b o hb => ?_, _, upd_same, ?_, fun x v z => ?_⟩
        · have ne : b ≠ Kn := by
            rintro rfl
            rw [hKn] at hb
            cases hb
          rw [upd_ne ne]
          exact xx _ _ hb
        · have := putK_len kn (Sum.inr w0) .non
          omega
        · rw [valV_put] at z
          by_cases c : (Sum.inr x : Key) = Sum.inr w0
          · rw [if_pos c] at z
            cases c
            cases z
            exact .inl ⟨rfl, List.mem_of_getElem? e⟩
          · rw [if_neg c] at z
            exact ok x v z
    obtain ⟨⟨y5, rfl⟩, xx, kn, eK, kl, ok⟩ := p
    refine fun F0 hF => ?_
    have x2 : Ex H' (upd H' F0 (.dK [])) := Ex.new hF
    have f2 : upd H' F0 (.dK []) F0 = some (.dK []) := upd_same
    generalize upd H' F0 (.dK []) = H2 at x2 f2 ⊢
    refine fun S0 hS => ?_
    have x3 : Ex H2 (upd H2 S0 (.dK [])) := Ex.new hS
    have s3 : upd H2 S0 (.dK []) S0 = some (.dK []) := upd_same
    have f3 := x3 _ _ f2
    have k3 := x3 _ _ (x2 _ _ eK)
    have FS : F0 ≠ S0 := by
      rintro rfl
      rw [f2] at hS
      cases hS
    have KF : Kn ≠ F0 := by
      rintro rfl
      rw [eK] at hF
      cases hF
    have KS : Kn ≠ S0 := by
      rintro rfl
      rw [x2 _ _ eK] at hS
      cases hS
    have hF0 : H F0 = none := fresh_back xx hF
    have hS0 : H S0 = none := fresh_back (xx.trans x2) hS
    have xx3 := (xx.trans x2).trans x3
    generalize upd H2 S0 (.dK []) = H3 at x3 s3 f3 k3 xx3 ⊢
    refine ⟨_, rfl, b, es, rfl, ex_t xx3 he, N.len, fun zs L pe pw hL => ⟨L, rfl, ⟨_, sq_of upd_same⟩, ?_⟩⟩
    have x4 : Ex H3 (upd H3 L (.lst (zs.map V.str))) := Ex.new hL
    have l4 : upd H3 L (.lst (zs.map V.str)) L = some (.lst (zs.map V.str)) := upd_same
    have hL0 : H L = none := fresh_back xx3 hL
    have LF : L ≠ F0 := by
      rintro rfl
      rw [f3] at hL
      cases hL
    have LS : L ≠ S0 := by
      rintro rfl
      rw [s3] at hL
      cases hL
    generalize upd H3 L (.lst (zs.map V.str)) = H4 at x4 l4 ⊢
    refine for_list (xs := zs.map V.str) (fun i σ' H' => ∃ (fk sk : List (Key × V)) (y3 y8 : Option V), σ' = [some (.str al), some (.ref a), some (.ref b), y3, some (.ref Kn), y5, some (.ref F0), some (.ref S0), y8, none] ∧ Ex H H' ∧ H' L = some (.lst (zs.map V.str)) ∧ H' Kn = some (.dK kn) ∧ H' F0 = some (.dK fk) ∧ H' S0 = some (.dK sk) ∧
      fk.length ≤ i ∧ sk.length ≤ i ∧ ∀ e ∈ zs.take i, EndOk al ys es F0 S0 H' fk sk e) ⟨[], [], _, _, rfl, xx3.trans x4, l4, x4 _ _ k3, x4 _ _ f3, x4 _ _ s3, Nat.le_refl _, Nat.le_refl _, fun e he => by cases he⟩ (fun i σ' H' _ p => ?_) (fun i v σ' H' ev p => ?_) fun σ' H' p => ?_
    · obtain ⟨_, _, _, _, _, _, l, _⟩ := p
      exact sq_of l
    · obtain ⟨fk, sk, y3, y8, rfl, x5, l5, k5, f5, s5, fl, sl, all⟩ := p
      rw [List.getElem?_map] at ev
      cases e : zs[i]? with
      | none =>
        rw [e] at ev
        cases ev
      | some e0 =>
        rw [e] at ev
        cases ev
        have m0 : e0 ∈ es := pe.mem_iff.mp (List.mem_of_getElem? e)
        have n0 : e0 ∈ endsL ys := (N.mem e0).mp m0
        have c0 := N.len e0 m0
        have lti := (List.getElem?_eq_some_iff.mp e).1
        have zl : zs.length = es.length := pe.length_eq
        have nil0 : ("" : Str) ∈ es := (N.mem "").mpr (mem_ends.mpr (.inl rfl))
        have early : ∀ e' ∈ es, e'.length < e0.length → EndOk al ys es F0 S0 H' fk sk e' := fun e' hm lt => all e' (before pw e (pe.mem_iff.mpr hm) lt)
        have fresh : ∀ e' ∈ zs.take i, e' ≠ e0 := by
          intro e' hm
          rintro rfl
          obtain ⟨j, hj, q⟩ := List.mem_take_iff_getElem.mp hm
          obtain ⟨hi, q2⟩ := List.getElem?_eq_some_iff.mp e
          exact List.pairwise_iff_getElem.mp (pe.nodup_iff.mpr N.nd) j i (by omega) hi (by omega) (by rw [q, q2])
        have hV : ∃ s0 : Str, s0 ∈ es ∧ s0.cps.toList <:+ e0.cps.toList ∧ (s0.length < e0.length ∨ e0 = "") ∧ Ev (tIf (tTest (tOp (rI0 fun i j => .bl (decide (i > j))) (tCB rLenStr (tCons (tVar 3) tNil)) (tC (.int 1))))
            (tDGet (tDGet (tVar 6) (tDGet (tVar 7) (tSl rSlS (tVar 3) tNoPart (tPart (tUn (rU fun i => .int (-i)) (tC (.int 1))))))) (tOp rIxS (tVar 3) (tUn (rU fun i => .int (-i)) (tC (.int 1))))) (tC (.str "")))
            [some (.str al), some (.ref a), some (.ref b), some (.str e0), some (.ref Kn), y5, some (.ref F0), some (.ref S0), y8, none] H' (.str s0) := by
          by_cases one : 1 < e0.length
          · have ne : e0.cps.toList ≠ [] := fun z => by
              have := len_cps e0
              rw [z] at this
              simp at this
              omega
            have pc := cut_off e0
            obtain ⟨p0, hp0⟩ : ∃ p0, p0 = cutS e0 none (some (-1)) := ⟨_, rfl⟩
            rw [← hp0] at pc
            have pl : p0.length = e0.length - 1 := by
              rw [← len_cps, pc, List.length_dropLast, len_cps]
            have pm : p0 ∈ es := (N.mem p0).mpr (ends_off n0 pc)
            obtain ⟨_, s1, q1, q2, q3, q4⟩ := early p0 pm (by omega)
            have s1l := suf_len q3
            obtain ⟨⟨d, rk, r1, r2, _, _, row⟩, _⟩ := early s1 q2 (by omega)
            obtain ⟨c1, hc1⟩ : ∃ c1, c1 = e0.cps.toList.getLast ne := ⟨_, rfl⟩
            have eq : e0.cps.toList = p0.cps.toList ++ [c1] := by
              rw [pc, hc1, List.dropLast_concat_getLast]
            have c1a : c1 ∈ al.cps.toList := ends_sign N.over n0 (by rw [eq]; exact List.mem_append_right _ List.mem_cons_self)
            obtain ⟨v, hv, bv⟩ := row c1 c1a
            have suf : s1.cps.toList ++ [c1] <:+ e0.cps.toList := by
              obtain ⟨z, hz⟩ := q3
              exact ⟨z, by rw [eq, ← hz, List.append_assoc]⟩
            rcases bv with ⟨rfl, w, hw, qw⟩ | ⟨t, rfl, ht, qt⟩
            · exact absurd (qw.trans suf).isInfix (ends_free N.full N.least n0 hw)
            · have tl : t.length ≤ s1.length + 1 := by
                have := qt.length_le
                rw [List.length_append, len_cps, len_cps] at this
                exact this
              refine ⟨t, ht, qt.trans suf, .inl ?_, ev_if (b := true) (et_is (et_test (ev_op (ev_lenS (ev_var rfl) (by rw [sizeLine_eq]; omega)) ev_c rv_I0)) (decide_eq_true (by omega))) (fun _ => ?_) fun z => by cases z⟩
              · rcases q4 with q4 | rfl
                · omega
                · have : ("" : Str).length = 0 := rfl
                  omega
              · refine ev_dgetK (k := Sum.inr ⟨#[c1]⟩) (ev_dgetK (k := Sum.inr s1) (ev_var rfl) (ev_dgetK (k := Sum.inr p0) (ev_var rfl) ?_ s5 q1) f5 r1) (ev_op (ev_var rfl) (ev_un ev_c ru_neg) (rv_ixS (by omega) ?_)) r2 hv
                · intro H6 x6 Q6 q6
                  refine ⟨_, rfl, _, rfl, _, rfl, e0, rfl, by rw [sizeLine_eq]; omega, ?_⟩
                  have z := q6 H6 (Ex.refl _)
                  rw [hp0] at z
                  exact z
                · rw [eq]
                  exact atI_last _ _
          · refine ⟨"", nil0, List.nil_suffix, ?_, ev_if (b := false) (et_is (et_test (ev_op (ev_lenS (ev_var rfl) (by rw [sizeLine_eq]; omega)) ev_c rv_I0)) (decide_eq_false (by omega))) (fun z => by cases z) fun _ => ev_c⟩
            by_cases z : e0.length = 0
            · right
              refine str_ext (List.length_eq_zero_iff.mp ?_)
              rw [len_cps]
              exact z
            · left
              have : ("" : Str).length = 0 := rfl
              omega
        obtain ⟨s0, ms0, ss0, ls0, eV⟩ := hV
        have fewer : i < 1000 := by omega
        refine eV H' (Ex.refl _) _ fun H5 xa => ⟨_, rfl, _, rfl, S0, _, rfl, DPut.k (k := Sum.inr e0) (xa _ _ s5) (by rw [sizeLine_eq]; omega), ?_⟩
        have xb : ∀ d o, d ≠ S0 → H' d = some o → upd H5 S0 (.dK (putK sk (Sum.inr e0) (.str s0))) d = some o := fun d o ne hd => by
          rw [upd_ne ne]
          exact xa _ _ hd
        have s6 : upd H5 S0 (.dK (putK sk (Sum.inr e0) (.str s0))) S0 = some (.dK (putK sk (Sum.inr e0) (.str s0))) := upd_same
        generalize upd H5 S0 (.dK (putK sk (Sum.inr e0) (.str s0))) = H6 at xb s6 ⊢
        have vs : valV (putK sk (Sum.inr e0) (.str s0)) (Sum.inr e0) = some (.str s0) := by rw [valV_put, if_pos rfl]
        have skl : (putK sk (Sum.inr e0) (.str s0)).length ≤ i + 1 := by
          have := putK_len sk (Sum.inr e0) (.str s0)
          omega
        have f6 := xb _ _ FS f5
        have k6 := xb _ _ KS k5
        have l6 := xb _ _ LS l5
        have cont : ∀ (D8 : Addr) (lk : List (Key × V)) (H8 : Hp) (D : L2.Ends), Ex H6 H8 → H8 D8 = some (.dK lk) → (∀ c ∈ al.cps.toList, Behind ys es (e0.cps.toList ++ [c]) ((valV lk (Sum.inr ⟨#[c]⟩)).getD (.str ""))) →
            (∀ (fk' : List (Key × V)) (Hz : Hp), Ex H Hz → Hz L = some (.lst (zs.map V.str)) → Hz Kn = some (.dK kn) → Hz F0 = some (.dK fk') → Hz S0 = some (.dK (putK sk (Sum.inr e0) (.str s0))) → fk'.length ≤ i + 1 →
              (∀ e ∈ zs.take (i + 1), EndOk al ys es F0 S0 Hz fk' (putK sk (Sum.inr e0) (.str s0)) e) → D.nx [some (.str al), some (.ref a), some (.ref b), some (.str e0), some (.ref Kn), y5, some (.ref F0), some (.ref S0), some (.ref D8), none] Hz) →
            sDPut (tVar 6) (tVar 3) (tDc (iStr (tVar 0)) (gName 9) tYes (tVar 9) (tDGet2 (tVar 4) (tOp (fun x y H Q => ∃ i j, x = V.str i ∧ y = V.str j ∧ i.length + j.length ≤ sizeLine ∧ Q (V.str (i ++ j)) H) (tVar 3) (tVar 9)) (tDGet2 (tVar 8) (tVar 9) (tC (.str "")))) [9]) D
              [some (.str al), some (.ref a), some (.ref b), some (.str e0), some (.ref Kn), y5, some (.ref F0), some (.ref S0), some (.ref D8), none] H8 := by
          intro D8 lk H8 D x8 e8 good go
          have hal := N.al
          refine dc_txtG (z := al) (φ := fun c => (valV kn (Sum.inr (e0 ++ (⟨#[c]⟩ : Str)))).getD ((valV lk (Sum.inr ⟨#[c]⟩)).getD (.str ""))) (ev_var rfl) (by omega) (fun _ => rfl) (fun c H9 => ev_var rfl) (fun c H9 x9 hc => ?_) fun D9 H9 rk hD9 x9 e9 rl row => ?_
          · intro Ha xa2 Qa qa
            have ka := xa2 _ _ (x9 _ _ (x8 _ _ k6))
            have la := xa2 _ _ (x9 _ _ e8)
            refine ⟨_, rfl, Kn, rfl, .inl ⟨kn, .inl ka⟩, _, rfl, _, rfl, e0, (⟨#[c]⟩ : Str), rfl, rfl, ?_, _, rfl, D8, rfl, .inl ⟨lk, .inl la⟩, _, rfl, _, DGet.k (k := Sum.inr ⟨#[c]⟩) la, _, DGet.k (k := Sum.inr (e0 ++ (⟨#[c]⟩ : Str))) ka, qa Ha (Ex.refl _)⟩
            have : (⟨#[c]⟩ : Str).length = 1 := rfl
            rw [sizeLine_eq]
            omega
          · have f9 := x9 _ _ (x8 _ _ f6)
            refine ⟨_, rfl, _, rfl, F0, _, rfl, DPut.k (k := Sum.inr e0) f9 (by rw [sizeLine_eq]; omega), go _ _ (fun d o hd => ?_) ?_ ?_ upd_same ?_ ?_ fun e' he' => ?_⟩
            · have n1 : d ≠ F0 := by
                rintro rfl
                rw [hF0] at hd
                cases hd
              have n2 : d ≠ S0 := by
                rintro rfl
                rw [hS0] at hd
                cases hd
              rw [upd_ne n1]
              exact x9 _ _ (x8 _ _ (xb _ _ n2 (x5 _ _ hd)))
            · rw [upd_ne LF]
              exact x9 _ _ (x8 _ _ l6)
            · rw [upd_ne KF]
              exact x9 _ _ (x8 _ _ k6)
            · rw [upd_ne FS.symm]
              exact x9 _ _ (x8 _ _ s6)
            · have := putK_len fk (Sum.inr e0) (.ref D9)
              omega
            · have et : zs.take (i + 1) = zs.take i ++ [e0] := by
                rw [List.take_succ, e]
                rfl
              rw [et] at he'
              rcases List.mem_append.mp he' with h | h
              · obtain ⟨⟨d, rk', r1, r2, r3, r4, r5⟩, s', q1, q2, q3, q4⟩ := all e' h
                have ne : ¬ ((Sum.inr e' : Key) = Sum.inr e0) := fun z => fresh e' h (by cases z; rfl)
                refine ⟨⟨d, rk', by rw [valV_put, if_neg ne]; exact r1, ?_, r3, r4, r5⟩, s', by rw [valV_put, if_neg ne]; exact q1, q2, q3, q4⟩
                rw [upd_ne r3]
                exact x9 _ _ (x8 _ _ (xb _ _ r4 r2))
              · rw [List.mem_singleton.mp h]
                have n1 : D9 ≠ F0 := by
                  rintro rfl
                  rw [x8 _ _ f6] at hD9
                  cases hD9
                have n2 : D9 ≠ S0 := by
                  rintro rfl
                  rw [x8 _ _ s6] at hD9
                  cases hD9
                refine ⟨⟨D9, rk, by rw [valV_put, if_pos rfl], by rw [upd_ne n1]; exact e9, n1, n2, fun c hc => ⟨_, row c hc, ?_⟩⟩, s0, vs, ms0, ss0, ls0⟩
                cases g : valV kn (Sum.inr (e0 ++ (⟨#[c]⟩ : Str))) with
                | none => exact good c hc
                | some v =>
                  have cc : (e0 ++ (⟨#[c]⟩ : Str)).cps.toList = e0.cps.toList ++ [c] := cat_cps _ _
                  rcases ok _ _ g with ⟨rfl, hy2⟩ | ⟨rfl, he2⟩
                  · exact .inl ⟨rfl, _, hy2, by rw [cc]; exact List.suffix_rfl⟩
                  · exact .inr ⟨_, rfl, he2, by rw [cc]; exact List.suffix_rfl⟩
        have fin : ∀ (D8 : Addr) (fk' : List (Key × V)) (Hz : Hp), Ex H Hz → Hz L = some (.lst (zs.map V.str)) → Hz Kn = some (.dK kn) → Hz F0 = some (.dK fk') → Hz S0 = some (.dK (putK sk (Sum.inr e0) (.str s0))) → fk'.length ≤ i + 1 →
            (∀ e ∈ zs.take (i + 1), EndOk al ys es F0 S0 Hz fk' (putK sk (Sum.inr e0) (.str s0)) e) → ∃ (fk sk : List (Key × V)) (y3 y8 : Option V), [some (V.str al), some (.ref a), some (.ref b), some (.str e0), some (.ref Kn), y5, some (.ref F0), some (.ref S0), some (.ref D8), none] =
              [some (.str al), some (.ref a), some (.ref b), y3, some (.ref Kn), y5, some (.ref F0), some (.ref S0), y8, none] ∧ Ex H Hz ∧ Hz L = some (.lst (zs.map V.str)) ∧ Hz Kn = some (.dK kn) ∧ Hz F0 = some (.dK fk) ∧ Hz S0 = some (.dK sk) ∧ fk.length ≤ i + 1 ∧ sk.length ≤ i + 1 ∧ ∀ e ∈ zs.take (i + 1), EndOk al ys es F0 S0 Hz fk sk e :=
          fun D8 fk' Hz h1 h2 h3 h4 h5 h6 h7 => ⟨fk', _, _, _, rfl, h1, h2, h3, h4, h5, h6, skl, h7⟩
        by_cases z0 : e0 = ""
        · subst z0
          have et0 : EvT (tTest (tOp rNe (tVar 3) (tC (.str "")))) [some (.str al), some (.ref a), some (.ref b), some (.str ""), some (.ref Kn), y5, some (.ref F0), some (.ref S0), y8, none] H6 false := et_is (et_test (ev_op (ev_var rfl) ev_c (rv_ne rfl))) rfl
          refine et0 H6 (Ex.refl _) _ fun H7 x7 => ?_
          show (if false = true then _ else _)
          rw [if_neg (by decide)]
          refine fun D8 hD8 => cont D8 [] _ _ (x7.trans (Ex.new hD8)) upd_same (fun c hc => .inr ⟨"", rfl, nil0, List.nil_suffix⟩) (fin D8)
        · have early6 : EndOk al ys es F0 S0 H' fk sk s0 := early s0 ms0 (ls0.resolve_right z0)
          obtain ⟨⟨d, rk, r1, r2, r3, r4, row⟩, _⟩ := early6
          have eL : Ev (tIf (tTest (tOp rNe (tVar 3) (tC (.str "")))) (tDGet (tVar 6) (tDGet (tVar 7) (tVar 3))) tDNewK) [some (.str al), some (.ref a), some (.ref b), some (.str e0), some (.ref Kn), y5, some (.ref F0), some (.ref S0), y8, none] H6 (.ref d) :=
            ev_if (b := true) (et_is (et_test (ev_op (ev_var rfl) ev_c (rv_ne rfl))) (by rw [decide_eq_false fun z => z0 (by cases z; rfl)]; rfl)) (fun _ => ev_dgetK (k := Sum.inr s0) (ev_var rfl) (ev_dgetK (k := Sum.inr e0) (ev_var rfl) (ev_var rfl) s6 vs) f6 r1) fun z => by cases z
          refine eL H6 (Ex.refl _) _ fun H7 x7 => ?_
          refine cont d rk H7 _ x7 (x7 _ _ (xb _ _ r4 r2)) (fun c hc => ?_) (fin d)
          obtain ⟨v, hv, bv⟩ := row c hc
          rw [hv]
          obtain ⟨z, hz⟩ := ss0
          exact bv.up ⟨z, by rw [← hz, List.append_assoc]⟩
    · obtain ⟨fk, sk, y3, y8, rfl, x5, l5, k5, f5, s5, _⟩ := p
      exact s_ret (ev_var rfl) fun H6 x6 => k F0 H6 fk hF0 (x5.trans x6) (x6 _ _ f5)
end
end K02

set_option Elab.async false
set_option linter.all false
set_option maxRecDepth 100000
set_option maxHeartbeats 4000000
/-! bars.py: the words that bars keep -/
namespace K02
open PySem PySem.Spec PyProof.Rows L2 Evl KU
structure TBars (K : PySem.W.Frag) (mg : Str → Option Value) (fT fW fA fH fL fE fC : Addr) : Prop extends TSigns K mg fT fW fA fH where
  gL : mg "least_words" = some (.ref fL)
  kL : PySem.W.keepIn K (.ref fL) = true
  gE : mg "ends_of" = some (.ref fE)
  kE : PySem.W.keepIn K (.ref fE) = true
  gC : mg "checked_words" = some (.ref fC)
  kC : PySem.W.keepIn K (.ref fC) = true
  gMS : ∃ t, mg "MOST_SIGNS" = some (.int 8 t)
  gMW : ∃ t, mg "MOST_WORDS" = some (.int 8 t)
  gME : ∃ t, mg "MOST_ENDS" = some (.int 24 t)
section
variable {K : PySem.W.Frag} {σ : L2.St} {H : Hp} {te tl ta tb : TE}
theorem ev_lenDc {a : Addr} {i j : Nat} {vs : List Nat} {tk : TE} {ws : List Str} (hx : σ[i]? = some (some (.ref a))) (hs : SqL K H a (ws.map V.str) ∨ SqT K H a (ws.map V.str)) (hl : ws.length ≤ 40000)
    (hw : ∀ x : V, wipe ((wipe σ vs).set j (some x)) vs = wipe σ vs) (hk : ∀ (x : Str) (H2 : Hp), Ev tk ((wipe σ vs).set j (some (.str x))) H2 (.str x)) :
    Ev (tCB (fun xs H Q => ∃ (d : Addr) (kvs : List (Key × V)), xs = [V.ref d] ∧ H d = some (.dK kvs) ∧ Q (V.int (kvs.length : Int)) H) (tCons (tDc (iSeqV K i) (gName j) tYes tk (tC (.bl true)) vs) tNil)) σ H (.int ((uniq ws).length : Int)) := by
  intro H1 x1 Q q
  refine dc_str (H1 := H1) (Q := fun x H2 => ∃ (d : Addr) (kvs : List (Key × V)), [x] = [V.ref d] ∧ H2 d = some (.dK kvs) ∧ Q (V.int (kvs.length : Int)) H2) hx (hs.imp (ex_l x1) (ex_t x1)) hl hw hk fun D H2 hD x2 e => ⟨D, _, rfl, e, ?_⟩
  rw [keysD_uniq, List.length_map]
  exact q H2 x2
theorem ev_lenEnds {E : XK} {a : Addr} {ws : List Str} {ta : TE} (hx : Ev ta σ H (.ref a)) (hs : SqL K H a (ws.map V.str) ∨ SqT K H a (ws.map V.str)) (h1 : (endsL ws).length < 64) (h2 : ∀ t ∈ ws, t.length ≤ 1000) :
    Ev (tCB (rLenS K) (tCons (tCall (spEnds K) [] E (tCons ta tNil)) tNil)) σ H (.int ((uniq (endsL ws)).length : Int)) := by
  intro H1 x1 Q q
  refine hx H1 x1 _ fun H2 x2 => ⟨a, ws, rfl, hs.imp (ex_l (x1.trans x2)) (ex_t (x1.trans x2)), h1, h2, fun ys p H3 pe so hp x3 e => ?_⟩
  have z := q H3 (x2.trans x3)
  rw [← pe.length_eq] at z
  refine ⟨p, ys.map V.str, rfl, .inr (st_of e), ?_⟩
  rw [List.length_map]
  exact z
end
section
variable {P : Program} {w : World} {K : PySem.W.Frag} {mg : Str → Option Value} {base : Heap}
theorem scChecked : FnScope ["signs", "words", "word", "least"] ["signs", "words"] (defScope sChecked) := ⟨rfl, rfl, rfl, by decide +kernel, rfl, by decide +kernel, by decide +kernel⟩
/-- words that bars can keep -/
structure Fit (al : Str) (ws : List Str) : Prop where
  few : ws.length < 64
  words : ∀ t ∈ ws, isWordB t al 8 = true ∧ t.length ≤ 1000 ∧ PyData.strOk t = true
  over : ∀ t ∈ ws, ∀ c ∈ t.cps.toList, c ∈ al.cps.toList
  most : (uniq ws).length ≤ 8
  ends : ∀ ys : List Str, ys.Perm (leastU ws) → (endsL ys).length < 64 ∧ (uniq (endsL ys)).length ≤ 24
def spChecked (K : PySem.W.Frag) : Sp := fun vs H Q _ => ∃ (al : Str) (a : Addr) (ws : List Str), vs = [.str al, .ref a] ∧ (SqL K H a (ws.map V.str) ∨ SqT K H a (ws.map V.str)) ∧ Fit al ws ∧ NewT (leastU ws) H Q
theorem ok_checked {f fT fW fA fH fL fE : Addr} {fd fdT fdW fdH fdL fdE : FuncData} (F : Fun K "checked_words" "checked_words" sChecked f fd) (T : TBars K mg fT fW fA fH fL fE f)
    (FT : Fun K "is_text" "is_text" sIsText fT fdT) (bT : Binds K fdT ["value", "signs"] []) (FW : Fun K "is_word" "is_word" sIsWord fW fdW) (bW : Binds K fdW ["value", "signs", "most"] [])
    (FH : Fun K "holds_some" "holds_some" sHoldsSome fH fdH) (bH : Binds K fdH ["text", "words"] []) (FL : Fun K "least_words" "least_words" sLeast fL fdL) (bL : Binds K fdL ["words"] [])
    (FE : Fun K "ends_of" "ends_of" sEnds fE fdE) (bE : Binds K fdE ["words"] []) : FnOk P w K mg base CX0 3 f fd ["signs", "words"] (spChecked K) := by
  have GW : FnOk P w K mg base CX0 2 fW fdW ["value", "signs", "most"] spIsWord := ok_is_word FW (T := ⟨T.toFree, T.gT, T.kT, T.gW, T.kW, T.gH, T.kH, T.gA, T.kA, T.gS⟩) FT bT
  have GL : FnOk P w K mg base CX0 2 fL fdL ["words"] (spLeast K) := ok_least FL T.toTSigns FH bH
  have GE : FnOk P w K mg base CX0 1 fE fdE ["words"] (spEnds K) := ok_ends FE T.toFree
  obtain ⟨t1, gMS⟩ := T.gMS
  obtain ⟨t2, gMW⟩ := T.gMW
  obtain ⟨t3, gME⟩ := T.gME
  refine F.ok scChecked (fun vs H Q E h => ?_) (fun cdv A outer s H vs Q E hr h => ?_)
  · obtain ⟨_, _, _, rfl, _⟩ := h
    rfl
  · obtain ⟨al, a, ws, rfl, hs, fit, k⟩ := h
    have nd := scChecked.nd
    refine ⟨_, pss_cons (ps_for PassesOwn.never rfl (pi_seqV (pv 1)) (pg_name (i := 2) nd rfl (.inl rfl))
        (pss_one (ps_if (pt_not (pt_val (pe_call GW hr (by rfl) T.gW T.kW bW .nil pass0 (pa_cons (pv 2) (pa_cons (pv 0) (pa_cons (pe_glob (v := .int 8) rfl gMS ⟨_, rfl⟩) pa_nil)))))) (pss_one ps_never) pss_nil)))
      (pss_cons (ps_if (pt_cmpR op_gt (pe_callB call_lenD (by rfl) T.len PySem.boot_len (pa_cons (pe_dc (own := [("word", 2)]) (g := gName 2) (tt := tYes) rfl nd (pi_seqV (pv 1)) (blkOk_by (own := [("word", 2)]) (N := ["signs", "words", "word", "least"]) (sc := defScope sChecked) (by decide +kernel))
        (fun _ _ _ _ _ => pg_name (i := 2) nd rfl (Or.inl rfl)) (fun _ _ _ _ _ => pts_nil) (fun _ _ _ _ _ => pv 2) (fun _ _ _ _ _ => pe_bl)) pa_nil)) (pe_glob (v := .int 8) rfl gMW ⟨_, rfl⟩) (nomark _)) (pss_one ps_never) pss_nil)
      (pss_cons (ps_set (i := 3) nd rfl (.inl rfl) (pe_call GL hr (by rfl) T.gL T.kL bL .nil pass0 (pa_cons (pv 1) pa_nil)))
      (pss_cons (ps_if (pt_cmpR op_gt (pe_callB call_len_seq (by rfl) T.len PySem.boot_len (pa_cons (pe_call GE (hr.mono (by decide)) (by rfl) T.gE T.kE bE .nil pass0 (pa_cons (pv 3) pa_nil)) pa_nil)) (pe_glob (v := .int 24) rfl gME ⟨_, rfl⟩) (nomark _)) (pss_one ps_never) pss_nil)
      (pss_one (ps_ret (pv 3)))))), ?_⟩
    refine q_forS (K := K) (H0 := H) (a := a) (xs := ws.map V.str) (Pv := fun i σ' H' => (∃ x2, σ' = [some (.str al), some (.ref a), x2, none]) ∧ Ex H H') rfl hs (Ex.refl _) ⟨⟨_, rfl⟩, Ex.refl _⟩ (fun i σ' H' p => p.2) (fun i x σ' H' ex p => ?_) fun σ' H' p => ?_
    · obtain ⟨⟨x2, rfl⟩, xx⟩ := p
      rw [List.getElem?_map] at ex
      cases e : ws[i]? with
      | none =>
        rw [e] at ex
        cases ex
      | some w0 =>
        rw [e] at ex
        cases ex
        obtain ⟨hw0, hw1, _⟩ := fit.words _ (List.mem_of_getElem? e)
        have hw2 : w0.length ≤ sizeLine := by
          rw [sizeLine_eq]
          omega
        refine s_when (b := false) (et_is (et_not (et_B (ev_call (ea_cons (ev_var rfl) (ea_cons (ev_var rfl) (ea_cons ev_c ea_nil))) (spv_isWord hw2)))) ?_) (fun z => by cases z) fun _ H1 x1 => ⟨⟨_, rfl⟩, xx.trans x1⟩
        rw [hw0]
        rfl
    · obtain ⟨⟨x2, rfl⟩, xx⟩ := p
      have few := fit.few
      have most := fit.most
      refine q_when (b := false) (et_is (et_test (ev_op (ev_lenDc (K := K) (i := 1) (ws := ws) rfl (hs.imp (ex_l xx) (ex_t xx)) (by omega) (fun _ => rfl) fun _ _ => ev_var rfl) ev_c rv_I0)) ?_) (fun z => by cases z) fun _ H1 x1 => ?_
      · exact decide_eq_false (by omega)
      have y1 := xx.trans x1
      refine q_asgR ⟨_, rfl, a, ws, rfl, hs.imp (ex_l y1) (ex_t y1), few, fun ys p H2 pe so hp x3 e => ?_⟩
      obtain ⟨f1, f2⟩ := fit.ends ys pe
      have fw : ∀ t ∈ ys, t.length ≤ 1000 := fun t ht => (fit.words t ((mem_uniq ws t).mp ((List.mem_filter.mp (pe.mem_iff.mp ht)).1))).2.1
      refine q_when (b := false) (et_is (et_test (ev_op (ev_lenEnds (a := p) (ws := ys) (ev_var rfl) (.inr (st_of e)) f1 fw) ev_c rv_I0)) ?_) (fun z => by cases z) fun _ H3 x4 => ?_
      · exact decide_eq_false (by omega)
      exact s_ret (ev_var rfl) fun H4 x5 => k ys p H4 pe so (fresh_back y1 hp) (((y1.trans x3).trans x4).trans x5) (x5 _ _ (x4 _ _ e))
end
end K02

set_option Elab.async false
set_option linter.all false
set_option maxRecDepth 100000
set_option maxHeartbeats 4000000
/-! bars.py: Bars made -/
namespace K02
open PySem PySem.Spec PyProof.Rows L2 Evl KU
abbrev sBars : Stmt := top 30
abbrev meth (i : Nat) : Stmt := inClass sBars i
/-- the class, as its instances need it -/
structure ClsB (K : PySem.W.Frag) (C : Addr) : Prop extends Cls K C where
  nSigns : NoAttr K C "signs"
  nWords : NoAttr K C "words"
  nEnds : NoAttr K C "ends"
  nLong : NoAttr K C "_longest_first"
  nOn : NoAttr K C "_onward"
/-- Bars at a: its alphabet, its words, its ends -/
structure BarsAt (C : Addr) (H : Hp) (a : Addr) (al : Str) (ys es : List Str) : Prop where
  at_ : ∃ (dx W N L : Addr) (zs : List Str) (O : Addr), H a = some (.ins C dx [("signs", .str al), ("words", .ref W), ("ends", .ref N), ("_longest_first", .ref L), ("_onward", .ref O)]) ∧ H W = some (.tup (ys.map V.str)) ∧ H N = some (.tup (es.map V.str)) ∧
    H L = some (.lst (zs.map V.str)) ∧ zs.Perm es ∧ zs.Pairwise (fun a b : Str => b.length ≤ a.length)
  ok : ∀ t ∈ ys, PyData.strOk t = true
  len : ∀ t ∈ ys, t.length ≤ 1000
  few : ys.length < 64
  sg : al.length ≤ 1000
theorem BarsAt.mono {C : Addr} {H H' : Hp} {a : Addr} {al : Str} {ys es : List Str} (x : Ex H H') (h : BarsAt C H a al ys es) : BarsAt C H' a al ys es := by
  obtain ⟨dx, W, N, L, zs, O, h1, h2, h3, h4, h5⟩ := h.at_
  exact ⟨⟨dx, W, N, L, zs, O, x _ _ h1, x _ _ h2, x _ _ h3, x _ _ h4, h5⟩, h.ok, h.len, h.few, h.sg⟩
/-- all but one place -/
def ExB (a : Addr) (H H' : Hp) : Prop := ∀ b o, b ≠ a → H b = some o → H' b = some o
def spInit (C : Addr) : Sp := fun vs H Q _ => ∃ (a p dx : Addr) (al : Str) (ws : List Str), vs = [.ref a, .str al, .ref p] ∧ H a = some (.ins C dx []) ∧ H p = some (.tup (ws.map V.str)) ∧ al.length ≤ 1000 ∧ isAlphaB al = true ∧ Fit al ws ∧
  ∀ (ys es : List Str) (H' : Hp), ys.Perm (leastU ws) → sortedS ys = true → es.Perm (uniq (endsL ys)) → sortedS es = true → ExB a H H' → BarsAt C H' a al ys es → Q .non H'
section
variable {P : Program} {w : World} {K : PySem.W.Frag} {mg : Str → Option Value} {base : Heap}
theorem scInit : FnScope ["self", "signs", "words"] ["self", "signs", "words"] (defScope (meth 0)) := ⟨rfl, rfl, rfl, by decide +kernel, rfl, by decide +kernel, by decide +kernel⟩
theorem begins_len {w t : Str} (h : t ∈ begins w) : t.length ≤ w.length := by
  unfold begins at h
  obtain ⟨k, _, rfl⟩ := List.mem_map.mp h
  unfold cutS
  show (List.toArray _).size ≤ w.cps.size
  rw [List.size_toArray, List.length_take, List.length_drop]
  simp
  omega
theorem ends_len {ws : List Str} (h : ∀ t ∈ ws, t.length ≤ 1000) {t : Str} (m : t ∈ endsL ws) : t.length ≤ 1000 := by
  unfold endsL at m
  rcases List.mem_cons.mp m with rfl | m
  · decide
  · obtain ⟨w, mw, mt⟩ := List.mem_flatMap.mp m
    exact Nat.le_trans (begins_len mt) (h w mw)
theorem spv_alpha {x : Str} {H : Hp} (hx : x.length ≤ 1000) : SpV spAlpha [.str x] H (.bl (isAlphaB x)) := fun H1 x1 Q q E => ⟨x, rfl, hx, q⟩
theorem r_init {C fT fW fA fH fL fE fC fO f : Addr} {fdT fdW fdA fdH fdL fdE fdC fdO : FuncData} (CB : ClsB K C) (T : TBars K mg fT fW fA fH fL fE fC)
    (FT : Fun K "is_text" "is_text" sIsText fT fdT) (bT : Binds K fdT ["value", "signs"] []) (FW : Fun K "is_word" "is_word" sIsWord fW fdW) (bW : Binds K fdW ["value", "signs", "most"] [])
    (FA : Fun K "is_alphabet" "is_alphabet" sIsAlphabet fA fdA) (bA : Binds K fdA ["value"] [])
    (FH : Fun K "holds_some" "holds_some" sHoldsSome fH fdH) (bH : Binds K fdH ["text", "words"] []) (FL : Fun K "least_words" "least_words" sLeast fL fdL) (bL : Binds K fdL ["words"] [])
    (FE : Fun K "ends_of" "ends_of" sEnds fE fdE) (bE : Binds K fdE ["words"] []) (FC : Fun K "checked_words" "checked_words" sChecked fC fdC) (bC : Binds K fdC ["signs", "words"] [])
    (gO : mg "onward_ends" = some (.ref fO)) (kO : PySem.W.keepIn K (.ref fO) = true) (FO : Fun K "onward_ends" "onward_ends" sOnward fO fdO) (bO : Binds K fdO ["signs", "words", "ends"] [])
    {cdv : Value} {A : Around} {outer : List Env} {s : Shared} {H : Hp} {vs : List V} {Q : VK} {E : XK} (hr : Room 3 (A.deeper (envOfC "Bars.__init__" (defScope (meth 0)) s.heap.objs.size f cdv))) (h : spInit C vs H Q E) :
    ∃ t, PSs (cxOf CX0 P w K mg base ["self", "signs", "words"] "Bars.__init__" (defScope (meth 0)) f cdv A outer s H E) (defBody (meth 0)) t ∧ t { nx := fun _ H' => Q .non H', rt := Q } (start ["self", "signs", "words"] vs) H := by
  have GA : FnOk P w K mg base CX0 3 fA fdA ["value"] spAlpha := ok_alpha FA (T := T.toTSigns) FT bT FW bW
  have GC : FnOk P w K mg base CX0 3 fC fdC ["signs", "words"] (spChecked K) := ok_checked FC T FT bT FW bW FH bH FL bL FE bE
  have GE : FnOk P w K mg base CX0 1 fE fdE ["words"] (spEnds K) := ok_ends FE T.toFree
  have GO : FnOk P w K mg base CX0 1 fO fdO ["signs", "words", "ends"] (spOnward K) := ok_onward FO T.toFree
  obtain ⟨a, p, dx, al, ws, rfl, ha, hp, hal, hA, fit, k⟩ := h
  refine ⟨_, pss_cons (ps_if (pt_not (pt_val (pe_call GA hr (by rfl) T.gA T.kA bA .nil pass0 (pa_cons (pv 1) pa_nil)))) (pss_one ps_never) pss_nil)
    (pss_cons (ps_fld (pv 0) (pv 1) rfl)
    (pss_cons (ps_fld (pv 0) (pe_call GC hr (by rfl) T.gC T.kC bC .nil pass0 (pa_cons (pv 1) (pa_cons (pv 2) pa_nil))) rfl)
    (pss_cons (ps_fld (pv 0) (pe_call GE (hr.mono (by decide)) (by rfl) T.gE T.kE bE .nil pass0 (pa_cons (pe_fld (pv 0) rfl) pa_nil)) rfl)
    (pss_cons (ps_fld (pv 0) (pe_sortedLR (pe_fld (pv 0) rfl) (by rfl) T.sorted (by rfl) T.len (lt100 hr)) rfl)
    (pss_one (ps_fld (pv 0) (pe_call GO (hr.mono (by decide)) (by rfl) gO kO bO .nil pass0 (pa_cons (pv 1) (pa_cons (pe_fld (pv 0) rfl) (pa_cons (pe_fld (pv 0) rfl) pa_nil)))) rfl)))))), ?_⟩
  have pa : p ≠ a := by
    rintro rfl
    rw [ha] at hp
    cases hp
  refine q_when (b := false) (et_is (et_not (et_B (ev_call (ea_cons (ev_var rfl) ea_nil) (spv_alpha hal)))) (by rw [hA]; rfl)) (fun z => by cases z) fun _ H1 x1 => ?_
  refine ⟨_, rfl, _, rfl, a, C, dx, [], rfl, x1 _ _ ha, CB.toCls, CB.nSigns, by simp, ?_⟩
  have b2 : ExB a H (upd H1 a (.ins C dx (putF "signs" (.str al) []))) := fun b o ne hb => by
    rw [upd_ne ne]
    exact x1 _ _ hb
  have e2 : upd H1 a (.ins C dx (putF "signs" (.str al) [])) a = some (.ins C dx [("signs", .str al)]) := upd_same
  generalize upd H1 a (.ins C dx (putF "signs" (.str al) [])) = H2 at b2 e2 ⊢
  refine ⟨_, rfl, _, rfl, al, p, ws, rfl, .inr (st_of (b2 _ _ pa hp)), fit, fun ys W H3 pe so hW x3 eW => ⟨_, rfl, a, C, dx, _, rfl, x3 _ _ e2, CB.toCls, CB.nWords, by simp, ?_⟩⟩
  have Wa : W ≠ a := by
    rintro rfl
    rw [e2] at hW
    cases hW
  have b4 : ExB a H (upd H3 a (.ins C dx (putF "words" (.ref W) [("signs", .str al)]))) := fun b o ne hb => by
    rw [upd_ne ne]
    exact x3 _ _ (b2 _ _ ne hb)
  have e4 : upd H3 a (.ins C dx (putF "words" (.ref W) [("signs", .str al)])) a = some (.ins C dx [("signs", .str al), ("words", .ref W)]) := upd_same
  have w4 : upd H3 a (.ins C dx (putF "words" (.ref W) [("signs", .str al)])) W = some (.tup (ys.map V.str)) := by
    rw [upd_ne Wa]
    exact eW
  generalize upd H3 a (.ins C dx (putF "words" (.ref W) [("signs", .str al)])) = H4 at b4 e4 w4 ⊢
  obtain ⟨f1, f2⟩ := fit.ends ys pe
  have fw : ∀ t ∈ ys, t.length ≤ 1000 := fun t ht => (fit.words t ((mem_uniq ws t).mp ((List.mem_filter.mp (pe.mem_iff.mp ht)).1))).2.1
  refine ⟨_, rfl, a, C, dx, _, _, rfl, e4, CB.toCls, CB.nWords, rfl, W, ys, rfl, .inr (st_of w4), f1, fw, fun es N H5 pe2 so2 hN x5 eN => ⟨_, rfl, a, C, dx, _, rfl, x5 _ _ e4, CB.toCls, CB.nEnds, by simp, ?_⟩⟩
  have Na : N ≠ a := by
    rintro rfl
    rw [e4] at hN
    cases hN
  have b6 : ExB a H (upd H5 a (.ins C dx (putF "ends" (.ref N) [("signs", .str al), ("words", .ref W)]))) := fun b o ne hb => by
    rw [upd_ne ne]
    exact x5 _ _ (b4 _ _ ne hb)
  have e6 : upd H5 a (.ins C dx (putF "ends" (.ref N) [("signs", .str al), ("words", .ref W)])) a = some (.ins C dx [("signs", .str al), ("words", .ref W), ("ends", .ref N)]) := upd_same
  have w6 : upd H5 a (.ins C dx (putF "ends" (.ref N) [("signs", .str al), ("words", .ref W)])) W = some (.tup (ys.map V.str)) := by
    rw [upd_ne Wa]
    exact x5 _ _ w4
  have n6 : upd H5 a (.ins C dx (putF "ends" (.ref N) [("signs", .str al), ("words", .ref W)])) N = some (.tup (es.map V.str)) := by
    rw [upd_ne Na]
    exact eN
  generalize upd H5 a (.ins C dx (putF "ends" (.ref N) [("signs", .str al), ("words", .ref W)])) = H6 at b6 e6 w6 n6 ⊢
  refine ⟨_, rfl, a, C, dx, _, _, rfl, e6, CB.toCls, CB.nEnds, rfl, N, es, rfl, st_of n6, ?_, fun zs L pe3 pw3 hL => ⟨_, rfl, a, C, dx, [("signs", .str al), ("words", .ref W), ("ends", .ref N)], rfl, ?_, CB.toCls, CB.nLong, by simp, ?_⟩⟩
  · intro t ht
    exact ends_len fw ((mem_uniq _ _).mp (pe2.mem_iff.mp ht))
  · have ne : a ≠ L := by
      rintro rfl
      rw [e6] at hL
      cases hL
    rw [upd_ne ne]
    exact e6
  · have ne : a ≠ L := by
      rintro rfl
      rw [e6] at hL
      cases hL
    have WL : W ≠ L := by
      rintro rfl
      rw [w6] at hL
      cases hL
    have NL : N ≠ L := by
      rintro rfl
      rw [n6] at hL
      cases hL
    have few2 : ys.length < 64 := by
      have l1 := fit.few
      have l2 := uniq_len ws
      have l3 : (leastU ws).length ≤ (uniq ws).length := List.length_filter_le _ _
      rw [pe.length_eq]
      omega
    have e8 : upd (upd H6 L (.lst (zs.map V.str))) a (.ins C dx (putF "_longest_first" (.ref L) [("signs", .str al), ("words", .ref W), ("ends", .ref N)])) a = some (.ins C dx [("signs", .str al), ("words", .ref W), ("ends", .ref N), ("_longest_first", .ref L)]) := upd_same
    have w8 : upd (upd H6 L (.lst (zs.map V.str))) a (.ins C dx (putF "_longest_first" (.ref L) [("signs", .str al), ("words", .ref W), ("ends", .ref N)])) W = some (.tup (ys.map V.str)) := by
      rw [upd_ne Wa, upd_ne WL]
      exact w6
    have n8 : upd (upd H6 L (.lst (zs.map V.str))) a (.ins C dx (putF "_longest_first" (.ref L) [("signs", .str al), ("words", .ref W), ("ends", .ref N)])) N = some (.tup (es.map V.str)) := by
      rw [upd_ne Na, upd_ne NL]
      exact n6
    have l8 : upd (upd H6 L (.lst (zs.map V.str))) a (.ins C dx (putF "_longest_first" (.ref L) [("signs", .str al), ("words", .ref W), ("ends", .ref N)])) L = some (.lst (zs.map V.str)) := by
      rw [upd_ne ne.symm]
      exact upd_same
    have b8 : ExB a H (upd (upd H6 L (.lst (zs.map V.str))) a (.ins C dx (putF "_longest_first" (.ref L) [("signs", .str al), ("words", .ref W), ("ends", .ref N)]))) := fun b o nb hb => by
      have bL : b ≠ L := by
        rintro rfl
        rw [b6 _ _ nb hb] at hL
        cases hL
      rw [upd_ne nb, upd_ne bL]
      exact b6 _ _ nb hb
    have aL := ne
    generalize upd (upd H6 L (.lst (zs.map V.str))) a (.ins C dx (putF "_longest_first" (.ref L) [("signs", .str al), ("words", .ref W), ("ends", .ref N)])) = H8 at e8 w8 n8 l8 b8 ⊢
    have in2 : ∀ t ∈ ys, t ∈ ws ∧ ∀ o ∈ ws, o ≠ t → inS o t = false := fun t ht => (mem_least ws t).mp (pe.mem_iff.mp ht)
    have full : ∀ t ∈ ys, Full t := fun t ht z => by
      have q := (fit.words t (in2 t ht).1).1
      unfold isWordB at q
      rw [Bool.and_eq_true, Bool.and_eq_true, decide_eq_true_eq] at q
      have l := len_cps t
      rw [z] at l
      have l0 : t.length = 0 := l.symm
      have := q.2.1
      omega
    have N1 : Ends al ys es := ⟨full, fun o ho x hx no => (in2 x hx).2 o (in2 o ho).1 no, fun t ht => fit.over t (in2 t ht).1, fun e => (pe2.mem_iff.trans (mem_uniq _ _)), pe2.nodup_iff.mpr (nodup_uniq _), by
      have := uniq_len (endsL ys)
      rw [pe2.length_eq]
      omega, fun t ht => ends_len fw ((mem_uniq _ _).mp (pe2.mem_iff.mp ht)), by omega, hal⟩
    refine ⟨_, rfl, _, rfl, a, C, dx, _, _, rfl, e8, CB.toCls, CB.nWords, rfl, _, rfl, a, C, dx, _, _, rfl, e8, CB.toCls, CB.nEnds, rfl, al, W, N, ys, es, rfl, st_of w8, st_of n8, N1, fun O H9 fk hO x9 eO => ⟨_, rfl, a, C, dx, _, rfl, x9 _ _ e8, CB.toCls, CB.nOn, by simp, ?_⟩⟩
    have Oa : O ≠ a := by
      rintro rfl
      rw [e8] at hO
      cases hO
    refine k ys es _ pe so pe2 so2 (fun b o nb hb => ?_) ⟨⟨dx, W, N, L, zs, O, upd_same, ?_, ?_, ?_, pe3, pw3⟩, fun t ht => (fit.words t (in2 t ht).1).2.2, fw, few2, hal⟩
    · rw [upd_ne nb]
      exact x9 _ _ (b8 _ _ nb hb)
    · rw [upd_ne Wa]
      exact x9 _ _ w8
    · rw [upd_ne Na]
      exact x9 _ _ n8
    · rw [upd_ne aL.symm]
      exact x9 _ _ l8
/-- Bars.__init__ called with a new instance, an alphabet and words -/
def spB (C : Addr) : Sp := fun vs H Q _ => ∃ (a dx : Addr) (al : Str) (ws : List Str), vs = .ref a :: .str al :: ws.map V.str ∧ H a = some (.ins C dx []) ∧ al.length ≤ 1000 ∧ isAlphaB al = true ∧ Fit al ws ∧
  ∀ (ys es : List Str) (H' : Hp), ys.Perm (leastU ws) → sortedS ys = true → es.Perm (uniq (endsL ys)) → sortedS es = true → ExB a H H' → BarsAt C H' a al ys es → Q .non H'
theorem fnr_init {C fT fW fA fH fL fE fC fO f : Addr} {fd fdT fdW fdA fdH fdL fdE fdC fdO : FuncData} (F : Fun K "__init__" "Bars.__init__" (meth 0) f fd) (CB : ClsB K C) (T : TBars K mg fT fW fA fH fL fE fC)
    (FT : Fun K "is_text" "is_text" sIsText fT fdT) (bT : Binds K fdT ["value", "signs"] []) (FW : Fun K "is_word" "is_word" sIsWord fW fdW) (bW : Binds K fdW ["value", "signs", "most"] [])
    (FA : Fun K "is_alphabet" "is_alphabet" sIsAlphabet fA fdA) (bA : Binds K fdA ["value"] [])
    (FH : Fun K "holds_some" "holds_some" sHoldsSome fH fdH) (bH : Binds K fdH ["text", "words"] []) (FL : Fun K "least_words" "least_words" sLeast fL fdL) (bL : Binds K fdL ["words"] [])
    (FE : Fun K "ends_of" "ends_of" sEnds fE fdE) (bE : Binds K fdE ["words"] []) (FC : Fun K "checked_words" "checked_words" sChecked fC fdC) (bC : Binds K fdC ["signs", "words"] [])
    (gO : mg "onward_ends" = some (.ref fO)) (kO : PySem.W.keepIn K (.ref fO) = true) (FO : Fun K "onward_ends" "onward_ends" sOnward fO fdO) (bO : Binds K fdO ["signs", "words", "ends"] []) :
    FnR P w K mg base CX0 4 f (spB C) := by
  obtain ⟨oc, od, kV, doc, pm, an, cdv, ct, osl, rfl, lk, hcd⟩ := F.ex
  refine (StX.fn_star (ps := ["self", "signs"]) (pv := "words") (sp := spInit C) lk hcd scInit StX.cxUp_none (fun us rest hl => ?_) fun A outer s H vs Q E hr h => r_init CB T FT bT FW bW FA bA FH bH FL bL FE bE FC bC gO kO FO bO hr h).imp fun vs H Q E h => ?_
  · exact StX.bind_star2 (B := fun pos => bindArgs _ ⟨pos, []⟩) (fun a b => rfl) (fun a b r rs => rfl) us rest hl
  · obtain ⟨a, dx, al, ws, rfl, ha, hal, hA, fit, k⟩ := h
    have few := fit.few
    refine ⟨[.ref a, .str al], ws.map V.str, rfl, rfl, ?_, fun p hp => ⟨a, p, dx, al, ws, rfl, ?_, upd_same, hal, hA, fit, fun ys es H' p1 p2 p3 p4 p5 p6 => k ys es H' p1 p2 p3 p4 (fun b o nb hb => p5 b o nb ?_) p6⟩⟩
    · rw [List.length_map, sizeLine_eq]
      omega
    · have ne : a ≠ p := by
        rintro rfl
        rw [ha] at hp
        cases hp
      rw [upd_ne ne]
      exact ha
    · have ne : b ≠ p := by
        rintro rfl
        rw [hb] at hp
        cases hp
      rw [upd_ne ne]
      exact hb
theorem mk_bars {C : Addr} {E : XK} {t : TA} {σ : L2.St} {H : Hp} {Q : VK} {al : Str} {ws : List Str} (ht : EvA t σ H (.str al :: ws.map V.str)) (hal : al.length ≤ 1000) (hA : isAlphaB al = true) (fit : Fit al ws)
    (q : ∀ (x : Addr) (ys es : List Str) (H' : Hp), H x = none → Ex H H' → ys.Perm (leastU ws) → sortedS ys = true → es.Perm (uniq (endsL ys)) → sortedS es = true → BarsAt C H' x al ys es → Q (.ref x) H') : StX.tMakeR C (spB C) E t σ H Q := by
  refine ht H (Ex.refl _) _ fun H1 x1 x dx hx hdx ne => ⟨x, dx, al, ws, rfl, upd_same, hal, hA, fit, fun ys es H' p1 p2 p3 p4 p5 p6 => ⟨rfl, q x ys es H' (fresh_back x1 hx) (x1.trans fun b o hb => p5 b o ?_ ?_) p1 p2 p3 p4 p6⟩⟩
  · rintro rfl
    rw [hb] at hx
    cases hx
  · have n1 : b ≠ x := by
      rintro rfl
      rw [hb] at hx
      cases hx
    have n2 : b ≠ dx := by
      rintro rfl
      rw [hb] at hdx
      cases hdx
    rw [upd_ne n1, upd_ne n2]
    exact hb
end
end K02

set_option Elab.async false
set_option linter.all false
set_option maxRecDepth 100000
/-! Lists and tuples of texts as data -/
namespace KU
open PySem PySem.Spec PyProof.Rows L2 Evl
def dstrs (ws : List Str) : List PyData := ws.map PyData.str
theorem dp_strs {K : PySem.W.Frag} {H : Hp} : ∀ ws : List Str, DpAll K H (ws.map V.str) (dstrs ws)
  | [] => .nil
  | n :: r => .cons (.str n) (dp_strs r)
theorem lay_strs (l : List Str) (h : ∀ t ∈ l, PyData.strOk t = true) : PyData.canLayAll0 (dstrs l) = true := by
  induction l with
  | nil => rfl
  | cons n r ih =>
    have z := ih fun t m => h t (List.mem_cons_of_mem _ m)
    have y := h n List.mem_cons_self
    simp only [dstrs, List.map_cons, PyData.canLayAll0, PyData.canLay0, Bool.and_eq_true] at z ⊢
    exact ⟨y, z⟩
theorem depth_strs (l : List Str) : PyData.depthAll (dstrs l) ≤ 1 := by
  induction l with
  | nil => simp [dstrs, PyData.depthAll]
  | cons n r ih =>
    have z : PyData.depthAll (dstrs (n :: r)) = max (PyData.depth (.str n)) (PyData.depthAll (dstrs r)) := by simp [dstrs, PyData.depthAll]
    rw [z]
    have y : PyData.depth (.str n) ≤ 1 := by simp [PyData.depth]
    omega
theorem eqvAll_strs : ∀ a b : List Str, PyData.eqvAll (dstrs a) (dstrs b) = decide (a = b)
  | [], [] => rfl
  | [], _ :: _ => by simp [dstrs, PyData.eqvAll]
  | _ :: _, [] => by simp [dstrs, PyData.eqvAll]
  | x :: r, y :: t => by
    have ih := eqvAll_strs r t
    have e : PyData.eqvAll (dstrs (x :: r)) (dstrs (y :: t)) = (PyData.eqv (.str x) (.str y) && PyData.eqvAll (dstrs r) (dstrs t)) := by simp [dstrs, PyData.eqvAll]
    rw [e, ih]
    have e2 : PyData.eqv (.str x) (.str y) = decide (x = y) := by
      show (x == y) = decide (x = y)
      by_cases h : x = y
      · subst h
        simp
      · rw [decide_eq_false h]
        exact beq_eq_false_iff_ne.mpr h
    rw [e2]
    by_cases h : x = y
    · by_cases g : r = t
      · simp [h, g]
      · simp [h, g]
    · simp [h]
theorem shaped_strsL (l : List Str) (h : ∀ t ∈ l, PyData.strOk t = true) : SeqAt.shaped (.list (dstrs l)) = true := by
  unfold SeqAt.shaped
  have c := depth_strs l
  have d : PyData.depth (.list (dstrs l)) ≤ 64 := by
    simp only [PyData.depth]
    omega
  simp only [PyData.canLay0, lay_strs l h, Bool.true_and, decide_eq_true d]
theorem shaped_strsT (l : List Str) (h : ∀ t ∈ l, PyData.strOk t = true) : SeqAt.shaped (.tuple (dstrs l)) = true := by
  unfold SeqAt.shaped
  have c := depth_strs l
  have d : PyData.depth (.tuple (dstrs l)) ≤ 64 := by
    simp only [PyData.depth]
    omega
  simp only [PyData.canLay0, lay_strs l h, Bool.true_and, decide_eq_true d]
theorem eqv_strsL (a b : List Str) : PyData.eqv (.list (dstrs a)) (.list (dstrs b)) = decide (a = b) := by
  rw [← eqvAll_strs]
  simp [PyData.eqv]
theorem eqv_strsT (a b : List Str) : PyData.eqv (.tuple (dstrs a)) (.tuple (dstrs b)) = decide (a = b) := by
  rw [← eqvAll_strs]
  simp [PyData.eqv]
section
variable {K : PySem.W.Frag} {σ : L2.St} {H : Hp} {te tl ta tb : TE}
/-- two tuples of texts -/
theorem ev_eqT {p q : Addr} {a b : List Str} (ha : Ev ta σ H (.ref p)) (hb : Ev tb σ H (.ref q)) (h1 : H p = some (.tup (a.map V.str))) (h2 : H q = some (.tup (b.map V.str))) (o1 : ∀ t ∈ a, PyData.strOk t = true) (o2 : ∀ t ∈ b, PyData.strOk t = true) :
    Ev (tOp (rEqD K) ta tb) σ H (.bl (decide (a = b))) := ev_op ha hb fun H1 x1 Q k => by
  rw [← eqv_strsT] at k
  exact ⟨_, _, .tup (st_of (x1 _ _ h1)) (dp_strs a), .tup (st_of (x1 _ _ h2)) (dp_strs b), shaped_strsT a o1, shaped_strsT b o2, k H1 (Ex.refl _)⟩
theorem ev_neT {p q : Addr} {a b : List Str} (ha : Ev ta σ H (.ref p)) (hb : Ev tb σ H (.ref q)) (h1 : H p = some (.tup (a.map V.str))) (h2 : H q = some (.tup (b.map V.str))) (o1 : ∀ t ∈ a, PyData.strOk t = true) (o2 : ∀ t ∈ b, PyData.strOk t = true) :
    Ev (tOp (rNeD K) ta tb) σ H (.bl (!decide (a = b))) := ev_op ha hb fun H1 x1 Q k => by
  rw [← eqv_strsT] at k
  exact ⟨_, _, .tup (st_of (x1 _ _ h1)) (dp_strs a), .tup (st_of (x1 _ _ h2)) (dp_strs b), shaped_strsT a o1, shaped_strsT b o2, k H1 (Ex.refl _)⟩
end
end KU

set_option Elab.async false
set_option linter.all false
set_option maxRecDepth 100000
set_option maxHeartbeats 4000000
/-! bars.py: what Bars tell -/
namespace K02
open PySem PySem.Spec PyProof.Rows L2 Evl KU
structure ClsI (K : PySem.W.Frag) (mg : Str → Option Value) (C : Addr) : Prop extends ClsB K C where
  gB : mg "Bars" = some (.ref C)
  cA : PySem.W.findIn K (.ref C) "__class__" = some (some (.builtin "object.__class__"))
  cG : PySem.W.specialIn K (.builtin "object.__class__") "__get__" = some (some (.builtin "getset_descriptor.__get__"))
  cT : PySem.W.takesIn K (.builtin "object.__class__") = some true
  cM : PySem.W.mroIn K C (.type "object") = some true
  cI : PySem.W.kitOne K (.ref C) (.ref C) = some true
section
variable {K : PySem.W.Frag} {σ : L2.St} {H : Hp} {te tl ta tb : TE}
theorem ev_fld {a C dx : Addr} {fs : List (Str × V)} {f : Str} {v : V} (h : Ev te σ H (.ref a)) (ha : H a = some (.ins C dx fs)) (cl : Cls K C) (no : NoAttr K C f) (lk : fs.lookup f = some v) : Ev (tFld K te f) σ H v :=
  fun H1 x1 Q q => h H1 x1 _ fun H2 x2 => ⟨a, C, dx, fs, v, rfl, (x1.trans x2) _ _ ha, cl, no, lk, q H2 x2⟩
end
section
variable {P : Program} {w : World} {K : PySem.W.Frag} {mg : Str → Option Value} {base : Heap} {C : Addr}
def spLen (C : Addr) : Sp := fun vs H Q _ => ∃ (a : Addr) (al : Str) (ys es : List Str), vs = [.ref a] ∧ BarsAt C H a al ys es ∧ RetV (.int (ys.length : Int)) H Q
theorem scLen : FnScope ["self"] ["self"] (defScope (meth 4)) := ⟨rfl, rfl, rfl, by decide +kernel, rfl, by decide +kernel, by decide +kernel⟩
theorem ok_blen {f : Addr} {fd : FuncData} (F : Fun K "__len__" "Bars.__len__" (meth 4) f fd) (T : Free mg) (CB : ClsI K mg C) : FnOk P w K mg base CX0 1 f fd ["self"] (spLen C) := by
  refine F.ok scLen (fun vs H Q E h => ?_) (fun cdv A outer s H vs Q E hr h => ?_)
  · obtain ⟨_, _, _, _, rfl, _⟩ := h
    rfl
  · obtain ⟨a, al, ys, es, rfl, B, k⟩ := h
    obtain ⟨dx, W, N, L, zs, O, h1, h2, h3, h4, h5⟩ := B.at_
    refine ⟨_, pss_one (ps_ret (pe_callB call_len_seq (by rfl) T.len PySem.boot_len (pa_cons (pe_fld (pv 0) rfl) pa_nil))), ?_⟩
    have z : Ev (tCB (rLenS K) (tCons (tFld K (tVar 0) "words") tNil)) (start ["self"] [.ref a]) H (.int (ys.length : Int)) := ev_cb (ea_cons (ev_fld (ev_var rfl) h1 CB.toCls CB.nWords rfl) ea_nil) fun H1 x1 Q q => ⟨W, ys.map V.str, rfl, .inr (st_of (x1 _ _ h2)), by
      rw [List.length_map]
      exact q H1 (Ex.refl _)⟩
    exact s_ret z fun H1 x1 => k H1 x1
def spIterB (C : Addr) (N0 : Nat) : Sp := fun vs H Q _ => ∃ (a : Addr) (al : Str) (ys es : List Str), vs = [.ref a] ∧ BarsAt C H a al ys es ∧ ∀ (W it : Addr), H W = some (.tup (ys.map V.str)) → H it = none → N0 ≤ it → Q (.ref it) (upd H it (TtO W it))
theorem scIter : FnScope ["self"] ["self"] (defScope (meth 5)) := ⟨rfl, rfl, rfl, by decide +kernel, rfl, by decide +kernel, by decide +kernel⟩
theorem ok_biter {f : Addr} {fd : FuncData} (F : Fun K "__iter__" "Bars.__iter__" (meth 5) f fd) (gI : mg "iter" = none) (CB : ClsI K mg C) (N0 : Nat) : FnP (fun _ s => N0 ≤ s.heap.objs.size) P w K mg base CX0 1 f fd ["self"] (spIterB C N0) := by
  refine FnP.body F scIter (fun vs H Q E h => ?_) (fun cdv A outer s H vs Q E hN hr h => ?_)
  · obtain ⟨_, _, _, _, rfl, _⟩ := h
    rfl
  · obtain ⟨a, al, ys, es, rfl, B, k⟩ := h
    obtain ⟨dx, W, N, L, zs, O, h1, h2, h3, h4, h5⟩ := B.at_
    refine ⟨_, pss_one (ps_ret (pe_callB call_iterT (by rfl) gI (by decide +kernel) (pa_cons (pe_fld (pv 0) rfl) pa_nil))), ?_⟩
    exact ⟨_, rfl, a, C, dx, _, _, rfl, h1, CB.toCls, CB.nWords, rfl, W, _, rfl, st_of h2, fun it hit hle => k W it h2 hit (Nat.le_trans hN hle)⟩
def spEqB (C : Addr) : Sp := fun vs H Q _ => ∃ (a b : Addr) (al bl : Str) (ys zs es fs : List Str), vs = [.ref a, .ref b] ∧ BarsAt C H a al ys es ∧ BarsAt C H b bl zs fs ∧ RetV (.bl (decide (al = bl) && decide (ys = zs))) H Q
theorem scEq : FnScope ["self", "other"] ["self", "other"] (defScope (meth 7)) := ⟨rfl, rfl, rfl, by decide +kernel, rfl, by decide +kernel, by decide +kernel⟩
theorem is_bars {a : Addr} {al : Str} {ys es : List Str} {H : Hp} (CB : ClsI K mg C) (B : BarsAt C H a al ys es) {ta tc : TE} {σ : L2.St} (ha : Ev ta σ H (.ref a)) (hc : Ev tc σ H (.ref C)) : Ev (tCB (rIsi K) (tCons ta (tCons tc tNil))) σ H (.bl true) := by
  obtain ⟨dx, W, N, L, zs, O, h1, _⟩ := B.at_
  exact ev_cb (ea_cons ha (ea_cons hc ea_nil)) fun H1 x1 Q q => ⟨_, _, _, _, true, rfl, .own C, .base (.ins (x1 _ _ h1) CB.toCls CB.cA CB.cG CB.cT CB.cM), CB.cI, q H1 (Ex.refl _)⟩
theorem ok_beq {f : Addr} {fd : FuncData} (F : Fun K "__eq__" "Bars.__eq__" (meth 7) f fd) (T : Free mg) (CB : ClsI K mg C) : FnOk P w K mg base CX0 1 f fd ["self", "other"] (spEqB C) := by
  refine F.ok scEq (fun vs H Q E h => ?_) (fun cdv A outer s H vs Q E hr h => ?_)
  · obtain ⟨_, _, _, _, _, _, _, _, rfl, _⟩ := h
    rfl
  · obtain ⟨a, b, al, bl, ys, zs, es, fs, rfl, B1, B2, k⟩ := h
    obtain ⟨dx, W, N, L, zz, O, h1, h2, h3, h4, h5⟩ := B1.at_
    obtain ⟨dx', W', N', L', zz', O', g1, g2, g3, g4, g5⟩ := B2.at_
    refine ⟨_, pss_one (ps_ret (pe_and (pe_callB call_isi (by rfl) T.isinstance (by decide +kernel) (pa_cons (pv 1) (pa_cons (pe_glob (v := .ref C) rfl CB.gB rfl) pa_nil)))
      (pe_and (pe_cmpR op_eq (pe_fld (pv 0) rfl) (pe_fld (pv 1) rfl) (nomark _)) (pe_one (pe_cmpR (op_eqD hr.units) (pe_fld (pv 0) rfl) (pe_fld (pv 1) rfl) (nomark _)))))), ?_⟩
    have z := ev_andV (is_bars CB B2 (ta := tVar 1) (tc := tC (.ref C)) (σ := start ["self", "other"] [.ref a, .ref b]) (ev_var rfl) ev_c) fun _ => ev_andV (ev_op (ev_fld (K := K) (te := tVar 0) (ev_var rfl) h1 CB.toCls CB.nSigns rfl) (ev_fld (K := K) (te := tVar 1) (ev_var rfl) g1 CB.toCls CB.nSigns rfl) (rv_eq rfl)) fun _ =>
      ev_eqT (K := K) (ev_fld (K := K) (te := tVar 0) (ev_var rfl) h1 CB.toCls CB.nWords rfl) (ev_fld (K := K) (te := tVar 1) (ev_var rfl) g1 CB.toCls CB.nWords rfl) h2 g2 B1.ok B2.ok
    refine s_ret z fun H1 x1 => ?_
    have y := k H1 x1
    have e : (decide (V.str al = V.str bl)) = decide (al = bl) := by
      by_cases g : al = bl
      · subst g
        simp
      · rw [decide_eq_false g]
        exact decide_eq_false fun q => g (by cases q; rfl)
    rw [Bool.true_and, e]
    exact y
end
end K02

set_option Elab.async false
set_option linter.all false
set_option maxRecDepth 100000
set_option maxHeartbeats 4000000
/-! An own class called with starred arguments -/
namespace KU
open PySem PySem.Spec PyProof.Rows L2 Evl
theorem pe_makeS {X : Cx} {CX : CXT} {k : Nat} {f C : Addr} {sp : Sp} {E : XK} {x : Str} {e : Expr} {es : List Expr} {t : TA} {p pos : Pos} (M : Mk X.K C f) (F : FnR X.prog X.w X.K X.mg X.base CX k f sp) (hr : Room (k + 1) X.A) (hg : Gl X x)
    (hm : X.mg x = some (.ref C)) (hx : Passes CX X E) (ha : PA X (e :: es) t) (hdb : (x == ("__debug__" : Str)) = false := by decide) (he : starEach (e :: es) X.env = (false, eval e X.env) :: starEach es X.env := by rfl)
    (hst : (backTo pos (starEach es X.env)).any (·.1) = true := by rfl) : PE X (.Call (.Name x p) (e :: es) [] pos) (StX.tMakeR C sp E t) := by
  refine ⟨fun pins s σ H Q I h => ?_⟩
  refine wpAny_Call_Name_kw (ld_glob I hg hm (PySem.W.callWith_S2 I.ok.mod.kin M.kp (thn (ha.run pos pins s σ H _ I h) fun us s1 z => ?_) he hst) hdb)
  obtain ⟨vs, H1, I1, r, q⟩ := z
  exact ⟨I1.kIn, StX.run_makeR M F hr hx I1 r q⟩
section
variable {K : PySem.W.Frag} {σ : L2.St} {H : Hp} {te tl ta tb : TE} {t : TA}
theorem ea_star {p : Addr} {xs ys : List V} (h : Ev te σ H (.ref p)) (hs : SqT K H p xs ∨ SqL K H p xs) (r : EvA t σ H ys) : EvA (StX.tStar K te t) σ H (xs ++ ys) :=
  fun H1 x1 Q q => h H1 x1 _ fun H2 x2 => ⟨p, xs, rfl, hs.imp (ex_t (x1.trans x2)) (ex_l (x1.trans x2)), r H2 (x1.trans x2) _ fun H3 x3 => q H3 (x2.trans x3)⟩
end
end KU

set_option Elab.async false
set_option linter.all false
set_option maxRecDepth 100000
set_option maxHeartbeats 4000000
/-! bars.py: Bars joined -/
namespace K02
open PySem PySem.Spec PyProof.Rows L2 Evl KU
section
variable {P : Program} {w : World} {K : PySem.W.Frag} {mg : Str → Option Value} {base : Heap} {C : Addr}
def spChk (C : Addr) : Sp := fun vs H Q _ => ∃ (a b : Addr) (al : Str) (ys zs es fs : List Str), vs = [.ref a, .ref b] ∧ BarsAt C H a al ys es ∧ BarsAt C H b al zs fs ∧ RetV .non H Q
theorem scChk : FnScope ["self", "other"] ["self", "other"] (defScope (meth 13)) := ⟨rfl, rfl, rfl, by decide +kernel, rfl, by decide +kernel, by decide +kernel⟩
theorem ok_chk {f : Addr} {fd : FuncData} (F : Fun K "_check_other" "Bars._check_other" (meth 13) f fd) (T : Free mg) (CB : ClsI K mg C) : FnOk P w K mg base CX0 1 f fd ["self", "other"] (spChk C) := by
  refine F.ok scChk (fun vs H Q E h => ?_) (fun cdv A outer s H vs Q E hr h => ?_)
  · obtain ⟨_, _, _, _, _, _, _, rfl, _⟩ := h
    rfl
  · obtain ⟨a, b, al, ys, zs, es, fs, rfl, B1, B2, k⟩ := h
    obtain ⟨dx, W, N, L, zz, O, h1, h2, h3, h4, h5⟩ := B1.at_
    obtain ⟨dx', W', N', L', zz', O', g1, g2, g3, g4, g5⟩ := B2.at_
    refine ⟨_, pss_one (ps_if (PW.pt (pw_or (pt_not (pt_val (pe_callB call_isi (by rfl) T.isinstance (by decide +kernel) (pa_cons (pv 1) (pa_cons (pe_glob (v := .ref C) rfl CB.gB rfl) pa_nil)))))
      (pw_or1 (pt_cmpR op_ne (pe_fld (pv 1) rfl) (pe_fld (pv 0) rfl) (nomark _))))) (pss_one ps_never) pss_nil), ?_⟩
    refine s_when (b := false) (et_is (et_or (et_not (et_B (is_bars CB B2 (ta := tVar 1) (tc := tC (.ref C)) (σ := start ["self", "other"] [.ref a, .ref b]) (ev_var rfl) ev_c))) fun _ =>
      et_test (ev_op (ev_fld (K := K) (te := tVar 1) (ev_var rfl) g1 CB.toCls CB.nSigns rfl) (ev_fld (K := K) (te := tVar 0) (ev_var rfl) h1 CB.toCls CB.nSigns rfl) (rv_ne rfl))) (by simp)) (fun z => by cases z) fun _ H1 x1 => k H1 x1
def spOr (C : Addr) : Sp := fun vs H Q _ => ∃ (a b : Addr) (al : Str) (ys zs es fs : List Str), vs = [.ref a, .ref b] ∧ BarsAt C H a al ys es ∧ BarsAt C H b al zs fs ∧ al.length ≤ 1000 ∧ isAlphaB al = true ∧ Fit al (ys ++ zs) ∧
  ∀ (x : Addr) (us gs : List Str) (H' : Hp), H x = none → Ex H H' → us.Perm (leastU (ys ++ zs)) → sortedS us = true → gs.Perm (uniq (endsL us)) → sortedS gs = true → BarsAt C H' x al us gs → Q (.ref x) H'
theorem scOr : FnScope ["self", "other"] ["self", "other"] (defScope (meth 14)) := ⟨rfl, rfl, rfl, by decide +kernel, rfl, by decide +kernel, by decide +kernel⟩
theorem ok_or {f fI fK : Addr} {fd fdK : FuncData} (F : Fun K "__or__" "Bars.__or__" (meth 14) f fd) (T : Free mg) (CB : ClsI K mg C) (M : Mk K C fI) (FI : FnR P w K mg base CX0 4 fI (spB C))
    (FK : Fun K "_check_other" "Bars._check_other" (meth 13) fK fdK) (bK : Binds K fdK ["self", "other"] []) (mK : Meth K C "_check_other" fK) : FnOk P w K mg base CX0 6 f fd ["self", "other"] (spOr C) := by
  have GK : FnOk P w K mg base CX0 1 fK fdK ["self", "other"] (spChk C) := ok_chk FK T CB
  refine F.ok scOr (fun vs H Q E h => ?_) (fun cdv A outer s H vs Q E hr h => ?_)
  · obtain ⟨_, _, _, _, _, _, _, rfl, _⟩ := h
    rfl
  · obtain ⟨a, b, al, ys, zs, es, fs, rfl, B1, B2, hal, hA, fit, k⟩ := h
    obtain ⟨dx, W, N, L, zz, O, h1, h2, h3, h4, h5⟩ := B1.at_
    obtain ⟨dx', W', N', L', zz', O', g1, g2, g3, g4, g5⟩ := B2.at_
    refine ⟨_, pss_cons (ps_expr (pe_meth (pv 0) CB.toCls mK GK (hr.mono (by decide)) bK .nil pass0 (pa_cons (pv 1) pa_nil)))
      (pss_one (ps_ret (pe_makeS M FI hr (by rfl) CB.gB pass0 (pa_cons (pe_fld (pv 0) rfl) (StX.pa_star (pe_fld (pv 0) rfl) (StX.pa_star (pe_fld (pv 1) rfl) pa_nil)))))), ?_⟩
    refine ⟨_, rfl, a, dx, _, rfl, h1, rfl, _, rfl, a, b, al, ys, zs, es, fs, rfl, B1, B2, fun H1 x1 => ?_⟩
    have z := mk_bars (C := C) (E := E0) (Q := Q) (H := H1) (ws := ys ++ zs) (al := al) (t := tCons (tFld K (tVar 0) "signs") (StX.tStar K (tFld K (tVar 0) "words") (StX.tStar K (tFld K (tVar 1) "words") tNil))) (σ := start ["self", "other"] [.ref a, .ref b]) ?_ hal hA fit
      fun x us gs H' hx x2 p1 p2 p3 p4 p5 => k x us gs H' (fresh_back x1 hx) (x1.trans x2) p1 p2 p3 p4 p5
    · exact z
    · have y := ea_cons (ev_fld (K := K) (σ := start ["self", "other"] [.ref a, .ref b]) (te := tVar 0) (H := H1) (ev_var rfl) (x1 _ _ h1) CB.toCls CB.nSigns rfl) (ea_star (K := K) (ev_fld (K := K) (te := tVar 0) (ev_var rfl) (x1 _ _ h1) CB.toCls CB.nWords rfl) (.inl (st_of (x1 _ _ h2)))
        (ea_star (K := K) (ev_fld (K := K) (te := tVar 1) (ev_var rfl) (x1 _ _ g1) CB.toCls CB.nWords rfl) (.inl (st_of (x1 _ _ g2))) ea_nil))
      rw [List.map_append]
      rw [List.append_nil] at y
      exact y
end
end K02

set_option Elab.async false
set_option linter.all false
set_option maxRecDepth 100000
/-! Words that are few enough for bars -/
namespace K02
open PySem PySem.Spec PyProof.Rows L2 Evl KU
theorem sum_sub (f : Str → Nat) : ∀ (ys zs : List Str), ys.Nodup → (∀ t ∈ ys, t ∈ zs) → (ys.map f).sum ≤ (zs.map f).sum
  | [], zs, _, _ => Nat.zero_le _
  | y :: t, zs, nd, sub => by
    have hy := sub y List.mem_cons_self
    have p := List.perm_cons_erase hy
    have z := sum_sub f t (zs.erase y) (List.nodup_cons.mp nd).2 fun x hx => by
      have ne : x ≠ y := by
        rintro rfl
        exact (List.nodup_cons.mp nd).1 hx
      exact (List.mem_erase_of_ne ne).mpr (sub x (List.mem_cons_of_mem _ hx))
    have e : (zs.map f).sum = f y + ((zs.erase y).map f).sum := by
      rw [(p.map f).sum_nat, List.map_cons, List.sum_cons]
    rw [List.map_cons, List.sum_cons, e]
    omega
theorem len_sub (ys zs : List Str) (nd : ys.Nodup) (sub : ∀ t ∈ ys, t ∈ zs) : ys.length ≤ zs.length := by
  have z := sum_sub (fun _ => 1) ys zs nd sub
  have e : ∀ l : List Str, (l.map fun _ => 1).sum = l.length := by
    intro l
    induction l with
    | nil => rfl
    | cons a r ih => rw [List.map_cons, List.sum_cons, ih, List.length_cons, Nat.add_comm]
  rw [e, e] at z
  exact z
theorem begins_len_eq (w : Str) : (begins w).length = w.length := by
  unfold begins
  rw [List.length_map, List.length_range]
theorem ends_sum (ys : List Str) : (endsL ys).length = 1 + (ys.map (·.length)).sum := by
  unfold endsL
  rw [List.length_cons]
  have : ∀ l : List Str, (l.flatMap begins).length = (l.map (·.length)).sum := by
    intro l
    induction l with
    | nil => rfl
    | cons a r ih => rw [List.flatMap_cons, List.length_append, ih, begins_len_eq, List.map_cons, List.sum_cons]
  rw [this]
  omega
/-- the beginnings that are not empty -/
def tails (w : Str) : List Str := (begins w).drop 1
theorem begins_head {w : Str} (h : 0 < w.length) : begins w = ("" : Str) :: tails w := by
  unfold tails
  have e : (begins w)[0]? = some ("" : Str) := by
    unfold begins
    rw [List.getElem?_map, List.getElem?_range h]
    rfl
  cases g : begins w with
  | nil =>
    rw [g] at e
    cases e
  | cons a r =>
    rw [g] at e
    cases e
    rfl
theorem tails_len (w : Str) : (tails w).length = w.length - 1 := by
  unfold tails
  rw [List.length_drop, begins_len_eq]
theorem uniq_ends (ys : List Str) (h : ∀ t ∈ ys, 0 < t.length) : (uniq (endsL ys)).length ≤ 1 + (ys.map fun t => t.length - 1).sum := by
  have z := len_sub (uniq (endsL ys)) (("" : Str) :: ys.flatMap tails) (nodup_uniq _) fun t ht => by
    have m := (mem_uniq _ _).mp ht
    unfold endsL at m
    rcases List.mem_cons.mp m with rfl | m
    · exact List.mem_cons_self
    · obtain ⟨w, mw, mt⟩ := List.mem_flatMap.mp m
      rw [begins_head (h w mw)] at mt
      rcases List.mem_cons.mp mt with rfl | mt
      · exact List.mem_cons_self
      · exact List.mem_cons_of_mem _ (List.mem_flatMap.mpr ⟨w, mw, mt⟩)
  have : ∀ l : List Str, (l.flatMap tails).length = (l.map fun t => t.length - 1).sum := by
    intro l
    induction l with
    | nil => rfl
    | cons a r ih => rw [List.flatMap_cons, List.length_append, ih, tails_len, List.map_cons, List.sum_cons]
  rw [List.length_cons, this] at z
  omega
/-- words of which all together, and any of them, fit into bars -/
structure Few (al : Str) (ws : List Str) : Prop where
  words : ∀ t ∈ ws, isWordB t al 8 = true ∧ t.length ≤ 1000 ∧ PyData.strOk t = true
  full : ∀ t ∈ ws, 0 < t.length
  over : ∀ t ∈ ws, ∀ c ∈ t.cps.toList, c ∈ al.cps.toList
  most : (uniq ws).length ≤ 8
  all : ((uniq ws).map (·.length)).sum ≤ 62
  ends : ((uniq ws).map fun t => t.length - 1).sum ≤ 23
theorem Few.fit {al : Str} {ws us : List Str} (F : Few al ws) (sub : ∀ t ∈ us, t ∈ ws) (few : us.length < 64) : Fit al us := by
  refine ⟨few, fun t ht => F.words t (sub t ht), fun t ht => F.over t (sub t ht), Nat.le_trans (len_sub _ _ (nodup_uniq us) fun t ht => (mem_uniq ws t).mpr (sub t ((mem_uniq us t).mp ht))) F.most, fun ys pe => ?_⟩
  have nd : ys.Nodup := pe.nodup_iff.mpr (nodup_least us)
  have inn : ∀ t ∈ ys, t ∈ ws := fun t ht => sub t ((mem_least us t).mp (pe.mem_iff.mp ht)).1
  have inu : ∀ t ∈ ys, t ∈ uniq ws := fun t ht => (mem_uniq ws t).mpr (inn t ht)
  have s1 := sum_sub (fun t => t.length) ys (uniq ws) nd inu
  have s2 := sum_sub (fun t => t.length - 1) ys (uniq ws) nd inu
  have a1 := F.all
  have a2 := F.ends
  refine ⟨?_, ?_⟩
  · rw [ends_sum]
    omega
  · have := uniq_ends ys fun t ht => F.full t (inn t ht)
    omega
end K02

set_option Elab.async false
set_option linter.all false
set_option maxRecDepth 100000
set_option maxHeartbeats 4000000
/-! The law's own: bars made one put to another -/
namespace K02
open PySem PySem.Spec PyProof.Rows L2 Evl KU
abbrev sMade : Stmt := top 43
theorem least_one (w : Str) : leastU [w] = [w] := by
  have e : uniq [w] = [w] := rfl
  unfold leastU
  rw [e]
  have f : [w].filter (fun o => !decide (V.str o = V.str w)) = [] := by simp
  rw [List.filter_cons]
  rw [f]
  rfl
theorem full_of {w : Str} (h : 0 < w.length) : Full w := by
  intro e
  have : w.length = w.cps.toList.length := by
    show w.cps.size = _
    simp
  rw [this, e] at h
  exact absurd h (by decide)
section
variable {P : Program} {w : World} {K : PySem.W.Frag} {mg : Str → Option Value} {base : Heap} {C : Addr}
def spMade (C : Addr) : Sp := fun vs H Q _ => ∃ (al : Str) (a : Addr) (ws : List Str), vs = [.str al, .ref a] ∧ H a = some (.lst (ws.map V.str)) ∧ al.length ≤ 1000 ∧ isAlphaB al = true ∧ Few al ws ∧ ws.length ≤ 30 ∧
  ∀ (x : Addr) (us gs : List Str) (H' : Hp), H x = none → Ex H H' → us.Perm (leastU ws) → sortedS us = true → gs.Perm (uniq (endsL us)) → sortedS gs = true → BarsAt C H' x al us gs → Q (.ref x) H'
theorem scMade : FnScope ["_law_signs_here", "_law_words_here", "_law_made_here", "_law_word"] ["_law_signs_here", "_law_words_here"] (defScope sMade) := ⟨rfl, rfl, rfl, by decide +kernel, rfl, by decide +kernel, by decide +kernel⟩
theorem ok_made {f fI fO : Addr} {fd : FuncData} (F : Fun K "_law_made" "_law_made" sMade f fd) (CB : ClsI K mg C) (M : Mk K C fI) (FI : ∀ {P : Program} {w : World}, FnR P w K mg base CX0 4 fI (spB C))
    (sf : PySem.W.selfFirst K C = true) (hO : PySem.W.findIn K (.ref C) (dunder Operator.BitOr.info.2) = some (some (.ref fO))) (fnO : PySem.W.isFn K (.ref fO) = true) (FO : ∀ {P : Program} {w : World}, FnR P w K mg base CX0 6 fO (spOr C)) :
    FnOk P w K mg base CX0 7 f fd ["_law_signs_here", "_law_words_here"] (spMade C) := by
  refine F.ok scMade (fun vs H Q E h => ?_) (fun cdv A outer s H vs Q E hr h => ?_)
  · obtain ⟨_, _, _, rfl, _⟩ := h
    rfl
  · obtain ⟨al, a, ws, rfl, ha, hal, hA, few, hl, k⟩ := h
    have nd := scMade.nd
    refine ⟨_, pss_cons (ps_set (i := 2) nd rfl (.inl rfl) (StX.pe_makeR M FI (hr.mono (by decide)) (by rfl) CB.gB pass0 (pa_cons (pv 0) pa_nil)))
      (pss_cons (ps_for PassesOwn.never rfl (pi_list (pv 1)) (pg_name (i := 3) nd rfl (.inl rfl))
        (pss_one (ps_set (i := 2) nd rfl (.inl rfl) (pe_op (op_binI (C := C) sf hO fnO FO hr pass0) (pv 2) (StX.pe_makeR M FI (hr.mono (by decide)) (by rfl) CB.gB pass0 (pa_cons (pv 0) (pa_cons (pv 3) pa_nil)))))))
      (pss_one (ps_ret (pv 2)))), ?_⟩
    refine q_asgR (mk_bars (C := C) (ws := []) (al := al) (ea_cons (ev_var rfl) ea_nil) hal hA (few.fit (fun t ht => by cases ht) (by decide)) fun x0 us0 gs0 H1 hx0 x1 p1 p2 p3 p4 B0 => ?_)
    refine q_forL (K := K) (a := a) (xs := ws.map V.str) (ev_var rfl) (sq_of (x1 _ _ ha)) (fun i σ' H' => ∃ (x : Addr) (us gs : List Str) (y3 : Option V), σ' = [some (.str al), some (.ref a), some (.ref x), y3] ∧ H x = none ∧ Ex H H' ∧ us.Perm (leastU (ws.take i)) ∧ sortedS us = true ∧ gs.Perm (uniq (endsL us)) ∧ sortedS gs = true ∧ BarsAt C H' x al us gs)
      (fun H2 x2 => ⟨x0, us0, gs0, _, rfl, hx0, x1.trans x2, p1, p2, p3, p4, B0.mono x2⟩) (fun i σ' H' _ p => ?_) (fun i v σ' H' ev p => ?_) fun σ' H' p => ?_
    · obtain ⟨x, us, gs, y3, rfl, hx, xx, _⟩ := p
      exact sq_of (xx _ _ ha)
    · obtain ⟨x, us, gs, y3, rfl, hx, xx, q1, q2, q3, q4, B⟩ := p
      rw [List.getElem?_map] at ev
      cases e : ws[i]? with
      | none =>
        rw [e] at ev
        cases ev
      | some w0 =>
        rw [e] at ev
        cases ev
        have w0in : w0 ∈ ws := List.mem_of_getElem? e
        have et : ws.take (i + 1) = ws.take i ++ [w0] := by
          rw [List.take_succ, e]
          rfl
        have usin : ∀ t ∈ us, t ∈ ws := fun t ht => List.mem_of_mem_take ((mem_least _ t).mp (q1.mem_iff.mp ht)).1
        have usl : us.length ≤ 30 := by
          have l1 : (leastU (ws.take i)).length ≤ (uniq (ws.take i)).length := List.length_filter_le _ _
          have l2 := uniq_len (ws.take i)
          rw [q1.length_eq]
          rw [List.length_take] at l2
          omega
        have fullw : ∀ t ∈ ws, Full t := fun t ht => full_of (few.full t ht)
        obtain ⟨dx, W, N, L, zz, O, b1, _⟩ := B.at_
        refine ⟨_, rfl, mk_bars (C := C) (ws := [w0]) (al := al) (ea_cons (ev_var rfl) (ea_cons (ev_var rfl) ea_nil)) hal hA (few.fit (fun t ht => by rw [List.mem_singleton.mp ht]; exact w0in) (by simp)) fun y vs2 gs2 H2 hy x2 r1 r2 r3 r4 B2 => ?_⟩
        have v2 : vs2 = [w0] := by
          rw [least_one] at r1
          exact List.perm_singleton.mp r1
        subst v2
        obtain ⟨dy, W2, N2, L2', zz2, O2, c1, _⟩ := B2.at_
        refine ⟨x, dx, _, y, dy, _, rfl, rfl, x2 _ _ b1, c1, x, y, al, us, [w0], gs, gs2, rfl, B.mono x2, B2, hal, hA, few.fit (fun t ht => ?_) ?_, fun z us' gs' H3 hz x3 s1 s2 s3 s4 B3 => ⟨z, us', gs', _, rfl, fresh_back (xx.trans x2) hz, (xx.trans x2).trans x3, ?_, s2, s3, s4, B3⟩⟩
        · rcases List.mem_append.mp ht with h | h
          · exact usin t h
          · rw [List.mem_singleton.mp h]
            exact w0in
        · rw [List.length_append, List.length_singleton]
          omega
        · refine s1.trans ((List.perm_ext_iff_of_nodup (nodup_least _) (nodup_least _)).mpr fun t => ?_)
          rw [et]
          exact least_more (ws.take i) us [w0] (fun t ht => by
            rcases List.mem_append.mp ht with h | h
            · exact fullw t (List.mem_of_mem_take h)
            · rw [List.mem_singleton.mp h]
              exact fullw _ w0in) (fun x => q1.mem_iff) t
    · obtain ⟨x, us, gs, y3, rfl, hx, xx, q1, q2, q3, q4, B⟩ := p
      rw [List.length_map, List.take_length] at q1
      exact s_ret (ev_var rfl) fun H2 x2 => k x us gs H2 hx (xx.trans x2) q1 q2 q3 q4 (B.mono x2)
end
end K02

set_option Elab.async false
set_option linter.all false
set_option maxRecDepth 100000
set_option maxHeartbeats 4000000
/-! A caught error that is known behind its try -/
namespace KU
open PySem PySem.Spec PyProof.Rows L2 Evl

/-- at a: what was caught, an instance of cls, its dict at d -/
def hxo (a : Addr) (cls : Value) (d : Option Addr) : HO := .ext fun h => ∃ (o : Obj) (vs : Array Value), h.get? a = some o ∧ o.cls = cls ∧ o.dict = d ∧ o.data = .fields vs
theorem hxo_ok {P : Program} {w : World} {H : Hp} {h : Heap} {a : Addr} {cls : Value} {d : Option Addr} {o : Obj} {vs : Array Value} (he : h.get? a = some o) (hc : o.cls = cls) (hd : o.dict = d) (hv : o.data = .fields vs) : ObjOk P w H h a (hxo a cls d) :=
  ⟨⟨o, vs, he, hc, hd, hv⟩, ⟨_, he⟩, fun h1 h2 z k => by
    obtain ⟨o, vs, q, r⟩ := z
    exact ⟨o, vs, k _ q, r⟩⟩
theorem hxo_at {P : Program} {w : World} {H : Hp} {h : Heap} {a : Addr} {cls : Value} {d : Option Addr} (hok : HOk P w H h) (he : H a = some (hxo a cls d)) : ∃ (o : Obj) (vs : Array Value), h.get? a = some o ∧ o.cls = cls ∧ o.dict = d ∧ o.data = .fields vs := by
  have x : ObjOk P w H h a (.ext fun h => ∃ (o : Obj) (vs : Array Value), h.get? a = some o ∧ o.cls = cls ∧ o.dict = d ∧ o.data = .fields vs) := hok a _ he
  exact x.1
theorem track {X : Cx} {pins : List (Addr × Obj)} {σ : L2.St} {H : Hp} {s : Shared} {a : Addr} {o : HO} (I : Inv X pins σ H s) (n0 : X.s_0.heap.get? a = none) (na : H a = none) (nL : a ≠ X.env.locals)
    (nC : ∀ x c, X.env.cells.lookup x = some c → c ≠ a) (np : ∀ p ∈ X.pn ++ pins, p.1 ≠ a) (new : ObjOk X.prog X.w (upd H a o) s.heap a o) : Inv X pins σ (upd H a o) s := by
  have n1 : ∀ b u, X.s_0.heap.get? b = some u → b ≠ a := fun b u e z => by
    rw [z, n0] at e
    cases e
  refine ⟨I.ok, I.os, I.bare, ⟨I.base.keep, I.base.slot, fun b u e n hx => ?_, I.base.there, fun b xs e => ?_, fun b u xs e => ?_, fun b ps e => ?_⟩, I.loc, I.cell, ?_, fun x c e => ?_, fun p hp => ?_, I.hok.laidN (fun _ _ e => e) na new, I.len⟩
  · rw [upd_ne (n1 b u e)]
    exact I.base.free b u e n hx
  · have z := I.base.tups b xs e
    rw [upd_ne (ne_of_none z na)]
    exact z
  · have z := I.base.frzs b u xs e
    rw [upd_ne (ne_of_none z na)]
    exact z
  · obtain ⟨m, z⟩ := I.base.tbls b ps e
    exact ⟨m, by rw [upd_ne (ne_of_none z na)]; exact z⟩
  · rw [upd_ne (Ne.symm nL)]
    exact I.free
  · rw [upd_ne (nC x c e)]
    exact I.freeC x c e
  · obtain ⟨h1, h2, h3⟩ := I.pin p hp
    exact ⟨h1, by rw [upd_ne (np p hp)]; exact h2, h3⟩

/-- an error that has come down over the frames of X: where it stands, and where it does not -/
structure Lone (X : Cx) (pins : List (Addr × Obj)) (sI : Shared) (a : Addr) : Prop where
  frames : a ∉ frs X.stack
  loc : a ≠ X.env.locals
  fs : a ∉ X.fs
  here : sI.heap.get? a = none
  entry : X.s_0.heap.get? a = none
  pins : ∀ p ∈ X.pn ++ pins, p.1 ≠ a
section
variable {X : Cx} {pins : List (Addr × Obj)} {σ : L2.St} {H : Hp} {sI s : Shared} {a : Addr} {B h : Heap} {Z : Obj → Prop}
theorem lone_of (hs : X.stack = X.env :: X.outer) (hf : X.env.frame = some X.env.locals) (hex : X.ex = []) (I : Inv X pins σ H sI) (ground : ∀ b o, sI.heap.get? b = some o → b ∉ frs X.stack → B.get? b = some o)
    (fl : HandSPX.FlyingZ B X.stack a Z h) : Lone X pins sI a := by
  obtain ⟨oe, vs, he, _, hv⟩ := fl.there
  obtain ⟨_, nB, ff, _⟩ := fl
  have out : a ∉ frs X.stack := fun m => by
    obtain ⟨_, o, e, k⟩ := ff.mem m
    cases he.symm.trans e
    exact k _ hv
  have none1 : sI.heap.get? a = none := Option.eq_none_iff_forall_ne_some.mpr fun o e => by
    cases nB.symm.trans (ground a o e out)
  refine ⟨out, fun z => out ?_, fun m => out ?_, none1, Option.eq_none_iff_forall_ne_some.mpr fun o e => ?_, fun p hp z => ?_⟩
  · rw [hs, z]
    exact List.mem_filterMap.mpr ⟨X.env, List.mem_cons_self, hf⟩
  · obtain ⟨en, h1, h2⟩ := List.mem_filterMap.mp m
    rw [hs]
    exact List.mem_filterMap.mpr ⟨en, List.mem_cons_of_mem _ h1, h2⟩
  · obtain ⟨u, q⟩ := I.base.there a o e (by rw [hex]; exact List.not_mem_nil)
    cases none1.symm.trans q
  · have q := (I.pin p hp).1
    rw [z, none1] at q
    cases q
/-- a suite's state, as one of the def with a pin more -/
theorem unpin {oe : Obj} (ok : X.Ok) (S : Inv (X.suite a ((a, oe) :: (X.pn ++ pins))) [] σ H s) : Inv X ((a, oe) :: pins) σ H s := by
  refine { ok := ok, os := S.os, bare := S.bare, base := S.base, loc := S.loc, cell := S.cell, free := S.free, freeC := S.freeC, hok := S.hok, len := S.len, pin := fun p hp => S.pin p (List.mem_append_left _ ?_) }
  rcases List.mem_append.mp hp with m | m
  · exact List.mem_cons_of_mem _ (List.mem_append_left _ m)
  · rcases List.mem_cons.mp m with rfl | m
    · exact List.mem_cons_self
    · exact List.mem_cons_of_mem _ (List.mem_append_right _ m)
theorem drop_pin {q : Addr × Obj} (I : Inv X (q :: pins) σ H s) : Inv X pins σ H s := by
  refine { ok := I.ok, os := I.os, bare := I.bare, base := I.base, loc := I.loc, cell := I.cell, free := I.free, freeC := I.freeC, hok := I.hok, len := I.len, pin := fun p hp => I.pin p ?_ }
  rcases List.mem_append.mp hp with m | m
  · exact List.mem_append_left _ m
  · exact List.mem_append_right _ (List.mem_cons_of_mem _ m)
/-- a pinned error is known from now on -/
theorem know_pin {oe : Obj} {vs : Array Value} {cls : Value} {d : Option Addr} (L : Lone X pins sI a) (hz : Zc cls d oe) (hv : oe.data = .fields vs) (I : Inv X ((a, oe) :: pins) σ H s) : H a = none ∧ Inv X pins σ (upd H a (hxo a cls d)) s := by
  obtain ⟨p1, p2, _, _, p5⟩ := I.pin (a, oe) (List.mem_append_right _ List.mem_cons_self)
  refine ⟨p2, track (drop_pin I) L.entry p2 L.loc (fun x c e z => ?_) L.pins (hxo_ok p1 hz.1 hz.2 hv)⟩
  obtain ⟨v, o, ho, hc⟩ := I.cell x c e
  rw [z] at ho
  cases (show s.heap.get? a = some oe from p1).symm.trans ho
  exact p5 v hc
end
/-- what the clause 'except x as n' (slot i) wishes of errors that it takes: behind it the error is known -/
def wAsK (K : PySem.W.Frag) (c : Value) (i : Nat) (ts : Addr → Value → Option Addr → TS) (D : Ends) : WX := fun cls d σ H => PySem.W.exmOne K cls c = some true ∧
  ∀ a, H a = none → ts a cls d { nx := fun τ G => G a = none → D.nx (τ.set i none) (upd G a (hxo a cls d)), rt := D.rt, bk := fun τ G => D.bk (τ.set i none) G, ct := fun τ G => D.ct (τ.set i none) G } (σ.set i (some (.ref a))) H
section
variable {X : Cx} {x n : Str} {c : Value} {i : Nat} {body suite : List Stmt} {b₀ : Stmt} {np pos pos' : Pos} {tb : WX → TS} {ts : Addr → Value → Option Addr → TS}
/-- the suite, entered on the ground; behind it the name goes -/
theorem suite_run {pins : List (Addr × Obj)} {σ : L2.St} {H : Hp} {sI s : Shared} {a : Addr} {oe : Obj} {vs : Array Value} {cls : Value} {d : Option Addr} {D : Ends} {E1 E2 : Value → Shared → Prop} (hN : X.N.Nodup) (hi : X.N[i]? = some n) (hln : X.env.kindOf n = some .local)
    (L : Lone X pins sI a) (hz : Zc cls d oe) (hv : oe.data = .fields vs) (he : s.heap.get? a = some oe) (na : H a = none) (I : Inv X pins σ H s) (S : PSs (X.suite a ((a, oe) :: (X.pn ++ pins))) (b₀ :: suite) (ts a cls d))
    (w : ts a cls d { nx := fun τ G => G a = none → D.nx (τ.set i none) (upd G a (hxo a cls d)), rt := D.rt, bk := fun τ G => D.bk (τ.set i none) G, ct := fun τ G => D.ct (τ.set i none) G } (σ.set i (some (.ref a))) H) :
    wpAny (model X.prog X.w) (X.A.mark (some (.ref a))) (storeName X.env n (.ref a)) (fun _ s1 => wpAny (model X.prog X.w) (X.A.mark (some (.ref a))) (execs (b₀ :: suite) X.env)
      (fun f s2 => wpAny (model X.prog X.w) X.A (do bindName X.env n .none; unbindBehindTheSuite X.env n pos') (fun _ s3 => SP X pins D f s3) X.xe s2) E1 s1) E2 s := by
  have T0 := I.suite he hv na L.loc L.fs
  refine store_ok (X := X.suite a ((a, oe) :: (X.pn ++ pins))) (v := .ref a) T0 hN hi (.inl hln) rfl (fun s1 T1 => ?_) (.inr hln)
  refine wpAny_mono (S.run [] s1 _ H _ T1 w) (fun f s2 r => ?_) fun _ _ z => False.elim z
  have goes : ∀ {τ : L2.St} {G : Hp} {R : Shared → Prop}, Inv (X.suite a ((a, oe) :: (X.pn ++ pins))) [] τ G s2 → (∀ s3, Inv X ((a, oe) :: pins) (τ.set i none) G s3 → R s3) →
      wpAny (model X.prog X.w) X.A (do bindName X.env n .none; unbindBehindTheSuite X.env n pos') (fun _ s3 => R s3) X.xe s2 := fun T2 k => gone_ok (unpin I.ok T2) hN hi hln k
  cases f with
  | next =>
    obtain ⟨τ, G, T2, q⟩ := r
    refine goes T2 fun s3 J => ?_
    obtain ⟨n1, J2⟩ := know_pin L hz hv J
    exact ⟨_, _, J2, q n1⟩
  | ret u =>
    obtain ⟨v, τ, G, T2, rv, q⟩ := r
    exact goes T2 fun s3 J => ⟨v, _, _, drop_pin J, rv, q⟩
  | brk =>
    obtain ⟨τ, G, T2, q⟩ := r
    exact goes T2 fun s3 J => ⟨_, _, drop_pin J, q⟩
  | cont =>
    obtain ⟨τ, G, T2, q⟩ := r
    exact goes T2 fun s3 J => ⟨_, _, drop_pin J, q⟩
/-- try: body / except x as n: suite, where the clause takes whatever comes -/
theorem ps_try_asK (hs : X.stack = X.env :: X.outer) (hf : X.env.frame = some X.env.locals) (hex : X.ex = []) (hN : X.N.Nodup) (hi : X.N[i]? = some n) (hln : X.env.kindOf n = some .local) (hc : Names X x c)
    (hb : ∀ (W : WX) (pn : List (Addr × Obj)) (xe : Value → Shared → Prop), Takes (X.tr pn xe) W → PSs (X.tr pn xe) body (tb W))
    (hsu : ∀ (a : Addr) (oe : Obj) (cls : Value) (d : Option Addr) (pn : List (Addr × Obj)), PSs (X.suite a ((a, oe) :: pn)) (b₀ :: suite) (ts a cls d)) :
    PS X (.Try body [.ExceptHandler (some (.Name x np)) (some n) (b₀ :: suite) pos'] [] [] pos) (fun D σ H => tb (wAsK X.K c i ts D) D σ H) := by
  refine ⟨fun pins s σ H D I h => wpAny_Try_except ?_⟩
  have frm : X.A.frames = some (X.env :: X.outer) := by rw [I.ok.frames, hs]
  refine wpAny_mono ((hb (wAsK X.K c i ts D) (X.pn ++ pins) _ fun u s1 air => ?_).run [] s σ H D (I.toTry fun e s1 => wpAny (model X.prog X.w) X.A (noteFrame e X.env) (fun _ s2 => wpAny (model X.prog X.w) X.A (setFlight e none) (fun _ s3 =>
      wpAny (model X.prog X.w) X.A (handleBy e X.env [.ExceptHandler (some (.Name x np)) (some n) (b₀ :: suite) pos']) (SP X pins D) X.xe s3) X.xe s2) X.xe s1) h) (fun f s1 r => ?_) fun _ _ z => z
  · obtain ⟨a, B, sI, pins', τ, G, cls, d, rfl, J0, ground, up, sky, na, os, bare, takes, run⟩ := air
    have J := J0.ofTry I.ok
    have sky : Sky B (X.env :: X.outer) a (Zc cls d) X.env.locals s1.heap := by
      rw [← hs]
      exact sky
    refine (?_ : wpAny (model X.prog X.w) X.A (noteFrame (.ref a) X.env) _ _ s1)
    refine Sky.land Zc.steady frm hf sky fun h2 fl2 up2 => ?_
    have L : Lone X pins sI a := lone_of (h := h2) hs hf hex J ground (by rw [hs]; exact fl2)
    have J2 : Inv X pins τ G { s1 with heap := h2 } := J.landed ground fl2.1 (up.trans up2) os bare
    obtain ⟨o2, v2, e2, z2, d2⟩ := fl2.there
    have S2 := J2.suite e2 d2 na L.loc L.fs
    refine wpAny_handleBy_cons (codeAny_handlers_test ?_) fun q => nomatch q
    have cl : PySem.W.Looks (model X.prog X.w) h2 (typeOf (.ref a)) cls := fun _ _ _ _ k q => wpAny_typeOf_ref (k _ _ e2) (by rw [z2.1]; exact q)
    have name : ∀ {R E : Value → Shared → Prop}, R c { s1 with heap := h2 } → wpAny (model X.prog X.w) (X.A.mark (some (.ref a))) (eval (.Name x np) X.env) R E { s1 with heap := h2 } := fun q => by
      obtain ⟨g1, g2, g3 | ⟨g3, g4, g5⟩⟩ := hc
      · exact ld_glob (X := X.suite a ((a, o2) :: (X.pn ++ pins))) S2 g1 g3 q g2
      · exact ld_blt (X := X.suite a ((a, o2) :: (X.pn ++ pins))) S2 g1 g3 g4 q g5 g2
    refine name ((PySem.W.exm_one (M := model X.prog X.w) J2.kIn cl takes).here ?_)
    refine codeAny_handlers_suite_as (HandSPX.lands_againZ fl2 fun h3 fl3 up3 => ?_)
    have J3 : Inv X pins τ G { s1 with heap := h3 } := J.landed ground fl3.1 ((up.trans up2).trans up3) os bare
    obtain ⟨o3, v3, e3, z3, d3⟩ := fl3.there
    exact suite_run hN hi hln L z3 d3 e3 na J3 (hsu a o3 cls d _) (run a na)
  · cases f with
    | next =>
      obtain ⟨τ, G, J, q⟩ := r
      exact wpAny_execs_nil ⟨τ, G, J.ofTry I.ok, q⟩
    | ret u =>
      obtain ⟨v, τ, G, J, rv, q⟩ := r
      exact ⟨v, τ, G, J.ofTry I.ok, rv, q⟩
    | brk =>
      obtain ⟨τ, G, J, q⟩ := r
      exact ⟨τ, G, J.ofTry I.ok, q⟩
    | cont =>
      obtain ⟨τ, G, J, q⟩ := r
      exact ⟨τ, G, J.ofTry I.ok, q⟩
end

/-! ### its class and its fields -/
/-- a caught error at a: of the class at C, its fields fs -/
def CauAt (H : Hp) (a C : Addr) (fs : List (Str × V)) : Prop := ∃ d, H a = some (hxo a (.ref C) (some d)) ∧ H d = some (.xd fs)
theorem CauAt.mono {H H' : Hp} {a C : Addr} {fs : List (Str × V)} (x : Evl.Ex H H') (h : CauAt H a C fs) : CauAt H' a C fs := by
  obtain ⟨d, h1, h2⟩ := h
  exact ⟨d, x _ _ h1, x _ _ h2⟩
section
variable {X : Cx} {pins : List (Addr × Obj)} {σ : L2.St} {H : Hp} {s : Shared} {e : Expr} {te : TE} {f : Str} {pos : Pos}
theorem cau_inst {a C : Addr} {fs : List (Str × V)} (I : Inv X pins σ H s) (h : CauAt H a C fs) : ∃ (o od : Obj) (d : Addr) (mA : Str → Option Value), PySem.W.InstAt s.heap a o C (some od) ∧ s.heap.Ns1 d mA ∧ s.heap.get? d = some od ∧
    (∀ f, RelO (fs.lookup f) (mA f)) ∧ ∀ f, PySem.W.lookIn f od = some (mA f) := by
  obtain ⟨d, h1, h2⟩ := h
  obtain ⟨o, vs, ho, hc, hd, hv⟩ := hxo_at I.hok h1
  have hx : ObjOk X.prog X.w H s.heap d (.xd fs) := I.hok d _ h2
  obtain ⟨mA, hns, rel⟩ := hx
  obtain ⟨od, hod, hlk⟩ := lookIn_ns hns
  exact ⟨o, od, d, mA, ⟨ho, hc, by unfold PySem.W.notCls; rw [hv] <;> rfl, by rw [hd]; exact hod⟩, hns, hod, rel, hlk⟩
/-- e.f of a caught error -/
def tCauF (K : PySem.W.Frag) (f : Str) (te : TE) : TE := fun σ H Q => te σ H fun x H1 => ∃ (a C : Addr) (fs : List (Str × V)) (v : V), x = .ref a ∧ ExcC K C ∧ PySem.W.findIn K (.ref C) f = some none ∧
  CauAt H1 a C fs ∧ fs.lookup f = some v ∧ Q v H1
theorem pe_cauF (he : PE X e te) (hb : attributeBase e f X.env (eval e X.env) = eval e X.env := by rfl) : PE X (.Attribute e f pos) (tCauF X.K f te) := by
  refine ⟨fun pins s σ H Q I h => ?_⟩
  refine attr_of hb (thn (he.run pins s σ H _ I h) fun u s1 ⟨x, H1, I1, rx, a, C, fs, v, ex, T, no, at_, lk, q⟩ => ?_)
  subst ex
  obtain rfl : u = Value.ref a := rx
  obtain ⟨o, od, d, mA, J, hns, hod, rel, hlk⟩ := cau_inst I1 at_
  obtain ⟨y, hy, ry⟩ := RelO.some_of (v := v) (o := mA f) (by rw [← lk]; exact rel f)
  exact HandSPX.exc_get I1.kIn J T.hg T.hk T.hs (PySem.W.findObj_own T.hd no rfl (by rw [hlk, hy])) (handed_of ry) ⟨v, H1, I1.tok _, ry, q⟩
/-- isinstance(e, c), e a caught error -/
def rIsCau (K : PySem.W.Frag) : List V → Hp → VK → Prop := fun xs H Q => ∃ (a C : Addr) (fs : List (Str × V)) (c : V) (u : Value) (b : Bool), xs = [.ref a, c] ∧ ClsV c u ∧ ExcC K C ∧ CauAt H a C fs ∧
  PySem.W.kitOne K (.ref C) u = some b ∧ Q (.bl b) H
theorem call_isCau : CallR X (.builtin "isinstance") (rIsCau X.K) := by
  intro pins s σ H xs us Q I r h
  obtain ⟨a, C, fs, c, w, b, rfl, k, T, at_, e, q⟩ := h
  obtain ⟨u1, u2, rfl, r1, r2⟩ := vals2 r
  obtain rfl : u1 = Value.ref a := r1
  have e2 := k.eq r2
  subst e2
  have hc : (PySem.W.clsIn X.K C).isSome = true := by
    have z := T.hd
    unfold PySem.W.hasDictIn at z
    cases q : PySem.W.clsIn X.K C with
    | none =>
      rw [q] at z
      cases z
    | some cd => rfl
  have fin : ∀ tk, EP X pins σ Q (.bool b) { s with toks := tk } := fun tk => ⟨.bl b, H, I.tok tk, rfl, q⟩
  obtain ⟨o, od, d, mA, J, hns, hod, rel, hlk⟩ := cau_inst I at_
  exact PySem.W.kia_one (PySem.W.kitx_exc hc T.hg T.hk T.hs T.ha T.hn T.ht T.hm) I.kIn J e (fun z => nomatch z) fin
end
section
variable {K : PySem.W.Frag} {σ : L2.St} {H : Hp} {ta : TE} {f : Str}
theorem ev_cauF {e C : Addr} {fs : List (Str × V)} {v : V} (T : ExcC K C) (no : PySem.W.findIn K (.ref C) f = some none) (at_ : CauAt H e C fs) (lk : fs.lookup f = some v) (h : Ev ta σ H (.ref e)) : Ev (tCauF K f ta) σ H v := fun H1 x Q q =>
  h H1 x _ fun H2 x2 => ⟨e, C, fs, v, rfl, T, no, at_.mono (x.trans x2), lk, q H2 x2⟩
theorem ev_isCau {e C : Addr} {fs : List (Str × V)} {c : V} {u : Value} {b : Bool} (T : ExcC K C) (k : ClsV c u) (at_ : CauAt H e C fs) (hb : PySem.W.kitOne K (.ref C) u = some b) (h : Ev ta σ H (.ref e)) : Ev (tCB (rIsCau K) (tCons ta (tCons (tC c) tNil))) σ H (.bl b) :=
  ev_cb (ea_cons h (ea_cons ev_c ea_nil)) fun H1 x _ q => ⟨e, C, fs, c, u, b, rfl, k, T, at_.mono x, hb, q H1 (Ex.refl H1)⟩
end
/-! ### an own error raised -/
section
variable {X : Cx} {x : Str} {C : Addr} {f : Str} {p pos pos2 : Pos} {e : Expr} {ta : TA} {W : WX}
/-- raise C(e), C with one field -/
def tRaise1 (K : PySem.W.Frag) (C : Addr) (f : Str) (W : WX) (ta : TA) : TS := fun _ σ H => tMkO C (spI1 K f) [] ta σ H fun cls d H' => W cls d σ H'
theorem ps_raise1 (hc : X.calm = true) (tk : Takes X W) (Z : Cl X.prog X.w X.K X.mg X.base x C [f] (spI1 X.K f)) (hr : Room 2 X.A) (ha : PA X [e] ta) (hg : Gl X x := by rfl) (hdb : (x == ("__debug__" : Str)) = false := by decide)
    (he : starEach [e] X.env = (false, eval e X.env) :: starEach [] X.env := by rfl) (hpl : (backTo pos (starEach [] X.env)).any (·.1) = false := by rfl) :
    PS X (.Raise (some (.Call (.Name x p) [e] [] pos)) none pos2) (tRaise1 X.K C f W ta) := by
  obtain ⟨fI, fd, i1, i2, G, b, _⟩ := Z.fn
  exact ps_raise (pos := pos2) hc tk (pmk_oex (CX := CX0) (dvs := []) (ds := []) (pos := pos) (p := p) Z.oex i1 i2 G hr b .nil pass0 hg Z.gC ha hdb he hpl)
theorem s_raise1 {K : PySem.W.Frag} {σ : L2.St} {H : Hp} {D : Ends} {v : V} (T : OexC K C) (no : PySem.W.findIn K (.ref C) f = some none) (h : EvA ta σ H [v])
    (k : ∀ d H2, Ex H H2 → H2 d = some (.xd [(f, v)]) → W (.ref C) (some d) σ H2) : tRaise1 K C f W ta D σ H := by
  unfold tRaise1 tMkO
  refine h H (Ex.refl _) _ fun H1 x1 => ⟨(by show 1 ≤ 1000; decide), fun a hn => ⟨a, C, v, rfl, T, no, upd_same, fun dx hd ne => ⟨rfl, dx, [(f, v)], upd_same, by rw [upd_ne ne]; exact upd_same, ?_, ?_⟩⟩⟩
  · rw [upd_ne ne] at hd
    exact hd
  · rw [upd_ne ne] at hd
    refine k dx _ (fun b o e => ?_) upd_same
    have e := x1 b o e
    have n1 : b ≠ dx := ne_of_none e hd
    have n2 : b ≠ a := ne_of_none e hn
    rw [upd_ne n1, del_ne n2, upd_ne n2, upd_ne n1, upd_ne n2]
    exact e
end
end KU

set_option Elab.async false
set_option linter.all false
set_option maxRecDepth 100000
set_option maxHeartbeats 4000000
/-! The end of a law's row whose defs make lambdas: the tables of their code objects may grow -/
namespace KU
open PySem PySem.Spec PyProof.Rows L2

/-- the empty table of a code object -/
abbrev noCode : Obj := { cls := .none, data := .fields #[] }
/-- what is tracked at the entry of the law: the tables cs, and the script where the written part does not hold it -/
def entryH (cs : List (Addr × Addr)) (script : Option (Addr × HO)) : Hp := fun b =>
  if b ∈ cs.map (·.2) then some (.tbl #[]) else match script with
    | some (a, o) => if b = a then some o else none
    | none => none
theorem call_lawT {P : Program} {w : World} {K : PySem.W.Frag} {mg mb : Str → Option Value} {k : Nat} {fa a : Addr} {fd : FuncData} {x : Str} {sp : Sp} {s1 : Shared} {vs : List Value} {ns : List Int} {cs : List (Addr × Addr)}
    (KX : K.In s1.heap) (hns : s1.heap.Ns mainGlobals mg) (hb : s1.heap.Ns builtinsNs mb) (hbb : ∀ x : Str, x ≠ "__name__" → mb x = bootBuiltins x) (hlim : s1.heap.NoLimit) (hg : s1.gens = #[])
    (tabs : ∀ p ∈ cs, s1.heap.get? p.2 = some noCode) (free : ∀ p ∈ cs, K.lookup p.2 = none) (codes : ∀ p ∈ cs, PySem.W.CodeHd s1.heap p.1 p.2)
    (hbm : ∃ (bm : Addr) (ob : Obj), mg "__builtins__" = some (.ref bm) ∧ bm ≠ builtinsNs ∧ s1.heap.get? bm = some ob ∧ ob.cls = .type "module" ∧ ob.dict = some builtinsNs ∧ ob.data = .plain)
    (ha : s1.heap.get? a = some { cls := .type "list", data := .seq vs.toArray }) (hi : IntsAre vs ns) (hl : ns.length ≤ sizeLine) (hr : Room k callerA)
    (F : ∀ base : Heap, K.In base → base.Ns mainGlobals mg → (∀ p ∈ cs, LamX.TabB base mg p.1 p.2) → FnG P w K mg base CX0 k fa fd [x] sp) (hbind : ∀ (s : Shared) (u : Value), BindsTo s fd ⟨[u], []⟩ [(x, u)])
    (hsp : ∀ H : Hp, (∀ p ∈ cs, H p.2 = some (.tbl #[])) → SqL K H a (ns.map V.int) → sp [.ref a] H (fun v _ => v = .bl true) fun _ _ _ => False) :
    codeAny (model P w) callerA (.call (.ref fa) ⟨[.ref a], []⟩)
      (fun r s' => r = .ok (.ret (.bool true)) ∧ OldK s1.heap s'.heap ∧ s'.os = s1.os ∧ AllBare s'.gens) s1 := by
  have rv := vals_ints hi
  have lenV := hi.length
  have atT : ∀ {b : Addr}, b ∈ cs.map (·.2) → ∃ p ∈ cs, p.2 = b := fun h => List.mem_map.mp h
  have tabOf : ∀ {b : Addr}, b ∈ cs.map (·.2) → s1.heap.get? b = some noCode := fun h => by
    obtain ⟨p, hp, rfl⟩ := atT h
    exact tabs p hp
  have notT : ∀ {b : Addr} {o : Obj}, s1.heap.get? b = some o → o.data ≠ .fields #[] → b ∉ cs.map (·.2) := fun e n h => by
    cases e.symm.trans (tabOf h)
    exact n rfl
  have aNot : a ∉ cs.map (·.2) := notT ha fun z => by cases z
  -- the run, from an H that tracks just these
  have main : ∀ H : Hp, (∀ b ∈ cs.map (·.2), H b = some (.tbl #[])) → (∀ b u, H b = some u → b ∉ cs.map (·.2) → b = a ∧ ∃ ob xs, u = .frz ob (.lst xs)) → SqL K H a (ns.map V.int) → HOk P w H s1.heap → (H a ≠ none → K.lookup a = none) →
      codeAny (model P w) callerA (.call (.ref fa) ⟨[.ref a], []⟩)
        (fun r s' => r = .ok (.ret (.bool true)) ∧ OldK s1.heap s'.heap ∧ s'.os = s1.os ∧ AllBare s'.gens) s1 := by
    intro H isT just seq ok hK
    have untracked : ∀ {b o}, s1.heap.get? b = some o → o.data ≠ .fields #[] → b ≠ a → H b = none := fun {b o} e n nb => by
      cases q : H b with
      | none => rfl
      | some u => exact absurd (just b u q (notT e n)).1 nb
    have noD : ∀ b o es ep, s1.heap.get? b = some o → o.data = .dict es ep → H b = none := fun b o es ep e d => untracked e (fun z => by rw [d] at z; cases z) fun z => by
      rw [z, ha] at e
      cases e
      cases d
    have kin : K.In (hidT s1.heap H) := fun b o e => hidT_get (KX b o e) (by
      by_cases hT : b ∈ cs.map (·.2)
      · obtain ⟨p, hp, rfl⟩ := atT hT
        rw [free p hp] at e
        cases e
      · cases q : H b with
        | none => rfl
        | some u =>
          have eb := (just b u q hT).1
          subst eb
          rw [hK (by rw [q]; simp)] at e
          cases e)
    have md : Mod K mg (hidT s1.heap H) := ⟨kin, hid_ns (noD _) hns, ⟨mb, hid_ns (noD _) hb, hbb⟩, by
      obtain ⟨mc, h1, h2⟩ := hlim
      exact ⟨mc, hid_ns (noD _) h1, h2⟩⟩
    have TB : ∀ p ∈ cs, LamX.TabB (hidT s1.heap H) mg p.1 p.2 := fun p hp => by
      have tp := tabs p hp
      refine ⟨?_, ?_, fun z => ?_⟩
      · obtain ⟨o, us, file, tf, flags, tg, inF, text, tt, e1, c1, d1, at11, rest⟩ := codes p hp
        refine ⟨o, us, file, tf, flags, tg, inF, text, tt, hidT_get e1 (untracked e1 (fun z => ?_) fun z => ?_), c1, d1, at11, rest⟩
        · rw [d1] at z
          cases z
          cases at11
        · rw [z, ha] at e1
          cases e1
          cases d1
      · obtain ⟨bm, ob, b1, b2, b3, b4, b5, b6⟩ := hbm
        refine ⟨bm, ob, b1, b2, fun q => ?_, fun q => ?_, hidT_get b3 (untracked b3 (fun z => by rw [b6] at z; cases z) fun z => ?_), b4, b5, b6⟩
        · obtain ⟨o, es, ep, e, d, _⟩ := hns
          rw [q, e] at b3
          cases b3
          cases d.symm.trans b6
        · rw [q, tp] at b3
          cases b3
          cases b6
        · rw [z, ha] at b3
          cases b3
          cases b6
      · obtain ⟨o, es, ep, e, d, _⟩ := hns
        rw [z, tp] at e
        cases e
        cases d
    have e0 : Env0 P w K mg (hidT s1.heap H) callerA [] s1 H :=
      ⟨rfl, md, fun b o e => of_hidT e, Nat.le_of_eq (hidT_size _ _), trivial, fun b hb => absurd hb List.not_mem_nil, ok, .of_eq hg⟩
    have run := (F _ kin (hid_ns (noD _) hns) TB).goes callerA [] s1 H ⟨[.ref a], []⟩ [.ref a] [.ref a] _ _ rfl hr e0 (hbind s1 (.ref a)) (.cons rfl .nil) (hsp H (fun p hp => isT _ (List.mem_map.mpr ⟨p, hp, rfl⟩)) seq)
    refine codeAny_mono run fun r s' h => ?_
    cases r with
    | error e => exact h.elim
    | ok fl =>
      cases fl with
      | next => exact h.elim
      | brk => exact h.elim
      | cont => exact h.elim
      | ret u =>
        obtain ⟨v, H', os, bare, un, ok', r', q⟩ := h
        have q' : v = .bl true := q
        subst q'
        obtain rfl : u = Value.bool true := r'
        have stays : ∀ b o, b ∉ cs.map (·.2) → s1.heap.get? b = some o → s'.heap.get? b = some o := fun b o nb e => by
          cases q : H b with
          | none => exact un.keep b o e q List.not_mem_nil List.not_mem_nil
          | some u =>
            obtain ⟨_, ob, xs, rfl⟩ := just b u q nb
            obtain ⟨e1, _⟩ := ok b _ q
            obtain ⟨e2, _⟩ := ok' b _ (un.frzs b ob _ q)
            cases e.symm.trans e1
            exact e2
        have grew : ∀ p ∈ cs, ∃ more : Array Value, s'.heap.get? p.2 = some { cls := .none, data := .fields more } := fun p hp => by
          obtain ⟨more, z⟩ := un.tbls p.2 #[] (isT _ (List.mem_map.mpr ⟨p, hp, rfl⟩))
          exact ⟨_, ok' p.2 _ z⟩
        refine ⟨rfl, ⟨fun b o e => ?_, fun b o e => ?_⟩, os, bare⟩
        · by_cases hT : b ∈ cs.map (·.2)
          · obtain ⟨p, hp, rfl⟩ := atT hT
            obtain ⟨more, hm⟩ := grew p hp
            cases e.symm.trans (tabs p hp)
            exact .inr (.inl ⟨((codes p hp).tab (tabs p hp)).isCodeTable, rfl, #[], more, rfl, by rw [Array.empty_append]; exact hm⟩)
          · exact .inl (stays b o hT e)
        · by_cases hT : b ∈ cs.map (·.2)
          · obtain ⟨p, hp, rfl⟩ := atT hT
            obtain ⟨more, hm⟩ := grew p hp
            exact ⟨_, hm⟩
          · exact ⟨o, stays b o hT e⟩
  have inT : ∀ {sc : Option (Addr × HO)} {b : Addr}, b ∈ cs.map (·.2) → entryH cs sc b = some (.tbl #[]) := fun h => if_pos h
  have okT : ∀ {H : Hp} {b : Addr} {u : HO}, b ∈ cs.map (·.2) → some (HO.tbl #[]) = some u → ObjOk P w H s1.heap b u := fun h z => by
    cases z
    exact tabOf h
  cases hk : K.lookup a with
  | some o =>
    have e := KX a o hk
    rw [ha] at e
    cases e
    have off : ∀ {b : Addr}, b ∉ cs.map (·.2) → entryH cs none b = none := fun h => if_neg h
    refine main (entryH cs none) (fun b h => inT h) (fun b u z h => ?_) (.inr ⟨_, vs.toArray, _, hk, rfl, rfl, rfl, ?_, ?_⟩) (fun b u z => ?_) fun z => absurd (off aNot) z
    · rw [off h] at z
      cases z
    · rw [List.size_toArray, lenV]
      exact hl
    · simpa using rv
    · by_cases hT : b ∈ cs.map (·.2)
      · rw [inT hT] at z
        exact okT hT z
      · rw [off hT] at z
        cases z
  | none =>
    let sc : Option (Addr × HO) := some (a, .frz { cls := .type "list", data := .seq vs.toArray } (.lst (ns.map V.int)))
    have atA : entryH cs sc a = some (.frz { cls := .type "list", data := .seq vs.toArray } (.lst (ns.map V.int))) := (if_neg aNot).trans (if_pos rfl)
    have off : ∀ {b : Addr}, b ∉ cs.map (·.2) → b ≠ a → entryH cs sc b = none := fun h n => (if_neg h).trans (if_neg n)
    refine main (entryH cs sc) (fun b h => inT h) (fun b u z h => ?_) (.inl (.inr ⟨_, atA⟩)) (fun b u z => ?_) fun _ => hk
    · by_cases hb : b = a
      · subst hb
        rw [atA] at z
        cases z
        exact ⟨rfl, _, _, rfl⟩
      · rw [off h hb] at z
        cases z
    · by_cases hT : b ∈ cs.map (·.2)
      · rw [inT hT] at z
        exact okT hT z
      · by_cases hb : b = a
        · subst hb
          rw [atA] at z
          cases z
          refine ⟨ha, ?_, vs, _, rv, ha⟩
          rw [List.length_map]
          exact hl
        · rw [off hT hb] at z
          cases z

/-- the goal that the head leaves, from the law's promise; xs: the defs of the text that make lambdas -/
theorem end_ofT {l : PySem.W.OpenLaw} {n k : Nat} {q : Program} {loose : List Str} {XP : (Str → Option Value) → Heap → Prop} {YP : World → Heap → Prop} {d : DefRec} {K : Params → PySem.W.Frag} {sp : PySem.W.Frag → List (Addr × Addr) → Sp} {x : Str} (xs : List Str)
    (hn : l.most = some n) (hn2 : n ≤ sizeLine) (hdf : d.params.defaults = []) (hr : Room k callerA) (hY : ∀ (w : World) (h : Heap), YP w h → (K w.params).In h)
    (hx : (xs.all fun y => ((recsOf q).find? fun e => e.name == y).isSome) = true)
    (F : ∀ (w : World) (mg : Str → Option Value) (fa : Addr) (h : Heap), (K w.params).In h → h.Ns mainGlobals mg → mg d.name = some (.ref fa) →
      ∃ (fd : FuncData) (cs : List (Addr × Addr)), (xs.map fun y => PySem.W.tabIn (K w.params) y) = cs.map some ∧ (∀ p ∈ cs, (K w.params).lookup p.2 = none) ∧ (∀ (s : Shared) (u : Value), BindsTo s fd ⟨[u], []⟩ [(x, u)]) ∧
        ∀ base : Heap, (K w.params).In base → base.Ns mainGlobals mg → (∀ p ∈ cs, LamX.TabB base mg p.1 p.2) → FnG l.prog w (K w.params) mg base CX0 k fa fd [x] (sp (K w.params) cs))
    (hsp : ∀ (K : PySem.W.Frag) (cs : List (Addr × Addr)) (H : Hp) (a : Addr) (ns : List Int), ns.length ≤ n → (∀ p ∈ cs, H p.2 = some (.tbl #[])) → SqL K H a (ns.map V.int) → sp K cs [.ref a] H (fun v _ => v = .bl true) fun _ _ _ => False) :
    PySem.W.WalkO q loose XP YP l.row.toRowW d [] (fun f vs => PySem.call f vs) := by
  refine Att.attach_call hn hdf fun w s₀ s₁ mg mb fa o pm cd doc a vs ns G Y ho hd hcd hmg hobj hints hlen hg => ?_
  have kin := hY w _ Y
  obtain ⟨fd, cs, hcs, free, hb, hF⟩ := F w mg fa _ kin G.T.g hmg
  have both : ∀ p ∈ cs, PySem.W.CodeHd s₁.heap p.1 p.2 ∧ s₁.heap.get? p.2 = some noCode := fun p hp => by
    have m : some p ∈ xs.map fun y => PySem.W.tabIn (K w.params) y := by
      rw [hcs]
      exact List.mem_map.mpr ⟨p, hp, rfl⟩
    obtain ⟨y, hy, e⟩ := List.mem_map.mp m
    obtain ⟨dr, hdr⟩ := Option.isSome_iff_exists.mp (List.all_eq_true.mp hx y hy)
    exact PySem.W.tab_of G.T kin hdr e
  exact call_lawT kin G.T.g G.T.b G.T.builtins G.T.nolimit hg (fun p hp => (both p hp).2) free (fun p hp => (both p hp).1) G.T.bmain hobj hints (Nat.le_trans hlen hn2) hr hF hb fun H hO hS => hsp _ cs H a ns hlen hO hS
end KU

set_option Elab.async false
set_option linter.all false
set_option maxRecDepth 100000
set_option maxHeartbeats 4000000
/-! Displays of things with properties -/
namespace KU
open PySem PySem.Spec PyProof.Rows L2 Evl
def EvQ (te : TE) (σ : L2.St) (H : Hp) (P : V → Hp → Prop) : Prop := EvP te σ H P ∧ Up P
def EvQA (ta : TA) (σ : L2.St) (H : Hp) (Ps : List (V → Hp → Prop)) : Prop := EvPA ta σ H (Each Ps) ∧ ∀ P ∈ Ps, Up P
def Is (u : V) : V → Hp → Prop := fun v _ => v = u
/-- a list of just these values, above the startup's objects -/
def LstIs (vals : List V) : V → Hp → Prop := fun v H => ∃ l, v = .ref l ∧ l ≠ sysModules ∧ H l = some (.lst vals)
theorem up_lstIs (vals : List V) : Up (LstIs vals) := fun v H H' e ⟨l, h1, h2, h3⟩ => ⟨l, h1, h2, e _ _ h3⟩
section
variable {K : PySem.W.Frag} {σ : L2.St} {H : Hp} {ta te tb : TE} {tr : TA} {P : V → Hp → Prop} {Ps Qs : List (V → Hp → Prop)} {v y z : V} {C : Addr} {f g : Str}
theorem eq_nil : EvQA tNil σ H [] := ⟨ep_nil, fun P h => by cases h⟩
theorem eq_cons (h : EvQ te σ H P) (hr : EvQA tr σ H Ps) : EvQA (tCons te tr) σ H (P :: Ps) := ⟨ep_cons h.2 h.1 hr.1, fun Q hQ => by
  rcases List.mem_cons.mp hQ with e | e
  · rw [e]
    exact h.2
  · exact hr.2 Q e⟩
theorem eq_lst (h : EvQA tr σ H Ps) (small : Ps.length ≤ 1000) : EvQ (tLst tr) σ H (IsL Ps) := ⟨ep_lst h.2 h.1 (by omega), up_isL h.2⟩
theorem eq_tup (h : EvQA tr σ H Ps) (small : Ps.length ≤ 1000) : EvQ (tTup tr) σ H (IsT Ps) := ⟨ep_tup h.2 h.1 (by omega), up_isT h.2⟩
theorem eq_var {i : Nat} (h : σ[i]? = some (some v)) (u : Up P) (p : P v H) : EvQ (tVar i) σ H P := ⟨ep_var u h p, u⟩
theorem eq_of (h : Ev te σ H v) : EvQ te σ H (Is v) := ⟨EvP.of h, up_eq v⟩
theorem eq_cat (u1 : ∀ P ∈ Ps, Up P) (u2 : ∀ P ∈ Qs, Up P) (h1 : EvQ ta σ H (IsL Ps)) (h2 : EvQ tb σ H (IsL Qs)) (small : Ps.length + Qs.length ≤ 1000) : EvQ (tOp rCat ta tb) σ H (IsL (Ps ++ Qs)) := ⟨ep_cat u1 u2 h1.1 h2.1 (by omega), up_isL fun P hP => by
  rcases List.mem_append.mp hP with z | z
  · exact u1 P z
  · exact u2 P z⟩
/-- a list at a name and a display joined -/
theorem eq_more {i : Nat} (u1 : ∀ P ∈ Ps, Up P) (h : σ[i]? = some (some v)) (p : IsL Ps v H) (h2 : EvQA tr σ H Qs) (small : Ps.length + Qs.length ≤ 1000) : EvQ (tOp rCat (tVar i) (tLst tr)) σ H (IsL (Ps ++ Qs)) :=
  eq_cat u1 h2.2 (eq_var h (up_isL u1) p) (eq_lst h2 (by omega)) small
theorem ups_app (u1 : ∀ P ∈ Ps, Up P) (u2 : ∀ P ∈ Qs, Up P) : ∀ P ∈ Ps ++ Qs, Up P := fun P hP => by
  rcases List.mem_append.mp hP with z | z
  · exact u1 P z
  · exact u2 P z
theorem eq_lstB {vs : List V} (h : EvA tr σ H vs) (small : vs.length ≤ 1000) : EvQ (tLstB tr) σ H (LstIs vs) := ⟨fun H1 e Q q =>
  h H1 e _ fun H2 e2 => ⟨sz_of (by omega), fun p hp hb => q _ _ (e2.trans (Ex.new hp)) ⟨p, rfl, hb, upd_same⟩⟩, up_lstIs vs⟩
theorem eq_err1 (T : OexC K C) (no : ∀ x ∈ ([f] : List Str), PySem.W.findIn K (.ref C) x = some none) (h : Ev ta σ H y) : EvQ (tErr C (spI1 K f) (tCons ta tNil)) σ H (IsE C [(f, y)]) := ⟨ep_err1 T (no f (List.mem_cons_self ..)) h, up_isE _ _⟩
theorem eq_err2 (T : OexC K C) (no : ∀ x ∈ ([f, g] : List Str), PySem.W.findIn K (.ref C) x = some none) (h : Ev ta σ H y) (h2 : Ev tb σ H z) : EvQ (tErr C (spI2 K f g) (tCons ta (tCons tb tNil))) σ H (IsE C [(g, z), (f, y)]) :=
  ⟨ep_err2 T (no f (List.mem_cons_self ..)) (no g (List.mem_cons_of_mem _ (List.mem_cons_self ..))) h h2, up_isE _ _⟩
theorem eq_errK1 (T : OexC K C) (no : ∀ x ∈ ([f] : List Str), PySem.W.findIn K (.ref C) x = some none) (h : Ev ta σ H y) : EvQ (tErrK C 1 (spI1 K f) List.reverse (tCons ta tNil)) σ H (IsE C [(f, y)]) := ⟨ep_errK1 T (no f (List.mem_cons_self ..)) h, up_isE _ _⟩
theorem eq_errK2 (T : OexC K C) (no : ∀ x ∈ ([f, g] : List Str), PySem.W.findIn K (.ref C) x = some none) (h2 : Ev tb σ H z) (h : Ev ta σ H y) : EvQ (tErrK C 2 (spI2 K f g) List.reverse (tCons tb (tCons ta tNil))) σ H (IsE C [(g, z), (f, y)]) :=
  ⟨ep_errK2 T (no f (List.mem_cons_self ..)) (no g (List.mem_cons_of_mem _ (List.mem_cons_self ..))) h2 h, up_isE _ _⟩
theorem eq_bare {vs : List V} (h : EvA tr σ H vs) (small : vs.length ≤ 1000) : EvQ (tBare C tr) σ H (IsE C []) := ⟨ep_bare h small, up_isE _ _⟩
theorem q_asgQ {D : Ends} {tz : TS} {i : Nat} (h : EvQ te σ H P) (k : ∀ v H1, Ex H H1 → P v H1 → tz D (σ.set i (some v)) H1) : tSeq (tAsg te (gName i)) tz D σ H := q_asgP h.1 k
theorem s_retQ {D : Ends} (h : EvQ te σ H P) (k : ∀ v H1, Ex H H1 → P v H1 → D.rt v H1) : tRet te D σ H := s_retP h.1 k
end
/-- a list at an address joined with a new one -/
theorem el_cat {σ : L2.St} {H : Hp} {ta tb : TE} {p : Addr} {xs ys : List V} (h1 : Ev ta σ H (.ref p)) (hp : H p = some (.lst xs)) (h2 : EvL tb σ H ys) (small : xs.length + ys.length ≤ 1000) : EvL (tOp rCat ta tb) σ H (xs ++ ys) := fun H1 e Q q =>
  h1 H1 e _ fun H2 e2 => h2 H2 (e.trans e2) _ fun m H3 _ e3 hm => ⟨p, m, xs, ys, rfl, rfl, ((e.trans e2).trans e3) _ _ hp, hm, sz_of (by omega), fun l hl => q l _ (fresh_back (e2.trans e3) hl) ((e2.trans e3).trans (Ex.new hl)) upd_same⟩
end KU

set_option Elab.async false
set_option linter.all false
set_option maxRecDepth 100000
set_option maxHeartbeats 4000000
/-! The laws' draws: the mathematics and the heap that all of them share -/
namespace KU
open PySem PySem.Spec PyProof.Rows L2 Evl

def vints (ns : List Int) : List V := ns.map V.int
def dints (ns : List Int) : List PyData := ns.map PyData.int
theorem dp_ints {K : PySem.W.Frag} {H : Hp} : ∀ ns : List Int, DpAll K H (vints ns) (dints ns)
  | [] => .nil
  | n :: r => .cons (.int n) (dp_ints r)
theorem shaped_ints : ∀ ns : List Int, SeqAt.shaped (.list (dints ns)) = true := by
  intro ns
  have a : ∀ l : List Int, PyData.canLayAll0 (dints l) = true := by
    intro l
    induction l with
    | nil => rfl
    | cons n r ih => simpa [dints, PyData.canLayAll0, PyData.canLay0] using ih
  have b : ∀ l : List Int, PyData.depthAll (dints l) ≤ 1 := by
    intro l
    induction l with
    | nil => simp [dints, PyData.depthAll]
    | cons n r ih =>
      have z : PyData.depthAll (dints (n :: r)) = max (PyData.depth (.int n)) (PyData.depthAll (dints r)) := by simp [dints, PyData.depthAll]
      rw [z]
      have y : PyData.depth (.int n) ≤ 1 := by simp [PyData.depth]
      omega
  unfold SeqAt.shaped
  have c := b ns
  have d : PyData.depth (.list (dints ns)) ≤ 64 := by
    simp only [PyData.depth]
    omega
  simp only [PyData.canLay0, a ns, Bool.true_and, decide_eq_true d]
theorem eqv_empty (ns : List Int) : PyData.eqv (.list (dints ns)) (.list []) = decide (ns = []) := by
  cases ns with
  | nil => rfl
  | cons n r => simp [dints, PyData.eqv, PyData.eqvAll]

/-- nothing but what stands at P has changed -/
def But (P : Addr) (H H' : Hp) : Prop := ∀ b o, b ≠ P → H b = some o → H' b = some o
theorem But.refl (P : Addr) (H : Hp) : But P H H := fun _ _ _ h => h
theorem But.trans {P : Addr} {H H1 H2 : Hp} (a : But P H H1) (b : But P H1 H2) : But P H H2 := fun x o n h => b x o n (a x o n h)
theorem But.of_ex {P : Addr} {H H' : Hp} (e : Ex H H') : But P H H' := fun b o _ h => e b o h
theorem But.put {P : Addr} {H H' : Hp} {o : HO} (e : But P H H') : But P H (upd H' P o) := fun b u n h => by
  rw [upd_ne n]
  exact e b u n h
theorem But.ex {P : Addr} {H0 H H' : Hp} (e : Ex H0 H) (n : H0 P = none) (b : But P H H') : Ex H0 H' := fun a o h => b a o (fun z => by rw [z, n] at h; cases h) (e a o h)

/-- the draws' state at P: the cells at L, the next place s, what is left of a great cell -/
structure Pen (H : Hp) (P L : Addr) (ns : List Int) (s : Nat) (g : Int) : Prop where
  pen : H P = some (.lst [.ref L, .int s, .int g])
  cells : H L = some (.lst (vints ns))
  ne : L ≠ P
  few : ns.length ≤ 63
  left : 0 ≤ g
theorem Pen.mono {H H' : Hp} {P L : Addr} {ns : List Int} {s : Nat} {g : Int} (x : Ex H H') (p : Pen H P L ns s g) : Pen H' P L ns s g := ⟨x _ _ p.pen, x _ _ p.cells, p.ne, p.few, p.left⟩
/-- a number below m is drawn -/
def spDraw : Sp := fun vs H Q _ => ∃ (P L : Addr) (ns : List Int) (s : Nat) (g m : Int), vs = [.ref P, .int m] ∧ 0 < m ∧ m < 1000000000 ∧ Pen H P L ns s g ∧ s ≤ 100000 ∧
  ∀ (d : Nat) (s' : Nat) (g' : Int) (H' : Hp), (d : Int) < m → s' ≤ s + 1 → But P H H' → Pen H' P L ns s' g' → Q (.int d) H'
/-- one of some things (a list at l) is drawn -/
def spPick : Sp := fun vs H Q _ => ∃ (P L l : Addr) (ns : List Int) (xs : List V) (s : Nat) (g : Int), vs = [.ref P, .ref l] ∧ xs ≠ [] ∧ xs.length ≤ 1000 ∧ H l = some (.lst xs) ∧ l ≠ P ∧ Pen H P L ns s g ∧ s ≤ 100000 ∧
  ∀ (v : V) (s' : Nat) (g' : Int) (H' : Hp), v ∈ xs → s' ≤ s + 1 → But P H H' → Pen H' P L ns s' g' → Q v H'
/-- the state is made of the script -/
def spPen (K : PySem.W.Frag) : Sp := fun vs H Q _ => ∃ (a : Addr) (ns : List Int), vs = [.ref a] ∧ SqL K H a (vints ns) ∧ ns.length ≤ 63 ∧
  ∀ (P L : Addr) (ms : List Int) (H' : Hp), H P = none → Ex H H' → Pen H' P L ms 0 0 → Q (.ref P) H'

/-! ### readings of the built-ins that the draws ask -/
section
variable {K : PySem.W.Frag} {H : Hp}
def rInt1 : List V → Hp → VK → Prop := fun xs H Q => (∃ i, xs = [.int i] ∧ Q (.int i) H) ∨ ∃ k, xs = [.bl k] ∧ Q (.int (if k then 1 else 0)) H
def rAbs : List V → Hp → VK → Prop := fun xs H Q => ∃ i, xs = [.int i] ∧ Q (.int (if i < 0 then -i else i)) H
theorem rc_int (i : Int) : RC rInt1 [.int i] H (.int i) := fun H1 _ _ q => .inl ⟨i, rfl, q H1 (Ex.refl H1)⟩
theorem rc_bool (k : Bool) : RC rInt1 [.bl k] H (.int (if k then 1 else 0)) := fun H1 _ _ q => .inr ⟨k, rfl, q H1 (Ex.refl H1)⟩
theorem rc_abs (i : Int) : RC rAbs [.int i] H (.int (if i < 0 then -i else i)) := fun H1 _ _ q => ⟨i, rfl, q H1 (Ex.refl H1)⟩
theorem rv_neD {x y : V} {d e : PyData} (hd : ∀ H1, Ex H H1 → Dp K H1 x d) (he : ∀ H1, Ex H H1 → Dp K H1 y e) (sd : SeqAt.shaped d = true) (se : SeqAt.shaped e = true) : RV (rNeD K) x y H (.bl (!PyData.eqv d e)) :=
  fun H1 x1 _ q => ⟨d, e, hd H1 x1, he H1 x1, sd, se, q H1 (Ex.refl H1)⟩
end
/-! ### bounds -/
theorem bound_mix {m s : Int} (h0 : 0 ≤ m) (h1 : m < 2147483648) (h2 : 0 ≤ s) (h3 : s ≤ 100000) {a b c d : Int} (ha : 0 ≤ a) (ha' : a ≤ 10) (hb : 0 ≤ b) (hb' : b ≤ 1000000) (hc : 0 ≤ c) (hc' : c ≤ 10000000) (hd : 0 ≤ d) (hd' : d ≤ 1000000000) :
    0 ≤ m * (a * s + b) + c * s * s + d ∧ m * (a * s + b) + c * s * s + d < 18446744073709551616 := by
  have e1 : a * s ≤ 10 * 100000 := Int.mul_le_mul ha' h3 h2 (by omega)
  have e2 : 0 ≤ a * s := Int.mul_nonneg ha h2
  have e3 : m * (a * s + b) ≤ 2147483648 * 2000000 := Int.mul_le_mul (by omega) (by omega) (by omega) (by omega)
  have e4 : 0 ≤ m * (a * s + b) := Int.mul_nonneg h0 (by omega)
  have e5 : c * s ≤ 10000000 * 100000 := Int.mul_le_mul hc' h3 h2 (by omega)
  have e6 : 0 ≤ c * s := Int.mul_nonneg hc h2
  have e7 : c * s * s ≤ 1000000000000 * 100000 := Int.mul_le_mul (by omega) h3 h2 (by omega)
  have e8 : 0 ≤ c * s * s := Int.mul_nonneg e6 h2
  omega
end KU

set_option Elab.async false
set_option linter.all false
set_option maxRecDepth 100000
set_option maxHeartbeats 4000000
/-! Data and their reprs, tests whose answer is no -/
namespace KU
open PySem PySem.Spec PyProof.Rows L2 Evl
mutual
theorem RD.mono {K : PySem.W.Frag} {H H' : Hp} (x : Ex H H') : ∀ {v : V} {d : PyData}, RD K H v d → RD K H' v d
  | _, _, .non => .non
  | _, _, .bl b => .bl b
  | _, _, .int i => .int i
  | _, _, .str s => .str s
  | _, _, .tup h r => .tup (ex_t x h) (RDs.mono x r)
  | _, _, .lst h n r => .lst (ex_l x h) n (RDs.mono x r)
  | _, _, .dic h => .dic (x _ _ h)
theorem RDs.mono {K : PySem.W.Frag} {H H' : Hp} (x : Ex H H') : ∀ {vs : List V} {ds : List PyData}, RDs K H vs ds → RDs K H' vs ds
  | _, _, .nil => .nil
  | _, _, .cons h r => .cons (RD.mono x h) (RDs.mono x r)
end
/-- small enough for repr -/
def shows (d : PyData) : Bool := d.showable && decide (d.depth ≤ 60) && decide (d.shown.length ≤ 100000)
section
variable {K : PySem.W.Frag} {σ : L2.St} {H : Hp} {te ta tb : TE} {P : V → Hp → Prop}
theorem ev_repr {vals : List V} {ds : List PyData} (h : EvP te σ H (LstIs vals)) (r : RDs K H vals ds) (ok : shows (.list ds) = true) : Ev (tCB (rRepr K) (tCons te tNil)) σ H (.str (PyData.list ds).shown) := fun H1 e Q q =>
  h H1 e _ fun v H2 e2 p => by
    obtain ⟨l, rfl, hb, hl⟩ := p
    unfold shows at ok
    simp only [Bool.and_eq_true, decide_eq_true_eq] at ok
    exact ⟨l, .list ds, rfl, .lst (.inl (.inl hl)) hb (r.mono (e.trans e2)), ok.1.1, ok.1.2, ok.2, q H2 e2⟩
theorem et_neS {t : Str} (a : Ev ta σ H (.str t)) (b : Ev tb σ H (.str t)) : EvT (tTest (tOp rNe ta tb)) σ H false := by
  have z := et_test (ev_op a b (rv_ne rfl))
  rw [decide_eq_true rfl] at z
  exact z
theorem et_neL {xs : List Int} (a : EvL ta σ H (vints xs)) (b : EvL tb σ H (vints xs)) (same : PyData.eqv (.list (dints xs)) (.list (dints xs)) = true) : EvT (tTest (tOp (rNeD K) ta tb)) σ H false := by
  have z := et_test (ev_opLL (r := rNeD K) (z := .bl (!PyData.eqv (.list (dints xs)) (.list (dints xs)))) a b fun p q H1 hp hq x =>
    rv_neD (fun H2 x2 => .lst (sq_of (x2 _ _ hp)) (dp_ints xs)) (fun H2 x2 => .lst (sq_of (x2 _ _ hq)) (dp_ints xs)) (shaped_ints xs) (shaped_ints xs))
  rw [same] at z
  exact z
theorem eqv_one (i : Int) : PyData.eqv (.list (dints [i])) (.list (dints [i])) = true := by simp [dints, PyData.eqv, PyData.eqvAll]
theorem et_or2 {t u : TT} (a : EvT t σ H false) (b : EvT u σ H false) : EvT (tOr t u) σ H false := et_or a fun _ => b
theorem et_no {t : TT} (a : EvT t σ H true) : EvT (tNot t) σ H false := et_not a
theorem ev_isP {C : Addr} {fs : List (Str × V)} {c : V} {u : Value} {b : Bool} (h : EvP te σ H (IsE C fs)) (T : ExcC K C) (k : ClsV c u) (hb : PySem.W.kitOne K (.ref C) u = some b) : Ev (tCB (rIsErr K) (tCons te (tCons (tC c) tNil))) σ H (.bl b) := fun H1 e Q q =>
  h H1 e _ fun v H2 e2 p => by
    obtain ⟨a, rfl, at_⟩ := p
    exact ⟨a, C, fs, c, u, b, rfl, k, T, at_, hb, q H2 e2⟩
/-- a call whose promise tells a property of the answer -/
theorem ep_call {sp : Sp} {E : XK} {ta : TA} {vs : List V} (h : EvA ta σ H vs) (p : ∀ H1, Ex H H1 → ∀ Q : VK, (∀ v H2, Ex H1 H2 → P v H2 → Q v H2) → sp (vs ++ []) H1 Q E) : EvP (tCall sp [] E ta) σ H P := fun H1 e Q q =>
  h H1 e _ fun H2 e2 => p H2 (e.trans e2) Q fun v H3 e3 pv => q v H3 (e2.trans e3) pv
end
end KU

set_option Elab.async false
set_option linter.all false
set_option maxRecDepth 100000
set_option maxHeartbeats 4000000
/-! Values that are no texts: compared with texts, looked for among texts, their reprs, their types -/
namespace KU
open PySem PySem.Spec PyProof.Rows L2 Evl
section
open AutoSeq1 (wpAny_loadPart')
open MeetsSeq
variable {A : Around} {s : Shared}
theorem dict_declines (l : Addr) (oc : Obj) (hc : oc.cls = .type "dict") (b : Str) (u : Tok) :
    Meets (Builtin.«dict.__eq__» ⟨[.ref l, .str b u], []⟩) (fun _ R s => s.heap.get? l = some oc ∧ R (.ok (.ret .notImplemented)) s) :=
  .of_wp fun prog w A R s h => by
    obtain ⟨c, dd, da, sl⟩ := oc
    simp only at hc
    subst hc
    obtain ⟨hp, g, d, tk, os⟩ := s
    obtain ⟨hl, h⟩ := h
    have f1 := F.sub_str_dict
    wp_walk using wpAny_loadPart' hl
    exact ⟨_, rfl, h⟩
theorem str_declines (l : Addr) (oc : Obj) (hc : oc.cls = .type "dict") {es : Array DictEntry} {ep : Nat} (hd : oc.data = .dict es ep) (b : Str) (u : Tok) :
    Meets (Builtin.«str.__eq__» ⟨[.str b u, .ref l], []⟩) (fun _ R s => s.heap.get? l = some oc ∧ R (.ok (.ret .notImplemented)) s) :=
  .of_wp fun prog w A R s h => by
    obtain ⟨c, dd, da, sl⟩ := oc
    simp only at hc hd
    subst hc hd
    obtain ⟨hp, g, d, tk, os⟩ := s
    obtain ⟨hl, h⟩ := h
    have f1 := F.sub_dict_str
    wp_walk using wpAny_loadPart' hl, wpAny_load hl
    exact ⟨_, rfl, h⟩
/-- a text == a dict -/
theorem str_dict {l : Addr} {oc : Obj} (b : Str) (u : Tok) (ho : s.heap.get? l = some oc) (hc : oc.cls = .type "dict") {es : Array DictEntry} {ep : Nat} (hd : oc.data = .dict es ep) (hu : A.units < cLine) : SeqAt.EqAt A s (.str b u) (.ref l) false := fun prog w E Q h => by
  have rc : ∀ Q' : Value → Shared → Prop, Q' (.bool false) s → wpAny (model prog w) A (richCompare .Eq (.str b u) (.ref l)) Q' E s := fun Q' q =>
    SeqAt.rc_eq_decline_or (k := false) (typeIs_str s b u) ⟨_, ho, hc⟩ (by decide) F.sub_dict_str F.slot_str_eq F.slot_dict_eq_refl
      (fun _ z => call_meets F.slot_str_eq (typeIs_str s b u) F.entry_str_eq (F.args_str_eq_2 _ _) (str_declines l oc hc hd b u) ⟨ho, z⟩)
      (fun _ z => call_meets F.slot_dict_eq_refl ⟨_, ho, hc⟩ F.entry_dict_eq (F.args_dict_eq_2 _ _) (dict_declines l oc hc b u) ⟨ho, z⟩)
      (fun _ z => wpAny_of_eq (rfl : isSame (.str b u) (.ref l) = pure false) z) (.inr hu) q
  unfold eqBool
  exact wpAny_holding (wpAny_ite_split (fun same => absurd (eq_of_beq same) nofun) fun _ => wpAny_bind (rc _ (wpAny_truthy_bool h)))
end

/-- the values that the law asks with: data, no dict but the empty one -/
inductive Odd (H : Hp) : V → Prop where
  | non : Odd H .non
  | bl (b : Bool) : Odd H (.bl b)
  | int (i : Int) : Odd H (.int i)
  | str (t : Str) : Odd H (.str t)
  | lst {a : Addr} {xs : List Str} : H a = some (.lst (xs.map V.str)) → a ≠ sysModules → Odd H (.ref a)
  | tup {a : Addr} {xs : List Str} : H a = some (.tup (xs.map V.str)) → Odd H (.ref a)
  | dic {a : Addr} : H a = some (.dK []) → Odd H (.ref a)
theorem Odd.mono {H H' : Hp} (x : Ex H H') : ∀ {v : V}, Odd H v → Odd H' v
  | _, .non => .non
  | _, .bl b => .bl b
  | _, .int i => .int i
  | _, .str t => .str t
  | _, .lst h n => .lst (x _ _ h) n
  | _, .tup h => .tup (x _ _ h)
  | _, .dic h => .dic (x _ _ h)
def isStrV : V → Bool
  | .str _ => true
  | _ => false
/-- an odd value's type, as isinstance asks it -/
theorem Odd.ty {K : PySem.W.Frag} {H : Hp} {v : V} (o : Odd H v) : ∃ t, TyX K H v t ∧ PySem.W.kitOne K t (.type "str") = some (isStrV v) := by
  cases o with
  | non => exact ⟨_, .base .non, (kit_ty (by decide +kernel) : _ = some false)⟩
  | bl b => exact ⟨_, .base (.bl b), (kit_ty (by decide +kernel) : _ = some false)⟩
  | int i => exact ⟨_, .base (.int i), (kit_ty (by decide +kernel) : _ = some false)⟩
  | str t => exact ⟨_, .base (.str t), (kit_ty (by decide +kernel) : _ = some true)⟩
  | lst h n => exact ⟨_, .base (.lst h), (kit_ty (by decide +kernel) : _ = some false)⟩
  | tup h => exact ⟨_, .base (.tup h), (kit_ty (by decide +kernel) : _ = some false)⟩
  | dic h => exact ⟨_, .base (.dK h), (kit_ty (by decide +kernel) : _ = some false)⟩
section
variable {X : Cx} {K : PySem.W.Frag} {σ : L2.St} {H : Hp} {te ta tb : TE}
theorem ev_isStr {v : V} (h : Ev te σ H v) (o : Odd H v) : Ev (tCB (rIsi K) (tCons te (tCons (tC (.ty "str")) tNil))) σ H (.bl (isStrV v)) :=
  ev_cb (ea_cons h (ea_cons ev_c ea_nil)) fun H1 x1 Q q => by
    obtain ⟨t, ty, e⟩ := (o.mono x1).ty (K := K)
    exact ⟨v, _, t, _, _, rfl, .ty "str", ty, e, q H1 (Ex.refl _)⟩
/-- is the value one of these texts? -/
def inO (v : V) (ws : List Str) : Bool := match v with
  | .str t => decide (t ∈ ws)
  | _ => false
def rNiO (K : PySem.W.Frag) : R2 := fun x y H Q => ∃ (p : Addr) (ws : List Str), y = .ref p ∧ SqT K H p (ws.map V.str) ∧ Odd H x ∧ Q (.bl (!inO x ws)) H
/-- v == text, for the items of a tuple of texts -/
theorem odd_eqs {A : Around} {s : Shared} {pins : List (Addr × Obj)} (I : Inv X pins σ H s) (hu : A.units < cLine) {v : V} {u : Value} (o : Odd H v) (r : RelV v u) : ∀ {ws : List Str} {us : List Value}, Vals (ws.map V.str) us → ∀ z ∈ us, ∃ b, SeqAt.EqAt A s z u b ∧ ((∃ t k, z = .str t k ∧ t ∈ ws ∧ b = decide (v = .str t))) := by
  have one : ∀ (t : Str) (k : Tok), SeqAt.EqAt A s (.str t k) u (decide (v = .str t)) := fun t k => by
    cases o with
    | non =>
      cases (show u = Value.none from r)
      exact SeqAt.EqAt.str_none t k
    | bl b =>
      cases (show u = Value.bool b from r)
      exact SeqAt.EqAt.str_bool t k b
    | int i =>
      obtain ⟨j, rfl⟩ := (show ∃ t, u = Value.int i t from r)
      exact SeqAt.EqAt.str_int t k i j
    | str x =>
      obtain ⟨j, rfl⟩ := (show ∃ t, u = Value.str x t from r)
      have z := SeqAt.EqAt.str_str (A := A) (s := s) t k x j
      have e : (t == x) = decide (V.str x = V.str t) := by
        rw [Bool.eq_iff_iff, beq_iff_eq, decide_eq_true_eq]
        constructor
        · rintro rfl
          rfl
        · intro e
          cases e
          rfl
      rw [e] at z
      exact z
    | lst h n =>
      cases r
      obtain ⟨its, _, pl, _⟩ := I.list (sq_of h)
      exact SeqAt.EqAt.str_list t k pl.isList hu
    | tup h =>
      cases r
      obtain ⟨its, _, pl, _⟩ := I.tuple (st_of h)
      exact SeqAt.EqAt.str_tuple t k pl hu
    | dic h =>
      cases r
      obtain ⟨_, hn, vs, rel, o, es, ep, ho, hx, hd, _⟩ := dk_of I.hok h
      exact str_dict t k ho hx.1 hd hu
  intro ws
  induction ws with
  | nil =>
    intro us h z hz
    cases h
    cases hz
  | cons t ws ih =>
    intro us h z hz
    cases h with
    | cons r1 r2 =>
      rcases List.mem_cons.mp hz with rfl | hz
      · obtain ⟨k, rfl⟩ := r1
        exact ⟨_, one t k, t, k, rfl, List.mem_cons_self, rfl⟩
      · obtain ⟨b, e, t2, k2, e2, m, e3⟩ := ih r2 z hz
        exact ⟨b, e, t2, k2, e2, List.mem_cons_of_mem _ m, e3⟩
/-- the outcome of v == z, z a text -/
def eqO (v : V) : Value → Bool
  | .str t _ => decide (v = .str t)
  | _ => false
theorem any_eqO {v : V} : ∀ {ws : List Str} {us : List Value}, Vals (ws.map V.str) us → us.any (eqO v) = inO v ws
  | [], _, .nil => by
    unfold inO
    cases v <;> rfl
  | t :: ws, _, .cons (b := u) r rs => by
    obtain ⟨k, rfl⟩ := r
    rw [List.any_cons, any_eqO rs]
    unfold inO eqO
    cases v with
    | str x =>
      simp only
      by_cases e : x = t
      · subst e
        simp
      · have e2 : ¬ V.str x = V.str t := fun z => by
          cases z
          exact e rfl
        rw [decide_eq_false e2, Bool.false_or, Bool.eq_iff_iff, decide_eq_true_eq, decide_eq_true_eq, List.mem_cons]
        exact ⟨.inr, fun z => z.resolve_left e⟩
    | _ => rfl
theorem op_niO (hu : X.A.units + 1 < cLine) : OpR X (compareOp .NotIn) (rNiO X.K) := by
  intro pins s σ H x y v u Q I rx ry h
  obtain ⟨p, ws, rfl, hq, o, q⟩ := h
  cases ry
  obtain ⟨its, r, pl, hz⟩ := I.tuple hq
  refine SeqAt.notIn_tupleAt (eqO x) pl (fun w hw => ?_) ⟨.bl _, H, I, rfl, ?_⟩
  · obtain ⟨b, e, t, k, rfl, m, rfl⟩ := odd_eqs (A := X.A.in1) I hu o rx r w (by simpa using hw)
    exact e
  · rw [show its.toArray.any (eqO x) = its.any (eqO x) by simp, any_eqO r]
    exact q
theorem rv_niO {p : Addr} {ws : List Str} {v : V} (hp : SqT K H p (ws.map V.str)) (o : Odd H v) : RV (rNiO K) v (.ref p) H (.bl (!inO v ws)) := fun H1 x1 Q q => ⟨p, ws, rfl, ex_t x1 hp, o.mono x1, q H1 (Ex.refl _)⟩

/-- the data that an odd value is -/
inductive DatO (H : Hp) : V → PyData → Prop where
  | non : DatO H .non .none
  | bl (b : Bool) : DatO H (.bl b) (.bool b)
  | int (i : Int) : DatO H (.int i) (.int i)
  | str (t : Str) : DatO H (.str t) (.str t)
  | lst {a : Addr} {xs : List Str} : H a = some (.lst (xs.map V.str)) → a ≠ sysModules → DatO H (.ref a) (.list (xs.map PyData.str))
  | tup {a : Addr} {xs : List Str} : H a = some (.tup (xs.map V.str)) → DatO H (.ref a) (.tuple (xs.map PyData.str))
  | dic {a : Addr} : H a = some (.dK []) → DatO H (.ref a) (.dict [])
theorem DatO.odd {H : Hp} {v : V} {d : PyData} (h : DatO H v d) : Odd H v := by
  cases h with
  | non => exact .non
  | bl b => exact .bl b
  | int i => exact .int i
  | str t => exact .str t
  | lst h n => exact .lst h n
  | tup h => exact .tup h
  | dic h => exact .dic h
theorem DatO.mono {H H' : Hp} (x : Ex H H') : ∀ {v : V} {d : PyData}, DatO H v d → DatO H' v d
  | _, _, .non => .non
  | _, _, .bl b => .bl b
  | _, _, .int i => .int i
  | _, _, .str t => .str t
  | _, _, .lst h n => .lst (x _ _ h) n
  | _, _, .tup h => .tup (x _ _ h)
  | _, _, .dic h => .dic (x _ _ h)
theorem rds_str {K : PySem.W.Frag} {H : Hp} : ∀ xs : List Str, RDs K H (xs.map V.str) (xs.map PyData.str)
  | [] => .nil
  | t :: xs => .cons (.str t) (rds_str xs)
theorem DatO.rd {H : Hp} {v : V} {d : PyData} (h : DatO H v d) : RD K H v d := by
  cases h with
  | non => exact .non
  | bl b => exact .bl b
  | int i => exact .int i
  | str t => exact .str t
  | lst h n => exact .lst (.inl (.inl h)) n (rds_str _)
  | tup h => exact .tup (.inl (.inl h)) (rds_str _)
  | dic h => exact .dic h
/-- repr of any data -/
def rReprA (K : PySem.W.Frag) : List V → Hp → VK → Prop := fun xs H Q => ∃ (v : V) (d : PyData), xs = [v] ∧ RD K H v d ∧ d.showable = true ∧ d.depth ≤ 60 ∧ d.shown.length ≤ 100000 ∧ Q (.str d.shown) H
theorem call_reprA (hg : X.A.guards = some []) (hu : X.A.units + 64 < cLine) : CallR X (.builtin "repr") (rReprA X.K) := by
  intro pins s σ H xs us Q I r h
  obtain ⟨v, d, rfl, rd, sh, dp, sz, q⟩ := h
  obtain ⟨u, rfl, ru⟩ := vals1 r
  have fin : ∀ (t : Tok) (k : Nat), EP X pins σ Q (.str d.shown t) { s with toks := k } := fun t k => ⟨.str d.shown, H, I.tok k, ⟨_, rfl⟩, q⟩
  have sz' : d.shown.length ≤ sizeLine := Nat.le_trans sz (by decide)
  cases rd with
  | non =>
    cases (show u = Value.none from ru)
    exact PySem.P.repr_of_none (fin _ _)
  | bl b =>
    cases (show u = Value.bool b from ru)
    exact PySem.P.repr_of_bool (fin _ _)
  | int i =>
    obtain ⟨t, rfl⟩ := (show ∃ t, u = Value.int i t from ru)
    exact PySem.P.repr_of_int (by simpa [PyData.showable] using sh) (fin _ _)
  | str x =>
    obtain ⟨t, rfl⟩ := (show ∃ t, u = Value.str x t from ru)
    exact PySem.P.repr_of_str (fin _ _) sz'
  | tup h1 h2 =>
    obtain ⟨as, hr, no⟩ := RD.reads I _ _ _ (.tup h1 h2) ru
    cases ru
    exact repr_of_reads' hr sh (fun _ => no) hg (by omega) (fun _ _ e => e) (fun h' u tk kp => ⟨.str _, H, I.kept kp, ⟨_, rfl⟩, q⟩) sz'
  | lst h1 h2 h3 =>
    obtain ⟨as, hr, no⟩ := RD.reads I _ _ _ (.lst h1 h2 h3) ru
    cases ru
    exact repr_of_reads' hr sh (fun _ => no) hg (by omega) (fun _ _ e => e) (fun h' u tk kp => ⟨.str _, H, I.kept kp, ⟨_, rfl⟩, q⟩) sz'
  | dic h1 =>
    obtain ⟨as, hr, no⟩ := RD.reads I _ _ _ (.dic h1) ru
    cases ru
    exact repr_of_reads' hr sh (fun _ => no) hg (by omega) (fun _ _ e => e) (fun h' u tk kp => ⟨.str _, H, I.kept kp, ⟨_, rfl⟩, q⟩) sz'
theorem ev_reprA {v : V} {d : PyData} (h : Ev te σ H v) (r : RD K H v d) (ok : shows d = true) : Ev (tCB (rReprA K) (tCons te tNil)) σ H (.str d.shown) := fun H1 e Q q =>
  h H1 e _ fun H2 e2 => by
    unfold shows at ok
    simp only [Bool.and_eq_true, decide_eq_true_eq] at ok
    exact ⟨v, d, rfl, r.mono (e.trans e2), ok.1.1, ok.1.2, ok.2, q H2 e2⟩
end
end KU

set_option Elab.async false
set_option linter.all false
set_option maxRecDepth 100000
set_option maxHeartbeats 4000000
/-! `not in` an own instance; a method called by keywords alone -/
namespace KU
open PySem PySem.Spec PyProof.Rows L2 Evl
section
variable {X : Cx} {CX : CXT} {C g : Addr} {n : Nat} {sp : Sp} {E : XK}
/-- v not in a -/
def rNotInO (C : Addr) (sp : Sp) (E : XK) : R2 := fun v x H Q => ∃ (a dx : Addr) (fs : List (Str × V)), x = .ref a ∧ H a = some (.ins C dx fs) ∧ sp [.ref a, v] H (fun z H' => ∃ k : Bool, z = .bl k ∧ Q (.bl (!k)) H') E
theorem op_notInO (hs : PySem.W.findIn X.K (.ref C) "__contains__" = some (some (.ref g))) (hf : PySem.W.isFn X.K (.ref g) = true)
    (F : FnR X.prog X.w X.K X.mg X.base CX n g sp) (hr : Room n X.A) (hx : Passes CX X E) : OpR X (compareOp .NotIn) (rNotInO C sp E) := by
  intro pins s σ H v x u w Q I rv rx h
  obtain ⟨a, dx, fs, rfl, ha, q⟩ := h
  obtain rfl : w = Value.ref a := rx
  obtain ⟨od, Ja⟩ := ins_at I ha
  obtain ⟨m, fr⟩ := I.fr
  refine PySem.W.notIn_K fr I.ok.mod.kin Ja hs hf ?_
  refine wpAny_mono (own_call F hr I.env0 hx I (vs := [.ref a, v]) (.cons rfl (.cons rv .nil)) q) (fun u s' ⟨z, H', I', rz, k, ez, qz⟩ => ?_) fun e s' z => z
  subst ez
  cases rz
  exact wpAny_pure ⟨.bl (!k), H', I', rfl, qz⟩
end
section
variable {X : Cx} {C f : Addr} {k : Nat} {fd : FuncData} {ps ks : List Str} {sp : Sp} {o : Expr} {m : Str} {pos apos : Pos} {ta : TE} {tk : TA} {kws : List Keyword} {pl : Sem Bool}
/-- o.m(k = v, ..) -/
def tMethK (C : Addr) (m : Str) (n : Nat) (sp : Sp) (gv : List V → List V) (ta : TE) (tk : TA) : TE := fun σ H Q => ta σ H fun x H1 => ∃ (a dx : Addr) (fs : List (Str × V)), x = .ref a ∧ H1 a = some (.ins C dx fs) ∧ fs.lookup m = none ∧
  tk σ H1 fun zs H2 => zs.length = n ∧ sp (.ref a :: gv zs) H2 Q fun _ _ _ => False
theorem pe_methK {gv : List V → List V} {gu : List Value → List Value} (he : PE X o ta) (c : Cls X.K C) (hm : Meth X.K C m f) (F : FnOk X.prog X.w X.K X.mg X.base CX0 k f fd ps sp) (hr : Room k X.A) (hk : PK X kws tk)
    (hb : ∀ (s' : Shared) (a : Addr) (ws : List Value), X.K.In s'.heap → ws.length = ks.length → BindsTo s' fd ⟨[.ref a], ks.zip ws⟩ (ps.zip (.ref a :: gu ws)))
    (rel : ∀ {zs : List V} {ws : List Value}, Vals zs ws → zs.length = ks.length → Vals (gv zs) (gu ws))
    (hall : (backToKw pos (keywordEach kws X.env)).all (·.1.isSome) = true := by rfl) (hks : (backToKw pos (keywordEach kws X.env)).filterMap (·.1) = ks := by rfl)
    (hpl : ((backTo pos (starEach [] X.env)).any (·.1) || (backToKw pos (keywordEach kws X.env)).any (·.1.isNone)) = false := by rfl)
    (ht : eval (.Call (.Attribute o m apos) [] kws pos) X.env = (do
      let ov ← eval o X.env
      standAt apos.atName
      let __x ← holding [ov] (getMethod ov m pl)
      match __x with
        | (f, first) => callWith pos f first (backTo pos (starEach [] X.env)) (backToKw pos (keywordEach kws X.env))) := by rfl) :
    PE X (.Call (.Attribute o m apos) [] kws pos) (tMethK C m ks.length sp gv ta tk) := by
  refine ⟨fun pins s σ H Q I h => ?_⟩
  refine PySem.W.methodCall_KW (pl := pl) (thn (he.run pins s σ H _ I h) fun u s1 ⟨x, H1, I1, rx, a, dx, fs, ex, ea, l, q⟩ => ?_) ht
  subst ex
  obtain rfl : u = Value.ref a := rx
  refine getmeth_ok I1 ea c hm l ?_
  refine PySem.W.callWith_KW0 (first := [.ref a]) (h₀ := X.base) I.ok.mod.kin hm.kp hall (thn (hk.run pos pins s1 σ H1 _ I1 q) fun ws s2 ⟨zs, H2, I2, rv, hn, q2⟩ => ⟨I2.kIn, ?_⟩) hpl
  rw [hks]
  refine wpAny_call (codeAny_mono (F.run X.A X.stack s2 H2 ⟨[.ref a], ks.zip ws⟩ (.ref a :: gu ws) (.ref a :: gv zs) Q (fun _ _ _ => False) hr I2.env0 (hb s2 a ws I2.kIn (by rw [← rv.length]; exact hn)) (.cons rfl (rel rv hn)) q2) fun res s' back => ?_)
  cases res with
  | error er => exact back.elim
  | ok fl =>
    cases fl with
    | ret u => exact I2.after back
    | next => exact back.elim
    | brk => exact back.elim
    | cont => exact back.elim
end
end KU

set_option Elab.async false
set_option linter.all false
set_option maxRecDepth 100000
set_option maxHeartbeats 4000000
/-! Defs that make lambdas: entered where no repr is under way, their code object told; called; what stays though tables grow -/
namespace KU
open PySem PySem.Spec PyProof.Rows L2 Evl
/-- a def of the text by its body, where no repr is under way; its code is told -/
theorem FnG.bodyC {P : Program} {w : World} {K : PySem.W.Frag} {mg : Str → Option Value} {base : Heap} {x qual : Str} {st : Stmt} {f : Addr} {fd : FuncData} {N ps : List Str} {k : Nat} {sp : Sp}
    (F : Fun K x qual st f fd) (S : FnScope N ps (defScope st)) (many : ∀ vs H Q E, sp vs H Q E → vs.length = ps.length)
    (walk : ∀ (A : Around) (out : List Env) (s : Shared) (H : Hp) (vs : List V) (Q : VK) (E : XK), A.guards = some [] → Room k (A.deeper (envOfC qual (defScope st) s.heap.objs.size f fd.code)) → sp vs H Q E →
      ∃ t, PSs (cxOf CX0 P w K mg base N qual (defScope st) f fd.code A out s H E).nox (defBody st) t ∧ t { nx := fun _ H' => Q .non H', rt := Q } (start N vs) H) :
    FnG P w K mg base CX0 (k + 1) f fd ps sp := by
  obtain ⟨oc, od, kV, doc, pm, an, cdv, ct, osl, rfl, lk, hcd⟩ := F.ex
  refine ⟨many, fun A out s H args us vs Q E hg hr e0 hb r hsp => ?_⟩
  have small := many _ _ _ _ hsp
  have whole : K.In s.heap := e0.mod.kin.keeps fun b o e => (e0.bs b o e).1
  have lim : s.heap.NoLimit := e0.mod.nolimit.keeps fun b o e => (e0.bs b o e).1
  have kinds : ∀ y ∈ ps.zip us, (defScope st).names.lookup y.1 = some .local ∨ ((defScope st).names.lookup y.1 = some .cell ∧ ((cellsFrom (s.heap.objs.size + 1) (defScope st).names []).lookup y.1).isSome = true) := by
    rintro ⟨n, v⟩ hy
    rcases S.par n (List.of_mem_zip hy).1 with q | q
    · exact .inl q
    · exact .inr ⟨q, PySem.W.cellsFrom_some _ _ _ (.inl q)⟩
  refine codeAny_call_function hr.depth (whole _ _ lk) rfl S.co S.gen rfl (PySem.W.codeRec_of whole hcd) (hb _ _ _ _ ?_)
  refine wpAny_newFunctionEnv_cells S.kind kinds fun env he s1 x => ?_
  subst he
  refine ⟨lim.keeps x.toInCall.keep, codeAny_func ?_⟩
  obtain ⟨t, ht, hq⟩ := walk A out s H vs Q E hg (hr.deeper _) hsp
  have I : Inv (cxOf CX0 P w K mg base N qual (defScope st) f cdv A out s H E) [] (start N vs) H s1 := inv_start S hr.hd e0 small r x
  refine wpAny_mono (ht.nox.run [] s1 (start N vs) H _ I hq) (fun fl s2 h2 => ?_) fun e s2 h2 => h2
  have gives : ∀ {σ' : L2.St} {H' : Hp} {v : V} {u : Value}, Inv (cxOf CX0 P w K mg base N qual (defScope st) f cdv A out s H E) [] σ' H' s2 → RelV v u → Q v H' → CE out P w H s Q u s2 := fun J rv q => ⟨_, _, J.os, J.bare, J.base, J.hok, rv, q⟩
  cases fl with
  | ret u =>
    obtain ⟨v, σ', H', J, rv, q⟩ := h2
    exact gives J rv q
  | next =>
    obtain ⟨σ', H', J, q⟩ := h2
    exact gives (v := V.non) (u := Value.none) J rfl q
  | brk =>
    obtain ⟨_, _, _, q⟩ := h2
    exact q.elim
  | cont =>
    obtain ⟨_, _, _, q⟩ := h2
    exact q.elim
section
variable {X : Cx} {CX : CXT} {f : Addr} {k : Nat} {fd : FuncData} {ps : List Str} {sp : Sp} {E : XK} {x : Str} {p pos : Pos} {e : Expr} {es : List Expr} {t : TA}
theorem pe_callG (F : FnG X.prog X.w X.K X.mg X.base CX k f fd ps sp) (hgd : X.A.guards = some []) (hr : Room k X.A) (hg : Gl X x) (hm : X.mg x = some (.ref f)) (hk : PySem.W.keepIn X.K (.ref f) = true) (hb : Binds X.K fd ps []) (hx : Passes CX X E)
    (ha : PA X (e :: es) t) (hdb : (x == ("__debug__" : Str)) = false := by decide) (he : starEach (e :: es) X.env = (false, eval e X.env) :: starEach es X.env := by rfl) (hpl : (backTo pos (starEach es X.env)).any (·.1) = false := by rfl) :
    PE X (.Call (.Name x p) (e :: es) [] pos) (tCall sp [] E t) := by
  refine ⟨fun pins s σ H Q I h => ?_⟩
  refine wpAny_Call_Name_kw (ld_glob I hg hm ?_ hdb)
  refine PySem.W.callWith_K (h₀ := X.base) I.ok.mod.kin hk (thn (ha.run pos pins s σ H _ I h) fun us s1 ⟨vs, H1, I1, r, q⟩ => ⟨I1.kIn, ?_⟩) he hpl
  have q : sp (vs ++ []) H1 Q E := q
  rw [List.append_nil] at q
  have many : us.length = ps.length := by
    rw [← r.length]
    exact F.many _ _ _ _ q
  have b := hb s1 us I1.kIn (by rw [List.append_nil]; exact many)
  rw [List.append_nil] at b
  refine wpAny_call (codeAny_mono (F.goes X.A X.stack s1 H1 ⟨us, []⟩ us vs Q E hgd hr I1.env0 b r q) fun res s2 back => ?_)
  cases res with
  | error er => exact hx pins σ H1 s1 er s2 I1 back
  | ok fl =>
    cases fl with
    | ret u => exact I1.after back
    | next => exact back.elim
    | brk => exact back.elim
    | cont => exact back.elim
end

/-! ### all but the tables -/
abbrev ExT (H H' : Hp) : Prop := LamX.ExtN H H'
theorem exT {H H' : Hp} (x : Ex H H') : ExT H H' := LamX.ExtN.of x
theorem ext_lst {H H' : Hp} {a : Addr} {xs : List V} (x : ExT H H') (h : H a = some (.lst xs)) : H' a = some (.lst xs) := x _ _ h fun ps z => by cases z
theorem ext_tup {H H' : Hp} {a : Addr} {xs : List V} (x : ExT H H') (h : H a = some (.tup xs)) : H' a = some (.tup xs) := x _ _ h fun ps z => by cases z
theorem ext_ins {H H' : Hp} {a C dx : Addr} {fs : List (Str × V)} (x : ExT H H') (h : H a = some (.ins C dx fs)) : H' a = some (.ins C dx fs) := x _ _ h fun ps z => by cases z
theorem Pen.ext {H H' : Hp} {P L : Addr} {ns : List Int} {s : Nat} {g : Int} (x : ExT H H') (p : Pen H P L ns s g) : Pen H' P L ns s g := ⟨ext_lst x p.pen, ext_lst x p.cells, p.ne, p.few, p.left⟩
theorem tabs_ex {T : List (Addr × Str)} {H H' : Hp} (t : LamX.Tabs T H) (x : Ex H H') : LamX.Tabs T H' := t.ext x
end KU

set_option Elab.async false
set_option linter.all false
set_option maxRecDepth 100000
set_option maxHeartbeats 4000000
/-! The facts of an error class of the text, by bundled checks over the written part -/
namespace KU
open PySem PySem.Spec PyProof.Rows L2 Evl
/-- what is looked up of an error class: the rest of it -/
def clB (K : PySem.W.Frag) (C fI : Addr) (cd : Value) (q : Str) (fs : List Str) : Bool :=
  PySem.W.findIn K (.ref C) "__setattr__" == some (some (.builtin "object.__setattr__")) && PySem.W.findIn K (.ref C) "__getattribute__" == some (some (.builtin "BaseException.__getattribute__")) &&
  PySem.W.findIn K (.ref C) "__getattr__" == some none && PySem.W.typeIn K (.ref fI) == some (.type "function") && PySem.W.codeIn K cd q && PySem.W.keepIn K (.ref fI) && PySem.W.keepIn K (.ref C) &&
  PySem.W.subIn K (.ref C) (.type "BaseException") == some true && PySem.W.typeIn K (.ref C) == some (.type "type") && PySem.W.hasDictIn K C && PySem.W.findIn K (.ref C) "__class__" == some (some (.builtin "object.__class__")) &&
  PySem.W.mroIn K C (.type "object") == some true && fs.all (fun f => PySem.W.findIn K (.ref C) f == some none)
def getB (K : PySem.W.Frag) : Bool := PySem.W.specialIn K (.builtin "object.__class__") "__get__" == some (some (.builtin "getset_descriptor.__get__")) && PySem.W.takesIn K (.builtin "object.__class__") == some true
structure ClF (K : PySem.W.Frag) (mg : Str → Option Value) (x q : Str) (st : Stmt) (C : Addr) (fs : List Str) : Prop where
  gC : mg x = some (.ref C)
  oex : OexC K C
  ga : PySem.W.findIn K (.ref C) "__getattribute__" = some (some (.builtin "BaseException.__getattribute__"))
  gg : PySem.W.findIn K (.ref C) "__getattr__" = some none
  hd : PySem.W.hasDictIn K C = true
  ha : PySem.W.findIn K (.ref C) "__class__" = some (some (.builtin "object.__class__"))
  hm : PySem.W.mroIn K C (.type "object") = some true
  no : ∀ f ∈ fs, PySem.W.findIn K (.ref C) f = some none
  fn : ∃ (fI : Addr) (fd : FuncData), PySem.W.findIn K (.ref C) "__init__" = some (some (.ref fI)) ∧ PySem.W.typeIn K (.ref fI) = some (.type "function") ∧ Fun K "__init__" q st fI fd
theorem clf_mk {K : PySem.W.Frag} {h : Heap} {mg : Str → Option Value} (X : K.In h) (G : h.Ns mainGlobals mg) {x q : Str} {st : Stmt} {fs : List Str} {C fI N : Addr} {nm qn : Str} {bs bm : List Value} {sn : List Str} {sub : List Value} {ab : Bool} {col : Option Bool}
    {dd : Option Addr} {m0 m1 m2 m3 m5 : Option Value} {oc kV dc pm cd ct : Value} {od an : Option Addr} {osl : Array (Option Value)}
    (aC : PySem.W.nsIn K mainGlobals x = some (some (.ref C))) (xL : K.lookup C = some (excClassObj nm qn C N bs bm true sn sub ab col dd m0 m1 m2 m3 m5 "ValueError.__new__")) (a1 : PySem.W.findIn K (.ref C) "__init__" = some (some (.ref fI)))
    (l1 : K.lookup fI = some ⟨oc, od, .func (PySem.W.fnOf "__init__" q (defArgs st) (defBody st) (defScope st) .none kV dc pm an cd ct), osl⟩) (hb : PySem.HandSPX.refsVE bm = true) (B : clB K C fI cd q fs = true) : ClF K mg x q st C fs := by
  unfold clB at B
  simp only [Bool.and_eq_true, beq_iff_eq, List.all_eq_true] at B
  obtain ⟨⟨⟨⟨⟨⟨⟨⟨⟨⟨⟨⟨b1, b2⟩, b3⟩, b4⟩, b5⟩, b6⟩, b7⟩, b8⟩, b9⟩, b10⟩, b11⟩, b12⟩, b13⟩ := B
  exact { gC := PySem.W.mg_of X G aC, oex := ⟨⟨nm, qn, N, bs, bm, sn, sub, ab, col, dd, m0, m1, m2, m3, m5, xL, hb⟩, b1, b8, b9, b7⟩, ga := b2, gg := b3, hd := b10, ha := b11, hm := b12, no := b13, fn := ⟨fI, _, a1, b4, fun_mk l1 b5 b6⟩ }
section
variable {P : Program} {w : World} {K : PySem.W.Frag} {mg : Str → Option Value} {base : Heap}
theorem exc_of {C : Addr} (gb : getB K = true) (ga : PySem.W.findIn K (.ref C) "__getattribute__" = some (some (.builtin "BaseException.__getattribute__"))) (gg : PySem.W.findIn K (.ref C) "__getattr__" = some none)
    (hs : PySem.W.subIn K (.ref C) (.type "BaseException") = some true) (hd : PySem.W.hasDictIn K C = true) (ha : PySem.W.findIn K (.ref C) "__class__" = some (some (.builtin "object.__class__"))) (hm : PySem.W.mroIn K C (.type "object") = some true) : ExcC K C := by
  unfold getB at gb
  simp only [Bool.and_eq_true, beq_iff_eq] at gb
  exact ⟨ga, gg, hs, hd, ha, gb.1, gb.2, hm⟩
/-- a class with one field, its __init__ being read -/
theorem cl1_of {x q f : Str} {st : Stmt} {C : Addr} (gb : getB K = true) (Z : ClF K mg x q st C [f]) (init : ∀ {fI : Addr} {fd : FuncData}, Fun K "__init__" q st fI fd → FnOk P w K mg base CX0 1 fI fd ["self", f] (spI1 K f))
    (bind : ∀ (kV doc pm : Value) (an : Option Addr) (cdv ct : Value) (us : List Value), us.length = (["self", f] : List Str).length → bindArgs (PySem.W.fnOf "__init__" q (defArgs st) (defBody st) (defScope st) .none kV doc pm an cdv ct) ⟨us, []⟩ = pure ((["self", f] : List Str).zip us))
    (bindk : ∀ (kV doc pm : Value) (an : Option Addr) (cdv ct a v : Value), bindArgs (PySem.W.fnOf "__init__" q (defArgs st) (defBody st) (defScope st) .none kV doc pm an cdv ct) ⟨[a], [(f, v)]⟩ = pure [(("self" : Str), a), (f, v)]) : Cl P w K mg base x C [f] (spI1 K f) := by
  obtain ⟨fI, fd, h1, h2, F⟩ := Z.fn
  refine ⟨Z.oex, exc_of gb Z.ga Z.gg Z.oex.exC Z.hd Z.ha Z.hm, Z.gC, Z.no, fI, fd, h1, h2, init F, F.binds bind, fun s a ws hl => ?_⟩
  obtain ⟨oc, od, kV, doc, pm, an, cdv, ct, osl, rfl, _, _⟩ := F.ex
  exact match ws, hl with | [v], _ => .of_eq (bindk _ _ _ _ _ _ _ _)
end
end KU

set_option Elab.async false
set_option linter.all false
set_option maxRecDepth 100000
set_option maxHeartbeats 4000000
/-! Errors of two fields raised; more facts of their classes -/
namespace KU
open PySem PySem.Spec PyProof.Rows L2 Evl
section
variable {X : Cx} {x : Str} {C : Addr} {f g : Str} {p pos pos2 : Pos} {e e2 : Expr} {ta : TA} {W : WX}
/-- raise C(e, e2), C with two fields -/
def tRaise2 (K : PySem.W.Frag) (C : Addr) (f g : Str) (W : WX) (ta : TA) : TS := fun _ σ H => tMkO C (spI2 K f g) [] ta σ H fun cls d H' => W cls d σ H'
theorem ps_raise2 (hc : X.calm = true) (tk : Takes X W) (Z : Cl X.prog X.w X.K X.mg X.base x C [f, g] (spI2 X.K f g)) (hr : Room 2 X.A) (ha : PA X [e, e2] ta) (hg : Gl X x := by rfl) (hdb : (x == ("__debug__" : Str)) = false := by decide)
    (he : starEach [e, e2] X.env = (false, eval e X.env) :: starEach [e2] X.env := by rfl) (hpl : (backTo pos (starEach [e2] X.env)).any (·.1) = false := by rfl) :
    PS X (.Raise (some (.Call (.Name x p) [e, e2] [] pos)) none pos2) (tRaise2 X.K C f g W ta) := by
  obtain ⟨fI, fd, i1, i2, G, b, _⟩ := Z.fn
  exact ps_raise (pos := pos2) hc tk (pmk_oex (CX := CX0) (dvs := []) (ds := []) (pos := pos) (p := p) Z.oex i1 i2 G hr b .nil pass0 hg Z.gC ha hdb he hpl)
theorem s_raise2 {K : PySem.W.Frag} {σ : L2.St} {H : Hp} {D : Ends} {v w : V} (T : OexC K C) (no : PySem.W.findIn K (.ref C) f = some none) (no2 : PySem.W.findIn K (.ref C) g = some none) (h : EvA ta σ H [v, w])
    (k : ∀ d H2, Ex H H2 → H2 d = some (.xd [(g, w), (f, v)]) → W (.ref C) (some d) σ H2) : tRaise2 K C f g W ta D σ H := by
  unfold tRaise2 tMkO
  refine h H (Ex.refl H) _ fun H1 x1 => ⟨(by show 2 ≤ 1000; decide), fun a hn => ⟨a, C, v, w, rfl, T, no, no2, upd_same, fun dx H' hd ne h1 h2 h3 => ⟨rfl, dx, [(g, w), (f, v)], h1, h2, ?_, ?_⟩⟩⟩
  · rw [upd_ne ne] at hd
    exact hd
  · rw [upd_ne ne] at hd
    refine k dx _ (fun b o e => ?_) upd_same
    have e := x1 b o e
    have n1 : b ≠ dx := ne_of_none e hd
    have n2 : b ≠ a := ne_of_none e hn
    rw [upd_ne n1, del_ne n2, h3 b n2 n1, upd_ne n2]
    exact e
end
/-- a class with two fields, its __init__ being read -/
theorem cl2_of {P : Program} {w : World} {K : PySem.W.Frag} {mg : Str → Option Value} {base : Heap} {x q f g : Str} {st : Stmt} {C : Addr} (gb : getB K = true) (Z : ClF K mg x q st C [f, g]) (init : ∀ {fI : Addr} {fd : FuncData}, Fun K "__init__" q st fI fd → FnOk P w K mg base CX0 1 fI fd ["self", f, g] (spI2 K f g))
    (bind : ∀ (kV doc pm : Value) (an : Option Addr) (cdv ct : Value) (us : List Value), us.length = (["self", f, g] : List Str).length → bindArgs (PySem.W.fnOf "__init__" q (defArgs st) (defBody st) (defScope st) .none kV doc pm an cdv ct) ⟨us, []⟩ = pure ((["self", f, g] : List Str).zip us))
    (bindk : ∀ (kV doc pm : Value) (an : Option Addr) (cdv ct a v u : Value), bindArgs (PySem.W.fnOf "__init__" q (defArgs st) (defBody st) (defScope st) .none kV doc pm an cdv ct) ⟨[a], [(g, v), (f, u)]⟩ = pure [(("self" : Str), a), (f, u), (g, v)]) : Cl P w K mg base x C [f, g] (spI2 K f g) := by
  obtain ⟨fI, fd, h1, h2, F⟩ := Z.fn
  refine ⟨Z.oex, exc_of gb Z.ga Z.gg Z.oex.exC Z.hd Z.ha Z.hm, Z.gC, Z.no, fI, fd, h1, h2, init F, F.binds bind, fun s a ws hl => ?_⟩
  obtain ⟨oc, od, kV, doc, pm, an, cdv, ct, osl, rfl, _, _⟩ := F.ex
  exact match ws, hl with | [v, u], _ => .of_eq (bindk _ _ _ _ _ _ _ _ _)
theorem or_fn {P : Program} {w : World} {K : PySem.W.Frag} {mg : Str → Option Value} {base : Heap} {CX : CXT} {k : Nat} {f : Addr} {fd : FuncData} {ps : List Str} {sp1 sp2 : Sp} (F : FnOk P w K mg base CX k f fd ps sp1) (G : FnOk P w K mg base CX k f fd ps sp2) : FnOk P w K mg base CX k f fd ps (fun vs H Q E => sp1 vs H Q E ∨ sp2 vs H Q E) :=
  ⟨fun vs H Q E h => h.elim (F.len vs H Q E) (G.len vs H Q E), fun A outer s H args us vs Q E hr e0 hb r h => h.elim (F.run A outer s H args us vs Q E hr e0 hb r) (G.run A outer s H args us vs Q E hr e0 hb r)⟩
end KU

set_option Elab.async false
set_option linter.all false
set_option maxRecDepth 100000
set_option maxHeartbeats 4000000
/-! Lists of texts by ==, != -/
namespace KU
open PySem PySem.Spec PyProof.Rows L2 Evl
/-- a new list is told -/
def NewL (xs : List V) (H : Hp) (Q : VK) : Prop := ∀ (p : Addr) (H' : Hp), H p = none → Ex H H' → H' p = some (.lst xs) → Q (.ref p) H'
theorem NewL.mono {xs : List V} {H H' : Hp} {Q : VK} (x : Ex H H') (k : NewL xs H Q) : NewL xs H' Q := fun p H2 hp x2 e => k p H2 (fresh_back x hp) (x.trans x2) e
section
variable {K : PySem.W.Frag} {σ : L2.St} {H : Hp} {te tl ta tb : TE} {D : Ends}
theorem rv_eqL {p q : Addr} {a b : List Str} (h1 : H p = some (.lst (a.map V.str))) (h2 : H q = some (.lst (b.map V.str))) (o1 : ∀ t ∈ a, PyData.strOk t = true) (o2 : ∀ t ∈ b, PyData.strOk t = true) : RV (rEqD K) (.ref p) (.ref q) H (.bl (decide (a = b))) := by
  intro H1 x1 Q k
  rw [← eqv_strsL] at k
  exact ⟨_, _, .lst (sq_of (x1 _ _ h1)) (dp_strs a), .lst (sq_of (x1 _ _ h2)) (dp_strs b), shaped_strsL a o1, shaped_strsL b o2, k H1 (Ex.refl _)⟩
theorem rv_neL {p q : Addr} {a b : List Str} (h1 : H p = some (.lst (a.map V.str))) (h2 : H q = some (.lst (b.map V.str))) (o1 : ∀ t ∈ a, PyData.strOk t = true) (o2 : ∀ t ∈ b, PyData.strOk t = true) : RV (rNeD K) (.ref p) (.ref q) H (.bl (!decide (a = b))) := by
  intro H1 x1 Q k
  rw [← eqv_strsL] at k
  exact ⟨_, _, .lst (sq_of (x1 _ _ h1)) (dp_strs a), .lst (sq_of (x1 _ _ h2)) (dp_strs b), shaped_strsL a o1, shaped_strsL b o2, k H1 (Ex.refl _)⟩
theorem rv_eqTT {p q : Addr} {a b : List Str} (h1 : H p = some (.tup (a.map V.str))) (h2 : H q = some (.tup (b.map V.str))) (o1 : ∀ t ∈ a, PyData.strOk t = true) (o2 : ∀ t ∈ b, PyData.strOk t = true) : RV (rEqD K) (.ref p) (.ref q) H (.bl (decide (a = b))) := by
  intro H1 x1 Q k
  rw [← eqv_strsT] at k
  exact ⟨_, _, .tup (st_of (x1 _ _ h1)) (dp_strs a), .tup (st_of (x1 _ _ h2)) (dp_strs b), shaped_strsT a o1, shaped_strsT b o2, k H1 (Ex.refl _)⟩
theorem rv_neTT {p q : Addr} {a b : List Str} (h1 : H p = some (.tup (a.map V.str))) (h2 : H q = some (.tup (b.map V.str))) (o1 : ∀ t ∈ a, PyData.strOk t = true) (o2 : ∀ t ∈ b, PyData.strOk t = true) : RV (rNeD K) (.ref p) (.ref q) H (.bl (!decide (a = b))) := by
  intro H1 x1 Q k
  rw [← eqv_strsT] at k
  exact ⟨_, _, .tup (st_of (x1 _ _ h1)) (dp_strs a), .tup (st_of (x1 _ _ h2)) (dp_strs b), shaped_strsT a o1, shaped_strsT b o2, k H1 (Ex.refl _)⟩
/-- a list that is made == [] -/
theorem ev_eqNil {a : List Str} (ha : EvL ta σ H (a.map V.str)) (o : ∀ t ∈ a, PyData.strOk t = true) : Ev (tOp (rEqD K) ta (tLst tNil)) σ H (.bl (decide (a = []))) :=
  ev_opLL ha (el_lst (vs := ([] : List Str).map V.str) ea_nil (by decide)) fun p q H1 h1 h2 x1 => rv_eqL h1 h2 o fun t ht => by cases ht
/-- tuple(list) of texts -/
theorem eu_tuple {a : List Str} (ha : EvL ta σ H (a.map V.str)) : EvU (tCB (fun xs H Q => ∃ (p : Addr) (ys : List V), xs = [V.ref p] ∧ ((SqL K H p ys ∧ ∀ l : Addr, H l = none → Q (V.ref l) (upd H l (.tup ys))) ∨ (SqT K H p ys ∧ Q (V.ref p) H))) (tCons ta tNil)) σ H (a.map V.str) :=
  fun H1 x1 Q q => ha H1 x1 _ fun p H2 hp x2 e => ⟨p, _, rfl, .inl ⟨sq_of e, fun l hl => q l _ (fresh_back x2 hl) (x2.trans (Ex.new hl)) upd_same⟩⟩
theorem eu_tupleV {p : Addr} {a : List Str} (ha : Ev ta σ H (.ref p)) (hp : H p = some (.lst (a.map V.str))) : EvU (tCB (fun xs H Q => ∃ (p : Addr) (ys : List V), xs = [V.ref p] ∧ ((SqL K H p ys ∧ ∀ l : Addr, H l = none → Q (V.ref l) (upd H l (.tup ys))) ∨ (SqT K H p ys ∧ Q (V.ref p) H))) (tCons ta tNil)) σ H (a.map V.str) :=
  fun H1 x1 Q q => ha H1 x1 _ fun H2 x2 => ⟨p, _, rfl, .inl ⟨sq_of (x2 _ _ (x1 _ _ hp)), fun l hl => q l _ (fresh_back x2 hl) (x2.trans (Ex.new hl)) upd_same⟩⟩
theorem ev_callL {sp : Sp} {E : XK} {xs : List V} {v : V} (hl : Ev ta σ H v) (h : ∀ H1, Ex H H1 → ∀ Q : VK, NewL xs H1 Q → sp [v] H1 Q E) : EvL (tCall sp [] E (tCons ta tNil)) σ H xs :=
  fun H1 x1 Q q => hl H1 x1 _ fun H2 x2 => h H2 (x1.trans x2) Q fun p H3 hp x3 e => q p H3 (fresh_back x2 hp) (x2.trans x3) e
end
end KU

set_option Elab.async false
set_option linter.all false
set_option maxRecDepth 100000
set_option maxHeartbeats 4000000
/-! The reading of a draw, its numbers as letters -/
namespace KU
open PySem PySem.Spec PyProof.Rows L2 Evl
abbrev rAddI : R2 := rI0 fun i j => .int (i + j)
abbrev rSubI : R2 := rI0 fun i j => .int (i - j)
abbrev rMulI : R2 := rI CMul fun i j => .int (i * j)
abbrev rModI : R2 := rI (fun _ j => 0 < j) fun i j => .int (i % j)
abbrev rDivI : R2 := rI CDiv fun i j => .int (i / j)
abbrev rPowI : R2 := rI CPow fun i j => .int (i ^ j.toNat)
abbrev rLtI : R2 := rI0 fun i j => .bl (decide (i < j))
abbrev rGtI : R2 := rI0 fun i j => .bl (decide (j < i))
abbrev rGeI : R2 := rI0 fun i j => .bl (decide (j ≤ i))
abbrev tIntOf (t : TE) : TE := tCB rInt1 (tCons t tNil)
abbrev tAbsOf (t : TE) : TE := tCB rAbs (tCons t tNil)
abbrev tLenOf (K : PySem.W.Frag) (t : TE) : TE := tCB (rLenS K) (tCons t tNil)
abbrev cI (i : Int) : TE := tC (.int i)
/-- an item of the state -/
abbrev tPg (K : PySem.W.Frag) (j : Int) : TE := tOp (rIxL K) (tVar 0) (cI j)
def tGreat (K : PySem.W.Frag) : TS := tSeq (tAsg (tOp rAddI (tOp rMulI (cI 2) (tOp rSubI (tAbsOf (tVar 4)) (tOp rPowI (cI 10) (cI 18)))) (tIntOf (tOp rLtI (tVar 4) (cI 0)))) (gName 5))
  (tSeq (tAsg (tOp rDivI (tIntOf (tVar 5)) (tVar 1)) (gSub (tVar 0) (cI 2) rSetL)) (tRet (tOp rModI (tIntOf (tVar 5)) (tVar 1))))
def tMix (p1 a1 b1 p2 a2 b2 c2 d2 p3 : Int) : TS :=
  tSeq (tAsg (tOp rModI (tIntOf (tOp rPowI (tOp rAddI (tOp rAddI (tOp rModI (tIntOf (tVar 4)) (cI p1)) (tOp rMulI (cI a1) (tVar 3))) (cI b1)) (cI 5))) (cI p2)) (gName 6))
  (tSeq (tAsg (tOp rModI (tIntOf (tOp rPowI (tOp rAddI (tOp rAddI (tOp rMulI (tVar 6) (tOp rAddI (tOp rMulI (cI a2) (tVar 3)) (cI b2))) (tOp rMulI (tOp rMulI (cI c2) (tVar 3)) (tVar 3))) (cI d2)) (cI 3))) (cI p3)) (gName 6))
  (tRet (tOp rModI (tIntOf (tOp rDivI (tVar 6) (cI 32))) (tVar 1))))
def tDraw (K : PySem.W.Frag) (c1 c0 p1 a1 b1 p2 a2 b2 c2 d2 p3 : Int) : TS :=
  tSeq (tIfS (tTest (tOp rGtI (tPg K 2) (cI 0)))
    (tSeq (tAsg (tOp rModI (tIntOf (tPg K 2)) (tVar 1)) (gName 2)) (tSeq (tAsg (tOp rDivI (tIntOf (tPg K 2)) (tVar 1)) (gSub (tVar 0) (cI 2) rSetL)) (tRet (tVar 2)))) tNext)
  (tSeq (tAsg (tPg K 1) (gName 3))
  (tSeq (tAsg (tOp rAddI (tVar 3) (cI 1)) (gSub (tVar 0) (cI 1) rSetL))
  (tSeq (tAsg (tOp rAddI (tOp rMulI (cI c1) (tVar 3)) (cI c0)) (gName 4))
  (tSeq (tIfS (tTest (tOp (rNeD K) (tPg K 0) (tLst tNil))) (tAsg (tOp (rIxL K) (tPg K 0) (tOp rModI (tIntOf (tVar 3)) (tLenOf K (tPg K 0)))) (gName 4)) tNext)
  (tSeq (tIfS (tAnd (tTest (tOp rLtI (tVar 3) (tLenOf K (tPg K 0)))) (tTest (tOp rGeI (tAbsOf (tVar 4)) (tOp rPowI (cI 10) (cI 18))))) (tGreat K) tNext)
  (tMix p1 a1 b1 p2 a2 b2 c2 d2 p3))))))

section
variable {K : PySem.W.Frag} {σ : L2.St} {H : Hp} {te ta tb : TE}
theorem ev_int1 {i : Int} (h : Ev te σ H (.int i)) : Ev (tIntOf te) σ H (.int i) := ev_cb (ea_cons h ea_nil) (rc_int i)
theorem ev_bool1 {k : Bool} (h : Ev te σ H (.bl k)) : Ev (tIntOf te) σ H (.int (if k then 1 else 0)) := ev_cb (ea_cons h ea_nil) (rc_bool k)
theorem ev_abs1 {i : Int} (h : Ev te σ H (.int i)) : Ev (tAbsOf te) σ H (.int (if i < 0 then -i else i)) := ev_cb (ea_cons h ea_nil) (rc_abs i)
theorem ev_add {i j : Int} (a : Ev ta σ H (.int i)) (b : Ev tb σ H (.int j)) : Ev (tOp rAddI ta tb) σ H (.int (i + j)) := ev_op a b rv_I0
theorem ev_sub {i j : Int} (a : Ev ta σ H (.int i)) (b : Ev tb σ H (.int j)) : Ev (tOp rSubI ta tb) σ H (.int (i - j)) := ev_op a b rv_I0
theorem ev_mul {i j : Int} (c : CMul i j) (a : Ev ta σ H (.int i)) (b : Ev tb σ H (.int j)) : Ev (tOp rMulI ta tb) σ H (.int (i * j)) := ev_op a b (rv_I c)
theorem ev_mod {i j : Int} (c : 0 < j) (a : Ev ta σ H (.int i)) (b : Ev tb σ H (.int j)) : Ev (tOp rModI ta tb) σ H (.int (i % j)) := ev_op a b (rv_I (C := fun _ j => 0 < j) c)
theorem ev_div {i j : Int} (c : CDiv i j) (a : Ev ta σ H (.int i)) (b : Ev tb σ H (.int j)) : Ev (tOp rDivI ta tb) σ H (.int (i / j)) := ev_op a b (rv_I c)
theorem ev_pow {i j : Int} (c : CPow i j) (a : Ev ta σ H (.int i)) (b : Ev tb σ H (.int j)) : Ev (tOp rPowI ta tb) σ H (.int (i ^ j.toNat)) := ev_op a b (rv_I c)
theorem ev_pg {P L : Addr} {ns : List Int} {s : Nat} {g : Int} {j : Int} {v : V} (p : Pen H P L ns s g) (h0 : σ[0]? = some (some (.ref P))) (hv : atI ([.ref L, .int s, .int g] : List V) j = some v) : Ev (tPg K j) σ H v :=
  ev_op (ev_var h0) ev_c (rv_ixL (sq_of p.pen) hv)
theorem ev_lenC {P L : Addr} {ns : List Int} {s : Nat} {g : Int} (p : Pen H P L ns s g) (h0 : σ[0]? = some (some (.ref P))) : Ev (tLenOf K (tPg K 0)) σ H (.int (ns.length : Int)) := by
  have h := ev_len (K := K) (ev_pg (K := K) (σ := σ) (j := 0) p h0 rfl) (sq_of p.cells)
  have e : (vints ns).length = ns.length := by simp [vints]
  rw [e] at h
  exact h
end
theorem small_mul {a b : Int} (h0 : 0 ≤ a) (h1 : a < 18446744073709551616) : CMul a b := .inl ⟨by omega, by omega⟩
theorem mix_reads {p1 a1 b1 p2 a2 b2 c2 d2 p3 : Int} (hp1 : 0 < p1 ∧ p1 < 2147483648) (ha1 : 0 ≤ a1 ∧ a1 ≤ 10000000) (hb1 : 0 ≤ b1 ∧ b1 ≤ 1000000000) (hp2 : 0 < p2 ∧ p2 < 2147483648) (ha2 : 0 ≤ a2 ∧ a2 ≤ 10) (hb2 : 0 ≤ b2 ∧ b2 ≤ 1000000)
    (hc2 : 0 ≤ c2 ∧ c2 ≤ 10000000) (hd2 : 0 ≤ d2 ∧ d2 ≤ 1000000000) (hp3 : 0 < p3) {P : Addr} {m c : Int} {s : Nat} {x2 x5 x6 : Option V} {H : Hp} {Q : VK} (m0 : 0 < m) (s0 : s ≤ 100000)
    (k : ∀ (d : Nat) (H' : Hp), (d : Int) < m → Ex H H' → Q (.int d) H') :
    tMix p1 a1 b1 p2 a2 b2 c2 d2 p3 { nx := fun _ H' => Q .non H', rt := Q } [some (.ref P), some (.int m), x2, some (.int (s : Int)), some (.int c), x5, x6] H := by
  have e1 : 0 ≤ c % p1 := Int.emod_nonneg _ (by omega)
  have e2 : c % p1 < p1 := Int.emod_lt_of_pos _ hp1.1
  have e3 : 0 ≤ a1 * (s : Int) := Int.mul_nonneg ha1.1 (by omega)
  have e4 : a1 * (s : Int) ≤ 10000000 * 100000 := Int.mul_le_mul ha1.2 (by omega) (by omega) (by omega)
  have f0 : 0 ≤ (c % p1 + a1 * (s : Int) + b1) ^ 5 % p2 := Int.emod_nonneg _ (by omega)
  have f1 : (c % p1 + a1 * (s : Int) + b1) ^ 5 % p2 < p2 := Int.emod_lt_of_pos _ hp2.1
  refine q_asg (ev_mod hp2.1 (ev_int1 (ev_pow (i := c % p1 + a1 * (s : Int) + b1) (j := 5) ⟨by omega, by omega, by omega⟩ (ev_add (ev_add (ev_mod hp1.1 (ev_int1 (ev_var rfl)) ev_c) (ev_mul (small_mul ha1.1 (by omega)) ev_c (ev_var rfl))) ev_c) ev_c)) ev_c) fun H1 x1 => ?_
  have e5 : (5 : Int).toNat = 5 := rfl
  rw [e5]
  generalize hm : (c % p1 + a1 * (s : Int) + b1) ^ 5 % p2 = mx at f0 f1 ⊢
  have bd := bound_mix (m := mx) (s := (s : Int)) f0 (by omega) (by omega) (by omega) ha2.1 ha2.2 hb2.1 hb2.2 hc2.1 hc2.2 hd2.1 hd2.2
  have e6 : 0 ≤ c2 * (s : Int) := Int.mul_nonneg hc2.1 (by omega)
  have e7 : c2 * (s : Int) ≤ 10000000 * 100000 := Int.mul_le_mul hc2.2 (by omega) (by omega) (by omega)
  have g0 : 0 ≤ (mx * (a2 * (s : Int) + b2) + c2 * (s : Int) * (s : Int) + d2) ^ 3 % p3 := Int.emod_nonneg _ (by omega)
  refine q_asg (ev_mod hp3 (ev_int1 (ev_pow (i := mx * (a2 * (s : Int) + b2) + c2 * (s : Int) * (s : Int) + d2) (j := 3) ⟨by omega, by omega, by omega⟩
    (ev_add (ev_add (ev_mul (small_mul f0 (by omega)) (ev_var rfl) (ev_add (ev_mul (small_mul ha2.1 (by omega)) ev_c (ev_var rfl)) ev_c)) (ev_mul (small_mul e6 (by omega)) (ev_mul (small_mul hc2.1 (by omega)) ev_c (ev_var rfl)) (ev_var rfl))) ev_c) ev_c)) ev_c) fun H2 x2 => ?_
  have e8 : (3 : Int).toNat = 3 := rfl
  rw [e8]
  generalize hn : (mx * (a2 * (s : Int) + b2) + c2 * (s : Int) * (s : Int) + d2) ^ 3 % p3 = my at g0 ⊢
  refine s_ret (ev_mod m0 (ev_int1 (ev_div (i := my) (j := 32) ⟨by decide, by decide⟩ (ev_var rfl) ev_c)) (ev_var rfl)) fun H3 x3 => ?_
  have h0 : 0 ≤ my / 32 % m := Int.emod_nonneg _ (by omega)
  have h1 : my / 32 % m < m := Int.emod_lt_of_pos _ m0
  have h2 : ((my / 32 % m).toNat : Int) = my / 32 % m := Int.toNat_of_nonneg h0
  have z := k (my / 32 % m).toNat H3 (by omega) ((x1.trans x2).trans x3)
  rw [h2] at z
  exact z
theorem draw_reads {K : PySem.W.Frag} {c1 c0 p1 a1 b1 p2 a2 b2 c2 d2 p3 : Int} (hc1 : 0 ≤ c1 ∧ c1 ≤ 10000000) (hp1 : 0 < p1 ∧ p1 < 2147483648) (ha1 : 0 ≤ a1 ∧ a1 ≤ 10000000) (hb1 : 0 ≤ b1 ∧ b1 ≤ 1000000000) (hp2 : 0 < p2 ∧ p2 < 2147483648)
    (ha2 : 0 ≤ a2 ∧ a2 ≤ 10) (hb2 : 0 ≤ b2 ∧ b2 ≤ 1000000) (hc2 : 0 ≤ c2 ∧ c2 ≤ 10000000) (hd2 : 0 ≤ d2 ∧ d2 ≤ 1000000000) (hp3 : 0 < p3) {P L : Addr} {ns : List Int} {s : Nat} {g m : Int} {H : Hp} {Q : VK}
    (m0 : 0 < m) (m1 : m < 1000000000) (pen : Pen H P L ns s g) (s0 : s ≤ 100000)
    (k : ∀ (d : Nat) (s' : Nat) (g' : Int) (H' : Hp), (d : Int) < m → s' ≤ s + 1 → But P H H' → Pen H' P L ns s' g' → Q (.int d) H') :
    tDraw K c1 c0 p1 a1 b1 p2 a2 b2 c2 d2 p3 { nx := fun _ H' => Q .non H', rt := Q } [some (.ref P), some (.int m), none, none, none, none, none] H := by
  -- what the state is behind a store
  have stored : ∀ {H1 : Hp} {s' : Nat} {g' : Int}, Ex H H1 → 0 ≤ g' → Pen (upd H1 P (.lst [.ref L, .int s', .int g'])) P L ns s' g' := fun {H1 s' g'} x h =>
    ⟨upd_same, by rw [upd_ne pen.ne]; exact x _ _ pen.cells, pen.ne, pen.few, h⟩
  have hdv : CDiv 0 m := ⟨m0, by omega⟩
  refine q_when (b := decide (0 < g)) (et_test (ev_op (ev_pg pen rfl rfl) ev_c rv_I0)) (fun hb H1 x1 => ?_) (fun _ H1 x1 => ?_)
  · -- a digit of a great cell
    have pen1 := pen.mono x1
    have h0 : 0 ≤ g % m := Int.emod_nonneg _ (by omega)
    have h1 : g % m < m := Int.emod_lt_of_pos _ m0
    have h2 : ((g % m).toNat : Int) = g % m := Int.toNat_of_nonneg h0
    refine q_asg (ev_mod m0 (ev_int1 (ev_pg pen1 rfl rfl)) (ev_var rfl)) fun H2 x2 => ?_
    have pen2 := pen1.mono x2
    refine q_setL (j := 2) pen2.pen (ev_div ⟨m0, by omega⟩ (ev_int1 (ev_pg pen2 rfl rfl)) (ev_var rfl)) (ev_var rfl) ev_c (by show 2 < 3; decide) fun H3 x3 => ?_
    refine s_ret (ev_var rfl) fun H4 x4 => ?_
    have x03 := (x1.trans x2).trans x3
    have z := k (g % m).toNat s (g / m) H4 (by omega) (Nat.le_succ _) ((But.put (But.of_ex x03)).trans (But.of_ex x4)) ((stored x03 (Int.ediv_nonneg pen.left (by omega))).mono x4)
    rw [h2] at z
    exact z
  · have pen1 := pen.mono x1
    refine q_asg (ev_pg pen1 rfl rfl) fun H2 x2 => ?_
    have pen2 := pen1.mono x2
    refine q_setL (j := 1) pen2.pen (ev_add (ev_var rfl) ev_c) (ev_var rfl) ev_c (by show 1 < 3; decide) fun H3 x3 => ?_
    have x03 := (x1.trans x2).trans x3
    have pen4 : Pen (upd H3 P (.lst [.ref L, .int ((s + 1 : Nat) : Int), .int g])) P L ns (s + 1) g := stored x03 pen.left
    have but4 : But P H (upd H3 P (.lst [.ref L, .int ((s + 1 : Nat) : Int), .int g])) := But.put (But.of_ex x03)
    show tSeq _ _ _ _ (upd H3 P (.lst [.ref L, .int ((s + 1 : Nat) : Int), .int g]))
    generalize hH : upd H3 P (HO.lst [V.ref L, V.int ((s + 1 : Nat) : Int), V.int g]) = H4 at pen4 but4 ⊢
    refine q_asg (ev_add (ev_mul (small_mul hc1.1 (by omega)) ev_c (ev_var rfl)) ev_c) fun H5 x5 => ?_
    have pen5 := pen4.mono x5
    -- the cell, if there is one
    have tail : ∀ (c : Int) (H6 : Hp), Ex H4 H6 → tSeq (tIfS (tAnd (tTest (tOp rLtI (tVar 3) (tLenOf K (tPg K 0)))) (tTest (tOp rGeI (tAbsOf (tVar 4)) (tOp rPowI (cI 10) (cI 18))))) (tGreat K) tNext) (tMix p1 a1 b1 p2 a2 b2 c2 d2 p3)
        { nx := fun _ H' => Q .non H', rt := Q } [some (.ref P), some (.int m), none, some (.int (s : Int)), some (.int c), none, none] H6 := by
      intro c H6 x6
      have pen6 := pen4.mono x6
      refine q_when (et_and (et_test (ev_op (ev_var rfl) (ev_lenC pen6 rfl) rv_I0)) fun _ => et_test (ev_op (ev_abs1 (ev_var rfl)) (ev_pow (i := 10) (j := 18) ⟨by decide, by decide, by decide⟩ ev_c ev_c) rv_I0)) (fun hb H7 x7 => ?_) (fun _ H7 x7 => ?_)
      · have hb2 : (10 : Int) ^ (18 : Int).toNat ≤ (if c < 0 then -c else c) := by
          have := (Bool.and_eq_true_iff.mp hb).2
          exact of_decide_eq_true this
        have pen7 := pen6.mono x7
        refine q_asg (ev_add (ev_mul (small_mul (by decide) (by decide)) ev_c (ev_sub (ev_abs1 (ev_var rfl)) (ev_pow (i := 10) (j := 18) ⟨by decide, by decide, by decide⟩ ev_c ev_c))) (ev_bool1 (ev_op (ev_var rfl) ev_c rv_I0))) fun H8 x8 => ?_
        have ge : 0 ≤ 2 * ((if c < 0 then -c else c) - (10 : Int) ^ (18 : Int).toNat) + (if decide (c < 0) = true then 1 else 0) := by
          have : (0 : Int) ≤ if decide (c < 0) = true then 1 else 0 := by split <;> decide
          omega
        generalize 2 * ((if c < 0 then -c else c) - (10 : Int) ^ (18 : Int).toNat) + (if decide (c < 0) = true then 1 else 0) = gr at ge ⊢
        have pen8 := pen7.mono x8
        refine q_setL (j := 2) pen8.pen (ev_div ⟨m0, by omega⟩ (ev_int1 (ev_var rfl)) (ev_var rfl)) (ev_var rfl) ev_c (by show 2 < 3; decide) fun H9 x9 => ?_
        refine s_ret (ev_mod m0 (ev_int1 (ev_var rfl)) (ev_var rfl)) fun H10 x10 => ?_
        have h0 : 0 ≤ gr % m := Int.emod_nonneg _ (by omega)
        have h1 : gr % m < m := Int.emod_lt_of_pos _ m0
        have h2 : ((gr % m).toNat : Int) = gr % m := Int.toNat_of_nonneg h0
        have x49 := ((x6.trans x7).trans x8).trans x9
        have pen9 : Pen (upd H9 P (.lst [.ref L, .int ((s + 1 : Nat) : Int), .int (gr / m)])) P L ns (s + 1) (gr / m) :=
          ⟨upd_same, by rw [upd_ne pen.ne]; exact x49 _ _ pen4.cells, pen.ne, pen.few, Int.ediv_nonneg ge (by omega)⟩
        have z := k (gr % m).toNat (s + 1) (gr / m) H10 (by omega) (Nat.le_refl _) ((but4.trans (But.put (But.of_ex x49))).trans (But.of_ex x10)) (pen9.mono x10)
        rw [h2] at z
        exact z
      · exact mix_reads hp1 ha1 hb1 hp2 ha2 hb2 hc2 hd2 hp3 m0 s0 fun d H8 hd x8 => k d (s + 1) g H8 hd (Nat.le_refl _) (but4.trans (But.of_ex ((x6.trans x7).trans x8))) (pen4.mono ((x6.trans x7).trans x8))
    refine q_when (b := !PyData.eqv (.list (dints ns)) (.list [])) (et_test (ev_opL (ev_pg pen5 rfl rfl) (el_lst ea_nil (Nat.zero_le _)) fun p H6 hp x6 =>
      rv_neD (fun H7 x7 => .lst (sq_of ((x6.trans x7) _ _ pen5.cells)) (dp_ints ns)) (fun H7 x7 => .lst (sq_of (x7 _ _ hp)) .nil) (shaped_ints ns) (shaped_ints []))) (fun hb H6 x6 => ?_) (fun _ H6 x6 => tail _ H6 (x5.trans x6))
    have hn : 0 < ns.length := by
      rw [eqv_empty] at hb
      cases ns with
      | nil => exact absurd hb (by decide)
      | cons a r => exact Nat.succ_pos _
    have pen6 := pen5.mono x6
    have hlt : s % ns.length < ns.length := Nat.mod_lt _ hn
    refine s_asg (ev_op (ev_pg pen6 rfl rfl) (ev_mod (by omega) (ev_int1 (ev_var rfl)) (ev_lenC pen6 rfl)) (rv_ixL (v := .int (ns[s % ns.length]'hlt)) (sq_of pen6.cells) ?_)) fun H7 x7 => tail _ H7 ((x5.trans x6).trans x7)
    have e : ((s : Int) % (ns.length : Int)) = ((s % ns.length : Nat) : Int) := by simp
    rw [e]
    refine atI_nat ?_
    simp [vints, List.getElem?_map, List.getElem?_eq_getElem hlt]
theorem cut_ints (ns : List Int) (lo hi : Option Int) : ∃ ms : List Int, cutV (vints ns) lo hi = vints ms ∧ ms.length ≤ ns.length := by
  refine ⟨(ns.drop (HT.sIx (vints ns).length 0 lo)).take (HT.sIx (vints ns).length (vints ns).length hi - HT.sIx (vints ns).length 0 lo), ?_, ?_⟩
  · unfold cutV vints
    rw [List.map_take, List.map_drop]
  · rw [List.length_take, List.length_drop]
    omega
/-- [list(script[:n]), 0, 0] -/
def tPen (K : PySem.W.Frag) (n : Int) : TS := tRet (tLst (tCons (tCB (rListS K) (tCons (tSl (rSlL K) (tVar 0) tNoPart (tPart (cI n))) tNil)) (tCons (cI 0) (tCons (cI 0) tNil))))
theorem pen_reads {K : PySem.W.Frag} {n : Int} {a : Addr} {ns : List Int} {H : Hp} {Q : VK} (hS : SqL K H a (vints ns)) (hl : ns.length ≤ 63)
    (k : ∀ (P L : Addr) (ms : List Int) (H' : Hp), H P = none → Ex H H' → Pen H' P L ms 0 0 → Q (.ref P) H') : tPen K n { nx := fun _ H' => Q .non H', rt := Q } [some (.ref a)] H := by
  obtain ⟨ms, hm, hlen⟩ := cut_ints ns none (some n)
  refine ⟨_, rfl, n, rfl, a, vints ns, rfl, hS, fun p hp => ?_⟩
  rw [hm]
  refine ⟨p, vints ms, rfl, .inl (sq_of upd_same), fun l hl' => ⟨by show 3 ≤ sizeLine; decide, fun P hP => ?_⟩⟩
  have e1 : Ex H (upd H p (.lst (vints ms))) := Ex.new hp
  have e2 : Ex (upd H p (.lst (vints ms))) (upd (upd H p (.lst (vints ms))) l (.lst (vints ms))) := Ex.new hl'
  have ne : l ≠ P := ne_of_none upd_same hP
  exact k P l ms _ (fresh_back (e1.trans e2) hP) ((e1.trans e2).trans (Ex.new hP)) ⟨upd_same, by rw [upd_ne ne]; exact upd_same, ne, by omega, Int.le_refl _⟩
/-- some[draw(pen, len(some))] -/
def tPick (K : PySem.W.Frag) : TS := tRet (tOp (rIxL K) (tVar 1) (tCall spDraw [] E0 (tCons (tVar 0) (tCons (tLenOf K (tVar 1)) tNil))))
theorem pick_reads {K : PySem.W.Frag} {P L l : Addr} {ns : List Int} {xs : List V} {s : Nat} {g : Int} {H : Hp} {Q : VK} (x0 : xs ≠ []) (xl : xs.length ≤ 1000) (hl : H l = some (.lst xs)) (ne : l ≠ P) (pen : Pen H P L ns s g) (s0 : s ≤ 100000)
    (k : ∀ (v : V) (s' : Nat) (g' : Int) (H' : Hp), v ∈ xs → s' ≤ s + 1 → But P H H' → Pen H' P L ns s' g' → Q v H') :
    tPick K { nx := fun _ H' => Q .non H', rt := Q } [some (.ref P), some (.ref l)] H := by
  have pos : 0 < xs.length := List.length_pos_iff.mpr x0
  refine ⟨_, rfl, _, rfl, _, rfl, _, xs, rfl, .inl (sq_of hl), P, L, ns, s, g, (xs.length : Int), rfl, by omega, by omega, pen, s0, fun d s' g' H' hd hs but pen' => ?_⟩
  have hd' : d < xs.length := by omega
  exact ⟨l, xs, d, xs[d], rfl, rfl, sq_of (but _ _ ne hl), atI_nat (List.getElem?_eq_getElem hd'), k _ s' g' H' (List.getElem_mem hd') hs but pen'⟩
end KU

set_option Elab.async false
set_option linter.all false
set_option maxRecDepth 100000
set_option maxHeartbeats 4000000
/-! The draws of this law's text -/
namespace K02
open PySem PySem.Spec PyProof.Rows L2 Evl KU
abbrev sPen : Stmt := top 32
abbrev sDraw : Stmt := top 33
abbrev sPick : Stmt := top 34
section
variable {P : Program} {w : World} {K : PySem.W.Frag} {mg : Str → Option Value} {base : Heap}
theorem scDraw : FnScope ["_law_pen_here", "_law_many", "_law_digit", "_law_spot", "_law_cell", "_law_great", "_law_mixed"] ["_law_pen_here", "_law_many"] (defScope sDraw) :=
  ⟨rfl, rfl, rfl, by decide +kernel, rfl, by decide +kernel, by decide +kernel⟩
theorem ok_draw {f : Addr} {fd : FuncData} (F : Fun K "_law_draw" "_law_draw" sDraw f fd) (T : Free mg) : FnOk P w K mg base CX0 1 f fd ["_law_pen_here", "_law_many"] spDraw := by
  refine F.ok scDraw (fun vs H Q E h => ?_) (fun cdv A outer s H vs Q E hr h => ?_)
  · obtain ⟨_, _, _, _, _, _, rfl, _⟩ := h
    rfl
  · obtain ⟨P, L, ns, s, g, m, rfl, m0, m1, pen, s0, k⟩ := h
    have nd := scDraw.nd
    refine ⟨_, (pss_cons (ps_if (pt_cmpR op_gt (pe_ix ix_list (pv 0) pe_int (fun _ _ => rfl)) pe_int (nomark _))
 (pss_cons (ps_set (i := 2) nd rfl (.inl rfl) (pe_op op_mod (pe_callTy call_int1 (by rfl) T.int (by decide +kernel) (pa_cons (pe_ix ix_list (pv 0) pe_int (fun _ _ => rfl)) pa_nil)) (pv 1)))
 (pss_cons (ps_asg (pe_op op_fdiv (pe_callTy call_int1 (by rfl) T.int (by decide +kernel) (pa_cons (pe_ix ix_list (pv 0) pe_int (fun _ _ => rfl)) pa_nil)) (pv 1)) (pg_sub (pv 0) pe_int set_list))
 (pss_one (ps_ret (pv 2)))))
 pss_nil)
 (pss_cons (ps_set (i := 3) nd rfl (.inl rfl) (pe_ix ix_list (pv 0) pe_int (fun _ _ => rfl)))
 (pss_cons (ps_asg (pe_op op_add (pv 3) pe_int) (pg_sub (pv 0) pe_int set_list))
 (pss_cons (ps_set (i := 4) nd rfl (.inl rfl) (pe_op op_add (pe_op op_mul pe_int (pv 3)) pe_int))
 (pss_cons (ps_if (pt_cmpR (op_neD hr.units) (pe_ix ix_list (pv 0) pe_int (fun _ _ => rfl)) (pe_lst pa_nil) (nomark _))
 (pss_one (ps_set (i := 4) nd rfl (.inl rfl) (pe_ix ix_list (pe_ix ix_list (pv 0) pe_int (fun _ _ => rfl)) (pe_op op_mod (pe_callTy call_int1 (by rfl) T.int (by decide +kernel) (pa_cons (pv 3) pa_nil)) (pe_callB call_len_seq (by rfl) T.len PySem.boot_len (pa_cons (pe_ix ix_list (pv 0) pe_int (fun _ _ => rfl)) pa_nil))) (fun _ _ => rfl))))
 pss_nil)
 (pss_cons (ps_if (PW.pt (pw_and (pt_cmpR op_lt (pv 3) (pe_callB call_len_seq (by rfl) T.len PySem.boot_len (pa_cons (pe_ix ix_list (pv 0) pe_int (fun _ _ => rfl)) pa_nil)) (nomark _)) (pw_and1 (pt_cmpR op_ge (pe_callB call_abs (by rfl) T.abs (by decide +kernel) (pa_cons (pv 4) pa_nil)) (pe_op op_pow pe_int pe_int) (nomark _)))))
 (pss_cons (ps_set (i := 5) nd rfl (.inl rfl) (pe_op op_add (pe_op op_mul pe_int (pe_op op_sub (pe_callB call_abs (by rfl) T.abs (by decide +kernel) (pa_cons (pv 4) pa_nil)) (pe_op op_pow pe_int pe_int))) (pe_callTy call_int1 (by rfl) T.int (by decide +kernel) (pa_cons (pe_cmpR op_lt (pv 4) pe_int (nomark _)) pa_nil))))
 (pss_cons (ps_asg (pe_op op_fdiv (pe_callTy call_int1 (by rfl) T.int (by decide +kernel) (pa_cons (pv 5) pa_nil)) (pv 1)) (pg_sub (pv 0) pe_int set_list))
 (pss_one (ps_ret (pe_op op_mod (pe_callTy call_int1 (by rfl) T.int (by decide +kernel) (pa_cons (pv 5) pa_nil)) (pv 1))))))
 pss_nil)
 (pss_cons (ps_set (i := 6) nd rfl (.inl rfl) (pe_op op_mod (pe_callTy call_int1 (by rfl) T.int (by decide +kernel) (pa_cons (pe_op op_pow (pe_op op_add (pe_op op_add (pe_op op_mod (pe_callTy call_int1 (by rfl) T.int (by decide +kernel) (pa_cons (pv 4) pa_nil)) pe_int) (pe_op op_mul pe_int (pv 3))) pe_int) pe_int) pa_nil)) pe_int))
 (pss_cons (ps_set (i := 6) nd rfl (.inl rfl) (pe_op op_mod (pe_callTy call_int1 (by rfl) T.int (by decide +kernel) (pa_cons (pe_op op_pow (pe_op op_add (pe_op op_add (pe_op op_mul (pv 6) (pe_op op_add (pe_op op_mul pe_int (pv 3)) pe_int)) (pe_op op_mul (pe_op op_mul pe_int (pv 3)) (pv 3))) pe_int) pe_int) pa_nil)) pe_int))
 (pss_one (ps_ret (pe_op op_mod (pe_callTy call_int1 (by rfl) T.int (by decide +kernel) (pa_cons (pe_op op_fdiv (pv 6) pe_int) pa_nil)) (pv 1)))))))))))), ?_⟩
    exact draw_reads (by decide) (by decide) (by decide) (by decide) (by decide) (by decide) (by decide) (by decide) (by decide) (by decide) m0 m1 pen s0 k
theorem scPick : FnScope ["_law_pen_here", "_law_some"] ["_law_pen_here", "_law_some"] (defScope sPick) := ⟨rfl, rfl, rfl, by decide +kernel, rfl, by decide +kernel, by decide +kernel⟩
structure Draws (K : PySem.W.Frag) (mg : Str → Option Value) (fD fP : Addr) : Prop extends Free mg where
  gDraw : mg "_law_draw" = some (.ref fD)
  kDraw : PySem.W.keepIn K (.ref fD) = true
  gPick : mg "_law_pick" = some (.ref fP)
  kPick : PySem.W.keepIn K (.ref fP) = true
theorem ok_pick {f fD : Addr} {fd fdD : FuncData} (F : Fun K "_law_pick" "_law_pick" sPick f fd) (T : Draws K mg fD f) (FD : Fun K "_law_draw" "_law_draw" sDraw fD fdD) (bD : Binds K fdD ["_law_pen_here", "_law_many"] []) :
    FnOk P w K mg base CX0 2 f fd ["_law_pen_here", "_law_some"] spPick := by
  have GD : FnOk P w K mg base CX0 1 fD fdD ["_law_pen_here", "_law_many"] spDraw := ok_draw FD T.toFree
  refine F.ok scPick (fun vs H Q E h => ?_) (fun cdv A outer s H vs Q E hr h => ?_)
  · obtain ⟨_, _, _, _, _, _, _, rfl, _⟩ := h
    rfl
  · obtain ⟨P, L, l, ns, xs, s, g, rfl, x0, xl, hl, ne, pen, s0, k⟩ := h
    have hr1 := hr
    refine ⟨_, (pss_one (ps_ret (pe_ix ix_list (pv 1) (pe_call GD hr1 (by rfl) T.gDraw T.kDraw bD .nil pass0 (pa_cons (pv 0) (pa_cons (pe_callB call_len_seq (by rfl) T.len PySem.boot_len (pa_cons (pv 1) pa_nil)) pa_nil))) (fun _ _ => rfl)))), ?_⟩
    exact pick_reads x0 xl hl ne pen s0 k
theorem scPen : FnScope ["_law_script"] ["_law_script"] (defScope sPen) := ⟨rfl, rfl, rfl, by decide +kernel, rfl, by decide +kernel, by decide +kernel⟩
theorem ok_pen {f : Addr} {fd : FuncData} (F : Fun K "_law_pen" "_law_pen" sPen f fd) (T : Free mg) : FnOk P w K mg base CX0 1 f fd ["_law_script"] (spPen K) := by
  refine F.ok scPen (fun vs H Q E h => ?_) (fun cdv A outer s H vs Q E hr h => ?_)
  · obtain ⟨_, _, rfl, _⟩ := h
    rfl
  · obtain ⟨a, ns, rfl, hS, hl, k⟩ := h
    refine ⟨_, (pss_one (ps_ret (pe_lst (pa_cons (pe_callTy call_list_of (by rfl) T.list (by decide +kernel) (pa_cons (pe_slice sl_list (pv 0) po_none (po_some pe_int)) pa_nil)) (pa_cons pe_int (pa_cons pe_int pa_nil)))))), ?_⟩
    exact pen_reads hS hl k
end
end K02

set_option Elab.async false
set_option linter.all false
set_option maxRecDepth 100000
set_option maxHeartbeats 4000000
/-! text * number; list(text) -/
namespace KU
open PySem PySem.Spec PyProof.Rows L2 Evl
def repS (x : Str) (n : Int) : Str := if n < 1 then Str.empty else if (n == 1 || x.length == 0) = true then x else ⟨List.foldl (fun x1 x2 => x1 ++ x2) #[] (List.replicate n.toNat x.cps)⟩
theorem rep_size (a : Array Nat) (k : Nat) : ∀ b : Array Nat, (List.foldl (fun (x1 x2 : Array Nat) => x1 ++ x2) b (List.replicate k a)).size = b.size + k * a.size := by
  induction k with
  | zero => intro b; simp
  | succ k ih =>
    intro b
    rw [List.replicate_succ, List.foldl_cons, ih, Array.size_append, Nat.add_mul]
    omega
theorem vals_ix : ∀ (xs : List V) (us : List Value), xs.length = us.length → (∀ (j : Nat) (x : V) (u : Value), xs[j]? = some x → us[j]? = some u → RelV x u) → Vals xs us
  | [], [], _, _ => .nil
  | [], _ :: _, h, _ => by cases h
  | _ :: _, [], h, _ => by cases h
  | x :: xs, u :: us, h, r => .cons (r 0 x u rfl rfl) (vals_ix xs us (by simpa using h) fun j y v a b => r (j + 1) y v (by simpa using a) (by simpa using b))
def rRepS : R2 := fun x y H Q => ∃ (z : Str) (n : Int), x = .str z ∧ y = .int n ∧ z.length ≤ 1000 ∧ 0 ≤ n ∧ n ≤ 1000 ∧ Q (.str (repS z n)) H
theorem op_repS {X : Cx} : OpR X (binaryOp .Mult) rRepS := by
  intro pins s σ H x y u v Q I rx ry h
  obtain ⟨z, n, rfl, rfl, hz, n0, n1, q⟩ := h
  obtain ⟨t1, rfl⟩ := rx
  obtain ⟨t2, rfl⟩ := ry
  refine P.mul_str ?_ ?_ ?_ ?_
  · rw [Bool.or_eq_false_iff]
    exact ⟨decide_eq_false (by omega), decide_eq_false (by omega)⟩
  · intro a b c
    have n2 : 0 < n := by omega
    have m1 : (z.length : Int) * n ≤ 1000 * 1000 := Int.mul_le_mul (by omega) n1 (by omega) (by omega)
    have := Int.le_ediv_of_mul_le (b := 2 ^ 63 - 1) n2 (Int.le_trans m1 (by decide))
    omega
  · intro a b
    have m1 : z.length * n.toNat ≤ 1000 * 1000 := Nat.mul_le_mul hz (by omega)
    unfold Builtin.Str.tooLong
    refine decide_eq_false ?_
    rw [sizeLine_eq]
    omega
  · unfold repS at q
    split
    · rename_i h1
      rw [if_pos h1] at q
      exact ⟨Nat.zero_le _, .str Str.empty, H, I.tok _, ⟨_, rfl⟩, q⟩
    · rename_i h1
      rw [if_neg h1] at q
      split
      · rename_i h2
        rw [if_pos h2] at q
        exact ⟨.str z, H, I, ⟨_, rfl⟩, q⟩
      · rename_i h2
        rw [if_neg h2] at q
        refine ⟨?_, .str _, H, I.tok _, ⟨_, rfl⟩, q⟩
        show (List.foldl (fun (x1 x2 : Array Nat) => x1 ++ x2) #[] (List.replicate n.toNat z.cps)).size ≤ _
        rw [rep_size]
        have m1 : n.toNat * z.cps.size ≤ 1000 * 1000 := Nat.mul_le_mul (by omega) hz
        rw [sizeLine_eq]
        simp
        omega
def signsV (z : Str) : List V := z.cps.toList.map fun c => V.str ⟨#[c]⟩
def rListStr : List V → Hp → VK → Prop := fun xs H Q => ∃ z : Str, xs = [.str z] ∧ z.length ≤ 1000 ∧ ∀ p, H p = none → Q (.ref p) (upd H p (.lst (signsV z)))
theorem call_listS {X : Cx} (hc : X.calm = true) : CallR X (.type "list") rListStr := by
  intro pins s σ H xs us Q I r h
  obtain ⟨z, rfl, hz, q⟩ := h
  obtain ⟨u, rfl, r1⟩ := vals1 r
  obtain ⟨t, rfl⟩ := r1
  have hz2 : z.cps.size ≤ 1000 := hz
  refine call_list_str (I.ok.hd hc) z t (fun h' tk acc c kp hD it => ?_) (by rw [sizeLine_eq]; omega)
  refine ⟨.ref s.heap.objs.size, _, I.laid (h' := h') (a := s.heap.objs.size) (o := .lst (signsV z)) kp (Nat.le_refl _) ?_, rfl, q _ (I.hok.fresh (Nat.le_refl _))⟩
  refine ⟨?_, acc.toList, c, ?_, by rw [hD]⟩
  · unfold signsV
    rw [List.length_map, sizeLine_eq]
    simp
    omega
  · obtain ⟨sz, at_⟩ := it
    refine vals_ix _ _ ?_ fun j x u hx hu => ?_
    · unfold signsV
      rw [List.length_map]
      simp [sz]
    · obtain ⟨c2, t2, h1, rfl⟩ := at_ j u (by simpa using hu)
      unfold signsV at hx
      rw [List.getElem?_map] at hx
      have : z.cps.toList[j]? = some c2 := by simpa using h1
      rw [this] at hx
      cases hx
      exact ⟨_, rfl⟩
end KU

set_option Elab.async false
set_option linter.all false
set_option maxRecDepth 100000
set_option maxHeartbeats 4000000
/-! The law's own: drawn alphabets, drawn texts -/
namespace K02
open PySem PySem.Spec PyProof.Rows L2 Evl KU
abbrev sText : Stmt := top 35
abbrev sSigns : Stmt := top 36
def alphas : List Str :=
  let one : Str := "01"
  one :: one :: "ab" :: "012" ::
  "xyz" :: "09az" :: "0z" :: []
def spSigns : Sp := fun vs H Q _ => ∃ (P L : Addr) (ns : List Int) (s : Nat) (g : Int), vs = [.ref P] ∧ Pen H P L ns s g ∧ s ≤ 100000 ∧
  ∀ (al : Str) (s' : Nat) (g' : Int) (H' : Hp), al ∈ alphas → s' ≤ s + 1 → But P H H' → Pen H' P L ns s' g' → Q (.str al) H'
section
variable {P : Program} {w : World} {K : PySem.W.Frag} {mg : Str → Option Value} {base : Heap}
theorem But.from_new {P l : Addr} {H H' : Hp} {o : HO} (hl : H l = none) (b : But P (upd H l o) H') : But P H H' := fun x u n h => b x u n (by
  have ne : x ≠ l := by
    rintro rfl
    rw [h] at hl
    cases hl
  rw [upd_ne ne]
  exact h)
theorem scSigns : FnScope ["_law_pen_here"] ["_law_pen_here"] (defScope sSigns) := ⟨rfl, rfl, rfl, by decide +kernel, rfl, by decide +kernel, by decide +kernel⟩
theorem ok_signs {f fP fD : Addr} {fd fdP fdD : FuncData} (F : Fun K "_law_signs" "_law_signs" sSigns f fd) (T : Draws K mg fD fP) (FP : Fun K "_law_pick" "_law_pick" sPick fP fdP) (bP : Binds K fdP ["_law_pen_here", "_law_some"] [])
    (FD : Fun K "_law_draw" "_law_draw" sDraw fD fdD) (bD : Binds K fdD ["_law_pen_here", "_law_many"] []) : FnOk P w K mg base CX0 3 f fd ["_law_pen_here"] spSigns := by
  have GP : FnOk P w K mg base CX0 2 fP fdP ["_law_pen_here", "_law_some"] spPick := ok_pick FP T FD bD
  refine F.ok scSigns (fun vs H Q E h => ?_) (fun cdv A outer s H vs Q E hr h => ?_)
  · obtain ⟨_, _, _, _, _, rfl, _⟩ := h
    rfl
  · obtain ⟨P, L, ns, s, g, rfl, pen, s0, k⟩ := h
    refine ⟨_, pss_one (ps_ret (pe_call GP hr (by rfl) T.gPick T.kPick bP .nil pass0 (pa_cons (pv 0) (pa_cons (pe_lst (pa_cons pe_str (pa_cons pe_str (pa_cons pe_str (pa_cons pe_str (pa_cons pe_str (pa_cons pe_str (pa_cons pe_str pa_nil)))))))) pa_nil)))), ?_⟩
    refine ⟨_, rfl, by show 7 ≤ sizeLine; decide, fun l hl => ?_⟩
    have ne : l ≠ P := by
      rintro rfl
      rw [pen.pen] at hl
      cases hl
    have x1 : Ex H (upd H l (.lst (alphas.map V.str))) := Ex.new hl
    refine ⟨P, L, l, ns, alphas.map V.str, s, g, rfl, by decide, by decide, upd_same, ne, pen.mono x1, s0, fun v s' g' H' hv hs but pen' => ?_⟩
    obtain ⟨al, ha, rfl⟩ := List.mem_map.mp hv
    exact k al s' g' H' ha hs (But.from_new hl but) pen'
/-- a text of some signs alone -/
def Over (al t : Str) : Prop := ∀ c ∈ t.cps.toList, c ∈ al.cps.toList
def spTextB (b : Nat) : Sp := fun vs H Q _ => ∃ (P L : Addr) (ns : List Int) (s : Nat) (g : Int) (al : Str) (m : Nat), vs = [.ref P, .str al, .int (m : Int)] ∧ m ≤ b ∧ 0 < al.length ∧ al.length ≤ 100 ∧ Pen H P L ns s g ∧ s ≤ 90000 ∧
  ∀ (t : Str) (s' : Nat) (g' : Int) (H' : Hp), Over al t → t.length ≤ m → s' ≤ s + (b + 2) → But P H H' → Pen H' P L ns s' g' → Q (.str t) H'
abbrev spText : Sp := spTextB 8
theorem pick_sign {P L : Addr} {ns : List Int} {s : Nat} {g : Int} {al : Str} {σ : L2.St} {H : Hp} {Q : VK} {E : XK} (h0 : σ[0]? = some (some (.ref P))) (h1 : σ[1]? = some (some (.str al))) (pen : Pen H P L ns s g) (s0 : s ≤ 100000) (al0 : 0 < al.length) (al1 : al.length ≤ 100)
    (k : ∀ (c : Nat) (s' : Nat) (g' : Int) (H' : Hp), c ∈ al.cps.toList → s' ≤ s + 1 → But P H H' → Pen H' P L ns s' g' → Q (.str ⟨#[c]⟩) H') : tCall spPick [] E (tCons (tVar 0) (tCons (tCB rListStr (tCons (tVar 1) tNil)) tNil)) σ H Q := by
  have len : (signsV al).length = al.length := by
    unfold signsV
    rw [List.length_map]
    show _ = al.cps.size
    simp
  refine ⟨_, h0, _, h1, al, rfl, by omega, fun l hl => ?_⟩
  have ne : l ≠ P := by
    rintro rfl
    rw [pen.pen] at hl
    cases hl
  refine ⟨P, L, l, ns, signsV al, s, g, rfl, ?_, by omega, upd_same, ne, pen.mono (Ex.new hl), s0, fun v s' g' H' hv hs but pen' => ?_⟩
  · intro e
    rw [e] at len
    rw [← len] at al0
    exact absurd al0 (by decide)
  · unfold signsV at hv
    obtain ⟨c, hc, rfl⟩ := List.mem_map.mp hv
    exact k c s' g' H' hc hs (But.from_new hl but) pen'
theorem over_rep {al : Str} {c : Nat} (hc : c ∈ al.cps.toList) {n : Int} (n0 : 0 ≤ n) : Over al (repS ⟨#[c]⟩ n) ∧ (repS ⟨#[c]⟩ n).length ≤ n.toNat := by
  unfold repS
  split
  · exact ⟨(fun d hd => by cases hd), Nat.zero_le _⟩
  · split
    · refine ⟨fun d hd => ?_, (by show 1 ≤ _; omega)⟩
      have : d = c := by simpa using hd
      rw [this]
      exact hc
    · refine ⟨?_, ?_⟩
      · have gen : ∀ (k : Nat) (b : Array Nat), (∀ d ∈ b.toList, d ∈ al.cps.toList) → ∀ d ∈ (List.foldl (fun (x1 x2 : Array Nat) => x1 ++ x2) b (List.replicate k #[c])).toList, d ∈ al.cps.toList := by
          intro k
          induction k with
          | zero => intro b hb; exact hb
          | succ k ih =>
            intro b hb
            rw [List.replicate_succ, List.foldl_cons]
            refine ih _ fun d hd => ?_
            rw [Array.toList_append] at hd
            rcases List.mem_append.mp hd with h | h
            · exact hb d h
            · have : d = c := by simpa using h
              rw [this]
              exact hc
        exact gen _ _ fun d hd => by cases hd
      · show (List.foldl (fun (x1 x2 : Array Nat) => x1 ++ x2) #[] (List.replicate n.toNat #[c])).size ≤ _
        rw [rep_size]
        simp
theorem scText : FnScope ["_law_pen_here", "_law_signs_here", "_law_most", "_law_many", "_law_found", "_law_turn"] ["_law_pen_here", "_law_signs_here", "_law_most"] (defScope sText) := ⟨rfl, rfl, rfl, by decide +kernel, rfl, by decide +kernel, by decide +kernel⟩
theorem ok_textB {b : Nat} (hb1 : 1 ≤ b) (hb : b ≤ 100) {f fP fD : Addr} {fd fdP fdD : FuncData} (F : Fun K "_law_text" "_law_text" sText f fd) (T : Draws K mg fD fP) (FP : Fun K "_law_pick" "_law_pick" sPick fP fdP) (bP : Binds K fdP ["_law_pen_here", "_law_some"] [])
    (FD : Fun K "_law_draw" "_law_draw" sDraw fD fdD) (bD : Binds K fdD ["_law_pen_here", "_law_many"] []) : FnOk P w K mg base CX0 3 f fd ["_law_pen_here", "_law_signs_here", "_law_most"] (spTextB b) := by
  have GP : FnOk P w K mg base CX0 2 fP fdP ["_law_pen_here", "_law_some"] spPick := ok_pick FP T FD bD
  have GD : FnOk P w K mg base CX0 1 fD fdD ["_law_pen_here", "_law_many"] spDraw := ok_draw FD T.toFree
  refine F.ok scText (fun vs H Q E h => ?_) (fun cdv A outer s H vs Q E hr h => ?_)
  · obtain ⟨_, _, _, _, _, _, _, rfl, _⟩ := h
    rfl
  · obtain ⟨P, L, ns, s, g, al, m, rfl, hm, al0, al1, pen, s0, k⟩ := h
    have nd := scText.nd
    refine ⟨_, pss_cons (ps_par (i := 3) (j := 4) (by rfl) nd rfl rfl (by decide) rfl rfl (pa_cons (pe_call GD (hr.mono (by decide)) (by rfl) T.gDraw T.kDraw bD .nil pass0 (pa_cons (pv 0) (pa_cons (pe_op op_add (pv 2) pe_int) pa_nil))) (pa_cons pe_str pa_nil)) (by rfl))
      (pss_cons (ps_if (pt_cmpR op_eq (pe_call GD (hr.mono (by decide)) (by rfl) T.gDraw T.kDraw bD .nil pass0 (pa_cons (pv 0) (pa_cons pe_int pa_nil))) pe_int (nomark _))
        (pss_one (ps_ret (pe_op op_repS (pe_call GP hr (by rfl) T.gPick T.kPick bP .nil pass0 (pa_cons (pv 0) (pa_cons (pe_callTy (call_listS rfl) (by rfl) T.list (by decide +kernel) (pa_cons (pv 1) pa_nil)) pa_nil))) (pv 3)))) pss_nil)
      (pss_cons (ps_for PassesOwn.never rfl (pi_range1 rfl T.range (pa_cons (pv 3) pa_nil)) (pg_name (i := 5) nd rfl (.inl rfl))
        (pss_one (ps_set (i := 4) nd rfl (.inl rfl) (pe_op op_add_str (pv 4) (pe_call GP hr (by rfl) T.gPick T.kPick bP .nil pass0 (pa_cons (pv 0) (pa_cons (pe_callTy (call_listS rfl) (by rfl) T.list (by decide +kernel) (pa_cons (pv 1) pa_nil)) pa_nil)))))))
      (pss_one (ps_ret (pv 4))))), ?_⟩
    refine ⟨_, rfl, _, rfl, _, _, rfl, rfl, P, L, ns, s, g, (m : Int) + 1, rfl, by omega, by omega, pen, by omega, fun d s1 g1 H1 hd hs1 but1 pen1 => ⟨_, _, rfl, ?_⟩⟩
    refine ⟨_, rfl, P, L, ns, s1, g1, 4, rfl, by decide, by decide, pen1, by omega, fun d2 s2 g2 H2 hd2 hs2 but2 pen2 => ⟨rfl, _, rfl, ?_⟩⟩
    have b02 := but1.trans but2
    show (if decide ((V.int (d2 : Int)) = V.int 0) = true then _ else _)
    by_cases e0 : (V.int (d2 : Int)) = V.int 0
    · rw [if_pos (decide_eq_true e0)]
      refine pick_sign rfl rfl pen2 (by omega) al0 al1 fun c s3 g3 H3 hc hs3 but3 pen3 => ⟨_, rfl, ⟨#[c]⟩, (d : Int), rfl, rfl, by show 1 ≤ 1000; decide, by omega, by omega, ?_⟩
      obtain ⟨o1, o2⟩ := over_rep hc (n := (d : Int)) (by omega)
      exact k _ s3 g3 H3 o1 (by omega) (by omega) (b02.trans but3) pen3
    · rw [if_neg (by rw [decide_eq_false e0]; decide)]
      refine q_forR1 (n := (d : Int)) (ea_cons (ev_var rfl) ea_nil) ⟨by omega, by omega⟩ (fun i σ' H' => ∃ (t : Str) (y5 : Option V) (s3 : Nat) (g3 : Int), σ' = [some (.ref P), some (.str al), some (.int (m : Int)), some (.int (d : Int)), some (.str t), y5] ∧ Over al t ∧ t.length ≤ i ∧ s3 ≤ s2 + i ∧ But P H H' ∧ Pen H' P L ns s3 g3)
        (fun H3 x3 => ⟨"", _, s2, g2, rfl, (fun c hc => by cases hc), Nat.le_refl _, Nat.le_refl _, b02.trans (But.of_ex x3), pen2.mono x3⟩) (fun i σ' H' hi p => ?_) fun σ' H' p => ?_
      · obtain ⟨t, y5, s3, g3, rfl, o, tl, sl, bb, pp⟩ := p
        refine ⟨_, rfl, pick_sign rfl rfl pp (by omega) al0 al1 fun c s4 g4 H4 hc hs4 but4 pen4 => ⟨t, ⟨#[c]⟩, rfl, rfl, ?_, t ++ ⟨#[c]⟩, _, s4, g4, rfl, ?_, ?_, by omega, bb.trans but4, pen4⟩⟩
        · have : (⟨#[c]⟩ : Str).length = 1 := rfl
          rw [this, sizeLine_eq]
          omega
        · intro x hx
          have e : (t ++ (⟨#[c]⟩ : Str)).cps.toList = t.cps.toList ++ [c] := by
            show (t.cps ++ #[c]).toList = _
            simp
          rw [e] at hx
          rcases List.mem_append.mp hx with h | h
          · exact o x h
          · rw [List.mem_singleton.mp h]
            exact hc
        · show (t.cps ++ #[c]).size ≤ _
          have : t.length = t.cps.size := rfl
          rw [Array.size_append]
          simp
          omega
      · obtain ⟨t, y5, s3, g3, rfl, o, tl, sl, bb, pp⟩ := p
        exact s_ret (ev_var rfl) fun H4 x4 => k t s3 g3 H4 o (by omega) (by omega) (bb.trans (But.of_ex x4)) (pp.mono x4)
theorem ok_text {f fP fD : Addr} {fd fdP fdD : FuncData} (F : Fun K "_law_text" "_law_text" sText f fd) (T : Draws K mg fD fP) (FP : Fun K "_law_pick" "_law_pick" sPick fP fdP) (bP : Binds K fdP ["_law_pen_here", "_law_some"] [])
    (FD : Fun K "_law_draw" "_law_draw" sDraw fD fdD) (bD : Binds K fdD ["_law_pen_here", "_law_many"] []) : FnOk P w K mg base CX0 3 f fd ["_law_pen_here", "_law_signs_here", "_law_most"] spText := ok_textB (by decide) (by decide) F T FP bP FD bD
end
end K02

set_option Elab.async false
set_option linter.all false
set_option maxRecDepth 100000
set_option maxHeartbeats 4000000
/-! Sets of texts: what such a set holds, one text more -/
namespace KU
open PySem PySem.Spec PyProof.Rows L2
/-- the text of an entry -/
def tkey (e : Int × Value) : Str := match e.2 with | .str k _ => k | _ => Str.empty
def GoodT (w : World) (e : Int × Value) : Prop := ∃ k u, e.2 = Value.str k u ∧ e.1 = hashStr w k
/-- what the entries and the table of a set of texts are; S tells the texts -/
structure Held (w : World) (es : Array (Int × Value)) (t : SetTable) (S : Str → Bool) (n : Nat) : Prop where
  good : ∀ e ∈ es.toList, GoodT w e
  once : (es.toList.map tkey).Nodup
  mem : ∀ k, S k = true ↔ k ∈ es.toList.map tkey
  num : es.size = n
  few : n < scanBound
  fits : t.fits es.size = true
  ris : Ris t.place.toList
  led : w.params.followText "set-order" = true ∨ t.led = true
def SetS (w : World) (h : Heap) (a : Addr) (S : Str → Bool) (n : Nat) : Prop := ∃ o es ep t, h.get? a = some o ∧ o.ExactSet ∧ o.data = .set es ep t ∧ Held w es t S n
section
variable {P : Program} {w : World} {h h' : Heap} {a : Addr} {S : Str → Bool} {n : Nat}
theorem SetS.keep (R : SetS w h a S n) (k : ∀ o, h.get? a = some o → h'.get? a = some o) : SetS w h' a S n := by
  obtain ⟨o, es, ep, t, ho, r⟩ := R
  exact ⟨o, es, ep, t, k o ho, r⟩
theorem SetS.same {S' : Str → Bool} (R : SetS w h a S n) (e : ∀ k, S' k = S k) : SetS w h a S' n := by
  rw [show S' = S from funext e]
  exact R
theorem goodT_elems {l : List (Int × Value)} (g : ∀ e ∈ l, GoodT w e) : ElemsOf (PySem.strKind P w) l := fun e he => by
  obtain ⟨k, u, q1, q2⟩ := g e he
  refine ⟨⟨k, ?_, q2⟩, ?_⟩
  · rw [q1]
    exact strKind_is P w k u
  · rw [q1]
    rfl
theorem goodT_is {e : Int × Value} (g : GoodT w e) (k : Str) : (PySem.strKind P w).is k e.2 = true ↔ tkey e = k := by
  obtain ⟨k0, u, q, _⟩ := g
  have e1 : tkey e = k0 := by
    unfold tkey
    rw [q]
  have i0 : (PySem.strKind P w).is k0 e.2 = true := by
    rw [q]
    exact strKind_is P w k0 u
  rw [e1]
  constructor
  · intro z
    exact (PySem.strKind P w).inj e.2 k0 k i0 z
  · intro z
    rw [← z]
    exact i0
theorem goodT_mem {l : List (Int × Value)} (g : ∀ e ∈ l, GoodT w e) (k : Str) : k ∈ l.map tkey ↔ ∃ e ∈ l, (PySem.strKind P w).is k e.2 = true := by
  rw [List.mem_map]
  exact exists_congr fun e => and_congr_right fun he => (goodT_is (g e he) k).symm
theorem Held.turn {es es' : Array (Int × Value)} {t t' : SetTable} (R : Held w es t S n) (p : es'.toList.Perm es.toList) (hf : t'.fits es'.size = true) (hr : Ris t'.place.toList) (hl : t'.led = t.led) : Held w es' t' S n where
  good := fun e he => R.good e (p.mem_iff.mp he)
  once := (p.map tkey).nodup_iff.mpr R.once
  mem := fun k => (R.mem k).trans (p.map tkey).mem_iff.symm
  num := by
    have z := p.length_eq
    rw [Array.length_toList, Array.length_toList] at z
    exact z.trans R.num
  few := R.few
  fits := hf
  ris := hr
  led := R.led.imp id fun z => hl.trans z
theorem Held.more {es es' : Array (Int × Value)} {t t' : SetTable} {k : Str} {u : Tok} (R : Held w es t S n) (room : n + 1 < scanBound) (no : k ∉ es.toList.map tkey) (p : es'.toList.Perm ((hashStr w k, Value.str k u) :: es.toList))
    (hf : t'.fits es'.size = true) (hr : Ris t'.place.toList) (hl : t'.led = t.led) : Held w es' t' (fun j => S j || decide (j = k)) (n + 1) := by
  have pk : (es'.toList.map tkey).Perm (k :: es.toList.map tkey) := p.map tkey
  refine ⟨fun e he => ?_, pk.nodup_iff.mpr (List.nodup_cons.mpr ⟨no, R.once⟩), fun j => ?_, ?_, room, hf, hr, R.led.imp id fun z => hl.trans z⟩
  · rcases List.mem_cons.mp (p.mem_iff.mp he) with q | q
    · rw [q]
      exact ⟨k, u, rfl, rfl⟩
    · exact R.good e q
  · rw [Bool.or_eq_true, decide_eq_true_eq, R.mem j, pk.mem_iff, List.mem_cons, or_comm]
  · have z := p.length_eq
    rw [List.length_cons, Array.length_toList, Array.length_toList, R.num] at z
    exact z
end
section
variable {P : Program} {w : World} {A : Around} {E : Value → Shared → Prop} {s : Shared} {a : Addr} {S : Str → Bool} {n : Nat}
theorem tail_addS {g : Bool → Sem Unit} {o : Obj} {es es1 : Array (Int × Value)} {ep m : Nat} {t t2 : SetTable} {S' : Str → Bool} {wd : Bool} {R : Option Bool → Shared → Prop}
    (hg : ∀ (b : Bool) (s1 : Shared) (Q' : Unit → Shared → Prop), Q' () s1 → wpAny (model P w) A (g b) Q' E s1) (ho : s.heap.get? a = some o) (hex : o.ExactSet) (hd : o.data = .set es ep t) (hold : Held w es1 t2 S' m)
    (hR : ∀ h', Heap.SameBut a s.heap h' → SetS w h' a S' m → R (some true) { s with heap := h' }) :
    wpAny (model P w) A (do
        storeSet a es1 t2
        if (!wd && t2.tooFull) = true then do
            g (relayAll t2 es1 (SetTable.grown es1.size)).2.2
            storeSet a (relayAll t2 es1 (SetTable.grown es1.size)).1 (relayAll t2 es1 (SetTable.grown es1.size)).2.1
            pure (some true)
          else pure (some true)) R E s := by
  have b1 : es1.size < scanBound := by
    rw [hold.num]
    exact hold.few
  refine wpAny_bind (wpAny_storeSet_of ho hd ?_ (fits_of_scanBound b1))
  have o1 := store_at (es' := es1) (t' := t2) ho hd
  have k1 := Heap.SameBut.update s.heap a (Obj.putSet es1 t2)
  split
  · have pm := relayAll_perm t2 es1 (SetTable.grown es1.size)
    have f3 := relayAll_fits t2 es1 (SetTable.grown es1.size)
    have r3 := relayAll_ris t2 es1 (SetTable.grown es1.size)
    have l3 := relayAll_led t2 es1 (SetTable.grown es1.size)
    generalize relayAll t2 es1 (SetTable.grown es1.size) = Y at pm f3 r3 l3 ⊢
    obtain ⟨es2, t3, gv⟩ := Y
    dsimp only at pm f3 r3 l3 ⊢
    have h2 := hold.turn pm f3 r3 l3
    have b2 : es2.size < scanBound := by
      rw [h2.num]
      exact h2.few
    refine wpAny_bind (hg _ _ _ (wpAny_bind (wpAny_storeSet_of o1 rfl ?_ (fits_of_scanBound b2))))
    exact wpAny_pure (hR _ (k1.trans (Heap.SameBut.update _ a _)) ⟨_, es2, _, t3, store_at (es' := es2) (t' := t3) o1 rfl, hex, rfl, h2⟩)
  · exact wpAny_pure (hR _ k1 ⟨_, es1, _, t2, o1, hex, rfl, hold⟩)
theorem hashed_addS {k : Str} {u : Tok} {Q : Bool → Shared → Prop} (R : SetS w s.heap a S n) (room : n + 1 < scanBound)
    (hQ : ∀ h', Heap.SameBut a s.heap h' → SetS w h' a (fun j => S j || decide (j = k)) (if S k = true then n else n + 1) → Q (!S k) { s with heap := h' }) :
    wpAny (model P w) A (setAddHashed a (.str k u) ((PySem.strKind P w).hash k)) Q E s := by
  obtain ⟨o, es, ep, t, ho, hex, hd, hold⟩ := R
  have hkey : (PySem.strKind P w).is k (.str k u) = true := strKind_is P w k u
  have hsc : (Value.str k u).scannable = true := rfl
  have hel : ElemsOf (PySem.strKind P w) es.toList := goodT_elems hold.good
  have hb : es.size < scanBound := by
    rw [hold.num]
    exact hold.few
  unfold setAddHashed setAddHashedIn
  refine wpAny_holding (wpAny_bind (wpAny_setState_of ho hd hold.fits ?_))
  dsimp only
  rw [byScan_of hsc hb hel]
  simp only [↓reduceIte]
  unfold setAddByScan
  refine wpAny_bind ?_
  refine wpAny_bind (wpAny_rule ?_)
  refine wpAny_bind (wpAny_setScan_of hkey ho hd hold.fits hel ?_)
  cases hfi : List.findIdx? (fun e => (PySem.strKind P w).is k e.2) es.toList with
  | some j =>
    dsimp only
    obtain ⟨hj, pj, _⟩ := List.findIdx?_eq_some_iff_getElem.mp hfi
    have hSk : S k = true := (hold.mem k).mpr ((goodT_mem (P := P) hold.good k).mpr ⟨_, List.getElem_mem hj, pj⟩)
    refine wpAny_pure (wpAny_pure ?_)
    have q := hQ s.heap (Heap.SameBut.refl a s.heap)
    rw [hSk, if_pos rfl] at q
    refine q ⟨o, es, ep, t, ho, hex, hd, { hold with mem := fun i => ?_ }⟩
    rw [Bool.or_eq_true, decide_eq_true_eq, ← hold.mem i]
    constructor
    · rintro (z | rfl)
      · exact z
      · exact hSk
    · exact .inl
  | none =>
    dsimp only
    have no : k ∉ es.toList.map tkey := fun z => by
      obtain ⟨e, he, q⟩ := (goodT_mem (P := P) hold.good k).mp z
      have c := List.findIdx?_eq_none_iff.mp hfi e he
      rw [q] at c
      cases c
    have hSk : S k = false := by
      cases q : S k with
      | false => rfl
      | true => exact absurd ((hold.mem k).mp q) no
    have way : ∀ (b : Bool) {s1 : Shared} {Q' : Unit → Shared → Prop}, Q' () s1 → wpAny (model P w) A (match b with | true => rule "set.scan.the-table-gave-way" | false => pure ()) Q' E s1 :=
      fun b s1 Q' q => by cases b <;> first | exact wpAny_pure q | exact wpAny_rule q
    have pm := layNew_perm t es ((PySem.strKind P w).hash k) (.str k u)
    have f1 := layNew_fits t es ((PySem.strKind P w).hash k) (.str k u)
    have r1 := layNew_ris t es ((PySem.strKind P w).hash k) (.str k u) hold.ris
    have l1 := layNew_led t es ((PySem.strKind P w).hash k) (.str k u)
    generalize layNew t es ((PySem.strKind P w).hash k) (.str k u) = Y at pm f1 r1 l1 ⊢
    obtain ⟨es1, t1, wd, gv⟩ := Y
    dsimp only at pm f1 r1 l1 ⊢
    rw [Array.toList_push] at pm
    have pc : es1.toList.Perm ((hashStr w k, Value.str k u) :: es.toList) := pm.trans (List.perm_append_singleton _ _)
    have fin : ∀ h', Heap.SameBut a s.heap h' → SetS w h' a (fun j => S j || decide (j = k)) (n + 1) → Q true { s with heap := h' } := fun h' sb r => by
      have q := hQ h' sb
      rw [hSk] at q
      exact q r
    refine wpAny_bind (way _ ?_)
    split
    · refine wpAny_bind ?_
      rw [hashByValue_scannable 8 hsc]
      refine wpAny_pure ?_
      refine tail_addS ?_ ho hex hd (hold.more room no pc ?_ ?_ ?_) ?_
      · intro b s1 Q' q
        cases b <;> first | exact wpAny_pure q | exact wpAny_rule q
      · first | (split <;> first | exact f1 | exact SetTable.fits_plain_off f1) | exact f1
      · first | (split <;> exact r1) | exact r1
      · first | (split <;> exact l1) | exact l1
      · intro h' sb r
        dsimp only
        exact wpAny_pure (fin h' sb r)
    · refine wpAny_bind (wpAny_pure ?_)
      simp only [↓reduceIte]
      refine tail_addS ?_ ho hex hd (hold.more room no pc f1 r1 l1) ?_
      · intro b s1 Q' q
        cases b <;> first | exact wpAny_pure q | exact wpAny_rule q
      · intro h' sb r
        dsimp only
        exact wpAny_pure (fin h' sb r)
theorem heldS_new {w : World} {h : Heap} {a : Addr} (ho : h.get? a = some { cls := .type "set", dict := none, data := .set #[] 0 (.fresh 0 0 (!w.params.followText "set-order")) }) : SetS w h a (fun _ => false) 0 := by
  refine ⟨_, #[], 0, _, ho, ⟨rfl, rfl, rfl⟩, rfl, ⟨fun e he => ?_, ?_, fun k => ?_, rfl, by decide, by rfl, List.Pairwise.nil, ?_⟩⟩
  · simp at he
  · simp
  · simp
  · show _ ∨ (!w.params.followText "set-order") = true
    cases w.params.followText "set-order"
    · exact .inr rfl
    · exact .inl rfl
end
end KU

set_option Elab.async false
set_option linter.all false
set_option maxRecDepth 100000
set_option maxHeartbeats 4000000
/-! set(list of texts), sorted(set of texts) -/
namespace KU
open PySem PySem.Spec PyProof.Rows L2
section
variable {P : Program} {w : World} {A : Around} {E : Value → Shared → Prop} {s : Shared}
theorem update_txt {I : Addr} {fp wr : List Addr} {G : Array GenState → Array GenState → Prop} {n : Nat} {Pv : Nat → Value → Prop} {St : Nat → Shared → Prop} {R : Result → Shared → Prop} (W : WalksS P w A.in1 I fp wr G n Pv St) (D : Addr) (hDf : D ∉ fp)
    (ws : List Str) (hn : n = ws.length) (hb : ws.length + 1 < scanBound) (hval : ∀ i v, Pv i v → ∃ k t, ws[i]? = some k ∧ v = .str k t) :
    ∀ (m i : Nat) (s : Shared), n - i = m → i ≤ n → St i s → (∃ c, c ≤ i ∧ SetS w s.heap D (fun j => decide (j ∈ ws.take i)) c) →
      (∀ s' c, Moved (D :: wr) G s s' → c ≤ n → SetS w s'.heap D (fun j => decide (j ∈ ws)) c → R (.ok (.ret .none)) s') → codeAny (model P w) A (.builtin "set.update.loop" ⟨[.ref D, .ref I], []⟩) R s := by
  have hDw : D ∉ wr := fun z => hDf (W.sub _ z)
  have up : ∀ b ∈ wr, b ∈ D :: wr := fun b hb => List.mem_cons_of_mem _ hb
  intro m
  induction m with
  | zero =>
    rintro i s hm hi hst ⟨c, hc, hS⟩ hR
    obtain rfl : i = n := by omega
    refine codeAny_builtin PyProof.Rows.F.entry_set_update_loop ?_
    rw [Around.under_plainId PyProof.Rows.F.plain_set_update_loop _]
    show wpAny _ A.in1 (pyNext (.ref I) >>= _) _ _ s
    refine wpAny_bind (W.done s _ _ hst fun s' mv => ?_)
    show wpAny _ A.in1 (ret Value.none) _ _ s'
    rw [List.take_of_length_le (by omega)] at hS
    exact wpAny_pure (hR s' c (mv.mono up) hc (hS.keep fun o e => mv.heap D o hDw e))
  | succ m ih =>
    rintro i s hm hi hst ⟨c, hc, hS⟩ hR
    have lt : i < n := by omega
    refine codeAny_builtin PyProof.Rows.F.entry_set_update_loop ?_
    rw [Around.under_plainId PyProof.Rows.F.plain_set_update_loop _]
    show wpAny _ A.in1 (pyNext (.ref I) >>= _) _ _ s
    refine wpAny_bind (W.item i s _ _ lt hst fun v s' hP hst' mv => ?_)
    obtain ⟨z, t, hz, rfl⟩ := hval i v hP
    have hS' : SetS w s'.heap D (fun j => decide (j ∈ ws.take i)) c := hS.keep fun o e => mv.heap D o hDw e
    show wpAny _ A.in1 (holding [Value.str z t] (setAdd D (.str z t)) >>= _) _ _ s'
    refine wpAny_bind (wpAny_holding ?_)
    unfold setAdd
    refine wpAny_holding (wpAny_bind ((PySem.strKind P w).pyHash (k := z) (strKind_is P w z t) ?_))
    refine hashed_addS (s := { s' with toks := s'.toks + 1 }) hS' (by omega) fun h' sb hS2 => ?_
    have hS3 : SetS w h' D (fun j => decide (j ∈ ws.take (i + 1))) (if decide (z ∈ ws.take i) = true then c else c + 1) := hS2.same fun j => by
      rw [List.take_add_one, hz]
      simp [List.mem_append]
    have c3 : (if decide (z ∈ ws.take i) = true then c else c + 1) ≤ i + 1 := by
      split <;> omega
    refine wpAny_pure ⟨plainId_quiet PyProof.Rows.F.plain_set_update_loop _, ih (i + 1) _ (by omega) lt (W.frame _ s' _ _ hst' (Nat.le_succ _) fun b hb o e => ?_) ⟨_, c3, hS3⟩ fun s2 c2 mv2 hc2 hSz => ?_⟩
    · rw [sb.2 b fun z => hDf (z ▸ hb)]
      exact e
    · refine hR s2 c2 (Moved.trans W.gtrans ((mv.mono up).then_heap (Nat.le_succ _) fun b o hb e => ?_) mv2) hc2 hSz
      rw [sb.2 b fun z => hb (by rw [z]; exact List.mem_cons_self)]
      exact e
abbrev newSetO (w : World) : Obj := { cls := .type "set", dict := none, data := .set #[] 0 (.fresh 0 0 (!w.params.followText "set-order")) }
set_option maxHeartbeats 3200000 in
theorem call_set_txt {l : Addr} {items : Array Value} (ws : List Str) {Q : Value → Shared → Prop} (hh : A.handled = none) (hl : s.heap.IsList l items) (hit : StrsAre items.toList ws) (hb : ws.length + 1 < scanBound)
    (h : ∀ (h' : Heap) (tk c : Nat), SetS w h' s.heap.objs.size (fun j => decide (j ∈ ws)) c → c ≤ ws.length → (∀ b o, s.heap.get? b = some o → h'.get? b = some o) → Q (.ref s.heap.objs.size) { s with heap := h', toks := tk }) :
    wpAny (model P w) A (call (.type "set") [.ref l]) Q E s := by
  have isz : items.size = ws.length := by
    have q := StrsAre.len_eq hit
    rw [Array.length_toList] at q
    exact q
  obtain ⟨c, tl, hmro⟩ := PySem.F.called_set.mro
  have hmade := PySem.F.called_set.made
  have hsub := PySem.F.called_set.sub
  refine wpAny_call (codeAny_of_tree ?_)
  show wpAny _ _ (callAny (.type "set") _) _ _ _
  refine wpAny_pure ⟨Code.quiet_builtin _ (by decide +kernel), codeAny_builtin PySem.F.entry_type_call ?_⟩
  rw [Around.under_plain (weight_type_call_type "set" [.ref l] []) rfl]
  have t1 := PySem.F.called_set.notType
  have t2 := PySem.F.called_set.canCreate
  have t3 := PySem.F.typeCall_set_1 (.ref l)
  repeat (any_goals (first | assumption | wp_step))
  refine codeAny_mono (code_set_led1 (.ref l) (E := E) (Q₁ := fun obj s₁ => obj = .ref s.heap.objs.size ∧ s₁ = { s with heap := s.heap.push (newSetO w) }) ⟨rfl, rfl⟩) fun r s₁ hr => ?_
  cases r with
  | error e => exact hr
  | ok fl =>
    cases fl with
    | ret obj =>
      obtain ⟨rfl, rfl⟩ := hr
      have hS : (s.heap.push (newSetO w)).get? s.heap.objs.size = some (newSetO w) := Heap.get?_push_size _ rfl
      have hT : Shared.TypeIs { s with heap := s.heap.push (newSetO w) } (.ref s.heap.objs.size) "set" := ⟨_, hS, rfl⟩
      have hli := PySem.F.called_set.init.lookup
      have hbi := PySem.F.called_set.init.bind (.ref s.heap.objs.size)
      repeat (any_goals (first | assumption | wp_step))
      refine codeAny_mono (codeAny_call_builtin (R := wants (fun r s₂ => r = .none ∧ ∃ h' tk c, s₂ = { s with heap := h', toks := tk } ∧ SetS w h' s.heap.objs.size (fun j => decide (j ∈ ws)) c ∧ c ≤ ws.length ∧
          ∀ b o, s.heap.get? b = some o → h'.get? b = some o) E) PySem.F.called_set.init.plain PySem.F.entry_set_init (check_set_init_1 hT ?_)) fun r2 s2 hr2 => ?_
      · obtain ⟨ol, hol, hcl, nl, hdl⟩ := hl
        obtain ⟨ocls, odict, odata, oslots⟩ := ol
        simp only at hcl hdl
        subst hcl
        subst hdl
        have hol' : (s.heap.push (newSetO w)).get? l = some { cls := .type "list", dict := odict, data := .seq items nl, slots := oslots } := Heap.get?_push_of_some _ hol
        have hsls := PySem.F.sub_list_set
        have hslf := PySem.F.sub_list_frozenset
        have hne : (Value.type "list" == Value.type "dict") = false := by decide
        have hl1 : (s.heap.push (newSetO w)).IsList l items := ⟨_, hol', rfl, nl, rfl⟩
        unfold Builtin.«set.__init__» noKeywords Builtin.Frozenset.updateFrom
        generalize hPI : pyIter = PI
        wp_walk
        subst hPI
        refine wpAny_pyIter_list hl1 (wpAny_bind (wpAny_runValue ?_))
        have lt : l < s.heap.objs.size := Heap.lt_size hol
        have h3 : A.in1.in1.in1.handled = none := by simp [hh]
        have z1 : (s.heap.push (newSetO w)).objs.size = s.heap.objs.size + 1 := Heap.size_push ..
        have ne1 : l ≠ (s.heap.push (newSetO w)).objs.size := by
          rw [z1]
          exact Nat.ne_of_lt (Nat.lt_succ_of_lt lt)
        have ne2 : s.heap.objs.size ∉ [(s.heap.push (newSetO w)).objs.size, l] := by
          rw [z1]
          simp only [List.mem_cons, List.not_mem_nil, or_false, not_or]
          exact ⟨Nat.ne_of_lt (Nat.lt_succ_self _), Nat.ne_of_gt lt⟩
        have hval : ∀ (i : Nat) (v : Value), items[i]? = some v → ∃ k t, ws[i]? = some k ∧ v = .str k t := fun i v hv => by
          have hi : i < ws.length := by
            rw [← isz]
            exact (Array.getElem?_eq_some_iff.mp hv).1
          obtain ⟨t, e⟩ := SS.strs_at hit i v (by rw [Array.getElem?_toList]; exact hv)
          refine ⟨ws[i], t, List.getElem?_eq_getElem hi, ?_⟩
          rw [e, List.getD_eq_getElem?_getD, List.getElem?_eq_getElem hi]
          rfl
        refine update_txt ((Walks.list h3 _ l ne1 items).toS) s.heap.objs.size ne2 ws isz hb hval (items.size - 0) 0 _ (by omega) (Nat.zero_le _) ⟨⟨_, Heap.get?_push_size _ rfl, rfl, rfl⟩, (hl1.push _)⟩ ?hS0 ?hR
        case hS0 =>
          have hget : ((s.heap.push (newSetO w)).push { cls := .type "list_iterator", data := .fields #[.ref l, .int 0 0] }).get? s.heap.objs.size = some (newSetO w) := Heap.get?_push_of_some _ hS
          exact ⟨0, Nat.le_refl 0, (heldS_new hget).same fun k => by simp⟩
        case hR =>
          intro s' c' mv hc' hS'
          obtain ⟨h', g2, d', tk', os'⟩ := s'
          have eg : g2 = s.gens := mv.gens
          have ed : d' = s.drawn := mv.drawn
          have eo : os' = s.os := mv.os
          subst eg
          subst ed
          subst eo
          show wpAny _ _ _ _ _ _
          refine wpAny_pure ?_
          show wpAny _ _ (ret Value.none) _ _ _
          rw [isz] at hc'
          refine wpAny_pure ⟨rfl, h', tk', c', rfl, hS', hc', fun b o e => ?_⟩
          have b0 : b < s.heap.objs.size := Heap.lt_size e
          refine mv.heap b o ?_ (Heap.get?_push_of_some _ (Heap.get?_push_of_some _ e))
          rw [z1]
          simp only [List.mem_cons, List.not_mem_nil, or_false, not_or]
          exact ⟨Nat.ne_of_lt b0, Nat.ne_of_lt (Nat.lt_succ_of_lt b0)⟩
      · cases r2 with
        | error e => exact hr2
        | ok fl2 =>
          cases fl2 with
          | ret r =>
            obtain ⟨rfl, h', tk, c', rfl, hS', hc', hk'⟩ := hr2
            repeat (any_goals (first | assumption | wp_step))
            exact h _ _ _ hS' hc' hk'
          | _ => exact hr2.elim
    | _ => exact hr.elim
theorem strs_of : ∀ (l : List Value), (∀ v ∈ l, ∃ k tk, v = Value.str k tk) → StrsAre l (l.map fun v => tkey (0, v))
  | [], _ => .nil
  | v :: l, h => by
    obtain ⟨k, tk, rfl⟩ := h v List.mem_cons_self
    exact .cons k tk (strs_of l fun u hu => h u (List.mem_cons_of_mem _ hu))
theorem sorted_setS {a : Addr} {S : Str → Bool} {n : Nat} {Q : Value → Shared → Prop} (R : SetS w s.heap a S n) (hh : A.handled = none) (h64 : n < 64)
    (hQ : ∀ s' p (out : Array Value) (c : Nat) (ys : List Str), (∀ b o, s.heap.get? b = some o → s'.heap.get? b = some o) → s'.gens = s.gens → s'.os = s.os → s.heap.objs.size ≤ p → s'.heap.get? p = some (seqObj "list" out c) →
      StrsAre out.toList ys → sortedS ys = true → ys.Nodup → (∀ k, k ∈ ys ↔ S k = true) → ys.length = n → Q (.ref p) s') : wpAny (model P w) A (call (.builtin "sorted") [.ref a]) Q E s := by
  obtain ⟨o, es, ep, t, ho, hex, hd, R⟩ := R
  refine Calls.call_function_entry kind_sorted plain_sorted entry_sorted (args_sorted1 _) ?_
  unfold Builtin.«sorted»
  refine wpAny_bind (m := checkCount "sorted" 1 1 _) (wpAny_pure ?_)
  refine wpAny_bind (collect_set (A := A.in1) hh ⟨o, ho, hex.1, hd⟩ R.fits (by rw [R.num]; exact R.few) R.ris R.led fun s1 vs k1 hz g1 o1 pm => ?_)
  have vl : vs.length = n := by
    rw [pm.length_eq, List.length_map, Array.length_toList]
    exact R.num
  have hI : StrsAre vs (vs.map fun v => tkey (0, v)) := strs_of vs fun v hv => by
    obtain ⟨e, he, q⟩ := List.mem_map.mp (pm.mem_iff.mp hv)
    obtain ⟨k, tk, h1, _⟩ := R.good e he
    exact ⟨k, tk, q ▸ h1⟩
  have pk : (vs.map fun v => tkey (0, v)).Perm (es.toList.map tkey) := by
    have q := pm.map fun v => tkey (0, v)
    rw [List.map_map] at q
    exact q
  refine wpAny_bind (wpAny_newList ?_ (by rw [vl, sizeLine_eq]; omega))
  have hoL : (s1.heap.push (seqObj "list" vs.toArray 0)).get? s1.heap.objs.size = some (seqObj "list" vs.toArray 0) := Heap.get?_push_size _ rfl
  refine wpAny_bind (wpAny_holding (wpAny_call_entry slot_list_sort ⟨_, hoL, rfl⟩ entry_list_sort (list_sort_treeK strKind_oneLt hoL hI.keysOf (fun v1 v2 rest e => keyKind_strs (by rw [← e]; exact hI)) (by rw [vl]; exact h64) fun st' hp hs => ⟨_, rfl, ?_⟩) (args_list_sort _)))
  obtain ⟨ys, a1, a2, a3⟩ := sorted_out_str hI hp hs
  obtain ⟨c, hc⟩ := sortedHeap_at (vs := vs) (out := (arrOf st').map (·.2)) hoL
  have pn : ys.Perm (es.toList.map tkey) := a2.trans pk
  refine wpAny_pure ⟨_, rfl, hQ _ s1.heap.objs.size ((arrOf st').map (·.2)) c ys (fun b u e => ?_) g1 o1 hz hc a1 a3 (pn.nodup_iff.mpr R.once) (fun k => by rw [pn.mem_iff, ← R.mem k]) ?_⟩
  · have q := k1 b u e
    have lt := Heap.lt_size q
    show (sortedHeap (s1.heap.push (seqObj "list" vs.toArray 0)) s1.heap.objs.size vs ((arrOf st').map (·.2))).get? b = some u
    rw [sortedHeap_old (Nat.ne_of_lt lt) (by rw [size_push']; exact Nat.lt_succ_of_lt lt)]
    exact Heap.get?_push_of_some _ q
  · rw [pn.length_eq, List.length_map, Array.length_toList]
    exact R.num
end
end KU

set_option Elab.async false
set_option linter.all false
set_option maxRecDepth 100000
set_option maxHeartbeats 4000000
/-! set(texts), sorted(set(texts)) as rules -/
namespace KU
open PySem PySem.Spec PyProof.Rows L2 Evl
def SetSO (w : World) (a : Addr) (S : Str → Bool) (n : Nat) : HO := .ext fun h => SetS w h a S n
theorem setSO_new {P : Program} {w : World} {H : Hp} {h : Heap} {a : Addr} {S : Str → Bool} {n : Nat} (R : SetS w h a S n) : ObjOk P w H h a (SetSO w a S n) := by
  obtain ⟨o, es, ep, t, ho, r⟩ := id R
  exact ⟨R, ⟨o, ho⟩, fun h1 h2 p k => SetS.keep p k⟩
section
variable {X : Cx}
def rSetTxt (K : PySem.W.Frag) (w : World) : List V → Hp → VK → Prop := fun xs H Q => ∃ (l : Addr) (ws : List Str), xs = [V.ref l] ∧ SqL K H l (ws.map V.str) ∧ ws.length ≤ 1000 ∧ ∀ a c, H a = none → c ≤ ws.length → Q (.ref a) (upd H a (SetSO w a (fun j => decide (j ∈ ws)) c))
theorem cr_setTxt (hc : X.calm = true) : CallR X (.type "set") (rSetTxt X.K X.w) := by
  intro pins s σ H xs us Q I r h
  obtain ⟨l, ws, rfl, hl, hn, q⟩ := h
  rw [Vals.ref1 r]
  obtain ⟨its, rv, pl, hz⟩ := I.list hl
  refine call_set_txt (P := X.prog) (w := X.w) ws (I.ok.hd hc) pl.isList (by simpa using rv.strs) (by unfold scanBound; omega) fun h' tk c R hc' k => ?_
  exact ⟨.ref s.heap.objs.size, _, I.laid (t' := tk) k (Nat.le_refl _) (setSO_new R), rfl, q _ c (I.hok.fresh (Nat.le_refl _)) hc'⟩
def rSortedTxt (w : World) : List V → Hp → VK → Prop := fun vs H Q => ∃ (a : Addr) (S : Str → Bool) (n : Nat), vs = [V.ref a] ∧ H a = some (SetSO w a S n) ∧ n < 64 ∧
  ∀ (ys : List Str) (p : Addr), sortedS ys = true → ys.Nodup → (∀ k, k ∈ ys ↔ S k = true) → H p = none → Q (.ref p) (upd H p (.lst (ys.map V.str)))
theorem cr_sortedTxt (hc : X.calm = true) : CallR X (.builtin "sorted") (rSortedTxt X.w) := by
  intro pins s σ H vs us Q I r h
  obtain ⟨a, S, n, rfl, ha, h64, q⟩ := h
  have R : SetS X.w s.heap a S n := (I.hok a _ ha).1
  rw [Vals.ref1 r]
  refine sorted_setS R (I.ok.hd hc) h64 fun s' p out c ys k g o hp hg hi hs nd hm hl => ?_
  have hlen : (ys.map V.str).length ≤ sizeLine := by
    rw [List.length_map, hl, sizeLine_eq]
    omega
  have hn : H p = none := I.hok.fresh hp
  have J : Inv X pins σ (upd H p (.lst (ys.map V.str))) { s with heap := s'.heap, gens := s'.gens, drawn := s'.drawn, toks := s'.toks } :=
    I.call (ch := []) (Un.laid k hp hn) (I.hok.laid k hp ⟨hlen, out.toList, c, vals_of_strs hi, hg⟩) (by rw [g]; exact I.bare) (fun _ z => nomatch z)
  have e : s' = { s with heap := s'.heap, gens := s'.gens, drawn := s'.drawn, toks := s'.toks } := by
    cases s'
    cases s
    cases o
    rfl
  rw [e]
  exact ⟨.ref p, _, J, rfl, q ys p hs nd hm hn⟩
end
/-- the texts, each once, in order -/
def srt (ws : List Str) : List Str := (uniq ws).mergeSort fun a b => decide (a.cps.toList ≤ b.cps.toList)
theorem rising_of : ∀ (x : Str) (l : List Str), (x :: l).Pairwise (fun a b => a.cps.toList ≤ b.cps.toList) → risingS x l = true
  | _, [], _ => rfl
  | x, y :: r, h => by
    obtain ⟨h1, h2⟩ := List.pairwise_cons.mp h
    have z := rising_of y r h2
    simp only [risingS, Bool.and_eq_true, Bool.not_eq_true']
    refine ⟨?_, z⟩
    cases g : ltCps y.cps.toList x.cps.toList with
    | false => rfl
    | true => exact absurd ((ltCps_iff _ _).mp g) (List.not_lt.mpr (h1 y List.mem_cons_self))
theorem sorted_of {l : List Str} (h : l.Pairwise fun a b => a.cps.toList ≤ b.cps.toList) : sortedS l = true := by
  cases l with
  | nil => rfl
  | cons x r => exact rising_of x r h
theorem srt_perm (ws : List Str) : (srt ws).Perm (uniq ws) := List.mergeSort_perm _ _
theorem srt_sorted (ws : List Str) : sortedS (srt ws) = true := by
  refine sorted_of ?_
  have z := List.pairwise_mergeSort (le := fun a b : Str => decide (a.cps.toList ≤ b.cps.toList)) (fun a b c h1 h2 => decide_eq_true (List.le_trans (of_decide_eq_true h1) (of_decide_eq_true h2)))
    (fun a b => by
      rw [Bool.or_eq_true, decide_eq_true_eq, decide_eq_true_eq]
      exact List.le_total _ _) (uniq ws)
  exact z.imp fun h => of_decide_eq_true h
theorem mem_srt (ws : List Str) (x : Str) : x ∈ srt ws ↔ x ∈ ws := (srt_perm ws).mem_iff.trans (mem_uniq ws x)
theorem nodup_srt (ws : List Str) : (srt ws).Nodup := (srt_perm ws).nodup_iff.mpr (nodup_uniq ws)
theorem srt_len (ws : List Str) : (srt ws).length ≤ ws.length := by
  rw [(srt_perm ws).length_eq]
  exact uniq_len ws
/-- sorted, each once, of the same texts: that list -/
theorem srt_is {ys ws : List Str} (h1 : sortedS ys = true) (h2 : ys.Nodup) (h3 : ∀ k, k ∈ ys ↔ k ∈ ws) : ys = srt ws :=
  sorted_unique ((List.perm_ext_iff_of_nodup h2 (nodup_srt ws)).mpr fun k => (h3 k).trans (mem_srt ws k).symm) h1 (srt_sorted ws)
section
variable {K : PySem.W.Frag} {σ : L2.St} {H : Hp} {te : TE} {ws : List Str} {w : World}
theorem el_srt (h : EvL te σ H (ws.map V.str)) (few : ws.length < 64) : EvL (tCB (rSortedTxt w) (tCons (tCB (rSetTxt K w) (tCons te tNil)) tNil)) σ H ((srt ws).map V.str) := fun H1 x1 Q q =>
  h H1 x1 _ fun p H2 hp x2 e => ⟨p, ws, rfl, sq_of e, by omega, fun a c ha hc => ⟨a, _, c, rfl, upd_same, by omega, fun ys q' hs nd hm hq => by
    have ey : ys = srt ws := srt_is hs nd fun k => (hm k).trans decide_eq_true_iff
    subst ey
    have n1 : H2 q' = none := fresh_back (Ex.new ha) hq
    exact q q' _ (fresh_back x2 n1) ((x2.trans (Ex.new ha)).trans (Ex.new hq)) upd_same⟩⟩
end
end KU

set_option Elab.async false
set_option linter.all false
set_option maxRecDepth 100000
set_option maxHeartbeats 4000000
/-! The law's own: least words, ends -/
namespace K02
open PySem PySem.Spec PyProof.Rows L2 Evl KU
abbrev sLLeast : Stmt := top 38
abbrev sLEnds : Stmt := top 39
structure FreeL (mg : Str → Option Value) : Prop extends Free mg where
  set : mg "set" = none
  bool : mg "bool" = none
/-- those of some words that hold no other one, in order, each once, as the law finds them -/
def lessL (ws : List Str) (w : Str) : List Str := (srt ws).filter fun o => !decide (V.str o = V.str w) && inS o w
def leastS (ws : List Str) : List Str := (srt ws).filter fun w => decide (lessL ws w = [])
def endsS (ws : List Str) : List Str := srt (endsL ws)
theorem leastS_is {ws ys : List Str} (h1 : ys.Perm (leastU ws)) (h2 : sortedS ys = true) : ys = leastS ws := by
  have mem : ∀ x, x ∈ leastS ws ↔ x ∈ leastU ws := fun x => by
    unfold leastS
    rw [List.mem_filter, mem_srt, mem_least]
    refine and_congr_right fun _ => ?_
    rw [decide_eq_true_eq]
    unfold lessL
    rw [List.filter_eq_nil_iff]
    constructor
    · intro h o ho ne
      have z := h o ((mem_srt ws o).mpr ho)
      rw [(ne_V o x).mpr ne, Bool.true_and] at z
      cases g : inS o x with
      | false => rfl
      | true => exact absurd g z
    · intro h o ho z
      rw [Bool.and_eq_true] at z
      rw [h o ((mem_srt ws o).mp ho) ((ne_V o x).mp z.1)] at z
      exact absurd z.2 (by decide)
  refine sorted_unique ((List.perm_ext_iff_of_nodup (h1.nodup_iff.mpr (nodup_least ws)) ((nodup_srt ws).filter _)).mpr fun x => h1.mem_iff.trans (mem x).symm) h2 (sorted_of ((sorted_pw (srt_sorted ws)).filter _))
theorem endsS_is {ws es : List Str} (h1 : es.Perm (uniq (endsL ws))) (h2 : sortedS es = true) : es = endsS ws := srt_is h2 (h1.nodup_iff.mpr (nodup_uniq _)) fun k => h1.mem_iff.trans (mem_uniq _ k)
theorem leastS_sub {ws : List Str} {t : Str} (h : t ∈ leastS ws) : t ∈ ws := (mem_srt ws t).mp (List.mem_filter.mp h).1
theorem leastS_len (ws : List Str) : (leastS ws).length ≤ ws.length := Nat.le_trans (List.length_filter_le _ _) (srt_len ws)
def spLLeast : Sp := fun vs H Q _ => ∃ (a : Addr) (ws : List Str), vs = [.ref a] ∧ H a = some (.lst (ws.map V.str)) ∧ ws.length < 64 ∧ (∀ t ∈ ws, PyData.strOk t = true) ∧ NewL ((leastS ws).map V.str) H Q
def scOuterL : Scope := { kind := .function, names := [(".0", .local), ("_law_word", .cell), ("_law_some", .cell)], isGenerator := false, isCoroutine := false }
section
variable {P : Program} {w : World} {K : PySem.W.Frag} {mg : Str → Option Value} {base : Heap}
abbrev nLL : List Str := ["_law_words_here", "_law_some", "_law_word", "_law_other"]
abbrev rStr1 : List V → Hp → VK → Prop := fun xs H Q => ∃ a : Str, xs = [V.str a] ∧ Q (V.str a) H
theorem scLLeast : FnScope nLL ["_law_words_here"] (defScope sLLeast) := ⟨rfl, rfl, rfl, by decide +kernel, rfl, by decide +kernel, by decide +kernel⟩
theorem ok_lleast {f : Addr} {fd : FuncData} (F : Fun K "_law_least" "_law_least" sLLeast f fd) (T : FreeL mg) : FnOk P w K mg base CX0 1 f fd ["_law_words_here"] spLLeast := by
  refine F.ok scLLeast (fun vs H Q E h => ?_) (fun cdv A outer s H vs Q E hr h => ?_)
  · obtain ⟨_, _, rfl, _⟩ := h
    rfl
  · obtain ⟨a, ws, rfl, ha, hl, ok, k⟩ := h
    have nd := scLLeast.nd
    refine ⟨_, pss_cons (ps_set (i := 1) nd rfl (.inr rfl) (pe_callB (cr_sortedTxt rfl) (by rfl) T.sorted (by decide +kernel) (pa_cons (pe_callTy (cr_setTxt rfl) (by rfl) T.set (by decide +kernel) (pa_cons
        (pe_lc (own := [("_law_word", 2)]) (g := gName 2) (tt := tYes) rfl nd (pi_list (pv 0)) (blkOk_by (own := [("_law_word", 2)]) (N := nLL) (sc := defScope sLLeast) (by decide +kernel))
          (fun _ _ _ _ _ => pg_name (i := 2) nd rfl (Or.inl rfl)) (fun _ _ _ _ _ => pts_nil) (fun _ _ _ _ _ => pe_callTy SkE.call_str_str (by rfl) T.str (by decide +kernel) (pa_cons (pv 2) pa_nil))) pa_nil)) pa_nil)))
      (pss_one (ps_ret (pe_lc (own := [("_law_word", 2)]) (g := gName 2) rfl nd (pi_list (pv 1)) (blkOk_by (own := [("_law_word", 2)]) (N := nLL) (sc := defScope sLLeast) (by decide +kernel))
        (fun _ _ _ _ _ => pg_name (i := 2) nd rfl (Or.inr rfl)) (fun _ _ _ _ _ => pts_one (pt_cmpR (r := rEqD K) (by exact op_eqD hr.units) (pe_lc (own := [("_law_other", 3)]) (wi := iList K (tVar 1)) (g := gName 3) rfl nd (by exact pi_list (pv 1)) (by refine blkOk_by (N := nLL) (sc := scOuterL) ?_; decide +kernel)
            (fun _ _ _ _ _ => pg_name (i := 3) nd rfl (Or.inl rfl)) (fun _ _ _ _ _ => pts_one (PW.pt (pw_and (pt_cmpR op_ne (pv 3) (pv 2) (nomark _)) (pw_and1 (pt_cmpR op_inS (pv 3) (pv 2) (by rfl)))))) (fun _ _ _ _ _ => pv 3)) (pe_lst pa_nil) (nomark _))) (fun _ _ _ _ _ => pv 2)))), ?_⟩
    have z1 := el_fmL (K := K) (σ := [some (.ref a), none, none, none]) (H := H) (te := tCB rStr1 (tCons (tVar 2) tNil)) (tl := tVar 0) (j := 2) (vs := [2]) (t := tYes) (fun _ => true) (fun x => x)
        (ev_var rfl) (sq_of ha) (by rw [List.length_map]; omega) (fun _ => rfl) (fun _ _ _ _ => et_yes) (fun x H6 x6 m _ => by
          obtain ⟨w0, mw, rfl⟩ := mem_str m
          exact ev_cb (ea_cons (ev_var rfl) ea_nil) fun H7 x7 Q7 q7 => ⟨w0, rfl, q7 H7 (Ex.refl _)⟩)
    rw [all_str, List.map_id'] at z1
    refine s_asgL (i := 1) (el_srt (K := K) (w := w) z1 hl) fun L H1 hL x1 e1 => ?_
    have sl := srt_len ws
    have fin := el_fmL (K := K) (σ := [some (.ref a), some (.ref L), none, none]) (H := H1) (te := tVar 2) (tl := tVar 1) (j := 2) (vs := [2])
      (t := tTest (tOp (rEqD K) (tLc (iList K (tVar 1)) (gName 3) (tAnd (tTest (tOp rNe (tVar 3) (tVar 2))) (tTest (tOp rInS (tVar 3) (tVar 2)))) (tVar 3) [3]) (tLst tNil))) (onSB fun w => decide (lessL ws w = [])) (fun x => x)
      (ev_var rfl) (sq_of e1) (by rw [List.length_map]; omega) (fun _ => rfl) (fun x H2 x2 m => ?_) (fun x H2 x2 m _ => ev_var rfl)
    · have e : List.map (fun x => x) (((srt ws).map V.str).filter (onSB fun w => decide (lessL ws w = []))) = (leastS ws).map V.str := by
        rw [List.map_id', List.filter_map]
        rfl
      rw [e] at fin
      exact fin H1 (Ex.refl _) _ fun p H2 hp x2 e2 => k p H2 (fresh_back x1 hp) (x1.trans x2) e2
    · obtain ⟨w0, mw, rfl⟩ := mem_str m
      refine et_test (ev_eqNil ?_ fun t ht => ok t ((mem_srt ws t).mp (List.mem_filter.mp ht).1))
      have y := el_fmL (K := K) (σ := [some (.ref a), some (.ref L), some (.str w0), none]) (H := H2) (te := tVar 3) (tl := tVar 1) (j := 3) (vs := [3])
        (t := tAnd (tTest (tOp rNe (tVar 3) (tVar 2))) (tTest (tOp rInS (tVar 3) (tVar 2)))) (onSB fun o => !decide (V.str o = V.str w0) && inS o w0) (fun x => x)
        (ev_var rfl) (sq_of (x2 _ _ e1)) (by rw [List.length_map]; omega) (fun _ => rfl) (fun x H3 x3 m3 => ?_) (fun x H3 x3 m3 _ => ev_var rfl)
      · have e : List.map (fun x => x) (((srt ws).map V.str).filter (onSB fun o => !decide (V.str o = V.str w0) && inS o w0)) = (lessL ws w0).map V.str := by
          rw [List.map_id', List.filter_map]
          rfl
        rw [e] at y
        exact y
      · obtain ⟨w1, mw1, rfl⟩ := mem_str m3
        exact et_and (et_test (ev_op (ev_var rfl) (ev_var rfl) (rv_ne rfl))) fun _ => et_test (ev_inS (ev_var rfl) (ev_var rfl))
def spLEnds : Sp := fun vs H Q _ => ∃ (a : Addr) (ws : List Str), vs = [.ref a] ∧ H a = some (.lst (ws.map V.str)) ∧ (endsL ws).length < 64 ∧ (∀ t ∈ ws, t.length ≤ 1000) ∧ NewL ((endsS ws).map V.str) H Q
abbrev nLE : List Str := ["_law_words_here", "_law_found", "_law_word", "_law_many", "_law_end"]
theorem scLEnds : FnScope nLE ["_law_words_here"] (defScope sLEnds) := ⟨rfl, rfl, rfl, by decide +kernel, rfl, by decide +kernel, by decide +kernel⟩
theorem ends_take {ws : List Str} {i : Nat} {w0 : Str} (e : ws[i]? = some w0) : endsL (ws.take (i + 1)) = endsL (ws.take i) ++ begins w0 := by
  rw [List.take_succ, e]
  unfold endsL
  simp
theorem ends_take_len (ws : List Str) (i : Nat) : (endsL (ws.take i)).length ≤ (endsL ws).length := by
  unfold endsL
  have : ws.flatMap begins = (ws.take i).flatMap begins ++ (ws.drop i).flatMap begins := by rw [← List.flatMap_append, List.take_append_drop]
  rw [this, List.length_cons, List.length_cons, List.length_append]
  omega
theorem ok_lends {f : Addr} {fd : FuncData} (F : Fun K "_law_ends" "_law_ends" sLEnds f fd) (T : FreeL mg) : FnOk P w K mg base CX0 1 f fd ["_law_words_here"] spLEnds := by
  refine F.ok scLEnds (fun vs H Q E h => ?_) (fun cdv A outer s H vs Q E hr h => ?_)
  · obtain ⟨_, _, rfl, _⟩ := h
    rfl
  · obtain ⟨a, ws, rfl, ha, hl, hz, k⟩ := h
    have nd := scLEnds.nd
    refine ⟨_, pss_cons (ps_set (i := 1) nd rfl (.inl rfl) (pe_lst (pa_cons pe_str pa_nil)))
      (pss_cons (ps_for PassesOwn.never rfl (pi_list (pv 0)) (pg_name (i := 2) nd rfl (.inr rfl)) (pss_one (ps_set (i := 1) nd rfl (.inl rfl) (pe_op op_cat (pv 1)
          (pe_lc (own := [("_law_many", 3)]) (g := gName 3) (tt := tYes) rfl nd (pi_range1 rfl T.range (pa_cons (pe_callB call_len_str (by rfl) T.len PySem.boot_len (pa_cons (pv 2) pa_nil)) pa_nil)) (blkOk_by (own := [("_law_many", 3)]) (N := nLE) (sc := defScope sLEnds) (by decide +kernel))
            (fun _ _ _ _ _ => pg_name (i := 3) nd rfl (Or.inl rfl)) (fun _ _ _ _ _ => pts_nil) (fun _ _ _ _ _ => pe_slice sl_str (pv 2) po_none (po_some (pv 3))))))))
      (pss_one (ps_ret (pe_callB (cr_sortedTxt rfl) (by rfl) T.sorted (by decide +kernel) (pa_cons (pe_callTy (cr_setTxt rfl) (by rfl) T.set (by decide +kernel) (pa_cons
        (pe_lc (own := [("_law_end", 4)]) (g := gName 4) (tt := tYes) rfl nd (pi_list (pv 1)) (blkOk_by (own := [("_law_end", 4)]) (N := nLE) (sc := defScope sLEnds) (by decide +kernel))
          (fun _ _ _ _ _ => pg_name (i := 4) nd rfl (Or.inl rfl)) (fun _ _ _ _ _ => pts_nil) (fun _ _ _ _ _ => pe_callTy SkE.call_str_str (by rfl) T.str (by decide +kernel) (pa_cons (pv 4) pa_nil))) pa_nil)) pa_nil))))), ?_⟩
    refine q_asgL (xs := ([""] : List Str).map V.str) (el_lst (ea_cons ev_c ea_nil) (by decide)) fun F0 H1 hF x1 e1 => ?_
    refine q_forL (K := K) (a := a) (xs := ws.map V.str) (ev_var rfl) (sq_of (x1 _ _ ha)) (fun i σ' H' => ∃ (G : Addr) (y2 : Option V), σ' = [some (.ref a), some (.ref G), y2, none, none] ∧ Ex H H' ∧ H' G = some (.lst ((endsL (ws.take i)).map V.str)))
      (fun H2 x2 => ⟨F0, _, rfl, x1.trans x2, x2 _ _ e1⟩) (fun i σ' H' _ p => ?_) (fun i v σ' H' ev p => ?_) fun σ' H' p => ?_
    · obtain ⟨G, y2, rfl, xx, _⟩ := p
      exact sq_of (xx _ _ ha)
    · obtain ⟨G, y2, rfl, xx, eG⟩ := p
      rw [List.getElem?_map] at ev
      cases e : ws[i]? with
      | none =>
        rw [e] at ev
        cases ev
      | some w0 =>
        rw [e] at ev
        cases ev
        have hw0 : w0.length ≤ 1000 := hz _ (List.mem_of_getElem? e)
        have l1 := ends_take_len ws (i + 1)
        have et := ends_take e
        have bl : (begins w0).length = w0.length := by
          unfold begins
          rw [List.length_map, List.length_range]
        have y := el_lcR1 (σ := [some (.ref a), some (.ref G), some (.str w0), none, none]) (H := H') (j := 3) (vs := [3]) (n := (w0.length : Int)) (te := tSl rSlS (tVar 2) tNoPart (tPart (tVar 3))) (t := tYes) (fun _ => true) (fun m => V.str (cutS w0 none (some (m : Int))))
          (ea_cons (ev_lenS (ev_var (i := 2) rfl) (by rw [sizeLine_eq]; omega)) ea_nil) ⟨by omega, by omega⟩ (fun _ => rfl) (fun m H2 x2 hm => et_yes) fun m H2 x2 hm _ => fun H3 x3 Q3 q3 => ⟨_, rfl, _, rfl, _, rfl, w0, rfl, by rw [sizeLine_eq]; omega, q3 H3 (Ex.refl _)⟩
        have eb : given ((w0.length : Int)).toNat (fun _ => true) (fun m => V.str (cutS w0 none (some (m : Int)))) = (begins w0).map V.str := by
          unfold given begins
          rw [all_str, List.map_map]
          rfl
        rw [eb] at y
        refine ⟨_, rfl, y H' (Ex.refl _) _ fun B H2 hB x2 eB => ⟨G, B, _, _, rfl, rfl, x2 _ _ eG, eB, ?_, fun q hq => ⟨q, _, rfl, (xx.trans x2).trans (Ex.new hq), ?_⟩⟩⟩
        · have l2 : (endsL (ws.take (i + 1))).length = (endsL (ws.take i)).length + (begins w0).length := by rw [et, List.length_append]
          rw [List.length_map, List.length_map, sizeLine_eq]
          omega
        · rw [upd_same, et, List.map_append]
    · obtain ⟨G, y2, rfl, xx, eG⟩ := p
      rw [List.length_map, List.take_length] at eG
      have z1 := el_fmL (K := K) (σ := [some (.ref a), some (.ref G), y2, none, none]) (H := H') (te := tCB rStr1 (tCons (tVar 4) tNil)) (tl := tVar 1) (j := 4) (vs := [4]) (t := tYes) (fun _ => true) (fun x => x)
        (ev_var rfl) (sq_of eG) (by rw [List.length_map]; omega) (fun _ => rfl) (fun _ _ _ _ => et_yes) (fun x H6 x6 m _ => by
          obtain ⟨w0, mw, rfl⟩ := mem_str m
          exact ev_cb (ea_cons (ev_var rfl) ea_nil) fun H7 x7 Q7 q7 => ⟨w0, rfl, q7 H7 (Ex.refl _)⟩)
      rw [all_str, List.map_id'] at z1
      exact s_retL (el_srt (K := K) (w := w) z1 hl) fun p H2 hp x2 e2 => k p H2 (fresh_back xx hp) (xx.trans x2) e2
end
end K02

set_option Elab.async false
set_option linter.all false
set_option maxRecDepth 100000
set_option maxHeartbeats 4000000
/-! The law's own: drawn words -/
namespace K02
open PySem PySem.Spec PyProof.Rows L2 Evl KU
abbrev sWords : Stmt := top 37
/-- drawn words: short ones, at times a long one behind -/
def Drawn (al : Str) (many : Nat) (ws : List Str) : Prop := ∃ us vs : List Str, ws = us ++ vs ∧ us.length ≤ many ∧ vs.length ≤ 1 ∧ (∀ t ∈ us, Over al t ∧ 0 < t.length ∧ t.length ≤ 4) ∧ ∀ t ∈ vs, Over al t ∧ 0 < t.length ∧ t.length ≤ 8
def spWords : Sp := fun vs H Q _ => ∃ (P L : Addr) (ns : List Int) (s : Nat) (g : Int) (al : Str) (m : Nat), vs = [.ref P, .str al, .int (m : Int)] ∧ m ≤ 10 ∧ 2 ≤ al.length ∧ al.length ≤ 100 ∧ Pen H P L ns s g ∧ s ≤ 60000 ∧
  ∀ (l : Addr) (ws : List Str) (s' : Nat) (g' : Int) (H' : Hp), Drawn al m ws → s' ≤ s + 200 → H l = none → But P H H' → H' l = some (.lst (ws.map V.str)) → Pen H' P L ns s' g' → Q (.ref l) H'
section
variable {P : Program} {w : World} {K : PySem.W.Frag} {mg : Str → Option Value} {base : Heap}
abbrev rInt1 : List V → Hp → VK → Prop := fun xs H Q => (∃ i, xs = [V.int i] ∧ Q (V.int i) H) ∨ ∃ k : Bool, xs = [V.bl k] ∧ Q (V.int (if k = true then 1 else 0)) H
theorem words_end {P L F0 : Addr} {ns : List Int} {s3 : Nat} {g3 : Int} {σ : L2.St} {H3 : Hp} {E : XK} {Q : VK} {us : List Str} (z : Str) (h0 : σ[0]? = some (some (.ref P))) (pen : Pen H3 P L ns s3 g3) (sl : s3 ≤ 100000) (FP : F0 ≠ P) (eF : H3 F0 = some (.lst (us.map V.str))) (ul : us.length ≤ 1000)
    (k : ∀ (l : Addr) (vs : List Str) (s' : Nat) (g' : Int) (H' : Hp), (vs = [] ∨ vs = [z]) → s' ≤ s3 + 1 → H3 l = none → But P H3 H' → H' l = some (.lst ((us ++ vs).map V.str)) → Pen H' P L ns s' g' → Q (.ref l) H') :
    [V.str z].length ≤ sizeLine ∧ ∀ p, H3 p = none → tCB rInt1 (tCons (tOp rEq (tCall spDraw [] E (tCons (tVar 0) (tCons (tC (.int 4)) tNil))) (tC (.int 0))) tNil) σ (upd H3 p (.lst [.str z])) fun y H2 => rRep (.ref p) y H2 fun y H2 => rCat (.ref F0) y H2 Q := by
  refine ⟨by show 1 ≤ sizeLine; decide, fun p hp => ?_⟩
  have x1 : Ex H3 (upd H3 p (.lst [.str z])) := Ex.new hp
  have pP : p ≠ P := by
    rintro rfl
    rw [pen.pen] at hp
    cases hp
  refine ⟨_, h0, P, L, ns, s3, g3, 4, rfl, by decide, by decide, pen.mono x1, sl, fun d s4 g4 H4 hd hs4 but4 pen4 => ⟨rfl, .inr ⟨_, rfl, ?_⟩⟩⟩
  have ep : H4 p = some (.lst [.str z]) := but4 _ _ pP upd_same
  have b4 : But P H3 H4 := But.from_new hp but4
  have eF4 : H4 F0 = some (.lst (us.map V.str)) := b4 _ _ FP eF
  have fin : ∀ (vs : List Str) (q : Addr) (kk : Int), (vs = [] ∨ vs = [z]) → H4 q = none → rCat (.ref F0) (.ref q) (upd H4 q (.lst (vs.map V.str))) Q := by
    intro vs q kk hvs hq
    have x5 : Ex H4 (upd H4 q (.lst (vs.map V.str))) := Ex.new hq
    refine ⟨F0, q, us.map V.str, vs.map V.str, rfl, rfl, x5 _ _ eF4, upd_same, ?_, fun r hr => ?_⟩
    · have : vs.length ≤ 1 := by
        rcases hvs with rfl | rfl
        · exact Nat.zero_le _
        · exact Nat.le_refl _
      rw [List.length_map, List.length_map, sizeLine_eq]
      omega
    · have x6 := x5.trans (Ex.new (o := .lst (us.map V.str ++ vs.map V.str)) hr)
      have rn : H3 r = none := by
        cases e : H3 r with
        | none => rfl
        | some o =>
          have nP : r ≠ P := by
            rintro rfl
            have := x5 _ _ pen4.pen
            rw [this] at hr
            cases hr
          have := x5 _ _ (b4 _ _ nP e)
          rw [this] at hr
          cases hr
      exact k r vs s4 g4 _ hvs hs4 rn (b4.trans (But.of_ex x6)) (by rw [upd_same, List.map_append]) (pen4.mono x6)
  by_cases e0 : V.int (d : Int) = V.int 0
  · rw [decide_eq_true e0]
    refine ⟨p, 1, [.str z], rfl, rfl, ep, by decide, by decide, (show 1 ≤ sizeLine by decide), fun q hq => ?_⟩
    exact fin [z] q 1 (.inr rfl) hq
  · rw [decide_eq_false e0]
    refine ⟨p, 0, [.str z], rfl, rfl, ep, by decide, by decide, (show 0 ≤ sizeLine by decide), fun q hq => ?_⟩
    exact fin [] q 0 (.inl rfl) hq
theorem scWords : FnScope ["_law_pen_here", "_law_signs_here", "_law_many", "_law_found", "_law_turn", "_law_word"] ["_law_pen_here", "_law_signs_here", "_law_many"] (defScope sWords) := ⟨rfl, rfl, rfl, by decide +kernel, rfl, by decide +kernel, by decide +kernel⟩
theorem ok_words {f fP fD fT : Addr} {fd fdP fdD fdT : FuncData} (F : Fun K "_law_words" "_law_words" sWords f fd) (T : Draws K mg fD fP) (FP : Fun K "_law_pick" "_law_pick" sPick fP fdP) (bP : Binds K fdP ["_law_pen_here", "_law_some"] [])
    (FD : Fun K "_law_draw" "_law_draw" sDraw fD fdD) (bD : Binds K fdD ["_law_pen_here", "_law_many"] []) (FT : Fun K "_law_text" "_law_text" sText fT fdT) (bT : Binds K fdT ["_law_pen_here", "_law_signs_here", "_law_most"] [])
    (gT : mg "_law_text" = some (.ref fT)) (kT : PySem.W.keepIn K (.ref fT) = true) : FnOk P w K mg base CX0 4 f fd ["_law_pen_here", "_law_signs_here", "_law_many"] spWords := by
  have GP : FnOk P w K mg base CX0 2 fP fdP ["_law_pen_here", "_law_some"] spPick := ok_pick FP T FD bD
  have GD : FnOk P w K mg base CX0 1 fD fdD ["_law_pen_here", "_law_many"] spDraw := ok_draw FD T.toFree
  have GT : FnOk P w K mg base CX0 3 fT fdT ["_law_pen_here", "_law_signs_here", "_law_most"] spText := ok_text FT T FP bP FD bD
  refine F.ok scWords (fun vs H Q E h => ?_) (fun cdv A outer s H vs Q E hr h => ?_)
  · obtain ⟨_, _, _, _, _, _, _, rfl, _⟩ := h
    rfl
  · obtain ⟨P, L, ns, s, g, al, m, rfl, hm, al0, al1, pen, s0, k⟩ := h
    have nd := scWords.nd
    refine ⟨_, pss_cons (ps_set (i := 3) nd rfl (.inl rfl) (pe_lst pa_nil))
      (pss_cons (ps_for PassesOwn.never rfl (pi_range1 rfl T.range (pa_cons (pe_call GD (hr.mono (by decide)) (by rfl) T.gDraw T.kDraw bD .nil pass0 (pa_cons (pv 0) (pa_cons (pe_op op_add (pv 2) pe_int) pa_nil))) pa_nil)) (pg_name (i := 4) nd rfl (.inl rfl))
        (pss_cons (ps_set (i := 5) nd rfl (.inl rfl) (pe_call GT hr (by rfl) gT kT bT .nil pass0 (pa_cons (pv 0) (pa_cons (pv 1) (pa_cons (pe_call GP (hr.mono (by decide)) (by rfl) T.gPick T.kPick bP .nil pass0 (pa_cons (pv 0) (pa_cons (pe_lst (pa_cons pe_int (pa_cons pe_int (pa_cons pe_int (pa_cons pe_int pa_nil))))) pa_nil))) pa_nil)))))
        (pss_one (ps_expr (pe_bm PySem.F.plainAttrs_list PySem.F.slot_list_append PySem.F.type_list_append mt_append (pv 3) (pa_cons (pe_ifExp (pt_cmpR op_ne (pv 5) pe_str (nomark _)) (pv 5)
          (pe_call GP (hr.mono (by decide)) (by rfl) T.gPick T.kPick bP .nil pass0 (pa_cons (pv 0) (pa_cons (pe_callTy (call_listS rfl) (by rfl) T.list (by decide +kernel) (pa_cons (pv 1) pa_nil)) pa_nil)))) pa_nil))))))
      (pss_one (ps_ret (pe_op op_cat (pv 3) (pe_op op_rep (pe_lst (pa_cons (pe_orT (pe_call GT hr (by rfl) gT kT bT .nil pass0 (pa_cons (pv 0) (pa_cons (pv 1) (pa_cons pe_int pa_nil)))) (pe_one (pe_ix (r := rIxS) (by exact ix_str) (pv 1) pe_int (fun _ _ => rfl)))) pa_nil))
        (pe_callTy call_int1 (by rfl) T.int (by decide +kernel) (pa_cons (pe_cmpR op_eq (pe_call GD (hr.mono (by decide)) (by rfl) T.gDraw T.kDraw bD .nil pass0 (pa_cons (pv 0) (pa_cons pe_int pa_nil))) pe_int (nomark _)) pa_nil))))))), ?_⟩
    refine q_asgR ⟨Nat.zero_le _, fun F0 hF => ?_⟩
    have x1 : Ex H (upd H F0 (.lst [])) := Ex.new hF
    have FP : F0 ≠ P := by
      rintro rfl
      rw [pen.pen] at hF
      cases hF
    have e1 : upd H F0 (.lst []) F0 = some (.lst (([] : List Str).map V.str)) := upd_same
    generalize upd H F0 (.lst []) = H1 at x1 e1 ⊢
    refine ⟨_, rfl, _, rfl, _, _, rfl, rfl, P, L, ns, s, g, (m : Int) + 1, rfl, by omega, by omega, pen.mono x1, by omega, fun d s1 g1 H2 hd hs1 but1 pen1 => ⟨_, rfl, by omega, by omega, ?_⟩⟩
    refine for_range (lo := 0) (n := ((d : Int)).toNat) (fun i σ' H' => ∃ (us : List Str) (y4 y5 : Option V) (s2 : Nat) (g2 : Int), σ' = [some (.ref P), some (.str al), some (.int (m : Int)), some (.ref F0), y4, y5] ∧ us.length ≤ i ∧ (∀ t ∈ us, Over al t ∧ 0 < t.length ∧ t.length ≤ 4) ∧ s2 ≤ s1 + 12 * i ∧ But P H H' ∧ H' F0 = some (.lst (us.map V.str)) ∧ Pen H' P L ns s2 g2)
      ⟨[], _, _, s1, g1, rfl, Nat.le_refl _, (fun t ht => by cases ht), Nat.le_refl _, (But.of_ex x1).trans but1, but1 _ _ FP e1, pen1⟩ (fun i σ' H' hi p => ?_) fun σ' H' p => ?_
    · obtain ⟨us, y4, y5, s2, g2, rfl, ul, uo, sl, bb, eF, pp⟩ := p
      refine q_asgR ⟨_, rfl, _, rfl, _, rfl, by show 4 ≤ sizeLine; decide, fun l hl => ?_⟩
      have lP : l ≠ P := by
        rintro rfl
        rw [pp.pen] at hl
        cases hl
      have lF : F0 ≠ l := by
        rintro rfl
        rw [eF] at hl
        cases hl
      have x3 : Ex H' (upd H' l (.lst [.int 1, .int 2, .int 3, .int 4])) := Ex.new hl
      refine ⟨P, L, l, ns, [.int 1, .int 2, .int 3, .int 4], s2, g2, rfl, by simp, by decide, upd_same, lP, pp.mono x3, by omega, fun v s3 g3 H3 hv hs3 but3 pen3 => ?_⟩
      obtain ⟨q, rfl, q4⟩ : ∃ q : Nat, v = .int (q : Int) ∧ q ≤ 4 := by
        simp only [List.mem_cons, List.not_mem_nil, or_false] at hv
        rcases hv with rfl | rfl | rfl | rfl
        · exact ⟨1, rfl, by decide⟩
        · exact ⟨2, rfl, by decide⟩
        · exact ⟨3, rfl, by decide⟩
        · exact ⟨4, rfl, by decide⟩
      refine ⟨P, L, ns, s3, g3, al, q, rfl, by omega, by omega, al1, pen3, by omega, fun t s4 g4 H4 ov tl hs4 but4 pen4 => ?_⟩
      have b4 : But P H' H4 := (But.from_new hl but3).trans but4
      have eF4 : H4 F0 = some (.lst (us.map V.str)) := b4 _ _ FP eF
      have add : ∀ (z : Str) (s5 : Nat) (g5 : Int) (H5 : Hp), Over al z → 0 < z.length → z.length ≤ 4 → s5 ≤ s4 + 1 → But P H4 H5 → Pen H5 P L ns s5 g5 → ∃ (us' : List Str) (y4 y5 : Option V) (s2 : Nat) (g2 : Int), [some (V.ref P), some (.str al), some (.int (m : Int)), some (.ref F0), some (.int (0 + (i : Int))), some (.str t)] = [some (.ref P), some (.str al), some (.int (m : Int)), some (.ref F0), y4, y5] ∧ us'.length ≤ i + 1 ∧ (∀ t ∈ us', Over al t ∧ 0 < t.length ∧ t.length ≤ 4) ∧ s2 ≤ s1 + 12 * (i + 1) ∧ But P H (upd H5 F0 (.lst (us.map V.str ++ [.str z]))) ∧ upd H5 F0 (.lst (us.map V.str ++ [.str z])) F0 = some (.lst (us'.map V.str)) ∧ Pen (upd H5 F0 (.lst (us.map V.str ++ [.str z]))) P L ns s2 g2 := by
        intro z s5 g5 H5 o1 o2 o3 hs5 but5 pen5
        have nL : L ≠ F0 := by
          rintro rfl
          have c1 := pen.cells
          rw [hF] at c1
          cases c1
        refine ⟨us ++ [z], _, _, s5, g5, rfl, ?_, fun t' ht' => ?_, by omega, ?_, ?_, ?_⟩
        · rw [List.length_append, List.length_singleton]
          omega
        · rcases List.mem_append.mp ht' with h | h
          · exact uo t' h
          · rw [List.mem_singleton.mp h]
            exact ⟨o1, o2, o3⟩
        · intro b o nb hb
          have nF : b ≠ F0 := by
            rintro rfl
            rw [hb] at hF
            cases hF
          rw [upd_ne nF]
          exact but5 _ _ nb (b4 _ _ nb (bb _ _ nb hb))
        · rw [upd_same, List.map_append]
          rfl
        · exact ⟨by rw [upd_ne FP.symm]; exact pen5.pen, by rw [upd_ne nL]; exact pen5.cells, pen5.ne, pen5.few, pen5.left⟩
      have ulen : us.length < 1000 := by omega
      refine ⟨_, rfl, .inl ⟨rfl, _, sq_of eF4⟩, _, rfl, rfl, _, rfl, ?_⟩
      show (if (!decide (V.str t = V.str "")) = true then _ else _)
      by_cases e0 : V.str t = V.str ""
      · rw [if_neg (by rw [decide_eq_true e0]; decide)]
        refine pick_sign rfl rfl pen4 (by omega) (by omega) al1 fun c s5 g5 H5 hc hs5 but5 pen5 => ⟨F0, us.map V.str, .str ⟨#[c]⟩, rfl, rfl, but5 _ _ FP eF4, ?_, add _ s5 g5 H5 ?_ (show 0 < 1 by decide) (show 1 ≤ 4 by decide) hs5 but5 pen5⟩
        · rw [List.length_map, sizeLine_eq]
          omega
        · intro x hx
          have : x = c := by simpa using hx
          rw [this]
          exact hc
      · rw [if_pos (by rw [decide_eq_false e0]; rfl)]
        refine ⟨_, rfl, F0, us.map V.str, .str t, rfl, rfl, eF4, ?_, add t s4 g4 H4 ov ?_ (by omega) (by omega) (But.refl _ _) pen4⟩
        · rw [List.length_map, sizeLine_eq]
          omega
        · refine Nat.pos_of_ne_zero fun z => e0 ?_
          have : t = "" := by
            refine str_ext ?_
            have : t.cps.toList.length = 0 := by
              have e : t.length = t.cps.size := rfl
              rw [Array.length_toList]
              omega
            rw [List.length_eq_zero_iff.mp this]
            rfl
          rw [this]
    · obtain ⟨us, y4, y5, s2, g2, rfl, ul, uo, sl, bb, eF, pp⟩ := p
      refine ⟨_, rfl, _, rfl, _, rfl, P, L, ns, s2, g2, al, 8, rfl, by decide, by omega, al1, pp, by omega, fun t s3 g3 H3 ov tl hs3 but3 pen3 => ⟨(t.length : Int) != 0, ⟨?_, rfl⟩, ?_⟩⟩
      · rw [sizeLine_eq]
        omega
      · have fin : ∀ z : Str, Over al z → 0 < z.length → z.length ≤ 8 → _ := fun z o1 o2 o3 => words_end (E := E0) (Q := Q) (us := us) (σ := [some (.ref P), some (.str al), some (.int (m : Int)), some (.ref F0), y4, y5]) (F0 := F0) z rfl pen3 (by omega) FP (but3 _ _ FP eF) (by omega) fun l vs s' g' H4 hvs hs' hl but4 el pen4 => k l (us ++ vs) s' g' H4
          ⟨us, vs, rfl, by omega, (by rcases hvs with rfl | rfl; exact Nat.zero_le _; exact Nat.le_refl _), uo, fun t ht => (by
            rcases hvs with rfl | rfl
            · cases ht
            · rw [List.mem_singleton.mp ht]
              exact ⟨o1, o2, o3⟩)⟩ (by omega) (by
            cases e : H l with
            | none => rfl
            | some o =>
              have nP : l ≠ P := by
                rintro rfl
                rw [pen3.pen] at hl
                cases hl
              have := but3 _ _ nP (bb _ _ nP e)
              rw [this] at hl
              cases hl) ((bb.trans but3).trans but4) el pen4
        by_cases e0 : (t.length : Int) != 0
        · rw [if_pos e0]
          refine fin t ov ?_ tl
          have : (t.length : Int) ≠ 0 := by simpa using e0
          omega
        · rw [if_neg e0]
          have l1 : 1 < al.cps.toList.length := by
            have e : al.length = al.cps.size := rfl
            rw [Array.length_toList]
            omega
          refine ⟨_, rfl, al, 1, al.cps.toList[1], rfl, rfl, ?_, atI_nat (j := 1) (List.getElem?_eq_getElem l1), ?_⟩
          · rw [sizeLine_eq]
            omega
          · refine fin ⟨#[al.cps.toList[1]]⟩ (fun x hx => ?_) (show 0 < 1 by decide) (show 1 ≤ 8 by decide)
            have : x = al.cps.toList[1] := by simpa using hx
            rw [this]
            exact List.getElem_mem l1
end
end K02

set_option Elab.async false
set_option linter.all false
set_option maxRecDepth 100000
set_option maxHeartbeats 4000000
/-! What is drawn fits -/
namespace K02
open PySem PySem.Spec PyProof.Rows L2 Evl KU
theorem tw_all (p : Nat → Bool) : ∀ l : List Nat, (∀ c ∈ l, p c = true) → l.takeWhile p = l
  | [], _ => rfl
  | a :: r, h => by rw [List.takeWhile_cons, if_pos (h a List.mem_cons_self), tw_all p r fun c hc => h c (List.mem_cons_of_mem _ hc)]
theorem strip_over {al t : Str} (h : Over al t) : Txt.stripChars t al = "" := by
  show Txt.stripBy al.cps.contains true true t = ""
  rw [stripBy_eq]
  have all : ∀ c ∈ t.cps.toList, al.cps.contains c = true := fun c hc => by
    rw [Array.contains_eq_mem, decide_eq_true_eq]
    exact Array.mem_toList_iff.mp (h c hc)
  have lo : stripLo al.cps.contains true t = t.length := by
    unfold stripLo
    rw [if_pos rfl]
    have e : t.cps.toList.takeWhile al.cps.contains = t.cps.toList := by
      exact tw_all _ _ all
    rw [e, len_cps]
  have hi : stripHi al.cps.contains true t (stripLo al.cps.contains true t) = t.length := by
    rw [lo]
    unfold stripHi
    rw [if_pos rfl, List.drop_of_length_le (by rw [len_cps]; exact Nat.le_refl _)]
    simp
  rw [hi, lo]
  refine str_ext ?_
  show (t.cps.extract t.length t.length).toList = _
  simp
  rfl
theorem word_over {al t : Str} (h : Over al t) (h0 : 0 < t.length) {m : Int} (hm : (t.length : Int) ≤ m) : isWordB t al m = true := by
  unfold isWordB isTextB
  rw [strip_over h]
  simp
  omega
theorem ok_over {al t : Str} (h : Over al t) (ha : ∀ c ∈ al.cps.toList, c < 1114112) : PyData.strOk t = true := by
  show t.cps.all (· < 0x110000) = true
  rw [← Array.all_toList, List.all_eq_true]
  exact fun c hc => decide_eq_true (ha c (h c hc))
theorem alpha_facts : ∀ al ∈ alphas, isAlphaB al = true ∧ 2 ≤ al.length ∧ al.length ≤ 4 ∧ (∀ c ∈ al.cps.toList, c < 1114112) ∧ al ≠ ("pq" : Str) := by decide +kernel
theorem Few.sub {al : Str} {ws us : List Str} (F : Few al ws) (h : ∀ t ∈ us, t ∈ ws) : Few al us := by
  have inu : ∀ t ∈ uniq us, t ∈ uniq ws := fun t ht => (mem_uniq ws t).mpr (h t ((mem_uniq us t).mp ht))
  have s1 := sum_sub (fun t => t.length) (uniq us) (uniq ws) (nodup_uniq us) inu
  have s2 := sum_sub (fun t => t.length - 1) (uniq us) (uniq ws) (nodup_uniq us) inu
  have a1 := F.all
  have a2 := F.ends
  exact ⟨fun t ht => F.words t (h t ht), fun t ht => F.full t (h t ht), fun t ht => F.over t (h t ht), Nat.le_trans (len_sub _ _ (nodup_uniq us) inu) F.most, by omega, by omega⟩
theorem sum_bound (f : Str → Nat) (b : Nat) : ∀ l : List Str, (∀ t ∈ l, f t ≤ b) → (l.map f).sum ≤ b * l.length
  | [], _ => Nat.zero_le _
  | a :: r, h => by
    have z := sum_bound f b r fun t ht => h t (List.mem_cons_of_mem _ ht)
    have y := h a List.mem_cons_self
    rw [List.map_cons, List.sum_cons, List.length_cons, Nat.mul_add]
    omega
theorem drawn_few {al : Str} {m : Nat} {ws : List Str} (ha : al ∈ alphas) (hm : m ≤ 5) (D : Drawn al m ws) : Few al ws ∧ ws.length ≤ 6 := by
  obtain ⟨us, vs, rfl, l1, l2, h1, h2⟩ := D
  obtain ⟨_, _, _, chars, _⟩ := alpha_facts al ha
  have each : ∀ t ∈ us ++ vs, Over al t ∧ 0 < t.length ∧ t.length ≤ 8 := fun t ht => by
    rcases List.mem_append.mp ht with h | h
    · obtain ⟨a, b, c⟩ := h1 t h
      exact ⟨a, b, by omega⟩
    · exact h2 t h
  have ul := uniq_len (us ++ vs)
  have tl : (us ++ vs).length ≤ 6 := by
    rw [List.length_append]
    omega
  have s1 := sum_sub (fun t => t.length) (uniq (us ++ vs)) (us ++ vs) (nodup_uniq _) fun t ht => (mem_uniq _ t).mp ht
  have s2 := sum_sub (fun t => t.length - 1) (uniq (us ++ vs)) (us ++ vs) (nodup_uniq _) fun t ht => (mem_uniq _ t).mp ht
  rw [List.map_append, List.sum_append] at s1 s2
  have b1 := sum_bound (fun t => t.length) 4 us fun t ht => (h1 t ht).2.2
  have b2 := sum_bound (fun t => t.length) 8 vs fun t ht => (h2 t ht).2.2
  have c1 := sum_bound (fun t => t.length - 1) 3 us fun t ht => by
    have := (h1 t ht).2.2
    omega
  have c2 := sum_bound (fun t => t.length - 1) 7 vs fun t ht => by
    have := (h2 t ht).2.2
    omega
  refine ⟨⟨fun t ht => ?_, fun t ht => (each t ht).2.1, fun t ht => (each t ht).1, by omega, by omega, by omega⟩, tl⟩
  obtain ⟨a, b, c⟩ := each t ht
  exact ⟨word_over a b (by omega), by omega, ok_over a chars⟩
theorem srt_congr {a b : List Str} (h : ∀ t, t ∈ a ↔ t ∈ b) : srt a = srt b := srt_is (srt_sorted a) (nodup_srt a) fun k => (mem_srt a k).trans (h k)
theorem least_congr {a b : List Str} (h : ∀ t, t ∈ a ↔ t ∈ b) : leastS a = leastS b := by
  unfold leastS lessL
  rw [srt_congr h]
/-- what made bars tell -/
structure Good (ws us gs : List Str) : Prop where
  least : us = leastS ws
  ends : gs = endsS us
  eok : ∀ t ∈ gs, PyData.strOk t = true
  few : (endsL us).length < 64
theorem ok_pre {w t : Str} {k : Nat} (h : PyData.strOk w = true) (e : t.cps.toList = w.cps.toList.take k) : PyData.strOk t = true := by
  have h' : w.cps.all (· < 0x110000) = true := h
  show t.cps.all (· < 0x110000) = true
  rw [← Array.all_toList, List.all_eq_true] at h' ⊢
  rw [e]
  exact fun c hc => h' c (List.mem_of_mem_take hc)
theorem good_of {al : Str} {ws us gs : List Str} (fit : Fit al ws) (p1 : us.Perm (leastU ws)) (p2 : sortedS us = true) (p3 : gs.Perm (uniq (endsL us))) (p4 : sortedS gs = true) : Good ws us gs := by
  refine ⟨leastS_is p1 p2, endsS_is p3 p4, fun t ht => ?_, (fit.ends us p1).1⟩
  rcases mem_ends.mp ((mem_uniq _ t).mp (p3.mem_iff.mp ht)) with rfl | ⟨w, hw, k, _, e⟩
  · decide +kernel
  · exact ok_pre (fit.words w ((mem_least ws w).mp (p1.mem_iff.mp hw)).1).2.2 e
/-! the law's last bars -/
def wideW : List Str := ["000000", "111111", "0000000", "01111110"]
def wideY : List Str := ["000000", "111111"]
theorem wide_few : Few "01" wideW := by
  constructor <;> decide +kernel
theorem wide_least : leastS wideW = wideY := (leastS_is (ys := wideY) (by have e : leastU wideW = wideY := by decide +kernel
                                                                          rw [e]) (by decide +kernel)).symm
theorem wide_ends : (endsS wideY).length = 11 := by
  show (srt (endsL wideY)).length = 11
  rw [(srt_perm _).length_eq]
  decide +kernel
theorem none_few : Few "0123" [] := by
  constructor <;> decide +kernel
theorem none_least : leastS [] = [] := (leastS_is (ys := []) (by decide +kernel) rfl).symm
theorem none_ends : endsS [] = [("" : Str)] := (srt_is (ys := [("" : Str)]) (ws := endsL []) (by decide +kernel) (by decide +kernel) fun k => Iff.rfl).symm
theorem alphas_last : isAlphaB "01" = true ∧ isAlphaB "0123" = true ∧ isAlphaB "pq" = true := by decide +kernel
theorem few_nil (al : Str) : Few al [] := ⟨(fun t ht => by cases ht), (fun t ht => by cases ht), (fun t ht => by cases ht), Nat.zero_le _, Nat.zero_le _, Nat.zero_le _⟩
end K02

set_option Elab.async false
set_option linter.all false
set_option maxRecDepth 100000
set_option maxHeartbeats 4000000
/-! bars.py: in, end_of, behind, of free texts and others -/
namespace K02
open PySem PySem.Spec PyProof.Rows L2 Evl KU
/-- the longest ending of t among es -/
structure IsEnd (es : List Str) (t e : Str) : Prop where
  mem : e ∈ es
  suf : e.cps.toList <:+ t.cps.toList
  top : ∀ o ∈ es, o.cps.toList <:+ t.cps.toList → o.length ≤ e.length
theorem IsEnd.eq {es : List Str} {t a b : Str} (h : IsEnd es t a) (k : IsEnd es t b) : a = b := by
  have e : a.length = b.length := Nat.le_antisymm (k.top a h.mem h.suf) (h.top b k.mem k.suf)
  have e2 : a.cps.toList.length = b.cps.toList.length := by rw [len_cps, len_cps, e]
  have s : a.cps.toList <:+ b.cps.toList := List.suffix_of_suffix_length_le h.suf k.suf (Nat.le_of_eq e2)
  have e3 := s.eq_of_length e2
  have e4 : a.cps = b.cps := by rw [← Array.toArray_toList (xs := a.cps), e3, Array.toArray_toList]
  cases a
  cases b
  exact congrArg Str.mk e4
open Classical in
noncomputable def endF (es : List Str) (t : Str) : Str := if h : ∃ e, IsEnd es t e then h.choose else ""
theorem IsEnd.is {es : List Str} {t e : Str} (h : IsEnd es t e) : endF es t = e := by
  have x : ∃ e, IsEnd es t e := ⟨e, h⟩
  unfold endF
  rw [dif_pos x]
  exact x.choose_spec.eq h
theorem suffix_exists (es : List Str) (t : Str) (h : ∃ e ∈ es, e.cps.toList <:+ t.cps.toList) : ∃ e, IsEnd es t e := by
  induction es with
  | nil =>
    obtain ⟨_, m, _⟩ := h
    cases m
  | cons a l ih =>
    by_cases x : ∃ e ∈ l, e.cps.toList <:+ t.cps.toList
    · obtain ⟨e, he⟩ := ih x
      by_cases y : a.cps.toList <:+ t.cps.toList ∧ e.length < a.length
      · refine ⟨a, List.mem_cons_self, y.1, fun o ho so => ?_⟩
        rcases List.mem_cons.mp ho with rfl | m
        · exact Nat.le_refl _
        · have := he.top o m so
          omega
      · refine ⟨e, List.mem_cons_of_mem _ he.mem, he.suf, fun o ho so => ?_⟩
        rcases List.mem_cons.mp ho with rfl | m
        · exact Nat.le_of_not_lt fun z => y ⟨so, z⟩
        · exact he.top o m so
    · obtain ⟨e, m, s⟩ := h
      rcases List.mem_cons.mp m with rfl | m'
      · refine ⟨e, List.mem_cons_self, s, fun o ho so => ?_⟩
        rcases List.mem_cons.mp ho with rfl | m2
        · exact Nat.le_refl _
        · exact absurd ⟨o, m2, so⟩ x
      · exact absurd ⟨e, m', s⟩ x
theorem endF_is {es : List Str} {t : Str} (h0 : ("" : Str) ∈ es) : IsEnd es t (endF es t) := by
  obtain ⟨e, he⟩ := suffix_exists es t ⟨"", h0, List.nil_suffix⟩
  rw [he.is]
  exact he
theorem endswith_iff (a b : Str) : Txt.endswith a b = true ↔ b.cps.toList <:+ a.cps.toList := by
  have la := len_cps a
  have lb := len_cps b
  have cut : b.length ≤ a.length → (a.cps.extract (a.length - b.length) (a.length - b.length + b.length)).toList = a.cps.toList.drop (a.length - b.length) := fun h => by
    rw [Array.toList_extract]
    show List.take _ (List.drop _ _) = _
    rw [List.take_of_length_le (by rw [List.length_drop, la]; omega)]
  unfold Txt.endswith Builtin.Str.subAt
  rw [Bool.and_eq_true, decide_eq_true_eq, beq_iff_eq, Nat.zero_add]
  constructor
  · rintro ⟨h, e⟩
    have c := cut h
    rw [e] at c
    rw [c]
    exact List.drop_suffix _ _
  · intro s
    have h : b.length ≤ a.length := by
      have := s.length_le
      omega
    refine ⟨h, ?_⟩
    have e := List.suffix_iff_eq_drop.mp s
    rw [la, lb] at e
    have c := cut h
    rw [← e] at c
    exact Array.toList_inj.mp c
noncomputable def endV (ys es : List Str) (t : Str) : V := if holdsB t ys = true then .non else .str (endF es t)
section
variable {P : Program} {w : World} {K : PySem.W.Frag} {mg : Str → Option Value} {base : Heap} {C : Addr}
theorem text_over {al t : Str} (h : Over al t) : isTextB t al = true := by
  unfold isTextB
  rw [strip_over h]
  rfl
theorem spv_text {al t : Str} {H : Hp} (h : Over al t) (hl : t.length ≤ 1000) : SpV spIsText [.str t, .str al] H (.bl true) := fun H1 x1 Q q E => ⟨t, al, rfl, Nat.le_trans hl (by decide), by
  rw [text_over h]
  exact q⟩
theorem spv_holdsT {t : Str} {a : Addr} {ws : List Str} {H : Hp} (ha : H a = some (.tup (ws.map V.str))) (hl : ws.length < 64) : SpV (spHolds K) [.str t, .ref a] H (.bl (holdsB t ws)) := fun H1 x1 Q q E => ⟨t, a, ws, rfl, .inr (st_of (x1 _ _ ha)), by omega, q⟩
def spHas (C : Addr) : Sp := fun vs H Q _ => ∃ (a : Addr) (t al : Str) (ys es : List Str), vs = [.ref a, .str t] ∧ BarsAt C H a al ys es ∧ Over al t ∧ t.length ≤ 1000 ∧ RetV (.bl (holdsB t ys)) H Q
theorem scHas : FnScope ["self", "text"] ["self", "text"] (defScope (meth 6)) := ⟨rfl, rfl, rfl, by decide +kernel, rfl, by decide +kernel, by decide +kernel⟩
theorem ok_has {f fT fH : Addr} {fd fdT fdH : FuncData} (F : Fun K "__contains__" "Bars.__contains__" (meth 6) f fd) (T : Free mg) (CB : ClsI K mg C) (FT : Fun K "is_text" "is_text" sIsText fT fdT) (bT : Binds K fdT ["value", "signs"] []) (gT : mg "is_text" = some (.ref fT)) (kT : PySem.W.keepIn K (.ref fT) = true)
    (FH : Fun K "holds_some" "holds_some" sHoldsSome fH fdH) (bH : Binds K fdH ["text", "words"] []) (gH : mg "holds_some" = some (.ref fH)) (kH : PySem.W.keepIn K (.ref fH) = true) : FnOk P w K mg base CX0 2 f fd ["self", "text"] (spHas C) := by
  have GT : FnOk P w K mg base CX0 1 fT fdT ["value", "signs"] spIsText := ok_is_text FT T
  have GH : FnOk P w K mg base CX0 1 fH fdH ["text", "words"] (spHolds K) := ok_holds FH T
  refine F.ok scHas (fun vs H Q E h => ?_) (fun cdv A outer s H vs Q E hr h => ?_)
  · obtain ⟨_, _, _, _, _, rfl, _⟩ := h
    rfl
  · obtain ⟨a, t, al, ys, es, rfl, B, ov, hl, k⟩ := h
    obtain ⟨dx, W, N, L, zs, O, h1, h2, h3, h4, h5⟩ := B.at_
    refine ⟨_, pss_one (ps_ret (pe_and (pe_call GT hr (by rfl) gT kT bT .nil pass0 (pa_cons (pv 1) (pa_cons (pe_fld (pv 0) rfl) pa_nil))) (pe_one (pe_call GH hr (by rfl) gH kH bH .nil pass0 (pa_cons (pv 1) (pa_cons (pe_fld (pv 0) rfl) pa_nil)))))), ?_⟩
    refine s_ret (ev_andV (b := holdsB t ys) (ev_call (ea_cons (ev_var rfl) (ea_cons (ev_fld (K := K) (te := tVar 0) (ev_var rfl) h1 CB.toCls CB.nSigns rfl) ea_nil)) (spv_text ov hl)) fun _ =>
      ev_call (ea_cons (ev_var rfl) (ea_cons (ev_fld (K := K) (te := tVar 0) (ev_var rfl) h1 CB.toCls CB.nWords rfl) ea_nil)) (spv_holdsT h2 B.few)) fun H1 x1 => k H1 x1
def spEnd (C : Addr) : Sp := fun vs H Q _ => ∃ (a : Addr) (t al : Str) (ys es : List Str), vs = [.ref a, .str t] ∧ BarsAt C H a al ys es ∧ ("" : Str) ∈ es ∧ es.length ≤ 1000 ∧ RetV (endV ys es t) H Q
abbrev rEnds : V → List V → Hp → VK → Prop := fun x xs H Q => ∃ a b : Str, x = V.str a ∧ xs = [V.str b] ∧ Q (V.bl (Txt.endswith a b)) H
theorem scEnd : FnScope ["self", "text", "end"] ["self", "text"] (defScope (meth 11)) := ⟨rfl, rfl, rfl, by decide +kernel, rfl, by decide +kernel, by decide +kernel⟩
theorem first_end {zs es : List Str} {t : Str} (p : zs.Perm es) (pw : zs.Pairwise (fun a b : Str => b.length ≤ a.length)) (h0 : ("" : Str) ∈ es) : ∃ r, (zs.filter fun e => Txt.endswith t e) = endF es t :: r := by
  have h := endF_is (es := es) (t := t) h0
  have m : endF es t ∈ zs.filter fun e => Txt.endswith t e := List.mem_filter.mpr ⟨p.mem_iff.mpr h.mem, (endswith_iff _ _).mpr h.suf⟩
  have pw2 := pw.filter fun e => Txt.endswith t e
  cases e : zs.filter fun e => Txt.endswith t e with
  | nil =>
    rw [e] at m
    cases m
  | cons x r =>
    rw [e] at m pw2
    have mx : x ∈ zs.filter fun e => Txt.endswith t e := by
      rw [e]
      exact List.mem_cons_self
    obtain ⟨m1, m2⟩ := List.mem_filter.mp mx
    have I : IsEnd es t x := ⟨p.mem_iff.mp m1, (endswith_iff _ _).mp m2, fun o ho so => by
      refine Nat.le_trans (h.top o ho so) ?_
      rcases List.mem_cons.mp m with z | z
      · exact Nat.le_of_eq (congrArg Str.length z)
      · exact (List.pairwise_cons.mp pw2).1 _ z⟩
    exact ⟨r, by rw [I.is]⟩
theorem ev_ends {σ : L2.St} {H : Hp} {i j : Nat} {a b : Str} (hi : σ[i]? = some (some (.str a))) (hj : σ[j]? = some (some (.str b))) : Ev (tBM K "str" rEnds (tVar i) (tCons (tVar j) tNil)) σ H (.bl (Txt.endswith a b)) :=
  fun H1 x1 Q q => ⟨_, hi, rfl, _, hj, a, b, rfl, rfl, q H1 (Ex.refl _)⟩
theorem ok_end {f fH : Addr} {fd fdH : FuncData} (F : Fun K "_end" "Bars._end" (meth 11) f fd) (T : Free mg) (CB : ClsI K mg C)
    (FH : Fun K "holds_some" "holds_some" sHoldsSome fH fdH) (bH : Binds K fdH ["text", "words"] []) (gH : mg "holds_some" = some (.ref fH)) (kH : PySem.W.keepIn K (.ref fH) = true) : FnOk P w K mg base CX0 2 f fd ["self", "text"] (spEnd C) := by
  have GH : FnOk P w K mg base CX0 1 fH fdH ["text", "words"] (spHolds K) := ok_holds FH T
  refine F.ok scEnd (fun vs H Q E h => ?_) (fun cdv A outer s H vs Q E hr h => ?_)
  · obtain ⟨_, _, _, _, _, rfl, _⟩ := h
    rfl
  · obtain ⟨a, t, al, ys, es, rfl, B, h0, hl, k⟩ := h
    obtain ⟨dx, W, N, L, zs, O, h1, h2, h3, h4, h5, h6⟩ := B.at_
    have nd := scEnd.nd
    refine ⟨_, pss_cons (ps_if (pt_val (pe_call GH hr (by rfl) gH kH bH .nil pass0 (pa_cons (pv 1) (pa_cons (pe_fld (pv 0) rfl) pa_nil)))) (pss_one (ps_ret pe_non)) pss_nil)
      (pss_one (ps_ret (pe_ix ix_list (pe_lc (own := [("end", 2)]) (g := gName 2) (tt := tB (tBM K "str" rEnds (tVar 1) (tCons (tVar 2) tNil))) rfl nd (pi_list (pe_fld (pv 0) rfl)) (blkOk_by (own := [("end", 2)]) (N := ["self", "text", "end"]) (sc := defScope (meth 11)) (by decide +kernel))
        (fun _ _ _ _ _ => pg_name (i := 2) nd rfl (Or.inl rfl)) (fun _ _ _ _ _ => by exact pts_one (pt_val (pe_bm PySem.F.plainAttrs_str PySem.F.slot_str_endswith PySem.F.type_str_endswith mt_endswith (pv 1) (pa_cons (pv 2) pa_nil)))) (fun _ _ _ _ _ => pv 2)) pe_int (fun _ _ => rfl)))), ?_⟩
    unfold endV at k
    refine q_when (et_B (ev_call (ea_cons (ev_var rfl) (ea_cons (ev_fld (K := K) (te := tVar 0) (ev_var rfl) h1 CB.toCls CB.nWords rfl) ea_nil)) (spv_holdsT h2 B.few))) (fun z H1 x1 => ?_) fun z H1 x1 => ?_
    · rw [z, if_pos rfl] at k
      exact s_ret ev_c fun H2 x2 => k H2 (x1.trans x2)
    · rw [z, if_neg (by decide)] at k
      obtain ⟨r, er⟩ := first_end (t := t) h5 h6 h0
      have zl : zs.length ≤ 40000 := by
        rw [h5.length_eq]
        omega
      have z := el_fmL (K := K) (σ := start ["self", "text", "end"] [.ref a, .str t]) (H := H1) (te := tVar 2) (tl := tFld K (tVar 0) "_longest_first") (j := 2) (vs := [2]) (t := tB (tBM K "str" rEnds (tVar 1) (tCons (tVar 2) tNil)))
        (a := L) (xs := zs.map V.str) (onSB fun e => Txt.endswith t e) (onS V.str) (ev_fld (K := K) (te := tVar 0) (ev_var rfl) (x1 _ _ h1) CB.toCls CB.nLong rfl) (sq_of (x1 _ _ h4)) (by rw [List.length_map]; exact zl) (fun _ => rfl)
        (fun x H2 x2 m => by
          obtain ⟨w0, mw, rfl⟩ := mem_str m
          exact et_B (ev_ends rfl rfl)) (fun x H2 x2 m _ => by
          obtain ⟨w0, mw, rfl⟩ := mem_str m
          exact ev_var rfl)
      rw [fm_str, er] at z
      exact s_ret (ev_opL1 z (fun _ _ => ev_c) fun p H2 hp x2 => rv_ixL (sq_of hp) (atI_nat (j := 0) rfl)) fun H2 x2 => k H2 (x1.trans x2)
/-- the end of a free text -/
def spEndOf (C : Addr) : Sp := fun vs H Q _ => ∃ (a : Addr) (t al : Str) (ys es : List Str), vs = [.ref a, .str t] ∧ BarsAt C H a al ys es ∧ ("" : Str) ∈ es ∧ es.length ≤ 1000 ∧ Over al t ∧ t.length ≤ 1000 ∧ holdsB t ys = false ∧ RetV (.str (endF es t)) H Q
theorem scEndOf : FnScope ["self", "text", "end"] ["self", "text"] (defScope (meth 8)) := ⟨rfl, rfl, rfl, by decide +kernel, rfl, by decide +kernel, by decide +kernel⟩
theorem rv_isN {x : V} {H : Hp} : RV (fun x y H Q => y = V.non ∧ Q (V.bl (decide (x = V.non))) H) x .non H (.bl (decide (x = .non))) := fun H1 x1 Q q => ⟨rfl, q H1 (Ex.refl _)⟩
theorem ok_endOf {f fE fH fT : Addr} {fd fdE fdH fdT : FuncData} (F : Fun K "end_of" "Bars.end_of" (meth 8) f fd) (T : Free mg) (CB : ClsI K mg C) (FE : Fun K "_end" "Bars._end" (meth 11) fE fdE) (bE : Binds K fdE ["self", "text"] []) (mE : Meth K C "_end" fE)
    (FT : Fun K "is_text" "is_text" sIsText fT fdT) (bT : Binds K fdT ["value", "signs"] []) (gT : mg "is_text" = some (.ref fT)) (kT : PySem.W.keepIn K (.ref fT) = true)
    (FH : Fun K "holds_some" "holds_some" sHoldsSome fH fdH) (bH : Binds K fdH ["text", "words"] []) (gH : mg "holds_some" = some (.ref fH)) (kH : PySem.W.keepIn K (.ref fH) = true) : FnOk P w K mg base CX0 3 f fd ["self", "text"] (spEndOf C) := by
  have GT : FnOk P w K mg base CX0 1 fT fdT ["value", "signs"] spIsText := ok_is_text FT T
  have GE : FnOk P w K mg base CX0 2 fE fdE ["self", "text"] (spEnd C) := ok_end FE T CB FH bH gH kH
  refine F.ok scEndOf (fun vs H Q E h => ?_) (fun cdv A outer s H vs Q E hr h => ?_)
  · obtain ⟨_, _, _, _, _, rfl, _⟩ := h
    rfl
  · obtain ⟨a, t, al, ys, es, rfl, B, h0, hl, ov, tl, free, k⟩ := h
    obtain ⟨dx, W, N, L, zs, O, h1, h2, h3, h4, h5⟩ := B.at_
    have nd := scEndOf.nd
    refine ⟨_, pss_cons (ps_if (pt_not (pt_val (pe_call GT (hr.mono (by decide)) (by rfl) gT kT bT .nil pass0 (pa_cons (pv 1) (pa_cons (pe_fld (pv 0) rfl) pa_nil))))) (pss_one ps_never) pss_nil)
      (pss_cons (ps_set (i := 2) nd rfl (.inl rfl) (pe_meth (pv 0) CB.toCls mE GE hr bE .nil pass0 (pa_cons (pv 1) pa_nil)))
      (pss_cons (ps_if (pt_cmpR op_isN (pv 2) pe_non (nomark _)) (pss_one ps_never) pss_nil)
      (pss_one (ps_ret (pv 2))))), ?_⟩
    refine q_when (b := false) (et_is (et_not (et_B (ev_call (ea_cons (ev_var rfl) (ea_cons (ev_fld (K := K) (te := tVar 0) (ev_var rfl) h1 CB.toCls CB.nSigns rfl) ea_nil)) (spv_text ov tl)))) rfl) (fun z => by cases z) fun _ H1 x1 => ?_
    refine ⟨_, rfl, a, dx, _, rfl, x1 _ _ h1, rfl, _, rfl, a, t, al, ys, es, rfl, B.mono x1, h0, hl, fun H2 x2 => ?_⟩
    refine (?_ : tSeq _ _ _ _ _)
    unfold endV
    rw [free, if_neg (by decide)]
    refine q_when (b := false) (et_is (et_test (ev_op (ev_var rfl) ev_c rv_isN)) (decide_eq_false fun z => by cases z)) (fun z => by cases z) fun _ H3 x3 => ?_
    exact s_ret (ev_var rfl) fun H4 x4 => k H4 (x1.trans (x2.trans (x3.trans x4)))
/-- the end behind an end and a text, or None -/
def spBehind (C : Addr) : Sp := fun vs H Q _ => ∃ (a : Addr) (e t al : Str) (ys es : List Str), vs = [.ref a, .str e, .str t] ∧ BarsAt C H a al ys es ∧ ("" : Str) ∈ es ∧ es.length ≤ 1000 ∧ e ∈ es ∧ e.length ≤ 1000 ∧ Over al t ∧ t.length ≤ 1000 ∧ RetV (endV ys es (e ++ t)) H Q
theorem scBehind : FnScope ["self", "end", "text"] ["self", "end", "text"] (defScope (meth 9)) := ⟨rfl, rfl, rfl, by decide +kernel, rfl, by decide +kernel, by decide +kernel⟩
theorem flat_strs (ws : List Str) : (ws.map V.str).all flatV = true := by
  rw [List.all_eq_true]
  intro x hx
  obtain ⟨w0, _, rfl⟩ := List.mem_map.mp hx
  rfl
theorem inV_strs (t : Str) (ws : List Str) : inV (.str t) (ws.map V.str) = decide (t ∈ ws) := by
  unfold inV
  rw [List.any_map]
  show (ws.any fun y => y == t) = _
  rw [Bool.eq_iff_iff, List.any_eq_true, decide_eq_true_eq]
  constructor
  · rintro ⟨y, h1, h2⟩
    rw [← eq_of_beq h2]
    exact h1
  · intro h
    exact ⟨t, h, beq_self_eq_true t⟩
theorem ok_behind {f fE fH fT : Addr} {fd fdE fdH fdT : FuncData} (F : Fun K "behind" "Bars.behind" (meth 9) f fd) (T : Free mg) (CB : ClsI K mg C) (FE : Fun K "_end" "Bars._end" (meth 11) fE fdE) (bE : Binds K fdE ["self", "text"] []) (mE : Meth K C "_end" fE)
    (FT : Fun K "is_text" "is_text" sIsText fT fdT) (bT : Binds K fdT ["value", "signs"] []) (gT : mg "is_text" = some (.ref fT)) (kT : PySem.W.keepIn K (.ref fT) = true)
    (FH : Fun K "holds_some" "holds_some" sHoldsSome fH fdH) (bH : Binds K fdH ["text", "words"] []) (gH : mg "holds_some" = some (.ref fH)) (kH : PySem.W.keepIn K (.ref fH) = true) : FnOk P w K mg base CX0 3 f fd ["self", "end", "text"] (spBehind C) := by
  have GT : FnOk P w K mg base CX0 1 fT fdT ["value", "signs"] spIsText := ok_is_text FT T
  have GE : FnOk P w K mg base CX0 2 fE fdE ["self", "text"] (spEnd C) := ok_end FE T CB FH bH gH kH
  refine F.ok scBehind (fun vs H Q E h => ?_) (fun cdv A outer s H vs Q E hr h => ?_)
  · obtain ⟨_, _, _, _, _, _, rfl, _⟩ := h
    rfl
  · obtain ⟨a, e, t, al, ys, es, rfl, B, h0, hl, he, el, ov, tl, k⟩ := h
    obtain ⟨dx, W, N, L, zs, O, h1, h2, h3, h4, h5⟩ := B.at_
    have nd := scBehind.nd
    refine ⟨_, pss_cons (ps_if (pt_cmpR op_notIn_seq (pv 1) (pe_fld (pv 0) rfl) (by rfl)) (pss_one ps_never) pss_nil)
      (pss_cons (ps_if (pt_not (pt_val (pe_call GT (hr.mono (by decide)) (by rfl) gT kT bT .nil pass0 (pa_cons (pv 2) (pa_cons (pe_fld (pv 0) rfl) pa_nil))))) (pss_one ps_never) pss_nil)
      (pss_one (ps_ret (pe_meth (pv 0) CB.toCls mE GE hr bE .nil pass0 (pa_cons (pe_op op_add_str (pv 1) (pv 2)) pa_nil))))), ?_⟩
    refine q_when (b := false) (et_is (et_test (ev_op (ev_var rfl) (ev_fld (K := K) (te := tVar 0) (ev_var rfl) h1 CB.toCls CB.nEnds rfl) (rv_niT (st_of h3) rfl (flat_strs es)))) (by rw [inV_strs, decide_eq_true he]; rfl)) (fun z => by cases z) fun _ H0 x0 => ?_
    refine q_when (b := false) (et_is (et_not (et_B (ev_call (ea_cons (ev_var rfl) (ea_cons (ev_fld (K := K) (te := tVar 0) (ev_var rfl) (x0 _ _ h1) CB.toCls CB.nSigns rfl) ea_nil)) (spv_text ov tl)))) rfl) (fun z => by cases z) fun _ H1 x1 => ?_
    have x01 := x0.trans x1
    refine ⟨_, rfl, a, dx, _, rfl, x01 _ _ h1, rfl, _, rfl, _, rfl, e, t, rfl, rfl, ?_, a, e ++ t, al, ys, es, rfl, B.mono x01, h0, hl, fun H2 x2 => k H2 (x01.trans x2)⟩
    rw [sizeLine_eq]
    omega
end
end K02

set_option Elab.async false
set_option linter.all false
set_option maxRecDepth 100000
set_option maxHeartbeats 4000000
/-! Ends: what follows a free text hangs on its end; free texts counted along the ends -/
namespace K02
open PySem PySem.Spec PyProof.Rows L2 Evl KU
theorem str_eq {a b : Str} (h : a.cps.toList = b.cps.toList) : a = b := by
  cases a
  cases b
  exact congrArg Str.mk (Array.toList_inj.mp h)
def strOf (l : List Nat) : Str := ⟨l.toArray⟩
theorem strOf_cps (l : List Nat) : (strOf l).cps.toList = l := rfl
theorem infix_cat {w t m : List Nat} (h : w <:+: t ++ m) : w <:+: t ∨ w <:+: m ∨ ∃ s r, w = s ++ r ∧ s <:+ t ∧ r <+: m := by
  obtain ⟨p, q, e⟩ := h
  rcases List.append_eq_append_iff.mp e with ⟨a, e1, e2⟩ | ⟨a, e1, e2⟩
  · exact .inl ⟨p, a, e1.symm⟩
  · rcases List.append_eq_append_iff.mp e1 with ⟨b, e3, e4⟩ | ⟨b, e3, e4⟩
    · exact .inr (.inr ⟨b, a, e4, ⟨p, e3.symm⟩, ⟨q, e2.symm⟩⟩)
    · exact .inr (.inl ⟨b, q, by rw [e2, e4]⟩)
theorem suffix_cat {o t m : List Nat} (h : o <:+ t ++ m) : o <:+ m ∨ ∃ s, o = s ++ m ∧ s <:+ t := by
  obtain ⟨p, e⟩ := h
  rcases List.append_eq_append_iff.mp e with ⟨a, e1, e2⟩ | ⟨a, e1, e2⟩
  · exact .inr ⟨a, e2, ⟨p, e1.symm⟩⟩
  · exact .inl ⟨a, e2.symm⟩
theorem suffix_mono {s t m : List Nat} (h : s <:+ t) : s ++ m <:+ t ++ m := by
  obtain ⟨p, e⟩ := h
  exact ⟨p, by rw [← List.append_assoc, e]⟩
section
variable {al : Str} {ys es : List Str}
theorem holds_iff (N : Ends al ys es) (x : Str) : holdsB x ys = true ↔ ∃ w ∈ ys, w.cps.toList <:+: x.cps.toList := by
  rw [holdsB_iff]
  constructor
  · rintro ⟨w, h1, h2⟩
    exact ⟨w, h1, (inS_iff (N.full w h1)).mp h2⟩
  · rintro ⟨w, h1, h2⟩
    exact ⟨w, h1, (inS_iff (N.full w h1)).mpr h2⟩
theorem holds_up (N : Ends al ys es) {a b : Str} (h : a.cps.toList <:+: b.cps.toList) (k : holdsB b ys = false) : holdsB a ys = false := by
  cases e : holdsB a ys with
  | false => rfl
  | true =>
    obtain ⟨w, h1, h2⟩ := (holds_iff N a).mp e
    rw [(holds_iff N b).mpr ⟨w, h1, h2.trans h⟩] at k
    cases k
theorem end_nil (N : Ends al ys es) : ("" : Str) ∈ es := (N.mem _).mpr (mem_ends.mpr (.inl rfl))
theorem end_pre (N : Ends al ys es) {o : Str} (h : o ∈ es) {s m : List Nat} (e : o.cps.toList = s ++ m) : strOf s ∈ es := by
  rcases mem_ends.mp ((N.mem o).mp h) with rfl | ⟨w, hw, k, hk, e2⟩
  · have : s = [] := by
      cases s with
      | nil => rfl
      | cons _ _ => cases e
    rw [this]
    exact end_nil N
  · refine (N.mem _).mpr (mem_ends.mpr (.inr ⟨w, hw, min s.length k, by omega, ?_⟩))
    rw [strOf_cps, ← List.take_take, ← e2, e, List.take_left]
theorem word_pre (N : Ends al ys es) {w : Str} (h : w ∈ ys) {s r : List Nat} (e : w.cps.toList = s ++ r) (hr : r ≠ []) : strOf s ∈ es := by
  refine (N.mem _).mpr (mem_ends.mpr (.inr ⟨w, h, s.length, ?_, by rw [strOf_cps, e, List.take_left]⟩))
  rw [← len_cps, e, List.length_append]
  have : 0 < r.length := List.length_pos_iff.mpr hr
  omega
theorem suf_top {t s : Str} (h0 : ("" : Str) ∈ es) (hs : s ∈ es) (h : s.cps.toList <:+ t.cps.toList) : s.cps.toList <:+ (endF es t).cps.toList := by
  have I := endF_is (t := t) h0
  refine List.suffix_of_suffix_length_le h I.suf ?_
  rw [len_cps, len_cps]
  exact I.top s hs h
theorem end_holds (N : Ends al ys es) {t m : Str} (h : holdsB t ys = false) : holdsB (endF es t ++ m) ys = holdsB (t ++ m) ys := by
  have I := endF_is (t := t) (end_nil N)
  cases e : holdsB (t ++ m) ys with
  | false =>
    refine holds_up N ?_ e
    rw [cat_cps, cat_cps]
    exact (suffix_mono I.suf).isInfix
  | true =>
    obtain ⟨w, hw, hi⟩ := (holds_iff N _).mp e
    rw [cat_cps] at hi
    have no : ¬ w.cps.toList <:+: t.cps.toList := fun z => by
      rw [(holds_iff N t).mpr ⟨w, hw, z⟩] at h
      cases h
    refine (holds_iff N _).mpr ⟨w, hw, ?_⟩
    rw [cat_cps]
    rcases infix_cat hi with z | z | ⟨s, r, e1, e2, e3⟩
    · exact absurd z no
    · exact z.trans (List.suffix_append _ _).isInfix
    · have hr : r ≠ [] := by
        rintro rfl
        rw [List.append_nil] at e1
        rw [e1] at no
        exact no e2.isInfix
      have y := suf_top (end_nil N) (word_pre N hw e1 hr) (t := t) e2
      rw [strOf_cps] at y
      rw [e1]
      obtain ⟨p, ep⟩ := y
      obtain ⟨q, eq⟩ := e3
      exact ⟨p, q, by rw [← ep, ← eq]; simp⟩
theorem end_cat (N : Ends al ys es) (t m : Str) : endF es (t ++ m) = endF es (endF es t ++ m) := by
  have I := endF_is (t := t) (end_nil N)
  have J := endF_is (t := endF es t ++ m) (end_nil N)
  refine IsEnd.is ⟨J.mem, ?_, fun o ho so => ?_⟩
  · have := J.suf
    rw [cat_cps] at this ⊢
    exact this.trans (suffix_mono I.suf)
  · refine J.top o ho ?_
    rw [cat_cps] at so ⊢
    rcases suffix_cat so with z | ⟨s, e1, e2⟩
    · exact z.trans (List.suffix_append _ _)
    · have y := suf_top (end_nil N) (end_pre N ho e1) (t := t) e2
      rw [strOf_cps] at y
      rw [e1]
      exact suffix_mono y
theorem end_self {e : Str} (h : e ∈ es) : endF es e = e := IsEnd.is ⟨h, List.suffix_refl _, fun o ho so => by
  have := so.length_le
  rw [len_cps, len_cps] at this
  exact this⟩
theorem end_free (N : Ends al ys es) {e : Str} (h : e ∈ es) : holdsB e ys = false := by
  cases x : holdsB e ys with
  | false => rfl
  | true =>
    obtain ⟨w, hw, hi⟩ := (holds_iff N e).mp x
    exact absurd hi (ends_free N.full N.least ((N.mem e).mp h) hw)
/-- what behind tells: as a value of a free text's end -/
theorem endV_cat (N : Ends al ys es) {t m : Str} (h : holdsB t ys = false) : endV ys es (endF es t ++ m) = endV ys es (t ++ m) := by
  unfold endV
  rw [end_holds N h, ← end_cat N]
end
end K02

set_option Elab.async false
set_option linter.all false
set_option maxRecDepth 100000
set_option maxHeartbeats 4000000
/-! bars.py: in, end_of, behind of values that are no texts, of texts that are refused -/
namespace K02
open PySem PySem.Spec PyProof.Rows L2 Evl KU
/-- is_text of any value -/
def isTxt (v : V) (al : Str) : Bool := match v with
  | .str t => isTextB t al
  | _ => false
theorem isTxt_and (v : V) (al : Str) : (isStrV v && isTxt v al) = isTxt v al := by
  cases v <;> rfl
/-- no text is longer than this -/
def LenV (v : V) : Prop := ∀ t, v = .str t → t.length ≤ 1000
/-- a raise of C with the field f -/
def RaiseV (C : Addr) (f : Str) (v : V) (H : Hp) (E : XK) : Prop := ∀ d H', Ex H H' → H' d = some (.xd [(f, v)]) → E (.ref C) (some d) H'
def spIsTextO : Sp := fun vs H Q _ => ∃ (v : V) (al : Str), vs = [v, .str al] ∧ Odd H v ∧ LenV v ∧ RetV (.bl (isTxt v al)) H Q
section
variable {P : Program} {w : World} {K : PySem.W.Frag} {mg : Str → Option Value} {base : Heap} {C CS CN : Addr}
theorem ok_is_textO {f : Addr} {fd : FuncData} (F : Fun K "is_text" "is_text" sIsText f fd) (T : Free mg) : FnOk P w K mg base CX0 1 f fd ["value", "signs"] spIsTextO := by
  refine F.ok scIsText (fun vs H Q E h => ?_) (fun cdv A outer s H vs Q E hr h => ?_)
  · obtain ⟨_, _, rfl, _⟩ := h
    rfl
  · obtain ⟨v, al, rfl, o, hl, k⟩ := h
    refine ⟨_, pss_one (ps_ret (pe_and (pe_callB call_isi (by rfl) T.isinstance (by decide +kernel) (pa_cons (pv 0) (pa_cons (pe_bltn (v := .ty "str") (by rfl) T.str (by decide +kernel) rfl) pa_nil)))
      (pe_one (pe_cmpR op_eq (pe_bm PySem.F.plainAttrs_str PySem.F.slot_str_strip PySem.F.type_str_strip mt_stripChars (pv 0) (pa_cons (pv 1) pa_nil)) pe_str (nomark _))))), ?_⟩
    refine s_ret (v := .bl (isTxt v al)) (ev_is (ev_andV (a := isStrV v) (b := isTxt v al) (ev_isStr (K := K) (ev_var rfl) o) fun hs => ?_) (by rw [isTxt_and])) k
    cases v with
    | str t =>
      have st : Ev (tBM K "str" rStrip (tVar 0) (tCons (tVar 1) tNil)) (start ["value", "signs"] [.str t, .str al]) H (.str (Txt.stripChars t al)) := fun H1 x1 Q q => ⟨_, rfl, rfl, _, rfl, t, al, rfl, rfl, Nat.le_trans (hl t rfl) (by decide), q H1 (Ex.refl _)⟩
      exact ev_op st ev_c (rv_eq rfl)
    | _ => cases hs
theorem spv_textO {v : V} {al : Str} {H : Hp} (o : Odd H v) (hl : LenV v) : SpV spIsTextO [v, .str al] H (.bl (isTxt v al)) := fun H1 x1 Q q E => ⟨v, al, rfl, o.mono x1, hl, q⟩
/-- v in a, v no text of these signs -/
def spHasO (C : Addr) : Sp := fun vs H Q _ => ∃ (a : Addr) (v : V) (al : Str) (ys es : List Str), vs = [.ref a, v] ∧ BarsAt C H a al ys es ∧ Odd H v ∧ LenV v ∧ isTxt v al = false ∧ RetV (.bl false) H Q
theorem ok_hasO {f fT : Addr} {fd fdT : FuncData} (F : Fun K "__contains__" "Bars.__contains__" (meth 6) f fd) (T : Free mg) (CB : ClsI K mg C) (FT : Fun K "is_text" "is_text" sIsText fT fdT) (bT : Binds K fdT ["value", "signs"] []) (gT : mg "is_text" = some (.ref fT)) (kT : PySem.W.keepIn K (.ref fT) = true)
    {fH : Addr} {fdH : FuncData} (FH : Fun K "holds_some" "holds_some" sHoldsSome fH fdH) (bH : Binds K fdH ["text", "words"] []) (gH : mg "holds_some" = some (.ref fH)) (kH : PySem.W.keepIn K (.ref fH) = true) : FnOk P w K mg base CX0 2 f fd ["self", "text"] (spHasO C) := by
  have GT : FnOk P w K mg base CX0 1 fT fdT ["value", "signs"] spIsTextO := ok_is_textO FT T
  have GH : FnOk P w K mg base CX0 1 fH fdH ["text", "words"] (spHolds K) := ok_holds FH T
  refine F.ok scHas (fun vs H Q E h => ?_) (fun cdv A outer s H vs Q E hr h => ?_)
  · obtain ⟨_, _, _, _, _, rfl, _⟩ := h
    rfl
  · obtain ⟨a, v, al, ys, es, rfl, B, o, hl, no, k⟩ := h
    obtain ⟨dx, W, N, L, zs, O, h1, h2, h3, h4, h5⟩ := B.at_
    refine ⟨_, pss_one (ps_ret (pe_and (pe_call GT hr (by rfl) gT kT bT .nil pass0 (pa_cons (pv 1) (pa_cons (pe_fld (pv 0) rfl) pa_nil))) (pe_one (pe_call GH hr (by rfl) gH kH bH .nil pass0 (pa_cons (pv 1) (pa_cons (pe_fld (pv 0) rfl) pa_nil)))))), ?_⟩
    refine s_ret (v := .bl false) (ev_is (ev_andV (b := false) (ev_call (ea_cons (ev_var rfl) (ea_cons (ev_fld (K := K) (te := tVar 0) (ev_var rfl) h1 CB.toCls CB.nSigns rfl) ea_nil)) (spv_textO o hl)) fun z => ?_) (by rw [no]; rfl)) k
    rw [no] at z
    cases z
/-- the end of a value, or BadSent -/
def spEndOfX (C CS : Addr) : Sp := fun vs H Q E => ∃ (a : Addr) (v : V) (al : Str) (ys es : List Str), vs = [.ref a, v] ∧ BarsAt C H a al ys es ∧ ("" : Str) ∈ es ∧ es.length ≤ 1000 ∧ Odd H v ∧ LenV v ∧
  ((∃ t, v = .str t ∧ Over al t ∧ holdsB t ys = false ∧ RetV (.str (endF es t)) H Q) ∨ (((∃ t, v = .str t ∧ Over al t ∧ holdsB t ys = true) ∨ isTxt v al = false) ∧ RaiseV CS "value" v H E))
theorem ok_endOfX {f fE fH fT : Addr} {fd fdE fdH fdT : FuncData} (F : Fun K "end_of" "Bars.end_of" (meth 8) f fd) (T : Free mg) (CB : ClsI K mg C) (FE : Fun K "_end" "Bars._end" (meth 11) fE fdE) (bE : Binds K fdE ["self", "text"] []) (mE : Meth K C "_end" fE)
    (FT : Fun K "is_text" "is_text" sIsText fT fdT) (bT : Binds K fdT ["value", "signs"] []) (gT : mg "is_text" = some (.ref fT)) (kT : PySem.W.keepIn K (.ref fT) = true)
    (FH : Fun K "holds_some" "holds_some" sHoldsSome fH fdH) (bH : Binds K fdH ["text", "words"] []) (gH : mg "holds_some" = some (.ref fH)) (kH : PySem.W.keepIn K (.ref fH) = true)
    (ZS : Cl P w K mg base "BadSent" CS ["value"] (spI1 K "value")) : FnOk P w K mg base (L2.CX P w) 3 f fd ["self", "text"] (spEndOfX C CS) := by
  have GT : FnOk P w K mg base CX0 1 fT fdT ["value", "signs"] spIsTextO := ok_is_textO FT T
  have GE : FnOk P w K mg base CX0 2 fE fdE ["self", "text"] (spEnd C) := ok_end FE T CB FH bH gH kH
  refine F.okX scEndOf (fun vs H Q E h => ?_) (fun cdv A outer s H vs Q E hr h => ?_)
  · obtain ⟨_, _, _, _, _, rfl, _⟩ := h
    rfl
  · obtain ⟨a, v, al, ys, es, rfl, B, h0, hl, o, lv, k⟩ := h
    obtain ⟨dx, W, N, L, zs, O, h1, h2, h3, h4, h5⟩ := B.at_
    have nd := scEndOf.nd
    refine ⟨_, pss_cons (ps_if (pt_not (pt_val (pe_call GT (hr.mono (by decide)) (by rfl) gT kT bT .nil pass0 (pa_cons (pv 1) (pa_cons (pe_fld (pv 0) rfl) pa_nil))))) (pss_one (ps_raise1 rfl (takes_of rfl rfl rfl rfl) ZS hr (pa_cons (pv 1) pa_nil))) pss_nil)
      (pss_cons (ps_set (i := 2) nd rfl (.inl rfl) (pe_meth (pv 0) CB.toCls mE GE hr bE .nil pass0 (pa_cons (pv 1) pa_nil)))
      (pss_cons (ps_if (pt_cmpR op_isN (pv 2) pe_non (nomark _)) (pss_one (ps_raise1 rfl (takes_of rfl rfl rfl rfl) ZS hr (pa_cons (pv 1) pa_nil))) pss_nil)
      (pss_one (ps_ret (pv 2))))), ?_⟩
    have raises : RaiseV CS "value" v H E → ∀ {D : L2.Ends} {σ : L2.St} {H1 : Hp}, Ex H H1 → σ[1]? = some (some v) → tRaise1 K CS "value" (fun cls d _ H => E cls d H) (tCons (tVar 1) tNil) D σ H1 := fun r D σ H1 x1 e =>
      s_raise1 ZS.oex (ZS.no _ List.mem_cons_self) (ea_cons (ev_var e) ea_nil) fun d H2 x2 e2 => r d H2 (x1.trans x2) e2
    refine q_when (b := !isTxt v al) (et_not (et_B (ev_call (ea_cons (ev_var rfl) (ea_cons (ev_fld (K := K) (te := tVar 0) (ev_var rfl) h1 CB.toCls CB.nSigns rfl) ea_nil)) (spv_textO o lv)))) (fun z H1 x1 => ?_) fun z H1 x1 => ?_
    · have z' : isTxt v al = false := by simpa using z
      rcases k with ⟨t, rfl, ov, _⟩ | ⟨_, r⟩
      · rw [show isTxt (.str t) al = true from text_over ov] at z'
        cases z'
      · exact raises r x1 rfl
    · have z' : isTxt v al = true := by simpa using z
      have str : ∃ t, v = .str t ∧ Over al t := by
        rcases k with ⟨t, e, ov, _⟩ | ⟨⟨t, e, ov, _⟩ | n, _⟩
        · exact ⟨t, e, ov⟩
        · exact ⟨t, e, ov⟩
        · rw [n] at z'
          cases z'
      obtain ⟨t, rfl, ov⟩ := str
      refine ⟨_, rfl, a, dx, _, rfl, x1 _ _ h1, rfl, _, rfl, a, t, al, ys, es, rfl, B.mono x1, h0, hl, fun H2 x2 => ?_⟩
      refine (?_ : tSeq _ _ _ _ _)
      unfold endV
      cases hb : holdsB t ys with
      | true =>
        rw [if_pos rfl]
        refine q_when (b := true) (et_is (et_test (ev_op (ev_var rfl) ev_c rv_isN)) (decide_eq_true rfl)) (fun _ H3 x3 => ?_) fun z => by cases z
        rcases k with ⟨_, e, _, f0, _⟩ | ⟨_, r⟩
        · cases e
          rw [hb] at f0
          cases f0
        · exact raises r (x1.trans (x2.trans x3)) rfl
      | false =>
        rw [if_neg (by decide)]
        refine q_when (b := false) (et_is (et_test (ev_op (ev_var rfl) ev_c rv_isN)) (decide_eq_false fun z => by cases z)) (fun z => by cases z) fun _ H3 x3 => ?_
        rcases k with ⟨_, e, _, _, r⟩ | ⟨⟨_, e, _, f0⟩ | n, _⟩
        · cases e
          exact s_ret (ev_var rfl) fun H4 x4 => r H4 (x1.trans (x2.trans (x3.trans x4)))
        · cases e
          rw [hb] at f0
          cases f0
        · rw [n] at z'
          cases z'
/-- behind a value that is no end, or of a value that is no text: refused -/
def spBehindX (C CS CN : Addr) : Sp := fun vs H _ E => ∃ (a : Addr) (e t : V) (al : Str) (ys es : List Str), vs = [.ref a, e, t] ∧ BarsAt C H a al ys es ∧ Odd H e ∧ Odd H t ∧ LenV t ∧
  ((inO e es = false ∧ RaiseV CN "end" e H E) ∨ (inO e es = true ∧ isTxt t al = false ∧ RaiseV CS "value" t H E))
theorem ok_behindX {f fT : Addr} {fd fdT : FuncData} (F : Fun K "behind" "Bars.behind" (meth 9) f fd) (T : Free mg) (CB : ClsI K mg C)
    (FT : Fun K "is_text" "is_text" sIsText fT fdT) (bT : Binds K fdT ["value", "signs"] []) (gT : mg "is_text" = some (.ref fT)) (kT : PySem.W.keepIn K (.ref fT) = true)
    (ZS : Cl P w K mg base "BadSent" CS ["value"] (spI1 K "value")) (ZN : Cl P w K mg base "NoEnd" CN ["end"] (spI1 K "end")) : FnOk P w K mg base (L2.CX P w) 3 f fd ["self", "end", "text"] (spBehindX C CS CN) := by
  have GT : FnOk P w K mg base CX0 1 fT fdT ["value", "signs"] spIsTextO := ok_is_textO FT T
  refine F.okX scBehind (fun vs H Q E h => ?_) (fun cdv A outer s H vs Q E hr h => ?_)
  · obtain ⟨_, _, _, _, _, _, rfl, _⟩ := h
    rfl
  · obtain ⟨a, e, t, al, ys, es, rfl, B, oe, ot, lt, k⟩ := h
    obtain ⟨dx, W, N, L, zs, O, h1, h2, h3, h4, h5⟩ := B.at_
    refine ⟨_, pss_cons (ps_if (pt_cmpR (op_niO (Nat.lt_of_le_of_lt (Nat.add_le_add_left (by decide : 1 ≤ 64) _) hr.units)) (pv 1) (pe_fld (pv 0) rfl) (by rfl)) (pss_one (ps_raise1 rfl (takes_of rfl rfl rfl rfl) ZN hr (pa_cons (pv 1) pa_nil))) pss_nil)
      (pss_cons (ps_if (pt_not (pt_val (pe_call GT (hr.mono (by decide)) (by rfl) gT kT bT .nil pass0 (pa_cons (pv 2) (pa_cons (pe_fld (pv 0) rfl) pa_nil))))) (pss_one (ps_raise1 rfl (takes_of rfl rfl rfl rfl) ZS hr (pa_cons (pv 2) pa_nil))) pss_nil)
      (pss_one ps_never)), ?_⟩
    refine q_when (et_test (ev_op (ev_var rfl) (ev_fld (K := K) (te := tVar 0) (ev_var rfl) h1 CB.toCls CB.nEnds rfl) (rv_niO (st_of h3) oe))) (fun z H1 x1 => ?_) fun z H1 x1 => ?_
    · rcases k with ⟨_, r⟩ | ⟨n, _⟩
      · exact s_raise1 ZN.oex (ZN.no _ List.mem_cons_self) (ea_cons (ev_var rfl) ea_nil) fun d H2 x2 e2 => r d H2 (x1.trans x2) e2
      · rw [n] at z
        cases z
    · rcases k with ⟨n, _⟩ | ⟨_, n, r⟩
      · rw [n] at z
        cases z
      · refine q_when (b := true) (et_is (et_not (et_B (ev_call (ea_cons (ev_var rfl) (ea_cons (ev_fld (K := K) (te := tVar 0) (ev_var rfl) (x1 _ _ h1) CB.toCls CB.nSigns rfl) ea_nil)) (spv_textO (ot.mono x1) lt)))) (by rw [n]; rfl)) (fun _ H2 x2 => ?_) fun z => by cases z
        exact s_raise1 ZS.oex (ZS.no _ List.mem_cons_self) (ea_cons (ev_var rfl) ea_nil) fun d H3 x3 e3 => r d H3 (x1.trans (x2.trans x3)) e3
end
end K02

set_option Elab.async false
set_option linter.all false
set_option maxRecDepth 100000
set_option maxHeartbeats 4000000
/-! What the laws with lambdas share (taken out of k03's own modules) -/
namespace K02
open PySem PySem.Spec PyProof.Rows L2 Evl KU
theorem takes_len {X : Cx} {W : WX} (t : Takes X W) : Takes X fun cls d σ H => σ.length = X.N.length → W cls d σ H := fun u s' ⟨a, B, sI, pins, σ, H, cls, d, e, I, nb, up, sky, na, os, ag, w⟩ =>
  t u s' ⟨a, B, sI, pins, σ, H, cls, d, e, I, nb, up, sky, na, os, ag, w I.len⟩
/-- a new tuple -/
def NewU (xs : List V) (H : Hp) (Q : VK) : Prop := ∀ p H2, H p = none → Ex H H2 → H2 p = some (.tup xs) → Q (.ref p) H2
/-- the words of bars, as the law's own defs want them -/
structure WordsOk (ys : List Str) : Prop where
  ends : (endsS ys).length ≤ 1000
  few : ys.length ≤ 1000
  ok : ∀ u ∈ ys, PyData.strOk u = true
  less : (endsL ys).length < 64
  len : ∀ u ∈ ys, u.length ≤ 1000
  eok : ∀ u ∈ endsS ys, PyData.strOk u = true
/-- a text over the signs -/
structure TextOk (al t : Str) : Prop where
  over : Over al t
  len : t.length ≤ 1000
  small : ∀ c ∈ t.cps.toList, c < 128
theorem BarsAt.ext {C : Addr} {H H' : Hp} {a : Addr} {al : Str} {ys es : List Str} (x : ExT H H') (h : BarsAt C H a al ys es) : BarsAt C H' a al ys es := by
  obtain ⟨dx, W, N, L, zs, O, h1, h2, h3, h4, h5⟩ := h.at_
  exact ⟨⟨dx, W, N, L, zs, O, ext_ins x h1, ext_tup x h2, ext_tup x h3, ext_lst x h4, h5⟩, h.ok, h.len, h.few, h.sg⟩
theorem TextOk.shows {al t : Str} (h : TextOk al t) : shows (.str t) = true := by
  unfold KU.shows
  have z : (reprText t).length ≤ 10 * t.length + 2 := PySem.StrLaws.reprText_len t fun c hc => Nat.lt_trans (h.small c hc) (by decide)
  have l := h.len
  simp only [Bool.and_eq_true, decide_eq_true_eq]
  exact ⟨⟨rfl, by show (0 : Nat) ≤ 60; decide⟩, by show (reprText t).length ≤ 100000; omega⟩
section
variable {K : PySem.W.Frag} {σ : L2.St} {H : Hp} {ta tb : TE} {t : TT} {xs : List V}
theorem rv_eqD {x y : V} {d e : PyData} (hd : ∀ H1, Ex H H1 → Dp K H1 x d) (he : ∀ H1, Ex H H1 → Dp K H1 y e) (sd : SeqAt.shaped d = true) (se : SeqAt.shaped e = true) : RV (rEqD K) x y H (.bl (PyData.eqv d e)) :=
  fun H1 x1 _ q => ⟨d, e, hd H1 x1, he H1 x1, sd, se, q H1 (Ex.refl H1)⟩
theorem eu_ifF (h : EvT t σ H false) (hb : EvU tb σ H xs) : EvU (tIf t ta tb) σ H xs := fun H1 x1 Q q => h H1 x1 _ fun H2 x2 => by
  rw [if_neg (by decide)]
  exact hb H2 (x1.trans x2) Q fun p H3 hp x3 e => q p H3 (fresh_back x2 hp) (x2.trans x3) e
theorem el_ifT (h : EvT t σ H true) (ha : EvL ta σ H xs) : EvL (tIf t ta tb) σ H xs := fun H1 x1 Q q => h H1 x1 _ fun H2 x2 => by
  rw [if_pos rfl]
  exact ha H2 (x1.trans x2) Q fun p H3 hp x3 e => q p H3 (fresh_back x2 hp) (x2.trans x3) e
end
theorem repr_small : ∀ c < 128, (∀ x ∈ Builtin.Str.reprChar 34 c, x < 1114112) ∧ ∀ x ∈ Builtin.Str.reprChar 39 c, x < 1114112 := by decide +kernel
theorem repr_fold (q : Nat) (hq : q = 34 ∨ q = 39) : ∀ (l : List Nat) (acc : Array Nat), (∀ c ∈ l, c < 128) → (∀ x ∈ acc.toList, x < 1114112) → ∀ x ∈ (l.foldl (fun out c => out ++ (Builtin.Str.reprChar q c).toArray) acc).toList, x < 1114112
  | [], acc, _, h => h
  | c :: r, acc, hl, h => by
    rw [List.foldl_cons]
    refine repr_fold q hq r _ (fun d hd => hl d (List.mem_cons_of_mem _ hd)) fun x hx => ?_
    rw [Array.toList_append] at hx
    rcases List.mem_append.mp hx with z | z
    · exact h x z
    · have s := repr_small c (hl c List.mem_cons_self)
      rcases hq with rfl | rfl
      · exact s.1 x z
      · exact s.2 x z
theorem reprText_ok (t : Str) (h : ∀ c ∈ t.cps.toList, c < 128) : PyData.strOk (reprText t) = true := by
  have hq : reprQuote t = 34 ∨ reprQuote t = 39 := by
    unfold reprQuote
    split
    · exact .inl rfl
    · exact .inr rfl
  have q3 : reprQuote t < 1114112 := by omega
  unfold PyData.strOk reprText
  rw [← Array.all_toList, List.all_eq_true]
  intro x hx
  rw [Array.toList_push] at hx
  rcases List.mem_append.mp hx with z | z
  · rw [← Array.foldl_toList] at z
    exact decide_eq_true (repr_fold _ hq _ _ h (fun y hy => by rw [List.mem_singleton.mp hy]; exact q3) x z)
  · rw [List.mem_singleton.mp z]
    exact decide_eq_true q3
section
variable {P : Program} {w : World} {K : PySem.W.Frag} {mg : Str → Option Value} {base : Heap} {C : Addr} {T : List (Addr × Str)}
theorem rv_hasK {b : Addr} {al t : Str} {ys es : List Str} {H : Hp} {E : XK} (B : BarsAt C H b al ys es) (ov : Over al t) (tl : t.length ≤ 1000) : RV (rInI C (spHas C) E) (.str t) (.ref b) H (.bl (holdsB t ys)) := fun H1 x1 Q q => by
  obtain ⟨dx, W, N, L, zs, O, h1, _⟩ := (B.mono x1).at_
  exact ⟨b, dx, _, rfl, h1, b, t, al, ys, es, rfl, B.mono x1, ov, tl, fun H2 x2 => ⟨_, rfl, q H2 x2⟩⟩
/-- a tuple's place behind a call that makes a lambda -/
theorem lam_run {TT : (XK → Hp → VK → Prop) → Hp → VK → Prop} {t : XK → TE} {σ : L2.St} {H : Hp} {Q : VK} (hT : LamX.Tabs T H) (h : ∀ H1, ExT H H1 → LamX.Tabs T H1 → TT (fun E H' Q' => t E σ H' Q') H1 Q) : LamX.tLam T TT t σ H Q := ⟨hT, h⟩
end
/-- all but the pen and the tables stays -/
def Kp (P : Addr) (H H' : Hp) : Prop := ∀ b o, b ≠ P → H b = some o → (∀ ps, o ≠ .tbl ps) → H' b = some o
theorem Kp.refl (P : Addr) (H : Hp) : Kp P H H := fun _ _ _ h _ => h
theorem Kp.trans {P : Addr} {H H1 H2 : Hp} (a : Kp P H H1) (b : Kp P H1 H2) : Kp P H H2 := fun x o n h t => b x o n (a x o n h t) t
theorem kp_but {P : Addr} {H H' : Hp} (x : But P H H') : Kp P H H' := fun b o n h _ => x b o n h
theorem kp_ext {P : Addr} {H H' : Hp} (x : ExT H H') : Kp P H H' := fun b o _ h t => x b o h t
theorem kp_strs {P L a : Addr} {ns : List Int} {s : Nat} {g : Int} {H H' : Hp} {ws : List Str} (x : Kp P H H') (p : Pen H P L ns s g) (h : H a = some (.lst (ws.map V.str))) : H' a = some (.lst (ws.map V.str)) :=
  x a _ (fun z => by
    rw [z, p.pen] at h
    cases ws with
    | nil => cases h
    | cons t r => cases h) h fun ps z => by cases z
theorem kp_tup {P L a : Addr} {ns : List Int} {s : Nat} {g : Int} {H H' : Hp} {xs : List V} (x : Kp P H H') (p : Pen H P L ns s g) (h : H a = some (.tup xs)) : H' a = some (.tup xs) :=
  x a _ (fun z => by rw [z, p.pen] at h; cases h) h fun ps z => by cases z
theorem kp_bars {P L a C : Addr} {ns : List Int} {s : Nat} {g : Int} {H H' : Hp} {al : Str} {ys es : List Str} (x : Kp P H H') (p : Pen H P L ns s g) (h : BarsAt C H a al ys es) : BarsAt C H' a al ys es := by
  obtain ⟨dx, W, N, O, zs, Q, h1, h2, h3, h4, h5⟩ := h.at_
  exact ⟨⟨dx, W, N, O, zs, Q, x a _ (fun z => by rw [z, p.pen] at h1; cases h1) h1 (fun ps z => by cases z), kp_tup x p h2, kp_tup x p h3, kp_strs x p h4, h5⟩, h.ok, h.len, h.few, h.sg⟩
theorem tabs_but {T : List (Addr × Str)} {P L : Addr} {ns : List Int} {s : Nat} {g : Int} {H H' : Hp} (t : LamX.Tabs T H) (x : But P H H') (p : Pen H P L ns s g) : LamX.Tabs T H' := fun q hq => by
  obtain ⟨ps, h1, h2, h3⟩ := t q hq
  refine ⟨ps, x _ _ (fun z => by rw [z, p.pen] at h1; cases h1) h1, h2, fun pos cv hc => ?_⟩
  obtain ⟨c, e1, e2⟩ := h3 pos cv hc
  exact ⟨c, e1, x _ _ (fun z => by rw [z, p.pen] at e2; cases e2) e2⟩
section
variable {K : PySem.W.Frag} {σ : L2.St} {H : Hp} {ta tb : TE} {tr : TA} {r : R2} {x z : V} {P : V → Hp → Prop}
theorem ev_opP (ha : Ev ta σ H x) (hb : EvP tb σ H P) (hr : ∀ y H1, Ex H H1 → P y H1 → RV r x y H1 z) : Ev (tOp r ta tb) σ H z := fun H1 e Q q =>
  ha H1 e _ fun H2 e2 => hb H2 (e.trans e2) _ fun y H3 e3 p => hr y H3 ((e.trans e2).trans e3) p H3 (Ex.refl _) Q fun H4 e4 => q H4 (e2.trans (e3.trans e4))
/-- a tuple of texts -/
def IsTS (ws : List Str) : V → Hp → Prop := fun v H => ∃ p, v = .ref p ∧ H p = some (.tup (ws.map V.str))
theorem up_isTS (ws : List Str) : Up (IsTS ws) := fun v H H' x ⟨p, e, h⟩ => ⟨p, e, x _ _ h⟩
theorem ep_ts {ws : List Str} (h : EvA tr σ H (ws.map V.str)) (hl : ws.length ≤ 1000) : EvP (tTup tr) σ H (IsTS ws) := fun H1 e Q q => h H1 e _ fun H2 e2 =>
  ⟨sz_of (by rw [List.length_map]; omega), fun p hp => q _ _ (e2.trans (Ex.new hp)) ⟨p, rfl, upd_same⟩⟩
theorem all_ts : ∀ {wss : List (List Str)} {xs : List V}, Each (wss.map IsTS) xs H → DpAll K H xs (wss.map fun ws => .tuple (dstrs ws))
  | [], xs, h => by
    have l := h.len
    cases xs with
    | nil => exact .nil
    | cons a r => cases l
  | ws :: wss, xs, h => by
    unfold Each at h
    cases h with
    | cons h1 h2 =>
      obtain ⟨p, rfl, hp⟩ := h1
      exact .cons (.tup (st_of hp) (dp_strs ws)) (all_ts h2)
theorem up_ts (wss : List (List Str)) : ∀ P ∈ wss.map IsTS, Up P := fun P h => by
  obtain ⟨d, _, rfl⟩ := List.mem_map.mp h
  exact up_isTS d
theorem lay_ts (wss : List (List Str)) (h : ∀ ws ∈ wss, ∀ t ∈ ws, PyData.strOk t = true) : PyData.canLayAll0 (wss.map fun ws => .tuple (dstrs ws)) = true := by
  induction wss with
  | nil => rfl
  | cons ws r ih =>
    have z := ih fun w m => h w (List.mem_cons_of_mem _ m)
    have y := lay_strs ws (h ws List.mem_cons_self)
    simp only [List.map_cons, PyData.canLayAll0, PyData.canLay0, Bool.and_eq_true] at z ⊢
    exact ⟨y, z⟩
theorem depth_ts (wss : List (List Str)) : PyData.depthAll (wss.map fun ws => .tuple (dstrs ws)) ≤ 2 := by
  induction wss with
  | nil => simp [PyData.depthAll]
  | cons ws r ih =>
    have y := depth_strs ws
    simp only [List.map_cons, PyData.depthAll, PyData.depth]
    omega
theorem shaped_ts (wss : List (List Str)) (h : ∀ ws ∈ wss, ∀ t ∈ ws, PyData.strOk t = true) : SeqAt.shaped (.list (wss.map fun ws => .tuple (dstrs ws))) = true := by
  have d := depth_ts wss
  have e : PyData.depth (.list (wss.map fun ws => .tuple (dstrs ws))) ≤ 64 := by
    simp only [PyData.depth]
    omega
  show (PyData.canLay0 (.list (wss.map fun ws => .tuple (dstrs ws))) && decide (PyData.depth (.list (wss.map fun ws => .tuple (dstrs ws))) ≤ 64)) = true
  rw [Bool.and_eq_true]
  exact ⟨by simp only [PyData.canLay0]; exact lay_ts wss h, decide_eq_true e⟩
theorem eqv_ts (wss : List (List Str)) (h : ∀ ws ∈ wss, ∀ t ∈ ws, PyData.strOk t = true) : PyData.eqv (.list (wss.map fun ws => .tuple (dstrs ws))) (.list (wss.map fun ws => .tuple (dstrs ws))) = true := by
  have z := shaped_ts wss h
  unfold SeqAt.shaped at z
  rw [Bool.and_eq_true] at z
  exact SeqAt.eqv_refl _ z.1
end
/-- a list that is new behind H may change -/
theorem ext_mut {H H1 H2 : Hp} {l : Addr} {o : HO} (x : ExT H H1) (n : H1 l = none) (y : ExT H1 H2) : ExT H (upd H2 l o) := fun b u e nt => by
  have e1 := x b u e nt
  have nl : b ≠ l := ne_of_none e1 n
  rw [upd_ne nl]
  exact y b u e1 nt
theorem tabs_upd {T : List (Addr × Str)} {H : Hp} {l : Addr} {xs ys : List V} (t : LamX.Tabs T H) (h : H l = some (.lst xs)) : LamX.Tabs T (upd H l (.lst ys)) := fun q hq => by
  obtain ⟨ps, h1, h2, h3⟩ := t q hq
  refine ⟨ps, by rw [upd_ne (fun z => by rw [z, h] at h1; cases h1)]; exact h1, h2, fun pos cv hc => ?_⟩
  obtain ⟨c, e1, e2⟩ := h3 pos cv hc
  exact ⟨c, e1, by rw [upd_ne (fun z => by rw [z, h] at e2; cases e2)]; exact e2⟩
theorem least_idem (ws : List Str) : leastS (leastS ws) = leastS ws := by
  have st : sortedS (leastS ws) = true := sorted_of ((sorted_pw (srt_sorted ws)).filter _)
  have nd : (leastS ws).Nodup := (nodup_srt ws).filter _
  have e : srt (leastS ws) = leastS ws := (srt_is st nd fun k => Iff.rfl).symm
  show (srt (leastS ws)).filter (fun w => decide (lessL (leastS ws) w = [])) = leastS ws
  rw [e, List.filter_eq_self]
  intro w hw
  refine decide_eq_true ?_
  have h2 := of_decide_eq_true (List.mem_filter.mp hw).2
  unfold lessL
  rw [e, List.filter_eq_nil_iff]
  intro o ho z
  exact List.filter_eq_nil_iff.mp h2 o (List.mem_filter.mp ho).1 z
theorem alphas_small : ∀ al ∈ alphas, ∀ c ∈ al.cps.toList, c < 128 := by decide +kernel
theorem text_ok {al t : Str} (ha : al ∈ alphas) (o : Over al t) (l : t.length ≤ 1000) : TextOk al t := ⟨o, l, fun c hc => alphas_small al ha c (o c hc)⟩
theorem words_ok {al : Str} {ws gs : List Str} (F : Few al ws) (l : ws.length ≤ 30) (G : Good ws ws gs) : WordsOk ws := by
  refine ⟨?_, by omega, fun u hu => (F.words u hu).2.2, G.few, fun u hu => (F.words u hu).2.1, fun u hu => G.eok u (by rw [G.ends]; exact hu)⟩
  have := srt_len (endsL ws)
  have := G.few
  show (srt (endsL ws)).length ≤ 1000
  omega
theorem ends_over {al : Str} {ws : List Str} (F : Few al ws) : ∀ e ∈ endsS ws, Over al e ∧ e.length < 8 := fun e he => by
  have z := (mem_srt _ _).mp he
  rcases mem_ends.mp z with rfl | ⟨w, hw, k, hk, e2⟩
  · exact ⟨(fun c hc => by cases hc), by decide⟩
  · have q := (F.words w hw).1
    unfold isWordB at q
    simp only [Bool.and_eq_true, decide_eq_true_eq] at q
    refine ⟨fun c hc => F.over w hw c (List.mem_of_mem_take (by rw [← e2]; exact hc)), ?_⟩
    rw [← len_cps, e2, List.length_take, len_cps]
    have q2 := q.2.2
    have wl : w.length ≤ 8 := by omega
    have hk' := hk
    first
      | omega
      | (rw [len_cps] at hk'; omega)
theorem head_sub (t : Str) (hi : Option Int) : (∀ c ∈ (cutS t none hi).cps.toList, c ∈ t.cps.toList) ∧ (cutS t none hi).length ≤ t.length := by
  have e : (cutS t none hi).cps.toList = List.take (HT.sIx t.length t.length hi - HT.sIx t.length 0 none) (List.drop (HT.sIx t.length 0 none) t.cps.toList) := by
    unfold cutS
    rfl
  refine ⟨fun c hc => ?_, ?_⟩
  · rw [e] at hc
    exact List.mem_of_mem_drop (List.mem_of_mem_take hc)
  · rw [← len_cps, e, List.length_take, List.length_drop, len_cps]
    omega
end K02

set_option Elab.async false
set_option linter.all false
set_option maxRecDepth 100000
set_option maxHeartbeats 4000000
/-! text[::-1], ~ of an own instance, op= without an own in-place def -/
namespace KU
open PySem PySem.Spec PyProof.Rows L2 Evl
/-- a text turned -/
def revS (t : Str) : Str := ⟨t.cps.toList.reverse.toArray⟩
theorem rev_cps (t : Str) : (revS t).cps.toList = t.cps.toList.reverse := by simp [revS]
theorem rev_len (t : Str) : (revS t).length = t.length := by
  show (revS t).cps.size = t.cps.size
  rw [← Array.length_toList, rev_cps, List.length_reverse, Array.length_toList]
theorem rev_made (x : Str) (t u : Tok) : sliceMade x t none none (some (-1, u)) = .str (revS x) := by
  have h1 : ¬ (((((some ((-1 : Int), u)).map (·.1)).getD 1 == 1) && ((slicePicked x none none (some (-1, u))).length == x.length)) = true) := by
    have : ((((some ((-1 : Int), u)).map (·.1)).getD 1 == 1)) = false := rfl
    rw [this]
    simp
  unfold sliceMade
  rw [if_neg h1]
  show Made.str ⟨((Builtin.Str.strSliceIndices none none (-1) x.length).filterMap (x.cps[·]?)).toArray⟩ = _
  rw [picked_rev, PySem.W.krv_range, List.filterMap_reverse]
  have e := PySem.W.krv_all x.cps
  show Made.str ⟨((List.range x.cps.size).filterMap (x.cps[·]?)).reverse.toArray⟩ = _
  rw [e]
  rfl
section
variable {X : Cx}
def tRevT (te : TE) : TE := fun σ H Q => te σ H fun x H1 => ∃ t : Str, x = .str t ∧ t.length ≤ sizeLine ∧ Q (.str (revS t)) H1
theorem pe_revT {e : Expr} {te : TE} {k : Nat} {p1 p2 p3 pos : Pos} (he : PE X e te) : PE X (.Subscript e (.Slice none none (some (.UnaryOp .USub (.Constant (.int 1) k p1) p2)) p3) pos) (tRevT te) := by
  refine ⟨fun pins s σ H Q I h => ?_⟩
  refine Subscript_ (thn (he.run pins s σ H _ I h) fun v s1 ⟨x, H1, I1, r1, q1⟩ => ?_)
  obtain ⟨t, ex, hz, q⟩ := q1
  subst ex
  obtain ⟨tk, rfl⟩ := r1
  have hst : PO X (some (.UnaryOp .USub (.Constant (.int 1) k p1) p2)) (tPart (tUn (rU fun i => .int (-i)) (tC (.int 1)))) := po_some (pe_un un_neg pe_int)
  refine wpAny_Slice (thn (po_none.run pins s1 σ H1 (fun o H2 => o = none ∧ H2 = H1) I1 ⟨rfl, rfl⟩) fun vl s2 ⟨l, H2, I2, pl, el, e2⟩ => ?_)
  subst el e2
  refine thn (po_none.run pins s2 σ H2 (fun o H3 => o = none ∧ H3 = H2) I2 ⟨rfl, rfl⟩) fun vu s3 ⟨u, H3, I3, pu, eu, e3⟩ => ?_
  subst eu e3
  refine thn (hst.run pins s3 σ H3 (fun o H4 => o = some (-1) ∧ H4 = H3) I3 ⟨1, rfl, -1, rfl, rfl, rfl⟩) fun vs s4 ⟨o, H4, I4, ps, eo, e4⟩ => ?_
  subst eo e4
  have I5 : Inv X pins σ H4 { s4 with heap := s4.heap.push { cls := .type "slice", data := .fields #[vl, vu, vs] } } := I4.kept (t' := s4.toks) fun b ob q => Heap.get?_push_of_some _ q
  obtain ⟨l', el, e1⟩ := IsPart.raw pl
  obtain ⟨u', eu, e2⟩ := IsPart.raw pu
  obtain ⟨st', es, e3⟩ := IsPart.raw ps
  have l0 : l' = none := by
    cases l' with
    | none => rfl
    | some z => cases e1
  have u0 : u' = none := by
    cases u' with
    | none => rfl
    | some z => cases e2
  obtain ⟨tk2, s0⟩ : ∃ tk2, st' = some (-1, tk2) := by
    cases st' with
    | none => cases e3
    | some z =>
      obtain ⟨i, t2⟩ := z
      cases e3
      exact ⟨t2, rfl⟩
  subst l0 u0 s0
  refine tail_any (ops := [.str t tk, .ref s4.heap.objs.size]) (typeIs_str _ _ _) F.slot_str_getitem.lookup ?_ (by with_unfolding_all rfl)
  refine wpAny_getItem_str_slice (l := none) (u := none) (st := some (-1, tk2)) ⟨_, Heap.get?_push_size _ rfl, rfl, by rw [el, eu, es]⟩ rfl ?_
  rw [rev_made]
  exact ⟨by rw [rev_len]; exact hz, .str _, H4, I5.tok _, ⟨_, rfl⟩, q⟩
end
section
variable {X : Cx} {CX : CXT} {pins : List (Addr × Obj)} {C g : Addr} {n : Nat} {sp : Sp} {E : XK}
/-- an operator with one instance, by the own def -/
def rUnI (C : Addr) (sp : Sp) (E : XK) : V → Hp → VK → Prop := fun x H Q => ∃ (a dx : Addr) (fs : List (Str × V)), x = .ref a ∧ H a = some (.ins C dx fs) ∧ sp [x] H Q E
theorem un_invI (hs : PySem.W.findIn X.K (.ref C) "__invert__" = some (some (.ref g))) (hf : PySem.W.isFn X.K (.ref g) = true)
    (F : FnR X.prog X.w X.K X.mg X.base CX n g sp) (hr : Room n X.A) (hx : Passes CX X E) : UnR X (unaryOp .Invert) (rUnI C sp E) := by
  intro pins s σ H x u Q I rx h
  obtain ⟨a, dx, fs, rfl, ha, q⟩ := h
  obtain rfl : u = Value.ref a := rx
  obtain ⟨od, Ja⟩ := ins_at I ha
  obtain ⟨m, fr⟩ := I.fr
  refine PySem.W.ksp_inv fr I.ok.mod.kin Ja hs hf ?_
  exact own_call F hr I.env0 hx I (vs := [.ref a]) (.cons rfl .nil) q
end
/-- no class of C's order has an own in-place def -/
def noInB (K : PySem.W.Frag) (C : Addr) (nm : String) : Bool := match PySem.W.clsIn K C with
  | some cd => cd.mro.all fun c => PySem.W.findIn K c (dunderI nm) == some none
  | none => false
section
variable {M : Model} {h : Heap}
theorem looks_any {f : Value → Sem Bool} : ∀ l : List Value, (∀ c ∈ l, PySem.W.Looks M h (f c) false) → PySem.W.Looks M h (l.anyM f) false
  | [], _ => PySem.W.Looks.of_pure rfl
  | c :: r, hf => by
    intro A Q E s k q
    rw [List.anyM_cons]
    refine wpAny_bind ((hf c List.mem_cons_self) A _ E s k ?_)
    exact looks_any r (fun d hd => hf d (List.mem_cons_of_mem _ hd)) A Q E s k q
end
theorem no_inplace {M : Model} {K : PySem.W.Frag} {h : Heap} {C : Addr} {nm : String} {add : Bool} (X : K.In h) (hn : noInB K C nm = true) : PySem.W.Looks M h (fillsInplaceSlot (.ref C) nm add) false := by
  unfold noInB at hn
  cases hc : PySem.W.clsIn K C with
  | none =>
    rw [hc] at hn
    cases hn
  | some cd =>
    rw [hc] at hn
    intro A Q E s k q
    have Lm : PySem.W.Looks M h (mroOf (.ref C)) cd.mro := (PySem.W.looks_clsIn X hc).andThen (f := fun cd => pure cd.mro) .now
    unfold fillsInplaceSlot
    refine wpAny_bind (Lm A _ E s k ?_)
    refine looks_any cd.mro (fun c hc2 => ?_) A Q E s k q
    intro A Q E s k q
    have z := beq_iff_eq.mp (List.all_eq_true.mp hn c hc2)
    refine wpAny_bind (PySem.W.looks_findIn X z A _ E s k ?_)
    exact wpAny_pure q
section
variable {K : PySem.W.Frag} {A : Around} {E : Value → Shared → Prop} {s : Shared} {h₀ : Heap} {L x C f : Addr} {m : Str → Option Value} {ox : Obj} {od : Option Obj}
theorem inplace_K {prog : Program} {w : World} {op : Operator} {b : Value} {Q : Value → Shared → Prop} (F : Fr h₀ L s.heap m) (X₀ : K.In h₀) (I : PySem.W.InstAt s.heap x ox C od) (hb : PySem.W.Looks (model prog w) s.heap (typeOf b) (.ref C)) (hc : PySem.W.selfFirst K C = true)
    (hn : noInB K C op.info.2 = true) (hs : PySem.W.findIn K (.ref C) (PySem.dunder op.info.2) = some (some (.ref f))) (hf : PySem.W.isFn K (.ref f) = true)
    (h : wpAny (model prog w) A (call (.ref f) [.ref x, b]) (PySem.W.CmpBack Q) E s) : wpAny (model prog w) A (inplaceOp op (.ref x) b) Q E s := by
  have X := X₀.keeps F.keep
  obtain ⟨cd, rest, hcd, hm⟩ := PySem.W.ksp_first hc
  unfold inplaceOp
  refine wpAny_holding (wpAny_bind (I.type.here (wpAny_bind ((no_inplace X hn).here ?_))))
  simp only [Bool.false_eq_true, if_false]
  refine wpAny_bind (m := binaryOp1 op.info.2 (.ref x) b) ?_
  unfold binaryOp1
  refine wpAny_bind (I.type.here (wpAny_bind (hb.here (wpAny_bind ((PySem.W.fills_K X hcd hm hs).here ?_)))))
  simp only [beq_self_eq_true, if_true]
  refine wpAny_bind (wpAny_pure ?_)
  simp only [Bool.and_false, Bool.false_eq_true, if_false, Bool.false_and]
  refine wpAny_bind (wpAny_pure ?_)
  simp only [Bool.false_eq_true, if_false]
  refine wpAny_bind (m := tryMethod (.ref x) _ b) ?_
  unfold tryMethod
  refine wpAny_bind (PySem.W.special_fn X I hs (beq_iff_eq.mp hf) (wpAny_mono h (fun v s' hv => ?_) fun _ _ e => e))
  cases v <;> first | exact hv.elim | exact wpAny_pure (wpAny_pure (wpAny_pure hv))
end
section
variable {X : Cx} {CX : CXT} {C g : Addr} {n : Nat} {sp : Sp} {E : XK}
theorem ip_binI {op : Operator} (sf : PySem.W.selfFirst X.K C = true) (hn : noInB X.K C op.info.2 = true) (hs : PySem.W.findIn X.K (.ref C) (dunder op.info.2) = some (some (.ref g))) (hf : PySem.W.isFn X.K (.ref g) = true)
    (F : FnR X.prog X.w X.K X.mg X.base CX n g sp) (hr : Room n X.A) (hx : Passes CX X E) : PIp X op (rBinI C sp E) := by
  intro pins s σ H x y u v Q I rx ry h
  obtain ⟨a, dx, fs, b, dy, gs, rfl, rfl, ha, hb, q⟩ := h
  obtain rfl : u = Value.ref a := rx
  obtain rfl : v = Value.ref b := ry
  obtain ⟨od, Ja⟩ := ins_at I ha
  obtain ⟨oe, Jb⟩ := ins_at I hb
  obtain ⟨m, fr⟩ := I.fr
  refine inplace_K fr I.ok.mod.kin Ja Jb.type sf hn hs hf ?_
  exact wpAny_mono (own_call F hr I.env0 hx I (vs := [.ref a, .ref b]) (.cons rfl (.cons rfl .nil)) q) (fun u s' ⟨z, H', I', rz, qz⟩ => SlX.cmpback rz ⟨z, H', I', rz, qz⟩) fun e s' z => z
end
end KU

set_option Elab.async false
set_option linter.all false
set_option maxRecDepth 100000
set_option maxHeartbeats 4000000
/-! bars.py: Bars shared, parted, ordered -/
namespace K02
open PySem PySem.Spec PyProof.Rows L2 Evl KU
section
variable {P : Program} {w : World} {K : PySem.W.Frag} {mg : Str → Option Value} {base : Heap} {C : Addr}
/-- Bars of some of the words of one -/
def spSome (C : Addr) (f : List Str → List Str → List Str) : Sp := fun vs H Q _ => ∃ (a b : Addr) (al : Str) (ys zs es fs : List Str), vs = [.ref a, .ref b] ∧ BarsAt C H a al ys es ∧ BarsAt C H b al zs fs ∧ al.length ≤ 1000 ∧ isAlphaB al = true ∧ Fit al (f ys zs) ∧
  ∀ (x : Addr) (us gs : List Str) (H' : Hp), H x = none → Ex H H' → us.Perm (leastU (f ys zs)) → sortedS us = true → gs.Perm (uniq (endsL us)) → sortedS gs = true → BarsAt C H' x al us gs → Q (.ref x) H'
def bothW (ys zs : List Str) : List Str := ys.filter fun t => decide (t ∈ zs)
def lessW (ys zs : List Str) : List Str := ys.filter fun t => !decide (t ∈ zs)
abbrev nSome : List Str := ["self", "other", "words", "word"]
theorem scAnd : FnScope nSome ["self", "other"] (defScope (meth 15)) := ⟨rfl, rfl, rfl, by decide +kernel, rfl, by decide +kernel, by decide +kernel⟩
theorem scSub : FnScope nSome ["self", "other"] (defScope (meth 16)) := ⟨rfl, rfl, rfl, by decide +kernel, rfl, by decide +kernel, by decide +kernel⟩
theorem ok_and {f fI fK : Addr} {fd fdK : FuncData} (F : Fun K "__and__" "Bars.__and__" (meth 15) f fd) (T : Free mg) (CB : ClsI K mg C) (M : Mk K C fI) (FI : FnR P w K mg base CX0 4 fI (spB C))
    (FK : Fun K "_check_other" "Bars._check_other" (meth 13) fK fdK) (bK : Binds K fdK ["self", "other"] []) (mK : Meth K C "_check_other" fK) : FnOk P w K mg base CX0 6 f fd ["self", "other"] (spSome C bothW) := by
  have GK : FnOk P w K mg base CX0 1 fK fdK ["self", "other"] (spChk C) := ok_chk FK T CB
  refine F.ok scAnd (fun vs H Q E h => ?_) (fun cdv A outer s H vs Q E hr h => ?_)
  · obtain ⟨_, _, _, _, _, _, _, rfl, _⟩ := h
    rfl
  · obtain ⟨a, b, al, ys, zs, es, fs, rfl, B1, B2, hal, hA, fit, k⟩ := h
    obtain ⟨dx, W, N, L, zz, O, h1, h2, h3, h4, h5⟩ := B1.at_
    obtain ⟨dx', W', N', L', zz', O', g1, g2, g3, g4, g5⟩ := B2.at_
    have nd := scAnd.nd
    have yf := B1.few
    refine ⟨_, pss_cons (ps_expr (pe_meth (pv 0) CB.toCls mK GK (hr.mono (by decide)) bK .nil pass0 (pa_cons (pv 1) pa_nil)))
      (pss_cons (ps_setLc (i := 2) (own := [("word", 3)]) (g := gName 3) (tt := tTest (tOp (rIn K false) (tVar 3) (tFld K (tVar 1) "words"))) rfl nd rfl rfl (sw_true rfl rfl rfl (by decide +kernel)) (pi_tup (pe_fld (pv 0) rfl)) (blkOk_by (own := [("word", 3)]) (N := nSome) (sc := defScope (meth 15)) (by decide +kernel))
        (fun _ _ _ _ _ => pg_name (i := 3) nd rfl (Or.inl rfl)) (fun _ _ _ _ _ => by exact pts_one (pt_cmpR op_in_seq (pv 3) (pe_fld (pv 1) rfl) (by rfl))) (fun _ _ _ _ _ => pv 3))
      (pss_one (ps_ret (pe_makeS M FI hr (by rfl) CB.gB pass0 (pa_cons (pe_fld (pv 0) rfl) (StX.pa_star (pv 2) pa_nil)))))), ?_⟩
    refine ⟨_, rfl, a, dx, _, rfl, h1, rfl, _, rfl, a, b, al, ys, zs, es, fs, rfl, B1, B2, fun H1 x1 => ?_⟩
    have z := el_fmT (K := K) (σ := start nSome [.ref a, .ref b]) (H := H1) (te := tVar 3) (tl := tFld K (tVar 0) "words") (j := 3) (vs := [3]) (t := tTest (tOp (rIn K false) (tVar 3) (tFld K (tVar 1) "words")))
      (a := W) (xs := ys.map V.str) (onSB fun t => decide (t ∈ zs)) (onS V.str) (ev_fld (K := K) (te := tVar 0) (ev_var rfl) (x1 _ _ h1) CB.toCls CB.nWords rfl) (st_of (x1 _ _ h2)) (by rw [List.length_map]; omega) (fun _ => rfl) (fun v H3 x3 mv => by
        obtain ⟨t, mt, rfl⟩ := mem_str mv
        exact et_is (et_test (ev_op (ev_var rfl) (ev_fld (K := K) (te := tVar 1) (ev_var rfl) (x3 _ _ (x1 _ _ g1)) CB.toCls CB.nWords rfl) (rv_isT (st_of (x3 _ _ (x1 _ _ g2))) rfl (flat_strs zs)))) (by rw [inV_strs]; rfl)) (fun v H3 x3 mv _ => by
        obtain ⟨t, mt, rfl⟩ := mem_str mv
        exact ev_var rfl)
    rw [fm_str] at z
    refine q_asgL z fun p H2 hp x2 e2 => ?_
    have x12 := x1.trans x2
    have m := mk_bars (C := C) (E := E0) (Q := Q) (H := H2) (ws := bothW ys zs) (al := al) (t := tCons (tFld K (tVar 0) "signs") (StX.tStar K (tVar 2) tNil)) (σ := [some (.ref a), some (.ref b), some (.ref p), none]) ?_ hal hA fit
      fun x us gs H' hx x3 p1 p2 p3 p4 p5 => k x us gs H' (fresh_back x12 hx) (x12.trans x3) p1 p2 p3 p4 p5
    · exact m
    · have y := ea_cons (ev_fld (K := K) (σ := [some (.ref a), some (.ref b), some (.ref p), none]) (te := tVar 0) (H := H2) (ev_var rfl) (x12 _ _ h1) CB.toCls CB.nSigns rfl) (ea_star (K := K) (te := tVar 2) (ev_var rfl) (.inr (sq_of e2)) ea_nil)
      rw [List.append_nil] at y
      exact y
theorem ok_sub {f fI fK : Addr} {fd fdK : FuncData} (F : Fun K "__sub__" "Bars.__sub__" (meth 16) f fd) (T : Free mg) (CB : ClsI K mg C) (M : Mk K C fI) (FI : FnR P w K mg base CX0 4 fI (spB C))
    (FK : Fun K "_check_other" "Bars._check_other" (meth 13) fK fdK) (bK : Binds K fdK ["self", "other"] []) (mK : Meth K C "_check_other" fK) : FnOk P w K mg base CX0 6 f fd ["self", "other"] (spSome C lessW) := by
  have GK : FnOk P w K mg base CX0 1 fK fdK ["self", "other"] (spChk C) := ok_chk FK T CB
  refine F.ok scSub (fun vs H Q E h => ?_) (fun cdv A outer s H vs Q E hr h => ?_)
  · obtain ⟨_, _, _, _, _, _, _, rfl, _⟩ := h
    rfl
  · obtain ⟨a, b, al, ys, zs, es, fs, rfl, B1, B2, hal, hA, fit, k⟩ := h
    obtain ⟨dx, W, N, L, zz, O, h1, h2, h3, h4, h5⟩ := B1.at_
    obtain ⟨dx', W', N', L', zz', O', g1, g2, g3, g4, g5⟩ := B2.at_
    have nd := scSub.nd
    have yf := B1.few
    refine ⟨_, pss_cons (ps_expr (pe_meth (pv 0) CB.toCls mK GK (hr.mono (by decide)) bK .nil pass0 (pa_cons (pv 1) pa_nil)))
      (pss_cons (ps_setLc (i := 2) (own := [("word", 3)]) (g := gName 3) (tt := tTest (tOp (rIn K true) (tVar 3) (tFld K (tVar 1) "words"))) rfl nd rfl rfl (sw_true rfl rfl rfl (by decide +kernel)) (pi_tup (pe_fld (pv 0) rfl)) (blkOk_by (own := [("word", 3)]) (N := nSome) (sc := defScope (meth 16)) (by decide +kernel))
        (fun _ _ _ _ _ => pg_name (i := 3) nd rfl (Or.inl rfl)) (fun _ _ _ _ _ => by exact pts_one (pt_cmpR op_notIn_seq (pv 3) (pe_fld (pv 1) rfl) (by rfl))) (fun _ _ _ _ _ => pv 3))
      (pss_one (ps_ret (pe_makeS M FI hr (by rfl) CB.gB pass0 (pa_cons (pe_fld (pv 0) rfl) (StX.pa_star (pv 2) pa_nil)))))), ?_⟩
    refine ⟨_, rfl, a, dx, _, rfl, h1, rfl, _, rfl, a, b, al, ys, zs, es, fs, rfl, B1, B2, fun H1 x1 => ?_⟩
    have z := el_fmT (K := K) (σ := start nSome [.ref a, .ref b]) (H := H1) (te := tVar 3) (tl := tFld K (tVar 0) "words") (j := 3) (vs := [3]) (t := tTest (tOp (rIn K true) (tVar 3) (tFld K (tVar 1) "words")))
      (a := W) (xs := ys.map V.str) (onSB fun t => !decide (t ∈ zs)) (onS V.str) (ev_fld (K := K) (te := tVar 0) (ev_var rfl) (x1 _ _ h1) CB.toCls CB.nWords rfl) (st_of (x1 _ _ h2)) (by rw [List.length_map]; omega) (fun _ => rfl) (fun v H3 x3 mv => by
        obtain ⟨t, mt, rfl⟩ := mem_str mv
        exact et_is (et_test (ev_op (ev_var rfl) (ev_fld (K := K) (te := tVar 1) (ev_var rfl) (x3 _ _ (x1 _ _ g1)) CB.toCls CB.nWords rfl) (rv_niT (st_of (x3 _ _ (x1 _ _ g2))) rfl (flat_strs zs)))) (by rw [inV_strs]; rfl)) (fun v H3 x3 mv _ => by
        obtain ⟨t, mt, rfl⟩ := mem_str mv
        exact ev_var rfl)
    rw [fm_str] at z
    refine q_asgL z fun p H2 hp x2 e2 => ?_
    have x12 := x1.trans x2
    have m := mk_bars (C := C) (E := E0) (Q := Q) (H := H2) (ws := lessW ys zs) (al := al) (t := tCons (tFld K (tVar 0) "signs") (StX.tStar K (tVar 2) tNil)) (σ := [some (.ref a), some (.ref b), some (.ref p), none]) ?_ hal hA fit
      fun x us gs H' hx x3 p1 p2 p3 p4 p5 => k x us gs H' (fresh_back x12 hx) (x12.trans x3) p1 p2 p3 p4 p5
    · exact m
    · have y := ea_cons (ev_fld (K := K) (σ := [some (.ref a), some (.ref b), some (.ref p), none]) (te := tVar 0) (H := H2) (ev_var rfl) (x12 _ _ h1) CB.toCls CB.nSigns rfl) (ea_star (K := K) (te := tVar 2) (ev_var rfl) (.inr (sq_of e2)) ea_nil)
      rw [List.append_nil] at y
      exact y
/-- each word of one holds a word of the other -/
def withinB (ys zs : List Str) : Bool := ys.all fun t => holdsB t zs
def spLe (C : Addr) : Sp := fun vs H Q _ => ∃ (a b : Addr) (al : Str) (ys zs es fs : List Str), vs = [.ref a, .ref b] ∧ BarsAt C H a al ys es ∧ BarsAt C H b al zs fs ∧ RetV (.bl (withinB ys zs)) H Q
abbrev nLe : List Str := ["self", "other", "word"]
theorem scLe : FnScope nLe ["self", "other"] (defScope (meth 18)) := ⟨rfl, rfl, rfl, by decide +kernel, rfl, by decide +kernel, by decide +kernel⟩
theorem ok_le {f fK fH : Addr} {fd fdK fdH : FuncData} (F : Fun K "__le__" "Bars.__le__" (meth 18) f fd) (T : Free mg) (CB : ClsI K mg C) (FK : Fun K "_check_other" "Bars._check_other" (meth 13) fK fdK) (bK : Binds K fdK ["self", "other"] []) (mK : Meth K C "_check_other" fK)
    (FH : Fun K "holds_some" "holds_some" sHoldsSome fH fdH) (bH : Binds K fdH ["text", "words"] []) (gH : mg "holds_some" = some (.ref fH)) (kH : PySem.W.keepIn K (.ref fH) = true) : FnOk P w K mg base CX0 2 f fd ["self", "other"] (spLe C) := by
  have GK : FnOk P w K mg base CX0 1 fK fdK ["self", "other"] (spChk C) := ok_chk FK T CB
  have GH : FnOk P w K mg base CX0 1 fH fdH ["text", "words"] (spHolds K) := ok_holds FH T
  refine F.ok scLe (fun vs H Q E h => ?_) (fun cdv A outer s H vs Q E hr h => ?_)
  · obtain ⟨_, _, _, _, _, _, _, rfl, _⟩ := h
    rfl
  · obtain ⟨a, b, al, ys, zs, es, fs, rfl, B1, B2, k⟩ := h
    obtain ⟨dx, W, N, L, zz, O, h1, h2, h3, h4, h5⟩ := B1.at_
    obtain ⟨dx', W', N', L', zz', O', g1, g2, g3, g4, g5⟩ := B2.at_
    have nd := scLe.nd
    have yf := B1.few
    refine ⟨_, pss_cons (ps_expr (pe_meth (pv 0) CB.toCls mK GK hr bK .nil pass0 (pa_cons (pv 1) pa_nil)))
      (pss_one (ps_ret (pe_callB (cr_all rfl) (by rfl) T.all (by decide +kernel) (pa_cons (pe_lc (own := [("word", 2)]) (g := gName 2) (tt := tYes) (te := tCall (spHolds K) [] E0 (tCons (tVar 2) (tCons (tFld K (tVar 1) "words") tNil))) rfl nd (pi_tup (pe_fld (pv 0) rfl)) (blkOk_by (own := [("word", 2)]) (N := nLe) (sc := defScope (meth 18)) (by decide +kernel))
        (fun _ _ _ _ _ => pg_name (i := 2) nd rfl (Or.inl rfl)) (fun _ _ _ _ _ => pts_nil) (fun _ _ _ _ _ => by exact pe_call GH hr (by rfl) gH kH bH .nil pass0 (pa_cons (pv 2) (pa_cons (pe_fld (pv 1) rfl) pa_nil)))) pa_nil)))), ?_⟩
    refine ⟨_, rfl, a, dx, _, rfl, h1, rfl, _, rfl, a, b, al, ys, zs, es, fs, rfl, B1, B2, fun H1 x1 => ?_⟩
    have z := el_fmT (K := K) (σ := start nLe [.ref a, .ref b]) (H := H1) (te := tCall (spHolds K) [] E0 (tCons (tVar 2) (tCons (tFld K (tVar 1) "words") tNil))) (tl := tFld K (tVar 0) "words") (j := 2) (vs := [2]) (t := tYes)
      (a := W) (xs := ys.map V.str) (fun _ => true) (onS fun t => .bl (holdsB t zs)) (ev_fld (K := K) (te := tVar 0) (ev_var rfl) (x1 _ _ h1) CB.toCls CB.nWords rfl) (st_of (x1 _ _ h2)) (by rw [List.length_map]; omega) (fun _ => rfl) (fun _ _ _ _ => et_yes) (fun v H3 x3 mv _ => by
        obtain ⟨t, mt, rfl⟩ := mem_str mv
        exact ev_call (ea_cons (ev_var rfl) (ea_cons (ev_fld (K := K) (te := tVar 1) (ev_var rfl) (x3 _ _ (x1 _ _ g1)) CB.toCls CB.nWords rfl) ea_nil)) (spv_holdsT (x3 _ _ (x1 _ _ g2)) B2.few))
    rw [all_str, List.map_map] at z
    have e : withinB ys zs = (ys.map fun t => holdsB t zs).all id := by
      unfold withinB
      rw [List.all_map]
      rfl
    have y : EvL (tLc (iTup K (tFld K (tVar 0) "words")) (gName 2) tYes (tCall (spHolds K) [] E0 (tCons (tVar 2) (tCons (tFld K (tVar 1) "words") tNil))) [2]) (start nLe [.ref a, .ref b]) H1 ((ys.map fun t => holdsB t zs).map V.bl) := by
      rw [List.map_map]
      exact z
    have y2 := ev_allN (K := K) y
    rw [← e] at y2
    exact s_ret y2 fun H2 x2 => k H2 (x1.trans x2)
end
end K02

set_option Elab.async false
set_option linter.all false
set_option maxRecDepth 100000
set_option maxHeartbeats 4000000
/-! Turned words, parts of least words, words of two bars -/
namespace K02
open PySem PySem.Spec PyProof.Rows L2 Evl KU
theorem rev_rev (t : Str) : revS (revS t) = t := str_ext (by rw [rev_cps, rev_cps, List.reverse_reverse])
theorem rev_inj {a b : Str} (h : revS a = revS b) : a = b := by rw [← rev_rev a, h, rev_rev]
theorem rev_full {w : Str} (h : Full w) : Full (revS w) := by
  unfold Full at h ⊢
  rw [rev_cps]
  exact fun z => h (List.reverse_eq_nil_iff.mp z)
theorem rev_in {a b : Str} (ha : Full a) : inS (revS a) (revS b) = inS a b := by
  rw [Bool.eq_iff_iff, inS_iff (rev_full ha), inS_iff ha, rev_cps, rev_cps, List.reverse_infix]
theorem rev_holds {t : Str} {ws : List Str} (full : ∀ w ∈ ws, Full w) : holdsB (revS t) (ws.map revS) = holdsB t ws := by
  rw [Bool.eq_iff_iff, holdsB_iff, holdsB_iff]
  constructor
  · rintro ⟨w, hw, q⟩
    obtain ⟨v, hv, rfl⟩ := List.mem_map.mp hw
    rw [rev_in (full v hv)] at q
    exact ⟨v, hv, q⟩
  · rintro ⟨v, hv, q⟩
    exact ⟨revS v, List.mem_map.mpr ⟨v, hv, rfl⟩, by rw [rev_in (full v hv)]; exact q⟩
theorem leastS_eq {ws ys : List Str} (hs : sortedS ys = true) (nd : ys.Nodup) (h : ∀ x, x ∈ ys ↔ x ∈ leastU ws) : leastS ws = ys := (leastS_is ((List.perm_ext_iff_of_nodup nd (nodup_least ws)).mpr h) hs).symm
theorem leastS_srt (ws : List Str) : leastS ws = srt (leastU ws) := leastS_eq (srt_sorted _) (nodup_srt _) fun x => mem_srt _ x
theorem mem_leastS (ws : List Str) (x : Str) : x ∈ leastS ws ↔ x ∈ leastU ws := by rw [leastS_srt, mem_srt]
theorem sorted_least (ws : List Str) : sortedS (leastS ws) = true := by rw [leastS_srt]; exact srt_sorted _
theorem nodup_leastS (ws : List Str) : (leastS ws).Nodup := by rw [leastS_srt]; exact nodup_srt _
/-- least words -/
def IsL (ys : List Str) : Prop := leastS ys = ys
theorem isL_least (ws : List Str) : IsL (leastS ws) := least_idem ws
theorem IsL.sorted {ys : List Str} (h : IsL ys) : sortedS ys = true := by rw [← h]; exact sorted_least _
theorem IsL.nodup {ys : List Str} (h : IsL ys) : ys.Nodup := by rw [← h]; exact nodup_leastS _
theorem IsL.anti {ys : List Str} (h : IsL ys) {x o : Str} (hx : x ∈ ys) (ho : o ∈ ys) (ne : o ≠ x) : inS o x = false := by
  have z : x ∈ leastU ys := (mem_leastS ys x).mp (by rw [h]; exact hx)
  exact ((mem_least ys x).mp z).2 o ho ne
theorem IsL.filter {ys : List Str} (h : IsL ys) (p : Str → Bool) : IsL (ys.filter p) := by
  refine leastS_eq (sorted_of ((sorted_pw h.sorted).filter _)) (h.nodup.filter _) fun x => ?_
  rw [mem_least]
  exact ⟨fun m => ⟨m, fun o ho ne => h.anti (List.mem_filter.mp m).1 (List.mem_filter.mp ho).1 ne⟩, fun m => m.1⟩
theorem mem_rev_least {ys : List Str} (h : IsL ys) (full : ∀ w ∈ ys, Full w) (x : Str) : x ∈ leastS (ys.map revS) ↔ x ∈ ys.map revS := by
  rw [mem_leastS, mem_least]
  refine ⟨fun m => m.1, fun m => ⟨m, fun o ho ne => ?_⟩⟩
  obtain ⟨a, ha, rfl⟩ := List.mem_map.mp m
  obtain ⟨b, hb, rfl⟩ := List.mem_map.mp ho
  rw [rev_in (full b hb)]
  exact h.anti ha hb fun e => ne (by rw [e])
theorem rev_twice {ys : List Str} (h : IsL ys) (full : ∀ w ∈ ys, Full w) : leastS ((leastS (ys.map revS)).map revS) = ys := by
  have m : ∀ x, x ∈ (leastS (ys.map revS)).map revS ↔ x ∈ ys := fun x => by
    rw [List.mem_map]
    constructor
    · rintro ⟨a, ha, rfl⟩
      obtain ⟨b, hb, rfl⟩ := List.mem_map.mp ((mem_rev_least h full a).mp ha)
      rw [rev_rev]
      exact hb
    · intro hx
      exact ⟨revS x, (mem_rev_least h full _).mpr (List.mem_map.mpr ⟨x, hx, rfl⟩), rev_rev x⟩
  rw [least_congr m]
  exact h
theorem holds_congr {t : Str} {a b : List Str} (h : ∀ x, x ∈ a ↔ x ∈ b) : holdsB t a = holdsB t b := by
  rw [Bool.eq_iff_iff, holdsB_iff, holdsB_iff]
  exact exists_congr fun x => and_congr_left fun _ => h x
theorem holds_rev {t : Str} {ys : List Str} (h : IsL ys) (full : ∀ w ∈ ys, Full w) : holdsB (revS t) (leastS (ys.map revS)) = holdsB t ys := (holds_congr (mem_rev_least h full)).trans (rev_holds full)
theorem within_trans {t : Str} {ys zs : List Str} (fy : ∀ w ∈ ys, Full w) (fz : ∀ w ∈ zs, Full w) (h : withinB ys zs = true) (q : holdsB t ys = true) : holdsB t zs = true := by
  obtain ⟨w, hw, i⟩ := (holdsB_iff _ _).mp q
  obtain ⟨v, hv, j⟩ := (holdsB_iff _ _).mp (List.all_eq_true.mp h w hw)
  exact (holdsB_iff _ _).mpr ⟨v, hv, inS_trans (fz v hv) (fy w hw) j i⟩
theorem within_least {ys ws : List Str} (full : ∀ w ∈ ws, Full w) (sub : ∀ y ∈ ys, y ∈ ws) : withinB ys (leastS ws) = true := List.all_eq_true.mpr fun y hy => by
  obtain ⟨m, hm, q⟩ := has_least ws full _ y (Nat.le_refl _) (sub y hy)
  exact (holdsB_iff _ _).mpr ⟨m, (mem_leastS ws m).mpr hm, q⟩
theorem within_sub {ys ws : List Str} (full : ∀ w ∈ ws, Full w) (sub : ∀ y ∈ ys, y ∈ ws) : withinB ys ws = true := List.all_eq_true.mpr fun y hy => (holdsB_iff _ _).mpr ⟨y, sub y hy, inS_refl (full y (sub y hy))⟩
/-- words of bars, with the sum of their lengths -/
structure Wd (al : Str) (ys : List Str) (n : Nat) : Prop where
  drawn : al ∈ alphas
  few : Few al ys
  least : IsL ys
  sum : (ys.map (·.length)).sum ≤ n
  len : ys.length ≤ 6
theorem Wd.full {al : Str} {ys : List Str} {n : Nat} (W : Wd al ys n) : ∀ w ∈ ys, Full w := fun w hw => full_of (W.few.full w hw)
theorem sum_filter (f : Str → Nat) (p : Str → Bool) : ∀ l : List Str, ((l.filter p).map f).sum ≤ (l.map f).sum
  | [] => Nat.le_refl _
  | a :: r => by
    have z := sum_filter f p r
    rw [List.filter_cons]
    split
    · rw [List.map_cons, List.map_cons, List.sum_cons, List.sum_cons]
      omega
    · rw [List.map_cons, List.sum_cons]
      omega
theorem Wd.filter {al : Str} {ys : List Str} {n : Nat} (W : Wd al ys n) (p : Str → Bool) : Wd al (ys.filter p) n := by
  refine ⟨W.drawn, W.few.sub fun t ht => (List.mem_filter.mp ht).1, W.least.filter p, Nat.le_trans (sum_filter _ p ys) W.sum, Nat.le_trans (List.length_filter_le _ _) W.len⟩
theorem over_rev {al t : Str} (h : Over al t) : Over al (revS t) := fun c hc => h c (by rw [rev_cps] at hc; exact List.mem_reverse.mp hc)
theorem uniq_nodup {l : List Str} (h : l.Nodup) : (uniq l).Perm l := (List.perm_ext_iff_of_nodup (nodup_uniq l) h).mpr fun x => mem_uniq l x
theorem Wd.rev {al : Str} {ys : List Str} {n : Nat} (W : Wd al ys n) : Few al (ys.map revS) := by
  have nd : (ys.map revS).Nodup := (List.pairwise_map.mpr (W.least.nodup.imp fun ne e => ne (rev_inj e)))
  have p := uniq_nodup nd
  have q := uniq_nodup W.least.nodup
  have lens : ∀ f : Nat → Nat, (((ys.map revS).map fun t => f t.length).sum) = ((ys.map fun t => f t.length).sum) := fun f => by
    rw [List.map_map]
    congr 1
    exact List.map_congr_left fun t _ => by show f (revS t).length = f t.length; rw [rev_len]
  have F := W.few
  have a0 := F.most
  have a1 := F.all
  have a2 := F.ends
  rw [q.length_eq] at a0
  rw [(q.map _).sum_nat] at a1 a2
  obtain ⟨_, _, _, chars, _⟩ := alpha_facts al W.drawn
  have each : ∀ t ∈ ys.map revS, Over al t ∧ 0 < t.length ∧ t.length ≤ 8 := fun t ht => by
    obtain ⟨w, hw, rfl⟩ := List.mem_map.mp ht
    have q := (F.words w hw).1
    unfold isWordB at q
    simp only [Bool.and_eq_true, decide_eq_true_eq] at q
    rw [rev_len]
    exact ⟨over_rev (F.over w hw), F.full w hw, by omega⟩
  refine ⟨fun t ht => ?_, fun t ht => (each t ht).2.1, fun t ht => (each t ht).1, ?_, ?_, ?_⟩
  · obtain ⟨a, b, c⟩ := each t ht
    exact ⟨word_over a b (by omega), by omega, ok_over a chars⟩
  · rw [p.length_eq, List.length_map]
    exact a0
  · rw [(p.map _).sum_nat, lens fun n => n]
    exact a1
  · rw [(p.map _).sum_nat, lens fun n => n - 1]
    exact a2
theorem Wd.turned {al : Str} {ys : List Str} {n : Nat} (W : Wd al ys n) : Wd al (leastS (ys.map revS)) n := by
  have nd : (ys.map revS).Nodup := (List.pairwise_map.mpr (W.least.nodup.imp fun ne e => ne (rev_inj e)))
  have pe : (leastS (ys.map revS)).Perm (ys.map revS) := (List.perm_ext_iff_of_nodup (nodup_leastS _) nd).mpr fun x => mem_rev_least W.least W.full x
  refine ⟨W.drawn, W.rev.sub fun t ht => leastS_sub ht, isL_least _, ?_, ?_⟩
  · rw [(pe.map _).sum_nat, List.map_map]
    have e : (ys.map ((fun t : Str => t.length) ∘ revS)) = ys.map (·.length) := List.map_congr_left fun t _ => rev_len t
    rw [e]
    exact W.sum
  · rw [pe.length_eq, List.length_map]
    exact W.len
theorem Wd.fit {al : Str} {ys us : List Str} {n : Nat} (W : Wd al ys n) (sub : ∀ t ∈ us, t ∈ ys) (l : us.length < 64) : Fit al us := W.few.fit sub l
theorem Wd.words {al : Str} {ys : List Str} {n : Nat} (W : Wd al ys n) : WordsOk ys := by
  have l := W.len
  have nd := W.least.nodup
  have p := uniq_nodup nd
  have e := ends_sum ys
  have s : (ys.map (·.length)).sum ≤ 62 := by
    have a1 := W.few.all
    rw [(p.map _).sum_nat] at a1
    exact a1
  have c : (endsL ys).length < 64 := by omega
  refine ⟨?_, by omega, fun u hu => (W.few.words u hu).2.2, c, fun u hu => (W.few.words u hu).2.1, fun u hu => ?_⟩
  · have := srt_len (endsL ys)
    show (srt (endsL ys)).length ≤ 1000
    omega
  · have z := (mem_srt _ _).mp hu
    rcases mem_ends.mp z with rfl | ⟨w, hw, k, _, e⟩
    · decide +kernel
    · exact ok_pre (W.few.words w hw).2.2 e
theorem srt_uniq (l : List Str) : (srt l).length = (uniq l).length := (srt_perm l).length_eq
/-- what becomes of the words of two bars -/
structure Two (al : Str) (ws : List Str) : Prop where
  drawn : al ∈ alphas
  words : ∀ t ∈ ws, isWordB t al 8 = true ∧ t.length ≤ 1000 ∧ PyData.strOk t = true
  full : ∀ t ∈ ws, Full t
  over : ∀ t ∈ ws, Over al t
  sum : (ws.map (·.length)).sum ≤ 62
  len : ws.length ≤ 12
theorem two_of {al : Str} {ys zs : List Str} {n m : Nat} (A : Wd al ys n) (B : Wd al zs m) (h : n + m ≤ 62) : Two al (ys ++ zs) := by
  have a := A.sum
  have b := B.sum
  have c := A.len
  have d := B.len
  refine ⟨A.drawn, fun t ht => (List.mem_append.mp ht).elim (A.few.words t) (B.few.words t), fun t ht => (List.mem_append.mp ht).elim (A.full t) (B.full t), fun t ht => (List.mem_append.mp ht).elim (A.few.over t) (B.few.over t), ?_, by rw [List.length_append]; omega⟩
  rw [List.map_append, List.sum_append]
  omega
theorem Two.ends {al : Str} {ws us : List Str} (T : Two al ws) (nd : us.Nodup) (sub : ∀ t ∈ us, t ∈ ws) : (endsL us).length < 64 := by
  have s := sum_sub (fun t => t.length) us ws nd sub
  have := T.sum
  rw [ends_sum]
  omega
theorem Two.fit {al : Str} {ws : List Str} (T : Two al ws) (h8 : (uniq ws).length ≤ 8) (h24 : (endsS (leastS ws)).length ≤ 24) : Fit al ws := by
  have l := T.len
  refine ⟨by omega, T.words, T.over, h8, fun ys pe => ?_⟩
  have nd : ys.Nodup := pe.nodup_iff.mpr (nodup_least ws)
  refine ⟨T.ends nd fun t ht => ((mem_least ws t).mp (pe.mem_iff.mp ht)).1, ?_⟩
  have e : ∀ x, x ∈ endsL ys ↔ x ∈ endsL (leastS ws) := fun x => by
    rw [mem_ends, mem_ends]
    exact or_congr_right (exists_congr fun w => and_congr_left fun _ => (pe.mem_iff).trans (mem_leastS ws w).symm)
  have z : srt (endsL ys) = endsS (leastS ws) := srt_congr e
  rw [← srt_uniq, z]
  exact h24
theorem Two.many {al : Str} {ws : List Str} (T : Two al ws) (h24 : 24 < (endsS (leastS ws)).length) : ∀ ys : List Str, ys.Perm (leastU ws) → (endsL ys).length < 64 ∧ 24 < (uniq (endsL ys)).length := fun ys pe => by
  have nd : ys.Nodup := pe.nodup_iff.mpr (nodup_least ws)
  refine ⟨T.ends nd fun t ht => ((mem_least ws t).mp (pe.mem_iff.mp ht)).1, ?_⟩
  have e : ∀ x, x ∈ endsL ys ↔ x ∈ endsL (leastS ws) := fun x => by
    rw [mem_ends, mem_ends]
    exact or_congr_right (exists_congr fun w => and_congr_left fun _ => (pe.mem_iff).trans (mem_leastS ws w).symm)
  have z : srt (endsL ys) = endsS (leastS ws) := srt_congr e
  rw [← srt_uniq, z]
  exact h24
end K02

set_option Elab.async false
set_option linter.all false
set_option maxRecDepth 100000
set_option maxHeartbeats 4000000
/-! len(set(texts)); data that stay; isinstance(x, list) -/
namespace KU
open PySem PySem.Spec PyProof.Rows L2 Evl
section
variable {X : Cx}
def rLenSet (w : World) : List V → Hp → VK → Prop := fun vs H Q => ∃ (a : Addr) (ws : List Str) (n : Nat), vs = [V.ref a] ∧ H a = some (SetSO w a (fun j => decide (j ∈ ws)) n) ∧ Q (.int ((uniq ws).length : Int)) H
theorem held_len {w : World} {es : Array (Int × Value)} {t : SetTable} {ws : List Str} {n : Nat} (R : Held w es t (fun j => decide (j ∈ ws)) n) : es.size = (uniq ws).length := by
  have p : (es.toList.map tkey).Perm (uniq ws) := (List.perm_ext_iff_of_nodup R.once (nodup_uniq ws)).mpr fun k => by
    rw [← R.mem k, mem_uniq, decide_eq_true_eq]
  have l := p.length_eq
  rw [List.length_map, Array.length_toList] at l
  exact l
theorem call_lenSetT : CallR X (.builtin "len") (rLenSet X.w) := by
  intro pins s σ H xs us Q I r h
  obtain ⟨a, ws, n, rfl, ha, q⟩ := h
  obtain ⟨o, es, ep, t, ho, hex, hd, R⟩ : SetS X.w s.heap a (fun j => decide (j ∈ ws)) n := (I.hok a _ ha).1
  rw [Vals.ref1 r]
  have hf := R.few
  have hn := R.num
  unfold scanBound at hf
  refine call_len_set ho hex hd R.fits (by omega) ⟨.int ((uniq ws).length : Int), H, I.tok _, ⟨_, by rw [held_len R]⟩, q⟩
end
section
variable {K : PySem.W.Frag} {w : World} {σ : L2.St} {H : Hp} {te ta tb : TE} {ws : List Str}
theorem ev_lenSet (h : EvL te σ H (ws.map V.str)) (few : ws.length ≤ 1000) : Ev (tCB (rLenSet w) (tCons (tCB (rSetTxt K w) (tCons te tNil)) tNil)) σ H (.int ((uniq ws).length : Int)) := fun H1 x1 Q q =>
  h H1 x1 _ fun p H2 hp x2 e => ⟨p, ws, rfl, sq_of e, few, fun a c ha hc => ⟨a, ws, c, rfl, upd_same, q _ (x2.trans (Ex.new ha))⟩⟩
mutual
theorem dp_ex {H H' : Hp} (x : Ex H H') : ∀ {v : V} {d : PyData}, Dp K H v d → Dp K H' v d
  | _, _, .non => .non
  | _, _, .bl b => .bl b
  | _, _, .int i => .int i
  | _, _, .str t => .str t
  | _, _, .lst h r => .lst (ex_l x h) (dps_ex x r)
  | _, _, .tup h r => .tup (ex_t x h) (dps_ex x r)
theorem dps_ex {H H' : Hp} (x : Ex H H') : ∀ {vs : List V} {ds : List PyData}, DpAll K H vs ds → DpAll K H' vs ds
  | _, _, .nil => .nil
  | _, _, .cons a r => .cons (dp_ex x a) (dps_ex x r)
end
/-- a value with these data -/
def IsD (K : PySem.W.Frag) (d : PyData) : V → Hp → Prop := fun v H => Dp K H v d
theorem up_isD (d : PyData) : Up (IsD K d) := fun v H H' x h => dp_ex x h
theorem rv_neD2 {x y : V} {d e : PyData} (hd : Dp K H x d) (he : Dp K H y e) (sd : SeqAt.shaped d = true) (se : SeqAt.shaped e = true) : RV (rNeD K) x y H (.bl (!PyData.eqv d e)) :=
  fun H1 x1 _ q => ⟨d, e, dp_ex x1 hd, dp_ex x1 he, sd, se, q H1 (Ex.refl H1)⟩
theorem rv_eqD2 {x y : V} {d e : PyData} (hd : Dp K H x d) (he : Dp K H y e) (sd : SeqAt.shaped d = true) (se : SeqAt.shaped e = true) : RV (rEqD K) x y H (.bl (PyData.eqv d e)) :=
  fun H1 x1 _ q => ⟨d, e, dp_ex x1 hd, dp_ex x1 he, sd, se, q H1 (Ex.refl H1)⟩
/-- a op b of values of which predicates are known -/
theorem ev_opPP {P R : V → Hp → Prop} {r : R2} {z : V} (up : Up P) (ha : EvP ta σ H P) (hb : EvP tb σ H R) (hr : ∀ x y H1, Ex H H1 → P x H1 → R y H1 → RV r x y H1 z) : Ev (tOp r ta tb) σ H z := fun H1 e Q q =>
  ha H1 e _ fun x H2 e2 p => hb H2 (e.trans e2) _ fun y H3 e3 p2 => hr x y H3 ((e.trans e2).trans e3) (up _ _ _ e3 p) p2 H3 (Ex.refl _) Q fun H4 e4 => q H4 (e2.trans (e3.trans e4))
theorem ev_isList {p : Addr} {xs : List V} (h : Ev te σ H (.ref p)) (hp : H p = some (.lst xs)) : Ev (tCB (rIsi K) (tCons te (tCons (tC (.ty "list")) tNil))) σ H (.bl true) :=
  ev_cb (ea_cons h (ea_cons ev_c ea_nil)) fun H1 x1 Q q => ⟨_, _, _, _, true, rfl, .ty "list", .base (.lst (x1 _ _ hp)), kit_ty (by decide +kernel), q H1 (Ex.refl _)⟩
theorem ev_noList {p : Addr} {xs : List V} (h : Ev te σ H (.ref p)) (hp : H p = some (.tup xs)) : Ev (tCB (rIsi K) (tCons te (tCons (tC (.ty "list")) tNil))) σ H (.bl false) :=
  ev_cb (ea_cons h (ea_cons ev_c ea_nil)) fun H1 x1 Q q => ⟨_, _, _, _, false, rfl, .ty "list", .base (.tup (x1 _ _ hp)), kit_ty (by decide +kernel), q H1 (Ex.refl _)⟩
theorem evp_if {P : V → Hp → Prop} {t : TT} {b : Bool} (h : EvT t σ H b) (ha : b = true → EvP ta σ H P) (hb : b = false → EvP tb σ H P) : EvP (tIf t ta tb) σ H P := fun H1 x1 Q q => h H1 x1 _ fun H2 x2 => by
  cases b with
  | true =>
    rw [if_pos rfl]
    exact ha rfl H2 (x1.trans x2) Q fun v H3 x3 p => q v H3 (x2.trans x3) p
  | false =>
    rw [if_neg (by decide)]
    exact hb rfl H2 (x1.trans x2) Q fun v H3 x3 p => q v H3 (x2.trans x3) p
theorem evp_U {P : V → Hp → Prop} {xs : List V} (h : EvU te σ H xs) (hp : ∀ p H1, Ex H H1 → H1 p = some (.tup xs) → P (.ref p) H1) : EvP te σ H P := fun H1 x1 Q q => h H1 x1 _ fun p H2 hp2 x2 e => q _ H2 x2 (hp p H2 (x1.trans x2) e)
theorem evp_L {P : V → Hp → Prop} {xs : List V} (h : EvL te σ H xs) (hp : ∀ p H1, Ex H H1 → H1 p = some (.lst xs) → P (.ref p) H1) : EvP te σ H P := fun H1 x1 Q q => h H1 x1 _ fun p H2 hp2 x2 e => q _ H2 x2 (hp p H2 (x1.trans x2) e)
theorem evp_v {P : V → Hp → Prop} {v : V} (h : Ev te σ H v) (hp : ∀ H1, Ex H H1 → P v H1) : EvP te σ H P := fun H1 x1 Q q => h H1 x1 _ fun H2 x2 => q _ H2 x2 (hp H2 (x1.trans x2))
theorem dps_len {H : Hp} : ∀ {vs : List V} {ds : List PyData}, DpAll K H vs ds → vs.length = ds.length
  | _, _, .nil => rfl
  | _, _, .cons _ r => congrArg (· + 1) (dps_len r)
variable {tr : TA}
theorem epd_nil : EvPA tNil σ H (fun vs H => DpAll K H vs []) := fun H1 _ _ q => q [] H1 (Ex.refl H1) .nil
theorem epd_cons {d : PyData} {ds : List PyData} (h : EvP te σ H (IsD K d)) (hr : EvPA tr σ H (fun vs H => DpAll K H vs ds)) : EvPA (tCons te tr) σ H (fun vs H => DpAll K H vs (d :: ds)) := fun H1 e Q q =>
  h H1 e _ fun v H2 e2 p => hr H2 (e.trans e2) _ fun vs H3 e3 ps => q _ H3 (e2.trans e3) (.cons (dp_ex e3 p) ps)
theorem epd_lst {ds : List PyData} (h : EvPA tr σ H (fun vs H => DpAll K H vs ds)) (small : ds.length ≤ 100000) : EvP (tLst tr) σ H (IsD K (.list ds)) := fun H1 e Q q =>
  h H1 e _ fun vs H2 e2 ps => ⟨by rw [dps_len ps]; exact sz_of small, fun p hp => q _ _ (e2.trans (Ex.new hp)) (.lst (sq_of upd_same) (dps_ex (Ex.new hp) ps))⟩
theorem epd_tup {ds : List PyData} (h : EvPA tr σ H (fun vs H => DpAll K H vs ds)) (small : ds.length ≤ 100000) : EvP (tTup tr) σ H (IsD K (.tuple ds)) := fun H1 e Q q =>
  h H1 e _ fun vs H2 e2 ps => ⟨by rw [dps_len ps]; exact sz_of small, fun p hp => q _ _ (e2.trans (Ex.new hp)) (.tup (st_of upd_same) (dps_ex (Ex.new hp) ps))⟩
theorem epd_str {t : Str} (h : Ev te σ H (.str t)) : EvP te σ H (IsD K (.str t)) := evp_v h fun _ _ => .str t
theorem epd_int {i : Int} (h : Ev te σ H (.int i)) : EvP te σ H (IsD K (.int i)) := evp_v h fun _ _ => .int i
theorem epd_strsT {ws : List Str} (h : EvU te σ H (ws.map V.str)) : EvP te σ H (IsD K (.tuple (dstrs ws))) := evp_U h fun p H1 _ e => .tup (st_of e) (dp_strs ws)
theorem epd_strsL {ws : List Str} (h : EvL te σ H (ws.map V.str)) : EvP te σ H (IsD K (.list (dstrs ws))) := evp_L h fun p H1 _ e => .lst (sq_of e) (dp_strs ws)
end
end KU

set_option Elab.async false
set_option linter.all false
set_option maxRecDepth 100000
set_option maxHeartbeats 4000000
/-! An own operator that refuses a right operand of a class of Python's -/
namespace KU
open PySem PySem.Spec PyProof.Rows L2 Evl
section
variable {X : Cx} {pins : List (Addr × Obj)} {σ : L2.St} {H : Hp} {s : Shared}
/-- the class of a value of Python's own -/
inductive BTy (H : Hp) : V → String → Prop where
  | non : BTy H .non "NoneType"
  | bl (b : Bool) : BTy H (.bl b) "bool"
  | int (i : Int) : BTy H (.int i) "int"
  | str (t : Str) : BTy H (.str t) "str"
  | lst {a : Addr} {xs : List V} : H a = some (.lst xs) → BTy H (.ref a) "list"
  | tup {a : Addr} {xs : List V} : H a = some (.tup xs) → BTy H (.ref a) "tuple"
  | dic {a : Addr} {kvs : List (Key × V)} : H a = some (.dK kvs) → BTy H (.ref a) "dict"
theorem BTy.mono {H H' : Hp} (x : Ex H H') : ∀ {v : V} {T : String}, BTy H v T → BTy H' v T
  | _, _, .non => .non
  | _, _, .bl b => .bl b
  | _, _, .int i => .int i
  | _, _, .str t => .str t
  | _, _, .lst h => .lst (x _ _ h)
  | _, _, .tup h => .tup (x _ _ h)
  | _, _, .dic h => .dic (x _ _ h)
theorem looks_at {M : Model} {h : Heap} {a : Addr} {o : Obj} {T : Value} (e : h.get? a = some o) (c : o.cls = T) : PySem.W.Looks M h (typeOf (.ref a)) T := by
  intro A Q E s k q
  subst c
  exact wpAny_bind (wpAny_load (k _ _ e) (wpAny_pure q))
theorem looks_ty {M : Model} (I : Inv X pins σ H s) {v : V} {u : Value} {T : String} (r : RelV v u) (b : BTy H v T) : PySem.W.Looks M s.heap (typeOf u) (.type T) := by
  cases b with
  | non => cases (show u = Value.none from r); exact .of_pure rfl
  | bl b => cases (show u = Value.bool b from r); exact .of_pure rfl
  | int i => obtain ⟨t, rfl⟩ := (show ∃ t, u = Value.int i t from r); exact .of_pure rfl
  | str x => obtain ⟨t, rfl⟩ := (show ∃ t, u = Value.str x t from r); exact .of_pure rfl
  | @lst a xs h =>
    cases (show u = Value.ref a from r)
    obtain ⟨_, _, n, _, h1⟩ := (show ObjOk X.prog X.w H s.heap a (.lst xs) from I.hok a _ h)
    exact looks_at h1 rfl
  | @tup a xs h =>
    cases (show u = Value.ref a from r)
    obtain ⟨_, _, _, o, h1, h2, _⟩ := (show ObjOk X.prog X.w H s.heap a (.tup xs) from I.hok a _ h)
    exact looks_at h1 h2
  | @dic a kvs h =>
    cases (show u = Value.ref a from r)
    obtain ⟨_, _, vs, _, o, es, ep, h1, h2, _⟩ := (show ObjOk X.prog X.w H s.heap a (.dK kvs) from I.hok a _ h)
    exact looks_at h1 h2.1
end
/-- what a binary operator with a right operand of the class T looks up -/
def binOk (K : PySem.W.Frag) (C : Addr) (T nm : String) : Bool :=
  (match PySem.W.findIn K (.type T) (dunder nm), PySem.W.findIn K (.type T) (dunderR nm) with | some _, some _ => true | _, _ => false) && PySem.W.findIn K (.ref C) (dunderR nm) == some none && PySem.W.subIn K (.type T) (.ref C) == some false
section
variable {K : PySem.W.Frag} {A : Around} {E : Value → Shared → Prop} {s : Shared} {h₀ : Heap} {L x C f : Addr} {m : Str → Option Value} {ox : Obj} {od : Option Obj} {T : String}
theorem bin_raise {prog : Program} {w : World} {op : Operator} {b : Value} {Q : Value → Shared → Prop} (F : Fr h₀ L s.heap m) (X₀ : K.In h₀) (I : PySem.W.InstAt s.heap x ox C od) (hb : PySem.W.Looks (model prog w) s.heap (typeOf b) (.type T)) (hc : PySem.W.selfFirst K C = true)
    (hk : binOk K C T op.info.2 = true) (hs : PySem.W.findIn K (.ref C) (dunder op.info.2) = some (some (.ref f))) (hf : PySem.W.isFn K (.ref f) = true)
    (h : wpAny (model prog w) A (call (.ref f) [.ref x, b]) (fun _ _ => False) E s) : wpAny (model prog w) A (binaryOp op (.ref x) b) Q E s := by
  have X := X₀.keeps F.keep
  obtain ⟨cd, rest, hcd, hm⟩ := PySem.W.ksp_first hc
  unfold binOk at hk
  simp only [Bool.and_eq_true, beq_iff_eq] at hk
  obtain ⟨⟨k1, k2⟩, k3⟩ := hk
  cases h1 : PySem.W.findIn K (.type T) (dunder op.info.2) with
  | none => rw [h1] at k1; cases k1
  | some fo =>
    cases h2 : PySem.W.findIn K (.type T) (dunderR op.info.2) with
    | none => rw [h1, h2] at k1; cases k1
    | some ro =>
      have one : wpAny (model prog w) A (tryMethod (.ref x) (dunder op.info.2) b) (fun _ _ => False) E s := by
        unfold tryMethod
        exact wpAny_bind (PySem.W.special_fn X I hs (beq_iff_eq.mp hf) (wpAny_mono h (fun _ _ z => z.elim) fun _ _ e => e))
      have both : wpAny (model prog w) A (binaryOp1 op.info.2 (.ref x) b) (fun _ _ => False) E s := by
        have l3 : PySem.W.Looks (model prog w) s.heap (fillsNumberSlot (.ref C) op.info.2) true := PySem.W.fills_K X hcd hm hs
        have l4 := PySem.W.ksp_fillsT (M := model prog w) X h1 h2
        have l5 : PySem.W.Looks (model prog w) s.heap (isSubtype (.type T) (.ref C)) false := PySem.W.looks_subIn X k3
        have l6 : PySem.W.Looks (model prog w) s.heap (numberSlotInPython (.ref C) op.info.2) true := PySem.W.ksp_inPy X hs k2 (.inl rfl)
        have l7 : PySem.W.Looks (model prog w) s.heap (numberSlotInPython (.type T) op.info.2) false := .of_pure rfl
        have l8 : PySem.W.Looks (model prog w) s.heap (typeLookup (.type T) (dunderR op.info.2)) ro := PySem.W.looks_findIn X h2
        have ne : (Value.ref C == Value.type T) = false := Bool.eq_false_iff.mpr fun q => by cases beq_iff_eq.mp q
        generalize ((fo.isSome && !isSeqSlot fo) || (ro.isSome && !isSeqSlot ro)) = right at l4
        unfold binaryOp1
        refine wpAny_bind (I.type.here (wpAny_bind (hb.here (wpAny_bind (l3.here ?_)))))
        rw [ne]
        simp only [Bool.false_eq_true, if_false]
        refine wpAny_bind (l4.here ?_)
        cases right with
        | false =>
          simp only [Bool.and_false, Bool.false_and, Bool.false_eq_true, if_false, if_true]
          refine wpAny_bind (wpAny_pure ?_)
          simp only [Bool.false_eq_true, if_false]
          exact wpAny_bind (wpAny_mono one (fun _ _ z => z.elim) fun _ _ e => e)
        | true =>
          simp only [Bool.and_true, Bool.true_and, if_true, Bool.not_false]
          refine wpAny_bind (l5.here ?_)
          simp only [Bool.false_eq_true, if_false, Bool.not_false, if_true]
          refine wpAny_bind (l6.here ?_)
          simp only [if_true]
          refine wpAny_bind (l7.here ?_)
          simp only [Bool.not_false, if_true]
          refine wpAny_bind (l8.here ?_)
          exact wpAny_bind (wpAny_mono one (fun _ _ z => z.elim) fun _ _ e => e)
      unfold binaryOp
      exact wpAny_holding (wpAny_bind (wpAny_mono both (fun _ _ z => z.elim) fun _ _ e => e))
end
section
variable {X : Cx} {CX : CXT} {C g : Addr} {n : Nat} {sp : Sp} {E : XK}
/-- a op v, v of a class of Python's own, refused -/
def rBinX (K : PySem.W.Frag) (C : Addr) (nm : String) (sp : Sp) (E : XK) : R2 := fun x y H _ => ∃ (a dx : Addr) (fs : List (Str × V)) (T : String), x = .ref a ∧ H a = some (.ins C dx fs) ∧ BTy H y T ∧ binOk K C T nm = true ∧ sp [x, y] H (fun _ _ => False) E
theorem op_binX {op : Operator} (sf : PySem.W.selfFirst X.K C = true) (hs : PySem.W.findIn X.K (.ref C) (dunder op.info.2) = some (some (.ref g))) (hf : PySem.W.isFn X.K (.ref g) = true)
    (F : FnR X.prog X.w X.K X.mg X.base CX n g sp) (hr : Room n X.A) (hx : Passes CX X E) : OpR X (binaryOp op) (rBinX X.K C op.info.2 sp E) := by
  intro pins s σ H x y u v Q I rx ry h
  obtain ⟨a, dx, fs, T, rfl, ha, bt, ok, q⟩ := h
  obtain rfl : u = Value.ref a := rx
  obtain ⟨od, Ja⟩ := ins_at I ha
  obtain ⟨m, fr⟩ := I.fr
  refine bin_raise fr I.ok.mod.kin Ja (looks_ty I ry bt) sf ok hs hf ?_
  exact wpAny_mono (own_call F hr I.env0 hx I (vs := [.ref a, y]) (.cons rfl (.cons ry .nil)) q) (fun u s' ⟨z, H', I', rz, qz⟩ => qz) fun e s' z => z
/-- a compared with v, v of a class of Python's own, refused -/
def rCmpX (K : PySem.W.Frag) (C : Addr) (sp : Sp) (E : XK) : R2 := fun x y H _ => ∃ (a dx : Addr) (fs : List (Str × V)) (T : String), x = .ref a ∧ H a = some (.ins C dx fs) ∧ BTy H y T ∧ PySem.W.notFirst K C (.type T) = true ∧ sp [x, y] H (fun _ _ => False) E
theorem op_cmpX {op : CmpOp} (hop : ∀ a b, compareOp op a b = richCompare op a b) (hs : PySem.W.findIn X.K (.ref C) (cmpInfo op).2.1 = some (some (.ref g))) (hf : PySem.W.isFn X.K (.ref g) = true)
    (F : FnR X.prog X.w X.K X.mg X.base CX n g sp) (hr : Room n X.A) (hx : Passes CX X E) : OpR X (compareOp op) (rCmpX X.K C sp E) := by
  intro pins s σ H x y u v Q I rx ry h
  obtain ⟨a, dx, fs, T, rfl, ha, bt, nf, q⟩ := h
  obtain rfl : u = Value.ref a := rx
  obtain ⟨od, Ja⟩ := ins_at I ha
  obtain ⟨m, fr⟩ := I.fr
  rw [hop]
  refine PySem.W.cmp_K (Nat.lt_of_le_of_lt (Nat.le_add_right _ 64) hr.units) fr I.ok.mod.kin Ja (looks_ty I ry bt) nf hs hf ?_
  exact wpAny_mono (own_call F hr I.env0 hx I (vs := [.ref a, y]) (.cons rfl (.cons ry .nil)) q) (fun u s' ⟨z, H', I', rz, qz⟩ => (show False from qz).elim) fun e s' z => z
end
end KU

set_option Elab.async false
set_option linter.all false
set_option maxRecDepth 100000
set_option maxHeartbeats 4000000
/-! Odd data (taken out of k03's own), lists of what was heard -/
namespace K02
open PySem PySem.Spec PyProof.Rows L2 Evl KU
def firstS (al : Str) : Str := ⟨#[al.cps.toList.headD 0]⟩
def isTxtD (d : PyData) (al : Str) : Bool := match d with
  | .str t => isTextB t al
  | _ => false
/-- short enough, with a repr that can be compared -/
def fineD (d : PyData) : Bool := shows d && PyData.strOk d.shown && match d with
  | .str t => decide (t.length ≤ 1000)
  | _ => true
theorem first_at : ∀ al ∈ alphas, atI al.cps.toList 0 = some (al.cps.toList.headD 0) ∧ al.length ≤ 1000 := by decide +kernel
theorem dat_txt {H : Hp} {v : V} {d : PyData} (h : DatO H v d) (al : Str) : isTxt v al = isTxtD d al := by
  cases h <;> rfl
theorem dat_isStr {H : Hp} {v : V} {d : PyData} (h : DatO H v d) : isStrV v = true ↔ ∃ t, v = .str t ∧ d = .str t := by
  cases h with
  | str t => exact ⟨fun _ => ⟨t, rfl, rfl⟩, fun _ => rfl⟩
  | _ =>
    constructor
    · intro h
      cases h
    · rintro ⟨t, h, _⟩
      cases h
theorem fine_of {d : PyData} (h : fineD d = true) : shows d = true ∧ PyData.strOk d.shown = true ∧ ∀ t, d = .str t → t.length ≤ 1000 := by
  unfold fineD at h
  simp only [Bool.and_eq_true] at h
  refine ⟨h.1.1, h.1.2, fun t e => ?_⟩
  subst e
  exact of_decide_eq_true h.2
theorem dat_len {H : Hp} {v : V} {d : PyData} (h : DatO H v d) (f : fineD d = true) : LenV v := fun t e => by
  subst e
  cases h with
  | str => exact (fine_of f).2.2 t rfl
theorem dat_ext {H H' : Hp} (x : ExT H H') : ∀ {v : V} {d : PyData}, DatO H v d → DatO H' v d
  | _, _, .non => .non
  | _, _, .bl b => .bl b
  | _, _, .int i => .int i
  | _, _, .str t => .str t
  | _, _, .lst h n => .lst (ext_lst x h) n
  | _, _, .tup h => .tup (ext_tup x h)
  | _, _, .dic h => .dic (x _ _ h fun ps z => by cases z)
theorem dat_but {H H' : Hp} {P L : Addr} {s g : Int} (x : But P H H') (hp : H P = some (.lst [.ref L, .int s, .int g])) : ∀ {v : V} {d : PyData}, DatO H v d → DatO H' v d
  | _, _, .non => .non
  | _, _, .bl b => .bl b
  | _, _, .int i => .int i
  | _, _, .str t => .str t
  | _, _, .lst (xs := xs) h n => .lst (x _ _ (fun z => by
      rw [z, hp] at h
      cases xs with
      | nil => cases h
      | cons a r => cases h) h) n
  | _, _, .tup h => .tup (x _ _ (fun z => by rw [z, hp] at h; cases h) h)
  | _, _, .dic h => .dic (x _ _ (fun z => by rw [z, hp] at h; cases h) h)
section
variable {K : PySem.W.Frag} {σ : L2.St} {H : Hp} {te : TE}
def IsDO (d : PyData) : V → Hp → Prop := fun v H => DatO H v d
theorem up_isDO (d : PyData) : Up (IsDO d) := fun _ _ _ x h => DatO.mono x h
theorem ep_dat {v : V} {d : PyData} (h : Ev te σ H v) (hd : ∀ H1, DatO H1 v d) : EvP te σ H (IsDO d) := fun H1 e Q q => h H1 e _ fun H2 e2 => q v H2 e2 (hd H2)
theorem ep_lstD {ta : TA} {xs : List Str} (h : EvA ta σ H (xs.map V.str)) (hl : xs.length ≤ 1000) : EvP (tLstB ta) σ H (IsDO (.list (xs.map PyData.str))) := fun H1 e Q q => h H1 e _ fun H2 e2 =>
  ⟨sz_of (by rw [List.length_map]; omega), fun p hp hn => q _ _ (e2.trans (Ex.new hp)) (.lst upd_same hn)⟩
theorem ep_tupD {ta : TA} {xs : List Str} (h : EvA ta σ H (xs.map V.str)) (hl : xs.length ≤ 1000) : EvP (tTup ta) σ H (IsDO (.tuple (xs.map PyData.str))) := fun H1 e Q q => h H1 e _ fun H2 e2 =>
  ⟨sz_of (by rw [List.length_map]; omega), fun p hp => q _ _ (e2.trans (Ex.new hp)) (.tup upd_same)⟩
theorem ep_dicD : EvP tDNewK σ H (IsDO (.dict [])) := fun H1 e Q q p hp => q _ _ (Ex.new hp) (.dic upd_same)
theorem isDO_up (ds : List PyData) : ∀ P ∈ ds.map IsDO, Up P := fun P h => by
  obtain ⟨d, _, rfl⟩ := List.mem_map.mp h
  exact up_isDO d
theorem each_get {ds : List PyData} {xs : List V} {H : Hp} (h : Each (ds.map IsDO) xs H) : ∀ v ∈ xs, ∃ d ∈ ds, DatO H v d := by
  intro v hv
  obtain ⟨i, hi⟩ := List.mem_iff_getElem?.mp hv
  have lt : i < xs.length := by
    rcases Nat.lt_or_ge i xs.length with z | z
    · exact z
    · rw [List.getElem?_eq_none z] at hi
      cases hi
  have l := h.len
  rw [List.length_map] at l
  have e : (ds.map IsDO)[i]? = some (IsDO ds[i]) := by
    rw [List.getElem?_map, List.getElem?_eq_getElem (by omega)]
    rfl
  obtain ⟨v', h1, h2⟩ := h.get e
  rw [hi] at h1
  cases h1
  exact ⟨ds[i], List.getElem_mem _, h2⟩
end
end K02
namespace KU
open PySem PySem.Spec PyProof.Rows L2 Evl
inductive FlatD : V → PyData → Prop where
  | bl (b : Bool) : FlatD (.bl b) (.bool b)
  | int (i : Int) : FlatD (.int i) (.int i)
  | str (t : Str) : FlatD (.str t) (.str t)
/-- what was heard: a tuple of plain values, or a list with one, or with such a tuple -/
inductive ItD (H : Hp) : V → PyData → Prop where
  | tup {p : Addr} {xs : List V} {ds : List PyData} : H p = some (.tup xs) → Paired FlatD xs ds → ItD H (.ref p) (.tuple ds)
  | one {p : Addr} {v : V} {d : PyData} : H p = some (.lst [v]) → FlatD v d → ItD H (.ref p) (.list [d])
  | oneT {p q : Addr} {xs : List V} {ds : List PyData} : H p = some (.lst [.ref q]) → H q = some (.tup xs) → Paired FlatD xs ds → ItD H (.ref p) (.list [.tuple ds])
theorem flat_dp {K : PySem.W.Frag} {H : Hp} {v : V} {d : PyData} (h : FlatD v d) : Dp K H v d := by
  cases h with
  | bl b => exact .bl b
  | int i => exact .int i
  | str t => exact .str t
theorem flats_dp {K : PySem.W.Frag} {H : Hp} : ∀ {xs : List V} {ds : List PyData}, Paired FlatD xs ds → DpAll K H xs ds
  | _, _, .nil => .nil
  | _, _, .cons a r => .cons (flat_dp a) (flats_dp r)
theorem it_dp {K : PySem.W.Frag} {H : Hp} {v : V} {d : PyData} (h : ItD H v d) : Dp K H v d := by
  cases h with
  | tup h r => exact .tup (st_of h) (flats_dp r)
  | one h r => exact .lst (sq_of h) (.cons (flat_dp r) .nil)
  | oneT h1 h2 r => exact .lst (sq_of h1) (.cons (.tup (st_of h2) (flats_dp r)) .nil)
theorem ItD.ext {H H' : Hp} (x : ExT H H') : ∀ {v : V} {d : PyData}, ItD H v d → ItD H' v d
  | _, _, .tup h r => .tup (ext_tup x h) r
  | _, _, .one h r => .one (ext_lst x h) r
  | _, _, .oneT h1 h2 r => .oneT (ext_lst x h1) (ext_tup x h2) r
theorem ItD.upd {H : Hp} {l : Addr} {o : HO} {ys : List V} (hl : H l = some (.lst ys)) : ∀ {v : V} {d : PyData}, ItD H v d → v ≠ .ref l → ItD (upd H l o) v d
  | _, _, .tup h r, ne => .tup (by rw [upd_ne fun z => ne (by rw [z])]; exact h) r
  | _, _, .one h r, ne => .one (by rw [upd_ne fun z => ne (by rw [z])]; exact h) r
  | _, _, .oneT h1 h2 r, ne => .oneT (by rw [upd_ne fun z => ne (by rw [z])]; exact h1) (by rw [upd_ne fun z => by rw [z, hl] at h2; cases h2]; exact h2) r
/-- the items of the list at l -/
def Items (l : Addr) (H : Hp) (vs : List V) (ds : List PyData) : Prop := Paired (fun v d => ItD H v d ∧ v ≠ .ref l) vs ds
theorem Items.ext {l : Addr} {H H' : Hp} (x : ExT H H') {vs : List V} {ds : List PyData} (h : Items l H vs ds) : Items l H' vs ds := by
  unfold Items at h ⊢
  induction h with
  | nil => exact .nil
  | cons a _ ih => exact .cons ⟨a.1.ext x, a.2⟩ ih
theorem Items.upd {l : Addr} {H : Hp} {o : HO} {ys : List V} (hl : H l = some (.lst ys)) {vs : List V} {ds : List PyData} (h : Items l H vs ds) : Items l (upd H l o) vs ds := by
  unfold Items at h ⊢
  induction h with
  | nil => exact .nil
  | cons a _ ih => exact .cons ⟨a.1.upd hl a.2, a.2⟩ ih
theorem Items.snoc {l : Addr} {H : Hp} {vs : List V} {ds : List PyData} {v : V} {d : PyData} (h : Items l H vs ds) (a : ItD H v d) (ne : v ≠ .ref l) : Items l H (vs ++ [v]) (ds ++ [d]) := by
  unfold Items at h ⊢
  induction h with
  | nil => exact .cons ⟨a, ne⟩ .nil
  | cons b _ ih => exact .cons b ih
theorem Items.dp {K : PySem.W.Frag} {l : Addr} {H : Hp} {vs : List V} {ds : List PyData} (h : Items l H vs ds) : DpAll K H vs ds := by
  unfold Items at h
  induction h with
  | nil => exact .nil
  | cons a _ ih => exact .cons (it_dp a.1) ih
theorem Items.len {l : Addr} {H : Hp} {vs : List V} {ds : List PyData} (h : Items l H vs ds) : vs.length = ds.length := Paired.length h
/-- what is heard has these data, and is new -/
def Hears (T : List (Addr × Str)) (tl : TE) (σ : L2.St) (H : Hp) (d : PyData) : Prop := ∀ Q : VK, (∀ v H1, ExT H H1 → LamX.Tabs T H1 → ItD H1 v d → (∀ b ys, H b = some (.lst ys) → v ≠ .ref b) → Q v H1) → tl σ H Q
section
variable {K : PySem.W.Frag} {T : List (Addr × Str)} {σ : L2.St} {H : Hp} {tl : TE} {tz : TS} {D : L2.Ends} {d : PyData} {ds : List PyData} {i : Nat} {l : Addr} {vs : List V}
theorem new_ext {H H1 H2 : Hp} {l : Addr} (x : ExT H H1) (new : ∀ b o, H b = some o → (∀ ps, o ≠ .tbl ps) → b ≠ l) (y : K02.Kp l H1 H2) : ExT H H2 := fun b o e n => y b o (new b o e n) (x b o e n) n
theorem q_hear1 (h : Hears T tl σ H d) (k : ∀ l v H1, ExT H H1 → LamX.Tabs T H1 → (∀ b o, H b = some o → (∀ ps, o ≠ .tbl ps) → b ≠ l) → H1 l = some (.lst [v]) → Items l H1 [v] [d] → tz D (σ.set i (some (.ref l))) H1) : tSeq (tAsg (tLst (tCons tl tNil)) (gName i)) tz D σ H := by
  refine h _ fun v H1 x1 T1 it _ => ⟨(by show 1 ≤ sizeLine; decide), fun p hp => ?_⟩
  have x2 : Ex H1 (upd H1 p (.lst [v])) := Ex.new hp
  refine k p v _ (x1.trans (exT x2)) (tabs_ex T1 x2) (fun b o e n z => ?_) upd_same (.cons ⟨it.ext (exT x2), fun z => ?_⟩ .nil)
  · have y := x1 b o e n
    rw [z, hp] at y
    cases y
  · subst z
    cases it with
    | tup e _ => rw [hp] at e; cases e
    | one e _ => rw [hp] at e; cases e
    | oneT e _ _ => rw [hp] at e; cases e
theorem q_app (hi : σ[i]? = some (some (.ref l))) (hl : H l = some (.lst vs)) (its : Items l H vs ds) (small : vs.length < 1000) (h : Hears T tl σ H d)
    (k : ∀ v H1, H1 l = some (.lst (vs ++ [v])) → Items l H1 (vs ++ [v]) (ds ++ [d]) → LamX.Tabs T H1 → K02.Kp l H H1 → tz D σ H1) : tSeq (tDrop (tBM K "list" rAppend (tVar i) (tCons tl tNil))) tz D σ H := by
  refine ⟨_, hi, .inl ⟨rfl, _, sq_of hl⟩, ?_⟩
  refine h _ fun v H1 x1 T1 it ne => ?_
  have hl1 := ext_lst x1 hl
  refine ⟨l, vs, v, rfl, rfl, hl1, (by rw [sizeLine_eq]; omega), ?_⟩
  refine k v _ upd_same (((its.ext x1).snoc it (ne l vs hl)).upd hl1) (K02.tabs_upd T1 hl1) fun b o nb e n => ?_
  rw [upd_ne nb]
  exact x1 b o e n
/-- a list with these data -/
def IsLD (K : PySem.W.Frag) (ds : List PyData) : V → Hp → Prop := fun v H => ∃ (p : Addr) (xs : List V), v = .ref p ∧ H p = some (.lst xs) ∧ DpAll K H xs ds
theorem up_isLD (ds : List PyData) : Up (IsLD K ds) := fun v H H' x ⟨p, xs, e, h, r⟩ => ⟨p, xs, e, x _ _ h, dps_ex x r⟩
theorem epl_lst {tr : TA} {ds : List PyData} (h : EvPA tr σ H (fun vs H => DpAll K H vs ds)) (small : ds.length ≤ 100000) : EvP (tLst tr) σ H (IsLD K ds) := fun H1 e Q q =>
  h H1 e _ fun vs H2 e2 ps => ⟨by rw [dps_len ps]; exact sz_of small, fun p hp => q _ _ (e2.trans (Ex.new hp)) ⟨p, vs, rfl, upd_same, dps_ex (Ex.new hp) ps⟩⟩
theorem dps_app {H : Hp} : ∀ {xs : List V} {ds : List PyData} {ys : List V} {es : List PyData}, DpAll K H xs ds → DpAll K H ys es → DpAll K H (xs ++ ys) (ds ++ es)
  | _, _, _, _, .nil, b => b
  | _, _, _, _, .cons a r, b => .cons a (dps_app r b)
theorem epl_cat {ta tb : TE} {ds es : List PyData} (ha : EvP ta σ H (IsLD K ds)) (hb : EvP tb σ H (IsLD K es)) (small : ds.length + es.length ≤ 100000) : EvP (tOp rCat ta tb) σ H (IsLD K (ds ++ es)) := fun H1 e Q q =>
  ha H1 e _ fun v H2 e2 a => hb H2 (e.trans e2) _ fun w H3 e3 ⟨m, ys, e5, hm, rm⟩ => by
    obtain ⟨l, xs, e4, hl, rl⟩ := up_isLD ds v _ _ e3 a
    subst e4 e5
    exact ⟨l, m, xs, ys, rfl, rfl, hl, hm, by rw [dps_len rl, dps_len rm]; exact sz_of small, fun p hp => q _ _ ((e2.trans e3).trans (Ex.new hp)) ⟨p, xs ++ ys, rfl, upd_same, dps_ex (Ex.new hp) (dps_app rl rm)⟩⟩
theorem ev_eqLD {ta tb : TE} {ds es : List PyData} (ha : EvP ta σ H (IsLD K ds)) (hb : EvP tb σ H (IsLD K es)) (s1 : SeqAt.shaped (.list ds) = true) (s2 : SeqAt.shaped (.list es) = true) : Ev (tOp (rEqD K) ta tb) σ H (.bl (PyData.eqv (.list ds) (.list es))) :=
  ev_opPP (up_isLD ds) ha hb fun x y H1 x1 ⟨l, xs, e4, hl, rl⟩ ⟨m, ys, e5, hm, rm⟩ => by
    subst e4 e5
    exact rv_eqD2 (.lst (sq_of hl) rl) (.lst (sq_of hm) rm) s1 s2
theorem itd_but {P L : Addr} {ns : List Int} {s : Nat} {g : Int} {H H' : Hp} (x : But P H H') (p : Pen H P L ns s g) : ∀ {v : V} {d : PyData}, ItD H v d → ItD H' v d
  | _, _, .tup h r => .tup (x _ _ (fun z => by rw [z, p.pen] at h; cases h) h) r
  | _, _, .one h r => .one (x _ _ (fun z => by rw [z, p.pen] at h; cases h) h) r
  | _, _, .oneT h1 h2 r => .oneT (x _ _ (fun z => by rw [z, p.pen] at h1; cases h1) h1) (x _ _ (fun z => by rw [z, p.pen] at h2; cases h2) h2) r
theorem Items.but {P L : Addr} {ns : List Int} {s : Nat} {g : Int} {H H' : Hp} (x : But P H H') (p : Pen H P L ns s g) {vs : List V} {ds : List PyData} (h : Items l H vs ds) : Items l H' vs ds := by
  unfold Items at h ⊢
  induction h with
  | nil => exact .nil
  | cons a _ ih => exact .cons ⟨itd_but x p a.1, a.2⟩ ih
theorem dat_kp {P L : Addr} {ns : List Int} {s : Nat} {g : Int} {H H' : Hp} (x : K02.Kp P H H') (p : Pen H P L ns s g) : ∀ {v : V} {d : PyData}, DatO H v d → DatO H' v d
  | _, _, .non => .non
  | _, _, .bl b => .bl b
  | _, _, .int i => .int i
  | _, _, .str t => .str t
  | _, _, .lst h n => .lst (K02.kp_strs x p h) n
  | _, _, .tup h => .tup (K02.kp_tup x p h)
  | _, _, .dic h => .dic (x _ _ (fun z => by rw [z, p.pen] at h; cases h) h fun ps z => by cases z)
theorem kp_new {P : Addr} {H H1 H2 : Hp} (x : K02.Kp P H H1) (new : ∀ b o, H b = some o → (∀ ps, o ≠ .tbl ps) → b ≠ l) (y : K02.Kp l H1 H2) : K02.Kp P H H2 := fun b o np e n => y b o (new b o e n) (x b o np e n) n
end
end KU

set_option Elab.async false
set_option linter.all false
set_option maxRecDepth 100000
set_option maxHeartbeats 4000000
/-! bars.py: Bars of any values: refused -/
namespace K02
open PySem PySem.Spec PyProof.Rows L2 Evl KU
def isWrd (v : V) (al : Str) : Bool := match v with
  | .str t => isWordB t al 8
  | _ => false
def isAlphaV (v : V) : Bool := match v with
  | .str t => isAlphaB t
  | _ => false
/-- a raise of C with two fields -/
def Raise2V (C : Addr) (f g : Str) (v w : V) (H : Hp) (E : XK) : Prop := ∀ d H', Ex H H' → H' d = some (.xd [(g, w), (f, v)]) → E (.ref C) (some d) H'
def spIsWordO : Sp := fun vs H Q _ => ∃ (v : V) (al : Str), vs = [v, .str al, .int 8] ∧ Odd H v ∧ LenV v ∧ RetV (.bl (isWrd v al)) H Q
section
variable {P : Program} {w : World} {K : PySem.W.Frag} {mg : Str → Option Value} {base : Heap} {C CG CW CT : Addr}
theorem ok_is_wordO {f fT fA fH : Addr} {fd fdT : FuncData} (F : Fun K "is_word" "is_word" sIsWord f fd) (T : TSigns K mg fT f fA fH) (FT : Fun K "is_text" "is_text" sIsText fT fdT) (bT : Binds K fdT ["value", "signs"] []) :
    FnOk P w K mg base CX0 2 f fd ["value", "signs", "most"] spIsWordO := by
  have GT : FnOk P w K mg base CX0 1 fT fdT ["value", "signs"] spIsTextO := ok_is_textO FT T.toFree
  refine F.ok scIsWord (fun vs H Q E h => ?_) (fun cdv A outer s H vs Q E hr h => ?_)
  · obtain ⟨_, _, rfl, _⟩ := h
    rfl
  · obtain ⟨v, al, rfl, o, hl, k⟩ := h
    refine ⟨_, pss_one (ps_ret (pe_and (pe_call GT hr (by rfl) T.gT T.kT bT .nil pass0 (pa_cons (pv 0) (pa_cons (pv 1) pa_nil)))
      (pe_one (pe_chain op_le op_le pe_int (pe_callB call_len_str (by rfl) T.len PySem.boot_len (pa_cons (pv 0) pa_nil)) (pv 2))))), ?_⟩
    refine ⟨_, rfl, _, rfl, v, al, rfl, o, hl, fun H2 x2 => ⟨_, rfl, ?_⟩⟩
    have z := k H2 x2
    cases hb : isTxt v al with
    | false =>
      rw [if_neg (by decide)]
      have e : isWrd v al = false := by
        cases v with
        | str t =>
          have hb : isTextB t al = false := hb
          show isWordB t al 8 = false
          unfold isWordB
          rw [hb]
          rfl
        | _ => rfl
      rw [e] at z
      exact z
    | true =>
      rw [if_pos rfl]
      obtain ⟨t, rfl⟩ : ∃ t, v = .str t := by
        cases v with
        | str t => exact ⟨t, rfl⟩
        | _ => cases hb
      have hb : isTextB t al = true := hb
      have z : Q (.bl (isWordB t al 8)) H2 := z
      unfold isWordB at z
      rw [hb, Bool.true_and] at z
      refine ⟨_, rfl, t, rfl, Nat.le_trans (hl t rfl) (by decide), _, _, rfl, rfl, _, rfl, ?_⟩
      cases h1 : decide ((1 : Int) ≤ (t.length : Int)) with
      | false =>
        rw [if_neg (by decide)]
        rw [h1] at z
        exact z
      | true =>
        rw [if_pos rfl]
        rw [h1, Bool.true_and] at z
        exact ⟨_, rfl, _, _, rfl, rfl, z⟩
/-- what becomes of the words -/
def ChkOut (al : Str) (xs : List V) (bad : V → Prop) (many : Str → Int → Prop) : Prop :=
  (∃ pre v post, xs = pre ++ v :: post ∧ (∀ u ∈ pre, isWrd u al = true) ∧ isWrd v al = false ∧ bad v) ∨
  (∃ ws : List Str, xs = ws.map V.str ∧ (∀ t ∈ ws, isWordB t al 8 = true) ∧ 8 < (uniq ws).length ∧ many "words" 8) ∨
  (∃ ws : List Str, xs = ws.map V.str ∧ (∀ t ∈ ws, isWordB t al 8 = true) ∧ (uniq ws).length ≤ 8 ∧ (∀ ys : List Str, ys.Perm (leastU ws) → (endsL ys).length < 64 ∧ 24 < (uniq (endsL ys)).length) ∧ many "ends" 24)
theorem ChkOut.imp {al : Str} {xs : List V} {b b' : V → Prop} {m m' : Str → Int → Prop} (h : ChkOut al xs b m) (hb : ∀ v, b v → b' v) (hm : ∀ t n, m t n → m' t n) : ChkOut al xs b' m' := by
  rcases h with ⟨pre, v, post, e, h1, h2, h3⟩ | ⟨ws, e, h1, h2, h3⟩ | ⟨ws, e, h1, h2, h3, h4⟩
  · exact .inl ⟨pre, v, post, e, h1, h2, hb _ h3⟩
  · exact .inr (.inl ⟨ws, e, h1, h2, hm _ _ h3⟩)
  · exact .inr (.inr ⟨ws, e, h1, h2, h3, hm _ _ h4⟩)
def spCheckedX (K : PySem.W.Frag) (CW CT : Addr) : Sp := fun vs H Q E => ∃ (al : Str) (a : Addr) (xs : List V), vs = [.str al, .ref a] ∧ SqT K H a xs ∧ xs.length < 64 ∧ (∀ v ∈ xs, Odd H v ∧ LenV v) ∧
  ChkOut al xs (fun v => RaiseV CW "value" v H E) (fun t n => Raise2V CT "what" "most" (.str t) (.int n) H E)
theorem word_len {t al : Str} (h : isWordB t al 8 = true) : t.length ≤ 8 := by
  unfold isWordB at h
  simp only [Bool.and_eq_true, decide_eq_true_eq] at h
  omega
theorem ok_checkedX {f fT fW fA fH fL fE : Addr} {fd fdT fdW fdH fdL fdE : FuncData} (F : Fun K "checked_words" "checked_words" sChecked f fd) (T : TBars K mg fT fW fA fH fL fE f)
    (FT : Fun K "is_text" "is_text" sIsText fT fdT) (bT : Binds K fdT ["value", "signs"] []) (FW : Fun K "is_word" "is_word" sIsWord fW fdW) (bW : Binds K fdW ["value", "signs", "most"] [])
    (FH : Fun K "holds_some" "holds_some" sHoldsSome fH fdH) (bH : Binds K fdH ["text", "words"] []) (FL : Fun K "least_words" "least_words" sLeast fL fdL) (bL : Binds K fdL ["words"] [])
    (FE : Fun K "ends_of" "ends_of" sEnds fE fdE) (bE : Binds K fdE ["words"] [])
    (ZW : Cl P w K mg base "BadWord" CW ["value"] (spI1 K "value")) (ZT : Cl P w K mg base "TooMany" CT ["what", "most"] (spI2 K "what" "most")) : FnOk P w K mg base (L2.CX P w) 3 f fd ["signs", "words"] (spCheckedX K CW CT) := by
  have GW : FnOk P w K mg base CX0 2 fW fdW ["value", "signs", "most"] spIsWordO := ok_is_wordO FW (T := ⟨T.toFree, T.gT, T.kT, T.gW, T.kW, T.gH, T.kH, T.gA, T.kA, T.gS⟩) FT bT
  have GL : FnOk P w K mg base CX0 2 fL fdL ["words"] (spLeast K) := ok_least FL T.toTSigns FH bH
  have GE : FnOk P w K mg base CX0 1 fE fdE ["words"] (spEnds K) := ok_ends FE T.toFree
  obtain ⟨t1, gMS⟩ := T.gMS
  obtain ⟨t2, gMW⟩ := T.gMW
  obtain ⟨t3, gME⟩ := T.gME
  refine F.okX scChecked (fun vs H Q E h => ?_) (fun cdv A outer s H vs Q E hr h => ?_)
  · obtain ⟨_, _, _, rfl, _⟩ := h
    rfl
  · obtain ⟨al, a, xs, rfl, hs, few, each, out⟩ := h
    have nd := scChecked.nd
    refine ⟨_, pss_cons (ps_for (passes_of rfl) rfl (pi_seqV (pv 1)) (pg_name (i := 2) nd rfl (.inl rfl))
        (pss_one (ps_if (pt_not (pt_val (pe_call GW hr (by rfl) T.gW T.kW bW .nil pass0 (pa_cons (pv 2) (pa_cons (pv 0) (pa_cons (pe_glob (v := .int 8) rfl gMS ⟨_, rfl⟩) pa_nil)))))) (pss_one (ps_raise1 rfl (takes_of rfl rfl rfl rfl) ZW hr (pa_cons (pv 2) pa_nil))) pss_nil)))
      (pss_cons (ps_if (pt_cmpR op_gt (pe_callB call_lenD (by rfl) T.len PySem.boot_len (pa_cons (pe_dc (own := [("word", 2)]) (g := gName 2) (tt := tYes) rfl nd (pi_seqV (pv 1)) (blkOk_by (own := [("word", 2)]) (N := ["signs", "words", "word", "least"]) (sc := defScope sChecked) (by decide +kernel))
        (fun _ _ _ _ _ => pg_name (i := 2) nd rfl (Or.inl rfl)) (fun _ _ _ _ _ => pts_nil) (fun _ _ _ _ _ => pv 2) (fun _ _ _ _ _ => pe_bl)) pa_nil)) (pe_glob (v := .int 8) rfl gMW ⟨_, rfl⟩) (nomark _)) (pss_one (ps_raise2 rfl (takes_of rfl rfl rfl rfl) ZT hr (pa_cons pe_str (pa_cons (pe_glob (v := .int 8) rfl gMW ⟨_, rfl⟩) pa_nil)))) pss_nil)
      (pss_cons (ps_set (i := 3) nd rfl (.inl rfl) (pe_call GL hr (by rfl) T.gL T.kL bL .nil pass0 (pa_cons (pv 1) pa_nil)))
      (pss_cons (ps_if (pt_cmpR op_gt (pe_callB call_len_seq (by rfl) T.len PySem.boot_len (pa_cons (pe_call GE (hr.mono (by decide)) (by rfl) T.gE T.kE bE .nil pass0 (pa_cons (pv 3) pa_nil)) pa_nil)) (pe_glob (v := .int 24) rfl gME ⟨_, rfl⟩) (nomark _)) (pss_one (ps_raise2 rfl (takes_of rfl rfl rfl rfl) ZT hr (pa_cons pe_str (pa_cons (pe_glob (v := .int 24) rfl gME ⟨_, rfl⟩) pa_nil)))) pss_nil)
      (pss_one ps_never)))), ?_⟩
    have good : ∀ {v : V} {x2 : Option V} {H1 : Hp}, Ex H H1 → Odd H v → LenV v → EvT (tNot (tB (tCall spIsWordO [] E0 (tCons (tVar 2) (tCons (tVar 0) (tCons (tC (.int 8)) tNil)))))) ([some (.str al), some (.ref a), x2, none].set 2 (some v)) H1 (!isWrd v al) := fun x1 o l =>
      et_not (et_B (ev_call (ea_cons (ev_var rfl) (ea_cons (ev_var rfl) (ea_cons ev_c ea_nil))) fun H2 y2 Q2 q2 E2 => ⟨_, al, rfl, o.mono (x1.trans y2), l, q2⟩))
    rcases out with ⟨pre, v, post, ex, hpre, hv, bad⟩ | rest
    · have len : xs.length = pre.length + 1 + post.length := by
        rw [ex, List.length_append, List.length_cons]
        omega
      refine q_forS (K := K) (H0 := H) (a := a) (xs := xs) (Pv := fun i σ' H' => (∃ x2, σ' = [some (.str al), some (.ref a), x2, none]) ∧ Ex H H' ∧ i ≤ pre.length) rfl (.inr hs) (Ex.refl _) ⟨⟨_, rfl⟩, Ex.refl _, Nat.zero_le _⟩ (fun i σ' H' p => p.2.1) (fun i x σ' H' hx p => ?_) fun σ' H' p => ?_
      · obtain ⟨⟨x2, rfl⟩, xx, hi⟩ := p
        obtain ⟨o, l⟩ := each x (List.mem_of_getElem? hx)
        rcases Nat.lt_or_ge i pre.length with lt | ge
        · have wt : isWrd x al = true := hpre x (by
            rw [ex, List.getElem?_append_left lt] at hx
            exact List.mem_of_getElem? hx)
          refine s_when (b := !isWrd x al) (good xx o l) (fun z => ?_) fun _ H1 x1 => ⟨⟨_, rfl⟩, xx.trans x1, lt⟩
          rw [wt] at z
          cases z
        · have e : i = pre.length := Nat.le_antisymm hi ge
          subst e
          have ev : x = v := by
            rw [ex, List.getElem?_append_right (Nat.le_refl _), Nat.sub_self] at hx
            exact (Option.some.inj hx).symm
          subst ev
          refine s_when (b := !isWrd x al) (good xx o l) (fun _ H1 x1 => ?_) fun z => ?_
          · exact s_raise1 ZW.oex (ZW.no _ List.mem_cons_self) (ea_cons (ev_var rfl) ea_nil) fun d H2 x2 e2 => bad d H2 (xx.trans (x1.trans x2)) e2
          · rw [hv] at z
            cases z
      · obtain ⟨_, _, hi⟩ := p
        omega
    · obtain ⟨ws, rfl, hw, alt⟩ : ∃ ws : List Str, xs = ws.map V.str ∧ (∀ t ∈ ws, isWordB t al 8 = true) ∧ ((8 < (uniq ws).length ∧ Raise2V CT "what" "most" (.str "words") (.int 8) H E) ∨
          ((uniq ws).length ≤ 8 ∧ (∀ ys : List Str, ys.Perm (leastU ws) → (endsL ys).length < 64 ∧ 24 < (uniq (endsL ys)).length) ∧ Raise2V CT "what" "most" (.str "ends") (.int 24) H E)) := by
        rcases rest with ⟨ws, h1, h2, h3, h4⟩ | ⟨ws, h1, h2, h3, h4, h5⟩
        · exact ⟨ws, h1, h2, .inl ⟨h3, h4⟩⟩
        · exact ⟨ws, h1, h2, .inr ⟨h3, h4, h5⟩⟩
      have few' : ws.length < 64 := by rwa [List.length_map] at few
      refine q_forS (K := K) (H0 := H) (a := a) (xs := ws.map V.str) (Pv := fun i σ' H' => (∃ x2, σ' = [some (.str al), some (.ref a), x2, none]) ∧ Ex H H') rfl (.inr hs) (Ex.refl _) ⟨⟨_, rfl⟩, Ex.refl _⟩ (fun i σ' H' p => p.2) (fun i x σ' H' hx p => ?_) fun σ' H' p => ?_
      · obtain ⟨⟨x2, rfl⟩, xx⟩ := p
        obtain ⟨o, l⟩ := each x (List.mem_of_getElem? hx)
        obtain ⟨t, mt, rfl⟩ := mem_str (List.mem_of_getElem? hx)
        refine s_when (b := !isWrd (.str t) al) (good xx o l) (fun z => ?_) fun _ H1 x1 => ⟨⟨_, rfl⟩, xx.trans x1⟩
        rw [show isWrd (.str t) al = true from hw t mt] at z
        cases z
      · obtain ⟨⟨x2, rfl⟩, xx⟩ := p
        have lenW : ∀ {H1 : Hp}, Ex H H1 → Ev (tCB (fun xs H Q => ∃ (d : Addr) (kvs : List (Key × V)), xs = [V.ref d] ∧ H d = some (.dK kvs) ∧ Q (V.int (kvs.length : Int)) H) (tCons (tDc (iSeqV K 1) (gName 2) tYes (tVar 2) (tC (.bl true)) [2]) tNil)) [some (.str al), some (.ref a), x2, none] H1 (.int ((uniq ws).length : Int)) := fun x1 =>
          ev_lenDc (K := K) (i := 1) (ws := ws) rfl (.inr (ex_t x1 hs)) (by omega) (fun _ => rfl) fun _ _ => ev_var rfl
        rcases alt with ⟨h8, many⟩ | ⟨h8, he, many⟩
        · refine q_when (b := true) (et_is (et_test (ev_op (lenW xx) ev_c rv_I0)) (decide_eq_true (by omega))) (fun _ H1 x1 => ?_) fun z => by cases z
          exact s_raise2 ZT.oex (ZT.no _ List.mem_cons_self) (ZT.no _ (List.mem_cons_of_mem _ List.mem_cons_self)) (ea_cons ev_c (ea_cons ev_c ea_nil)) fun d H2 x2 e2 => many d H2 (xx.trans (x1.trans x2)) e2
        · refine q_when (b := false) (et_is (et_test (ev_op (lenW xx) ev_c rv_I0)) (decide_eq_false (by omega))) (fun z => by cases z) fun _ H1 x1 => ?_
          have y1 := xx.trans x1
          refine q_asgR ⟨_, rfl, a, ws, rfl, .inr (ex_t y1 hs), few', fun ys p H2 pe so hp x3 e => ?_⟩
          obtain ⟨f1, f2⟩ := he ys pe
          have fw : ∀ t ∈ ys, t.length ≤ 1000 := fun t ht => Nat.le_trans (word_len (hw t ((mem_uniq ws t).mp ((List.mem_filter.mp (pe.mem_iff.mp ht)).1)))) (by decide)
          refine q_when (b := true) (et_is (et_test (ev_op (ev_lenEnds (a := p) (ws := ys) (ev_var rfl) (.inr (st_of e)) f1 fw) ev_c rv_I0)) (decide_eq_true (by omega))) (fun _ H3 x4 => ?_) fun z => by cases z
          exact s_raise2 ZT.oex (ZT.no _ List.mem_cons_self) (ZT.no _ (List.mem_cons_of_mem _ List.mem_cons_self)) (ea_cons ev_c (ea_cons ev_c ea_nil)) fun d H4 x5 e5 => many d H4 (((y1.trans x3).trans x4).trans x5) e5
/-- is_word, is_alphabet of a value that is no text -/
def spIsWordN : Sp := fun vs H Q _ => ∃ (v : V) (al : Str) (m : Int), vs = [v, .str al, .int m] ∧ Odd H v ∧ isStrV v = false ∧ RetV (.bl false) H Q
theorem noStr_txt {v : V} (h : isStrV v = false) (al : Str) : isTxt v al = false := by
  cases v with
  | str t => cases h
  | _ => rfl
theorem noStr_len {v : V} (h : isStrV v = false) : LenV v := fun t e => by
  subst e
  cases h
theorem ok_is_wordN {f fT fA fH : Addr} {fd fdT : FuncData} (F : Fun K "is_word" "is_word" sIsWord f fd) (T : TSigns K mg fT f fA fH) (FT : Fun K "is_text" "is_text" sIsText fT fdT) (bT : Binds K fdT ["value", "signs"] []) :
    FnOk P w K mg base CX0 2 f fd ["value", "signs", "most"] spIsWordN := by
  have GT : FnOk P w K mg base CX0 1 fT fdT ["value", "signs"] spIsTextO := ok_is_textO FT T.toFree
  refine F.ok scIsWord (fun vs H Q E h => ?_) (fun cdv A outer s H vs Q E hr h => ?_)
  · obtain ⟨_, _, _, rfl, _⟩ := h
    rfl
  · obtain ⟨v, al, m, rfl, o, no, k⟩ := h
    refine ⟨_, pss_one (ps_ret (pe_and (pe_call GT hr (by rfl) T.gT T.kT bT .nil pass0 (pa_cons (pv 0) (pa_cons (pv 1) pa_nil))) (pe_one (pe_chain op_le op_le pe_int (pe_callB call_len_str (by rfl) T.len PySem.boot_len (pa_cons (pv 0) pa_nil)) (pv 2))))), ?_⟩
    refine ⟨_, rfl, _, rfl, v, al, rfl, o, noStr_len no, fun H2 x2 => ⟨_, rfl, ?_⟩⟩
    rw [noStr_txt no]
    exact k H2 x2
def spAlphaN : Sp := fun vs H Q _ => ∃ v : V, vs = [v] ∧ Odd H v ∧ isStrV v = false ∧ RetV (.bl false) H Q
theorem ok_alphaN {f fT fW fH : Addr} {fd fdT fdW : FuncData} (F : Fun K "is_alphabet" "is_alphabet" sIsAlphabet f fd) (T : TSigns K mg fT fW f fH) (FT : Fun K "is_text" "is_text" sIsText fT fdT) (bT : Binds K fdT ["value", "signs"] [])
    (FW : Fun K "is_word" "is_word" sIsWord fW fdW) (bW : Binds K fdW ["value", "signs", "most"] []) : FnOk P w K mg base CX0 3 f fd ["value"] spAlphaN := by
  have GW : FnOk P w K mg base CX0 2 fW fdW ["value", "signs", "most"] spIsWordN := ok_is_wordN FW (T := ⟨T.toFree, T.gT, T.kT, T.gW, T.kW, T.gH, T.kH, T.gA, T.kA, T.gS⟩) FT bT
  obtain ⟨tk, gS⟩ := T.gS
  refine F.ok scAlpha (fun vs H Q E h => ?_) (fun cdv A outer s H vs Q E hr h => ?_)
  · obtain ⟨_, rfl, _⟩ := h
    rfl
  · obtain ⟨v, rfl, o, no, k⟩ := h
    refine ⟨_, pss_cons (ps_if (PW.pt (pw_or (pt_not (pt_val (pe_call GW hr (by rfl) T.gW T.kW bW .nil pass0 (pa_cons (pv 0) (pa_cons (pe_glob (v := .str sSIGNS) rfl gS ⟨_, rfl⟩) (pa_cons pe_int pa_nil))))))
      (pw_or1 (pt_cmpR op_lt (pe_callB call_len_str (by rfl) T.len PySem.boot_len (pa_cons (pv 0) pa_nil)) pe_int (nomark _))))) (pss_one (ps_ret pe_bl)) pss_nil)
      (pss_one ps_never), ?_⟩
    refine q_when (b := true) (et_is (et_or (a := true) (et_is (et_not (et_B (ev_call (ea_cons (ev_var rfl) (ea_cons ev_c (ea_cons ev_c ea_nil))) fun H1 x1 Q1 q1 E1 => ⟨v, _, _, rfl, o.mono x1, no, q1⟩))) rfl) (b := true) fun z => by cases z) rfl) (fun _ H1 x1 => s_ret ev_c fun H2 x2 => k H2 (x1.trans x2)) fun z => by cases z
/-! ### the class called -/
/-- a raise while the instance at a is under way -/
def RaiseB (a C : Addr) (f : Str) (v : V) (H : Hp) (E : XK) : Prop := ∀ d H', ExB a H H' → H' d = some (.xd [(f, v)]) → E (.ref C) (some d) H'
def Raise2B (a C : Addr) (f g : Str) (v w : V) (H : Hp) (E : XK) : Prop := ∀ d H', ExB a H H' → H' d = some (.xd [(g, w), (f, v)]) → E (.ref C) (some d) H'
def BarsOut (v0 : V) (xs : List V) (sig : V → Prop) (bad : V → Prop) (many : Str → Int → Prop) : Prop := (isAlphaV v0 = false ∧ sig v0) ∨ ∃ al, v0 = .str al ∧ isAlphaB al = true ∧ al.length ≤ 1000 ∧ ChkOut al xs bad many
theorem BarsOut.imp {v0 : V} {xs : List V} {s s' b b' : V → Prop} {m m' : Str → Int → Prop} (h : BarsOut v0 xs s b m) (hs : ∀ v, s v → s' v) (hb : ∀ v, b v → b' v) (hm : ∀ t n, m t n → m' t n) : BarsOut v0 xs s' b' m' := by
  rcases h with ⟨h1, h2⟩ | ⟨al, h1, h2, h3, h4⟩
  · exact .inl ⟨h1, hs _ h2⟩
  · exact .inr ⟨al, h1, h2, h3, h4.imp hb hm⟩
def spInitX (C CG CW CT : Addr) : Sp := fun vs H _ E => ∃ (a p dx : Addr) (v0 : V) (xs : List V), vs = [.ref a, v0, .ref p] ∧ H a = some (.ins C dx []) ∧ H p = some (.tup xs) ∧ xs.length < 64 ∧ Odd H v0 ∧ LenV v0 ∧ (∀ v ∈ xs, Odd H v ∧ LenV v) ∧
  BarsOut v0 xs (fun v => RaiseB a CG "value" v H E) (fun v => RaiseB a CW "value" v H E) (fun t n => Raise2B a CT "what" "most" (.str t) (.int n) H E)
theorem odd_exb {a : Addr} {H H' : Hp} {C dx : Addr} {fs : List (Str × V)} (x : ExB a H H') (h : H a = some (.ins C dx fs)) : ∀ {v : V}, Odd H v → Odd H' v
  | _, .non => .non
  | _, .bl b => .bl b
  | _, .int i => .int i
  | _, .str t => .str t
  | _, .lst e n => .lst (x _ _ (fun z => by rw [z, h] at e; cases e) e) n
  | _, .tup e => .tup (x _ _ (fun z => by rw [z, h] at e; cases e) e)
  | _, .dic e => .dic (x _ _ (fun z => by rw [z, h] at e; cases e) e)
theorem r_initX {fT fW fA fH fL fE fC fO f : Addr} {fdT fdW fdA fdH fdL fdE fdC : FuncData} (CB : ClsB K C) (T : TBars K mg fT fW fA fH fL fE fC)
    (FT : Fun K "is_text" "is_text" sIsText fT fdT) (bT : Binds K fdT ["value", "signs"] []) (FW : Fun K "is_word" "is_word" sIsWord fW fdW) (bW : Binds K fdW ["value", "signs", "most"] [])
    (FA : Fun K "is_alphabet" "is_alphabet" sIsAlphabet fA fdA) (bA : Binds K fdA ["value"] [])
    (FH : Fun K "holds_some" "holds_some" sHoldsSome fH fdH) (bH : Binds K fdH ["text", "words"] []) (FL : Fun K "least_words" "least_words" sLeast fL fdL) (bL : Binds K fdL ["words"] [])
    (FE : Fun K "ends_of" "ends_of" sEnds fE fdE) (bE : Binds K fdE ["words"] []) (FC : Fun K "checked_words" "checked_words" sChecked fC fdC) (bC : Binds K fdC ["signs", "words"] [])
    (ZG : Cl P w K mg base "BadSigns" CG ["value"] (spI1 K "value")) (ZW : Cl P w K mg base "BadWord" CW ["value"] (spI1 K "value")) (ZT : Cl P w K mg base "TooMany" CT ["what", "most"] (spI2 K "what" "most"))
    {cdv : Value} {A : Around} {outer : List Env} {s : Shared} {H : Hp} {vs : List V} {Q : VK} {E : XK} (hr : Room 3 (A.deeper (envOfC "Bars.__init__" (defScope (meth 0)) s.heap.objs.size f cdv))) (h : spInitX C CG CW CT vs H Q E) :
    ∃ t, PSs (cxOf (L2.CX P w) P w K mg base ["self", "signs", "words"] "Bars.__init__" (defScope (meth 0)) f cdv A outer s H E) (defBody (meth 0)) t ∧ t { nx := fun _ H' => Q .non H', rt := Q } (start ["self", "signs", "words"] vs) H := by
  have GA : FnOk P w K mg base CX0 3 fA fdA ["value"] (fun vs H Q E => spAlpha vs H Q E ∨ spAlphaN vs H Q E) := KU.or_fn (ok_alpha FA (T := T.toTSigns) FT bT FW bW) (ok_alphaN FA (T := T.toTSigns) FT bT FW bW)
  have GC : FnOk P w K mg base (L2.CX P w) 3 fC fdC ["signs", "words"] (spCheckedX K CW CT) := ok_checkedX FC T FT bT FW bW FH bH FL bL FE bE ZW ZT
  obtain ⟨a, p, dx, v0, xs, rfl, ha, hp, few, o0, l0, each, out⟩ := h
  refine ⟨_, pss_cons (ps_if (pt_not (pt_val (pe_call GA hr (by rfl) T.gA T.kA bA .nil pass0 (pa_cons (pv 1) pa_nil)))) (pss_one (ps_raise1 rfl (takes_of rfl rfl rfl rfl) ZG (hr.mono (by decide)) (pa_cons (pv 1) pa_nil))) pss_nil)
    (pss_cons (ps_fld (pv 0) (pv 1) rfl)
    (pss_cons (ps_fld (pv 0) (pe_call GC hr (by rfl) T.gC T.kC bC .nil (passes_call (takes_of rfl rfl rfl rfl) fun _ _ _ _ h => h) (pa_cons (pv 1) (pa_cons (pv 2) pa_nil))) rfl)
    (pss_cons ps_never (pss_cons ps_never (pss_one ps_never))))), ?_⟩
  have isA : Ev (tCall (fun vs H Q E => spAlpha vs H Q E ∨ spAlphaN vs H Q E) [] E0 (tCons (tVar 1) tNil)) (start ["self", "signs", "words"] [.ref a, v0, .ref p]) H (.bl (isAlphaV v0)) := ev_call (ea_cons (ev_var rfl) ea_nil) fun H1 x1 Q1 q1 E1 => by
    cases e : isStrV v0 with
    | true =>
      obtain ⟨t, rfl⟩ : ∃ t, v0 = .str t := by
        cases v0 with
        | str t => exact ⟨t, rfl⟩
        | _ => cases e
      exact .inl ⟨t, rfl, l0 t rfl, q1⟩
    | false =>
      refine .inr ⟨v0, rfl, o0.mono x1, e, fun H2 x2 => ?_⟩
      have z := q1 H2 x2
      rw [show isAlphaV v0 = false by
        cases v0 with
        | str t => cases e
        | _ => rfl] at z
      exact z
  refine q_when (b := !isAlphaV v0) (et_not (et_B isA)) (fun z H1 x1 => ?_) fun z H1 x1 => ?_
  · rcases out with ⟨_, r⟩ | ⟨al, rfl, h1, _⟩
    · exact s_raise1 ZG.oex (ZG.no _ List.mem_cons_self) (ea_cons (ev_var rfl) ea_nil) fun d H2 x2 e2 => r d H2 (fun b o _ hb => (x1.trans x2) b o hb) e2
    · rw [show isAlphaV (.str al) = true from h1] at z
      cases z
  · rcases out with ⟨n, _⟩ | ⟨al, rfl, h1, hal, chk⟩
    · rw [n] at z
      cases z
    · have pa : p ≠ a := by
        rintro rfl
        rw [ha] at hp
        cases hp
      refine ⟨_, rfl, _, rfl, a, C, dx, [], rfl, x1 _ _ ha, CB.toCls, CB.nSigns, by simp, ?_⟩
      have b2 : ExB a H (upd H1 a (.ins C dx (putF "signs" (.str al) []))) := fun b o ne hb => by
        rw [upd_ne ne]
        exact x1 _ _ hb
      have e2 : upd H1 a (.ins C dx (putF "signs" (.str al) [])) a = some (.ins C dx [("signs", .str al)]) := upd_same
      generalize upd H1 a (.ins C dx (putF "signs" (.str al) [])) = H2 at b2 e2 ⊢
      refine ⟨_, rfl, _, rfl, al, p, xs, rfl, st_of (b2 _ _ pa hp), few, fun v hv => ⟨odd_exb b2 ha (each v hv).1, (each v hv).2⟩, chk.imp (fun v r d H3 x3 e3 => r d H3 (fun b o nb hb => x3 _ _ (b2 b o nb hb)) e3) fun t n r d H3 x3 e3 => r d H3 (fun b o nb hb => x3 _ _ (b2 b o nb hb)) e3⟩
/-- Bars.__init__ called with a new instance and values that are refused -/
def spBX (C CG CW CT : Addr) : Sp := fun vs H _ E => ∃ (a dx : Addr) (v0 : V) (xs : List V), vs = .ref a :: v0 :: xs ∧ H a = some (.ins C dx []) ∧ xs.length < 64 ∧ Odd H v0 ∧ LenV v0 ∧ (∀ v ∈ xs, Odd H v ∧ LenV v) ∧
  BarsOut v0 xs (fun v => RaiseB a CG "value" v H E) (fun v => RaiseB a CW "value" v H E) (fun t n => Raise2B a CT "what" "most" (.str t) (.int n) H E)
theorem fnr_initX {fT fW fA fH fL fE fC f : Addr} {fd fdT fdW fdA fdH fdL fdE fdC : FuncData} (F : Fun K "__init__" "Bars.__init__" (meth 0) f fd) (CB : ClsB K C) (T : TBars K mg fT fW fA fH fL fE fC)
    (FT : Fun K "is_text" "is_text" sIsText fT fdT) (bT : Binds K fdT ["value", "signs"] []) (FW : Fun K "is_word" "is_word" sIsWord fW fdW) (bW : Binds K fdW ["value", "signs", "most"] [])
    (FA : Fun K "is_alphabet" "is_alphabet" sIsAlphabet fA fdA) (bA : Binds K fdA ["value"] [])
    (FH : Fun K "holds_some" "holds_some" sHoldsSome fH fdH) (bH : Binds K fdH ["text", "words"] []) (FL : Fun K "least_words" "least_words" sLeast fL fdL) (bL : Binds K fdL ["words"] [])
    (FE : Fun K "ends_of" "ends_of" sEnds fE fdE) (bE : Binds K fdE ["words"] []) (FC : Fun K "checked_words" "checked_words" sChecked fC fdC) (bC : Binds K fdC ["signs", "words"] [])
    (ZG : Cl P w K mg base "BadSigns" CG ["value"] (spI1 K "value")) (ZW : Cl P w K mg base "BadWord" CW ["value"] (spI1 K "value")) (ZT : Cl P w K mg base "TooMany" CT ["what", "most"] (spI2 K "what" "most")) :
    FnR P w K mg base (L2.CX P w) 4 f (spBX C CG CW CT) := by
  obtain ⟨oc, od, kV, doc, pm, an, cdv, ct, osl, rfl, lk, hcd⟩ := F.ex
  refine (StX.fn_star (ps := ["self", "signs"]) (pv := "words") (sp := spInitX C CG CW CT) lk hcd scInit StX.cxUp (fun us rest hl => ?_) fun A outer s H vs Q E hr h => r_initX (fO := fC) CB T FT bT FW bW FA bA FH bH FL bL FE bE FC bC ZG ZW ZT hr h).imp fun vs H Q E h => ?_
  · exact StX.bind_star2 (B := fun pos => bindArgs _ ⟨pos, []⟩) (fun a b => rfl) (fun a b r rs => rfl) us rest hl
  · obtain ⟨a, dx, v0, xs, rfl, ha, few, o0, l0, each, out⟩ := h
    refine ⟨[.ref a, v0], xs, rfl, rfl, ?_, fun p hp => ?_⟩
    · rw [sizeLine_eq]
      omega
    · have xp : Ex H (upd H p (.tup xs)) := Ex.new hp
      have back : ∀ {H' : Hp}, ExB a (upd H p (.tup xs)) H' → ExB a H H' := fun x b o nb hb => x b o nb (xp b o hb)
      exact ⟨a, p, dx, v0, xs, rfl, xp _ _ ha, upd_same, few, o0.mono xp, l0, fun v hv => ⟨(each v hv).1.mono xp, (each v hv).2⟩, out.imp (fun v r d H' x e => r d H' (back x) e) (fun v r d H' x e => r d H' (back x) e) fun t n r d H' x e => r d H' (back x) e⟩
/-- Bars(..) refused -/
theorem mk_barsX {t : TA} {σ : L2.St} {H : Hp} {Q : VK} {E : XK} {v0 : V} {xs : List V} (ht : EvA t σ H (v0 :: xs)) (few : xs.length < 64) (o0 : Odd H v0) (l0 : LenV v0) (each : ∀ v ∈ xs, Odd H v ∧ LenV v)
    (out : BarsOut v0 xs (fun v => RaiseV CG "value" v H E) (fun v => RaiseV CW "value" v H E) (fun t n => Raise2V CT "what" "most" (.str t) (.int n) H E)) : StX.tMakeR C (spBX C CG CW CT) E t σ H Q := by
  refine ht H (Ex.refl _) _ fun H1 x1 x dx hx hdx ne => ?_
  have nx : ∀ {b o}, H b = some o → b ≠ x := fun {b o} hb => ne_of_none (x1 _ _ hb) hx
  have gone : ∀ {G H' : Hp}, (∀ b o, H b = some o → G b = some o) → ExB x G H' → Ex H H' := fun g y b o hb => y b o (nx hb) (g b o hb)
  refine ⟨x, dx, v0, xs, rfl, upd_same, few, ?_, l0, fun v hv => ⟨?_, (each v hv).2⟩, out.imp (fun v r d H' y e => r d H' (gone (fun b o hb => ?_) y) e) (fun v r d H' y e => r d H' (gone (fun b o hb => ?_) y) e) fun t n r d H' y e => r d H' (gone (fun b o hb => ?_) y) e⟩
  · refine o0.mono fun b o hb => ?_
    rw [upd_ne (nx hb), upd_ne (ne_of_none (x1 _ _ hb) hdx)]
    exact x1 _ _ hb
  · refine (each v hv).1.mono fun b o hb => ?_
    rw [upd_ne (nx hb), upd_ne (ne_of_none (x1 _ _ hb) hdx)]
    exact x1 _ _ hb
  all_goals
    rw [upd_ne (nx hb), upd_ne (ne_of_none (x1 _ _ hb) hdx)]
    exact x1 _ _ hb
end
end K02

set_option Elab.async false
set_option linter.all false
set_option maxRecDepth 100000
set_option maxHeartbeats 4000000
/-! bars.py: Bars turned, below one another, joined with too many words -/
namespace KU
open PySem PySem.Spec PyProof.Rows L2 Evl
section
variable {P : Program} {w : World} {K : PySem.W.Frag} {mg : Str → Option Value} {base : Heap} {CX : CXT} {k : Nat} {f : Addr} {fd : FuncData} {ps : List Str} {sp : Sp}
theorem cr_up {outer : List Env} {H : Hp} {s s' : Shared} {Q : VK} {E : XK} {res : Result} (z : CR CX0 outer P w H s Q E res s') : CR CX outer P w H s Q E res s' := by
  cases res with
  | error e => exact (show False from z).elim
  | ok fl =>
    cases fl with
    | ret u => exact z
    | next => exact z
    | brk => exact z
    | cont => exact z
theorem fnr_up (F : FnR P w K mg base CX0 k f sp) : FnR P w K mg base CX k f sp := fun A outer s H us vs Q E hr e0 r h => codeAny_mono (F A outer s H us vs Q E hr e0 r h) fun res s' z => cr_up z
theorem fnok_up (F : FnOk P w K mg base CX0 k f fd ps sp) : FnOk P w K mg base CX k f fd ps sp := ⟨F.len, fun A outer s H args us vs Q E hr e0 hb r h => codeAny_mono (F.run A outer s H args us vs Q E hr e0 hb r h) fun res s' z => cr_up z⟩
end
end KU
namespace K02
open PySem PySem.Spec PyProof.Rows L2 Evl KU
section
variable {P : Program} {w : World} {K : PySem.W.Frag} {mg : Str → Option Value} {base : Heap} {C CG CW CT : Addr}
def spInv (C : Addr) : Sp := fun vs H Q _ => ∃ (a : Addr) (al : Str) (ys es : List Str), vs = [.ref a] ∧ BarsAt C H a al ys es ∧ al.length ≤ 1000 ∧ isAlphaB al = true ∧ Fit al (ys.map revS) ∧ (∀ t ∈ ys, t.length ≤ 1000) ∧
  ∀ (x : Addr) (us gs : List Str) (H' : Hp), H x = none → Ex H H' → us.Perm (leastU (ys.map revS)) → sortedS us = true → gs.Perm (uniq (endsL us)) → sortedS gs = true → BarsAt C H' x al us gs → Q (.ref x) H'
abbrev nInv : List Str := ["self", "words", "word"]
theorem scInv : FnScope nInv ["self"] (defScope (meth 17)) := ⟨rfl, rfl, rfl, by decide +kernel, rfl, by decide +kernel, by decide +kernel⟩
theorem ok_inv {f fI : Addr} {fd : FuncData} (F : Fun K "__invert__" "Bars.__invert__" (meth 17) f fd) (T : Free mg) (CB : ClsI K mg C) (M : Mk K C fI) (FI : FnR P w K mg base CX0 4 fI (spB C)) :
    FnOk P w K mg base CX0 6 f fd ["self"] (spInv C) := by
  refine F.ok scInv (fun vs H Q E h => ?_) (fun cdv A outer s H vs Q E hr h => ?_)
  · obtain ⟨_, _, _, _, rfl, _⟩ := h
    rfl
  · obtain ⟨a, al, ys, es, rfl, B1, hal, hA, fit, len, k⟩ := h
    obtain ⟨dx, W, N, L, zz, O, h1, h2, h3, h4, h5⟩ := B1.at_
    have nd := scInv.nd
    have yf := B1.few
    refine ⟨_, pss_cons (ps_setLc (i := 1) (own := [("word", 2)]) (g := gName 2) (tt := tYes) rfl nd rfl rfl (sw_true rfl rfl rfl (by decide +kernel)) (pi_tup (pe_fld (pv 0) rfl)) (blkOk_by (own := [("word", 2)]) (N := nInv) (sc := defScope (meth 17)) (by decide +kernel))
        (fun _ _ _ _ _ => pg_name (i := 2) nd rfl (Or.inl rfl)) (fun _ _ _ _ _ => pts_nil) (fun _ _ _ _ _ => pe_revT (pv 2)))
      (pss_one (ps_ret (pe_makeS M FI hr (by rfl) CB.gB pass0 (pa_cons (pe_fld (pv 0) rfl) (StX.pa_star (pv 1) pa_nil))))), ?_⟩
    have z := el_fmT (K := K) (σ := start nInv [.ref a]) (H := H) (te := tRevT (tVar 2)) (tl := tFld K (tVar 0) "words") (j := 2) (vs := [2]) (t := tYes)
      (a := W) (xs := ys.map V.str) (fun _ => true) (onS fun t => .str (revS t)) (ev_fld (K := K) (te := tVar 0) (ev_var rfl) h1 CB.toCls CB.nWords rfl) (st_of h2) (by rw [List.length_map]; omega) (fun _ => rfl) (fun _ _ _ _ => et_yes) (fun v H3 x3 mv _ => by
        obtain ⟨t, mt, rfl⟩ := mem_str mv
        exact fun H4 x4 Q4 q4 => ⟨_, rfl, t, rfl, sz_of (Nat.le_trans (len t mt) (by decide)), q4 H4 (Ex.refl _)⟩)
    have e : List.map (onS fun t => .str (revS t)) (List.filter (fun _ => true) (ys.map V.str)) = (ys.map revS).map V.str := by
      rw [all_str, List.map_map, List.map_map]
      rfl
    rw [e] at z
    refine q_asgL z fun p H2 hp x2 e2 => ?_
    have m := mk_bars (C := C) (E := E0) (Q := Q) (H := H2) (ws := ys.map revS) (al := al) (t := tCons (tFld K (tVar 0) "signs") (StX.tStar K (tVar 1) tNil)) (σ := [some (.ref a), some (.ref p), none]) ?_ hal hA fit
      fun x us gs H' hx x3 p1 p2 p3 p4 p5 => k x us gs H' (fresh_back x2 hx) (x2.trans x3) p1 p2 p3 p4 p5
    · exact m
    · have y := ea_cons (ev_fld (K := K) (σ := [some (.ref a), some (.ref p), none]) (te := tVar 0) (H := H2) (ev_var rfl) (x2 _ _ h1) CB.toCls CB.nSigns rfl) (ea_star (K := K) (te := tVar 1) (ev_var rfl) (.inr (sq_of e2)) ea_nil)
      rw [List.append_nil] at y
      exact y
def spLt (C : Addr) : Sp := fun vs H Q _ => ∃ (a b : Addr) (al : Str) (ys zs es fs : List Str), vs = [.ref a, .ref b] ∧ BarsAt C H a al ys es ∧ BarsAt C H b al zs fs ∧ RetV (.bl (withinB ys zs && !decide (ys = zs))) H Q
theorem scLt : FnScope ["self", "other"] ["self", "other"] (defScope (meth 19)) := ⟨rfl, rfl, rfl, by decide +kernel, rfl, by decide +kernel, by decide +kernel⟩
theorem ok_lt {f fL fQ : Addr} {fd fdL fdQ : FuncData} (F : Fun K "__lt__" "Bars.__lt__" (meth 19) f fd) (CB : ClsI K mg C) (nf : PySem.W.notFirst K C (.ref C) = true)
    (hL : PySem.W.findIn K (.ref C) "__le__" = some (some (.ref fL))) (iL : PySem.W.isFn K (.ref fL) = true) (GL : FnR P w K mg base CX0 2 fL (spLe C))
    (hQ : PySem.W.findIn K (.ref C) "__eq__" = some (some (.ref fQ))) (iQ : PySem.W.isFn K (.ref fQ) = true) (GQ : FnR P w K mg base CX0 1 fQ (spEqB C)) : FnOk P w K mg base CX0 3 f fd ["self", "other"] (spLt C) := by
  refine F.ok scLt (fun vs H Q E h => ?_) (fun cdv A outer s H vs Q E hr h => ?_)
  · obtain ⟨_, _, _, _, _, _, _, rfl, _⟩ := h
    rfl
  · obtain ⟨a, b, al, ys, zs, es, fs, rfl, B1, B2, k⟩ := h
    obtain ⟨dx, W, N, L, zz, O, h1, h2, h3, h4, h5⟩ := B1.at_
    obtain ⟨dx', W', N', L', zz', O', g1, g2, g3, g4, g5⟩ := B2.at_
    refine ⟨_, pss_one (ps_ret (pe_and (pe_cmpR (op_cmpI (C := C) (op := .LtE) (fun _ _ => rfl) hL iL GL (hr.mono (by decide)) pass0) (pv 0) (pv 1) (by rfl))
      (pe_one (pe_not (pe_cmpR (op_cmpI (C := C) (op := .Eq) (fun _ _ => rfl) hQ iQ GQ (hr.mono (by decide)) pass0) (pv 0) (pv 1) (by rfl)))))), ?_⟩
    have le : Ev (tOp (rCmpI K C (spLe C) E0) (tVar 0) (tVar 1)) (start ["self", "other"] [.ref a, .ref b]) H (.bl (withinB ys zs)) := ev_op (ev_var rfl) (ev_var rfl) fun H1 x1 Q1 q1 =>
      ⟨a, dx, _, b, C, dx', _, rfl, rfl, x1 _ _ h1, x1 _ _ g1, nf, a, b, al, ys, zs, es, fs, rfl, B1.mono x1, B2.mono x1, q1⟩
    have eq : Ev (tOp (rCmpI K C (spEqB C) E0) (tVar 0) (tVar 1)) (start ["self", "other"] [.ref a, .ref b]) H (.bl (decide (al = al) && decide (ys = zs))) := ev_op (ev_var rfl) (ev_var rfl) fun H1 x1 Q1 q1 =>
      ⟨a, dx, _, b, C, dx', _, rfl, rfl, x1 _ _ h1, x1 _ _ g1, nf, a, b, al, al, ys, zs, es, fs, rfl, B1.mono x1, B2.mono x1, q1⟩
    rw [decide_eq_true rfl, Bool.true_and] at eq
    exact s_ret (ev_andV le fun _ => ev_notV eq) fun H1 x1 => k H1 x1
def spOrX (C CT : Addr) : Sp := fun vs H _ E => ∃ (a b : Addr) (al : Str) (ys zs es fs : List Str), vs = [.ref a, .ref b] ∧ BarsAt C H a al ys es ∧ BarsAt C H b al zs fs ∧ al.length ≤ 1000 ∧ isAlphaB al = true ∧ (ys ++ zs).length < 64 ∧ (∀ t ∈ ys ++ zs, t.length ≤ 1000) ∧
  ChkOut al ((ys ++ zs).map V.str) (fun _ => False) (fun t n => Raise2V CT "what" "most" (.str t) (.int n) H E)
theorem ok_orX {f fI fK : Addr} {fd fdK : FuncData} (F : Fun K "__or__" "Bars.__or__" (meth 14) f fd) (T : Free mg) (CB : ClsI K mg C) (M : Mk K C fI) (FI : FnR P w K mg base (L2.CX P w) 4 fI (spBX C CG CW CT))
    (FK : Fun K "_check_other" "Bars._check_other" (meth 13) fK fdK) (bK : Binds K fdK ["self", "other"] []) (mK : Meth K C "_check_other" fK) : FnOk P w K mg base (L2.CX P w) 6 f fd ["self", "other"] (spOrX C CT) := by
  have GK : FnOk P w K mg base CX0 1 fK fdK ["self", "other"] (spChk C) := ok_chk FK T CB
  refine F.okX scOr (fun vs H Q E h => ?_) (fun cdv A outer s H vs Q E hr h => ?_)
  · obtain ⟨_, _, _, _, _, _, _, rfl, _⟩ := h
    rfl
  · obtain ⟨a, b, al, ys, zs, es, fs, rfl, B1, B2, hal, hA, few, len, out⟩ := h
    obtain ⟨dx, W, N, L, zz, O, h1, h2, h3, h4, h5⟩ := B1.at_
    obtain ⟨dx', W', N', L', zz', O', g1, g2, g3, g4, g5⟩ := B2.at_
    refine ⟨_, pss_cons (ps_expr (pe_meth (pv 0) CB.toCls mK GK (hr.mono (by decide)) bK .nil pass0 (pa_cons (pv 1) pa_nil)))
      (pss_one (ps_ret (pe_makeS M FI hr (by rfl) CB.gB (passes_call (takes_of rfl rfl rfl rfl) fun _ _ _ _ h => h) (pa_cons (pe_fld (pv 0) rfl) (StX.pa_star (pe_fld (pv 0) rfl) (StX.pa_star (pe_fld (pv 1) rfl) pa_nil)))))), ?_⟩
    refine ⟨_, rfl, a, dx, _, rfl, h1, rfl, _, rfl, a, b, al, ys, zs, es, fs, rfl, B1, B2, fun H1 x1 => ?_⟩
    have m := mk_barsX (C := C) (CG := CG) (CW := CW) (CT := CT) (E := E) (Q := Q) (H := H1) (xs := (ys ++ zs).map V.str) (v0 := .str al) (t := tCons (tFld K (tVar 0) "signs") (StX.tStar K (tFld K (tVar 0) "words") (StX.tStar K (tFld K (tVar 1) "words") tNil))) (σ := start ["self", "other"] [.ref a, .ref b]) ?_ (by rw [List.length_map]; exact few) (.str al) (fun t e => by cases e; exact hal) (fun v hv => by
      obtain ⟨t, mt, rfl⟩ := mem_str hv
      exact ⟨.str t, fun u e => by cases e; exact len t mt⟩) (.inr ⟨al, rfl, hA, hal, out.imp (fun v f => f.elim) fun t n r d H' x e => r d H' (x1.trans x) e⟩)
    · exact m
    · have y := ea_cons (ev_fld (K := K) (σ := start ["self", "other"] [.ref a, .ref b]) (te := tVar 0) (H := H1) (ev_var rfl) (x1 _ _ h1) CB.toCls CB.nSigns rfl) (ea_star (K := K) (ev_fld (K := K) (te := tVar 0) (ev_var rfl) (x1 _ _ h1) CB.toCls CB.nWords rfl) (.inl (st_of (x1 _ _ h2)))
        (ea_star (K := K) (ev_fld (K := K) (te := tVar 1) (ev_var rfl) (x1 _ _ g1) CB.toCls CB.nWords rfl) (.inl (st_of (x1 _ _ g2))) ea_nil))
      rw [List.map_append]
      rw [List.append_nil] at y
      exact y
end
end K02

set_option Elab.async false
set_option linter.all false
set_option maxRecDepth 100000
set_option maxHeartbeats 4000000
/-! Bars as values of expressions -/
namespace KU
open PySem PySem.Spec PyProof.Rows L2 Evl
section
variable {K : PySem.W.Frag} {σ : L2.St} {H : Hp} {te ta tb : TE} {P R : V → Hp → Prop} {i j : Nat} {tz : TS} {D : L2.Ends}
/-- a, b = .., .. -/
theorem q_two (up : Up P) (ha : EvP ta σ H P) (hb : EvP tb σ H R) (k : ∀ x y H1, Ex H H1 → P x H1 → R y H1 → tz D ((σ.set i (some x)).set j (some y)) H1) (upR : Up R) :
    tSeq (tAsg (tTup (tCons ta (tCons tb tNil))) (gTup K 2 (gCons (gName i) (gCons (gName j) gNil)))) tz D σ H := by
  refine (?_ : tAsg _ _ _ σ H)
  refine ha H (Ex.refl _) _ fun x H1 x1 p1 => hb H1 x1 _ fun y H2 x2 p2 => ⟨(by show 2 ≤ sizeLine; decide), fun q hq => ⟨q, _, rfl, st_of upd_same, rfl, ?_⟩⟩
  have x3 : Ex H2 (upd H2 q (.tup [x, y])) := Ex.new hq
  exact ⟨_, _, rfl, _, _, rfl, rfl, k x y _ (x1.trans (x2.trans x3)) (up _ _ _ (x2.trans x3) p1) (upR _ _ _ x3 p2)⟩
theorem ev_reprP {d : PyData} (h : EvP te σ H fun v H => RD K H v d) (ok : shows d = true) : Ev (tCB (rReprA K) (tCons te tNil)) σ H (.str d.shown) := fun H1 e Q q =>
  h H1 e _ fun v H2 e2 r => by
    unfold shows at ok
    simp only [Bool.and_eq_true, decide_eq_true_eq] at ok
    exact ⟨v, d, rfl, r, ok.1.1, ok.1.2, ok.2, q H2 e2⟩
theorem epr_two {a b : Bool} (ha : Ev ta σ H (.bl a)) (hb : Ev tb σ H (.bl b)) : EvP (tLstB (tCons ta (tCons tb tNil))) σ H fun v H => RD K H v (.list [.bool a, .bool b]) := fun H1 e Q q =>
  ea_cons ha (ea_cons hb ea_nil) H1 e _ fun H2 e2 => ⟨(by show 2 ≤ sizeLine; decide), fun p hp hn => q _ _ (e2.trans (Ex.new hp)) (.lst (.inl (.inl upd_same)) hn (.cons (.bl a) (.cons (.bl b) .nil)))⟩
theorem shows_two (a b : Bool) : shows (.list [.bool a, .bool b]) = true := by
  cases a <;> cases b <;> decide +kernel
theorem evp_imp (h : EvP te σ H P) (i : ∀ v H1, P v H1 → R v H1) : EvP te σ H R := fun H1 x1 Q q => h H1 x1 Q fun v H2 x2 p => q v H2 x2 (i v H2 p)
theorem evp_var {v : V} (up : Up P) (e : σ[i]? = some (some v)) (h : P v H) : EvP (tVar i) σ H P := fun H1 x1 Q q => ⟨v, e, q v H1 (Ex.refl _) (up _ _ _ x1 h)⟩
/-- a value found by op of two of which predicates are known -/
theorem evp_op {S : V → Hp → Prop} {r : R2} (up : Up P) (ha : EvP ta σ H P) (hb : EvP tb σ H R) (hr : ∀ x y H1, Ex H H1 → P x H1 → R y H1 → ∀ Q : VK, (∀ v H2, Ex H1 H2 → S v H2 → Q v H2) → r x y H1 Q) : EvP (tOp r ta tb) σ H S := fun H1 e Q q =>
  ha H1 e _ fun x H2 e2 p => hb H2 (e.trans e2) _ fun y H3 e3 p2 => hr x y H3 ((e.trans e2).trans e3) (up _ _ _ e3 p) p2 Q fun v H4 e4 s => q v H4 (e2.trans (e3.trans e4)) s
end
end KU
namespace K02
open PySem PySem.Spec PyProof.Rows L2 Evl KU
/-- Bars of these words -/
def IsB (C : Addr) (al : Str) (ys : List Str) : V → Hp → Prop := fun v H => ∃ x, v = .ref x ∧ BarsAt C H x al ys (endsS ys)
theorem up_isB (C : Addr) (al : Str) (ys : List Str) : Up (IsB C al ys) := fun v H H' x ⟨a, e, B⟩ => ⟨a, e, B.mono x⟩
theorem alpha_ok {al : Str} (h : al ∈ alphas) : al.length ≤ 1000 ∧ isAlphaB al = true := by
  obtain ⟨a, _, b, _⟩ := alpha_facts al h
  exact ⟨by omega, a⟩
theorem is_of {C : Addr} {al : Str} {ws ys us gs : List Str} {H : Hp} {x : Addr} (e : leastS ws = ys) (p1 : us.Perm (leastU ws)) (p2 : sortedS us = true) (p3 : gs.Perm (uniq (endsL us))) (p4 : sortedS gs = true) (B : BarsAt C H x al us gs) : BarsAt C H x al ys (endsS ys) := by
  have e1 := leastS_is p1 p2
  rw [e] at e1
  subst e1
  have e2 := endsS_is p3 p4
  subst e2
  exact B
section
variable {K : PySem.W.Frag} {σ : L2.St} {H : Hp} {te ta tb tl : TE} {C : Addr} {al : Str} {ys zs : List Str} {n m : Nat} {E : XK} {mg : Str → Option Value}
theorem evp_made {a : Addr} (W : Wd al ys n) (ha : Ev ta σ H (.str al)) (hl : Ev tl σ H (.ref a)) (h : H a = some (.lst (ys.map V.str))) : EvP (tCall (spMade C) [] E (tCons ta (tCons tl tNil))) σ H (IsB C al ys) := fun H1 x1 Q q => by
  have a1 := alpha_ok W.drawn
  have l6 := W.len
  refine (ea_cons ha (ea_cons hl ea_nil)) H1 x1 _ fun H2 x2 => ⟨al, a, ys, rfl, x2 _ _ (x1 _ _ h), a1.1, a1.2, W.few, by omega, fun x us gs H3 hx x3 p1 p2 p3 p4 B => q _ H3 (x2.trans x3) ⟨x, rfl, is_of W.least p1 p2 p3 p4 B⟩⟩
theorem bars_ins {x : Addr} {es : List Str} (B : BarsAt C H x al ys es) : ∃ (dx W N : Addr) (fs : List (Str × V)), H x = some (.ins C dx fs) ∧ fs.lookup ("words" : Str) = some (.ref W) ∧ fs.lookup ("signs" : Str) = some (.str al) ∧ H W = some (.tup (ys.map V.str)) := by
  obtain ⟨dx, W, N, L, zz, O, h1, h2, h3, h4, h5⟩ := B.at_
  exact ⟨dx, W, N, _, h1, rfl, rfl, h2⟩
theorem evp_words (CB : ClsI K mg C) (h : EvP te σ H (IsB C al ys)) : EvP (tFld K te "words") σ H (IsTS ys) := fun H1 x1 Q q => h H1 x1 _ fun v H2 x2 ⟨x, e, B⟩ => by
  obtain ⟨dx, W, N, fs, h1, h2, h3, h4⟩ := bars_ins B
  exact ⟨x, C, dx, fs, _, e, h1, CB.toCls, CB.nWords, h2, q _ H2 x2 ⟨W, rfl, h4⟩⟩
theorem evp_some {f : List Str → List Str → List Str} {p : Str → Bool} (W : Wd al ys n) (e : f ys zs = ys.filter p) (ha : EvP ta σ H (IsB C al ys)) (hb : EvP tb σ H (IsB C al zs)) : EvP (tOp (rBinI C (spSome C f) E) ta tb) σ H (IsB C al (f ys zs)) :=
  evp_op (up_isB C al ys) ha hb fun x y H1 x1 ⟨a, ea, A⟩ ⟨b, eb, B⟩ Q q => by
    subst ea eb
    obtain ⟨dx, _, _, fs, h1, _⟩ := bars_ins A
    obtain ⟨dy, _, _, gs, g1, _⟩ := bars_ins B
    have a1 := alpha_ok W.drawn
    have Wf := W.filter p
    rw [← e] at Wf
    have l6 := Wf.len
    refine ⟨a, dx, fs, b, dy, gs, rfl, rfl, h1, g1, a, b, al, ys, zs, _, _, rfl, A, B, a1.1, a1.2, Wf.few.fit (fun t ht => ht) (by omega), fun x us gs H2 hx x2 p1 p2 p3 p4 B2 => q _ H2 x2 ⟨x, rfl, is_of Wf.least p1 p2 p3 p4 B2⟩⟩
theorem ev_le {us vs : List Str} {es fs : List Str} (nf : PySem.W.notFirst K C (.ref C) = true) (ha : EvP ta σ H fun v H => ∃ x, v = .ref x ∧ BarsAt C H x al us es) (hb : EvP tb σ H fun v H => ∃ x, v = .ref x ∧ BarsAt C H x al vs fs) : Ev (tOp (rCmpI K C (spLe C) E) ta tb) σ H (.bl (withinB us vs)) :=
  ev_opPP (fun v H H' x ⟨a, e, B⟩ => ⟨a, e, B.mono x⟩) ha hb fun x y H1 x1 ⟨a, ea, A⟩ ⟨b, eb, B⟩ H2 x2 Q q => by
    subst ea eb
    have A2 := A.mono x2
    have B2 := B.mono x2
    obtain ⟨dx, _, _, _, h1, _⟩ := bars_ins A2
    obtain ⟨dy, _, _, _, g1, _⟩ := bars_ins B2
    exact ⟨a, dx, _, b, C, dy, _, rfl, rfl, h1, g1, nf, a, b, al, us, vs, _, _, rfl, A2, B2, q⟩
theorem ev_lt (nf : PySem.W.notFirst K C (.ref C) = true) (ha : EvP ta σ H (IsB C al ys)) (hb : EvP tb σ H (IsB C al zs)) : Ev (tOp (rCmpI K C (spLt C) E) ta tb) σ H (.bl (withinB ys zs && !decide (ys = zs))) :=
  ev_opPP (up_isB C al ys) ha hb fun x y H1 x1 ⟨a, ea, A⟩ ⟨b, eb, B⟩ H2 x2 Q q => by
    subst ea eb
    have A2 := A.mono x2
    have B2 := B.mono x2
    obtain ⟨dx, _, _, _, h1, _⟩ := bars_ins A2
    obtain ⟨dy, _, _, _, g1, _⟩ := bars_ins B2
    exact ⟨a, dx, _, b, C, dy, _, rfl, rfl, h1, g1, nf, a, b, al, ys, zs, _, _, rfl, A2, B2, q⟩
theorem ev_eqY (nf : PySem.W.notFirst K C (.ref C) = true) (ha : EvP ta σ H (IsB C al ys)) (hb : EvP tb σ H (IsB C al zs)) : Ev (tOp (rCmpI K C (spEqB C) E) ta tb) σ H (.bl (decide (ys = zs))) :=
  ev_opPP (up_isB C al ys) ha hb fun x y H1 x1 ⟨a, ea, A⟩ ⟨b, eb, B⟩ H2 x2 Q q => by
    subst ea eb
    have A2 := A.mono x2
    have B2 := B.mono x2
    obtain ⟨dx, _, _, _, h1, _⟩ := bars_ins A2
    obtain ⟨dy, _, _, _, g1, _⟩ := bars_ins B2
    exact ⟨a, dx, _, b, C, dy, _, rfl, rfl, h1, g1, nf, a, b, al, al, ys, zs, _, _, rfl, A2, B2, by rw [decide_eq_true rfl, Bool.true_and]; exact q⟩
theorem evp_inv (W : Wd al ys n) (ha : EvP ta σ H (IsB C al ys)) : EvP (tUn (rUnI C (spInv C) E) ta) σ H (IsB C al (leastS (ys.map revS))) := fun H1 x1 Q q => ha H1 x1 _ fun v H2 x2 ⟨a, ea, A⟩ => by
  subst ea
  obtain ⟨dx, _, _, fs, h1, _⟩ := bars_ins A
  have a1 := alpha_ok W.drawn
  have l6 := W.len
  exact ⟨a, dx, fs, rfl, h1, a, al, ys, _, rfl, A, a1.1, a1.2, W.rev.fit (fun t ht => ht) (by rw [List.length_map]; omega), fun t ht => (W.few.words t ht).2.1, fun x us gs H3 hx x3 p1 p2 p3 p4 B => q _ H3 (x2.trans x3) ⟨x, rfl, is_of rfl p1 p2 p3 p4 B⟩⟩
theorem ev_inY {t : Str} (ha : Ev ta σ H (.str t)) (hb : EvP tb σ H (IsB C al ys)) (ov : Over al t) (tl : t.length ≤ 1000) : Ev (tOp (rInI C (spHas C) E) ta tb) σ H (.bl (holdsB t ys)) := fun H1 e Q q =>
  ha H1 e _ fun H2 e2 => hb H2 (e.trans e2) _ fun y H3 e3 ⟨b, eb, B⟩ => by
    subst eb
    exact rv_hasK B ov tl H3 (Ex.refl _) Q fun H4 e4 => q H4 (e2.trans (e3.trans e4))
theorem ev_ninY {t : Str} (ha : Ev ta σ H (.str t)) (hb : EvP tb σ H (IsB C al ys)) (ov : Over al t) (tl : t.length ≤ 1000) : Ev (tOp (rNotInO C (spHas C) E) ta tb) σ H (.bl (!holdsB t ys)) := fun H1 e Q q =>
  ha H1 e _ fun H2 e2 => hb H2 (e.trans e2) _ fun y H3 e3 ⟨b, eb, B⟩ => by
    subst eb
    obtain ⟨dx, _, _, fs, h1, _⟩ := bars_ins B
    exact ⟨b, dx, fs, rfl, h1, b, t, al, ys, _, rfl, B, ov, tl, fun H4 e4 => ⟨_, rfl, q H4 (e2.trans (e3.trans e4))⟩⟩
/-- words != tuple of a list -/
theorem ev_neW {us vs : List Str} (ha : EvP ta σ H (IsTS us)) (hb : EvU tb σ H (vs.map V.str)) (o1 : ∀ t ∈ us, PyData.strOk t = true) (o2 : ∀ t ∈ vs, PyData.strOk t = true) : Ev (tOp (rNeD K) ta tb) σ H (.bl (!decide (us = vs))) :=
  ev_opPP (R := IsTS vs) (up_isTS us) ha (evp_U hb fun p H1 x1 e => ⟨p, rfl, e⟩) fun x y H1 x1 ⟨p, e, h⟩ ⟨q, e2, h2⟩ => by
    subst e e2
    exact rv_neTT h h2 o1 o2
theorem ev_eqW {us vs : List Str} (ha : EvP ta σ H (IsTS us)) (hb : EvU tb σ H (vs.map V.str)) (o1 : ∀ t ∈ us, PyData.strOk t = true) (o2 : ∀ t ∈ vs, PyData.strOk t = true) : Ev (tOp (rEqD K) ta tb) σ H (.bl (decide (us = vs))) :=
  ev_opPP (R := IsTS vs) (up_isTS us) ha (evp_U hb fun p H1 x1 e => ⟨p, rfl, e⟩) fun x y H1 x1 ⟨p, e, h⟩ ⟨q, e2, h2⟩ => by
    subst e e2
    exact rv_eqTT h h2 o1 o2
end
end K02

set_option Elab.async false
set_option linter.all false
set_option maxRecDepth 100000
set_option maxHeartbeats 4000000
/-! Lists of plain items that another list is not among; words that are told -/
namespace KU
open PySem PySem.Spec PyProof.Rows L2 Evl
section
variable {K : PySem.W.Frag} {σ : L2.St} {H : Hp} {te ta tb : TE} {tr : TA} {l : Addr} {o : HO} {d : PyData} {ds : List PyData} {vs : List V}
def ItN (l : Addr) (d : PyData) : V → Hp → Prop := fun v H => ItD H v d ∧ v ≠ .ref l
theorem itd_ex {H H' : Hp} (x : Ex H H') {v : V} {d : PyData} (h : ItD H v d) : ItD H' v d := h.ext (exT x)
theorem epi_nil : EvPA tNil σ H (fun vs H => Items l H vs []) := fun H1 _ _ q => q [] H1 (Ex.refl H1) .nil
theorem epi_cons (h : EvP te σ H (ItN l d)) (hr : EvPA tr σ H (fun vs H => Items l H vs ds)) : EvPA (tCons te tr) σ H (fun vs H => Items l H vs (d :: ds)) := fun H1 e Q q =>
  h H1 e _ fun v H2 e2 p => hr H2 (e.trans e2) _ fun vs H3 e3 ps => q _ H3 (e2.trans e3) (.cons ⟨itd_ex e3 p.1, p.2⟩ ps)
theorem epi_tup {xs : List V} (hl : H l = some o) (h : EvA tr σ H xs) (f : Paired FlatD xs ds) (small : xs.length ≤ 100000) : EvP (tTup tr) σ H (ItN l (.tuple ds)) := fun H1 e Q q =>
  h H1 e _ fun H2 e2 => ⟨sz_of small, fun p hp => q _ _ (e2.trans (Ex.new hp)) ⟨.tup upd_same f, fun z => by
    cases z
    rw [e2 _ _ (e _ _ hl)] at hp
    cases hp⟩⟩
theorem epi_one {v : V} (hl : H l = some o) (h : Ev te σ H v) (f : FlatD v d) : EvP (tLst (tCons te tNil)) σ H (ItN l (.list [d])) := fun H1 e Q q =>
  ea_cons h ea_nil H1 e _ fun H2 e2 => ⟨(by show 1 ≤ sizeLine; decide), fun p hp => q _ _ (e2.trans (Ex.new hp)) ⟨.one upd_same f, fun z => by
    cases z
    rw [e2 _ _ (e _ _ hl)] at hp
    cases hp⟩⟩
def IsIL (l : Addr) (ds : List PyData) : V → Hp → Prop := fun v H => ∃ (p : Addr) (vs : List V), v = .ref p ∧ p ≠ l ∧ H p = some (.lst vs) ∧ Items l H vs ds
theorem epi_lst (hl : H l = some o) (h : EvPA tr σ H (fun vs H => Items l H vs ds)) (small : ds.length ≤ 100000) : EvP (tLst tr) σ H (IsIL l ds) := fun H1 e Q q =>
  h H1 e _ fun vs H2 e2 ps => ⟨by rw [ps.len]; exact sz_of small, fun p hp => q _ _ (e2.trans (Ex.new hp)) ⟨p, vs, rfl, (fun z => by
    subst z
    rw [e2 _ _ (e _ _ hl)] at hp
    cases hp), upd_same, ps.ext (exT (Ex.new hp))⟩⟩
theorem ItD.kp {ys : List V} {H H' : Hp} (x : K02.Kp l H H') (hl : H l = some (.lst ys)) : ∀ {v : V} {d : PyData}, ItD H v d → v ≠ .ref l → ItD H' v d
  | _, _, .tup h r, ne => .tup (x _ _ (fun z => ne (by rw [z])) h (fun ps z => by cases z)) r
  | _, _, .one h r, ne => .one (x _ _ (fun z => ne (by rw [z])) h (fun ps z => by cases z)) r
  | _, _, .oneT h1 h2 r, ne => .oneT (x _ _ (fun z => ne (by rw [z])) h1 (fun ps z => by cases z)) (x _ _ (fun z => by rw [z, hl] at h2; cases h2) h2 (fun ps z => by cases z)) r
theorem isIL_kp {ys : List V} {v : V} {H H' : Hp} (x : K02.Kp l H H') (hl : H l = some (.lst ys)) (h : IsIL l ds v H) : IsIL l ds v H' := by
  obtain ⟨p, vs, e, ne, hp, it⟩ := h
  refine ⟨p, vs, e, ne, x _ _ ne hp fun ps z => (by cases z), ?_⟩
  clear hp
  unfold Items at it ⊢
  induction it with
  | nil => exact .nil
  | cons a _ ih => exact .cons ⟨a.1.kp x hl a.2, a.2⟩ ih
theorem isIL_LD {v : V} (h : IsIL l ds v H) : IsLD K ds v H := by
  obtain ⟨p, vs, e, ne, hp, it⟩ := h
  exact ⟨p, vs, e, hp, it.dp⟩
end
end KU
namespace K02
open PySem PySem.Spec PyProof.Rows L2 Evl KU
theorem least_by {ws ys : List Str} (hs : sortedS ys = true) (nd : ys.Nodup) (p : ys.isPerm (leastU ws) = true) : leastS ws = ys := leastS_eq hs nd fun x => (List.isPerm_iff.mp p).mem_iff
theorem ends_perm {ys us : List Str} (p : ys.Perm us) : (endsL ys).length = (endsL us).length ∧ (uniq (endsL ys)).length = (uniq (endsL us)).length := by
  refine ⟨?_, ?_⟩
  · rw [ends_sum, ends_sum, (p.map _).sum_nat]
  · rw [← srt_uniq, ← srt_uniq]
    congr 1
    refine srt_congr fun x => ?_
    rw [mem_ends, mem_ends]
    exact or_congr_right (exists_congr fun w => and_congr_left fun _ => p.mem_iff)
theorem fit_by {al : Str} {ws us : List Str} (few : ws.length < 64) (words : ∀ t ∈ ws, isWordB t al 8 = true ∧ t.length ≤ 1000 ∧ PyData.strOk t = true) (over : ∀ t ∈ ws, ∀ c ∈ t.cps.toList, c ∈ al.cps.toList) (most : (uniq ws).length ≤ 8)
    (h : leastU ws = us) (e1 : (endsL us).length < 64) (e2 : (uniq (endsL us)).length ≤ 24) : Fit al ws := ⟨few, words, over, most, fun ys p => by
  rw [h] at p
  obtain ⟨a, b⟩ := ends_perm p
  rw [a, b]
  exact ⟨e1, e2⟩⟩
theorem many_by {ws us : List Str} (h : leastU ws = us) (e1 : (endsL us).length < 64) (e2 : 24 < (uniq (endsL us)).length) : ∀ ys : List Str, ys.Perm (leastU ws) → (endsL ys).length < 64 ∧ 24 < (uniq (endsL ys)).length := fun ys p => by
  rw [h] at p
  obtain ⟨a, b⟩ := ends_perm p
  rw [a, b]
  exact ⟨e1, e2⟩
def t22 : List Str := ["22"]
def t21 : List Str := ["21"]
def t0 : List Str := ["0"]
def t33 : List Str := ["00110011"]
def t1 : List Str := ["1"]
def e8 : List Str := ["00", "01", "02", "10", "11", "12", "20", "21"]
def f3 : List Str := ["00000000", "11111111", "01010101"]
def y3 : List Str := ["00000000", "01010101", "11111111"]
def w6 : List Str := ["00000001", "00000011", "00000101", "00001001", "00010001", "00100001"]
def n9 : List Str := ["0", "00", "000", "0000", "00000", "000000", "0000000", "00000000", "1"]
def o6 : List Str := ["1", "10000000", "11000000", "10100000", "11100000", "10010000"]
theorem few8 : Few "012" e8 := by
  constructor <;> decide +kernel
theorem few3 : Few "01" f3 := by
  constructor <;> decide +kernel
theorem few22 : Few "012" t22 := by
  constructor <;> decide +kernel
theorem few0 : Few "012" t0 := by
  constructor <;> decide +kernel
theorem few33 : Few "01" t33 := by
  constructor <;> decide +kernel
theorem few821 : Few "012" (e8 ++ t21) := by
  constructor <;> decide +kernel
theorem least8 : leastS e8 = e8 := least_by (by decide +kernel) (by decide +kernel) (by decide +kernel)
theorem least821 : leastS (e8 ++ t21) = e8 := least_by (by decide +kernel) (by decide +kernel) (by decide +kernel)
theorem least3 : leastS f3 = y3 := least_by (by decide +kernel) (by decide +kernel) (by decide +kernel)
theorem least22 : leastS t22 = t22 := least_by (by decide +kernel) (by decide +kernel) (by decide +kernel)
theorem least0 : leastS t0 = t0 := least_by (by decide +kernel) (by decide +kernel) (by decide +kernel)
theorem least33 : leastS t33 = t33 := least_by (by decide +kernel) (by decide +kernel) (by decide +kernel)
theorem leastW : leastS w6 = w6 := least_by (by decide +kernel) (by decide +kernel) (by decide +kernel)
theorem leastO : leastS o6 = t1 := least_by (by decide +kernel) (by decide +kernel) (by decide +kernel)
theorem fitW : Fit "01" w6 := fit_by (us := w6) (by decide +kernel) (by decide +kernel) (by decide +kernel) (by decide +kernel) (by decide +kernel) (by decide +kernel) (by decide +kernel)
theorem fitO : Fit "01" o6 := fit_by (us := t1) (by decide +kernel) (by decide +kernel) (by decide +kernel) (by decide +kernel) (by decide +kernel) (by decide +kernel) (by decide +kernel)
theorem words_012 : ∀ t ∈ e8 ++ t22, isWordB t "012" 8 = true := by decide +kernel
theorem words_0120 : ∀ t ∈ e8 ++ t0, isWordB t "012" 8 = true := by decide +kernel
theorem words_n9 : ∀ t ∈ n9, isWordB t "01" 8 = true := by decide +kernel
theorem words_f4 : ∀ t ∈ f3 ++ t33, isWordB t "01" 8 = true := by decide +kernel
theorem words_y4 : ∀ t ∈ y3 ++ t33, isWordB t "01" 8 = true := by decide +kernel
theorem words_w6 : ∀ t ∈ w6.map revS, isWordB t "01" 8 = true := by decide +kernel
theorem nine_22 : 8 < (uniq (e8 ++ t22)).length := by decide +kernel
theorem nine_0 : 8 < (uniq (e8 ++ t0)).length := by decide +kernel
theorem nine_9 : 8 < (uniq n9).length := by decide +kernel
theorem four_f : (uniq (f3 ++ t33)).length ≤ 8 := by decide +kernel
theorem four_y : (uniq (y3 ++ t33)).length ≤ 8 := by decide +kernel
theorem six_w : (uniq (w6.map revS)).length ≤ 8 := by decide +kernel
theorem many_f : ∀ ys : List Str, ys.Perm (leastU (f3 ++ t33)) → (endsL ys).length < 64 ∧ 24 < (uniq (endsL ys)).length := many_by rfl (by decide +kernel) (by decide +kernel)
theorem many_y : ∀ ys : List Str, ys.Perm (leastU (y3 ++ t33)) → (endsL ys).length < 64 ∧ 24 < (uniq (endsL ys)).length := many_by rfl (by decide +kernel) (by decide +kernel)
theorem many_w : ∀ ys : List Str, ys.Perm (leastU (w6.map revS)) → (endsL ys).length < 64 ∧ 24 < (uniq (endsL ys)).length := many_by rfl (by decide +kernel) (by decide +kernel)
theorem ends_21 : (endsS y3).length = 21 := by
  show (srt (endsL y3)).length = 21
  rw [srt_uniq]
  decide +kernel
theorem ends_1 : endsS t1 = [("" : Str)] := (srt_is (ys := [("" : Str)]) (ws := endsL t1) (by decide +kernel) (by decide +kernel) (fun k => by
  have e : endsL t1 = [("" : Str), ""] := by decide +kernel
  rw [e]
  simp)).symm
end K02

set_option Elab.async false
set_option linter.all false
set_option maxRecDepth 100000
set_option maxHeartbeats 4000000
/-! Free texts counted along the ends -/
namespace K02
open PySem PySem.Spec PyProof.Rows L2 Evl KU
def signsL (al : Str) : List Str := al.cps.toList.map fun c => ⟨#[c]⟩
def textsL (al : Str) : Nat → List Str
  | 0 => [""]
  | n + 1 => (textsL al n).flatMap fun t => (signsL al).map fun c => t ++ c
def freeT (al : Str) (ys : List Str) (n : Nat) : List Str := (textsL al n).filter fun t => !holdsB t ys
noncomputable def nextE (ys es : List Str) (e c : Str) : List Str := if holdsB (e ++ c) ys = true then [] else [endF es (e ++ c)]
noncomputable def nextAll (al : Str) (ys es : List Str) (e : Str) : List Str := (signsL al).flatMap (nextE ys es e)
noncomputable def endsN (al : Str) (ys es : List Str) (n : Nat) : List Str := (freeT al ys n).map (endF es)
theorem flat_congr {α β : Type} {f g : α → List β} : ∀ {l : List α}, (∀ x ∈ l, f x = g x) → l.flatMap f = l.flatMap g
  | [], _ => rfl
  | a :: r, h => by rw [List.flatMap_cons, List.flatMap_cons, h a List.mem_cons_self, flat_congr fun x hx => h x (List.mem_cons_of_mem _ hx)]
theorem filter_flat {α β : Type} (p : α → Bool) (f : α → List β) : ∀ l : List α, (∀ x ∈ l, p x = false → f x = []) → (l.filter p).flatMap f = l.flatMap f
  | [], _ => rfl
  | a :: r, h => by
    have ih := filter_flat p f r fun x hx => h x (List.mem_cons_of_mem _ hx)
    cases e : p a with
    | true => rw [List.filter_cons_of_pos e, List.flatMap_cons, List.flatMap_cons, ih]
    | false =>
      rw [List.filter_cons_of_neg (by rw [e]; decide), List.flatMap_cons, h a List.mem_cons_self e, List.nil_append, ih]
theorem map_filter_flat {α β γ : Type} (p : β → Bool) (g : α → β) (f : β → γ) : ∀ l : List α, ((l.map g).filter p).map f = l.flatMap fun c => if p (g c) = true then [f (g c)] else []
  | [] => rfl
  | a :: r => by
    rw [List.map_cons, List.flatMap_cons, ← map_filter_flat p g f r]
    cases e : p (g a) with
    | true =>
      rw [List.filter_cons_of_pos e, if_pos rfl]
      rfl
    | false =>
      rw [List.filter_cons_of_neg (by rw [e]; decide), if_neg (by decide)]
      rfl
section
variable {al : Str} {ys es : List Str}
theorem mem_texts {n : Nat} : ∀ {t : Str}, t ∈ textsL al n ↔ t.length = n ∧ Over al t := by
  induction n with
  | zero =>
    intro t
    constructor
    · intro h
      rw [List.mem_singleton.mp h]
      exact ⟨rfl, fun c hc => by cases hc⟩
    · rintro ⟨h, _⟩
      have : t = "" := str_eq (by
        have z := len_cps t
        rw [h] at z
        rw [List.length_eq_zero_iff.mp z]
        rfl)
      rw [this]
      exact List.mem_singleton.mpr rfl
  | succ n ih =>
    intro t
    constructor
    · intro h
      obtain ⟨u, hu, h2⟩ := List.mem_flatMap.mp h
      obtain ⟨c, hc, rfl⟩ := List.mem_map.mp h2
      obtain ⟨k, hk, rfl⟩ := List.mem_map.mp hc
      obtain ⟨l, o⟩ := ih.mp hu
      refine ⟨?_, fun x hx => ?_⟩
      · rw [← len_cps, cat_cps, List.length_append, len_cps, l]
        rfl
      · rw [cat_cps] at hx
        rcases List.mem_append.mp hx with h | h
        · exact o x h
        · have h : x ∈ [k] := h
          rw [List.mem_singleton.mp h]
          exact hk
    · rintro ⟨h, o⟩
      have l := len_cps t
      have ne : t.cps.toList ≠ [] := fun z => by
        rw [z, h] at l
        cases l
      have e := List.dropLast_concat_getLast ne
      refine List.mem_flatMap.mpr ⟨strOf t.cps.toList.dropLast, ih.mpr ⟨?_, fun x hx => ?_⟩, List.mem_map.mpr ⟨⟨#[t.cps.toList.getLast ne]⟩, List.mem_map.mpr ⟨_, o _ (List.getLast_mem ne), rfl⟩, str_eq ?_⟩⟩
      · rw [← len_cps, strOf_cps, List.length_dropLast, l, h]
        rfl
      · rw [strOf_cps] at hx
        exact o x (List.dropLast_subset _ hx)
      · rw [cat_cps, strOf_cps]
        exact e
theorem ends_step (N : Ends al ys es) (n : Nat) : endsN al ys es (n + 1) = (endsN al ys es n).flatMap (nextAll al ys es) := by
  unfold endsN freeT
  rw [textsL, List.filter_flatMap, List.map_flatMap, List.flatMap_map]
  have one : ∀ t : Str, holdsB t ys = false → List.map (endF es) (List.filter (fun t => !holdsB t ys) ((signsL al).map fun c => t ++ c)) = nextAll al ys es (endF es t) := fun t ht => by
    rw [map_filter_flat]
    unfold nextAll
    refine congrArg (fun f => List.flatMap f (signsL al)) (funext fun c => ?_)
    unfold nextE
    rw [end_holds N ht, ← end_cat N]
    cases holdsB (t ++ c) ys with
    | true => rfl
    | false => rfl
  rw [← filter_flat (fun t => !holdsB t ys) (fun a => List.map (endF es) (List.filter (fun t => !holdsB t ys) ((signsL al).map fun c => a ++ c))) _ fun t _ h => ?_]
  · refine flat_congr fun t ht => ?_
    have h := (List.mem_filter.mp ht).2
    exact one t (by simpa using h)
  · have ht : holdsB t ys = true := by simpa using h
    rw [List.map_eq_nil_iff, List.filter_eq_nil_iff]
    intro u hu
    obtain ⟨c, _, rfl⟩ := List.mem_map.mp hu
    cases e : holdsB (t ++ c) ys with
    | true => decide
    | false =>
      have := holds_up N (a := t) (b := t ++ c) (by rw [cat_cps]; exact (List.prefix_append _ _).isInfix) e
      rw [ht] at this
      cases this
theorem ends_zero (N : Ends al ys es) : endsN al ys es 0 = [("" : Str)] := by
  have e := end_free N (end_nil N)
  unfold endsN freeT textsL
  rw [List.filter_cons_of_pos (by rw [e]; rfl)]
  show [endF es ""] = _
  rw [end_self (end_nil N)]
theorem ends_mem (N : Ends al ys es) {n : Nat} {e : Str} (h : e ∈ endsN al ys es n) : e ∈ es := by
  obtain ⟨t, _, rfl⟩ := List.mem_map.mp h
  exact (endF_is (end_nil N)).mem
theorem sum_one {ks : List Str} (nd : ks.Nodup) (φ : Str → Nat) : ∀ {a : Str}, a ∈ ks → (ks.map fun k => if a = k then φ k else 0).sum = φ a := by
  induction ks with
  | nil =>
    intro a h
    cases h
  | cons b r ih =>
    intro a h
    have nb := List.nodup_cons.mp nd
    have zero : a ∉ r → (r.map fun k => if a = k then φ k else 0).sum = 0 := fun na => by
      have : (r.map fun k => if a = k then φ k else 0) = r.map fun _ => 0 := List.map_congr_left fun k hk => if_neg fun z => na (by rw [z]; exact hk)
      rw [this]
      clear this ih h nd nb na
      induction r with
      | nil => rfl
      | cons _ _ ih => simpa using ih
    rw [List.map_cons, List.sum_cons]
    by_cases e : a = b
    · subst e
      rw [if_pos rfl, zero nb.1]
      rfl
    · rw [if_neg e, Nat.zero_add]
      exact ih nb.2 ((List.mem_cons.mp h).resolve_left e)
theorem sum_count {ks : List Str} (nd : ks.Nodup) (φ : Str → Nat) : ∀ (L : List Str), (∀ x ∈ L, x ∈ ks) → (ks.map fun k => L.count k * φ k).sum = (L.map φ).sum
  | [], _ => by
    have : (ks.map fun k => ([] : List Str).count k * φ k) = ks.map fun _ => 0 := List.map_congr_left fun k _ => by simp
    rw [this]
    clear this nd
    induction ks with
    | nil => rfl
    | cons _ _ ih => simpa using ih
  | a :: L, h => by
    have ih := sum_count nd φ L fun x hx => h x (List.mem_cons_of_mem _ hx)
    have one := sum_one nd φ (h a List.mem_cons_self)
    rw [List.map_cons, List.sum_cons, ← ih, ← one]
    clear ih one h nd
    induction ks with
    | nil => rfl
    | cons k r ih =>
      simp only [List.map_cons, List.sum_cons]
      rw [List.count_cons]
      have e : (if (a == k) = true then 1 else 0) * φ k = if a = k then φ k else 0 := by
        by_cases c : a = k
        · rw [if_pos c, if_pos (by rw [c]; exact beq_self_eq_true k), Nat.one_mul]
        · rw [if_neg c, if_neg (fun z => c (eq_of_beq z)), Nat.zero_mul]
      rw [Nat.add_mul, e]
      omega
end
end K02

set_option Elab.async false
set_option linter.all false
set_option maxRecDepth 100000
set_option maxHeartbeats 4000000
/-! Texts split at one sign, and joined by it -/
namespace SJ
open PySem PySem.Builtin PySem.Builtin.Str PySem.StrLaws
theorem s_ext {a b : Str} (h : a.cps.toList = b.cps.toList) : a = b := Str.ext' (Array.toList_inj.mp h)
def jn (c : Nat) : List (List Nat) → List Nat
  | [] => []
  | b :: t => b ++ t.flatMap fun p => c :: p
theorem jn_two (c : Nat) (a b : List Nat) (r : List (List Nat)) : jn c (a :: b :: r) = a ++ c :: jn c (b :: r) := by simp [jn]
theorem jn_one (c : Nat) (a : List Nat) : jn c [a] = a := by simp [jn]
theorem part_eq {c : Nat} : ∀ {a b x y : List Nat}, c ∉ a → c ∉ b → a ++ c :: x = b ++ c :: y → a = b ∧ x = y
  | [], [], _, _, _, _, h => by simpa using h
  | [], b :: bs, x, y, _, hb, h => by
    simp only [List.nil_append, List.cons_append, List.cons.injEq] at h
    exact absurd (h.1 ▸ List.mem_cons_self) hb
  | a :: as, [], x, y, ha, _, h => by
    simp only [List.nil_append, List.cons_append, List.cons.injEq] at h
    exact absurd (h.1 ▸ List.mem_cons_self) ha
  | a :: as, b :: bs, x, y, ha, hb, h => by
    simp only [List.cons_append, List.cons.injEq] at h
    obtain ⟨e1, e2⟩ := part_eq (fun m => ha (List.mem_cons_of_mem _ m)) (fun m => hb (List.mem_cons_of_mem _ m)) h.2
    exact ⟨by rw [h.1, e1], e2⟩
theorem jn_inj {c : Nat} : ∀ {ps qs : List (List Nat)}, (∀ p ∈ ps, c ∉ p) → (∀ q ∈ qs, c ∉ q) → ps ≠ [] → qs ≠ [] → jn c ps = jn c qs → ps = qs
  | [], _, _, _, h, _, _ => absurd rfl h
  | _, [], _, _, _, h, _ => absurd rfl h
  | [a], [b], _, _, _, _, h => by rw [jn_one, jn_one] at h; rw [h]
  | [a], b :: d :: r, ha, _, _, _, h => by
    rw [jn_one, jn_two] at h
    exact absurd (by rw [h]; simp) (ha a List.mem_cons_self)
  | a :: d :: r, [b], _, hb, _, _, h => by
    rw [jn_one, jn_two] at h
    exact absurd (by rw [← h]; simp) (hb b List.mem_cons_self)
  | a :: d :: r, b :: e :: s, ha, hb, _, _, h => by
    rw [jn_two, jn_two] at h
    obtain ⟨e1, e2⟩ := part_eq (ha a List.mem_cons_self) (hb b List.mem_cons_self) h
    rw [e1, jn_inj (fun p m => ha p (List.mem_cons_of_mem _ m)) (fun p m => hb p (List.mem_cons_of_mem _ m)) (by simp) (by simp) e2]
/-- a beginning of what was joined: words of which each is at most as long -/
theorem jn_take {c : Nat} : ∀ (ps : List (List Nat)) (n : Nat), ps ≠ [] → (∀ p ∈ ps, c ∉ p) → ∃ qs, qs ≠ [] ∧ (∀ q ∈ qs, c ∉ q) ∧ jn c qs = (jn c ps).take n ∧ qs.length ≤ ps.length ∧
    (∀ q ∈ qs, ∃ p ∈ ps, q.length ≤ p.length) ∧ (qs.map fun q => min q.length 8).sum ≤ (ps.map fun p => min p.length 8).sum
  | [], _, h, _ => absurd rfl h
  | [a], n, _, ha => ⟨[a.take n], by simp, fun q hq => by rw [List.mem_singleton.mp hq]; exact fun m => ha a List.mem_cons_self (List.mem_of_mem_take m), by rw [jn_one, jn_one], Nat.le_refl _,
      fun q hq => ⟨a, List.mem_cons_self, by rw [List.mem_singleton.mp hq, List.length_take]; exact Nat.min_le_right _ _⟩, by
        simp only [List.map_cons, List.map_nil, List.sum_cons, List.sum_nil, List.length_take]
        omega⟩
  | a :: b :: r, n, _, ha => by
    have one : ∀ k, k ≤ a.length → (jn c (a :: b :: r)).take k = a.take k := fun k hk => by
      rw [jn_two, List.take_append_of_le_length hk]
    rcases Nat.lt_or_ge a.length n with lt | ge
    · obtain ⟨qs, q0, q1, q2, q3, q4, q5⟩ := jn_take (b :: r) (n - a.length - 1) (by simp) fun p m => ha p (List.mem_cons_of_mem _ m)
      obtain ⟨q, qs', rfl⟩ := List.exists_cons_of_ne_nil q0
      refine ⟨a :: q :: qs', by simp, fun p m => ?_, ?_, ?_, fun p m => ?_, ?_⟩
      · rcases List.mem_cons.mp m with rfl | m
        · exact ha _ List.mem_cons_self
        · exact q1 p m
      · rw [jn_two, jn_two, q2, List.take_append, List.take_of_length_le (Nat.le_of_lt lt)]
        have : n - a.length = (n - a.length - 1) + 1 := by omega
        rw [this, List.take_succ_cons]
        simp
      · simpa using q3
      · rcases List.mem_cons.mp m with rfl | m
        · exact ⟨_, List.mem_cons_self, Nat.le_refl _⟩
        · obtain ⟨p', m', l⟩ := q4 p m
          exact ⟨p', List.mem_cons_of_mem _ m', l⟩
      · rw [List.map_cons, List.sum_cons, List.map_cons (l := b :: r), List.sum_cons]
        omega
    · refine ⟨[a.take n], by simp, fun q hq => by rw [List.mem_singleton.mp hq]; exact fun m => ha a List.mem_cons_self (List.mem_of_mem_take m), by rw [jn_one, one n ge], by simp,
        fun q hq => ⟨a, List.mem_cons_self, by rw [List.mem_singleton.mp hq, List.length_take]; exact Nat.min_le_right _ _⟩, ?_⟩
      simp only [List.map_cons, List.map_nil, List.sum_cons, List.sum_nil, List.length_take]
      omega
def lists (ws : List Str) : List (List Nat) := ws.map fun w => w.cps.toList
theorem join_cps (s : Str) (c : Nat) (hs : s = ⟨#[c]⟩) : ∀ ws : List Str, (Str.join s ws).cps.toList = jn c (lists ws)
  | [] => rfl
  | [a] => by show a.cps.toList = _; unfold lists; rw [List.map_cons, List.map_nil, jn_one]
  | a :: b :: r => by
    have ih := join_cps s c hs (b :: r)
    show ((a ++ s) ++ Str.join s (b :: r)).cps.toList = _
    unfold lists at ih ⊢
    rw [List.map_cons, List.map_cons, jn_two]
    rw [List.map_cons] at ih
    rw [← ih, hs]
    show ((a.cps ++ #[c]) ++ (Str.join ⟨#[c]⟩ (b :: r)).cps).toList = _
    simp
theorem fold_cps (g : Array Nat) (r : List Str) (a : Array Nat) : (r.foldl (fun (acc : Array Nat) (p : Str) => acc ++ g ++ p.cps) a).toList = a.toList ++ r.flatMap fun p => g.toList ++ p.cps.toList := by
  induction r generalizing a with
  | nil => simp
  | cons b t ih =>
    rw [List.foldl_cons, ih, List.flatMap_cons]
    simp
theorem tjoin_cps (c : Nat) (ws : List Str) : (Txt.join ⟨#[c]⟩ ws).cps.toList = jn c (lists ws) := by
  show (List.foldl (fun (acc : Array Nat) (p : Str) => acc ++ #[c] ++ p.cps) (ws.headD Str.empty).cps (List.drop 1 ws)).toList = _
  rw [fold_cps]
  cases ws with
  | nil => simp [Str.empty, lists, jn]
  | cons b t => simp [lists, jn, List.flatMap_map]
theorem tjoin_eq (c : Nat) (ws : List Str) : Txt.join ⟨#[c]⟩ ws = Str.join ⟨#[c]⟩ ws := s_ext (by rw [tjoin_cps, join_cps _ c rfl])
theorem lists_inj {a b : List Str} (h : lists a = lists b) : a = b := by
  unfold lists at h
  exact (List.map_inj_right fun x y e => s_ext e).mp h
theorem split_ne (t : Str) (c : Nat) : Txt.split t ⟨#[c]⟩ ≠ [] := fun z => by
  have := PyProof.Rows.split_pos t ⟨#[c]⟩
  rw [z] at this
  exact absurd this (by decide)
/-- words without the sign are what the joined text is split into -/
theorem split_join {c : Nat} {ws : List Str} (ne : ws ≠ []) (free : ∀ w ∈ ws, c ∉ w.cps.toList) : Txt.split (Txt.join ⟨#[c]⟩ ws) ⟨#[c]⟩ = ws := by
  have e := join_split (Txt.join ⟨#[c]⟩ ws) ⟨#[c]⟩
  have f := split_free (Txt.join ⟨#[c]⟩ ws) c
  have n := split_ne (Txt.join ⟨#[c]⟩ ws) c
  rw [tjoin_eq] at e f n ⊢
  refine lists_inj (jn_inj (c := c) (fun p m => ?_) (fun p m => ?_) (fun z => n ?_) (fun z => ne ?_) ?_)
  · obtain ⟨w, hw, rfl⟩ := List.mem_map.mp m
    exact f w hw
  · obtain ⟨w, hw, rfl⟩ := List.mem_map.mp m
    exact free w hw
  · exact List.map_eq_nil_iff.mp z
  · exact List.map_eq_nil_iff.mp z
  · rw [← join_cps _ c rfl, ← join_cps _ c rfl, e]
theorem join_of (c : Nat) (t : Str) : Txt.join ⟨#[c]⟩ (Txt.split t ⟨#[c]⟩) = t := by rw [tjoin_eq, join_split]
/-- a beginning of a text -/
theorem split_take {c : Nat} (t u : Str) {n : Nat} (h : u.cps.toList = t.cps.toList.take n) : (Txt.split u ⟨#[c]⟩).length ≤ (Txt.split t ⟨#[c]⟩).length ∧ (∀ q ∈ Txt.split u ⟨#[c]⟩, ∃ p ∈ Txt.split t ⟨#[c]⟩, q.length ≤ p.length) ∧
    ((Txt.split u ⟨#[c]⟩).map fun q => min q.length 8).sum ≤ ((Txt.split t ⟨#[c]⟩).map fun p => min p.length 8).sum := by
  have et := join_of c t
  have ft := split_free t c
  have nt := split_ne t c
  generalize Txt.split t ⟨#[c]⟩ = ws at et ft nt ⊢
  obtain ⟨qs, q0, q1, q2, q3, q4, q5⟩ := jn_take (c := c) (lists ws) n (fun z => nt (List.map_eq_nil_iff.mp z)) fun p m => by
    obtain ⟨w, hw, rfl⟩ := List.mem_map.mp m
    exact ft w hw
  obtain ⟨us, rfl⟩ : ∃ us : List Str, qs = lists us := ⟨qs.map fun q => ⟨q.toArray⟩, by
    unfold lists
    rw [List.map_map]
    exact (List.map_id' qs).symm⟩
  have eu : u = Txt.join ⟨#[c]⟩ us := s_ext (by rw [h, tjoin_cps, q2, ← tjoin_cps, et])
  have su : Txt.split u ⟨#[c]⟩ = us := by
    rw [eu]
    refine split_join (fun z => q0 (by rw [z]; rfl)) fun w hw => ?_
    exact q1 _ (List.mem_map.mpr ⟨w, hw, rfl⟩)
  rw [su]
  have ll : ∀ w : Str, w.cps.toList.length = w.length := fun w => by simp [Str.length]
  have mm : ∀ l : List Str, (lists l).map (fun p => min p.length 8) = l.map fun p => min p.length 8 := fun l => by
    unfold lists
    rw [List.map_map]
    exact List.map_congr_left fun w _ => by simp [ll]
  refine ⟨by simpa [lists] using q3, fun q m => ?_, by rw [← mm, ← mm]; exact q5⟩
  obtain ⟨p, mp, l⟩ := q4 _ (List.mem_map.mpr ⟨q, m, rfl⟩)
  obtain ⟨w, hw, rfl⟩ := List.mem_map.mp mp
  exact ⟨w, hw, by rw [← ll, ← ll]; exact l⟩
end SJ

set_option Elab.async false
set_option linter.all false
set_option maxRecDepth 100000
set_option maxHeartbeats 4000000
/-! Signs of a text walked, chains, lists of texts, join (taken out of KG2, KG3, KG4: not to be imported beside these) -/
namespace K02
open PySem PySem.Spec PyProof.Rows L2 Evl KU
section
variable {K : PySem.W.Frag} {σ : L2.St} {H : Hp} {te tl ta tb tc : TE} {j : Nat} {vs : List Nat}
theorem walk_signsG {z : Str} : Walk (Its z) ((signsL z).map V.str).length (fun _ => True) (YAt ((signsL z).map V.str)) := by
  have l : ((signsL z).map V.str).length = z.cps.size := by
    rw [List.length_map, signsL, List.length_map]
    rfl
  rw [l]
  refine walk_str.mono (fun _ h => h) fun i H3 x H4 hi h y => ⟨y.1, ?_⟩
  obtain ⟨_, c, e, rfl⟩ := y
  unfold signsL
  rw [List.map_map, List.getElem?_map, Array.getElem?_toList, e]
  rfl
/-- the signs of a text, some of them -/
theorem el_signsF {z : Str} {tt : TT} (p : Str → Bool) (hx : Ev tl σ H (.str z)) (hl : z.length ≤ 40000) (hw : ∀ x : V, wipe ((wipe σ vs).set j (some x)) vs = wipe σ vs)
    (ht : ∀ (c : Str) (H1 : Hp), Ex H H1 → c ∈ signsL z → EvT tt ((wipe σ vs).set j (some (.str c))) H1 (p c))
    (he : ∀ (c : Str) (H1 : Hp), Ex H H1 → c ∈ signsL z → Ev te ((wipe σ vs).set j (some (.str c))) H1 (.str c)) : EvL (tLc (iStr tl) (gName j) tt te vs) σ H (((signsL z).filter p).map V.str) := by
  have e := given_fm ((signsL z).map V.str) (onSB p) (onS V.str)
  rw [fm_str] at e
  rw [← e]
  intro H1 x1 Q q
  refine hx H1 x1 _ fun H2 x2 => ⟨z, rfl, fun D hD => ?_⟩
  have ll : ((signsL z).map V.str).length = z.length := by
    rw [List.length_map, signsL, List.length_map]
    rfl
  refine lc_cw walk_signsG (fun _ _ => trivial) (by rw [ll]; exact hl) _ _ hw (fun i x H3 x3 e => ?_) (fun i x H3 x3 e _ => ?_) (x1.trans x2) hD fun p H3 hp x3 e => q p H3 (fresh_back x2 hp) (x2.trans x3) e
  · rw [e]
    obtain ⟨c, mc, rfl⟩ := List.mem_map.mp (List.mem_of_getElem? e)
    exact ht c H3 x3 mc
  · rw [e]
    obtain ⟨c, mc, rfl⟩ := List.mem_map.mp (List.mem_of_getElem? e)
    exact he c H3 x3 mc
/-- a <= b <= c -/
theorem ev_chainI {a b c : Int} (ha : Ev ta σ H (.int a)) (hb : Ev tb σ H (.int b)) (hc : Ev tc σ H (.int c)) : Ev (tChain (rI0 fun i j => .bl (decide (i ≤ j))) (rI0 fun i j => .bl (decide (i ≤ j))) ta tb tc) σ H (.bl (decide (a ≤ b) && decide (b ≤ c))) := fun H1 x1 Q q =>
  ha H1 x1 _ fun H2 x2 => hb H2 (x1.trans x2) _ fun H3 x3 => ⟨a, b, rfl, rfl, _, rfl, by
    cases h : decide (a ≤ b) with
    | true =>
      rw [if_pos rfl]
      refine hc H3 (x1.trans (x2.trans x3)) _ fun H4 x4 => ⟨b, c, rfl, rfl, ?_⟩
      have z := q H4 (x2.trans (x3.trans x4))
      rw [h, Bool.true_and] at z
      exact z
    | false =>
      rw [if_neg (by decide)]
      have z := q H3 (x2.trans x3)
      rw [h, Bool.false_and] at z
      exact z⟩
/-- a list that is made != [] -/
theorem ev_neNil {a : List Str} (ha : EvL ta σ H (a.map V.str)) (o : ∀ t ∈ a, PyData.strOk t = true) : Ev (tOp (rNeD K) ta (tLst tNil)) σ H (.bl (!decide (a = []))) :=
  ev_opLL ha (el_lst (vs := ([] : List Str).map V.str) ea_nil (by decide)) fun p q H1 h1 h2 x1 => rv_neL h1 h2 o fun t ht => by cases ht
theorem ev_eqNilI {ns : List Int} (ha : EvL ta σ H (vints ns)) : Ev (tOp (rEqD K) ta (tLst tNil)) σ H (.bl (decide (ns = []))) :=
  ev_opLL ha (el_lst (vs := []) ea_nil (by decide)) fun p q H1 h1 h2 x1 => by
    have z := rv_eqD2 (K := K) (H := H1) (x := .ref p) (y := .ref q) (d := .list (dints ns)) (e := .list []) (.lst (sq_of h1) (dp_ints ns)) (.lst (sq_of h2) .nil) (shaped_ints ns) (by decide +kernel)
    rw [eqv_empty] at z
    exact z
abbrev rNinS : R2 := fun x y H Q => ∃ i j : Str, x = .str i ∧ y = .str j ∧ Q (.bl (!inS i j)) H
theorem op_ninS {X : Cx} : OpR X (compareOp .NotIn) rNinS := op_notin_str
theorem ev_ninS {a b : Str} (ha : Ev ta σ H (.str a)) (hb : Ev tb σ H (.str b)) : Ev (tOp rNinS ta tb) σ H (.bl (!inS a b)) := ev_op ha hb fun H1 x1 Q q => ⟨a, b, rfl, rfl, q H1 (Ex.refl _)⟩
abbrev rGeS : R2 := fun x y H Q => ∃ i j : Str, x = .str i ∧ y = .str j ∧ Q (.bl (!ltS i j)) H
theorem op_geS {X : Cx} : OpR X (compareOp .GtE) rGeS := op_ge_str
theorem ev_geS {a b : Str} (ha : Ev ta σ H (.str a)) (hb : Ev tb σ H (.str b)) : Ev (tOp rGeS ta tb) σ H (.bl (!ltS a b)) := ev_op ha hb fun H1 x1 Q q => ⟨a, b, rfl, rfl, q H1 (Ex.refl _)⟩
abbrev rLeS : R2 := fun x y H Q => ∃ i j : Str, x = .str i ∧ y = .str j ∧ Q (.bl (!decide (j.cps.toList < i.cps.toList))) H
theorem op_leS {X : Cx} : OpR X (compareOp .LtE) rLeS := op_le_str
theorem ev_leS {a b : Str} (ha : Ev ta σ H (.str a)) (hb : Ev tb σ H (.str b)) : Ev (tOp rLeS ta tb) σ H (.bl (!decide (b.cps.toList < a.cps.toList))) := ev_op ha hb fun H1 x1 Q q => ⟨a, b, rfl, rfl, q H1 (Ex.refl _)⟩
end
theorem cut_two_to {xs : List V} {i : Nat} (h : 2 ≤ xs.length) (hi : 2 + i ≤ xs.length) : cutV xs (some 2) (some ((2 : Int) + (i : Int))) = (xs.drop 2).take i := by
  unfold cutV
  have e1 : HT.sIx xs.length 0 (some 2) = 2 := by
    unfold HT.sIx
    show (if (2 : Int) < 0 then _ else min ((2 : Int).toNat) xs.length) = 2
    rw [if_neg (by decide)]
    exact Nat.min_eq_left h
  have e2 : HT.sIx xs.length xs.length (some ((2 : Int) + (i : Int))) = 2 + i := by
    unfold HT.sIx
    show (if (2 : Int) + (i : Int) < 0 then _ else min (((2 : Int) + (i : Int)).toNat) xs.length) = 2 + i
    rw [if_neg (by omega)]
    have : ((2 : Int) + (i : Int)).toNat = 2 + i := by omega
    rw [this]
    exact Nat.min_eq_left hi
  rw [e1, e2]
  congr 1
  omega
/-! ### lists of texts -/
def IsSL (ws : List Str) : V → Hp → Prop := fun v H => ∃ p, v = .ref p ∧ H p = some (.lst (ws.map V.str))
theorem up_isSL (ws : List Str) : Up (IsSL ws) := fun v H H' x ⟨p, e, h⟩ => ⟨p, e, x _ _ h⟩
abbrev rJoin (K : PySem.W.Frag) : V → List V → Hp → VK → Prop := fun x xs H Q => ∃ a p, ∃ ys : List Str, x = .str a ∧ xs = [.ref p] ∧ (SqL K H p (ys.map V.str) ∨ SqT K H p (ys.map V.str)) ∧ (ys.map (·.length)).sum + ys.length * a.length ≤ 16777216 ∧ Q (.str (Txt.join a ys)) H
theorem cut_toV {xs : List V} {i : Nat} (hi : i ≤ xs.length) : cutV xs none (some (i : Int)) = xs.take i := by
  unfold cutV
  have e1 : HT.sIx xs.length 0 none = 0 := rfl
  have e2 : HT.sIx xs.length xs.length (some (i : Int)) = i := by
    unfold HT.sIx
    show (if (i : Int) < 0 then _ else min ((i : Int).toNat) xs.length) = i
    rw [if_neg (by omega), Int.toNat_natCast]
    exact Nat.min_eq_left hi
  rw [e1, e2, List.drop_zero, Nat.sub_zero]
theorem cut_fromV {xs : List V} (i : Nat) : cutV xs (some (i : Int)) none = xs.drop i := by
  unfold cutV
  have e1 : HT.sIx xs.length 0 (some (i : Int)) = min i xs.length := by
    unfold HT.sIx
    show (if (i : Int) < 0 then _ else min ((i : Int).toNat) xs.length) = _
    rw [if_neg (by omega), Int.toNat_natCast]
  have e2 : HT.sIx xs.length xs.length none = xs.length := rfl
  rw [e1, e2, List.take_of_length_le (by rw [List.length_drop]; exact Nat.le_refl _)]
  rcases Nat.le_total i xs.length with h | h
  · rw [Nat.min_eq_left h]
  · rw [Nat.min_eq_right h, List.drop_length, List.drop_eq_nil_of_le h]
theorem cut_toG {xs : List V} (i : Nat) : cutV xs none (some (i : Int)) = xs.take i := by
  rcases Nat.le_total i xs.length with h | h
  · exact cut_toV h
  · have : cutV xs none (some (i : Int)) = cutV xs none (some (xs.length : Int)) := by
      unfold cutV
      have e2 : HT.sIx xs.length xs.length (some (i : Int)) = HT.sIx xs.length xs.length (some (xs.length : Int)) := by
        unfold HT.sIx
        show (if (i : Int) < 0 then _ else min ((i : Int).toNat) xs.length) = (if (xs.length : Int) < 0 then _ else min ((xs.length : Int).toNat) xs.length)
        rw [if_neg (by omega), if_neg (by omega), Int.toNat_natCast, Int.toNat_natCast, Nat.min_eq_right h, Nat.min_self]
      rw [e2]
    rw [this, cut_toV (Nat.le_refl _), List.take_length, List.take_of_length_le h]
theorem cut_mid {xs : List V} (h : 3 ≤ xs.length) : cutV xs (some 2) (some 3) = (xs.drop 2).take 1 := by
  have z := cut_two_to (xs := xs) (i := 1) (by omega) (by omega)
  exact z
section
variable {K : PySem.W.Frag} {σ : L2.St} {H : Hp} {te ta tb : TE} {ws us : List Str}
theorem ev_join {s : Str} (h : EvP te σ H (IsSL ws)) (small : (ws.map (·.length)).sum + ws.length * s.length ≤ 16777216) : Ev (tM1 (rJoin K) (tC (.str s)) te) σ H (.str (Txt.join s ws)) := fun H1 x1 Q q =>
  ⟨⟨s, rfl⟩, h H1 x1 _ fun v H2 x2 ⟨p, e, hp⟩ => by
    subst e
    exact ⟨s, p, ws, rfl, rfl, .inl (sq_of hp), small, q H2 x2⟩⟩
theorem es_lst {ta : TA} (h : EvA ta σ H (ws.map V.str)) (few : ws.length ≤ 100000) : EvP (tLst ta) σ H (IsSL ws) := fun H1 x1 Q q => el_lst h (by rw [List.length_map]; exact few) H1 x1 Q fun p H2 hp x2 e => q _ H2 x2 ⟨p, rfl, e⟩
theorem es_var {i : Nat} {p : Addr} (e : σ[i]? = some (some (.ref p))) (h : H p = some (.lst (ws.map V.str))) : EvP (tVar i) σ H (IsSL ws) := fun H1 x1 Q q => ⟨_, e, q _ H1 (Ex.refl _) ⟨p, rfl, x1 _ _ h⟩⟩
theorem es_cat (ha : EvP ta σ H (IsSL ws)) (hb : EvP tb σ H (IsSL us)) (few : ws.length + us.length ≤ 100000) : EvP (tOp rCat ta tb) σ H (IsSL (ws ++ us)) := fun H1 x1 Q q =>
  ha H1 x1 _ fun v H2 x2 a => hb H2 (x1.trans x2) _ fun w H3 x3 ⟨m, ew, hm⟩ => by
    obtain ⟨l, ev, hl⟩ := up_isSL ws v _ _ x3 a
    subst ev ew
    exact ⟨l, m, _, _, rfl, rfl, hl, hm, by rw [List.length_map, List.length_map]; exact sz_of few, fun p hp => q _ _ ((x2.trans x3).trans (Ex.new hp)) ⟨p, rfl, by rw [upd_same, List.map_append]⟩⟩
theorem es_to {i : Nat} (ha : EvP ta σ H (IsSL ws)) (hb : Ev tb σ H (.int (i : Int))) : EvP (L2.tSl (rSlL K) ta tNoPart (tPart tb)) σ H (IsSL (ws.take i)) := fun H1 x1 Q q =>
  ha H1 x1 _ fun v H2 x2 a => hb H2 (x1.trans x2) _ fun H3 x3 => by
    obtain ⟨l, ev, hl⟩ := up_isSL ws v _ _ x3 a
    subst ev
    exact ⟨_, rfl, l, _, rfl, sq_of hl, fun p hp => q _ _ ((x2.trans x3).trans (Ex.new hp)) ⟨p, rfl, by rw [upd_same, cut_toG, List.map_take]⟩⟩
theorem es_from {i : Nat} (ha : EvP ta σ H (IsSL ws)) (hb : Ev tb σ H (.int (i : Int))) : EvP (L2.tSl (rSlL K) ta (tPart tb) tNoPart) σ H (IsSL (ws.drop i)) := fun H1 x1 Q q =>
  ha H1 x1 _ fun v H2 x2 a => hb H2 (x1.trans x2) _ fun H3 x3 => by
    obtain ⟨l, ev, hl⟩ := up_isSL ws v _ _ x3 a
    subst ev
    exact ⟨_, rfl, l, _, rfl, sq_of hl, fun p hp => q _ _ ((x2.trans x3).trans (Ex.new hp)) ⟨p, rfl, by rw [upd_same, cut_fromV, List.map_drop]⟩⟩
theorem es_mid (ha : EvP ta σ H (IsSL ws)) (h : 3 ≤ ws.length) : EvP (L2.tSl (rSlL K) ta (tPart (tC (.int 2))) (tPart (tC (.int 3)))) σ H (IsSL ((ws.drop 2).take 1)) := fun H1 x1 Q q =>
  ha H1 x1 _ fun v H2 x2 ⟨l, ev, hl⟩ => by
    subst ev
    exact ⟨2, rfl, 3, rfl, l, _, rfl, sq_of hl, fun p hp => q _ _ (x2.trans (Ex.new hp)) ⟨p, rfl, by rw [upd_same, cut_mid (by rw [List.length_map]; exact h), List.map_take, List.map_drop]⟩⟩
end
end K02

set_option Elab.async false
set_option linter.all false
set_option maxRecDepth 100000
set_option maxHeartbeats 4000000
/-! Signs exchanged: texts, least words, ends -/
namespace K02
open PySem PySem.Spec PyProof.Rows L2 Evl KU
def xS (f : Nat → Nat) (t : Str) : Str := ⟨(t.cps.toList.map f).toArray⟩
theorem x_cps (f : Nat → Nat) (t : Str) : (xS f t).cps.toList = t.cps.toList.map f := rfl
theorem x_len (f : Nat → Nat) (t : Str) : (xS f t).length = t.length := by rw [← len_cps, x_cps, List.length_map, len_cps]
theorem x_full {f : Nat → Nat} {t : Str} (h : Full t) : Full (xS f t) := by
  unfold Full at h ⊢
  rw [x_cps]
  exact fun z => h (List.map_eq_nil_iff.mp z)
/-- signs go to signs, each to its own -/
structure Xch (al : Str) (f : Nat → Nat) : Prop where
  inj : ∀ a ∈ al.cps.toList, ∀ b ∈ al.cps.toList, f a = f b → a = b
  into : ∀ a ∈ al.cps.toList, f a ∈ al.cps.toList
section
variable {al : Str} {f : Nat → Nat}
theorem x_over (X : Xch al f) {t : Str} (h : Over al t) : Over al (xS f t) := fun c hc => by
  rw [x_cps] at hc
  obtain ⟨d, hd, rfl⟩ := List.mem_map.mp hc
  exact X.into d (h d hd)
theorem map_inj (X : Xch al f) : ∀ {a b : List Nat}, (∀ c ∈ a, c ∈ al.cps.toList) → (∀ c ∈ b, c ∈ al.cps.toList) → a.map f = b.map f → a = b
  | [], [], _, _, _ => rfl
  | [], _ :: _, _, _, h => by cases h
  | _ :: _, [], _, _, h => by cases h
  | c :: r, d :: s, ha, hb, h => by
    rw [List.map_cons, List.map_cons, List.cons.injEq] at h
    rw [X.inj c (ha c List.mem_cons_self) d (hb d List.mem_cons_self) h.1, map_inj X (fun x hx => ha x (List.mem_cons_of_mem _ hx)) (fun x hx => hb x (List.mem_cons_of_mem _ hx)) h.2]
theorem x_inj (X : Xch al f) {a b : Str} (ha : Over al a) (hb : Over al b) (h : xS f a = xS f b) : a = b := str_eq (map_inj X ha hb (by rw [← x_cps, h, x_cps]))
theorem infix_map (X : Xch al f) {a b : List Nat} (ha : ∀ c ∈ a, c ∈ al.cps.toList) (hb : ∀ c ∈ b, c ∈ al.cps.toList) : a.map f <:+: b.map f ↔ a <:+: b := by
  constructor
  · rintro ⟨s, r, e⟩
    obtain ⟨l1, l2, e1, e2, e3⟩ := List.map_eq_append_iff.mp e.symm
    obtain ⟨m1, m2, e4, e5, e6⟩ := List.map_eq_append_iff.mp e2
    subst e1 e4
    have : a = m2 := map_inj X ha (fun c hc => hb c (List.mem_append_left _ (List.mem_append_right _ hc))) e6.symm
    subst this
    exact ⟨m1, l2, rfl⟩
  · rintro ⟨s, r, e⟩
    exact ⟨s.map f, r.map f, by rw [← e, List.map_append, List.map_append]⟩
theorem suffix_map (X : Xch al f) {a b : List Nat} (ha : ∀ c ∈ a, c ∈ al.cps.toList) (hb : ∀ c ∈ b, c ∈ al.cps.toList) : a.map f <:+ b.map f ↔ a <:+ b := by
  constructor
  · rintro ⟨s, e⟩
    obtain ⟨l1, l2, e1, e2, e3⟩ := List.map_eq_append_iff.mp e.symm
    subst e1
    have : a = l2 := map_inj X ha (fun c hc => hb c (List.mem_append_right _ hc)) e3.symm
    subst this
    exact ⟨l1, rfl⟩
  · rintro ⟨s, e⟩
    exact ⟨s.map f, by rw [← e, List.map_append]⟩
theorem x_in (X : Xch al f) {a b : Str} (hf : Full a) (ha : Over al a) (hb : Over al b) : inS (xS f a) (xS f b) = inS a b := by
  rw [Bool.eq_iff_iff, inS_iff (x_full hf), inS_iff hf, x_cps, x_cps]
  exact infix_map X ha hb
theorem mem_x_least (X : Xch al f) {ys : List Str} (h : IsL ys) (full : ∀ w ∈ ys, Full w) (ov : ∀ w ∈ ys, Over al w) (x : Str) : x ∈ leastS (ys.map (xS f)) ↔ x ∈ ys.map (xS f) := by
  rw [mem_leastS, mem_least]
  refine ⟨fun m => m.1, fun m => ⟨m, fun o ho ne => ?_⟩⟩
  obtain ⟨a, ha, rfl⟩ := List.mem_map.mp m
  obtain ⟨b, hb, rfl⟩ := List.mem_map.mp ho
  rw [x_in X (full b hb) (ov b hb) (ov a ha)]
  exact h.anti ha hb fun e => ne (by rw [e])
theorem x_twice (X : Xch al f) {g : Nat → Nat} (inv : ∀ a ∈ al.cps.toList, g (f a) = a) {ys : List Str} (h : IsL ys) (full : ∀ w ∈ ys, Full w) (ov : ∀ w ∈ ys, Over al w) : leastS ((leastS (ys.map (xS f))).map (xS g)) = ys := by
  have gf : ∀ {t : Str}, Over al t → xS g (xS f t) = t := fun {t} ht => str_eq (by
    rw [x_cps, x_cps, List.map_map]
    conv => rhs; rw [← List.map_id t.cps.toList]
    exact List.map_congr_left fun c hc => inv c (ht c hc))
  have m : ∀ x, x ∈ (leastS (ys.map (xS f))).map (xS g) ↔ x ∈ ys := fun x => by
    rw [List.mem_map]
    constructor
    · rintro ⟨a, ha, rfl⟩
      obtain ⟨b, hb, rfl⟩ := List.mem_map.mp ((mem_x_least X h full ov a).mp ha)
      rw [gf (ov b hb)]
      exact hb
    · intro hx
      exact ⟨xS f x, (mem_x_least X h full ov _).mpr (List.mem_map.mpr ⟨x, hx, rfl⟩), gf (ov x hx)⟩
  rw [least_congr m]
  exact h
theorem x_same {t : Str} : xS (fun c => c) t = t := str_eq (by rw [x_cps, List.map_id'])
theorem holds_x (X : Xch al f) {t : Str} {ys : List Str} (h : IsL ys) (full : ∀ w ∈ ys, Full w) (ov : ∀ w ∈ ys, Over al w) (ht : Over al t) : holdsB (xS f t) (leastS (ys.map (xS f))) = holdsB t ys := by
  refine (holds_congr (mem_x_least X h full ov)).trans ?_
  rw [Bool.eq_iff_iff, holdsB_iff, holdsB_iff]
  constructor
  · rintro ⟨w, hw, q⟩
    obtain ⟨v, hv, rfl⟩ := List.mem_map.mp hw
    rw [x_in X (full v hv) (ov v hv) ht] at q
    exact ⟨v, hv, q⟩
  · rintro ⟨v, hv, q⟩
    exact ⟨xS f v, List.mem_map.mpr ⟨v, hv, rfl⟩, by rw [x_in X (full v hv) (ov v hv) ht]; exact q⟩
theorem end_over {ys : List Str} (ov : ∀ w ∈ ys, Over al w) {e : Str} (h : e ∈ endsL ys) : Over al e := by
  rcases mem_ends.mp h with rfl | ⟨w, hw, k, _, e2⟩
  · exact fun c hc => by cases hc
  · intro c hc
    rw [e2] at hc
    exact ov w hw c (List.mem_of_mem_take hc)
theorem mem_x_ends (X : Xch al f) {ys : List Str} (h : IsL ys) (full : ∀ w ∈ ys, Full w) (ov : ∀ w ∈ ys, Over al w) (e : Str) : e ∈ endsL (leastS (ys.map (xS f))) ↔ e ∈ (endsL ys).map (xS f) := by
  rw [List.mem_map]
  constructor
  · intro he
    rcases mem_ends.mp he with rfl | ⟨w, hw, k, hk, e2⟩
    · exact ⟨"", mem_ends.mpr (.inl rfl), rfl⟩
    · obtain ⟨v, hv, rfl⟩ := List.mem_map.mp ((mem_x_least X h full ov w).mp hw)
      rw [x_len] at hk
      refine ⟨strOf (v.cps.toList.take k), mem_ends.mpr (.inr ⟨v, hv, k, hk, rfl⟩), str_eq ?_⟩
      rw [x_cps, strOf_cps, e2, x_cps, List.map_take]
  · rintro ⟨e0, he, rfl⟩
    rcases mem_ends.mp he with rfl | ⟨v, hv, k, hk, e2⟩
    · exact mem_ends.mpr (.inl rfl)
    · refine mem_ends.mpr (.inr ⟨xS f v, (mem_x_least X h full ov _).mpr (List.mem_map.mpr ⟨v, hv, rfl⟩), k, by rw [x_len]; exact hk, ?_⟩)
      rw [x_cps, x_cps, e2, List.map_take]
theorem x_ends (X : Xch al f) {ys : List Str} (h : IsL ys) (full : ∀ w ∈ ys, Full w) (ov : ∀ w ∈ ys, Over al w) : srt ((endsS ys).map (xS f)) = endsS (leastS (ys.map (xS f))) := by
  unfold endsS
  refine srt_congr fun e => ?_
  rw [mem_x_ends X h full ov, List.mem_map, List.mem_map]
  exact exists_congr fun x => and_congr_left fun _ => mem_srt _ x
theorem x_end (X : Xch al f) {ys : List Str} (h : IsL ys) (full : ∀ w ∈ ys, Full w) (ov : ∀ w ∈ ys, Over al w) {t : Str} (ht : Over al t) : endF (endsS (leastS (ys.map (xS f)))) (xS f t) = xS f (endF (endsS ys) t) := by
  have n0 : ("" : Str) ∈ endsS ys := (mem_srt _ _).mpr (mem_ends.mpr (.inl rfl))
  have I := endF_is (t := t) n0
  have back : ∀ o, o ∈ endsS (leastS (ys.map (xS f))) ↔ ∃ o' ∈ endsS ys, xS f o' = o := fun o => by
    unfold endsS
    rw [mem_srt, mem_x_ends X h full ov, List.mem_map]
    exact exists_congr fun x => and_congr_left fun _ => (mem_srt _ x).symm
  have eo : ∀ o ∈ endsS ys, Over al o := fun o ho => end_over ov ((mem_srt _ o).mp ho)
  refine IsEnd.is ⟨(back _).mpr ⟨_, I.mem, rfl⟩, ?_, fun o ho so => ?_⟩
  · rw [x_cps, x_cps]
    exact (suffix_map X (eo _ I.mem) ht).mpr I.suf
  · obtain ⟨o', ho', rfl⟩ := (back o).mp ho
    rw [x_cps, x_cps] at so
    rw [x_len, x_len]
    exact I.top o' ho' ((suffix_map X (eo o' ho') ht).mp so)
theorem Wd.x {ys : List Str} {n : Nat} (W : Wd al ys n) (X : Xch al f) : Few al (ys.map (xS f)) := by
  obtain ⟨_, _, _, chars, _⟩ := alpha_facts al W.drawn
  have ov := W.few.over
  have nd : (ys.map (xS f)).Nodup := List.pairwise_map.mpr (W.least.nodup.imp_of_mem fun {a b} ha hb ne e => ne (x_inj X (ov a ha) (ov b hb) e))
  have p := uniq_nodup nd
  have q := uniq_nodup W.least.nodup
  have lens : ∀ g : Nat → Nat, (((ys.map (xS f)).map fun t => g t.length).sum) = ((ys.map fun t => g t.length).sum) := fun g => by
    rw [List.map_map]
    congr 1
    exact List.map_congr_left fun t _ => by show g (xS f t).length = g t.length; rw [x_len]
  have F := W.few
  have a0 := F.most
  have a1 := F.all
  have a2 := F.ends
  rw [q.length_eq] at a0
  rw [(q.map _).sum_nat] at a1 a2
  refine ⟨fun t ht => ?_, fun t ht => ?_, fun t ht => ?_, ?_, ?_, ?_⟩
  · obtain ⟨u, hu, rfl⟩ := List.mem_map.mp ht
    have o := x_over X (ov u hu)
    have l := word_len (F.words u hu).1
    have p0 := F.full u hu
    exact ⟨word_over o (by rw [x_len]; exact p0) (by rw [x_len]; omega), by rw [x_len]; omega, ok_over o chars⟩
  · obtain ⟨u, hu, rfl⟩ := List.mem_map.mp ht
    rw [x_len]
    exact F.full u hu
  · obtain ⟨u, hu, rfl⟩ := List.mem_map.mp ht
    exact x_over X (ov u hu)
  · rw [p.length_eq, List.length_map]
    exact a0
  · rw [(p.map _).sum_nat, lens fun n => n]
    exact a1
  · rw [(p.map _).sum_nat, lens fun n => n - 1]
    exact a2
theorem Wd.xl {ys : List Str} {n : Nat} (W : Wd al ys n) (X : Xch al f) : Wd al (leastS (ys.map (xS f))) n := by
  have F := W.x X
  have nd := nodup_leastS (ys.map (xS f))
  have sub : ∀ t ∈ leastS (ys.map (xS f)), t ∈ ys.map (xS f) := fun t ht => leastS_sub ht
  have t1 := sum_sub (fun t => t.length) _ _ nd sub
  have t3 := leastS_len (ys.map (xS f))
  have e : ((ys.map (xS f)).map (·.length)).sum = (ys.map (·.length)).sum := by
    rw [List.map_map]
    congr 1
    exact List.map_congr_left fun t _ => x_len f t
  have s := W.sum
  have l := W.len
  rw [List.length_map] at t3
  have t1' : ((leastS (ys.map (xS f))).map (·.length)).sum ≤ ((ys.map (xS f)).map (·.length)).sum := t1
  exact ⟨W.drawn, F.sub sub, isL_least _, by omega, by omega⟩
end
end K02

set_option Elab.async false
set_option linter.all false
set_option maxRecDepth 100000
set_option maxHeartbeats 4000000
/-! bars.py: the operators with what is no Bars of the alphabet -/
namespace K02
open PySem PySem.Spec PyProof.Rows L2 Evl KU
def tNeverE : TE := fun _ _ _ => False
theorem pe_never {X : Cx} {e : Expr} : PE X e tNeverE := ⟨fun _ _ _ _ _ _ h => h.elim⟩
/-- Python's classes of which the values come -/
def tysB : List String := ["NoneType", "bool", "int", "str", "list", "tuple", "dict"]
/-- what is looked up of them -/
structure FgnB (K : PySem.W.Frag) (C : Addr) : Prop where
  kit : ∀ T ∈ tysB, PySem.W.kitOne K (.type T) (.ref C) = some false
  nf : ∀ T ∈ tysB, PySem.W.notFirst K C (.type T) = true
  bOr : ∀ T ∈ tysB, binOk K C T Operator.BitOr.info.2 = true
  bAnd : ∀ T ∈ tysB, binOk K C T Operator.BitAnd.info.2 = true
  bSub : ∀ T ∈ tysB, binOk K C T Operator.Sub.info.2 = true
theorem bty_in {H : Hp} {v : V} {T : String} (b : BTy H v T) : T ∈ tysB := by
  cases b <;> decide
theorem bty_tyx {K : PySem.W.Frag} {H : Hp} {v : V} {T : String} (b : BTy H v T) : TyX K H v (.type T) := by
  cases b with
  | non => exact .base .non
  | bl b => exact .base (.bl b)
  | int i => exact .base (.int i)
  | str t => exact .base (.str t)
  | lst h => exact .base (.lst h)
  | tup h => exact .base (.tup h)
  | dic h => exact .base (.dK h)
/-- no Bars of the alphabet -/
def Fgn (C : Addr) (al : Str) (v : V) (H : Hp) : Prop := (∃ T, BTy H v T) ∨ ∃ (b : Addr) (bl : Str) (zs fs : List Str), v = .ref b ∧ BarsAt C H b bl zs fs ∧ bl ≠ al
theorem Fgn.mono {C : Addr} {al : Str} {v : V} {H H' : Hp} (x : Ex H H') (h : Fgn C al v H) : Fgn C al v H' := by
  rcases h with ⟨T, b⟩ | ⟨b, bl, zs, fs, e, B, n⟩
  · exact .inl ⟨T, b.mono x⟩
  · exact .inr ⟨b, bl, zs, fs, e, B.mono x, n⟩
/-- a def of two values that refuses -/
def spRef (C CO : Addr) : Sp := fun vs H _ E => ∃ (a : Addr) (v : V) (al : Str) (ys es : List Str), vs = [.ref a, v] ∧ BarsAt C H a al ys es ∧ Fgn C al v H ∧ RaiseV CO "part" (.str "other") H E
section
variable {P : Program} {w : World} {K : PySem.W.Frag} {mg : Str → Option Value} {base : Heap} {C CO : Addr}
theorem ok_chkX {f : Addr} {fd : FuncData} (F : Fun K "_check_other" "Bars._check_other" (meth 13) f fd) (T : Free mg) (CB : ClsI K mg C) (G : FgnB K C) (ZO : Cl P w K mg base "BadBars" CO ["part"] (spI1 K "part")) : FnOk P w K mg base (L2.CX P w) 3 f fd ["self", "other"] (spRef C CO) := by
  refine F.okX scChk (fun vs H Q E h => ?_) (fun cdv A outer s H vs Q E hr h => ?_)
  · obtain ⟨_, _, _, _, _, rfl, _⟩ := h
    rfl
  · obtain ⟨a, v, al, ys, es, rfl, B1, fg, r⟩ := h
    obtain ⟨dx, W, N, L, zz, O, h1, h2, h3, h4, h5⟩ := B1.at_
    refine ⟨_, pss_one (ps_if (PW.pt (pw_or (pt_not (pt_val (pe_callB call_isi (by rfl) T.isinstance (by decide +kernel) (pa_cons (pv 1) (pa_cons (pe_glob (v := .ref C) rfl CB.gB rfl) pa_nil)))))
      (pw_or1 (pt_cmpR op_ne (pe_fld (pv 1) rfl) (pe_fld (pv 0) rfl) (nomark _))))) (pss_one (ps_raise1 rfl (takes_of rfl rfl rfl rfl) ZO hr (pa_cons pe_str pa_nil))) pss_nil), ?_⟩
    rcases fg with ⟨T', bt⟩ | ⟨b, bl, zs, fs, rfl, B2, ne⟩
    · refine s_when (b := true) (et_is (et_or (b := true) (et_not (et_B (ev_cb (ea_cons (ev_var rfl) (ea_cons ev_c ea_nil)) fun H1 x1 Q1 q => ⟨_, _, _, _, false, rfl, .own C, bty_tyx (bt.mono x1), G.kit _ (bty_in bt), q H1 (Ex.refl _)⟩))) fun z => by cases z) rfl) (fun _ H1 x1 => s_raise1 ZO.oex (ZO.no _ List.mem_cons_self) (ea_cons ev_c ea_nil) fun d H2 x2 e2 => r d H2 (x1.trans x2) e2) fun z => by cases z
    · obtain ⟨dx', W', N', L', zz', O', g1, g2, g3, g4, g5⟩ := B2.at_
      refine s_when (b := true) (et_is (et_or (et_not (et_B (is_bars CB B2 (ta := tVar 1) (tc := tC (.ref C)) (σ := start ["self", "other"] [.ref a, .ref b]) (ev_var rfl) ev_c))) fun _ =>
        et_test (ev_op (ev_fld (K := K) (te := tVar 1) (ev_var rfl) g1 CB.toCls CB.nSigns rfl) (ev_fld (K := K) (te := tVar 0) (ev_var rfl) h1 CB.toCls CB.nSigns rfl) (rv_ne rfl))) (by
          rw [decide_eq_false fun z => ne (by cases z; rfl)]
          rfl)) (fun _ H1 x1 => s_raise1 ZO.oex (ZO.no _ List.mem_cons_self) (ea_cons ev_c ea_nil) fun d H2 x2 e2 => r d H2 (x1.trans x2) e2) fun z => by cases z
section
variable {fK : Addr} {fdK : FuncData}
theorem ok_orX4 {f : Addr} {fd : FuncData} (F : Fun K "__or__" "Bars.__or__" (meth 14) f fd) (CB : ClsI K mg C) (GK : FnOk P w K mg base (L2.CX P w) 3 fK fdK ["self", "other"] (spRef C CO)) (bK : Binds K fdK ["self", "other"] []) (mK : Meth K C "_check_other" fK) : FnOk P w K mg base (L2.CX P w) 4 f fd ["self", "other"] (spRef C CO) := by
  refine F.okX scOr (fun vs H Q E h => ?_) (fun cdv A outer s H vs Q E hr h => ?_)
  · obtain ⟨_, _, _, _, _, rfl, _⟩ := h
    rfl
  · obtain ⟨a, v, al, ys, es, rfl, B1, fg, r⟩ := h
    obtain ⟨dx, W, N', L, zz, O, h1, h2, h3, h4, h5⟩ := B1.at_
    refine ⟨_, pss_cons (ps_expr (pe_meth (CX := L2.CX P w) (E := E) (pv 0) CB.toCls mK GK hr bK .nil (passes_call (takes_of rfl rfl rfl rfl) fun _ _ _ _ h => h) (pa_cons (pv 1) pa_nil))) pss_never, ?_⟩
    exact ⟨_, rfl, a, dx, _, rfl, h1, rfl, _, rfl, a, v, al, ys, es, rfl, B1, fg, r⟩
theorem ok_andX4 {f : Addr} {fd : FuncData} (F : Fun K "__and__" "Bars.__and__" (meth 15) f fd) (CB : ClsI K mg C) (GK : FnOk P w K mg base (L2.CX P w) 3 fK fdK ["self", "other"] (spRef C CO)) (bK : Binds K fdK ["self", "other"] []) (mK : Meth K C "_check_other" fK) : FnOk P w K mg base (L2.CX P w) 4 f fd ["self", "other"] (spRef C CO) := by
  refine F.okX scAnd (fun vs H Q E h => ?_) (fun cdv A outer s H vs Q E hr h => ?_)
  · obtain ⟨_, _, _, _, _, rfl, _⟩ := h
    rfl
  · obtain ⟨a, v, al, ys, es, rfl, B1, fg, r⟩ := h
    obtain ⟨dx, W, N', L, zz, O, h1, h2, h3, h4, h5⟩ := B1.at_
    refine ⟨_, pss_cons (ps_expr (pe_meth (CX := L2.CX P w) (E := E) (pv 0) CB.toCls mK GK hr bK .nil (passes_call (takes_of rfl rfl rfl rfl) fun _ _ _ _ h => h) (pa_cons (pv 1) pa_nil))) pss_never, ?_⟩
    exact ⟨_, rfl, a, dx, _, rfl, h1, rfl, _, rfl, a, v, al, ys, es, rfl, B1, fg, r⟩
theorem ok_subX4 {f : Addr} {fd : FuncData} (F : Fun K "__sub__" "Bars.__sub__" (meth 16) f fd) (CB : ClsI K mg C) (GK : FnOk P w K mg base (L2.CX P w) 3 fK fdK ["self", "other"] (spRef C CO)) (bK : Binds K fdK ["self", "other"] []) (mK : Meth K C "_check_other" fK) : FnOk P w K mg base (L2.CX P w) 4 f fd ["self", "other"] (spRef C CO) := by
  refine F.okX scSub (fun vs H Q E h => ?_) (fun cdv A outer s H vs Q E hr h => ?_)
  · obtain ⟨_, _, _, _, _, rfl, _⟩ := h
    rfl
  · obtain ⟨a, v, al, ys, es, rfl, B1, fg, r⟩ := h
    obtain ⟨dx, W, N', L, zz, O, h1, h2, h3, h4, h5⟩ := B1.at_
    refine ⟨_, pss_cons (ps_expr (pe_meth (CX := L2.CX P w) (E := E) (pv 0) CB.toCls mK GK hr bK .nil (passes_call (takes_of rfl rfl rfl rfl) fun _ _ _ _ h => h) (pa_cons (pv 1) pa_nil))) pss_never, ?_⟩
    exact ⟨_, rfl, a, dx, _, rfl, h1, rfl, _, rfl, a, v, al, ys, es, rfl, B1, fg, r⟩
theorem ok_leX4 {f : Addr} {fd : FuncData} (F : Fun K "__le__" "Bars.__le__" (meth 18) f fd) (CB : ClsI K mg C) (GK : FnOk P w K mg base (L2.CX P w) 3 fK fdK ["self", "other"] (spRef C CO)) (bK : Binds K fdK ["self", "other"] []) (mK : Meth K C "_check_other" fK) : FnOk P w K mg base (L2.CX P w) 4 f fd ["self", "other"] (spRef C CO) := by
  refine F.okX scLe (fun vs H Q E h => ?_) (fun cdv A outer s H vs Q E hr h => ?_)
  · obtain ⟨_, _, _, _, _, rfl, _⟩ := h
    rfl
  · obtain ⟨a, v, al, ys, es, rfl, B1, fg, r⟩ := h
    obtain ⟨dx, W, N', L, zz, O, h1, h2, h3, h4, h5⟩ := B1.at_
    refine ⟨_, pss_cons (ps_expr (pe_meth (CX := L2.CX P w) (E := E) (pv 0) CB.toCls mK GK hr bK .nil (passes_call (takes_of rfl rfl rfl rfl) fun _ _ _ _ h => h) (pa_cons (pv 1) pa_nil))) pss_never, ?_⟩
    exact ⟨_, rfl, a, dx, _, rfl, h1, rfl, _, rfl, a, v, al, ys, es, rfl, B1, fg, r⟩
theorem ok_ltX4 {f fL : Addr} {fd : FuncData} (F : Fun K "__lt__" "Bars.__lt__" (meth 19) f fd) (CB : ClsI K mg C) (G : FgnB K C) (nf : PySem.W.notFirst K C (.ref C) = true)
    (hL : PySem.W.findIn K (.ref C) "__le__" = some (some (.ref fL))) (iL : PySem.W.isFn K (.ref fL) = true) (GL : FnR P w K mg base (L2.CX P w) 4 fL (spRef C CO)) : FnOk P w K mg base (L2.CX P w) 5 f fd ["self", "other"] (spRef C CO) := by
  refine F.okX scLt (fun vs H Q E h => ?_) (fun cdv A outer s H vs Q E hr h => ?_)
  · obtain ⟨_, _, _, _, _, rfl, _⟩ := h
    rfl
  · obtain ⟨a, v, al, ys, es, rfl, B1, fg, r⟩ := h
    obtain ⟨dx, W, N', L, zz, O, h1, h2, h3, h4, h5⟩ := B1.at_
    refine ⟨_, pss_one (ps_ret (pe_and (pe_cmpR ((op_cmpI (C := C) (op := .LtE) (E := E) (fun _ _ => rfl) hL iL GL hr (passes_call (takes_of rfl rfl rfl rfl) fun _ _ _ _ h => h)).or (op_cmpX (C := C) (op := .LtE) (E := E) (fun _ _ => rfl) hL iL GL hr (passes_call (takes_of rfl rfl rfl rfl) fun _ _ _ _ h => h))) (pv 0) (pv 1) (by rfl)) pe_never)), ?_⟩
    refine ⟨_, rfl, _, rfl, ?_⟩
    rcases fg with ⟨T', bt⟩ | ⟨b, bl, zs, fs, rfl, B2, ne⟩
    · exact .inr ⟨a, dx, _, T', rfl, h1, bt, G.nf _ (bty_in bt), a, v, al, ys, es, rfl, B1, .inl ⟨T', bt⟩, r⟩
    · obtain ⟨dx', W', N', L', zz', O', g1, g2, g3, g4, g5⟩ := B2.at_
      exact .inl ⟨a, dx, _, b, C, dx', _, rfl, rfl, h1, g1, nf, a, _, al, ys, es, rfl, B1, .inr ⟨b, bl, zs, fs, rfl, B2, ne⟩, r⟩
end
end
end K02

set_option Elab.async false
set_option linter.all false
set_option maxRecDepth 100000
set_option maxHeartbeats 4000000
/-! signs.py: exchanges of signs -/
namespace K02
open PySem PySem.Spec PyProof.Rows L2 Evl KU
def isSgnV (v : V) (al : Str) : Bool := match v with
  | .str t => decide (t.length = 1) && inS t al
  | _ => false
abbrev sIsSgn : Stmt := topR 14
abbrev sUnl : Stmt := topR 16
abbrev sSwap : Stmt := topR 17
abbrev sExch : Stmt := topR 18
abbrev sExd : Stmt := topR 19
def spIsSgn : Sp := fun vs H Q _ => ∃ (v : V) (al : Str), vs = [v, .str al] ∧ Odd H v ∧ LenV v ∧ RetV (.bl (isSgnV v al)) H Q
def spUnl : Sp := fun vs H Q _ => ∃ (a : Addr) (ws : List Str), vs = [.ref a] ∧ H a = some (.lst (ws.map V.str)) ∧ ws.length ≤ 1000 ∧ RetV (.bl (decide ((uniq ws).length = ws.length))) H Q
theorem scIsSgn : FnScope ["value", "signs"] ["value", "signs"] (defScope sIsSgn) := ⟨rfl, rfl, rfl, by decide +kernel, rfl, by decide +kernel, by decide +kernel⟩
theorem scUnl : FnScope ["words", "word"] ["words"] (defScope sUnl) := ⟨rfl, rfl, rfl, by decide +kernel, rfl, by decide +kernel, by decide +kernel⟩
section
variable {K : PySem.W.Frag} {σ : L2.St} {H : Hp} {te tl : TE} {i j : Nat} {vs : List Nat}
/-- over a list of pairs -/
theorem el_pairs {a : Addr} {ts : List Addr} {kv : List (V × V)} (φ : V × V → V) (hx : Ev tl σ H (.ref a)) (hs : H a = some (.lst (ts.map V.ref))) (hp : Paired (fun (t : Addr) (q : V × V) => H t = some (.tup [q.1, q.2])) ts kv) (hl : ts.length ≤ 40000)
    (hw : ∀ x y : V, wipe (((wipe σ vs).set i (some x)).set j (some y)) vs = wipe σ vs)
    (he : ∀ q ∈ kv, ∀ H1, Ex H H1 → Ev te (((wipe σ vs).set i (some q.1)).set j (some q.2)) H1 (φ q)) : EvL (tLc (iList K tl) (gTup K 2 (gCons (gName i) (gCons (gName j) gNil))) tYes te vs) σ H (kv.map φ) := by
  have ll := Paired.length hp
  have eg : given ts.length (fun _ => true) (fun n => (kv[n]?.map φ).getD .non) = kv.map φ := by
    unfold given
    rw [ll]
    exact given_all kv _ φ fun n x h => by rw [h]; rfl
  rw [← eg]
  intro H1 x1 Q q
  refine hx H1 x1 _ fun H2 x2 => ⟨a, rfl, ⟨_, sq_of ((x1.trans x2) _ _ hs)⟩, fun D hD => ?_⟩
  have ls : (ts.map V.ref).length = ts.length := List.length_map _
  rw [← ls] at q
  refine lc_list (xs := ts.map V.ref) (Cw H2 (fun _ => true) (fun n => (kv[n]?.map φ).getD .non) D) ⟨hD, Ex.new hD, upd_same⟩ (fun n H' _ p => sq_of (p.2.1 _ _ ((x1.trans x2) _ _ hs))) (fun n x H' hn p => ?_) (fun H' p => q D H' (fresh_back x2 p.1) (x2.trans p.2.1) p.2.2)
  rw [List.getElem?_map] at hn
  obtain ⟨t, ht, rfl⟩ := Option.map_eq_some_iff.mp hn
  obtain ⟨qv, hq, hT⟩ := paired_get hp ht
  have nl : n < 50000 := by
    have := (List.getElem?_eq_some_iff.mp ht).1
    omega
  refine ⟨t, _, rfl, st_of (p.2.1 _ _ ((x1.trans x2) _ _ hT)), rfl, _, _, rfl, _, _, rfl, rfl, hw _ _, ?_⟩
  refine cw_turn p nl et_yes fun _ => ?_
  rw [hq]
  exact he qv (List.mem_of_getElem? hq) H2 (x1.trans x2)
end
section
variable {P : Program} {w : World} {K : PySem.W.Frag} {mg : Str → Option Value} {base : Heap}
theorem ok_isSgn {f : Addr} {fd : FuncData} (F : Fun K "is_sign" "is_sign" sIsSgn f fd) (T : Free mg) : FnOk P w K mg base CX0 1 f fd ["value", "signs"] spIsSgn := by
  refine F.ok scIsSgn (fun vs H Q E h => ?_) (fun cdv A outer s H vs Q E hr h => ?_)
  · obtain ⟨_, _, rfl, _⟩ := h
    rfl
  · obtain ⟨v, al, rfl, o, lv, k⟩ := h
    refine ⟨_, pss_one (ps_ret (pe_and (pe_callB call_isi (by rfl) T.isinstance (by decide +kernel) (pa_cons (pv 0) (pa_cons (pe_bltn (v := .ty "str") (by rfl) T.str (by decide +kernel) rfl) pa_nil)))
      (pe_and (pe_cmpR op_eq (pe_callB call_len_str (by rfl) T.len PySem.boot_len (pa_cons (pv 0) pa_nil)) pe_int (nomark _)) (pe_one (pe_cmpR op_inS (pv 0) (pv 1) (by rfl)))))), ?_⟩
    by_cases hs : isStrV v = true
    · obtain ⟨t, rfl⟩ : ∃ t, v = .str t := by
        cases v with
        | str t => exact ⟨t, rfl⟩
        | _ => cases hs
      have tl := lv t rfl
      refine s_ret (v := .bl (isSgnV (.str t) al)) (ev_is (ev_andV (ev_isStr (ev_var rfl) o) fun _ => ev_andV (a := decide (t.length = 1)) (ev_is (ev_op (ev_lenS (ev_var rfl) (by rw [sizeLine_eq]; omega)) ev_c (rv_eq rfl)) ?_) fun _ => ev_inS (ev_var rfl) (ev_var rfl)) rfl) fun H1 x1 => k H1 x1
      refine congrArg V.bl ?_
      rw [Bool.eq_iff_iff, decide_eq_true_eq, decide_eq_true_eq]
      exact ⟨fun z => by injection z with z; omega, fun z => by rw [z]; rfl⟩
    · have e : isSgnV v al = false := by
        cases v with
        | str t => exact absurd rfl hs
        | _ => rfl
      have hs' : isStrV v = false := by simpa using hs
      refine s_ret (v := .bl (isSgnV v al)) (ev_is (ev_andV (b := false) (ev_isStr (ev_var rfl) o) fun z => by rw [hs'] at z; cases z) (by rw [hs', e]; rfl)) fun H1 x1 => k H1 x1
theorem ok_unl {f : Addr} {fd : FuncData} (F : Fun K "are_unlike" "are_unlike" sUnl f fd) (T : Free mg) : FnOk P w K mg base CX0 1 f fd ["words"] spUnl := by
  refine F.ok scUnl (fun vs H Q E h => ?_) (fun cdv A outer s H vs Q E hr h => ?_)
  · obtain ⟨_, _, rfl, _⟩ := h
    rfl
  · obtain ⟨a, ws, rfl, ha, few, k⟩ := h
    have nd := scUnl.nd
    refine ⟨_, pss_one (ps_ret (pe_cmpR op_eq (pe_callB call_lenD (by rfl) T.len PySem.boot_len (pa_cons (pe_dc (own := [("word", 1)]) (g := gName 1) (tt := tYes) rfl nd (pi_seqV (pv 0)) (blkOk_by (own := [("word", 1)]) (N := ["words", "word"]) (sc := defScope sUnl) (by decide +kernel))
        (fun _ _ _ _ _ => pg_name (i := 1) nd rfl (Or.inl rfl)) (fun _ _ _ _ _ => pts_nil) (fun _ _ _ _ _ => pv 1) (fun _ _ _ _ _ => pe_bl)) pa_nil)) (pe_callB call_len_seq (by rfl) T.len PySem.boot_len (pa_cons (pv 0) pa_nil)) (nomark _))), ?_⟩
    refine s_ret (v := .bl (decide ((uniq ws).length = ws.length))) (ev_is (ev_op (ev_lenDc (K := K) (i := 0) (ws := ws) rfl (.inl (sq_of ha)) (by omega) (fun _ => rfl) fun _ _ => ev_var rfl) (ev_len (ev_var rfl) (sq_of ha)) (rv_eq rfl)) ?_) fun H1 x1 => k H1 x1
    refine congrArg V.bl ?_
    rw [List.length_map, Bool.eq_iff_iff, decide_eq_true_eq, decide_eq_true_eq]
    exact ⟨fun z => by injection z with z; omega, fun z => by rw [z]⟩
end
/-! ### tables -/
def kvG (ks : List (Str × V)) : List (Key × V) := ks.map fun p => (Sum.inr p.1, p.2)
def strOfV : V → Str
  | .str t => t
  | _ => ""
def valsG (ks : List (Str × V)) : List Str := ks.map fun p => strOfV p.2
def signsB (ks : List (Str × V)) (al : Str) : Bool := ks.all fun p => isSgnV (.str p.1) al && isSgnV p.2 al
def swapB (ks : List (Str × V)) (al : Str) : Bool := signsB ks al && decide ((uniq (valsG ks)).length = ks.length)
def exchB (ks : List (Str × V)) (al : Str) : Bool := swapB ks al && decide (ks.length = al.length)
/-- what is asked for a table: none, or a dict of which keys are texts -/
inductive Tabl (K : PySem.W.Frag) (H : Hp) (al : Str) : V → Bool → Prop where
  | no {v : V} : (∀ H', Ex H H' → ∃ t, TyX K H' v t ∧ PySem.W.kitOne K t (.type "dict") = some false) → Tabl K H al v false
  | dic {p : Addr} {ks : List (Str × V)} : H p = some (.dK (kvG ks)) → ks.length ≤ 60 → (∀ q ∈ ks, q.1.length ≤ 1000 ∧ Odd H q.2 ∧ LenV q.2) → Tabl K H al (.ref p) (exchB ks al)
theorem Tabl.mono {K : PySem.W.Frag} {H H' : Hp} {al : Str} {v : V} {b : Bool} (x : Ex H H') (h : Tabl K H al v b) : Tabl K H' al v b := by
  cases h with
  | no hn => exact .no fun H2 y => hn H2 (x.trans y)
  | dic hp few each => exact .dic (x _ _ hp) few fun q hq => ⟨(each q hq).1, (each q hq).2.1.mono x, (each q hq).2.2⟩
end K02

set_option Elab.async false
set_option linter.all false
set_option maxRecDepth 100000
set_option maxHeartbeats 4000000
/-! signs.py: is_swap, is_exchange, exchanged -/
namespace K02
open PySem PySem.Spec PyProof.Rows L2 Evl KU
abbrev nSwap : List Str := ["table", "signs", "pairs", "key", "value", "_"]
theorem scSwap : FnScope nSwap ["table", "signs"] (defScope sSwap) := ⟨rfl, rfl, rfl, by decide +kernel, rfl, by decide +kernel, by decide +kernel⟩
theorem scExch : FnScope ["table", "signs"] ["table", "signs"] (defScope sExch) := ⟨rfl, rfl, rfl, by decide +kernel, rfl, by decide +kernel, by decide +kernel⟩
theorem scExd : FnScope ["text", "table", "sign"] ["text", "table"] (defScope sExd) := ⟨rfl, rfl, rfl, by decide +kernel, rfl, by decide +kernel, by decide +kernel⟩
inductive TablS (K : PySem.W.Frag) (H : Hp) (al : Str) : V → Bool → Prop where
  | no {v : V} : (∀ H', Ex H H' → ∃ t, TyX K H' v t ∧ PySem.W.kitOne K t (.type "dict") = some false) → TablS K H al v false
  | dic {p : Addr} {ks : List (Str × V)} : H p = some (.dK (kvG ks)) → ks.length ≤ 60 → (∀ q ∈ ks, q.1.length ≤ 1000 ∧ Odd H q.2 ∧ LenV q.2) → TablS K H al (.ref p) (swapB ks al)
def spSwap (K : PySem.W.Frag) : Sp := fun vs H Q _ => ∃ (v : V) (al : Str) (b : Bool), vs = [v, .str al] ∧ TablS K H al v b ∧ RetV (.bl b) H Q
def spExch (K : PySem.W.Frag) : Sp := fun vs H Q _ => ∃ (v : V) (al : Str) (b : Bool), vs = [v, .str al] ∧ al.length ≤ 1000 ∧ Tabl K H al v b ∧ RetV (.bl b) H Q
theorem paired_map {α β γ : Type} {F : α → γ → Prop} {g : β → γ} : ∀ {xs : List α} {ys : List β}, Paired (fun a b => F a (g b)) xs ys → Paired F xs (ys.map g)
  | _, _, .nil => .nil
  | _, _, .cons h t => .cons h (paired_map t)
theorem paired_imp {α β : Type} {F G : α → β → Prop} : ∀ {xs : List α} {ys : List β}, Paired F xs ys → (∀ a b, F a b → G a b) → Paired G xs ys
  | _, _, .nil, _ => .nil
  | _, _, .cons h t, i => .cons (i _ _ h) (paired_imp t i)
theorem ev_allB {K : PySem.W.Frag} {σ : L2.St} {H : Hp} {tl : TE} {α : Type} {ks : List α} {p : α → Bool} (h : EvL tl σ H (ks.map fun q => V.bl (p q))) : Ev (tCB (rAll K) (tCons tl tNil)) σ H (.bl (ks.all p)) := by
  have z := ev_allN (K := K) (bs := ks.map p) (by rw [List.map_map]; exact h)
  rw [List.all_map] at z
  exact z
section
variable {P : Program} {w : World} {K : PySem.W.Frag} {mg : Str → Option Value} {base : Heap}
theorem ok_swap {f fS fU : Addr} {fd fdS fdU : FuncData} (F : Fun K "is_swap" "is_swap" sSwap f fd) (T : Free mg) (gD : mg "dict" = none) (GS : FnOk P w K mg base CX0 1 fS fdS ["value", "signs"] spIsSgn) (bS : Binds K fdS ["value", "signs"] []) (gS : mg "is_sign" = some (.ref fS)) (kS : PySem.W.keepIn K (.ref fS) = true)
    (GU : FnOk P w K mg base CX0 1 fU fdU ["words"] spUnl) (bU : Binds K fdU ["words"] []) (gU : mg "are_unlike" = some (.ref fU)) (kU : PySem.W.keepIn K (.ref fU) = true) : FnOk P w K mg base CX0 2 f fd ["table", "signs"] (spSwap K) := by
  refine F.ok scSwap (fun vs H Q E h => ?_) (fun cdv A outer s H vs Q E hr h => ?_)
  · obtain ⟨_, _, _, rfl, _⟩ := h
    rfl
  · obtain ⟨v, al, b, rfl, tb, k⟩ := h
    have nd := scSwap.nd
    refine ⟨_, pss_cons (ps_if (pt_not (pt_val (pe_callB call_isi (by rfl) T.isinstance (by decide +kernel) (pa_cons (pv 0) (pa_cons (pe_bltn (v := .ty "dict") (by rfl) gD (by decide +kernel) rfl) pa_nil))))) (pss_one (ps_ret pe_bl)) pss_nil)
      (pss_cons (ps_set (i := 2) nd rfl (.inl rfl) (LiI.pe_listItems rfl (pv 0) (by rfl) T.list (by decide +kernel)))
      (pss_cons (ps_if (pt_not (pt_val (pe_callB (cr_all rfl) (by rfl) T.all (by decide +kernel) (pa_cons (pe_lc (own := [("key", 3), ("value", 4)]) (wi := iList K (tVar 2)) (g := gTup K 2 (gCons (gName 3) (gCons (gName 4) gNil))) (tt := tYes) rfl nd (by exact pi_list (pv 2)) (by refine blkOk_by (own := [("key", 3), ("value", 4)]) (N := nSwap) (sc := defScope sSwap) ?_; decide +kernel)
        (fun _ _ _ _ _ => (pg_tup (by rfl) (pgs_cons (pg_name (i := 3) nd rfl (Or.inl rfl)) (pgs_cons (pg_name (i := 4) nd rfl (Or.inl rfl)) pgs_nil)))) (fun _ _ _ _ _ => pts_nil) (fun _ _ _ _ _ => pe_and (pe_call GS hr (by rfl) gS kS bS .nil pass0 (pa_cons (pv 3) (pa_cons (pv 1) pa_nil))) (pe_one (pe_call GS hr (by rfl) gS kS bS .nil pass0 (pa_cons (pv 4) (pa_cons (pv 1) pa_nil)))))) pa_nil)))) (pss_one (ps_ret pe_bl)) pss_nil)
      (pss_one (ps_ret (pe_call GU hr (by rfl) gU kU bU .nil pass0 (pa_cons (pe_lc (own := [("_", 5), ("value", 4)]) (wi := iList K (tVar 2)) (g := gTup K 2 (gCons (gName 5) (gCons (gName 4) gNil))) (tt := tYes) rfl nd (by exact pi_list (pv 2)) (by refine blkOk_by (own := [("_", 5), ("value", 4)]) (N := nSwap) (sc := defScope sSwap) ?_; decide +kernel)
        (fun _ _ _ _ _ => (pg_tup (by rfl) (pgs_cons (pg_name (i := 5) nd rfl (Or.inl rfl)) (pgs_cons (pg_name (i := 4) nd rfl (Or.inl rfl)) pgs_nil)))) (fun _ _ _ _ _ => pts_nil) (fun _ _ _ _ _ => (pv 4))) pa_nil)))))), ?_⟩
    cases tb with
    | no hn =>
      have isD : Ev (tCB (rIsi K) (tCons (tVar 0) (tCons (tC (.ty "dict")) tNil))) (start nSwap [v, .str al]) H (.bl false) := ev_cb (ea_cons (ev_var rfl) (ea_cons ev_c ea_nil)) fun H1 x1 Q1 q1 => by
        obtain ⟨t, ty, e⟩ := hn H1 x1
        exact ⟨v, _, t, _, false, rfl, .ty "dict", ty, e, q1 H1 (Ex.refl _)⟩
      exact q_when (b := true) (et_is (et_not (et_B isD)) rfl) (fun _ H1 x1 => s_ret ev_c fun H2 x2 => k H2 (x1.trans x2)) fun z => by cases z
    | @dic p ks hp few each =>
      have isD : Ev (tCB (rIsi K) (tCons (tVar 0) (tCons (tC (.ty "dict")) tNil))) (start nSwap [.ref p, .str al]) H (.bl true) := ev_cb (ea_cons (ev_var rfl) (ea_cons ev_c ea_nil)) fun H1 x1 Q1 q1 =>
        ⟨.ref p, _, _, _, true, rfl, .ty "dict", bty_tyx (.dic (x1 _ _ hp)), kit_ty (by decide +kernel), q1 H1 (Ex.refl _)⟩
      refine q_when (b := false) (et_is (et_not (et_B isD)) rfl) (fun z => by cases z) fun _ H1 x1 => ?_
      refine ⟨_, rfl, p, kvG ks, rfl, x1 _ _ hp, fun H2 l ts x2 hl nts nin el pr => ?_⟩
      have x2' : Ex H1 H2 := x2
      have x12 := x1.trans x2'
      have lt : ts.length = ks.length := by
        rw [Paired.length pr]
        unfold kvG
        rw [List.length_map]
      have pr2 : Paired (fun (t : Addr) (q : V × V) => H2 t = some (.tup [q.1, q.2])) ts (ks.map fun q => (V.str q.1, q.2)) := by
        have e : (ks.map fun q => (V.str q.1, q.2)) = (kvG ks).map fun q => (kV q.1, q.2) := by
          unfold kvG
          rw [List.map_map]
          rfl
        rw [e]
        exact paired_map pr
      refine (?_ : tSeq _ _ _ [some (.ref p), some (.str al), some (.ref l), none, none, none] H2)
      have one := el_pairs (K := K) (σ := [some (.ref p), some (.str al), some (.ref l), none, none, none]) (H := H2) (tl := tVar 2) (i := 3) (j := 4) (vs := [3, 4]) (te := tAndV (tCall spIsSgn [] E0 (tCons (tVar 3) (tCons (tVar 1) tNil))) (tCall spIsSgn [] E0 (tCons (tVar 4) (tCons (tVar 1) tNil))))
        (fun q => .bl (isSgnV q.1 al && isSgnV q.2 al)) (ev_var rfl) el pr2 (by omega) (fun _ _ => rfl) (fun q hq H3 x3 => by
          obtain ⟨q0, m0, rfl⟩ := List.mem_map.mp hq
          obtain ⟨e1, e2, e3⟩ := each q0 m0
          exact ev_andV (ev_call (ea_cons (ev_var rfl) (ea_cons (ev_var rfl) ea_nil)) fun H4 x4 Q4 q4 E4 => ⟨_, al, rfl, .str _, fun u z => by cases z; exact e1, q4⟩) fun _ =>
            ev_call (ea_cons (ev_var rfl) (ea_cons (ev_var rfl) ea_nil)) fun H4 x4 Q4 q4 E4 => ⟨_, al, rfl, e2.mono (x12.trans (x3.trans x4)), e3, q4⟩)
      rw [List.map_map] at one
      have allE := ev_allB (K := K) (p := fun q : Str × V => isSgnV (.str q.1) al && isSgnV q.2 al) one
      refine q_when (b := !signsB ks al) (et_not (et_B allE)) (fun hb H3 x3 => ?_) fun hb H3 x3 => ?_
      · refine s_ret (v := .bl (swapB ks al)) (ev_is ev_c ?_) fun H4 x4 => k H4 (x12.trans (x3.trans x4))
        unfold swapB
        have : signsB ks al = false := by simpa using hb
        rw [this]
        rfl
      · have ok : signsB ks al = true := by simpa using hb
        have two := el_pairs (K := K) (σ := [some (.ref p), some (.str al), some (.ref l), none, none, none]) (H := H3) (tl := tVar 2) (i := 5) (j := 4) (vs := [5, 4]) (te := tVar 4)
          (fun q => q.2) (ev_var rfl) (x3 _ _ el) (paired_imp pr2 fun t q h => x3 _ _ h) (by omega) (fun _ _ => rfl) (fun q hq H4 x4 => ev_var rfl)
        have ev : (ks.map fun q => (V.str q.1, q.2)).map (fun q => q.2) = (valsG ks).map V.str := by
          unfold valsG
          rw [List.map_map, List.map_map]
          refine List.map_congr_left fun q hq => ?_
          have := List.all_eq_true.mp ok q hq
          rw [Bool.and_eq_true] at this
          show q.2 = V.str (strOfV q.2)
          cases h : q.2 with
          | str t => rfl
          | _ =>
            rw [h] at this
            exact absurd this.2 (by unfold isSgnV; exact fun z => by cases z)
        rw [ev] at two
        have vl : (valsG ks).length = ks.length := List.length_map _
        unfold tRet tCall tCons
        refine two H3 (Ex.refl _) _ fun l2 H4 hl2 x4 e4 => ?_
        refine ⟨l2, valsG ks, rfl, e4, by omega, fun H5 x5 => ?_⟩
        have e : swapB ks al = decide ((uniq (valsG ks)).length = (valsG ks).length) := by
          unfold swapB
          rw [ok, Bool.true_and, vl]
        rw [← e]
        exact k H5 (x12.trans (x3.trans (x4.trans x5)))
theorem ok_exch {f fW : Addr} {fd fdW : FuncData} (F : Fun K "is_exchange" "is_exchange" sExch f fd) (T : Free mg) (GW : FnOk P w K mg base CX0 2 fW fdW ["table", "signs"] (spSwap K)) (bW : Binds K fdW ["table", "signs"] []) (gW : mg "is_swap" = some (.ref fW)) (kW : PySem.W.keepIn K (.ref fW) = true) :
    FnOk P w K mg base CX0 3 f fd ["table", "signs"] (spExch K) := by
  refine F.ok scExch (fun vs H Q E h => ?_) (fun cdv A outer s H vs Q E hr h => ?_)
  · obtain ⟨_, _, _, rfl, _⟩ := h
    rfl
  · obtain ⟨v, al, b, rfl, hal, tb, k⟩ := h
    cases tb with
    | @no v hn =>
      refine ⟨_, pss_one (ps_ret (pe_and (pe_call GW hr (by rfl) gW kW bW .nil pass0 (pa_cons (pv 0) (pa_cons (pv 1) pa_nil))) (pe_one (pe_cmpR op_eq (pe_callB call_lenD (by rfl) T.len PySem.boot_len (pa_cons (pv 0) pa_nil)) (pe_callB call_len_str (by rfl) T.len PySem.boot_len (pa_cons (pv 1) pa_nil)) (nomark _))))), ?_⟩
      exact s_ret (ev_is (ev_andV (b := false) (ev_call (ea_cons (ev_var rfl) (ea_cons (ev_var rfl) ea_nil)) fun H1 x1 Q1 q1 E1 => ⟨v, al, false, rfl, .no fun H' x' => hn H' (x1.trans x'), q1⟩) fun z => by cases z) rfl) fun H1 x1 => k H1 x1
    | @dic p ks hp few each =>
      refine ⟨_, pss_one (ps_ret (pe_and (pe_call GW hr (by rfl) gW kW bW .nil pass0 (pa_cons (pv 0) (pa_cons (pv 1) pa_nil))) (pe_one (pe_cmpR op_eq (pe_callB call_lenD (by rfl) T.len PySem.boot_len (pa_cons (pv 0) pa_nil)) (pe_callB call_len_str (by rfl) T.len PySem.boot_len (pa_cons (pv 1) pa_nil)) (nomark _))))), ?_⟩
      have lk : (kvG ks).length = ks.length := List.length_map _
      refine s_ret (v := .bl (exchB ks al)) (ev_is (ev_andV (a := swapB ks al) (b := decide (V.int (ks.length : Int) = V.int (al.length : Int))) (ev_call (ea_cons (ev_var rfl) (ea_cons (ev_var rfl) ea_nil)) fun H1 x1 Q1 q1 E1 => ⟨_, al, _, rfl, .dic (x1 _ _ hp) few fun q hq => ⟨(each q hq).1, (each q hq).2.1.mono x1, (each q hq).2.2⟩, q1⟩)
        fun _ => ev_op (ev_cb (z := .int (ks.length : Int)) (ea_cons (ev_var rfl) ea_nil) fun H1 x1 Q1 q1 => ⟨p, kvG ks, rfl, x1 _ _ hp, by rw [lk]; exact q1 H1 (Ex.refl _)⟩) (ev_lenS (ev_var rfl) (by rw [sizeLine_eq]; omega)) (rv_eq rfl)) ?_) fun H1 x1 => k H1 x1
      unfold exchB
      refine congrArg (fun z => V.bl (swapB ks al && z)) ?_
      rw [Bool.eq_iff_iff, decide_eq_true_eq, decide_eq_true_eq]
      exact ⟨fun z => by injection z with z; omega, fun z => by rw [z]⟩
end
/-! ### texts exchanged -/
/-- an exchange, as a table tells it -/
def kvC (ps : List (Nat × Nat)) : List (Str × V) := ps.map fun p => (⟨#[p.1]⟩, V.str ⟨#[p.2]⟩)
def fch (ps : List (Nat × Nat)) (c : Nat) : Nat := ((ps.find? fun p => p.1 == c).map (·.2)).getD 0
theorem val_ch {ps : List (Nat × Nat)} {c : Nat} (h : c ∈ ps.map (·.1)) : valV (kvG (kvC ps)) (Sum.inr ⟨#[c]⟩) = some (V.str ⟨#[fch ps c]⟩) := by
  unfold kvG kvC
  rw [List.map_map]
  induction ps with
  | nil => cases h
  | cons p r ih =>
    rw [List.map_cons]
    by_cases e : p.1 = c
    · rw [valV_pos (by show (Sum.inr ⟨#[p.1]⟩ : Key) = _; rw [e])]
      unfold fch
      rw [List.find?_cons, e]
      simp
    · rw [valV_neg (by
        intro z
        have z' : (⟨#[p.1]⟩ : Str) = ⟨#[c]⟩ := Sum.inr.inj z
        have := congrArg (fun t : Str => t.cps.toList) z'
        simp at this
        exact e this)]
      have hr : c ∈ r.map (·.1) := by
        rcases List.mem_cons.mp h with z | z
        · exact absurd z.symm e
        · exact z
      rw [ih hr]
      unfold fch
      rw [List.find?_cons]
      have : (p.1 == c) = false := by simpa using e
      rw [this]
def spExd : Sp := fun vs H Q _ => ∃ (t : Str) (p : Addr) (ps : List (Nat × Nat)), vs = [.str t, .ref p] ∧ H p = some (.dK (kvG (kvC ps))) ∧ t.length ≤ 1000 ∧ (∀ c ∈ t.cps.toList, c ∈ ps.map (·.1)) ∧ RetV (.str (xS (fch ps) t)) H Q
theorem join_one (l : List Nat) : Txt.join "" (l.map fun c => (⟨#[c]⟩ : Str)) = ⟨l.toArray⟩ := by
  refine SJ.s_ext ?_
  show (List.foldl (fun (acc : Array Nat) (p : Str) => acc ++ (#[] : Array Nat) ++ p.cps) ((l.map fun c => (⟨#[c]⟩ : Str)).headD Str.empty).cps (List.drop 1 (l.map fun c => (⟨#[c]⟩ : Str)))).toList = l
  rw [SJ.fold_cps]
  cases l with
  | nil => rfl
  | cons c r =>
    rw [List.map_cons, List.headD_cons, List.drop_succ_cons, List.drop_zero]
    have : ∀ r : List Nat, ((r.map fun c => (⟨#[c]⟩ : Str)).flatMap fun p => (#[] : Array Nat).toList ++ p.cps.toList) = r := fun r => by
      induction r with
      | nil => rfl
      | cons d s ih =>
        rw [List.map_cons, List.flatMap_cons, ih]
        rfl
    rw [this]
    rfl
section
variable {K : PySem.W.Frag} {σ : L2.St} {H : Hp} {te tl : TE} {j : Nat} {vs : List Nat}
theorem el_signsM {z : Str} (φ : Str → V) (hx : Ev tl σ H (.str z)) (hl : z.length ≤ 40000) (hw : ∀ x : V, wipe ((wipe σ vs).set j (some x)) vs = wipe σ vs)
    (he : ∀ (c : Str) (H1 : Hp), Ex H H1 → c ∈ signsL z → Ev te ((wipe σ vs).set j (some (.str c))) H1 (φ c)) : EvL (tLc (iStr tl) (gName j) tYes te vs) σ H ((signsL z).map φ) := by
  have e := given_fm ((signsL z).map V.str) (fun _ => true) (onS φ)
  rw [all_str, List.map_map] at e
  have e2 : List.map (onS φ ∘ V.str) (signsL z) = (signsL z).map φ := rfl
  rw [e2] at e
  have e3 : given ((signsL z).map V.str).length (fun i => orNo (fun _ => true) ((signsL z).map V.str)[i]?) (fun i => orNon (onS φ) ((signsL z).map V.str)[i]?) = given ((signsL z).map V.str).length (fun _ => true) (fun i => orNon (onS φ) ((signsL z).map V.str)[i]?) := by
    unfold given
    refine congrArg (List.map _) (List.filter_congr fun i hi => ?_)
    rw [List.getElem?_eq_getElem (List.mem_range.mp hi)]
    rfl
  rw [← e, e3]
  intro H1 x1 Q q
  refine hx H1 x1 _ fun H2 x2 => ⟨z, rfl, fun D hD => ?_⟩
  have ll : ((signsL z).map V.str).length = z.length := by
    rw [List.length_map, signsL, List.length_map]
    rfl
  refine lc_cw walk_signsG (fun _ _ => trivial) (by rw [ll]; exact hl) _ _ hw (fun i x H3 x3 _ => et_yes) (fun i x H3 x3 e _ => ?_) (x1.trans x2) hD fun p H3 hp x3 e => q p H3 (fresh_back x2 hp) (x2.trans x3) e
  rw [e]
  obtain ⟨c, mc, rfl⟩ := List.mem_map.mp (List.mem_of_getElem? e)
  exact he c H3 x3 mc
theorem ev_joinL {s : Str} {ws : List Str} (h : EvL te σ H (ws.map V.str)) (small : (ws.map (·.length)).sum + ws.length * s.length ≤ 16777216) : Ev (tM1 (rJoin K) (tC (.str s)) te) σ H (.str (Txt.join s ws)) :=
  ev_join (fun H1 x1 Q q => h H1 x1 Q fun p H2 hp x2 e => q _ H2 x2 ⟨p, rfl, e⟩) small
theorem ev_dget {p : Addr} {kvs : List (Key × V)} {k : Key} {v : V} {ta tb : TE} (ha : Ev ta σ H (.ref p)) (hb : Ev tb σ H (kV k)) (hp : H p = some (.dK kvs)) (hv : valV kvs k = some v) : Ev (tDGet ta tb) σ H v := fun H1 x1 Q q =>
  ha H1 x1 _ fun H2 x2 => hb H2 (x1.trans x2) _ fun H3 x3 => ⟨p, v, rfl, by
    have g := DGet.k (k := k) ((x1.trans (x2.trans x3)) _ _ hp)
    rw [hv] at g
    exact g, q H3 (x2.trans x3)⟩
/-- the signs of a text, exchanged and joined -/
theorem ev_xch {p : Addr} {ps : List (Nat × Nat)} {t : Str} {a j : Nat} (ht : Ev tl σ H (.str t)) (hp : H p = some (.dK (kvG (kvC ps)))) (tlen : t.length ≤ 1000) (hc : ∀ c ∈ t.cps.toList, c ∈ ps.map (·.1)) (hw : ∀ x : V, wipe ((wipe σ vs).set j (some x)) vs = wipe σ vs)
    (hj : ∀ x : V, ((wipe σ vs).set j (some x))[j]? = some (some x)) (ha : ∀ x : V, ((wipe σ vs).set j (some x))[a]? = some (some (.ref p))) : Ev (tM1 (rJoin K) (tC (.str "")) (tLc (iStr tl) (gName j) tYes (tDGet (tVar a) (tVar j)) vs)) σ H (.str (xS (fch ps) t)) := by
  have z := el_signsM (te := tDGet (tVar a) (tVar j)) (j := j) (vs := vs) (fun c => .str ⟨#[fch ps (c.cps.toList.headD 0)]⟩) ht (by omega) hw (fun c H1 x1 mc => by
    obtain ⟨d, hd, rfl⟩ := List.mem_map.mp mc
    exact ev_dget (k := Sum.inr ⟨#[d]⟩) (ev_var (ha _)) (ev_var (hj _)) (x1 _ _ hp) (val_ch (hc d hd)))
  have e : (signsL t).map (fun c => V.str ⟨#[fch ps (c.cps.toList.headD 0)]⟩) = ((t.cps.toList.map (fch ps)).map fun c => (⟨#[c]⟩ : Str)).map V.str := by
    unfold signsL
    rw [List.map_map, List.map_map, List.map_map]
    rfl
  rw [e] at z
  have ll := len_cps t
  have y := ev_joinL (K := K) (s := "") z (by
    have s1 := sum_bound (fun w => w.length) 1 ((t.cps.toList.map (fch ps)).map fun c => (⟨#[c]⟩ : Str)) fun w hw => by
      obtain ⟨c, _, rfl⟩ := List.mem_map.mp hw
      exact Nat.le_refl 1
    rw [List.length_map, List.length_map, ll] at s1 ⊢
    have s2 : (((t.cps.toList.map (fch ps)).map fun c => (⟨#[c]⟩ : Str)).map (·.length)).sum ≤ 1 * t.length := s1
    have : ("" : Str).length = 0 := rfl
    rw [this]
    omega)
  rw [join_one] at y
  exact y
end
section
variable {P : Program} {w : World} {K : PySem.W.Frag} {mg : Str → Option Value} {base : Heap}
theorem ok_exd {f : Addr} {fd : FuncData} (F : Fun K "exchanged" "exchanged" sExd f fd) : FnOk P w K mg base CX0 1 f fd ["text", "table"] spExd := by
  refine F.ok scExd (fun vs H Q E h => ?_) (fun cdv A outer s H vs Q E hr h => ?_)
  · obtain ⟨_, _, _, rfl, _⟩ := h
    rfl
  · obtain ⟨t, p, ps, rfl, hp, tl, hc, k⟩ := h
    have nd := scExd.nd
    refine ⟨_, pss_one (ps_ret (pe_join pe_str (pe_lc (own := [("sign", 2)]) (wi := iStr (tVar 0)) (g := gName 2) (tt := tYes) rfl nd (by exact pi_str (pv 0)) (by refine blkOk_by (own := [("sign", 2)]) (N := ["text", "table", "sign"]) (sc := defScope sExd) ?_; decide +kernel)
      (fun _ _ _ _ _ => pg_name (i := 2) nd rfl (Or.inl rfl)) (fun _ _ _ _ _ => pts_nil) (fun _ _ _ _ _ => pe_dget (hu_of hr) (pv 1) (pv 2) (fun _ _ => rfl))))), ?_⟩
    exact s_ret (ev_xch (K := K) (ev_var rfl) hp tl hc (fun _ => rfl) (fun _ => rfl) (fun _ => rfl)) fun H1 x1 => k H1 x1
end
end K02

set_option Elab.async false
set_option linter.all false
set_option maxRecDepth 100000
set_option maxHeartbeats 4000000
/-! bars.py: changed; the law's own tables and texts -/
namespace K02
open PySem PySem.Spec PyProof.Rows L2 Evl KU
theorem inS_sgn {c : Nat} {al : Str} : inS ⟨#[c]⟩ al = true ↔ c ∈ al.cps.toList := by
  rw [inS_iff (by simp)]
  show [c] <:+: al.cps.toList ↔ _
  constructor
  · intro h
    exact h.subset (by simp)
  · intro h
    obtain ⟨s, r, e⟩ := List.append_of_mem h
    exact ⟨s, r, by rw [e]; simp⟩
theorem nd_idx {α : Type} : ∀ {l : List α} {i j : Nat} {x : α}, l.Nodup → l[i]? = some x → l[j]? = some x → i = j
  | [], i, _, _, _, h, _ => by simp at h
  | a :: r, 0, 0, _, _, _, _ => rfl
  | a :: r, 0, j + 1, x, nd, h1, h2 => by
    rw [List.nodup_cons] at nd
    have e : a = x := by simpa using h1
    rw [List.getElem?_cons_succ] at h2
    rw [e] at nd
    exact absurd (List.mem_of_getElem? h2) nd.1
  | a :: r, i + 1, 0, x, nd, h1, h2 => by
    rw [List.nodup_cons] at nd
    have e : a = x := by simpa using h2
    rw [List.getElem?_cons_succ] at h1
    rw [e] at nd
    exact absurd (List.mem_of_getElem? h1) nd.1
  | a :: r, i + 1, j + 1, x, nd, h1, h2 => by
    rw [List.nodup_cons] at nd
    rw [List.getElem?_cons_succ] at h1 h2
    rw [nd_idx nd.2 h1 h2]
theorem perm_erase {α : Type} : ∀ {l : List α} {d : Nat} (h : d < l.length), (l[d] :: l.eraseIdx d).Perm l
  | a :: r, 0, _ => List.Perm.refl _
  | a :: r, d + 1, h => by
    have h' : d < r.length := by simpa using h
    show (r[d] :: a :: r.eraseIdx d).Perm (a :: r)
    exact (List.Perm.swap _ _ _).trans ((perm_erase h').cons a)
theorem map_erase {α β : Type} (f : α → β) : ∀ (l : List α) (d : Nat), (l.map f).eraseIdx d = (l.eraseIdx d).map f
  | [], _ => rfl
  | a :: r, 0 => rfl
  | a :: r, d + 1 => by
    show f a :: (r.map f).eraseIdx d = f a :: (r.eraseIdx d).map f
    rw [map_erase f r d]
/-- an exchange of all signs -/
structure XT (al : Str) (ps : List (Nat × Nat)) : Prop where
  keys : (ps.map (·.1)).Perm al.cps.toList
  vals : (ps.map (·.2)).Perm al.cps.toList
  nd : al.cps.toList.Nodup
theorem fch_mem {ps : List (Nat × Nat)} {c : Nat} (h : c ∈ ps.map (·.1)) : (c, fch ps c) ∈ ps := by
  unfold fch
  cases e : ps.find? fun p => p.1 == c with
  | none =>
    obtain ⟨p, hp, rfl⟩ := List.mem_map.mp h
    have := List.find?_eq_none.mp e p hp
    simp at this
  | some p =>
    have h1 := List.find?_some e
    have h2 := List.mem_of_find?_eq_some e
    have : p.1 = c := by simpa using h1
    show (c, p.2) ∈ ps
    rw [← this]
    exact h2
theorem two_vals : ∀ {ps : List (Nat × Nat)} {a b v : Nat}, (ps.map (·.2)).Nodup → (a, v) ∈ ps → (b, v) ∈ ps → a = b
  | [], _, _, _, _, h, _ => by cases h
  | p :: r, a, b, v, nd, ha, hb => by
    rw [List.map_cons, List.nodup_cons] at nd
    rcases List.mem_cons.mp ha with e1 | h1
    · rcases List.mem_cons.mp hb with e2 | h2
      · rw [← e2] at e1
        exact (Prod.mk.inj e1).1
      · exact absurd (List.mem_map.mpr ⟨_, h2, by rw [← e1]⟩) nd.1
    · rcases List.mem_cons.mp hb with e2 | h2
      · exact absurd (List.mem_map.mpr ⟨_, h1, by rw [← e2]⟩) nd.1
      · exact two_vals nd.2 h1 h2
theorem fch_of {ps : List (Nat × Nat)} {a b : Nat} (nd : (ps.map (·.1)).Nodup) (h : (a, b) ∈ ps) : fch ps a = b := by
  have m := fch_mem (ps := ps) (c := a) (List.mem_map.mpr ⟨_, h, rfl⟩)
  have sw : ∀ {ps : List (Nat × Nat)} {a x y : Nat}, (ps.map (·.1)).Nodup → (a, x) ∈ ps → (a, y) ∈ ps → x = y := fun {ps a x y} nd h1 h2 => by
    have nd' : ((ps.map fun p => (p.2, p.1)).map (·.2)).Nodup := by
      rw [List.map_map]
      exact nd
    exact two_vals nd' (List.mem_map.mpr ⟨_, h1, rfl⟩) (List.mem_map.mpr ⟨_, h2, rfl⟩)
  exact sw nd m h
theorem XT.xch {al : Str} {ps : List (Nat × Nat)} (X : XT al ps) : Xch al (fch ps) := by
  refine ⟨fun a ha b hb e => ?_, fun a ha => ?_⟩
  · have h1 := fch_mem (X.keys.mem_iff.mpr ha)
    have h2 := fch_mem (X.keys.mem_iff.mpr hb)
    rw [e] at h1
    exact two_vals (X.vals.nodup_iff.mpr X.nd) h1 h2
  · exact X.vals.mem_iff.mp (List.mem_map.mpr ⟨_, fch_mem (X.keys.mem_iff.mpr ha), rfl⟩)
theorem XT.len {al : Str} {ps : List (Nat × Nat)} (X : XT al ps) : ps.length = al.length := by
  have := X.keys.length_eq
  rw [List.length_map, len_cps] at this
  exact this
theorem sgn_one {c : Nat} {al : Str} (h : c ∈ al.cps.toList) : isSgnV (.str ⟨#[c]⟩) al = true := by
  unfold isSgnV
  simp only [Bool.and_eq_true, decide_eq_true_eq]
  exact ⟨rfl, inS_sgn.mpr h⟩
theorem one_inj {a b : Nat} (h : (⟨#[a]⟩ : Str) = ⟨#[b]⟩) : a = b := by
  have := congrArg (fun t : Str => t.cps.toList) h
  simpa using this
theorem XT.exch {al : Str} {ps : List (Nat × Nat)} (X : XT al ps) : exchB (kvC ps) al = true := by
  have lk : (kvC ps).length = ps.length := List.length_map _
  unfold exchB swapB signsB
  rw [Bool.and_eq_true, Bool.and_eq_true, List.all_eq_true, decide_eq_true_eq, decide_eq_true_eq, lk]
  refine ⟨⟨fun q hq => ?_, ?_⟩, X.len⟩
  · obtain ⟨p, hp, rfl⟩ := List.mem_map.mp hq
    rw [Bool.and_eq_true]
    exact ⟨sgn_one (X.keys.mem_iff.mp (List.mem_map.mpr ⟨p, hp, rfl⟩)), sgn_one (X.vals.mem_iff.mp (List.mem_map.mpr ⟨p, hp, rfl⟩))⟩
  · have nd : (valsG (kvC ps)).Nodup := by
      have e : valsG (kvC ps) = (ps.map (·.2)).map fun c => (⟨#[c]⟩ : Str) := by
        unfold valsG kvC
        rw [List.map_map, List.map_map]
        rfl
      rw [e]
      exact List.pairwise_map.mpr ((X.vals.nodup_iff.mpr X.nd).imp fun ne e => ne (one_inj e))
    rw [(uniq_nodup nd).length_eq]
    unfold valsG
    rw [List.length_map, lk]
theorem kvC_fine {H : Hp} {ps : List (Nat × Nat)} : ∀ q ∈ kvC ps, q.1.length ≤ 1000 ∧ Odd H q.2 ∧ LenV q.2 := fun q hq => by
  obtain ⟨p, _, rfl⟩ := List.mem_map.mp hq
  exact ⟨by show 1 ≤ 1000; decide, .str _, fun t e => by cases e; show 1 ≤ 1000; decide⟩
theorem alphas_nd : ∀ al ∈ alphas, al.cps.toList.Nodup := by decide +kernel
/-! ### changed -/
abbrev nChg : List Str := ["self", "table", "words", "word"]
theorem scChg : FnScope nChg ["self", "table"] (defScope (meth 12)) := ⟨rfl, rfl, rfl, by decide +kernel, rfl, by decide +kernel, by decide +kernel⟩
def spChg (C : Addr) : Sp := fun vs H Q _ => ∃ (a p : Addr) (al : Str) (ys es : List Str) (ps : List (Nat × Nat)) (n : Nat), vs = [.ref a, .ref p] ∧ BarsAt C H a al ys es ∧ H p = some (.dK (kvG (kvC ps))) ∧ XT al ps ∧ Wd al ys n ∧
  ∀ v H', Ex H H' → IsB C al (leastS (ys.map (xS (fch ps)))) v H' → Q v H'
def spChgX (K : PySem.W.Frag) (C CO : Addr) : Sp := fun vs H _ E => ∃ (a : Addr) (v : V) (al : Str) (ys es : List Str), vs = [.ref a, v] ∧ BarsAt C H a al ys es ∧ Tabl K H al v false ∧ RaiseV CO "part" (.str "table") H E
section
variable {P : Program} {w : World} {K : PySem.W.Frag} {mg : Str → Option Value} {base : Heap} {C CO : Addr}
theorem ok_chg {f fI fX fE : Addr} {fd fdX fdE : FuncData} (F : Fun K "changed" "Bars.changed" (meth 12) f fd) (CB : ClsI K mg C) (M : Mk K C fI) (FI : FnR P w K mg base CX0 4 fI (spB C))
    (GX : FnOk P w K mg base CX0 3 fX fdX ["table", "signs"] (spExch K)) (bX : Binds K fdX ["table", "signs"] []) (gX : mg "is_exchange" = some (.ref fX)) (kX : PySem.W.keepIn K (.ref fX) = true)
    (GE : FnOk P w K mg base CX0 1 fE fdE ["text", "table"] spExd) (bE : Binds K fdE ["text", "table"] []) (gE : mg "exchanged" = some (.ref fE)) (kE : PySem.W.keepIn K (.ref fE) = true) : FnOk P w K mg base CX0 6 f fd ["self", "table"] (spChg C) := by
  refine F.ok scChg (fun vs H Q E h => ?_) (fun cdv A outer s H vs Q E hr h => ?_)
  · obtain ⟨_, _, _, _, _, _, _, rfl, _⟩ := h
    rfl
  · obtain ⟨a, p, al, ys, es, ps, n, rfl, B, hp, X, W, k⟩ := h
    have nd := scChg.nd
    obtain ⟨dx, Wa, N, L, zz, O, h1, h2, h3, h4, h5⟩ := B.at_
    obtain ⟨hA, al2, al4, chars, npq⟩ := alpha_facts al W.drawn
    have yf := B.few
    refine ⟨_, pss_cons (ps_if (pt_not (pt_val (pe_call GX (hr.mono (by decide)) (by rfl) gX kX bX .nil pass0 (pa_cons (pv 1) (pa_cons (pe_fld (pv 0) rfl) pa_nil))))) (pss_one ps_never) pss_nil)
      (pss_cons (ps_setLc (i := 2) (own := [("word", 3)]) (g := gName 3) (tt := tYes) rfl nd rfl rfl (sw_true rfl rfl rfl (by decide +kernel)) (pi_tup (pe_fld (pv 0) rfl)) (blkOk_by (own := [("word", 3)]) (N := nChg) (sc := defScope (meth 12)) (by decide +kernel))
        (fun _ _ _ _ _ => pg_name (i := 3) nd rfl (Or.inl rfl)) (fun _ _ _ _ _ => pts_nil) (fun _ _ _ _ _ => pe_call GE (hr.mono (by decide)) (by rfl) gE kE bE .nil pass0 (pa_cons (pv 3) (pa_cons (pv 1) pa_nil))))
      (pss_one (ps_ret (pe_makeS M FI hr (by rfl) CB.gB pass0 (pa_cons (pe_fld (pv 0) rfl) (StX.pa_star (pv 2) pa_nil)))))), ?_⟩
    have isX : Ev (tCall (spExch K) [] E0 (tCons (tVar 1) (tCons (tFld K (tVar 0) "signs") tNil))) (start nChg [.ref a, .ref p]) H (.bl true) := ev_call (ea_cons (ev_var rfl) (ea_cons (ev_fld (K := K) (te := tVar 0) (ev_var rfl) h1 CB.toCls CB.nSigns rfl) ea_nil)) fun H1 x1 Q1 q1 E1 =>
      ⟨.ref p, al, true, rfl, by omega, by rw [← X.exch]; exact .dic (x1 _ _ hp) (by unfold kvC; rw [List.length_map, X.len]; omega) kvC_fine, q1⟩
    refine q_when (b := false) (et_is (et_not (et_B isX)) rfl) (fun z => by cases z) fun _ H1 x1 => ?_
    have keyed : ∀ t ∈ ys, ∀ c ∈ t.cps.toList, c ∈ ps.map (·.1) := fun t ht c hc => X.keys.mem_iff.mpr (W.few.over t ht c hc)
    have z := el_fmT (K := K) (σ := start nChg [.ref a, .ref p]) (H := H1) (te := tCall spExd [] E0 (tCons (tVar 3) (tCons (tVar 1) tNil))) (tl := tFld K (tVar 0) "words") (j := 3) (vs := [3]) (t := tYes)
      (a := Wa) (xs := ys.map V.str) (fun _ => true) (onS fun t => .str (xS (fch ps) t)) (ev_fld (K := K) (te := tVar 0) (ev_var rfl) (x1 _ _ h1) CB.toCls CB.nWords rfl) (st_of (x1 _ _ h2)) (by rw [List.length_map]; omega) (fun _ => rfl) (fun _ _ _ _ => et_yes) (fun v H3 x3 mv _ => by
        obtain ⟨t, mt, rfl⟩ := mem_str mv
        exact ev_call (ea_cons (ev_var rfl) (ea_cons (ev_var rfl) ea_nil)) fun H4 x4 Q4 q4 E4 => ⟨t, p, ps, rfl, (x1.trans (x3.trans x4)) _ _ hp, (W.few.words t mt).2.1, keyed t mt, q4⟩)
    have e : List.map (onS fun t => .str (xS (fch ps) t)) (List.filter (fun _ => true) (ys.map V.str)) = (ys.map (xS (fch ps))).map V.str := by
      rw [all_str, List.map_map, List.map_map]
      rfl
    rw [e] at z
    refine q_asgL z fun q H2 hq x2 e2 => ?_
    have fit : Fit al (ys.map (xS (fch ps))) := (W.x X.xch).fit (fun t ht => ht) (by rw [List.length_map]; have := W.len; omega)
    have m := mk_bars (C := C) (E := E0) (Q := Q) (H := H2) (ws := ys.map (xS (fch ps))) (al := al) (t := tCons (tFld K (tVar 0) "signs") (StX.tStar K (tVar 2) tNil)) (σ := [some (.ref a), some (.ref p), some (.ref q), none]) ?_ (by omega) hA fit
      fun x us gs H' hx x3 p1 p2 p3 p4 p5 => k _ H' (x1.trans (x2.trans x3)) ⟨x, rfl, is_of rfl p1 p2 p3 p4 p5⟩
    · exact m
    · have y := ea_cons (ev_fld (K := K) (σ := [some (.ref a), some (.ref p), some (.ref q), none]) (te := tVar 0) (H := H2) (ev_var rfl) ((x1.trans x2) _ _ h1) CB.toCls CB.nSigns rfl) (ea_star (K := K) (te := tVar 2) (ev_var rfl) (.inr (sq_of e2)) ea_nil)
      rw [List.append_nil] at y
      exact y
theorem ok_chgX {f fX : Addr} {fd fdX : FuncData} (F : Fun K "changed" "Bars.changed" (meth 12) f fd) (CB : ClsI K mg C)
    (GX : FnOk P w K mg base CX0 3 fX fdX ["table", "signs"] (spExch K)) (bX : Binds K fdX ["table", "signs"] []) (gX : mg "is_exchange" = some (.ref fX)) (kX : PySem.W.keepIn K (.ref fX) = true)
    (ZO : Cl P w K mg base "BadBars" CO ["part"] (spI1 K "part")) : FnOk P w K mg base (L2.CX P w) 6 f fd ["self", "table"] (spChgX K C CO) := by
  refine F.okX scChg (fun vs H Q E h => ?_) (fun cdv A outer s H vs Q E hr h => ?_)
  · obtain ⟨_, _, _, _, _, rfl, _⟩ := h
    rfl
  · obtain ⟨a, v, al, ys, es, rfl, B, tb, r⟩ := h
    obtain ⟨dx, Wa, N, L, zz, O, h1, h2, h3, h4, h5⟩ := B.at_
    have sg := B.sg
    refine ⟨_, pss_cons (ps_if (pt_not (pt_val (pe_call GX (hr.mono (by decide)) (by rfl) gX kX bX .nil pass0 (pa_cons (pv 1) (pa_cons (pe_fld (pv 0) rfl) pa_nil))))) (pss_one (ps_raise1 rfl (takes_of rfl rfl rfl rfl) ZO (hr.mono (by decide)) (pa_cons pe_str pa_nil))) pss_nil) pss_never, ?_⟩
    have isX : Ev (tCall (spExch K) [] E0 (tCons (tVar 1) (tCons (tFld K (tVar 0) "signs") tNil))) (start nChg [.ref a, v]) H (.bl false) := ev_call (ea_cons (ev_var rfl) (ea_cons (ev_fld (K := K) (te := tVar 0) (ev_var rfl) h1 CB.toCls CB.nSigns rfl) ea_nil)) fun H1 x1 Q1 q1 E1 =>
      ⟨v, al, false, rfl, by omega, tb.mono x1, q1⟩
    exact q_when (b := true) (et_is (et_not (et_B isX)) rfl) (fun _ H1 x1 => s_raise1 ZO.oex (ZO.no _ List.mem_cons_self) (ea_cons ev_c ea_nil) fun d H2 x2 e2 => r d H2 (x1.trans x2) e2) fun z => by cases z
/-! ### the law's own -/
abbrev sTable : Stmt := topR 50
abbrev sChanged : Stmt := topR 51
abbrev nTable : List Str := ["_law_pen_here", "_law_signs_here", "_law_left", "_law_found", "_law_sign"]
theorem scTable : FnScope nTable ["_law_pen_here", "_law_signs_here"] (defScope sTable) := ⟨rfl, rfl, rfl, by decide +kernel, rfl, by decide +kernel, by decide +kernel⟩
abbrev nChanged : List Str := ["_law_table_here", "_law_text_here", "_law_sign"]
theorem scChanged : FnScope nChanged ["_law_table_here", "_law_text_here"] (defScope sChanged) := ⟨rfl, rfl, rfl, by decide +kernel, rfl, by decide +kernel, by decide +kernel⟩
def spLChg : Sp := fun vs H Q _ => ∃ (p : Addr) (t : Str) (ps : List (Nat × Nat)), vs = [.ref p, .str t] ∧ H p = some (.dK (kvG (kvC ps))) ∧ t.length ≤ 1000 ∧ (∀ c ∈ t.cps.toList, c ∈ ps.map (·.1)) ∧ RetV (.str (xS (fch ps) t)) H Q
theorem ok_lchg {f : Addr} {fd : FuncData} (F : Fun K "_law_changed" "_law_changed" sChanged f fd) : FnOk P w K mg base CX0 1 f fd ["_law_table_here", "_law_text_here"] spLChg := by
  refine F.ok scChanged (fun vs H Q E h => ?_) (fun cdv A outer s H vs Q E hr h => ?_)
  · obtain ⟨_, _, _, rfl, _⟩ := h
    rfl
  · obtain ⟨p, t, ps, rfl, hp, tl, hc, k⟩ := h
    have nd := scChanged.nd
    refine ⟨_, pss_one (ps_ret (pe_join pe_str (pe_lc (own := [("_law_sign", 2)]) (wi := iStr (tVar 1)) (g := gName 2) (tt := tYes) rfl nd (by exact pi_str (pv 1)) (by refine blkOk_by (own := [("_law_sign", 2)]) (N := nChanged) (sc := defScope sChanged) ?_; decide +kernel)
      (fun _ _ _ _ _ => pg_name (i := 2) nd rfl (Or.inl rfl)) (fun _ _ _ _ _ => pts_nil) (fun _ _ _ _ _ => pe_dget (hu_of hr) (pv 0) (pv 2) (fun _ _ => rfl))))), ?_⟩
    exact s_ret (ev_xch (K := K) (ev_var rfl) hp tl hc (fun _ => rfl) (fun _ => rfl) (fun _ => rfl)) fun H1 x1 => k H1 x1
def spTable : Sp := fun vs H Q _ => ∃ (P L : Addr) (ns : List Int) (s : Nat) (g : Int) (al : Str), vs = [.ref P, .str al] ∧ al ∈ alphas ∧ Pen H P L ns s g ∧ s ≤ 90000 ∧
  ∀ (p : Addr) (ps : List (Nat × Nat)) (s' : Nat) (g' : Int) (H' : Hp), XT al ps → H p = none → s' ≤ s + 4 → But P H H' → H' p = some (.dK (kvG (kvC ps))) → Pen H' P L ns s' g' → Q (.ref p) H'
theorem ok_table {f fD fP : Addr} {fd fdD : FuncData} (F : Fun K "_law_table" "_law_table" sTable f fd) (T : Draws K mg fD fP) (FD : Fun K "_law_draw" "_law_draw" sDraw fD fdD) (bD : Binds K fdD ["_law_pen_here", "_law_many"] []) : FnOk P w K mg base CX0 2 f fd ["_law_pen_here", "_law_signs_here"] spTable := by
  have GD : FnOk P w K mg base CX0 1 fD fdD ["_law_pen_here", "_law_many"] spDraw := ok_draw FD T.toFree
  refine F.ok scTable (fun vs H Q E h => ?_) (fun cdv A outer s H vs Q E hr h => ?_)
  · obtain ⟨_, _, _, _, _, _, rfl, _⟩ := h
    rfl
  · obtain ⟨Pn, L, ns, s0, g0, al, rfl, hal, pen, hs, k⟩ := h
    have nd := scTable.nd
    refine ⟨_, pss_cons (ps_par (i := 2) (j := 3) (by rfl) nd rfl rfl (by decide) rfl rfl (pa_cons (pe_callTy (call_listS rfl) (by rfl) T.list (by decide +kernel) (pa_cons (pv 1) pa_nil)) (pa_cons pe_dnewK pa_nil)) (by rfl))
      (pss_cons (ps_for PassesOwn.never rfl (pi_list (L2.pe_revL (pe_callTy (call_listS rfl) (by rfl) T.list (by decide +kernel) (pa_cons (pv 1) pa_nil)))) (pg_name (i := 4) nd rfl (.inl rfl)) (pss_one (ps_asg (pe_bm PySem.F.plainAttrs_list PySem.F.slot_list_pop PySem.F.type_list_pop mt_popAt (pv 2) (pa_cons (pe_call GD hr (by rfl) T.gDraw T.kDraw bD .nil pass0 (pa_cons (pv 0) (pa_cons (pe_callB call_len_seq (by rfl) T.len PySem.boot_len (pa_cons (pv 2) pa_nil)) pa_nil))) pa_nil)) (pg_sub (pv 3) (pv 4) (set_dict (hu_of hr))))))
      (pss_one (ps_ret (pv 3)))), ?_⟩
    obtain ⟨hA, al2, al4, chars, npq⟩ := alpha_facts al hal
    have and_ := alphas_nd al hal
    have lal := len_cps al
    -- list(signs), {}
    have lsE : ∀ {G : Hp} {σ : L2.St}, σ[1]? = some (some (.str al)) → ∀ Q1 : VK, (∀ l G2, G l = none → Ex G G2 → G2 l = some (.lst (signsV al)) → Q1 (.ref l) G2) → (tCB rListStr (tCons (tVar 1) tNil)) σ G Q1 := fun {G σ} es Q1 q1 => ⟨_, es, al, rfl, by omega, fun l hl => q1 l _ hl (Ex.new hl) upd_same⟩
    refine (?_ : tCB rListStr (tCons (tVar 1) tNil) _ H _)
    refine lsE rfl _ fun l H1 hl x1 e1 => ?_
    intro p hp
    have x2 : Ex H1 (upd H1 p (.dK [])) := Ex.new hp
    have e2 : upd H1 p (.dK []) p = some (.dK []) := upd_same
    have lp : l ≠ p := ne_of_none e1 hp
    have pP : p ≠ Pn := (ne_of_none (pen.mono x1).pen hp).symm
    have lP : l ≠ Pn := (ne_of_none pen.pen hl).symm
    have lL : l ≠ L := (ne_of_none pen.cells hl).symm
    have pL : p ≠ L := (ne_of_none (pen.mono x1).cells hp).symm
    have hpH := fresh_back x1 hp
    have e1' := x2 _ _ e1
    have pen2 := (pen.mono x1).mono x2
    have x12 := x1.trans x2
    generalize upd H1 p (.dK []) = H2 at x2 e2 e1' pen2 x12 ⊢
    refine ⟨_, _, rfl, ?_⟩
    refine (?_ : tSeq _ _ _ [some (.ref Pn), some (.str al), some (.ref l), some (.ref p), none] H2)
    have sv : ∀ zs : List Nat, zs.map (fun c => V.str ⟨#[c]⟩) = zs.map (fun c => V.str ⟨#[c]⟩) := fun _ => rfl
    have rev : EvL (tRevL K (tCB rListStr (tCons (tVar 1) tNil))) [some (.ref Pn), some (.str al), some (.ref l), some (.ref p), none] H2 (al.cps.toList.reverse.map fun c => V.str ⟨#[c]⟩) := fun G y Q1 q1 =>
      lsE rfl _ fun m G2 hm y2 em => ⟨m, _, rfl, sq_of em, fun m2 hm2 => q1 m2 _ (fresh_back y2 hm2) (y2.trans (Ex.new hm2)) (by rw [upd_same]; unfold signsV; rw [List.map_reverse])⟩
    refine q_forNLn (K := K) rev (fun m i σ' H' => ∃ (y4 : Option V) (ps : List (Nat × Nat)) (qs : List Nat) (s' : Nat) (g' : Int), σ' = [some (.ref Pn), some (.str al), some (.ref l), some (.ref p), y4] ∧ ps.map (·.1) = al.cps.toList.reverse.take i ∧ (ps.map (·.2) ++ qs).Perm al.cps.toList ∧
        H' m = some (.lst (al.cps.toList.reverse.map fun c => V.str ⟨#[c]⟩)) ∧ m ≠ l ∧ m ≠ p ∧ m ≠ Pn ∧ H' l = some (.lst (qs.map fun c => V.str ⟨#[c]⟩)) ∧ H' p = some (.dK (kvG (kvC ps))) ∧ (∀ b o, b ≠ Pn → H b = some o → H' b = some o) ∧ Pen H' Pn L ns s' g' ∧ s' ≤ s0 + i)
      (fun m H3 hm x3 em => ⟨_, [], al.cps.toList, s0, g0, rfl, rfl, by simp, em, (ne_of_none e1' hm).symm, (ne_of_none e2 hm).symm, (ne_of_none pen2.pen hm).symm, x3 _ _ e1', x3 _ _ e2, fun b o _ hb => x3 _ _ (x12 _ _ hb), pen2.mono x3, Nat.le_refl _⟩) (fun m i σ' H' _ q => ?_) (fun m i x σ' H' hx q => ?_) fun m σ' H' q => ?_
    · obtain ⟨y4, ps, qs, s', g', _, _, _, em, _⟩ := q
      exact sq_of em
    · obtain ⟨y4, ps, qs, s', g', rfl, kk, pv', em, ml, mp, mP, el, ep, keep, pn, hs'⟩ := q
      rw [List.getElem?_map] at hx
      obtain ⟨c, hc, rfl⟩ := Option.map_eq_some_iff.mp hx
      have il : i < al.cps.toList.length := by
        have := (List.getElem?_eq_some_iff.mp hc).1
        rw [List.length_reverse] at this
        exact this
      have psl : ps.length = i := by
        have := congrArg List.length kk
        rw [List.length_map, List.length_take, List.length_reverse] at this
        omega
      have qsl : qs.length = al.length - i := by
        have := pv'.length_eq
        rw [List.length_append, List.length_map, psl, lal] at this
        omega
      refine ⟨_, rfl, .inl ⟨rfl, _, sq_of el⟩, ?_⟩
      refine (?_ : tCall _ _ _ _ _ H' _)
      refine ⟨_, rfl, ?_⟩
      refine (?_ : tCons _ _ _ H' _)
      refine (ev_len (K := K) (ev_var (i := 2) rfl) (sq_of el)) H' (Ex.refl _) _ fun H4 x4 => ?_
      rw [List.length_map]
      refine ⟨Pn, L, ns, s', g', (qs.length : Int), rfl, by omega, by omega, pn.mono x4, by omega, fun d s4 g4 H5 hd hs4 but5 pen5 => ?_⟩
      have dl : d < qs.length := by omega
      have el5 := but5 _ _ lP (x4 _ _ el)
      have ep5 := but5 _ _ pP (x4 _ _ ep)
      have em5 := but5 _ _ mP (x4 _ _ em)
      refine ⟨l, qs.map fun c => V.str ⟨#[c]⟩, (d : Int), d, .str ⟨#[qs[d]]⟩, rfl, rfl, el5, by omega, by omega, ?_, ?_, ?_⟩
      · rw [List.length_map]
        exact seqIndex_of (by omega) (by omega)
      · rw [List.getElem?_map, List.getElem?_eq_getElem dl]
        rfl
      · refine ⟨_, rfl, _, rfl, p, _, rfl, DPut.k (k := Sum.inr ⟨#[c]⟩) (kvs := kvG (kvC ps)) (by rw [upd_ne lp.symm]; exact ep5) (by unfold kvG kvC; rw [List.length_map, List.length_map, psl, sizeLine_eq]; omega), ?_⟩
        have cn : c ∉ ps.map (·.1) := by
          rw [kk]
          have ndr : (al.cps.toList.reverse).Nodup := (List.reverse_perm al.cps.toList).nodup_iff.mpr and_
          intro z
          obtain ⟨j, hj, e⟩ := List.getElem_of_mem z
          rw [List.length_take] at hj
          rw [List.getElem_take] at e
          have e4 : al.cps.toList.reverse[j]? = some c := by
            rw [List.getElem?_eq_getElem (by omega), e]
          have := nd_idx ndr e4 hc
          omega
        have pk : putK (kvG (kvC ps)) (Sum.inr ⟨#[c]⟩) (V.str ⟨#[qs[d]]⟩) = kvG (kvC (ps ++ [(c, qs[d])])) := by
          unfold putK
          rw [if_neg]
          · unfold kvG kvC
            rw [List.map_append, List.map_append]
            rfl
          · rw [Bool.not_eq_true, List.any_eq_false]
            intro q hq z
            unfold kvG kvC at hq
            rw [List.map_map] at hq
            obtain ⟨r, hr', rfl⟩ := List.mem_map.mp hq
            have z' := of_decide_eq_true z
            have := one_inj (Sum.inr.inj z')
            exact cn (List.mem_map.mpr ⟨r, hr', this⟩)
        rw [pk]
        refine ⟨_, ps ++ [(c, qs[d])], qs.eraseIdx d, s4, g4, rfl, ?_, ?_, ?_, ml, mp, mP, ?_, upd_same, fun b o nb hb => ?_, ⟨?_, ?_, pen5.ne, pen5.few, pen5.left⟩, by omega⟩
        · rw [List.map_append, kk, List.take_succ, hc]
          rfl
        · rw [List.map_append, List.append_assoc]
          refine List.Perm.trans (List.Perm.append_left _ ?_) pv'
          show (qs[d] :: qs.eraseIdx d).Perm qs
          exact perm_erase dl
        · rw [upd_ne mp, upd_ne ml]
          exact em5
        · rw [upd_ne lp, upd_same]
          exact congrArg (fun z => some (HO.lst z)) (map_erase _ _ _)
        · have nl : b ≠ l := ne_of_none hb hl
          have np : b ≠ p := ne_of_none hb hpH
          rw [upd_ne np, upd_ne nl]
          exact but5 _ _ nb (x4 _ _ (keep b o nb hb))
        · rw [upd_ne pP.symm, upd_ne lP.symm]
          exact pen5.pen
        · rw [upd_ne pL.symm, upd_ne lL.symm]
          exact pen5.cells
    · obtain ⟨y4, ps, qs, s', g', rfl, kk, pv', em, ml, mp, mP, el, ep, keep, pn, hs'⟩ := q
      rw [List.length_map, List.length_reverse] at kk hs'
      rw [List.take_of_length_le (by rw [List.length_reverse]; exact Nat.le_refl _)] at kk
      have psl : ps.length = al.cps.toList.length := by
        have := congrArg List.length kk
        rw [List.length_map, List.length_reverse] at this
        exact this
      have q0 : qs = [] := by
        have := pv'.length_eq
        rw [List.length_append, List.length_map] at this
        exact List.length_eq_zero_iff.mp (by omega)
      rw [q0, List.append_nil] at pv'
      have X : XT al ps := ⟨by rw [kk]; exact List.reverse_perm _, pv', and_⟩
      exact s_ret (ev_var rfl) fun H4 x4 => k p ps s' g' H4 X hpH (by omega) (fun b o nb hb => x4 _ _ (keep b o nb hb)) (x4 _ _ ep) (pn.mono x4)
end
end K02

set_option Elab.async false
set_option linter.all false
set_option maxRecDepth 100000
set_option maxHeartbeats 4000000
/-! What the law hears: the answer in a list, or the error's name and what it keeps -/
namespace K02
open PySem PySem.Spec PyProof.Rows L2 Evl KU
abbrev sHeard : Stmt := top 44
abbrev nHeard : List Str := ["_law_ask", "_law_caught", "_law_found", "error"]
theorem scHeard : FnScope nHeard ["_law_ask"] (defScope sHeard) := ⟨rfl, rfl, rfl, by decide +kernel, rfl, by decide +kernel, by decide +kernel⟩
/-- the classes that are heard -/
structure HErr7 (K : PySem.W.Frag) (mg : Str → Option Value) (CF CO : Addr) : Prop where
  gF : mg "FlagError" = some (.ref CF)
  gO : mg "BadBars" = some (.ref CO)
  xO : ExcC K CO
  nO : PySem.W.findIn K (.ref CO) "part" = some none
  tO : PySem.W.exmOne K (.ref CO) (.ref CF) = some true
  iOO : PySem.W.kitOne K (.ref CO) (.ref CO) = some true
/-- what is heard of an error -/
inductive HeardIs7 (K : PySem.W.Frag) (CO : Addr) (H : Hp) (dd : Addr) : Value → List V → Prop where
  | bars {t : Str} : H dd = some (.xd [("part", .str t)]) → HeardIs7 K CO H dd (.ref CO) [.str "bars", .str t]
def HeardE7 (K : PySem.W.Frag) (CO : Addr) (Q : VK) : XK := fun cls d H' => ∃ (dd : Addr) (us : List V), d = some dd ∧ HeardIs7 K CO H' dd cls us ∧ NewU us H' Q
def THeard7 (K : PySem.W.Frag) (CO : Addr) : (XK → Hp → VK → Prop) → Hp → VK → Prop := fun tl H Q => ∀ H1, Ex H H1 → ∀ R : VK, (∀ v H2, NewL [v] H2 Q → R v H2) → tl (HeardE7 K CO Q) H1 R
section
variable {X : Cx} {CF CO : Addr}
theorem heard_gives7 {q : Str} {g : Addr} {cdg : Value} {k : Nat} (hr : Room (k + 1) X.A) (E : HErr7 X.K X.mg CF CO) (fi : X.mg "isinstance" = none) :
    LamX.GivesTo X nHeard "_law_heard" (defScope sHeard) g cdg (defBody sHeard) "_law_ask" q (THeard7 X.K CO) := by
  intro f c' s H Q tl act hc h
  have nd := scHeard.nd
  refine ⟨_, pss_cons (ps_asg (pe_tup (pa_cons pe_non (pa_cons pe_non pa_nil))) (pg_tup (by rfl) (pgs_cons (pg_name (i := 1) nd rfl (.inl rfl)) (pgs_cons (pg_name (i := 2) nd rfl (.inl rfl)) pgs_nil))))
    (pss_cons (ps_try_asK (X := (cxOf C8.CX0 X.prog X.w X.K X.mg X.base nHeard "_law_heard" (defScope sHeard) g cdg X.A X.stack s H C8.E0).nox) (c := .ref CF) (i := 3)
        (tb := fun W D σ H => ∃ Ech : XK, (∀ cls d σ' H', Ech cls d H' → σ'.length = 4 → W cls d σ' H') ∧ σ[0]? = some (some (.ref f)) ∧ H c' = some (LamX.CodeO c' q) ∧ tl Ech H fun v H' => D.nx (σ.set 2 (some v)) H')
        rfl rfl rfl nd rfl rfl ⟨by rfl, by decide, .inl E.gF⟩ (fun W pn xe tk => ?_) (fun a oe cls d pn => pss_one (ps_set (i := 1) nd rfl (.inl rfl) (pv 3))))
    (pss_cons (ps_if (pt_cmpR op_isN (pv 1) pe_non (nomark _)) (pss_one (ps_ret (pe_lst (pa_cons (pv 2) pa_nil)))) pss_nil)
    (pss_one (ps_ret (pe_ifExp (pt_val (pe_callB (r := rIsCau X.K) (id := "isinstance") (by exact call_isCau) (by rfl) fi (by decide +kernel) (pa_cons (pv 1) (pa_cons (pe_glob rfl E.gO (v := .ref CO) rfl) pa_nil))))
      (pe_tup (pa_cons pe_str (pa_cons (pe_cauF (pv 1)) pa_nil)))
      (pe_tup (pa_cons pe_str pa_nil))))))), ?_⟩
  · refine ⟨fun pins s' σ H' D I h' => ?_⟩
    obtain ⟨Ech, hW, h1, h2, h3⟩ := h'
    exact (pss_one (ps_set (i := 2) nd rfl (.inl rfl) (act (fun cls d σ H => σ.length = 4 → W cls d σ H) pn xe Ech _ _ (takes_len tk) hW))).run pins s' σ H' D I ⟨h1, h2, h3⟩
  · refine ⟨(by show 2 ≤ sizeLine; decide), fun p hp => ⟨p, _, rfl, st_of upd_same, rfl, ?_⟩⟩
    refine ⟨_, _, rfl, _, _, rfl, rfl, ?_⟩
    have xp : Ex H (upd H p (.tup [V.non, V.non])) := Ex.new hp
    refine ⟨HeardE7 X.K CO Q, fun cls d σ' H' he hl => ?_, rfl, xp _ _ hc, ?_⟩
    · obtain ⟨dd, us, rfl, hi, k⟩ := he
      obtain ⟨x0, x1, x2, x3, rfl⟩ : ∃ x0 x1 x2 x3, σ' = [x0, x1, x2, x3] := by
        match σ', hl with
        | [x0, x1, x2, x3], _ => exact ⟨x0, x1, x2, x3, rfl⟩
      cases hi with
      | @bars t hx =>
        refine ⟨E.tO, fun a na => ⟨.ref a, rfl, fun na' => ?_⟩⟩
        have xG : Ex H' (upd H' a (hxo a (.ref CO) (some dd))) := Ex.new na'
        have at_ : CauAt (upd H' a (hxo a (.ref CO) (some dd))) a CO [("part", .str t)] := ⟨dd, upd_same, xG _ _ hx⟩
        refine (?_ : tSeq _ _ _ _ _)
        refine q_when (b := false) (et_is (et_test (ev_op (ev_var rfl) ev_c rv_isN)) (decide_eq_false fun z => by cases z)) (fun z => by cases z) fun _ G1 y1 => ?_
        refine s_retU (xs := [V.str "bars", V.str t]) (fun G5 y5 R r => ?_) fun q G5 hq y5 e5 => k q G5 (fresh_back (xG.trans y1) hq) (xG.trans (y1.trans y5)) e5
        refine (et_B (ev_isCau E.xO (.own CO) (at_.mono y1) E.iOO (ev_var rfl))) G5 y5 _ fun G6 y6 => ?_
        rw [if_pos rfl]
        exact eu_tup (ea_cons ev_c (ea_cons (ev_cauF E.xO E.nO (at_.mono y1) (by rfl) (ev_var rfl)) ea_nil)) (by show 2 ≤ 100000; decide) G6 (y5.trans y6) R fun q G7 hq y7 e7 => r q G7 (fresh_back y6 hq) (y6.trans y7) e7
    · refine h _ xp _ fun v H2 k => ?_
      refine (?_ : tSeq _ _ _ _ _)
      refine q_when (b := true) (et_is (et_test (ev_op (ev_var rfl) ev_c rv_isN)) (decide_eq_true rfl)) (fun _ G1 y1 => ?_) fun z => by cases z
      exact s_retL (el_lst (ea_cons (ev_var rfl) ea_nil) (by show 1 ≤ 100000; decide)) fun q G2 hq y2 e2 => k q G2 (fresh_back y1 hq) (y1.trans y2) e2
end
section
variable {K : PySem.W.Frag} {T : List (Addr × Str)} {σ : L2.St} {H : Hp} {CO Cx : Addr} {t : XK → TE} {us : List V} {ds : List PyData} {v : V} {d : PyData}
theorem new_v7 {H H3 : Hp} {p : Addr} (x : ExT H H3) (hp : H3 p = none) : ∀ b ys, H b = some (.lst ys) → (V.ref p) ≠ .ref b := fun b ys hb z => by
  cases z
  rw [ext_lst x hb] at hp
  cases hp
theorem hears_err7 (fs : List (Str × V)) (hT : LamX.Tabs T H) (ask : ∀ H1, ExT H H1 → ∀ (E : XK) (R : VK), (∀ dd H2, Ex H1 H2 → H2 dd = some (.xd fs) → E (.ref Cx) (some dd) H2) → t E σ H1 R)
    (is : ∀ dd H2, ExT H H2 → H2 dd = some (.xd fs) → HeardIs7 K CO H2 dd (.ref Cx) us) (fl : Paired FlatD us ds) : Hears T (LamX.tLam T (THeard7 K CO) t) σ H (.tuple ds) := fun Q k => by
  refine lam_run hT fun H1 x1 T1 H2 x2 R hR => ?_
  have x12 := x1.trans (exT x2)
  refine ask H2 x12 _ _ fun dd H3 x3 e3 => ⟨dd, us, rfl, is dd H3 (x12.trans (exT x3)) e3, fun p H4 hp x4 e4 => ?_⟩
  exact k (.ref p) H4 (x12.trans (exT (x3.trans x4))) (tabs_ex (tabs_ex T1 x2) (x3.trans x4)) (.tup e4 fl) (new_v7 (x12.trans (exT x3)) hp)
/-- an answer, in a list -/
theorem hears_one7 {Pz : V → Hp → Prop} (up : Up Pz) (hT : LamX.Tabs T H) (ask : ∀ H1, ExT H H1 → ∀ (E : XK) (R : VK), (∀ v H2, Ex H1 H2 → Pz v H2 → R v H2) → t E σ H1 R) {Q : VK}
    (k : ∀ (p : Addr) (v : V) (H1 : Hp), ExT H H1 → LamX.Tabs T H1 → H1 p = some (.lst [v]) → Pz v H1 → Q (.ref p) H1) : LamX.tLam T (THeard7 K CO) t σ H Q := by
  refine lam_run hT fun H1 x1 T1 H2 x2 R hR => ?_
  have x12 := x1.trans (exT x2)
  exact ask H2 x12 _ _ fun v H3 x3 pv => hR v H3 fun p H4 hp x4 e4 => k p v H4 (x12.trans (exT (x3.trans x4))) (tabs_ex (tabs_ex T1 x2) (x3.trans x4)) e4 (up _ _ _ x4 pv)
end
end K02

set_option Elab.async false
set_option linter.all false
set_option maxRecDepth 100000
set_option maxHeartbeats 4000000
/-! Tables that are none: the law's own def -/
namespace K02
open PySem PySem.Spec PyProof.Rows L2 Evl KU
/-! ### values that are no exchanges -/
inductive WrongT (H : Hp) (al : Str) : V → Prop where
  | bty {v : V} {T : String} : BTy H v T → T ≠ "dict" → WrongT H al v
  | dic {p : Addr} {ks : List (Str × V)} : H p = some (.dK (kvG ks)) → ks.length ≤ 60 → (∀ q ∈ ks, q.1.length ≤ 1000 ∧ Odd H q.2 ∧ LenV q.2) → exchB ks al = false → WrongT H al (.ref p)
theorem bty_ext {H H' : Hp} (x : ExT H H') : ∀ {v : V} {T : String}, BTy H v T → BTy H' v T
  | _, _, .non => .non
  | _, _, .bl b => .bl b
  | _, _, .int i => .int i
  | _, _, .str t => .str t
  | _, _, .lst h => .lst (ext_lst x h)
  | _, _, .tup h => .tup (ext_tup x h)
  | _, _, .dic h => .dic (x _ _ h fun ps z => by cases z)
theorem odd_ext {H H' : Hp} (x : ExT H H') : ∀ {v : V}, Odd H v → Odd H' v
  | _, .non => .non
  | _, .bl b => .bl b
  | _, .int i => .int i
  | _, .str t => .str t
  | _, .lst h n => .lst (ext_lst x h) n
  | _, .tup h => .tup (ext_tup x h)
  | _, .dic h => .dic (x _ _ h fun ps z => by cases z)
theorem WrongT.ext {H H' : Hp} {al : Str} {v : V} (x : ExT H H') (h : WrongT H al v) : WrongT H' al v := by
  cases h with
  | bty b n => exact .bty (bty_ext x b) n
  | dic hp few each e => exact .dic (x _ _ hp fun ps z => by cases z) few (fun q hq => ⟨(each q hq).1, odd_ext x (each q hq).2.1, (each q hq).2.2⟩) e
theorem up_wrong (al : Str) : Up fun v H => WrongT H al v := fun v H H' x h => h.ext (exT x)
theorem WrongT.tabl {K : PySem.W.Frag} {H : Hp} {al : Str} {v : V} (h : WrongT H al v) : Tabl K H al v false := by
  cases h with
  | @bty v T b n =>
    refine .no fun H' x => ⟨.type T, bty_tyx (b.mono x), ?_⟩
    cases b with
    | dic h => exact absurd rfl n
    | _ => exact kit_ty (r := false) (by decide +kernel)
  | dic hp few each e =>
    rw [← e]
    exact .dic hp few each
theorem uniq_fullR : ∀ l : List Str, (uniq l.reverse).length = l.reverse.length → l.reverse.Nodup
  | [], _ => List.nodup_nil
  | a :: r, h => by
    rw [List.reverse_cons] at h ⊢
    have le := uniq_len r.reverse
    rw [uniq_snoc] at h
    split at h
    · rw [List.length_append] at h
      simp at h le
      omega
    · rename_i na
      rw [List.length_append, List.length_append] at h
      have nd := uniq_fullR r (by simp at h ⊢; omega)
      rw [List.nodup_append]
      refine ⟨nd, by simp, fun x hx y hy e => ?_⟩
      rw [List.mem_singleton.mp hy] at e
      exact na ((mem_uniq r.reverse a).mpr (e ▸ hx))
theorem uniq_full {l : List Str} (h : (uniq l).length = l.length) : l.Nodup := by
  have := uniq_fullR l.reverse
  rw [List.reverse_reverse] at this
  exact this h
theorem signs_bad {ks : List (Str × V)} {al : Str} {q : Str × V} (hq : q ∈ ks) (h : (isSgnV (.str q.1) al && isSgnV q.2 al) = false) : exchB ks al = false := by
  have : signsB ks al = false := by
    cases e : signsB ks al with
    | false => rfl
    | true =>
      have := List.all_eq_true.mp e q hq
      rw [h] at this
      cases this
  unfold exchB swapB
  rw [this]
  rfl
def setG (ks : List (Str × V)) (k : Str) (v : V) : List (Str × V) := ks.map fun q => if q.1 = k then (q.1, v) else q
theorem put_new {ks : List (Str × V)} {k : Str} {v : V} (h : ∀ q ∈ ks, q.1 ≠ k) : putK (kvG ks) (Sum.inr k) v = kvG (ks ++ [(k, v)]) := by
  unfold putK
  rw [if_neg]
  · unfold kvG
    rw [List.map_append]
    rfl
  · rw [Bool.not_eq_true, List.any_eq_false]
    intro q hq z
    obtain ⟨r, hr, rfl⟩ := List.mem_map.mp hq
    exact h r hr (Sum.inr.inj (of_decide_eq_true z))
theorem put_old {ks : List (Str × V)} {k : Str} {v : V} (h : ∃ q ∈ ks, q.1 = k) : putK (kvG ks) (Sum.inr k) v = kvG (setG ks k v) := by
  unfold putK
  rw [if_pos]
  · unfold kvG setG
    rw [List.map_map, List.map_map]
    refine List.map_congr_left fun q hq => ?_
    show (if (Sum.inr q.1 : Key) = Sum.inr k then ((Sum.inr q.1 : Key), v) else (Sum.inr q.1, q.2)) = (Sum.inr (if q.1 = k then (q.1, v) else q).1, (if q.1 = k then (q.1, v) else q).2)
    by_cases e : q.1 = k
    · rw [if_pos e, if_pos (by rw [e])]
    · rw [if_neg e, if_neg fun z => e (Sum.inr.inj z)]
  · rw [List.any_eq_true]
    obtain ⟨q, hq, e⟩ := h
    exact ⟨_, List.mem_map.mpr ⟨q, hq, rfl⟩, decide_eq_true (by show (Sum.inr q.1 : Key) = _; rw [e])⟩
theorem set_len (ks : List (Str × V)) (k : Str) (v : V) : (setG ks k v).length = ks.length := List.length_map _
theorem set_fine {H : Hp} {ks : List (Str × V)} {k : Str} {v : V} (h : ∀ q ∈ ks, q.1.length ≤ 1000 ∧ Odd H q.2 ∧ LenV q.2) (o : Odd H v) (l : LenV v) : ∀ q ∈ setG ks k v, q.1.length ≤ 1000 ∧ Odd H q.2 ∧ LenV q.2 := fun q hq => by
  obtain ⟨r, hr, rfl⟩ := List.mem_map.mp hq
  by_cases e : r.1 = k
  · rw [if_pos e]
    exact ⟨(h r hr).1, o, l⟩
  · rw [if_neg e]
    exact h r hr
theorem set_mem {ks : List (Str × V)} {k : Str} {v : V} (h : ∃ q ∈ ks, q.1 = k) : (k, v) ∈ setG ks k v := by
  obtain ⟨q, hq, e⟩ := h
  refine List.mem_map.mpr ⟨q, hq, ?_⟩
  show (if q.1 = k then (q.1, v) else q) = (k, v)
  rw [if_pos e, e]
theorem key_in {ps : List (Nat × Nat)} {c : Nat} (h : c ∈ ps.map (·.1)) : ∃ q ∈ kvC ps, q.1 = (⟨#[c]⟩ : Str) := by
  obtain ⟨p, hp, rfl⟩ := List.mem_map.mp h
  exact ⟨_, List.mem_map.mpr ⟨p, hp, rfl⟩, rfl⟩
/-- a key less -/
theorem less_bad {al : Str} {ps : List (Nat × Nat)} (X : XT al ps) {c : Nat} (h : c ∈ al.cps.toList) : exchB (kvC (ps.filter fun p => decide (p.1 ≠ c))) al = false := by
  unfold exchB
  have lt : (ps.filter fun p => decide (p.1 ≠ c)).length < ps.length := by
    obtain ⟨p, hp, e⟩ := List.mem_map.mp (X.keys.mem_iff.mpr h)
    rcases Nat.lt_or_ge (ps.filter fun p => decide (p.1 ≠ c)).length ps.length with lt | ge
    · exact lt
    · have := List.length_filter_le (fun p : Nat × Nat => decide (p.1 ≠ c)) ps
      have eq := List.length_filter_eq_length_iff.mp (Nat.le_antisymm this ge) p hp
      exact absurd e (of_decide_eq_true eq)
  have : ¬ (kvC (ps.filter fun p => decide (p.1 ≠ c))).length = al.length := by
    unfold kvC
    rw [List.length_map, ← X.len]
    omega
  rw [decide_eq_false this, Bool.and_false]
theorem drop_less (ps : List (Nat × Nat)) (c : Nat) : dropK (kvG (kvC ps)) (Sum.inr ⟨#[c]⟩) = kvG (kvC (ps.filter fun p => decide (p.1 ≠ c))) := by
  unfold dropK kvG kvC
  rw [List.map_map, List.map_map, List.filter_map]
  refine congrArg (List.map _) (List.filter_congr fun p _ => ?_)
  show decide ((Sum.inr ⟨#[p.1]⟩ : Key) ≠ Sum.inr ⟨#[c]⟩) = decide (p.1 ≠ c)
  rw [Bool.eq_iff_iff, decide_eq_true_eq, decide_eq_true_eq]
  exact not_congr ⟨fun z => one_inj (Sum.inr.inj z), fun z => by rw [z]⟩
/-- a value twice -/
theorem twice_bad {al : Str} {ps : List (Nat × Nat)} (X : XT al ps) {c d : Nat} (hc : c ∈ al.cps.toList) (hd : d ∈ al.cps.toList) (ne : c ≠ d) : exchB (setG (kvC ps) ⟨#[c]⟩ (V.str ⟨#[fch ps d]⟩)) al = false := by
  have no : (uniq (valsG (setG (kvC ps) ⟨#[c]⟩ (V.str ⟨#[fch ps d]⟩)))).length ≠ (setG (kvC ps) ⟨#[c]⟩ (V.str ⟨#[fch ps d]⟩)).length := fun z => by
    have nd := uniq_full (l := valsG (setG (kvC ps) ⟨#[c]⟩ (V.str ⟨#[fch ps d]⟩))) (by rw [z]; unfold valsG; rw [List.length_map])
    obtain ⟨i, hi⟩ := List.mem_iff_getElem?.mp (fch_mem (X.keys.mem_iff.mpr hc))
    obtain ⟨j, hj⟩ := List.mem_iff_getElem?.mp (fch_mem (X.keys.mem_iff.mpr hd))
    have at_ : ∀ {k x y : Nat}, ps[k]? = some (x, y) → (valsG (setG (kvC ps) ⟨#[c]⟩ (V.str ⟨#[fch ps d]⟩)))[k]? = some (if x = c then ⟨#[fch ps d]⟩ else ⟨#[y]⟩) := fun {k x y} h => by
      unfold valsG setG kvC
      rw [List.getElem?_map, List.getElem?_map, List.getElem?_map, h]
      show some (strOfV (if (⟨#[x]⟩ : Str) = ⟨#[c]⟩ then ((⟨#[x]⟩ : Str), V.str ⟨#[fch ps d]⟩) else ((⟨#[x]⟩ : Str), V.str ⟨#[y]⟩)).2) = _
      by_cases e : x = c
      · rw [if_pos e, if_pos (by rw [e])]
        rfl
      · rw [if_neg e, if_neg fun z => e (one_inj z)]
        rfl
    have a1 := at_ hi
    have a2 := at_ hj
    rw [if_pos rfl] at a1
    rw [if_neg fun z => ne z.symm] at a2
    have ij := nd_idx nd a1 a2
    rw [ij, hj] at hi
    have := (Prod.mk.inj (Option.some.inj hi)).1
    exact ne this.symm
  unfold exchB swapB
  rw [decide_eq_false no, Bool.and_false, Bool.false_and]
theorem alphas_sgn : ∀ al ∈ alphas, isSgnV (.str "Q") al = false ∧ isSgnV (.str "") al = false ∧ isSgnV (.str al) al = false ∧ (∀ c ∈ al.cps.toList, (⟨#[c]⟩ : Str) ≠ "Q") ∧ atI al.cps.toList 0 = some (al.cps.toList.headD 0) ∧ atI al.cps.toList 1 = some (al.cps.toList.getD 1 0) ∧ atI al.cps.toList (-1) = some (al.cps.toList.getLastD 0) ∧
    al.cps.toList.headD 0 ∈ al.cps.toList ∧ al.cps.toList.getD 1 0 ∈ al.cps.toList ∧ al.cps.toList.getLastD 0 ∈ al.cps.toList ∧ al.cps.toList.headD 0 ≠ al.cps.toList.getD 1 0 := by decide +kernel
theorem each_same7 {P : V → Hp → Prop} {H : Hp} : ∀ {Ps : List (V → Hp → Prop)} {vs : List V}, Each Ps vs H → (∀ R ∈ Ps, R = P) → ∀ v ∈ vs, P v H
  | _, _, .nil, _, v, hv => by cases hv
  | _, _, .cons (a := R) (b := x) r rs, hP, v, hv => by
    rcases List.mem_cons.mp hv with rfl | hv
    · have e := hP R List.mem_cons_self
      subst e
      exact r
    · exact each_same7 rs (fun R hR => hP R (List.mem_cons_of_mem _ hR)) v hv
theorem odd_but {v : V} {P L : Addr} {ns ms : List Int} {s s' : Nat} {g g' : Int} {H H' : Hp} (x : But P H H') (p : Pen H P L ns s g) (p' : Pen H' P L ms s' g') (h : Odd H v) : Odd H' v := by
  cases h with
  | non => exact .non
  | bl b => exact .bl b
  | int i => exact .int i
  | str t => exact .str t
  | @lst a xs h n =>
    refine .lst (x _ _ (fun z => ?_) h) n
    rw [z, p.pen] at h
    cases xs with
    | nil => cases h
    | cons y r => cases h
  | tup h => exact .tup (x _ _ (fun z => by rw [z, p.pen] at h; cases h) h)
  | dic h => exact .dic (x _ _ (fun z => by rw [z, p.pen] at h; cases h) h)
abbrev sWr : Stmt := topR 52
abbrev nWr : List Str := ["_law_pen_here", "_law_made_here", "_law_signs_here", "_law_table_here", "_law_less_so", "_law_more", "_law_twice", "_law_strange", "_law_some", "_law_value"]
theorem scWr : FnScope nWr ["_law_pen_here", "_law_made_here", "_law_signs_here", "_law_table_here"] (defScope sWr) := ⟨rfl, rfl, rfl, by decide +kernel, rfl, by decide +kernel, by decide +kernel⟩
def scWrC : Scope := { kind := .function, names := [(".0", .local), ("_law_value", .cell), ("_law_heard", .globalImplicit), ("_law_made_here", .free)], isGenerator := false, isCoroutine := false }
/-- what the law's lambdas ask -/
structure Asks7 (P : Program) (w : World) (K : PySem.W.Frag) (mg : Str → Option Value) (base : Heap) (C CF CO fC fH : Addr) (fdC fdH : FuncData) : Prop where
  T : FreeL mg
  CB : ClsI K mg C
  E : HErr7 K mg CF CO
  mC : Meth K C "changed" fC
  GC : FnOk P w K mg base CX0 6 fC fdC ["self", "table"] (spChg C)
  GCX : FnOk P w K mg base (L2.CX P w) 6 fC fdC ["self", "table"] (spChgX K C CO)
  bC : Binds K fdC ["self", "table"] []
  FH : ∃ (oc : Value) (od : Option Addr) (kV doc pm : Value) (an : Option Addr) (cdv ct : Value) (osl : Array (Option Value)), fdH = PySem.W.fnOf "_law_heard" "_law_heard" (defArgs sHeard) (defBody sHeard) (defScope sHeard) .none kV doc pm an cdv ct ∧ K.lookup fH = some ⟨oc, od, .func fdH, osl⟩ ∧ PySem.W.codeIn K cdv "_law_heard" = true
  bH : Binds K fdH ["_law_ask"] []
  gH : mg "_law_heard" = some (.ref fH)
  kH : PySem.W.keepIn K (.ref fH) = true
def spWr (C : Addr) (T : List (Addr × Str)) : Sp := fun vs H Q _ => ∃ (Pn L m p : Addr) (ns : List Int) (s : Nat) (g : Int) (al : Str) (ys es : List Str) (ps : List (Nat × Nat)), vs = [.ref Pn, .ref m, .str al, .ref p] ∧ al ∈ alphas ∧ BarsAt C H m al ys es ∧ H p = some (.dK (kvG (kvC ps))) ∧ XT al ps ∧ LamX.Tabs T H ∧ Pen H Pn L ns s g ∧ s ≤ 90000 ∧
  ∀ (s' : Nat) (g' : Int) (H' : Hp), s' ≤ s + 1 → Kp Pn H H' → LamX.Tabs T H' → Pen H' Pn L ns s' g' → Q (.bl true) H'
section
variable {P : Program} {w : World} {K : PySem.W.Frag} {mg : Str → Option Value} {base : Heap} {C CF CO fC fH : Addr} {fdC fdH : FuncData} {T : List (Addr × Str)}
theorem ok_wr {f fP : Addr} {fd fdP : FuncData} {c Pt : Addr} (F : Fun K "_law_wrong_right" "_law_wrong_right" sWr f fd) (S : Asks7 P w K mg base C CF CO fC fH fdC fdH) (gD : mg "dict" = none)
    (GP : FnOk P w K mg base CX0 2 fP fdP ["_law_pen_here", "_law_some"] spPick) (bP : Binds K fdP ["_law_pen_here", "_law_some"] []) (gP : mg "_law_pick" = some (.ref fP)) (kP : PySem.W.keepIn K (.ref fP) = true)
    (TB : LamX.TabB base mg c Pt) (hc : fd.code = .ref c) (hm : (Pt, ("_law_wrong_right.<locals>.<lambda>" : Str)) ∈ T) (hu : ∀ p ∈ T, p.1 = Pt → p.2 = ("_law_wrong_right.<locals>.<lambda>" : Str)) :
    FnG P w K mg base CX0 9 f fd ["_law_pen_here", "_law_made_here", "_law_signs_here", "_law_table_here"] (spWr C T) := by
  refine FnG.bodyC F scWr (fun vs H Q E h => ?_) (fun A outer s H vs Q E hgd hr h => ?_)
  · obtain ⟨_, _, _, _, _, _, _, _, _, _, _, rfl, _⟩ := h
    rfl
  · obtain ⟨Pn, L, m, p, ns, s0, g0, al, ys, es, ps, rfl, hal, B, hp, X, hT, pen, hs, k⟩ := h
    have nd := scWr.nd
    obtain ⟨oc, od, kV, doc, pm, an, cdv, ct, osl, rfl, lk, hcd⟩ := S.FH
    refine ⟨_, pss_cons (ps_asg (pe_tup (pa_cons (pe_callTy call_dictD (by rfl) gD (by decide +kernel) (pa_cons (pv 3) pa_nil)) (pa_cons (pe_callTy call_dictD (by rfl) gD (by decide +kernel) (pa_cons (pv 3) pa_nil)) (pa_cons (pe_callTy call_dictD (by rfl) gD (by decide +kernel) (pa_cons (pv 3) pa_nil)) (pa_cons (pe_callTy call_dictD (by rfl) gD (by decide +kernel) (pa_cons (pv 3) pa_nil)) pa_nil))))) (pg_tup (by rfl) (pgs_cons (pg_name (i := 4) nd rfl (.inl rfl)) (pgs_cons (pg_name (i := 5) nd rfl (.inl rfl)) (pgs_cons (pg_name (i := 6) nd rfl (.inl rfl)) (pgs_cons (pg_name (i := 7) nd rfl (.inl rfl)) pgs_nil))))))
      (pss_cons (ps_expr (pe_dpop1 (pv 4) (pe_ix (r := rIxS) (by exact ix_str) (pv 2) pe_int (fun _ _ => rfl)) ⟨rfl, rfl, rfl, rfl⟩))
      (pss_cons (ps_asg (pe_ix (r := rIxS) (by exact ix_str) (pv 2) pe_int (fun _ _ => rfl)) (pg_sub (pv 5) pe_str (set_dict (hu_of hr))))
      (pss_cons (ps_asg (pe_dget (hu_of hr) (pv 3) (pe_ix (r := rIxS) (by exact ix_str) (pv 2) pe_int (fun _ _ => rfl)) (fun _ _ => rfl)) (pg_sub (pv 6) (pe_ix (r := rIxS) (by exact ix_str) (pv 2) pe_int (fun _ _ => rfl)) (set_dict (hu_of hr))))
      (pss_cons (ps_asg (pe_call GP (hr.mono (by decide)) (by rfl) gP kP bP .nil pass0 (pa_cons (pv 0) (pa_cons (pe_lst (pa_cons pe_str (pa_cons pe_str (pa_cons pe_non (pa_cons pe_int (pa_cons (pv 2) (pa_cons (pe_lstB (pa_cons pe_str pa_nil)) (pa_cons pe_bl pa_nil)))))))) pa_nil))) (pg_sub (pv 7) (pe_ix (r := rIxS) (by exact ix_str) (pv 2) (pe_un un_neg pe_int) (fun _ _ => rfl)) (set_dict (hu_of hr))))
      (pss_cons (ps_set (i := 8) nd rfl (.inl rfl) (pe_lst (pa_cons pe_non (pa_cons pe_int (pa_cons pe_bl (pa_cons (pv 2) (pa_cons (pe_lst pa_nil) (pa_cons (pe_tup pa_nil) (pa_cons pe_dnewK (pa_cons (LiI.pe_listItems rfl (pv 3) (by rfl) S.T.list (by decide +kernel)) (pa_cons (pv 4) (pa_cons (pv 5) (pa_cons (pv 6) (pa_cons (pv 7) pa_nil))))))))))))))
      (pss_one (ps_ret (pe_cmpR (r := rEqD K) (by exact op_eqD hr.units) (pe_lc (own := [("_law_value", 9)]) (wi := iList K (tVar 8)) (g := gName 9) rfl nd (by exact pi_list (pv 8)) (by refine blkOk_by (own := [("_law_value", 9)]) (N := nWr) (sc := defScope sWr) ?_; decide +kernel)
        (fun _ _ _ _ _ => pg_name (i := 9) nd rfl (Or.inr rfl)) (fun _ _ _ _ _ => pts_one (pt_cmpR (r := rNeD K) (by exact op_neD hr.units) (LamX.pe_lamcall (k := 6) (T := T) (TT := THeard7 K CO) (t := fun E => tMeth C "changed" (spChgX K C CO) [] E (tVar 1) (tCons (tVar 9) tNil)) (by rfl) S.gH S.kH lk hcd S.bH scHeard rfl (.inl rfl) (heard_gives7 (k := 7) hr S.E S.T.isinstance) TB hc hm hu hr (LamX.lamS_by (by show LamX.lamSB scWrC _ = true; decide +kernel)) rfl (fun _ _ _ _ _ => rfl)
          (fun A outer s H E f c' hr2 => pe_meth (CX := L2.CX P w) (E := E) (pv 1) S.CB.toCls S.mC S.GCX hr2 S.bC .nil (passes_call (takes_of rfl rfl rfl rfl) fun _ _ _ _ h => h) (pa_cons (pv 9) pa_nil))) (pe_tup (pa_cons pe_str (pa_cons pe_str pa_nil))) (nomark _))) (fun _ _ _ _ _ => pv 9)) (pe_lst pa_nil) (nomark _))))))))), ?_⟩
    obtain ⟨hA, al2, al4, chars, npq⟩ := alpha_facts al hal
    obtain ⟨sq, s0', sal, nQ, at0, at1, atl, m0, m1, ml, n01⟩ := alphas_sgn al hal
    generalize al.cps.toList.headD 0 = c0 at at0 m0 n01
    generalize al.cps.toList.getD 1 0 = c1 at at1 m1 n01
    generalize al.cps.toList.getLastD 0 = cl at atl ml
    have psl := X.len
    have kl : (kvC ps).length = ps.length := List.length_map _
    have pP : p ≠ Pn := fun z => by rw [z, pen.pen] at hp; cases hp
    have cp : ∀ {G : Hp} {σ : L2.St}, Ex H G → σ[3]? = some (some (.ref p)) → ∀ Q1 : VK, (∀ q G2, G q = none → Ex G G2 → G2 q = some (.dK (kvG (kvC ps))) → Q1 (.ref q) G2) → (tCB (fun xs H Q => ∃ (a : Addr) (kvs : List (Key × V)), xs = [.ref a] ∧ Rd H a (.dK kvs) ∧ ∀ p, H p = none → Q (.ref p) (upd H p (.dK kvs))) (tCons (tVar 3) tNil)) σ G Q1 := fun {G σ} x es Q1 q1 =>
      ⟨_, es, p, _, rfl, .inl (x _ _ hp), fun q hq => q1 q _ hq (Ex.new hq) upd_same⟩
    refine (?_ : tAsg _ _ _ _ H)
    refine (?_ : tTup _ _ H _)
    refine (?_ : tCons _ _ _ H _)
    refine (?_ : tCB _ _ _ H _)
    refine cp (σ := start nWr [.ref Pn, .ref m, .str al, .ref p]) (Ex.refl _) rfl _ fun a1 H1 n1 x1 e1 => ?_
    refine (?_ : tCB _ _ _ H1 _)
    refine cp (σ := start nWr [.ref Pn, .ref m, .str al, .ref p]) x1 rfl _ fun a2 H2 n2 x2 e2 => ?_
    refine (?_ : tCB _ _ _ H2 _)
    refine cp (σ := start nWr [.ref Pn, .ref m, .str al, .ref p]) (x1.trans x2) rfl _ fun a3 H3 n3 x3 e3 => ?_
    refine (?_ : tCB _ _ _ H3 _)
    refine cp (σ := start nWr [.ref Pn, .ref m, .str al, .ref p]) (x1.trans (x2.trans x3)) rfl _ fun a4 H4 n4 x4 e4 => ?_
    refine ⟨by show 4 ≤ sizeLine; decide, fun t ht => ⟨t, _, rfl, st_of upd_same, rfl, _, _, rfl, _, _, rfl, _, _, rfl, _, _, rfl, rfl, ?_⟩⟩
    have x5 : Ex H4 (upd H4 t (.tup [.ref a1, .ref a2, .ref a3, .ref a4])) := Ex.new ht
    have x14 := x1.trans (x2.trans (x3.trans x4))
    have x05 := x14.trans x5
    have f1 := x5 _ _ (x4 _ _ (x3 _ _ (x2 _ _ e1)))
    have f2 := x5 _ _ (x4 _ _ (x3 _ _ e2))
    have f3 := x5 _ _ (x4 _ _ e3)
    have f4 := x5 _ _ e4
    have d12 : a1 ≠ a2 := ne_of_none e1 n2
    have d13 : a1 ≠ a3 := ne_of_none (x2 _ _ e1) n3
    have d14 : a1 ≠ a4 := ne_of_none (x3 _ _ (x2 _ _ e1)) n4
    have d23 : a2 ≠ a3 := ne_of_none e2 n3
    have d24 : a2 ≠ a4 := ne_of_none (x3 _ _ e2) n4
    have d34 : a3 ≠ a4 := ne_of_none e3 n4
    have o1 : ∀ b o, H b = some o → b ≠ a1 := fun b o hb => ne_of_none hb n1
    have o2 : ∀ b o, H b = some o → b ≠ a2 := fun b o hb => ne_of_none (x1 _ _ hb) n2
    have o3 : ∀ b o, H b = some o → b ≠ a3 := fun b o hb => ne_of_none (x2 _ _ (x1 _ _ hb)) n3
    have o4 : ∀ b o, H b = some o → b ≠ a4 := fun b o hb => ne_of_none (x3 _ _ (x2 _ _ (x1 _ _ hb))) n4
    generalize upd H4 t (.tup [.ref a1, .ref a2, .ref a3, .ref a4]) = H5 at x5 x05 f1 f2 f3 f4 ⊢
    refine (?_ : tSeq _ _ _ [some (.ref Pn), some (.ref m), some (.str al), some (.ref p), some (.ref a1), some (.ref a2), some (.ref a3), some (.ref a4), none, none] H5)
    have sg : ∀ {G : Hp} {σ : L2.St} {i : Int} {c : Nat}, σ[2]? = some (some (.str al)) → atI al.cps.toList i = some c → Ev (tOp rIxS (tVar 2) (tC (.int i))) σ G (.str ⟨#[c]⟩) := fun es e => ev_op (ev_var es) ev_c (rv_ixS (by omega) e)
    -- less
    refine ⟨_, rfl, a1, rfl, .inl ⟨_, .inl f1⟩, ?_⟩
    refine (sg rfl at0) H5 (Ex.refl _) _ fun H6 y6 => ⟨kvG (kvC ps), Sum.inr ⟨#[c0]⟩, _, y6 _ _ f1, rfl, val_ch (X.keys.mem_iff.mpr m0), ?_⟩
    rw [drop_less]
    have g1 : upd H6 a1 (.dK (kvG (kvC (ps.filter fun p => decide (p.1 ≠ c0))))) a1 = some (.dK (kvG (kvC (ps.filter fun p => decide (p.1 ≠ c0))))) := upd_same
    have k1 : ∀ b o, b ≠ a1 → H5 b = some o → upd H6 a1 (.dK (kvG (kvC (ps.filter fun p => decide (p.1 ≠ c0))))) b = some o := fun b o nb hb => by rw [upd_ne nb]; exact y6 _ _ hb
    generalize upd H6 a1 (.dK (kvG (kvC (ps.filter fun p => decide (p.1 ≠ c0))))) = H7 at g1 k1 ⊢
    refine (?_ : tSeq _ _ _ [some (.ref Pn), some (.ref m), some (.str al), some (.ref p), some (.ref a1), some (.ref a2), some (.ref a3), some (.ref a4), none, none] H7)
    -- more
    have f2' := k1 _ _ d12.symm f2
    refine (sg rfl at0) H7 (Ex.refl _) _ fun H8 y8 => ?_
    refine ⟨_, rfl, a2, _, rfl, DPut.k (k := Sum.inr "Q") (y8 _ _ f2') (by unfold kvG; rw [List.length_map, kl, psl, sizeLine_eq]; omega), ?_⟩
    have newQ : ∀ q ∈ kvC ps, q.1 ≠ ("Q" : Str) := fun q hq => by
      obtain ⟨r, hr, rfl⟩ := List.mem_map.mp hq
      exact nQ r.1 (X.keys.mem_iff.mp (List.mem_map.mpr ⟨r, hr, rfl⟩))
    rw [put_new newQ]
    have g2 : upd H8 a2 (.dK (kvG (kvC ps ++ [(("Q" : Str), V.str ⟨#[c0]⟩)]))) a2 = some (.dK (kvG (kvC ps ++ [(("Q" : Str), V.str ⟨#[c0]⟩)]))) := upd_same
    have k2 : ∀ b o, b ≠ a2 → H7 b = some o → upd H8 a2 (.dK (kvG (kvC ps ++ [(("Q" : Str), V.str ⟨#[c0]⟩)]))) b = some o := fun b o nb hb => by rw [upd_ne nb]; exact y8 _ _ hb
    generalize upd H8 a2 (.dK (kvG (kvC ps ++ [(("Q" : Str), V.str ⟨#[c0]⟩)]))) = H9 at g2 k2 ⊢
    refine (?_ : tSeq _ _ _ [some (.ref Pn), some (.ref m), some (.str al), some (.ref p), some (.ref a1), some (.ref a2), some (.ref a3), some (.ref a4), none, none] H9)
    -- twice
    have p9 : H9 p = some (.dK (kvG (kvC ps))) := k2 _ _ (o2 _ _ hp) (k1 _ _ (o1 _ _ hp) (x05 _ _ hp))
    have f3' := k2 _ _ d23.symm (k1 _ _ d13.symm f3)
    refine (ev_dget (k := Sum.inr ⟨#[c1]⟩) (ev_var (i := 3) rfl) (sg rfl at1) p9 (val_ch (X.keys.mem_iff.mpr m1))) H9 (Ex.refl _) _ fun H10 y10 => ?_
    refine ⟨_, rfl, ?_⟩
    refine (sg rfl at0) H10 (Ex.refl _) _ fun H11 y11 => ⟨a3, _, rfl, DPut.k (k := Sum.inr ⟨#[c0]⟩) (y11 _ _ (y10 _ _ f3')) (by unfold kvG; rw [List.length_map, kl, psl, sizeLine_eq]; omega), ?_⟩
    rw [put_old (key_in (X.keys.mem_iff.mpr m0))]
    have g3 : upd H11 a3 (.dK (kvG (setG (kvC ps) ⟨#[c0]⟩ (V.str ⟨#[fch ps c1]⟩)))) a3 = some (.dK (kvG (setG (kvC ps) ⟨#[c0]⟩ (V.str ⟨#[fch ps c1]⟩)))) := upd_same
    have k3 : ∀ b o, b ≠ a3 → H9 b = some o → upd H11 a3 (.dK (kvG (setG (kvC ps) ⟨#[c0]⟩ (V.str ⟨#[fch ps c1]⟩)))) b = some o := fun b o nb hb => by rw [upd_ne nb]; exact y11 _ _ (y10 _ _ hb)
    generalize upd H11 a3 (.dK (kvG (setG (kvC ps) ⟨#[c0]⟩ (V.str ⟨#[fch ps c1]⟩)))) = H12 at g3 k3 ⊢
    refine (?_ : tSeq _ _ _ [some (.ref Pn), some (.ref m), some (.str al), some (.ref p), some (.ref a1), some (.ref a2), some (.ref a3), some (.ref a4), none, none] H12)
    have keep12 : ∀ b o, H b = some o → H12 b = some o := fun b o hb => k3 _ _ (o3 _ _ hb) (k2 _ _ (o2 _ _ hb) (k1 _ _ (o1 _ _ hb) (x05 _ _ hb)))
    have x12 : Ex H H12 := keep12
    have pen12 := pen.mono x12
    have f4' := k3 _ _ d34.symm (k2 _ _ d24.symm (k1 _ _ d14.symm f4))
    have g1' := k3 _ _ d13 (k2 _ _ d12 g1)
    have g2' := k3 _ _ d23 g2
    -- strange
    refine ⟨_, rfl, ?_⟩
    refine (?_ : tLst _ _ H12 _)
    have isO : ∀ {te : TE} {v' : V} {σ : L2.St}, Ev te σ H12 v' → (∀ G, Odd G v') → LenV v' → isSgnV v' al = false → EvP te σ H12 (fun v H => Odd H v ∧ LenV v ∧ isSgnV v al = false) := fun e o l z => evp_v e fun G _ => ⟨o G, l, z⟩
    have upO : Up (fun v H => Odd H v ∧ LenV v ∧ isSgnV v al = false) := fun v G G' x h => ⟨h.1.mono x, h.2⟩
    have lv : ∀ {t : Str}, t.length ≤ 1000 → LenV (.str t) := fun h t e => by cases e; exact h
    have lstO : ∀ {σ : L2.St}, EvP (tLstB (tCons (tC (.str "0")) tNil)) σ H12 (fun v H => Odd H v ∧ LenV v ∧ isSgnV v al = false) := fun {σ} G1 y Q1 q1 => ⟨by show 1 ≤ sizeLine; decide, fun l hl nl => q1 _ _ (Ex.new hl) ⟨.lst (xs := ["0"]) upd_same nl, (fun t e => by cases e), rfl⟩⟩
    refine ep_lst (Ps := [_, _, _, _, _, _, _]) (fun R hR => by
        simp only [List.mem_cons, List.not_mem_nil, or_false, or_self] at hR
        subst hR
        exact upO) (ep_cons upO (isO ev_c (fun _ => .str _) (lv (by decide)) sq) (ep_cons upO (isO ev_c (fun _ => .str _) (lv (by decide)) s0') (ep_cons upO (isO ev_c (fun _ => .non) (fun t e => by cases e) rfl) (ep_cons upO (isO ev_c (fun _ => .int 0) (fun t e => by cases e) rfl) (ep_cons upO (isO (ev_var rfl) (fun _ => .str _) (lv (by omega)) sal)
        (ep_cons upO lstO (ep_cons upO (isO ev_c (fun _ => .bl true) (fun t e => by cases e) rfl) ep_nil))))))) (show 7 ≤ 100000 from by decide) H12 (Ex.refl H12) _ fun wl H13 x13 hwl => ?_
    obtain ⟨l13, xs13, rfl, e13, each13⟩ := hwl
    have n13 : xs13.length = 7 := by
      rw [each13.len]
      rfl
    have pen13 := pen12.mono x13
    refine ⟨Pn, L, l13, ns, xs13, s0, g0, rfl, (fun z => by rw [z] at n13; cases n13), by omega, e13, (fun z => by rw [z, pen13.pen] at e13; cases e13; cases n13), pen13, by omega, fun v s2 gg H14 hv hs2 but14 pen14 => ?_⟩
    obtain ⟨ov, lvv, sv⟩ := each_same7 each13 (fun R hR => by
        simp only [List.mem_cons, List.not_mem_nil, or_false, or_self] at hR
        exact hR) v hv
    have ov14 := odd_but but14 pen13 pen14 ov
    clear each13 e13 n13 hv
    have nP : ∀ {b : Addr} {kvs : List (Key × V)}, H12 b = some (.dK kvs) → b ≠ Pn := fun h z => by rw [z, pen12.pen] at h; cases h
    have st : ∀ {b : Addr} {kvs : List (Key × V)}, H12 b = some (.dK kvs) → H14 b = some (.dK kvs) := fun h => but14 _ _ (nP h) (x13 _ _ h)
    refine ⟨_, rfl, ?_⟩
    refine (?_ : tOp rIxS (tVar 2) (tUn _ (tC (.int 1))) _ H14 _)
    have sgl : Ev (tOp rIxS (tVar 2) (tUn (rU fun i => .int (-i)) (tC (.int 1)))) [some (.ref Pn), some (.ref m), some (.str al), some (.ref p), some (.ref a1), some (.ref a2), some (.ref a3), some (.ref a4), none, none] H14 (.str ⟨#[cl]⟩) := ev_op (ev_var rfl) (ev_un ev_c ru_neg) (rv_ixS (by omega) atl)
    refine sgl H14 (Ex.refl _) _ fun H15 y15 => ⟨a4, _, rfl, DPut.k (k := Sum.inr ⟨#[cl]⟩) (y15 _ _ (st f4')) (by unfold kvG; rw [List.length_map, kl, psl, sizeLine_eq]; omega), ?_⟩
    rw [put_old (key_in (X.keys.mem_iff.mpr ml))]
    have g4 : upd H15 a4 (.dK (kvG (setG (kvC ps) ⟨#[cl]⟩ v))) a4 = some (.dK (kvG (setG (kvC ps) ⟨#[cl]⟩ v))) := upd_same
    have k4 : ∀ b o, b ≠ a4 → H14 b = some o → upd H15 a4 (.dK (kvG (setG (kvC ps) ⟨#[cl]⟩ v))) b = some o := fun b o nb hb => by rw [upd_ne nb]; exact y15 _ _ hb
    generalize upd H15 a4 (.dK (kvG (setG (kvC ps) ⟨#[cl]⟩ v))) = H16 at g4 k4 ⊢
    refine (?_ : tSeq _ _ _ [some (.ref Pn), some (.ref m), some (.str al), some (.ref p), some (.ref a1), some (.ref a2), some (.ref a3), some (.ref a4), none, none] H16)
    have kp16 : Kp Pn H H16 := fun b o nb hb nt => k4 _ _ (o4 _ _ hb) (but14 _ _ nb (x13 _ _ (keep12 _ _ hb)))
    have pen16 : Pen H16 Pn L ns s2 gg := ⟨k4 _ _ (o4 _ _ pen.pen) pen14.pen, k4 _ _ (o4 _ _ pen.cells) pen14.cells, pen14.ne, pen14.few, pen14.left⟩
    have hm := kp_bars kp16 pen B
    have p16 : H16 p = some (.dK (kvG (kvC ps))) := kp16 _ _ pP hp fun ps z => by cases z
    have T16 : LamX.Tabs T H16 := fun q hq => by
      obtain ⟨tb, h1, h2, h3⟩ := hT q hq
      have qP : q.1 ≠ Pn := fun z => by rw [z, pen.pen] at h1; cases h1
      refine ⟨tb, k4 _ _ (o4 _ _ h1) (but14 _ _ qP (x13 _ _ (keep12 _ _ h1))), h2, fun pos cv hcv => ?_⟩
      obtain ⟨cc, e1, e2⟩ := h3 pos cv hcv
      have cP : cc ≠ Pn := fun z => by rw [z, pen.pen] at e2; unfold LamX.CodeO at e2; cases e2
      exact ⟨cc, e1, k4 _ _ (o4 _ _ e2) (but14 _ _ cP (x13 _ _ (keep12 _ _ e2)))⟩
    have ov16 : Odd H16 v := by
      cases ov14 with
      | non => exact .non
      | bl b => exact .bl b
      | int i => exact .int i
      | str t => exact .str t
      | lst h n => exact .lst (k4 _ _ (fun z => by rw [z, st f4'] at h; cases h) h) n
      | tup h => exact .tup (k4 _ _ (fun z => by rw [z, st f4'] at h; cases h) h)
      | dic h => exact .dic (k4 _ _ (fun z => by
          rw [z, st f4'] at h
          have : kvG (kvC ps) = [] := by injection (Option.some.inj h)
          have l0 := congrArg List.length this
          unfold kvG at l0
          rw [List.length_map, kl, psl] at l0
          simp at l0
          omega) h)
    -- the values
    have w1 : WrongT H16 al (.ref a1) := .dic (k4 _ _ d14 (st g1')) (by unfold kvC; rw [List.length_map]; have := List.length_filter_le (fun p : Nat × Nat => decide (p.1 ≠ c0)) ps; omega) kvC_fine (less_bad X m0)
    have w2 : WrongT H16 al (.ref a2) := .dic (k4 _ _ d24 (st g2')) (by rw [List.length_append, kl]; show _ + 1 ≤ _; omega) (fun q hq => by
      rcases List.mem_append.mp hq with h | h
      · exact kvC_fine q h
      · rw [List.mem_singleton.mp h]
        exact ⟨by show 1 ≤ 1000; decide, .str _, lv (by show 1 ≤ 1000; decide)⟩) (signs_bad (q := (("Q" : Str), V.str ⟨#[c0]⟩)) (by simp) (by rw [sq]; rfl))
    have w3 : WrongT H16 al (.ref a3) := .dic (k4 _ _ d34 (st g3)) (by rw [set_len, kl]; omega) (set_fine kvC_fine (.str _) (lv (by show 1 ≤ 1000; decide))) (twice_bad X m0 m1 n01)
    have w4 : WrongT H16 al (.ref a4) := .dic g4 (by rw [set_len, kl]; omega) (set_fine kvC_fine ov16 lvv) (signs_bad (set_mem (key_in (X.keys.mem_iff.mpr ml))) (by rw [sv, Bool.and_false]))
    have up := up_wrong al
    have nb : ∀ {te : TE} {v' : V} {σ : L2.St} {T' : String}, Ev te σ H16 v' → (∀ G, BTy G v' T') → T' ≠ "dict" → EvP te σ H16 (fun v H => WrongT H al v) := fun e b n => evp_v e fun G _ => .bty (b G) n
    have vr : ∀ {b : Addr} {i : Nat} {σ : L2.St}, σ[i]? = some (some (.ref b)) → WrongT H16 al (.ref b) → EvP (tVar i) σ H16 (fun v H => WrongT H al v) := fun e h => evp_var up e h
    have nl : ∀ {σ : L2.St}, EvP (tLst tNil) σ H16 (fun v H => WrongT H al v) := fun {σ} G1 y Q1 q1 => ⟨by show 0 ≤ sizeLine; decide, fun l hl => q1 _ _ (Ex.new hl) (.bty (.lst upd_same) (by decide))⟩
    have nt : ∀ {σ : L2.St}, EvP (tTup tNil) σ H16 (fun v H => WrongT H al v) := fun {σ} G1 y Q1 q1 => ⟨by show 0 ≤ sizeLine; decide, fun l hl => q1 _ _ (Ex.new hl) (.bty (.tup upd_same) (by decide))⟩
    have ndc : ∀ {σ : L2.St}, EvP tDNewK σ H16 (fun v H => WrongT H al v) := fun {σ} G1 y Q1 q1 l hl => q1 _ _ (Ex.new hl) (.dic (ks := []) upd_same (by simp) (fun q hq => by cases hq) (by
      unfold exchB
      have : ¬ ([] : List (Str × V)).length = al.length := by
        show ¬ 0 = al.length
        omega
      rw [decide_eq_false this, Bool.and_false]))
    have ni : ∀ {σ : L2.St}, σ[3]? = some (some (.ref p)) → EvP (LiI.tListItems (tVar 3)) σ H16 (fun v H => WrongT H al v) := fun {σ} es G1 y Q1 q1 => ⟨_, es, p, _, rfl, y _ _ p16, fun G2 l ts x hl nts nin el pr => q1 _ G2 x (.bty (.lst el) (by decide))⟩
    refine q_asgP (P := KU.IsL [fun v H => WrongT H al v, fun v H => WrongT H al v, fun v H => WrongT H al v, fun v H => WrongT H al v, fun v H => WrongT H al v, fun v H => WrongT H al v, fun v H => WrongT H al v, fun v H => WrongT H al v, fun v H => WrongT H al v, fun v H => WrongT H al v, fun v H => WrongT H al v, fun v H => WrongT H al v])
      (ep_lst (fun R hR => by
        simp only [List.mem_cons, List.not_mem_nil, or_false, or_self] at hR
        subst hR
        exact up) (ep_cons up (nb ev_c (fun _ => .non) (by decide)) (ep_cons up (nb ev_c (fun _ => .int 0) (by decide)) (ep_cons up (nb ev_c (fun _ => .bl true) (by decide)) (ep_cons up (nb (ev_var rfl) (fun _ => .str _) (by decide)) (ep_cons up nl (ep_cons up nt (ep_cons up ndc (ep_cons up (ni rfl)
        (ep_cons up (vr rfl w1) (ep_cons up (vr rfl w2) (ep_cons up (vr rfl w3) (ep_cons up (vr rfl w4) ep_nil)))))))))))) (show 12 ≤ 100000 from by decide)) fun wv H17 x17 hwv => ?_
    obtain ⟨l, vs, rfl, el, each17⟩ := hwv
    have allW : ∀ v ∈ vs, WrongT H17 al v := each_same7 each17 (fun R hR => by
        simp only [List.mem_cons, List.not_mem_nil, or_false, or_self] at hR
        exact hR)
    have n17 : vs.length = 12 := by
      rw [each17.len]
      rfl
    clear each17
    refine (?_ : tOp _ _ _ [some (.ref Pn), some (.ref m), some (.str al), some (.ref p), some (.ref a1), some (.ref a2), some (.ref a3), some (.ref a4), some (.ref l), none] H17 _)
    refine ⟨_, rfl, l, rfl, ⟨_, sq_of el⟩, fun D0 hD => ?_⟩
    have xD : Ex H17 (upd H17 D0 (.lst [])) := Ex.new hD
    refine lc_list (K := K) (a := l) (xs := vs) (fun i H' => H' D0 = some (.lst []) ∧ ExT H17 H' ∧ LamX.Tabs T H')
      ⟨upd_same, exT xD, tabs_ex (tabs_ex T16 x17) xD⟩ (fun i H' _ q => sq_of (ext_lst q.2.1 el)) (fun i x H' hx q => ?_) fun H' q => ?_
    · obtain ⟨q1, q2, q3⟩ := q
      have wx := (allW x (List.mem_of_getElem? hx)).ext q2
      have Bx := (hm.mono x17).ext q2
      refine ⟨rfl, ?_⟩
      refine (?_ : tTest _ _ H' _)
      refine (?_ : tOp _ _ _ _ H' _)
      refine (?_ : LamX.tLam T (THeard7 K CO) _ _ H' _)
      refine hears_err7 (Cx := CO) (us := [.str "bars", .str "table"]) (ds := [.str "bars", .str "table"]) [("part", .str "table")] q3 (fun G y E' R' r => ?_) (fun dd G y e => .bars e) (.cons (.str _) (.cons (.str _) .nil)) _ fun hv H18 x18 T18 it nw => ?_
      · have BG := Bx.ext y
        obtain ⟨dx, _, _, _, _, _, hG, _⟩ := BG.at_
        exact ⟨_, rfl, m, dx, _, rfl, hG, rfl, _, rfl, m, x, al, ys, es, rfl, BG, (wx.ext y).tabl, r⟩
      · refine (epd_tup (K := K) (ds := [.str "bars", .str "table"]) (epd_cons (epd_str ev_c) (epd_cons (epd_str ev_c) epd_nil)) (show 2 ≤ 100000 from by decide)) H18 (Ex.refl _) _ fun w2' H19 x19 dw => ?_
        refine ⟨_, _, it_dp (it.ext (exT x19)), dw, by decide +kernel, by decide +kernel, _, rfl, ?_⟩
        have eqv : PyData.eqv (.tuple [.str "bars", .str "table"]) (.tuple [.str "bars", .str "table"]) = true := by decide +kernel
        rw [eqv]
        dsimp only
        rw [if_neg (by decide)]
        have y19 := x18.trans (exT x19)
        exact ⟨ext_lst y19 q1, q2.trans y19, tabs_ex T18 x19⟩
    · obtain ⟨q1, q2, q3⟩ := q
      refine ⟨by show 0 ≤ sizeLine; decide, fun r hr => ?_⟩
      have xr : Ex H' (upd H' r (.lst [])) := Ex.new hr
      refine ⟨.list [], .list [], .lst (sq_of (xr _ _ q1)) .nil, .lst (sq_of upd_same) .nil, by decide +kernel, by decide +kernel, ?_⟩
      have eT : ExT H16 (upd H' r (.lst [])) := (exT x17).trans (q2.trans (exT xr))
      exact k s2 gg _ (by omega) (kp16.trans (kp_ext eT)) (tabs_ex q3 xr) (Pen.ext eT pen16)
end
end K02

set_option Elab.async false
set_option linter.all false
set_option maxRecDepth 100000
set_option maxHeartbeats 4000000
/-! Own classes: truth by len; != by the own == -/
namespace KU
open PySem PySem.Spec PyProof.Rows L2
section
variable {X : Cx} {CX : CXT} {pins : List (Addr × Obj)} {σ : L2.St} {H : Hp} {s : Shared} {C g : Addr} {n : Nat} {sp : Sp} {E : XK}
theorem spec_ins {M : Model} {A : Around} {Ex : Value → Shared → Prop} {Q : Option Value → Shared → Prop} {a : Addr} {ox : Obj} {od : Option Obj} {name : Str} {r : Option Value} (kin : X.K.In s.heap) (J : PySem.W.InstAt s.heap a ox C od)
    (nb : PySem.W.findIn X.K (.ref C) name = some r) (q : Q r s) : wpAny M A (specialOf (.ref a) name) Q Ex s := by
  unfold specialOf
  exact wpAny_bind (J.type _ _ _ _ (fun _ _ h => h) (PySem.W.looks_findIn kin nb _ _ _ _ (fun _ _ h => h) q))
/-- the truth of an instance whose class has __len__ and no __bool__ -/
theorem truthy_lenI {a dx : Addr} {fs : List (Str × V)} {Q : Bool → Hp → Prop} {A : Around} (nb : PySem.W.findIn X.K (.ref C) "__bool__" = some none) (hs : PySem.W.findIn X.K (.ref C) "__len__" = some (some (.ref g))) (hf : PySem.W.isFn X.K (.ref g) = true)
    (F : FnR X.prog X.w X.K X.mg X.base CX n g sp) (hr : Room (n + 1) A) (e0 : Env0 X.prog X.w X.K X.mg X.base A X.stack s H) (hx : Passes CX X E) (I : Inv X pins σ H s) (ha : H a = some (.ins C dx fs))
    (q : sp [.ref a] H (fun z H' => ∃ k : Nat, z = .int (k : Int) ∧ k < 9223372036854775808 ∧ Q (decide (k ≠ 0)) H') E) :
    wpAny (model X.prog X.w) A (truthy (.ref a)) (fun b s' => ∃ H', Inv X pins σ H' s' ∧ Q b H') X.xe s := by
  obtain ⟨od, Ja⟩ := ins_at I ha
  obtain ⟨m, fr⟩ := I.fr
  unfold truthy callSpecial?
  refine wpAny_bind (wpAny_bind (spec_ins I.kIn Ja nb (wpAny_pure ?_)))
  refine wpAny_bind (spec_ins I.kIn Ja hs ?_)
  rw [if_neg (by simp)]
  refine wpAny_bind (runValue_entry (b := Builtin.len) rfl ?_)
  unfold Builtin.len
  show wpAny _ _ (oneArg "len" ⟨[.ref a], []⟩ >>= _) _ _ _
  refine wpAny_bind (wpAny_pure ?_)
  refine wpAny_bind (PySem.W.special_fn I.kIn Ja hs (by unfold PySem.W.isFn at hf; exact eq_of_beq hf) ?_)
  have eA : A.under (Code.builtin "len" ⟨[.ref a], []⟩) = A.in1 := rfl
  rw [eA]
  refine wpAny_mono (own_call F hr.in1 e0.in1 hx I (vs := [.ref a]) (.cons rfl .nil) q) (fun u s' ⟨z, H', I', rz, k, ez, hk, qz⟩ => ?_) fun e s' z => z
  subst ez
  obtain ⟨t, rfl⟩ := rz
  refine wpAny_bind (wpAny_holding (wpAny_pure ?_))
  refine wpAny_bind (wpAny_letGo ?_)
  rw [if_neg (by omega), if_neg (by omega)]
  refine wpAny_bind (thn (Q := fun v s2 => v = Value.int k s'.toks ∧ s2 = { s' with toks := s'.toks + 1 }) ?_ fun v s2 ⟨e1, e2⟩ => ?_)
  · exact wpAny_mkInt ⟨rfl, rfl⟩
  subst e1
  subst e2
  refine wpAny_pure ⟨_, rfl, wpAny_pure ⟨H', I'.tok _, ?_⟩⟩
  have e : ((k : Int) != 0) = decide (k ≠ 0) := by
    by_cases h : k = 0
    · subst h
      rfl
    · have h' : (k : Int) ≠ 0 := by omega
      simp [h, h']
  rw [e]
  exact qz
/-- e as a test, e such an instance -/
def tTruI (C : Addr) (sp : Sp) (E : XK) (te : TE) : TT := fun σ H Q => te σ H fun x H1 => ∃ (a dx : Addr) (fs : List (Str × V)), x = .ref a ∧ H1 a = some (.ins C dx fs) ∧
  sp [.ref a] H1 (fun z H' => ∃ k : Nat, z = .int (k : Int) ∧ k < 9223372036854775808 ∧ Q (decide (k ≠ 0)) H') E
theorem pt_truthI {e : Expr} {te : TE} (he : PE X e te) (nb : PySem.W.findIn X.K (.ref C) "__bool__" = some none) (hs : PySem.W.findIn X.K (.ref C) "__len__" = some (some (.ref g))) (hf : PySem.W.isFn X.K (.ref g) = true)
    (F : FnR X.prog X.w X.K X.mg X.base CX n g sp) (hr : Room (n + 1) X.A) (hx : Passes CX X E)
    (hsh : ∀ whole : Sem Value, PySem.isTrue e X.env whole = (do let v ← whole; standAt e.pos; holding [v] (truthy v)) := by intro _; rfl) : PT X e (tTruI C sp E te) := by
  refine ⟨fun pins s σ H Q I h => ?_⟩
  rw [hsh]
  refine wpAny_bind (thn (he.run pins s σ H _ I h) fun u s1 ⟨x, H1, I1, rx, a, dx, fs, ex, ha, q⟩ => ?_)
  subst ex
  obtain rfl : u = Value.ref a := rx
  refine wpAny_bind (wpAny_standAt ?_)
  exact wpAny_holding (truthy_lenI nb hs hf F hr I1.env0 hx I1 ha q)
/-- a != b, both of one class, by its own == -/
def rNeI (C : Addr) (sp : Sp) (E : XK) : R2 := fun x y H Q => ∃ (a dx : Addr) (fs : List (Str × V)) (b dy : Addr) (gs : List (Str × V)), x = .ref a ∧ y = .ref b ∧ H a = some (.ins C dx fs) ∧ H b = some (.ins C dy gs) ∧
  sp [x, y] H (fun z H' => ∃ k : Bool, z = .bl k ∧ Q (.bl !k) H') E
theorem call_objNe {a b : Addr} {ox : Obj} {od : Option Obj} {A : Around} {P : Value → Shared → Prop} {Ex : Value → Shared → Prop} {pr : Program} {w : World} (kin : X.K.In s.heap) (Ja : PySem.W.InstAt s.heap a ox C od)
    (he : PySem.W.findIn X.K (.ref C) "__eq__" = some (some (.ref g))) (hf : PySem.W.isFn X.K (.ref g) = true) (hm : PySem.W.mroIn X.K C (.type "object") = some true) (hu : A.in1.units < cLine)
    (h : wpAny (model pr w) A.in1 (call (.ref g) [.ref a, .ref b]) (fun v s' => ∃ k, v = .bool k ∧ P (.bool !k) s') Ex s) :
    wpAny (model pr w) A (call (.builtin "object.__ne__") [.ref a, .ref b]) P Ex s := by
  refine wpAny_call (codeAny_call_builtin F.cmp_object.ne.plain F.cmpEntry_ne (PySem.W.check_slot F.cmpKind_ne F.cmpSplit_ne (PySem.W.Looks.andThen Ja.type (PySem.W.looks_mroIn kin hm)) (F.cmpArgs_ne _ _) ?_))
  unfold Builtin.«object.__ne__»
  have es : slotArgs "__ne__" 1 ⟨[.ref a, .ref b], []⟩ = pure (.ref a, [.ref b]) := rfl
  rw [es]
  refine wpAny_bind (wpAny_pure ?_)
  refine wpAny_bind (wpAny_cRoomFor hu ?_)
  refine wpAny_bind (PySem.W.ifBound_K kin Ja he hf (wpAny_mono h (fun r s' ⟨k, ek, q⟩ => ?_) fun _ _ e => e))
  subst ek
  exact wpAny_bind (wpAny_pure (wpAny_pure q))
end
end KU

set_option Elab.async false
set_option linter.all false
set_option maxRecDepth 100000
set_option maxHeartbeats 4000000
/-! Own classes: != by the own == -/
namespace KU
open PySem PySem.Spec PyProof.Rows L2
theorem ifBound_ne {M : Model} {A : Around} {Ex : Value → Shared → Prop} {s : Shared} {K : PySem.W.Frag} {x C : Addr} {ox : Obj} {od : Option Obj} {args : List Value} {Q : Option Value → Shared → Prop} (X : K.In s.heap) (I : PySem.W.InstAt s.heap x ox C od)
    (hs : PySem.W.findIn K (.ref C) "__ne__" = some (some (.builtin "object.__ne__"))) (h : wpAny M A (call (.builtin "object.__ne__") (.ref x :: args)) (fun v => Q (some v)) Ex s) :
    wpAny M A (callSpecialIfBound? (.ref x) "__ne__" args) Q Ex s := by
  unfold callSpecialIfBound? bindSpecialIfBound? specialOf
  refine wpAny_holding (wpAny_bind (wpAny_bind (wpAny_bind (PySem.W.Looks.here I.type (PySem.W.Looks.here (PySem.W.looks_findIn X hs) ?_)))))
  refine wpAny_bind (wpAny_askSetting (wpAny_ite ?_))
  have fin : wpAny M A (call (.builtin "object.__ne__") (.ref x :: args) >>= fun a => pure (some a)) Q Ex s := wpAny_bind (wpAny_mono h (fun v s' h' => wpAny_pure h') fun _ _ h' => h')
  split
  · exact wpAny_bind (wpAny_of_eq (F.cmp_object.ne.bind (.ref x)) (wpAny_pure fin))
  · exact wpAny_tryCatch (wpAny_bind (wpAny_of_eq (F.cmp_object.ne.bind (.ref x)) (wpAny_pure fin)))
section
variable {X : Cx} {CX : CXT} {pins : List (Addr × Obj)} {σ : L2.St} {H : Hp} {s : Shared} {C g : Addr} {n : Nat} {sp : Sp} {E : XK}
theorem op_neI (hs : PySem.W.findIn X.K (.ref C) "__ne__" = some (some (.builtin "object.__ne__"))) (he : PySem.W.findIn X.K (.ref C) "__eq__" = some (some (.ref g))) (hf : PySem.W.isFn X.K (.ref g) = true)
    (hm : PySem.W.mroIn X.K C (.type "object") = some true) (F : FnR X.prog X.w X.K X.mg X.base CX n g sp) (hr : Room (n + 1) X.A) (hx : Passes CX X E) : OpR X (compareOp .NotEq) (rNeI C sp E) := by
  intro pins s σ H x y u v Q I rx ry h
  obtain ⟨a, dx, fs, b, dy, gs, rfl, rfl, ha, hb, q⟩ := h
  obtain rfl : u = Value.ref a := rx
  obtain rfl : v = Value.ref b := ry
  obtain ⟨od, Ja⟩ := ins_at I ha
  obtain ⟨oe, Jb⟩ := ins_at I hb
  have hu : X.A.units < cLine := Nat.lt_of_le_of_lt (Nat.le_add_right _ 64) hr.units
  have hu1 : X.A.in1.units < cLine := Nat.lt_of_le_of_lt (Nat.le_add_right _ 64) hr.in1.units
  show wpAny _ _ (richCompare .NotEq (.ref a) (.ref b)) _ _ _
  unfold richCompare
  refine wpAny_holding (wpAny_bind (wpAny_cRoomFor hu ?_))
  have e1 : oneThing? .NotEq (.ref a) (.ref b) = none := rfl
  rw [e1]
  show wpAny _ _ (typeOf (.ref a) >>= _) _ _ _
  refine wpAny_bind (PySem.W.Looks.here Ja.type (wpAny_bind (PySem.W.Looks.here Jb.type ?_)))
  rw [if_neg (by simp)]
  refine wpAny_bind (wpAny_pure ?_)
  show wpAny _ _ (tryCompare (.ref a) "__ne__" (.ref b) >>= _) _ _ _
  refine wpAny_bind ?_
  unfold tryCompare
  refine wpAny_bind (ifBound_ne I.kIn Ja hs (call_objNe I.kIn Ja he hf hm hu1 ?_))
  refine wpAny_mono (own_call F hr.in1 I.env0.in1 hx I (vs := [.ref a, .ref b]) (.cons rfl (.cons rfl .nil)) q) (fun u s' ⟨z, H', I', rz, k, ez, qz⟩ => ?_) fun e s' z => z
  subst ez
  cases rz
  exact ⟨k, rfl, wpAny_pure (wpAny_pure ⟨.bl !k, H', I', rfl, qz⟩)⟩
end
end KU

set_option Elab.async false
set_option linter.all false
set_option maxRecDepth 100000
set_option maxHeartbeats 4000000
/-! Exchanged bars, pairs, dicts, ends as values of expressions -/
namespace K02
open PySem PySem.Spec PyProof.Rows L2 Evl KU
/-- a table of this exchange -/
def IsX (ps : List (Nat × Nat)) : V → Hp → Prop := fun v H => ∃ p, v = .ref p ∧ H p = some (.dK (kvG (kvC ps)))
theorem up_isX (ps : List (Nat × Nat)) : Up (IsX ps) := fun v H H' x ⟨p, e, h⟩ => ⟨p, e, x _ _ h⟩
def pairsS (ps : List (Nat × Nat)) : List (List Str) := ps.map fun p => [⟨#[p.1]⟩, ⟨#[p.2]⟩]
/-- a list of pairs -/
def IsItm (ps : List (Nat × Nat)) : V → Hp → Prop := fun v H => ∃ (l : Addr) (ts : List Addr), v = .ref l ∧ H l = some (.lst (ts.map V.ref)) ∧ Paired (fun (t : Addr) (p : Nat × Nat) => H t = some (.tup [V.str ⟨#[p.1]⟩, V.str ⟨#[p.2]⟩])) ts ps
theorem up_isItm (ps : List (Nat × Nat)) : Up (IsItm ps) := fun v H H' x ⟨p, ts, e, h, pr⟩ => ⟨p, ts, e, x _ _ h, paired_imp pr fun _ _ h => x _ _ h⟩
theorem itm_each {H : Hp} : ∀ {ts : List Addr} {ps : List (Nat × Nat)}, Paired (fun (t : Addr) (p : Nat × Nat) => H t = some (.tup [V.str ⟨#[p.1]⟩, V.str ⟨#[p.2]⟩])) ts ps → Each ((pairsS ps).map IsTS) (ts.map V.ref) H
  | _, _, .nil => .nil
  | _, _, .cons h t => .cons ⟨_, rfl, h⟩ (itm_each t)
theorem itm_dp {K : PySem.W.Frag} {H : Hp} {v : V} {ps : List (Nat × Nat)} (h : IsItm ps v H) : Dp K H v (.list ((pairsS ps).map fun ws => .tuple (dstrs ws))) := by
  obtain ⟨l, ts, rfl, hl, pr⟩ := h
  exact .lst (sq_of hl) (all_ts (itm_each pr))
theorem ok_ch {al : Str} (chars : ∀ c ∈ al.cps.toList, c < 128) {c : Nat} (h : c ∈ al.cps.toList) : PyData.strOk (⟨#[c]⟩ : Str) = true := by
  have := chars c h
  unfold PyData.strOk
  show ([c] : List Nat).toArray.all _ = true
  simp
  omega
theorem pairs_ok {al : Str} {ps : List (Nat × Nat)} (hal : al ∈ alphas) (X : XT al ps) : ∀ ws ∈ pairsS ps, ∀ t ∈ ws, PyData.strOk t = true := fun ws hw t ht => by
  obtain ⟨p, hp, rfl⟩ := List.mem_map.mp hw
  have small := alphas_small al hal
  have k1 := X.keys.mem_iff.mp (List.mem_map.mpr ⟨p, hp, rfl⟩)
  have k2 := X.vals.mem_iff.mp (List.mem_map.mpr ⟨p, hp, rfl⟩)
  rcases List.mem_cons.mp ht with rfl | ht
  · exact ok_ch small k1
  · rw [List.mem_singleton.mp ht]
    exact ok_ch small k2
theorem XT.back {al : Str} {ps : List (Nat × Nat)} (X : XT al ps) : XT al (al.cps.toList.map fun c => (fch ps c, c)) ∧ ∀ c ∈ al.cps.toList, fch (al.cps.toList.map fun c => (fch ps c, c)) (fch ps c) = c := by
  have pk : (al.cps.toList.map (fch ps)).Perm al.cps.toList := by
    have e : ps.map (·.2) = (ps.map (·.1)).map (fch ps) := by
      rw [List.map_map]
      exact List.map_congr_left fun p hp => (fch_of (X.keys.nodup_iff.mpr X.nd) hp).symm
    have := (X.keys.map (fch ps)).symm
    rw [← e] at this
    exact this.trans X.vals
  have hk : (al.cps.toList.map fun c => (fch ps c, c)).map (·.1) = al.cps.toList.map (fch ps) := by
    rw [List.map_map]
    rfl
  have hv : (al.cps.toList.map fun c => (fch ps c, c)).map (·.2) = al.cps.toList := by
    rw [List.map_map]
    exact List.map_id' _
  have Y : XT al (al.cps.toList.map fun c => (fch ps c, c)) := ⟨by rw [hk]; exact pk, by rw [hv], X.nd⟩
  refine ⟨Y, fun c hc => ?_⟩
  exact fch_of (Y.keys.nodup_iff.mpr X.nd) (List.mem_map.mpr ⟨c, hc, rfl⟩)
theorem xt_same {al : Str} (nd : al.cps.toList.Nodup) : XT al (al.cps.toList.map fun c => (c, c)) ∧ ∀ c ∈ al.cps.toList, fch (al.cps.toList.map fun c => (c, c)) c = c := by
  have hk : (al.cps.toList.map fun c => (c, c)).map (·.1) = al.cps.toList := by
    rw [List.map_map]
    exact List.map_id' _
  have hv : (al.cps.toList.map fun c => (c, c)).map (·.2) = al.cps.toList := by
    rw [List.map_map]
    exact List.map_id' _
  have Y : XT al (al.cps.toList.map fun c => (c, c)) := ⟨by rw [hk], by rw [hv], nd⟩
  exact ⟨Y, fun c hc => fch_of (Y.keys.nodup_iff.mpr nd) (List.mem_map.mpr ⟨c, hc, rfl⟩)⟩
theorem xs_same {al t : Str} {f : Nat → Nat} (h : ∀ c ∈ al.cps.toList, f c = c) (o : Over al t) : xS f t = t := str_eq (by
  rw [x_cps]
  conv => rhs; rw [← List.map_id t.cps.toList]
  exact List.map_congr_left fun c hc => h c (o c hc))
theorem merge_new : ∀ (ks acc : List (Key × V)), (acc.map (·.1) ++ ks.map (·.1)).Nodup → mergeK acc ks = acc ++ ks
  | [], acc, _ => (List.append_nil _).symm
  | p :: r, acc, nd => by
    have np : p.1 ∉ acc.map (·.1) := fun h => by
      rw [List.nodup_append] at nd
      exact nd.2.2 _ h _ List.mem_cons_self rfl
    have e : putK acc p.1 p.2 = acc ++ [p] := by
      unfold putK
      rw [if_neg]
      rw [Bool.not_eq_true, List.any_eq_false]
      intro q hq z
      have z' : q.1 = p.1 := of_decide_eq_true z
      exact np (List.mem_map.mpr ⟨q, hq, z'⟩)
    show mergeK (putK acc p.1 p.2) r = _
    rw [e, merge_new r (acc ++ [p]) (by rw [List.map_append, List.append_assoc]; exact nd), List.append_assoc]
    rfl
theorem merge_kvC {ps : List (Nat × Nat)} (nd : (ps.map (·.1)).Nodup) : mergeK [] (kvG (kvC ps)) = kvG (kvC ps) := by
  rw [merge_new _ _ ?_, List.nil_append]
  rw [List.map_nil, List.nil_append]
  unfold kvG kvC
  rw [List.map_map, List.map_map]
  have e : ps.map (((fun q : Key × V => q.1) ∘ fun q : Str × V => ((Sum.inr q.1 : Key), q.2)) ∘ fun p : Nat × Nat => ((⟨#[p.1]⟩ : Str), V.str ⟨#[p.2]⟩)) = (ps.map (·.1)).map fun c => (Sum.inr ⟨#[c]⟩ : Key) := by
    rw [List.map_map]
    rfl
  rw [e]
  exact List.pairwise_map.mpr (nd.imp fun ne e => ne (one_inj (Sum.inr.inj e)))
theorem nodup_xs {al : Str} {f : Nat → Nat} (X : Xch al f) : ∀ {es : List Str}, es.Nodup → (∀ e ∈ es, Over al e) → (es.map (xS f)).Nodup := fun nd ov =>
  List.pairwise_map.mpr (nd.imp_of_mem fun {a b} ha hb ne e => ne (x_inj X (ov a ha) (ov b hb) e))
section
variable {K : PySem.W.Frag} {C : Addr} {σ : L2.St} {H : Hp} {E : XK} {te ta tb tl : TE} {al : Str} {ys zs : List Str} {ps : List (Nat × Nat)} {n : Nat} {mg : Str → Option Value}
theorem ev_neY7 {bl : Str} (ha : EvP ta σ H (IsB C al ys)) (hb : EvP tb σ H (IsB C bl zs)) : Ev (tOp (rNeI C (spEqB C) E) ta tb) σ H (.bl (!(decide (al = bl) && decide (ys = zs)))) := fun H1 x1 Q q =>
  ha H1 x1 _ fun v H2 x2 p1 => hb H2 (x1.trans x2) _ fun w H3 x3 ⟨y, ew, B2⟩ => by
    obtain ⟨x, ev, B1⟩ := up_isB C al ys _ _ _ x3 p1
    subst ev ew
    obtain ⟨dx, _, _, _, _, _, e1, _⟩ := B1.at_
    obtain ⟨dy, _, _, _, _, _, e2, _⟩ := B2.at_
    exact ⟨x, dx, _, y, dy, _, rfl, rfl, e1, e2, x, y, al, bl, ys, zs, _, _, rfl, B1, B2, fun H4 x4 => ⟨_, rfl, q H4 ((x2.trans x3).trans x4)⟩⟩
theorem evp_chg (X : XT al ps) (W : Wd al ys n) (ha : EvP te σ H (IsB C al ys)) (hb : EvP ta σ H (IsX ps)) : EvP (tMeth C "changed" (spChg C) [] E te (tCons ta tNil)) σ H (IsB C al (leastS (ys.map (xS (fch ps))))) := fun H1 x1 Q q =>
  ha H1 x1 _ fun v H2 x2 ⟨a, ea, B⟩ => by
    subst ea
    obtain ⟨dx, W1, N, L, zz, O, h1, _⟩ := B.at_
    refine ⟨a, dx, _, rfl, h1, rfl, hb H2 (x1.trans x2) _ fun u H3 x3 ⟨p, eu, hp⟩ => ?_⟩
    subst eu
    exact ⟨a, p, al, ys, _, ps, n, rfl, B.mono x3, hp, X, W, fun v H4 x4 h => q v H4 (x2.trans (x3.trans x4)) h⟩
theorem evp_chgK (X : XT al ps) (W : Wd al ys n) (ha : EvP te σ H (IsB C al ys)) (hb : EvP ta σ H (IsX ps)) : EvP (tMethK C "changed" 1 (spChg C) (fun zs => zs) te (tCons ta tNil)) σ H (IsB C al (leastS (ys.map (xS (fch ps))))) := fun H1 x1 Q q =>
  ha H1 x1 _ fun v H2 x2 ⟨a, ea, B⟩ => by
    subst ea
    obtain ⟨dx, W1, N, L, zz, O, h1, _⟩ := B.at_
    refine ⟨a, dx, _, rfl, h1, rfl, hb H2 (x1.trans x2) _ fun u H3 x3 ⟨p, eu, hp⟩ => ⟨rfl, ?_⟩⟩
    subst eu
    exact ⟨a, p, al, ys, _, ps, n, rfl, B.mono x3, hp, X, W, fun v H4 x4 h => q v H4 (x2.trans (x3.trans x4)) h⟩
theorem evp_ends (CB : ClsI K mg C) (h : EvP te σ H (IsB C al ys)) : EvP (tFld K te "ends") σ H (IsTS (endsS ys)) := fun H1 x1 Q q => h H1 x1 _ fun v H2 x2 ⟨x, e, B⟩ => by
  obtain ⟨dx, W, N, L, zz, O, h1, h2, h3, _⟩ := B.at_
  exact ⟨x, C, dx, _, _, e, h1, CB.toCls, CB.nEnds, rfl, q _ H2 x2 ⟨N, rfl, h3⟩⟩
theorem ev_signs7 (CB : ClsI K mg C) (h : EvP te σ H (IsB C al ys)) : Ev (tFld K te "signs") σ H (.str al) := fun H1 x1 Q q => h H1 x1 _ fun v H2 x2 ⟨x, e, B⟩ => by
  obtain ⟨dx, W, N, L, zz, O, h1, h2, h3, _⟩ := B.at_
  exact ⟨x, C, dx, _, _, e, h1, CB.toCls, CB.nSigns, rfl, q H2 x2⟩
theorem ev_end7 (W : Wd al ys n) {t : Str} (ha : EvP te σ H (IsB C al ys)) (ht : Ev ta σ H (.str t)) (ov : Over al t) (tl : t.length ≤ 1000) (free : holdsB t ys = false) : Ev (tMeth C "end_of" (spEndOf C) [] E te (tCons ta tNil)) σ H (.str (endF (endsS ys) t)) := fun H1 x1 Q q =>
  ha H1 x1 _ fun v H2 x2 ⟨a, ea, B⟩ => by
    subst ea
    obtain ⟨dx, W1, N, L, zz, O, h1, _⟩ := B.at_
    have fit := W.few.fit (fun t ht => ht) (by have := W.len; omega)
    have e : ys.Perm (leastU ys) := (List.perm_ext_iff_of_nodup W.least.nodup (nodup_least ys)).mpr fun x => by rw [← mem_leastS, W.least]
    have e2 : (endsS ys).Perm (uniq (endsL ys)) := (List.perm_ext_iff_of_nodup (nodup_srt _) (nodup_uniq _)).mpr fun x => (mem_srt _ x).trans (mem_uniq _ x).symm
    have el : (endsS ys).length ≤ 1000 := by
      have := (fit.ends ys e).2
      have l2 := e2.length_eq
      omega
    refine ⟨a, dx, _, rfl, h1, rfl, ht H2 (x1.trans x2) _ fun H3 x3 => ?_⟩
    exact ⟨a, t, al, ys, _, rfl, B.mono x3, (mem_srt _ _).mpr (mem_ends.mpr (.inl rfl)), el, ov, tl, free, fun H4 x4 => q H4 (x2.trans (x3.trans x4))⟩
/-- sorted(list of texts, no two alike) -/
theorem es_sorted {ws : List Str} (h : EvL tl σ H (ws.map V.str)) (nd : ws.Nodup) (lt : ws.length < 64) : EvP (tCB (rSortedS K) (tCons tl tNil)) σ H (IsSL (srt ws)) := fun H1 x1 Q q =>
  h H1 x1 _ fun p H2 hp x2 e => ⟨p, ws, rfl, sq_of e, lt, fun ys r pe so hr => by
    have es : ys = srt ws := srt_is so (pe.nodup_iff.mpr nd) fun k => pe.mem_iff
    subst es
    exact q _ _ (x2.trans (Ex.new hr)) ⟨r, rfl, upd_same⟩⟩
abbrev rListOf (K : PySem.W.Frag) : List V → Hp → VK → Prop := fun xs H Q => ∃ p ys, xs = [V.ref p] ∧ (SqL K H p ys ∨ SqT K H p ys) ∧ ∀ l : Addr, H l = none → Q (V.ref l) (upd H l (.lst ys))
theorem es_listT {ws : List Str} (h : EvP te σ H (IsTS ws)) : EvP (tCB (rListOf K) (tCons te tNil)) σ H (IsSL ws) := fun H1 x1 Q q =>
  h H1 x1 _ fun v H2 x2 ⟨p, e, hp⟩ => by
    subst e
    exact ⟨p, _, rfl, .inr (st_of hp), fun l hl => q _ _ (x2.trans (Ex.new hl)) ⟨l, rfl, upd_same⟩⟩
theorem ev_neSL {us ws : List Str} (ha : EvP ta σ H (IsSL us)) (hb : EvP tb σ H (IsSL ws)) (o1 : ∀ t ∈ us, PyData.strOk t = true) (o2 : ∀ t ∈ ws, PyData.strOk t = true) : Ev (tOp (rNeD K) ta tb) σ H (.bl (!decide (us = ws))) :=
  ev_opPP (up_isSL us) ha hb fun x y H1 x1 ⟨p, e, h⟩ ⟨q, e2, h2⟩ => by
    subst e e2
    exact rv_neL h h2 o1 o2
/-- list(d.items()) -/
theorem evp_items (h : EvP te σ H (IsX ps)) : EvP (LiI.tListItems te) σ H (IsItm ps) := fun H1 x1 Q q => h H1 x1 _ fun v H2 x2 ⟨p, e, hp⟩ => by
  subst e
  refine ⟨p, _, rfl, hp, fun H3 l ts x3 hl nts nin el pr => q _ H3 (x2.trans x3) ⟨l, ts, rfl, el, ?_⟩⟩
  have go : ∀ {ts : List Addr} {ps : List (Nat × Nat)}, Paired (fun (t : Addr) (q : Key × V) => H3 t = some (.tup [kV q.1, q.2])) ts (kvG (kvC ps)) → Paired (fun (t : Addr) (p : Nat × Nat) => H3 t = some (.tup [V.str ⟨#[p.1]⟩, V.str ⟨#[p.2]⟩])) ts ps := by
    intro ts ps
    induction ps generalizing ts with
    | nil =>
      intro h
      cases h
      exact .nil
    | cons p r ih =>
      intro h
      cases h with
      | cons a b => exact .cons a (ih b)
  exact go pr
theorem ev_neItm (okp : ∀ ws ∈ pairsS ps, ∀ t ∈ ws, PyData.strOk t = true) (ha : EvP ta σ H (IsItm ps)) (hb : EvP tb σ H (IsItm ps)) : Ev (tOp (rNeD K) ta tb) σ H (.bl false) :=
  ev_opPP (up_isItm ps) ha hb fun x y H1 x1 h1 h2 H2 x2 Q q => by
    have s := shaped_ts (pairsS ps) okp
    refine ⟨_, _, itm_dp (up_isItm ps _ _ _ x2 h1), itm_dp (up_isItm ps _ _ _ x2 h2), s, s, ?_⟩
    rw [eqv_ts (pairsS ps) okp]
    exact q H2 (Ex.refl _)
/-- [(a, b) for sign in text] -/
theorem evp_pairs {z : Str} {t1 t2 : TE} {j : Nat} {vs : List Nat} (k v : Nat → Nat) (hx : Ev tl σ H (.str z)) (hl : z.length ≤ 1000) (hw : ∀ x : V, wipe ((wipe σ vs).set j (some x)) vs = wipe σ vs)
    (h1 : ∀ (c : Nat) (H1 : Hp), Ex H H1 → c ∈ z.cps.toList → Ev t1 ((wipe σ vs).set j (some (.str ⟨#[c]⟩))) H1 (.str ⟨#[k c]⟩)) (h2 : ∀ (c : Nat) (H1 : Hp), Ex H H1 → c ∈ z.cps.toList → Ev t2 ((wipe σ vs).set j (some (.str ⟨#[c]⟩))) H1 (.str ⟨#[v c]⟩)) :
    EvP (tLc (iStr tl) (gName j) tYes (tTup (tCons t1 (tCons t2 tNil))) vs) σ H (IsItm (z.cps.toList.map fun c => (k c, v c))) := fun H1 x1 Q q =>
  hx H1 x1 _ fun H2 x2 => ⟨z, rfl, fun D hD => by
    have lz := len_cps z
    have ll : ((signsL z).map V.str).length = z.cps.toList.length := by
      rw [List.length_map, signsL, List.length_map]
    refine lc_it walk_signsG (Pv := fun i H' => Ex H2 H' ∧ ∃ ts : List Addr, H' D = some (.lst (ts.map V.ref)) ∧ Paired (fun (t : Addr) (p : Nat × Nat) => H' t = some (.tup [V.str ⟨#[p.1]⟩, V.str ⟨#[p.2]⟩])) ts ((z.cps.toList.take i).map fun c => (k c, v c)))
      ⟨Ex.new hD, [], upd_same, .nil⟩ (fun _ _ _ _ => trivial) (fun i x H3 H4 hi c y => ?_) fun H3 c => ?_
    · obtain ⟨rfl, ex⟩ := y
      obtain ⟨x3, ts, hd, pr⟩ := c
      rw [List.getElem?_map, signsL, List.getElem?_map] at ex
      obtain ⟨c0, e0, rfl⟩ := Option.map_eq_some_iff.mp ex
      obtain ⟨c, ec, rfl⟩ := Option.map_eq_some_iff.mp e0
      have mc := List.mem_of_getElem? ec
      rw [ll] at hi
      have x13 := x1.trans (x2.trans x3)
      refine ⟨hw _, ?_⟩
      unfold tYes
      dsimp only
      rw [if_pos rfl]
      refine (ea_cons (h1 c H4 x13 mc) (ea_cons (h2 c H4 x13 mc) ea_nil)) H4 (Ex.refl _) _ fun H5 x5 => ⟨by show 2 ≤ sizeLine; decide, fun t ht => ?_⟩
      have nD : D ≠ t := ne_of_none (x5 _ _ hd) ht
      have xt : Ex H5 (upd H5 t (.tup [.str ⟨#[k c]⟩, .str ⟨#[v c]⟩])) := Ex.new ht
      have tl' : ts.length ≤ 1000 := by
        have := Paired.length pr
        rw [List.length_map, List.length_take] at this
        omega
      refine ⟨ts.map V.ref, xt _ _ (x5 _ _ hd), by rw [List.length_map, sizeLine_eq]; omega, ?_, ts ++ [t], ?_, ?_⟩
      · intro b o hb
        have nb : b ≠ D := ne_of_none hb hD
        rw [upd_ne nb]
        exact xt _ _ (x5 _ _ (x3 _ _ hb))
      · rw [upd_same, List.map_append]
        rfl
      · rw [List.take_succ, ec, List.map_append]
        have ap : ∀ {as : List Addr} {bs : List (Nat × Nat)} {F G : Addr → Nat × Nat → Prop}, Paired F as bs → (∀ a b, F a b → G a b) → ∀ {x y}, G x y → Paired G (as ++ [x]) (bs ++ [y]) := by
          intro as bs F G h i x y g
          induction h with
          | nil => exact .cons g .nil
          | cons a b ih => exact .cons (i _ _ a) ih
        refine ap pr (fun a b h => ?_) ?_
        · have na : a ≠ D := fun z => by
            rw [z, hd] at h
            cases h
          rw [upd_ne na]
          exact xt _ _ (x5 _ _ h)
        · show upd _ D _ t = _
          rw [upd_ne nD.symm]
          exact upd_same
    · obtain ⟨x3, ts, hd, pr⟩ := c
      rw [ll, List.take_length] at pr
      exact q _ H3 (x2.trans x3) ⟨D, ts, rfl, hd, pr⟩⟩
abbrev rDictP (K : PySem.W.Frag) : List V → Hp → VK → Prop := fun xs H Q => ∃ (a : Addr) (ps : List Addr) (kvs : List (Key × V)), xs = [V.ref a] ∧ SqL K H a (ps.map V.ref) ∧ Paired (fun p kv => SqT K H p [kV kv.1, kv.2]) ps kvs ∧
    ∀ p : Addr, H p = none → Q (V.ref p) (upd H p (.dK (mergeK [] kvs)))
/-- dict(list of pairs) -/
theorem evp_dictP (nd : (ps.map (·.1)).Nodup) (h : EvP tl σ H (IsItm ps)) : EvP (tCB (rDictP K) (tCons tl tNil)) σ H (IsX ps) := fun H1 x1 Q q => h H1 x1 _ fun u H2 x2 ⟨l, ts, e, hl, pr⟩ => by
  subst e
  have go : ∀ {ts : List Addr} {ps : List (Nat × Nat)}, Paired (fun (t : Addr) (p : Nat × Nat) => H2 t = some (.tup [V.str ⟨#[p.1]⟩, V.str ⟨#[p.2]⟩])) ts ps → Paired (fun p kv => SqT K H2 p [kV kv.1, kv.2]) ts (kvG (kvC ps)) := by
    intro ts ps h
    induction h with
    | nil => exact .nil
    | cons a b ih => exact .cons (st_of a) ih
  refine ⟨l, ts, kvG (kvC ps), rfl, sq_of hl, go pr, fun p hp => ?_⟩
  rw [merge_kvC nd]
  exact q _ _ (x2.trans (Ex.new hp)) ⟨p, rfl, upd_same⟩
end
end K02

set_option Elab.async false
set_option linter.all false
set_option maxRecDepth 100000
set_option maxHeartbeats 4000000
/-! The law -/
namespace K02
open PySem PySem.Spec PyProof.Rows L2 Evl KU
abbrev sLaw : Stmt := topR 53
abbrev nLaw : List Str := ["_law_script", "_law_pen_here", "_law_turn", "_law_signs_here", "_law_words_here", "_law_made_here", "_law_table_here", "_law_kept", "_law_later", "_law_text_here", "_law_back", "_law_word", "_law_end", "_law_sign"]
theorem scLaw : FnScope nLaw ["_law_script"] (defScope sLaw) := ⟨rfl, rfl, rfl, by decide +kernel, rfl, by decide +kernel, by decide +kernel⟩
def spLawT (K : PySem.W.Frag) (T : List (Addr × Str)) : Sp := fun vs H Q _ => ∃ (a : Addr) (ns : List Int), vs = [.ref a] ∧ SqL K H a (vints ns) ∧ ns.length ≤ 63 ∧ LamX.Tabs T H ∧ ∀ H', Q (.bl true) H'
theorem wd_of {al : Str} {ws : List Str} (ha : al ∈ alphas) (D : Drawn al 5 ws) : Wd al (leastS ws) 28 ∧ ws.length < 64 ∧ (∀ t ∈ ws, PyData.strOk t = true) := by
  obtain ⟨few, l6⟩ := drawn_few ha (by decide) D
  obtain ⟨us, vs, rfl, l1, l2, h1, h2⟩ := D
  have nd := nodup_leastS (us ++ vs)
  have sub : ∀ t ∈ leastS (us ++ vs), t ∈ us ++ vs := fun t ht => leastS_sub ht
  have t1 := sum_sub (fun t => t.length) _ _ nd sub
  have t3 := leastS_len (us ++ vs)
  rw [List.map_append, List.sum_append] at t1
  have b1 := sum_bound (fun t => t.length) 4 us fun t ht => (h1 t ht).2.2
  have b2 := sum_bound (fun t => t.length) 8 vs fun t ht => (h2 t ht).2.2
  exact ⟨⟨ha, few.sub sub, isL_least _, by omega, by omega⟩, by omega, fun t ht => (few.words t ht).2.2⟩
theorem evp_mk7 {C : Addr} {E : XK} {σ : L2.St} {H : Hp} (u : Str) (few : Few "01" [u]) (e : leastS [u] = [u]) : EvP (StX.tMakeR C (spB C) E (tCons (tC (.str "01")) (tCons (tC (.str u)) tNil))) σ H (IsB C "01" [u]) := fun H1 x1 Q q =>
  mk_bars (ws := [u]) (al := "01") (ea_cons ev_c (ea_cons ev_c ea_nil)) (by decide) (by decide +kernel) (few.fit (fun t ht => ht) (by show 1 < 64; decide)) fun x us gs H2 hx x2 p1 p2 p3 p4 B => q _ H2 x2 ⟨x, rfl, is_of e p1 p2 p3 p4 B⟩
theorem one_least7 (u : Str) (h : leastU [u] = [u]) : leastS [u] = [u] := leastS_eq (by rfl) (by simp) fun x => by rw [h]
def psLast : List (Nat × Nat) := [(48, 49), (49, 48)]
theorem last_xt : XT "01" psLast := ⟨by decide +kernel, by decide +kernel, by decide +kernel⟩
theorem last_few7 : Few "01" ["01111110"] ∧ Few "01" ["10000001"] := by
  refine ⟨?_, ?_⟩ <;> constructor <;> decide +kernel
theorem last_l1 : leastS [("01111110" : Str)] = [("01111110" : Str)] := one_least7 _ (by decide +kernel)
theorem last_l2 : leastS [("10000001" : Str)] = [("10000001" : Str)] := one_least7 _ (by decide +kernel)
theorem last_wd : Wd "01" ["01111110"] 28 := ⟨by decide +kernel, last_few7.1, last_l1, by decide +kernel, by decide⟩
theorem last_x : leastS ((["01111110"] : List Str).map (xS (fch psLast))) = [("10000001" : Str)] := by
  have e : (["01111110"] : List Str).map (xS (fch psLast)) = [("10000001" : Str)] := by decide +kernel
  rw [e, last_l2]
/-- the law's own defs and the class, as promises -/
structure Uses7 (P : Program) (w : World) (K : PySem.W.Frag) (mg : Str → Option Value) (base : Heap) (T : List (Addr × Str)) (C CF CO fC fH fI fEq fHas fO fPen fSigns fWords fLeast fM fTa fText fLC fWr : Addr) (fdC fdH fdO fdPen fdSigns fdWords fdLeast fdM fdTa fdText fdLC fdWr : FuncData) : Prop where
  S : Asks7 P w K mg base C CF CO fC fH fdC fdH
  M : Mk K C fI
  FI : FnR P w K mg base CX0 4 fI (spB C)
  nf : PySem.W.notFirst K C (.ref C) = true
  hNe : PySem.W.findIn K (.ref C) "__ne__" = some (some (.builtin "object.__ne__"))
  hEq : PySem.W.findIn K (.ref C) "__eq__" = some (some (.ref fEq))
  iEq : PySem.W.isFn K (.ref fEq) = true
  GEq : FnR P w K mg base CX0 1 fEq (spEqB C)
  hHas : PySem.W.findIn K (.ref C) "__contains__" = some (some (.ref fHas))
  iHas : PySem.W.isFn K (.ref fHas) = true
  GHas : FnR P w K mg base CX0 2 fHas (spHas C)
  mO : Meth K C "end_of" fO
  GO : FnOk P w K mg base CX0 3 fO fdO ["self", "text"] (spEndOf C)
  bO : Binds K fdO ["self", "text"] []
  bCK : ∀ (s' : Shared) (a : Addr) (ws : List Value), K.In s'.heap → ws.length = (["table"] : List Str).length → BindsTo s' fdC ⟨[.ref a], (["table"] : List Str).zip ws⟩ ((["self", "table"] : List Str).zip (.ref a :: ws))
  gDict : mg "dict" = none
  gPen : mg "_law_pen" = some (.ref fPen)
  kPen : PySem.W.keepIn K (.ref fPen) = true
  GPen : FnOk P w K mg base CX0 1 fPen fdPen ["_law_script"] (spPen K)
  bPen : Binds K fdPen ["_law_script"] []
  gSigns : mg "_law_signs" = some (.ref fSigns)
  kSigns : PySem.W.keepIn K (.ref fSigns) = true
  GSigns : FnOk P w K mg base CX0 3 fSigns fdSigns ["_law_pen_here"] spSigns
  bSigns : Binds K fdSigns ["_law_pen_here"] []
  gWords : mg "_law_words" = some (.ref fWords)
  kWords : PySem.W.keepIn K (.ref fWords) = true
  GWords : FnOk P w K mg base CX0 4 fWords fdWords ["_law_pen_here", "_law_signs_here", "_law_many"] spWords
  bWords : Binds K fdWords ["_law_pen_here", "_law_signs_here", "_law_many"] []
  gLeast : mg "_law_least" = some (.ref fLeast)
  kLeast : PySem.W.keepIn K (.ref fLeast) = true
  GLeast : FnOk P w K mg base CX0 1 fLeast fdLeast ["_law_words_here"] spLLeast
  bLeast : Binds K fdLeast ["_law_words_here"] []
  gM : mg "_law_made" = some (.ref fM)
  kM : PySem.W.keepIn K (.ref fM) = true
  GM : FnOk P w K mg base CX0 7 fM fdM ["_law_signs_here", "_law_words_here"] (spMade C)
  bM : Binds K fdM ["_law_signs_here", "_law_words_here"] []
  gTa : mg "_law_table" = some (.ref fTa)
  kTa : PySem.W.keepIn K (.ref fTa) = true
  GTa : FnOk P w K mg base CX0 2 fTa fdTa ["_law_pen_here", "_law_signs_here"] spTable
  bTa : Binds K fdTa ["_law_pen_here", "_law_signs_here"] []
  gText : mg "_law_text" = some (.ref fText)
  kText : PySem.W.keepIn K (.ref fText) = true
  GText : FnOk P w K mg base CX0 3 fText fdText ["_law_pen_here", "_law_signs_here", "_law_most"] (spTextB 12)
  bText : Binds K fdText ["_law_pen_here", "_law_signs_here", "_law_most"] []
  gLC : mg "_law_changed" = some (.ref fLC)
  kLC : PySem.W.keepIn K (.ref fLC) = true
  GLC : FnOk P w K mg base CX0 1 fLC fdLC ["_law_table_here", "_law_text_here"] spLChg
  bLC : Binds K fdLC ["_law_table_here", "_law_text_here"] []
  gWr : mg "_law_wrong_right" = some (.ref fWr)
  kWr : PySem.W.keepIn K (.ref fWr) = true
  GWr : FnG P w K mg base CX0 9 fWr fdWr ["_law_pen_here", "_law_made_here", "_law_signs_here", "_law_table_here"] (spWr C T)
  bWr : Binds K fdWr ["_law_pen_here", "_law_made_here", "_law_signs_here", "_law_table_here"] []
section
variable {P : Program} {w : World} {K : PySem.W.Frag} {mg : Str → Option Value} {base : Heap} {T : List (Addr × Str)} {C CF CO fC fH fI fEq fHas fO fPen fSigns fWords fLeast fM fTa fText fLC fWr : Addr} {fdC fdH fdO fdPen fdSigns fdWords fdLeast fdM fdTa fdText fdLC fdWr : FuncData}
theorem ok_lawT {f : Addr} {fd : FuncData} (F : Fun K "law" "law" sLaw f fd) (U : Uses7 P w K mg base T C CF CO fC fH fI fEq fHas fO fPen fSigns fWords fLeast fM fTa fText fLC fWr fdC fdH fdO fdPen fdSigns fdWords fdLeast fdM fdTa fdText fdLC fdWr) : FnG P w K mg base CX0 11 f fd ["_law_script"] (spLawT K T) := by
  have S := U.S
  have TF := S.T.toFree
  have CB := S.CB
  refine FnG.bodyC F scLaw (fun vs H Q E h => ?_) (fun A outer s H vs Q E hgd hr h => ?_)
  · obtain ⟨_, _, rfl, _⟩ := h
    rfl
  · obtain ⟨a, ns, rfl, hS, hl, hT, k⟩ := h
    have nd := scLaw.nd
    have hg2 : (cxOf CX0 P w K mg base nLaw "law" (defScope sLaw) f fd.code A outer s H E).nox.A.guards = some [] := hgd
    refine ⟨_, pss_cons (ps_set (i := 1) nd rfl (.inl rfl) (pe_call U.GPen (hr.mono (by decide)) (by rfl) U.gPen U.kPen U.bPen .nil pass0 (pa_cons (pv 0) pa_nil)))
      (pss_cons (ps_for PassesOwn.never rfl (pi_range1 rfl TF.range (pa_cons pe_int pa_nil)) (pg_name (i := 2) nd rfl (.inl rfl))
      (pss_cons (ps_set (i := 3) nd rfl (.inl rfl) (pe_call U.GSigns (hr.mono (by decide)) (by rfl) U.gSigns U.kSigns U.bSigns .nil pass0 (pa_cons (pv 1) pa_nil)))
      (pss_cons (ps_set (i := 4) nd rfl (.inl rfl) (pe_call U.GLeast (hr.mono (by decide)) (by rfl) U.gLeast U.kLeast U.bLeast .nil pass0 (pa_cons (pe_call U.GWords (hr.mono (by decide)) (by rfl) U.gWords U.kWords U.bWords .nil pass0 (pa_cons (pv 1) (pa_cons (pv 3) (pa_cons pe_int pa_nil)))) pa_nil)))
      (pss_cons (ps_asg (pe_tup (pa_cons (pe_call U.GM (hr.mono (by decide)) (by rfl) U.gM U.kM U.bM .nil pass0 (pa_cons (pv 3) (pa_cons (pv 4) pa_nil))) (pa_cons (pe_call U.GTa (hr.mono (by decide)) (by rfl) U.gTa U.kTa U.bTa .nil pass0 (pa_cons (pv 1) (pa_cons (pv 3) pa_nil))) pa_nil))) (pg_tup (by rfl) (pgs_cons (pg_name (i := 5) nd rfl (.inl rfl)) (pgs_cons (pg_name (i := 6) nd rfl (.inr rfl)) pgs_nil))))
      (pss_cons (ps_set (i := 7) nd rfl (.inl rfl) (LiI.pe_listItems rfl (pv 6) (by rfl) TF.list (by decide +kernel)))
      (pss_cons (ps_set (i := 8) nd rfl (.inl rfl) (pe_meth (pv 5) S.CB.toCls S.mC S.GC (hr.mono (by decide)) S.bC .nil pass0 (pa_cons (pv 6) pa_nil)))
      (pss_cons (ps_if (PW.pt (pw_or (pt_cmpR (r := rNeD K) (by exact op_neD hr.units) (LiI.pe_listItems rfl (pv 6) (by rfl) TF.list (by decide +kernel)) (pv 7) (nomark _)) (pw_or1 (pt_cmpR op_ne (pe_fld (pv 8) rfl) (pv 3) (nomark _))))) (pss_one (ps_ret pe_bl)) pss_nil)
      (pss_cons (ps_if (pt_cmpR (r := rNeD K) (by exact op_neD hr.units) (pe_fld (pv 8) rfl) (pe_callTy call_tuple_of (by rfl) TF.tuple (by decide +kernel) (pa_cons (pe_call U.GLeast (hr.mono (by decide)) (by rfl) U.gLeast U.kLeast U.bLeast .nil pass0 (pa_cons (pe_lc (own := [("_law_word", 11)]) (wi := iList K (tVar 4)) (g := gName 11) (tt := tYes) rfl nd (by exact pi_list (pv 4)) (by refine blkOk_by (own := [("_law_word", 11)]) (N := nLaw) (sc := defScope sLaw) ?_; decide +kernel)
        (fun _ _ _ _ _ => pg_name (i := 11) nd rfl (Or.inl rfl)) (fun _ _ _ _ _ => pts_nil) (fun _ _ _ _ _ => (pe_call U.GLC (hr.mono (by decide)) (by rfl) U.gLC U.kLC U.bLC .nil pass0 (pa_cons (pv 6) (pa_cons (pv 11) pa_nil))))) pa_nil)) pa_nil)) (nomark _)) (pss_one (ps_ret pe_bl)) pss_nil)
      (pss_cons (ps_if (pt_cmpR (r := rNeD K) (by exact op_neD hr.units) (pe_callB (r := rSortedS K) (by exact cr_sortedS) (by rfl) TF.sorted (by decide +kernel) (pa_cons (pe_lc (own := [("_law_end", 12)]) (wi := iTup K (tFld K (tVar 5) "ends")) (g := gName 12) (tt := tYes) rfl nd (by exact pi_tup (pe_fld (pv 5) rfl)) (by refine blkOk_by (own := [("_law_end", 12)]) (N := nLaw) (sc := defScope sLaw) ?_; decide +kernel)
        (fun _ _ _ _ _ => pg_name (i := 12) nd rfl (Or.inl rfl)) (fun _ _ _ _ _ => pts_nil) (fun _ _ _ _ _ => (pe_callTy SkE.call_str_str (by rfl) TF.str (by decide +kernel) (pa_cons (pe_call U.GLC (hr.mono (by decide)) (by rfl) U.gLC U.kLC U.bLC .nil pass0 (pa_cons (pv 6) (pa_cons (pv 12) pa_nil))) pa_nil)))) pa_nil)) (pe_callTy call_list_of (by rfl) TF.list (by decide +kernel) (pa_cons (pe_fld (pv 8) rfl) pa_nil)) (nomark _)) (pss_one (ps_ret pe_bl)) pss_nil)
      (pss_cons (ps_set (i := 9) nd rfl (.inl rfl) (pe_call U.GText (hr.mono (by decide)) (by rfl) U.gText U.kText U.bText .nil pass0 (pa_cons (pv 1) (pa_cons (pv 3) (pa_cons pe_int pa_nil)))))
      (pss_cons (ps_if (PW.pt (pw_or (pt_cmpR op_ne (pe_cmpR (op_inI (C := C) U.hHas U.iHas U.GHas (hr.mono (by decide)) pass0) (pv 9) (pv 5) (by rfl)) (pe_cmpR (op_inI (C := C) U.hHas U.iHas U.GHas (hr.mono (by decide)) pass0) (pe_call U.GLC (hr.mono (by decide)) (by rfl) U.gLC U.kLC U.bLC .nil pass0 (pa_cons (pv 6) (pa_cons (pv 9) pa_nil))) (pv 8) (by rfl)) (nomark _)) (pw_or1 (pt_not (pt_val (pe_callG U.GWr hg2 (hr.mono (by decide)) (by rfl) U.gWr U.kWr U.bWr pass0 (pa_cons (pv 1) (pa_cons (pv 5) (pa_cons (pv 3) (pa_cons (pv 6) pa_nil)))))))))) (pss_one (ps_ret pe_bl)) pss_nil)
      (pss_cons (ps_set (i := 10) nd rfl (.inl rfl) (pe_callTy (r := rDictP K) (by exact call_dictP rfl) (by rfl) U.gDict (by decide +kernel) (pa_cons (pe_lc (own := [("_law_sign", 13)]) (wi := iStr (tVar 3)) (g := gName 13) (tt := tYes) rfl nd (by exact pi_str (pv 3)) (by refine blkOk_by (own := [("_law_sign", 13)]) (N := nLaw) (sc := defScope sLaw) ?_; decide +kernel)
        (fun _ _ _ _ _ => pg_name (i := 13) nd rfl (Or.inl rfl)) (fun _ _ _ _ _ => pts_nil) (fun _ _ _ _ _ => (pe_tup (pa_cons (pe_dget (hu_of hr) (pv 6) (pv 13) (fun _ _ => rfl)) (pa_cons (pv 13) pa_nil))))) pa_nil)))
      (pss_cons (ps_if (PW.pt (pw_or (pt_cmpR (op_neI (C := C) U.hNe U.hEq U.iEq S.CB.cM U.GEq (hr.mono (by decide)) pass0) (pe_methK (ks := ["table"]) (gv := fun zs => zs) (gu := fun ws => ws) (pv 8) S.CB.toCls S.mC S.GC (hr.mono (by decide)) (pk_cons (pv 10) pk_nil) U.bCK (fun r _ => r)) (pv 5) (nomark _)) (pw_or1 (pt_cmpR (op_neI (C := C) U.hNe U.hEq U.iEq S.CB.cM U.GEq (hr.mono (by decide)) pass0) (pe_meth (pv 5) S.CB.toCls S.mC S.GC (hr.mono (by decide)) S.bC .nil pass0 (pa_cons (pe_callTy (r := rDictP K) (by exact call_dictP rfl) (by rfl) U.gDict (by decide +kernel) (pa_cons (pe_lc (own := [("_law_sign", 13)]) (wi := iStr (tVar 3)) (g := gName 13) (tt := tYes) rfl nd (by exact pi_str (pv 3)) (by refine blkOk_by (own := [("_law_sign", 13)]) (N := nLaw) (sc := defScope sLaw) ?_; decide +kernel)
        (fun _ _ _ _ _ => pg_name (i := 13) nd rfl (Or.inl rfl)) (fun _ _ _ _ _ => pts_nil) (fun _ _ _ _ _ => (pe_tup (pa_cons (pv 13) (pa_cons (pv 13) pa_nil))))) pa_nil)) pa_nil)) (pv 5) (nomark _))))) (pss_one (ps_ret pe_bl)) pss_nil)
      (pss_one (ps_if (PW.pt (pw_and (pt_cmpR (op_notInO (C := C) U.hHas U.iHas U.GHas (hr.mono (by decide)) pass0) (pv 9) (pv 5) (by rfl)) (pw_and1 (pt_cmpR op_ne (pe_meth (pv 8) S.CB.toCls U.mO U.GO (hr.mono (by decide)) U.bO .nil pass0 (pa_cons (pe_call U.GLC (hr.mono (by decide)) (by rfl) U.gLC U.kLC U.bLC .nil pass0 (pa_cons (pv 6) (pa_cons (pv 9) pa_nil))) pa_nil)) (pe_call U.GLC (hr.mono (by decide)) (by rfl) U.gLC U.kLC U.bLC .nil pass0 (pa_cons (pv 6) (pa_cons (pe_meth (pv 5) S.CB.toCls U.mO U.GO (hr.mono (by decide)) U.bO .nil pass0 (pa_cons (pv 9) pa_nil)) pa_nil))) (nomark _))))) (pss_one (ps_ret pe_bl)) pss_nil)))))))))))))))
      (pss_one (ps_ret (pe_cmpR (op_cmpI (C := C) (op := .Eq) (fun _ _ => rfl) U.hEq U.iEq U.GEq (hr.mono (by decide)) pass0) (pe_meth (StX.pe_makeR U.M U.FI (hr.mono (by decide)) (by rfl) S.CB.gB pass0 (pa_cons pe_str (pa_cons pe_str pa_nil))) S.CB.toCls S.mC S.GC (hr.mono (by decide)) S.bC .nil pass0 (pa_cons (pe_disp (pps_cons pe_str pe_str (pps_cons pe_str pe_str pps_nil)) (by rfl) (by rfl) (fun z => by cases z) (by decide)) pa_nil)) (StX.pe_makeR U.M U.FI (hr.mono (by decide)) (by rfl) S.CB.gB pass0 (pa_cons pe_str (pa_cons pe_str pa_nil))) (by rfl))))), ?_⟩
    refine ⟨_, rfl, a, ns, rfl, hS, hl, fun Pn L ms H0 hP0 x0 pen0 => ?_⟩
    have T0 := tabs_ex hT x0
    refine q_forR1 (n := 8) (ea_cons ev_c ea_nil) ⟨by decide, by decide⟩
      (fun i σ' H' => ∃ (y2 y3 y4 y5 y6 y7 y8 y9 y10 : Option V) (s : Nat) (g : Int), σ' = [some (.ref a), some (.ref Pn), y2, y3, y4, y5, y6, y7, y8, y9, y10, none, none, none] ∧ Pen H' Pn L ms s g ∧ s ≤ 300 * i ∧ LamX.Tabs T H')
      (fun H1 x1 => ⟨_, _, _, _, _, _, _, _, _, 0, 0, rfl, pen0.mono x1, Nat.le_refl _, tabs_ex T0 x1⟩) (fun i σ' H' hi q => ?_) (fun σ' H' q => ?_)
    · obtain ⟨y2, y3, y4, y5, y6, y7, y8, y9, y10, s, g, rfl, pen, hs, hTab⟩ := q
      refine ⟨_, rfl, Pn, L, ms, s, g, rfl, pen, by omega, fun al s1 g1 H1 hal hs1 but1 pen1 => ?_⟩
      have T1 := tabs_but hTab but1 pen
      obtain ⟨hA, al2, al4, chars, npq⟩ := alpha_facts al hal
      refine ⟨_, rfl, _, rfl, Pn, L, ms, s1, g1, al, 5, rfl, by decide, al2, by omega, pen1, by omega, fun l ws s2 g2 H2 hD hs2 hl2 but2 el pen2 => ?_⟩
      obtain ⟨W, w64, wok⟩ := wd_of hal hD
      have T2 := tabs_but T1 but2 pen1
      refine ⟨l, ws, rfl, el, w64, wok, fun lw H3 hlw x3 elw => ?_⟩
      have T3 := tabs_ex T2 x3
      have pen3 := pen2.mono x3
      generalize leastS ws = ys at W elw
      -- bars and table
      dsimp only [gName, List.set_cons_succ, List.set_cons_zero]
      refine (?_ : tAsg _ _ _ [some (.ref a), some (.ref Pn), some (.int (i : Int)), some (.str al), some (.ref lw), y5, y6, y7, y8, y9, y10, none, none, none] H3)
      refine (?_ : tTup _ _ H3 _)
      refine (?_ : tCons _ _ _ H3 _)
      refine (evp_made (E := E0) (C := C) W (ev_var rfl) (ev_var rfl) elw) H3 (Ex.refl _) _ fun vm H4 x4 ⟨m, em, Bm⟩ => ?_
      subst em
      refine (?_ : tCons _ _ _ H4 _)
      have pen4 := pen3.mono x4
      refine ⟨_, rfl, _, rfl, Pn, L, ms, s2, g2, al, rfl, hal, pen4, by omega, fun p ps s5 g5 H5 X hp hs5 but5 ep pen5 => ?_⟩
      refine ⟨by show 2 ≤ sizeLine; decide, fun t ht => ⟨t, _, rfl, st_of upd_same, rfl, _, _, rfl, _, _, rfl, rfl, ?_⟩⟩
      have x6 : Ex H5 (upd H5 t (.tup [.ref m, .ref p])) := Ex.new ht
      have T6 := tabs_ex (tabs_but (tabs_ex T3 x4) but5 pen4) x6
      have B6 := (kp_bars (kp_but but5) pen4 Bm).mono x6
      have elw6 := x6 _ _ (kp_strs (kp_but but5) pen4 (x4 _ _ elw))
      have ep6 := x6 _ _ ep
      have pen6 := pen5.mono x6
      generalize upd H5 t (.tup [.ref m, .ref p]) = H6 at x6 T6 B6 elw6 ep6 pen6 ⊢
      have Xc := X.xch
      have Wz : Wd al (leastS (ys.map (xS (fch ps)))) 28 := W.xl Xc
      have full := W.full
      have ov := W.few.over
      have isM : ∀ {G : Hp} {σ : L2.St}, Ex H6 G → σ[5]? = some (some (.ref m)) → EvP (tVar 5) σ G (IsB C al ys) := fun y es => evp_var (up_isB C al ys) es ⟨m, rfl, B6.mono y⟩
      have isT : ∀ {G : Hp} {σ : L2.St}, Ex H6 G → σ[6]? = some (some (.ref p)) → EvP (tVar 6) σ G (IsX ps) := fun y es => evp_var (up_isX ps) es ⟨p, rfl, y _ _ ep6⟩
      refine (?_ : tSeq _ _ _ [some (.ref a), some (.ref Pn), some (.int (i : Int)), some (.str al), some (.ref lw), some (.ref m), some (.ref p), y7, y8, y9, y10, none, none, none] H6)
      -- kept, later
      refine q_asgP (P := IsItm ps) (evp_items (isT (Ex.refl _) rfl)) fun v7 H7 x7 hv7 => ?_
      refine (?_ : tSeq _ _ _ [some (.ref a), some (.ref Pn), some (.int (i : Int)), some (.str al), some (.ref lw), some (.ref m), some (.ref p), some v7, y8, y9, y10, none, none, none] H7)
      refine q_asgP (P := IsB C al (leastS (ys.map (xS (fch ps))))) (evp_chg X W (isM x7 rfl) (isT x7 rfl)) fun v8 H8 x8 ⟨m2, e8, B8⟩ => ?_
      subst e8
      refine (?_ : tSeq _ _ _ [some (.ref a), some (.ref Pn), some (.int (i : Int)), some (.str al), some (.ref lw), some (.ref m), some (.ref p), some v7, some (.ref m2), y9, y10, none, none, none] H8)
      have x68 := x7.trans x8
      have isL : ∀ {G : Hp} {σ : L2.St}, Ex H8 G → σ[8]? = some (some (.ref m2)) → EvP (tVar 8) σ G (IsB C al (leastS (ys.map (xS (fch ps))))) := fun y es => evp_var (up_isB C al _) es ⟨m2, rfl, B8.mono y⟩
      have chgE : ∀ {G : Hp} {σ : L2.St} {te : TE} {t : Str}, G p = some (.dK (kvG (kvC ps))) → σ[6]? = some (some (.ref p)) → Ev te σ G (.str t) → Over al t → t.length ≤ 1000 → Ev (tCall spLChg [] E0 (tCons (tVar 6) (tCons te tNil))) σ G (.str (xS (fch ps) t)) := fun {G σ te t} hp es ht o tl =>
        ev_call (ea_cons (ev_var es) (ea_cons ht ea_nil)) fun G1 y1 Q1 q1 E1 => ⟨p, t, ps, rfl, y1 _ _ hp, tl, fun c hc => X.keys.mem_iff.mpr (o c hc), q1⟩
      have okW : ∀ t ∈ ys.map (xS (fch ps)), PyData.strOk t = true := fun t ht => by
        obtain ⟨u, hu, rfl⟩ := List.mem_map.mp ht
        exact ok_over (x_over Xc (ov u hu)) chars
      -- the table stays, the signs
      refine q_when (b := false) (et_is (et_or (et_test (ev_neItm (pairs_ok hal X) (evp_items (isT x68 rfl)) (evp_var (up_isItm ps) rfl (up_isItm ps _ _ _ x8 hv7)))) fun _ => et_test (ev_op (ev_signs7 CB (isL (Ex.refl _) rfl)) (ev_var rfl) (rv_ne rfl))) (by simp)) (fun z => by cases z) fun _ H9 x9 => ?_
      have x69 := x68.trans x9
      -- the words
      have zW := el_fmL (K := K) (σ := [some (.ref a), some (.ref Pn), some (.int (i : Int)), some (.str al), some (.ref lw), some (.ref m), some (.ref p), some v7, some (.ref m2), y9, y10, none, none, none]) (H := H9) (te := tCall spLChg [] E0 (tCons (tVar 6) (tCons (tVar 11) tNil))) (tl := tVar 4) (j := 11) (vs := [11]) (t := tYes)
        (a := lw) (xs := ys.map V.str) (fun _ => true) (onS fun t => .str (xS (fch ps) t)) (ev_var rfl) (sq_of (x69 _ _ elw6)) (by rw [List.length_map]; have := W.len; omega) (fun _ => rfl) (fun _ _ _ _ => et_yes) (fun v G y mv _ => by
          obtain ⟨t, mt, rfl⟩ := mem_str mv
          exact chgE ((x69.trans y) _ _ ep6) rfl (ev_var rfl) (ov t mt) (W.few.words t mt).2.1)
      have eW : List.map (onS fun t => .str (xS (fch ps) t)) (List.filter (fun _ => true) (ys.map V.str)) = (ys.map (xS (fch ps))).map V.str := by
        rw [all_str, List.map_map, List.map_map]
        rfl
      rw [eW] at zW
      have lW : EvL (tCall spLLeast [] E0 (tCons (tLc (iList K (tVar 4)) (gName 11) tYes (tCall spLChg [] E0 (tCons (tVar 6) (tCons (tVar 11) tNil))) [11]) tNil)) [some (.ref a), some (.ref Pn), some (.int (i : Int)), some (.str al), some (.ref lw), some (.ref m), some (.ref p), some v7, some (.ref m2), y9, y10, none, none, none] H9 ((leastS (ys.map (xS (fch ps)))).map V.str) := fun G y Q1 q1 => by
        have zz := zW G y (fun v G2 => spLLeast [v] G2 Q1 E0) fun l2 G2 hl2 y2 e2 => ⟨l2, _, rfl, e2, by rw [List.length_map]; have := W.len; omega, okW, fun p3 G3 hp3 y3 e3 => q1 p3 G3 (fresh_back y2 hp3) (y2.trans y3) e3⟩
        exact zz
      have okZ : ∀ t ∈ leastS (ys.map (xS (fch ps))), PyData.strOk t = true := fun t ht => okW t (leastS_sub ht)
      refine q_when (b := false) (et_is (et_test (ev_neW (evp_words CB (isL x9 rfl)) (eu_tuple lW) okZ okZ)) (by simp)) (fun z => by cases z) fun _ H10 x10 => ?_
      have x610 := x69.trans x10
      -- the ends
      obtain ⟨dxm, Wm, Nm, Lm, zm, Om, hm1, hm2, hm3, hm4, hm5⟩ := B6.at_
      have fit : Fit al ys := W.few.fit (fun t ht => ht) (by have := W.len; omega)
      have pl : ys.Perm (leastU ys) := (List.perm_ext_iff_of_nodup W.least.nodup (nodup_least ys)).mpr fun x => by rw [← mem_leastS, W.least]
      have pe2 : (endsS ys).Perm (uniq (endsL ys)) := (List.perm_ext_iff_of_nodup (nodup_srt _) (nodup_uniq _)).mpr fun x => (mem_srt _ x).trans (mem_uniq _ x).symm
      have e24 : (endsS ys).length ≤ 24 := by
        rw [pe2.length_eq]
        exact (fit.ends ys pl).2
      have eo := ends_over W.few
      have eoz := ends_over Wz.few
      have zE := el_fmT (K := K) (σ := [some (.ref a), some (.ref Pn), some (.int (i : Int)), some (.str al), some (.ref lw), some (.ref m), some (.ref p), some v7, some (.ref m2), y9, y10, none, none, none]) (H := H10) (te := tCB (fun xs H Q => ∃ a : Str, xs = [V.str a] ∧ Q (V.str a) H) (tCons (tCall spLChg [] E0 (tCons (tVar 6) (tCons (tVar 12) tNil))) tNil)) (tl := tFld K (tVar 5) "ends") (j := 12) (vs := [12]) (t := tYes)
        (a := Nm) (xs := (endsS ys).map V.str) (fun _ => true) (onS fun t => .str (xS (fch ps) t)) (ev_fld (K := K) (te := tVar 5) (ev_var rfl) (x610 _ _ hm1) CB.toCls CB.nEnds rfl) (st_of (x610 _ _ hm3)) (by rw [List.length_map]; omega) (fun _ => rfl) (fun _ _ _ _ => et_yes) (fun v G y mv _ => by
          obtain ⟨t, mt, rfl⟩ := mem_str mv
          exact ev_cb (ea_cons (chgE ((x610.trans y) _ _ ep6) rfl (ev_var rfl) (eo t mt).1 (by have := (eo t mt).2; omega)) ea_nil) fun G7 y7 Q7 q7 => ⟨_, rfl, q7 G7 (Ex.refl _)⟩)
      have eE : List.map (onS fun t => .str (xS (fch ps) t)) (List.filter (fun _ => true) ((endsS ys).map V.str)) = ((endsS ys).map (xS (fch ps))).map V.str := by
        rw [all_str, List.map_map, List.map_map]
        rfl
      rw [eE] at zE
      have lE := es_sorted (K := K) zE (nodup_xs Xc (nodup_srt _) fun e he => (eo e he).1) (by rw [List.length_map]; omega)
      rw [x_ends Xc W.least full ov] at lE
      have okE : ∀ t ∈ endsS (leastS (ys.map (xS (fch ps)))), PyData.strOk t = true := fun t ht => ok_over (eoz t ht).1 chars
      refine q_when (b := false) (et_is (et_test (ev_neSL lE (es_listT (evp_ends CB (isL (x9.trans x10) rfl))) okE okE)) (by simp)) (fun z => by cases z) fun _ H11 x11 => ?_
      have x611 := x610.trans x11
      have x811 := x9.trans (x10.trans x11)
      have pen11 := pen6.mono x611
      have T11 := tabs_ex T6 x611
      -- a text
      refine (?_ : tSeq _ _ _ [some (.ref a), some (.ref Pn), some (.int (i : Int)), some (.str al), some (.ref lw), some (.ref m), some (.ref p), some v7, some (.ref m2), y9, y10, none, none, none] H11)
      refine ⟨_, rfl, _, rfl, Pn, L, ms, s5, g5, al, 10, rfl, by decide, by omega, by omega, pen11, by omega, fun t s12 g12 H12 tov tl hs12 but12 pen12 => ?_⟩
      have T12 := tabs_but T11 but12 pen11
      have t1k : t.length ≤ 1000 := by omega
      have B12 := kp_bars (kp_but but12) pen11 (B6.mono x611)
      have L12 := kp_bars (kp_but but12) pen11 (B8.mono x811)
      have nP : ∀ {G : Hp} {b : Addr} {kvs : List (Key × V)} {ss : Nat} {gg : Int}, Pen G Pn L ms ss gg → G b = some (.dK kvs) → b ≠ Pn := fun pn h z => by rw [z, pn.pen] at h; cases h
      have ep11 := x611 _ _ ep6
      have ep12 := but12 _ _ (nP pen11 ep11) ep11
      have xov := x_over Xc tov
      have x1k : (xS (fch ps) t).length ≤ 1000 := by rw [x_len]; exact t1k
      have hx := holds_x Xc W.least full ov tov
      dsimp only [gName, List.set_cons_succ, List.set_cons_zero]
      refine (?_ : tOr _ _ [some (.ref a), some (.ref Pn), some (.int (i : Int)), some (.str al), some (.ref lw), some (.ref m), some (.ref p), some v7, some (.ref m2), some (.str t), y10, none, none, none] H12 _)
      refine (et_is (et_test (ev_op (ev_inY (ev_var rfl) (evp_var (up_isB C al ys) rfl ⟨m, rfl, B12⟩) tov t1k) (ev_inY (chgE ep12 rfl (ev_var rfl) tov t1k) (evp_var (up_isB C al _) rfl ⟨m2, rfl, L12⟩) xov x1k) (rv_ne rfl))) (show _ = false by rw [hx]; simp)) H12 (Ex.refl _) _ fun H13 x13 => ?_
      rw [if_neg (by decide)]
      refine (?_ : tNot _ _ H13 _)
      refine ⟨_, rfl, _, rfl, _, rfl, _, rfl, ?_⟩
      dsimp only [tNil, List.cons_append, List.nil_append]
      have pen13 := pen12.mono x13
      refine ⟨Pn, L, m, p, ms, s12, g12, al, ys, _, ps, rfl, hal, B12.mono x13, x13 _ _ ep12, X, tabs_ex T12 x13, pen13, by omega, fun s14 g14 H14 hs14 kp14 T14 pen14 => ⟨true, rfl, ?_⟩⟩
      rw [if_neg (by decide)]
      have B14 := kp_bars kp14 pen13 (B12.mono x13)
      have L14 := kp_bars kp14 pen13 (L12.mono x13)
      have ep14 : H14 p = some (.dK (kvG (kvC ps))) := kp14 _ _ (nP pen13 (x13 _ _ ep12)) (x13 _ _ ep12) fun ps z => by cases z
      -- back
      obtain ⟨XB, back⟩ := X.back
      obtain ⟨XI, same⟩ := xt_same X.nd
      refine (?_ : tSeq _ _ _ [some (.ref a), some (.ref Pn), some (.int (i : Int)), some (.str al), some (.ref lw), some (.ref m), some (.ref p), some v7, some (.ref m2), some (.str t), y10, none, none, none] H14)
      refine q_asgP (P := IsX (al.cps.toList.map fun c => (fch ps c, c))) (evp_dictP (XB.keys.nodup_iff.mpr X.nd) (evp_pairs (fch ps) (fun c => c) (ev_var rfl) (by omega) (fun _ => rfl) (fun c G y mc => ev_dget (k := Sum.inr ⟨#[c]⟩) (ev_var rfl) (ev_var rfl) (y _ _ ep14) (val_ch (X.keys.mem_iff.mpr mc))) (fun c G y mc => ev_var rfl))) fun v10 H15 x15 hv10 => ?_
      refine (?_ : tSeq _ _ _ [some (.ref a), some (.ref Pn), some (.int (i : Int)), some (.str al), some (.ref lw), some (.ref m), some (.ref p), some v7, some (.ref m2), some (.str t), some v10, none, none, none] H15)
      have B15 := B14.mono x15
      have L15 := L14.mono x15
      have sameW : ∀ f : Nat → Nat, (∀ c ∈ al.cps.toList, f c = c) → leastS (ys.map (xS f)) = ys := fun f hf => by
        have : ys.map (xS f) = ys := by
          conv => rhs; rw [← List.map_id ys]
          exact List.map_congr_left fun t ht => xs_same hf (ov t ht)
        rw [this]
        exact W.least
      refine q_when (b := false) (et_is (et_or (et_test (ev_neY7 (evp_chgK XB Wz (evp_var (up_isB C al _) rfl ⟨m2, rfl, L15⟩) (evp_var (up_isX _) rfl hv10)) (evp_var (up_isB C al ys) rfl ⟨m, rfl, B15⟩))) fun _ => et_test (ev_neY7 (evp_chg XI W (evp_var (up_isB C al ys) rfl ⟨m, rfl, B15⟩) (evp_dictP (XI.keys.nodup_iff.mpr X.nd) (evp_pairs (fun c => c) (fun c => c) (ev_var rfl) (by omega) (fun _ => rfl) (fun c G y mc => ev_var rfl) (fun c G y mc => ev_var rfl)))) (evp_var (up_isB C al ys) rfl ⟨m, rfl, B15⟩))) (by
        rw [x_twice Xc back W.least full ov, sameW _ same]
        simp)) (fun z => by cases z) fun _ H16 x16 => ?_
      -- the end
      have B16 := B15.mono x16
      have L16 := L15.mono x16
      have ep16 := x16 _ _ (x15 _ _ ep14)
      have em := (endF_is (t := t) (es := endsS ys) ((mem_srt _ _).mpr (mem_ends.mpr (.inl rfl)))).mem
      have ef := eo _ em
      cases fr : holdsB t ys with
      | true =>
        refine s_when (b := false) (et_is (et_and (b := false) (et_test (ev_ninY (ev_var rfl) (evp_var (up_isB C al ys) rfl ⟨m, rfl, B16⟩) tov t1k)) fun z => by rw [fr] at z; cases z) (by simp)) (fun z => by cases z) fun _ H17 x17 => ?_
        exact ⟨_, _, _, _, _, _, _, _, _, s14, g14, rfl, pen14.mono (x15.trans (x16.trans x17)), by omega, tabs_ex T14 (x15.trans (x16.trans x17))⟩
      | false =>
        have fz : holdsB (xS (fch ps) t) (leastS (ys.map (xS (fch ps)))) = false := hx.trans fr
        refine s_when (b := false) (et_is (et_and (et_test (ev_ninY (ev_var rfl) (evp_var (up_isB C al ys) rfl ⟨m, rfl, B16⟩) tov t1k)) fun _ => et_test (ev_op (ev_end7 Wz (evp_var (up_isB C al _) rfl ⟨m2, rfl, L16⟩) (chgE ep16 rfl (ev_var rfl) tov t1k) xov x1k fz) (chgE ep16 rfl (ev_end7 W (evp_var (up_isB C al ys) rfl ⟨m, rfl, B16⟩) (ev_var rfl) tov t1k fr) ef.1 (by have := ef.2; omega)) (rv_ne rfl))) (by
          rw [x_end Xc W.least full ov tov]
          simp)) (fun z => by cases z) fun _ H17 x17 => ?_
        exact ⟨_, _, _, _, _, _, _, _, _, s14, g14, rfl, pen14.mono (x15.trans (x16.trans x17)), by omega, tabs_ex T14 (x15.trans (x16.trans x17))⟩
    · obtain ⟨y2, y3, y4, y5, y6, y7, y8, y9, y10, s, g, rfl, pen, hs, hTab⟩ := q
      have dE : ∀ {G : Hp} {σ : L2.St}, EvP (tDisp [(tC (.str "0"), tC (.str "1")), (tC (.str "1"), tC (.str "0"))]) σ G (IsX psLast) := fun {G σ} G1 y1 Q1 q1 p hp => by
        have e : upd G1 p (.dK []) p = some (.dK []) := upd_same
        refine ⟨e, kvG (kvC psLast), rfl, by decide, ?_⟩
        refine q1 _ _ ?_ ⟨p, rfl, upd_same⟩
        intro b o hb
        have nb : b ≠ p := ne_of_none hb hp
        rw [upd_ne nb, upd_ne nb]
        exact hb
      refine s_ret (v := .bl true) (ev_is (ev_eqY U.nf (evp_chg last_xt last_wd (evp_mk7 "01111110" last_few7.1 last_l1) dE) (evp_mk7 "10000001" last_few7.2 last_l2)) (congrArg V.bl (decide_eq_true last_x))) fun H3 x3 => k H3
end
end K02

set_option Elab.async false
set_option linter.all false
set_option maxRecDepth 100000
set_option maxHeartbeats 8000000
/-! What the text's top has written, and the law from it -/
namespace K02
open PySem PySem.Spec PyProof.Rows L2 Evl KU
/-- a def of the text's top -/
structure FnF (K : PySem.W.Frag) (mg : Str → Option Value) (x : Str) (st : Stmt) (f : Addr) (fd : FuncData) : Prop where
  g : mg x = some (.ref f)
  F : Fun K x x st f fd
theorem fnf_mk {K : PySem.W.Frag} {h : Heap} {mg : Str → Option Value} (X : K.In h) (G : h.Ns mainGlobals mg) {x : Str} {st : Stmt} {f : Addr} {oc kV dc pm cd ct : Value} {od an : Option Addr} {osl : Array (Option Value)} (a : PySem.W.nsIn K mainGlobals x = some (some (.ref f)))
    (l : K.lookup f = some ⟨oc, od, .func (PySem.W.fnOf x x (defArgs st) (defBody st) (defScope st) .none kV dc pm an cd ct), osl⟩) (B : (PySem.W.codeIn K cd x && PySem.W.keepIn K (.ref f)) = true) : FnF K mg x st f (PySem.W.fnOf x x (defArgs st) (defBody st) (defScope st) .none kV dc pm an cd ct) := by
  obtain ⟨b1, b2⟩ := Bool.and_eq_true_iff.mp B
  exact ⟨PySem.W.mg_of X G a, fun_mk l b1 b2⟩
/-- a def of the class -/
theorem met_mk {K : PySem.W.Frag} {x q : Str} {st : Stmt} {f : Addr} {oc kV dc pm cd ct : Value} {od an : Option Addr} {osl : Array (Option Value)}
    (l : K.lookup f = some ⟨oc, od, .func (PySem.W.fnOf x q (defArgs st) (defBody st) (defScope st) .none kV dc pm an cd ct), osl⟩) (B : (PySem.W.codeIn K cd q && PySem.W.keepIn K (.ref f)) = true) : Fun K x q st f (PySem.W.fnOf x q (defArgs st) (defBody st) (defScope st) .none kV dc pm an cd ct) := by
  obtain ⟨b1, b2⟩ := Bool.and_eq_true_iff.mp B
  exact fun_mk l b1 b2
def freeL : List Str := ["int", "len", "abs", "list", "str", "isinstance", "all", "any", "range", "sorted", "tuple", "sum", "set", "bool", "repr", "dict"]
def freeB (K : PySem.W.Frag) : Bool := freeL.all fun x => PySem.W.nsIn K mainGlobals x == some none
theorem free_of {K : PySem.W.Frag} {h : Heap} {mg : Str → Option Value} (X : K.In h) (G : h.Ns mainGlobals mg) (B : freeB K = true) : ∀ x ∈ freeL, mg x = none := fun x hx => by
  unfold freeB at B
  simp only [List.all_eq_true, beq_iff_eq] at B
  exact PySem.W.mg_none_of X G (B x hx)
/-- what is looked up of the class -/
def barsB (K : PySem.W.Frag) (C fInit fHas fEq fEndOf fEnd fChanged fChk fOr : Addr) : Bool := PySem.W.plainGet K C Str.empty &&
  PySem.W.hasDictIn K C &&
  PySem.W.plainOver K C &&
  PySem.W.findIn K (.ref C) "__setattr__" == some (some (.builtin "object.__setattr__")) &&
  (["signs", "words", "ends", "_longest_first", "_onward"] : List Str).all (fun f => PySem.W.findIn K (.ref C) f == some none) &&
  PySem.W.findIn K (.ref C) "__class__" == some (some (.builtin "object.__class__")) &&
  PySem.W.specialIn K (.builtin "object.__class__") "__get__" == some (some (.builtin "getset_descriptor.__get__")) &&
  PySem.W.takesIn K (.builtin "object.__class__") == some true &&
  PySem.W.mroIn K C (.type "object") == some true &&
  PySem.W.kitOne K (.ref C) (.ref C) == some true &&
  PySem.W.makesIn K C &&
  PySem.W.findIn K (.ref C) "__init__" == some (some (.ref fInit)) &&
  PySem.W.isFn K (.ref fInit) &&
  PySem.W.keepIn K (.ref C) &&
  PySem.W.findIn K (.ref C) "__contains__" == some (some (.ref fHas)) &&
  PySem.W.isFn K (.ref fHas) &&
  PySem.W.findIn K (.ref C) "__eq__" == some (some (.ref fEq)) &&
  PySem.W.isFn K (.ref fEq) &&
  PySem.W.findIn K (.ref C) "end_of" == some (some (.ref fEndOf)) &&
  PySem.W.isFn K (.ref fEndOf) &&
  PySem.W.findIn K (.ref C) "_end" == some (some (.ref fEnd)) &&
  PySem.W.isFn K (.ref fEnd) &&
  PySem.W.findIn K (.ref C) "changed" == some (some (.ref fChanged)) &&
  PySem.W.isFn K (.ref fChanged) &&
  PySem.W.findIn K (.ref C) "_check_other" == some (some (.ref fChk)) &&
  PySem.W.isFn K (.ref fChk) &&
  PySem.W.findIn K (.ref C) "__or__" == some (some (.ref fOr)) &&
  PySem.W.isFn K (.ref fOr) &&
  PySem.W.findIn K (.ref C) "__ne__" == some (some (.builtin "object.__ne__")) &&
  PySem.W.selfFirst K C &&
  PySem.W.notFirst K C (.ref C)
/-- the answers about the error classes -/
def errB (K : PySem.W.Frag) (CF CO : Addr) : Bool := PySem.W.exmOne K (.ref CO) (.ref CF) == some true &&
  PySem.W.kitOne K (.ref CO) (.ref CO) == some true
section
variable {P : Program} {w : World} {K : PySem.W.Frag} {mg : Str → Option Value} {base : Heap}
theorem iniBadBars {f : Addr} {fd : FuncData} (F : Fun K "__init__" "BadBars.__init__" (inClass (top 5) 0) f fd) : FnOk P w K mg base CX0 1 f fd ["self", "part"] (spI1 K "part") := by
  refine F.ok (N := ["self", "part"]) ⟨rfl, rfl, rfl, by decide +kernel, rfl, by decide +kernel, by decide +kernel⟩ (fun vs H Q E h => ?_) (fun cdv A outer s H vs Q E hr h => ?_)
  · obtain ⟨_, _, _, rfl, _⟩ := h
    rfl
  · obtain ⟨a, C, y, rfl, T, no, ha, k⟩ := h
    exact ⟨_, pss_one (ps_ost (pv 0) (pv 1)), init1_reads (E := E) (N := ["self", "part"]) rfl ⟨a, C, y, rfl, T, no, ha, k⟩⟩
theorem clBadBars {C : Addr} (gb : getB K = true) (Z : ClF K mg "BadBars" "BadBars.__init__" (inClass (top 5) 0) C ["part"]) : Cl P w K mg base "BadBars" C ["part"] (spI1 K "part") :=
  cl1_of gb Z (fun F => iniBadBars F) (fun _ _ _ _ _ _ us hl => match us, hl with | [_, _], _ => rfl) fun _ _ _ _ _ _ _ _ => rfl
end
theorem tab_is {K : PySem.W.Frag} {x q : Str} {st : Stmt} {f c p : Addr} {fd : FuncData} {oc : Value} {od : Option Addr} {vs : Array Value} {osl : Array (Option Value)} (a : PySem.W.nsIn K mainGlobals x = some (some (.ref f))) (F : Fun K x q st f fd) (k : fd.code = .ref c)
    (l : K.lookup c = some ⟨oc, od, .fields vs, osl⟩) (r : (vs[11]? : Option Value) = some (.ref p)) : PySem.W.tabIn K x = some (c, p) := by
  obtain ⟨oc', od', kV, doc, pm, an, cdv, ct, osl', e, lk, _⟩ := F.ex
  unfold PySem.W.tabIn
  simp only [a, lk, k, l, r]
/-- the tables of the defs that make lambdas -/
def tabsOf : List (Addr × Addr) → List (Addr × Str)
  | [a] => [(a.2, "_law_wrong_right.<locals>.<lambda>")]
  | _ => []
def spLawC (K : PySem.W.Frag) (cs : List (Addr × Addr)) : Sp := fun vs H Q _ => ∃ (a : Addr) (ns : List Int), vs = [.ref a] ∧ SqL K H a (vints ns) ∧ ns.length ≤ 63 ∧ (∀ p ∈ cs, H p.2 = some (.tbl #[])) ∧ ∀ H', Q (.bl true) H'
theorem alln {α : Type} {a : α} {p : α → Prop} (ha : p a) : ∀ x ∈ [a], p x := fun x hx => by
  rw [List.mem_singleton.mp hx]
  exact ha
theorem tabs_start {cs : List (Addr × Addr)} {H : Hp} (h : ∀ p ∈ cs, H p.2 = some (.tbl #[])) : LamX.Tabs (tabsOf cs) H := fun q hq => by
  unfold tabsOf at hq
  split at hq
  · rename_i a
    exact alln (p := fun q : Addr × Str => LamX.TabS H q.1 q.2) (.nil (h _ List.mem_cons_self)) q hq
  · cases hq
theorem FnG.imp {P : Program} {w : World} {K : PySem.W.Frag} {mg : Str → Option Value} {base : Heap} {CX : CXT} {k : Nat} {f : Addr} {fd : FuncData} {ps : List Str} {sp sp' : Sp} (F : KU.FnG P w K mg base CX k f fd ps sp)
    (h : ∀ vs H Q E, sp' vs H Q E → sp vs H Q E) : KU.FnG P w K mg base CX k f fd ps sp' := ⟨fun vs H Q E z => F.many vs H Q E (h vs H Q E z), fun A out s H args us vs Q E hg hr e0 hb r z => F.goes A out s H args us vs Q E hg hr e0 hb r (h vs H Q E z)⟩
theorem law_of {P : Program} {w : World} {K : PySem.W.Frag} {h : Heap} {mg : Str → Option Value} {fa : Addr} (X : K.In h) (G : h.Ns mainGlobals mg) (hfa : mg "law" = some (.ref fa)) {C CF CBadBars : Addr} {fIsText : Addr} {fdIsText : FuncData} {fIsWord : Addr} {fdIsWord : FuncData} {fIsAlphabet : Addr} {fdIsAlphabet : FuncData} {fHoldsSome : Addr} {fdHoldsSome : FuncData} {fLeastWords : Addr} {fdLeastWords : FuncData} {fEndsOf : Addr} {fdEndsOf : FuncData} {fOnwardEnds : Addr} {fdOnwardEnds : FuncData} {fCheckedWords : Addr} {fdCheckedWords : FuncData} {fIsSign : Addr} {fdIsSign : FuncData} {fAreUnlike : Addr} {fdAreUnlike : FuncData} {fIsSwap : Addr} {fdIsSwap : FuncData} {fIsExchange : Addr} {fdIsExchange : FuncData} {fExchanged : Addr} {fdExchanged : FuncData} {fLawPen : Addr} {fdLawPen : FuncData} {fLawDraw : Addr} {fdLawDraw : FuncData} {fLawPick : Addr} {fdLawPick : FuncData} {fLawText : Addr} {fdLawText : FuncData} {fLawSigns : Addr} {fdLawSigns : FuncData} {fLawWords : Addr} {fdLawWords : FuncData} {fLawLeast : Addr} {fdLawLeast : FuncData} {fLawMade : Addr} {fdLawMade : FuncData} {fLawHeard : Addr} {fdLawHeard : FuncData} {fLawTable : Addr} {fdLawTable : FuncData} {fLawChanged : Addr} {fdLawChanged : FuncData} {fLawWrongRight : Addr} {fdLawWrongRight : FuncData} {fInit : Addr} {fdInit : FuncData} {fHas : Addr} {fdHas : FuncData} {fEq : Addr} {fdEq : FuncData} {fEndOf : Addr} {fdEndOf : FuncData} {fEnd : Addr} {fdEnd : FuncData} {fChanged : Addr} {fdChanged : FuncData} {fChk : Addr} {fdChk : FuncData} {fOr : Addr} {fdOr : FuncData} {t0 t1 t2 t3 : Tok} {c1 p1 : Addr} {oc1 : Value} {od1 : Option Addr} {vs1 : Array Value} {osl1 : Array (Option Value)}
    {fLaw : Addr} {oc kV dc pm cd ct : Value} {od an : Option Addr} {osl : Array (Option Value)}
    (fr : freeB K = true) (aS : PySem.W.nsIn K mainGlobals "SIGNS" = some (some (.str "0123456789abcdefghijklmnopqrstuvwxyz" t0))) (aMS : PySem.W.nsIn K mainGlobals "MOST_SIGNS" = some (some (.int 8 t1))) (aMW : PySem.W.nsIn K mainGlobals "MOST_WORDS" = some (some (.int 8 t2))) (aME : PySem.W.nsIn K mainGlobals "MOST_ENDS" = some (some (.int 24 t3)))
    (aC : PySem.W.nsIn K mainGlobals "Bars" = some (some (.ref C))) (aF : PySem.W.nsIn K mainGlobals "FlagError" = some (some (.ref CF)))
    (cInit : PySem.W.findIn K (.ref C) "__init__" = some (some (.ref fInit))) (cHas : PySem.W.findIn K (.ref C) "__contains__" = some (some (.ref fHas))) (cEq : PySem.W.findIn K (.ref C) "__eq__" = some (some (.ref fEq))) (cEndOf : PySem.W.findIn K (.ref C) "end_of" = some (some (.ref fEndOf))) (cEnd : PySem.W.findIn K (.ref C) "_end" = some (some (.ref fEnd))) (cChanged : PySem.W.findIn K (.ref C) "changed" = some (some (.ref fChanged))) (cChk : PySem.W.findIn K (.ref C) "_check_other" = some (some (.ref fChk))) (cOr : PySem.W.findIn K (.ref C) "__or__" = some (some (.ref fOr)))
    (cB : barsB K C fInit fHas fEq fEndOf fEnd fChanged fChk fOr = true) (gb : getB K = true) (eB : errB K CF CBadBars = true)
    (ZBadBars : ClF K mg "BadBars" "BadBars.__init__" (inClass (top 5) 0) CBadBars ["part"])
    (HIsText : FnF K mg "is_text" sIsText fIsText fdIsText) (HIsWord : FnF K mg "is_word" sIsWord fIsWord fdIsWord) (HIsAlphabet : FnF K mg "is_alphabet" sIsAlphabet fIsAlphabet fdIsAlphabet) (HHoldsSome : FnF K mg "holds_some" sHoldsSome fHoldsSome fdHoldsSome) (HLeastWords : FnF K mg "least_words" sLeast fLeastWords fdLeastWords) (HEndsOf : FnF K mg "ends_of" sEnds fEndsOf fdEndsOf) (HOnwardEnds : FnF K mg "onward_ends" sOnward fOnwardEnds fdOnwardEnds) (HCheckedWords : FnF K mg "checked_words" sChecked fCheckedWords fdCheckedWords) (HIsSign : FnF K mg "is_sign" sIsSgn fIsSign fdIsSign) (HAreUnlike : FnF K mg "are_unlike" sUnl fAreUnlike fdAreUnlike) (HIsSwap : FnF K mg "is_swap" sSwap fIsSwap fdIsSwap) (HIsExchange : FnF K mg "is_exchange" sExch fIsExchange fdIsExchange) (HExchanged : FnF K mg "exchanged" sExd fExchanged fdExchanged) (HLawPen : FnF K mg "_law_pen" sPen fLawPen fdLawPen) (HLawDraw : FnF K mg "_law_draw" sDraw fLawDraw fdLawDraw) (HLawPick : FnF K mg "_law_pick" sPick fLawPick fdLawPick) (HLawText : FnF K mg "_law_text" sText fLawText fdLawText) (HLawSigns : FnF K mg "_law_signs" sSigns fLawSigns fdLawSigns) (HLawWords : FnF K mg "_law_words" sWords fLawWords fdLawWords) (HLawLeast : FnF K mg "_law_least" sLLeast fLawLeast fdLawLeast) (HLawMade : FnF K mg "_law_made" sMade fLawMade fdLawMade) (HLawHeard : FnF K mg "_law_heard" sHeard fLawHeard fdLawHeard) (HLawTable : FnF K mg "_law_table" sTable fLawTable fdLawTable) (HLawChanged : FnF K mg "_law_changed" sChanged fLawChanged fdLawChanged) (HLawWrongRight : FnF K mg "_law_wrong_right" sWr fLawWrongRight fdLawWrongRight)
    (MInit : Fun K "__init__" "Bars.__init__" (meth 0) fInit fdInit) (MHas : Fun K "__contains__" "Bars.__contains__" (meth 6) fHas fdHas) (MEq : Fun K "__eq__" "Bars.__eq__" (meth 7) fEq fdEq) (MEndOf : Fun K "end_of" "Bars.end_of" (meth 8) fEndOf fdEndOf) (MEnd : Fun K "_end" "Bars._end" (meth 11) fEnd fdEnd) (MChanged : Fun K "changed" "Bars.changed" (meth 12) fChanged fdChanged) (MChk : Fun K "_check_other" "Bars._check_other" (meth 13) fChk fdChk) (MOr : Fun K "__or__" "Bars.__or__" (meth 14) fOr fdOr)
    (x1 : PySem.W.nsIn K mainGlobals "_law_wrong_right" = some (some (.ref fLawWrongRight))) (k1 : fdLawWrongRight.code = .ref c1)
    (q1 : K.lookup c1 = some ⟨oc1, od1, .fields vs1, osl1⟩) (r1 : (vs1[11]? : Option Value) = some (.ref p1)) (n1 : K.lookup p1 = none)
    (aL : PySem.W.nsIn K mainGlobals "law" = some (some (.ref fLaw))) (lL : K.lookup fLaw = some ⟨oc, od, .func (PySem.W.fnOf "law" "law" (defArgs sLaw) (defBody sLaw) (defScope sLaw) .none kV dc pm an cd ct), osl⟩) (bL : (PySem.W.codeIn K cd "law" && PySem.W.keepIn K (.ref fLaw)) = true) :
    ∃ (fd : FuncData) (cs : List (Addr × Addr)), ((["_law_wrong_right"] : List Str).map fun y => PySem.W.tabIn K y) = cs.map some ∧ (∀ p ∈ cs, K.lookup p.2 = none) ∧ (∀ (s : Shared) (u : Value), BindsTo s fd ⟨[u], []⟩ [("_law_script", u)]) ∧
      ∀ base : Heap, K.In base → base.Ns mainGlobals mg → (∀ p ∈ cs, LamX.TabB base mg p.1 p.2) → FnG P w K mg base CX0 11 fa fd ["_law_script"] (spLawC K cs) := by
  have t1 := tab_is x1 HLawWrongRight.F k1 q1 r1
  have HLaw := fnf_mk (st := sLaw) X G aL lL bL
  have e := hfa.symm.trans HLaw.g
  cases e
  have fn := free_of X G fr
  unfold barsB at cB
  simp only [Bool.and_eq_true, beq_iff_eq, List.all_eq_true] at cB
  obtain ⟨⟨⟨⟨⟨⟨⟨⟨⟨⟨⟨⟨⟨⟨⟨⟨⟨⟨⟨⟨⟨⟨⟨⟨⟨⟨⟨⟨⟨⟨bpg, bhd⟩, bpo⟩, bsa⟩, bno⟩, bcA⟩, bcG⟩, bcT⟩, bcM⟩, bcI⟩, bmk1⟩, bmk2⟩, bmk3⟩, bmk4⟩, bhas1⟩, bhas2⟩, beq1⟩, beq2⟩, bendof1⟩, bendof2⟩, bend1⟩, bend2⟩, bchg1⟩, bchg2⟩, bchk1⟩, bchk2⟩, bor1⟩, bor2⟩, bne⟩, bsf⟩, bnf⟩ := cB
  unfold errB at eB
  simp only [Bool.and_eq_true, beq_iff_eq] at eB
  obtain ⟨e0, e1⟩ := eB
  have TF : Free mg := ⟨fn _ (by decide +kernel), fn _ (by decide +kernel), fn _ (by decide +kernel), fn _ (by decide +kernel), fn _ (by decide +kernel), fn _ (by decide +kernel), fn _ (by decide +kernel), fn _ (by decide +kernel), fn _ (by decide +kernel), fn _ (by decide +kernel), fn _ (by decide +kernel)⟩
  have TL : FreeL mg := { toFree := TF, set := fn _ (by decide +kernel), bool := fn _ (by decide +kernel) }
  have gD : mg "dict" = none := fn _ (by decide +kernel)
  have CB : ClsI K mg C := { pg := bpg, hd := bhd, po := bpo, sa := bsa, nSigns := bno _ (by decide +kernel), nWords := bno _ (by decide +kernel), nEnds := bno _ (by decide +kernel), nLong := bno _ (by decide +kernel), nOn := bno _ (by decide +kernel), gB := PySem.W.mg_of X G aC, cA := bcA, cG := bcG, cT := bcT, cM := bcM, cI := bcI }
  have M : Mk K C fInit := ⟨bmk1, bmk2, bmk3, bmk4⟩
  have bIsText := HIsText.F.binds (ps := ["value", "signs"]) fun _ _ _ _ _ _ us hl => match us, hl with | [_, _], _ => rfl
  have bIsWord := HIsWord.F.binds (ps := ["value", "signs", "most"]) fun _ _ _ _ _ _ us hl => match us, hl with | [_, _, _], _ => rfl
  have bIsAlphabet := HIsAlphabet.F.binds (ps := ["value"]) fun _ _ _ _ _ _ us hl => match us, hl with | [_], _ => rfl
  have bHoldsSome := HHoldsSome.F.binds (ps := ["text", "words"]) fun _ _ _ _ _ _ us hl => match us, hl with | [_, _], _ => rfl
  have bLeastWords := HLeastWords.F.binds (ps := ["words"]) fun _ _ _ _ _ _ us hl => match us, hl with | [_], _ => rfl
  have bEndsOf := HEndsOf.F.binds (ps := ["words"]) fun _ _ _ _ _ _ us hl => match us, hl with | [_], _ => rfl
  have bOnwardEnds := HOnwardEnds.F.binds (ps := ["signs", "words", "ends"]) fun _ _ _ _ _ _ us hl => match us, hl with | [_, _, _], _ => rfl
  have bCheckedWords := HCheckedWords.F.binds (ps := ["signs", "words"]) fun _ _ _ _ _ _ us hl => match us, hl with | [_, _], _ => rfl
  have bIsSign := HIsSign.F.binds (ps := ["value", "signs"]) fun _ _ _ _ _ _ us hl => match us, hl with | [_, _], _ => rfl
  have bAreUnlike := HAreUnlike.F.binds (ps := ["words"]) fun _ _ _ _ _ _ us hl => match us, hl with | [_], _ => rfl
  have bIsSwap := HIsSwap.F.binds (ps := ["table", "signs"]) fun _ _ _ _ _ _ us hl => match us, hl with | [_, _], _ => rfl
  have bIsExchange := HIsExchange.F.binds (ps := ["table", "signs"]) fun _ _ _ _ _ _ us hl => match us, hl with | [_, _], _ => rfl
  have bExchanged := HExchanged.F.binds (ps := ["text", "table"]) fun _ _ _ _ _ _ us hl => match us, hl with | [_, _], _ => rfl
  have bLawPen := HLawPen.F.binds (ps := ["_law_script"]) fun _ _ _ _ _ _ us hl => match us, hl with | [_], _ => rfl
  have bLawDraw := HLawDraw.F.binds (ps := ["_law_pen_here", "_law_many"]) fun _ _ _ _ _ _ us hl => match us, hl with | [_, _], _ => rfl
  have bLawPick := HLawPick.F.binds (ps := ["_law_pen_here", "_law_some"]) fun _ _ _ _ _ _ us hl => match us, hl with | [_, _], _ => rfl
  have bLawText := HLawText.F.binds (ps := ["_law_pen_here", "_law_signs_here", "_law_most"]) fun _ _ _ _ _ _ us hl => match us, hl with | [_, _, _], _ => rfl
  have bLawSigns := HLawSigns.F.binds (ps := ["_law_pen_here"]) fun _ _ _ _ _ _ us hl => match us, hl with | [_], _ => rfl
  have bLawWords := HLawWords.F.binds (ps := ["_law_pen_here", "_law_signs_here", "_law_many"]) fun _ _ _ _ _ _ us hl => match us, hl with | [_, _, _], _ => rfl
  have bLawLeast := HLawLeast.F.binds (ps := ["_law_words_here"]) fun _ _ _ _ _ _ us hl => match us, hl with | [_], _ => rfl
  have bLawMade := HLawMade.F.binds (ps := ["_law_signs_here", "_law_words_here"]) fun _ _ _ _ _ _ us hl => match us, hl with | [_, _], _ => rfl
  have bLawHeard := HLawHeard.F.binds (ps := ["_law_ask"]) fun _ _ _ _ _ _ us hl => match us, hl with | [_], _ => rfl
  have bLawTable := HLawTable.F.binds (ps := ["_law_pen_here", "_law_signs_here"]) fun _ _ _ _ _ _ us hl => match us, hl with | [_, _], _ => rfl
  have bLawChanged := HLawChanged.F.binds (ps := ["_law_table_here", "_law_text_here"]) fun _ _ _ _ _ _ us hl => match us, hl with | [_, _], _ => rfl
  have bLawWrongRight := HLawWrongRight.F.binds (ps := ["_law_pen_here", "_law_made_here", "_law_signs_here", "_law_table_here"]) fun _ _ _ _ _ _ us hl => match us, hl with | [_, _, _, _], _ => rfl
  have dHas := MHas.binds (ps := ["self", "text"]) fun _ _ _ _ _ _ us hl => match us, hl with | [_, _], _ => rfl
  have dEq := MEq.binds (ps := ["self", "other"]) fun _ _ _ _ _ _ us hl => match us, hl with | [_, _], _ => rfl
  have dEndOf := MEndOf.binds (ps := ["self", "text"]) fun _ _ _ _ _ _ us hl => match us, hl with | [_, _], _ => rfl
  have dEnd := MEnd.binds (ps := ["self", "text"]) fun _ _ _ _ _ _ us hl => match us, hl with | [_, _], _ => rfl
  have dChanged := MChanged.binds (ps := ["self", "table"]) fun _ _ _ _ _ _ us hl => match us, hl with | [_, _], _ => rfl
  have dChk := MChk.binds (ps := ["self", "other"]) fun _ _ _ _ _ _ us hl => match us, hl with | [_, _], _ => rfl
  have dOr := MOr.binds (ps := ["self", "other"]) fun _ _ _ _ _ _ us hl => match us, hl with | [_, _], _ => rfl
  have TS : TSigns K mg fIsText fIsWord fIsAlphabet fHoldsSome := { toFree := TF, gT := HIsText.g, kT := HIsText.F.kp, gW := HIsWord.g, kW := HIsWord.F.kp, gH := HHoldsSome.g, kH := HHoldsSome.F.kp, gA := HIsAlphabet.g, kA := HIsAlphabet.F.kp, gS := ⟨_, PySem.W.mg_of X G aS⟩ }
  have TB : TBars K mg fIsText fIsWord fIsAlphabet fHoldsSome fLeastWords fEndsOf fCheckedWords := { toTSigns := TS, gL := HLeastWords.g, kL := HLeastWords.F.kp, gE := HEndsOf.g, kE := HEndsOf.F.kp, gC := HCheckedWords.g, kC := HCheckedWords.F.kp, gMS := ⟨_, PySem.W.mg_of X G aMS⟩, gMW := ⟨_, PySem.W.mg_of X G aMW⟩, gME := ⟨_, PySem.W.mg_of X G aME⟩ }
  have TD : Draws K mg fLawDraw fLawPick := { toFree := TF, gDraw := HLawDraw.g, kDraw := HLawDraw.F.kp, gPick := HLawPick.g, kPick := HLawPick.F.kp }
  refine ⟨(PySem.W.fnOf "law" "law" (defArgs sLaw) (defBody sLaw) (defScope sLaw) .none kV dc pm an cd ct), [(c1, p1)], by rw [List.map_cons, t1]; rfl, alln (p := fun q : Addr × Addr => K.lookup q.2 = none) n1, fun s u => .of_eq rfl, fun base _ _ hTB => ?_⟩
  have TB1 := hTB (c1, p1) List.mem_cons_self
  have FI : ∀ {P : Program} {w : World}, FnR P w K mg base CX0 4 fInit (spB C) := fun {P w} => fnr_init MInit CB.toClsB TB HIsText.F bIsText HIsWord.F bIsWord HIsAlphabet.F bIsAlphabet HHoldsSome.F bHoldsSome HLeastWords.F bLeastWords HEndsOf.F bEndsOf HCheckedWords.F bCheckedWords HOnwardEnds.g HOnwardEnds.F.kp HOnwardEnds.F bOnwardEnds
  have ZO : Cl P w K mg base "BadBars" CBadBars ["part"] (spI1 K "part") := clBadBars gb ZBadBars
  have mK : Meth K C "_check_other" fChk := ⟨bchk1, bchk2, MChk.kp⟩
  have mE : Meth K C "_end" fEnd := ⟨bend1, bend2, MEnd.kp⟩
  have mO : Meth K C "end_of" fEndOf := ⟨bendof1, bendof2, MEndOf.kp⟩
  have mC : Meth K C "changed" fChanged := ⟨bchg1, bchg2, MChanged.kp⟩
  have GW : FnOk P w K mg base CX0 2 fIsSwap fdIsSwap ["table", "signs"] (spSwap K) := ok_swap HIsSwap.F TF gD (ok_isSgn HIsSign.F TF) bIsSign HIsSign.g HIsSign.F.kp (ok_unl HAreUnlike.F TF) bAreUnlike HAreUnlike.g HAreUnlike.F.kp
  have GX : FnOk P w K mg base CX0 3 fIsExchange fdIsExchange ["table", "signs"] (spExch K) := ok_exch HIsExchange.F TF GW bIsSwap HIsSwap.g HIsSwap.F.kp
  have S : Asks7 P w K mg base C CF CBadBars fChanged fLawHeard fdChanged fdLawHeard :=
    { T := TL, CB := CB, E := { gF := PySem.W.mg_of X G aF, gO := ZO.gC, xO := ZO.exc, nO := ZO.no _ List.mem_cons_self, tO := e0, iOO := e1 }
      mC := mC, GC := ok_chg MChanged CB M FI GX bIsExchange HIsExchange.g HIsExchange.F.kp (ok_exd HExchanged.F) bExchanged HExchanged.g HExchanged.F.kp, GCX := ok_chgX MChanged CB GX bIsExchange HIsExchange.g HIsExchange.F.kp ZO, bC := dChanged
      FH := HLawHeard.F.ex, bH := bLawHeard, gH := HLawHeard.g, kH := HLawHeard.F.kp }
  have FOr : ∀ {P : Program} {w : World}, FnR P w K mg base CX0 6 fOr (spOr C) := fun {P w} => fnr_of (ok_or MOr TF CB M FI MChk dChk mK) dOr
  have GP : FnOk P w K mg base CX0 2 fLawPick fdLawPick ["_law_pen_here", "_law_some"] spPick := ok_pick HLawPick.F TD HLawDraw.F bLawDraw
  have GHas : FnR P w K mg base CX0 2 fHas (spHas C) := fnr_of (ok_has MHas TF CB HIsText.F bIsText HIsText.g HIsText.F.kp HHoldsSome.F bHoldsSome HHoldsSome.g HHoldsSome.F.kp) dHas
  have U : Uses7 P w K mg base (tabsOf [(c1, p1)]) C CF CBadBars fChanged fLawHeard fInit fEq fHas fEndOf fLawPen fLawSigns fLawWords fLawLeast fLawMade fLawTable fLawText fLawChanged fLawWrongRight fdChanged fdLawHeard fdEndOf fdLawPen fdLawSigns fdLawWords fdLawLeast fdLawMade fdLawTable fdLawText fdLawChanged fdLawWrongRight :=
    { S := S, M := M, FI := FI, nf := bnf, hNe := bne, hEq := beq1, iEq := beq2, GEq := fnr_of (ok_beq MEq TF CB) dEq, hHas := bhas1, iHas := bhas2, GHas := GHas
      mO := mO, GO := ok_endOf MEndOf TF CB MEnd dEnd mE HIsText.F bIsText HIsText.g HIsText.F.kp HHoldsSome.F bHoldsSome HHoldsSome.g HHoldsSome.F.kp, bO := dEndOf
      bCK := fun s' a ws hs hl => by
        obtain ⟨oc2, od2, kV2, doc2, pm2, an2, cdv2, ct2, osl2, rfl, _, _⟩ := MChanged.ex
        exact match ws, hl with | [_], _ => .of_eq rfl
      gDict := gD
      gPen := HLawPen.g, kPen := HLawPen.F.kp, GPen := ok_pen HLawPen.F TF, bPen := bLawPen
      gSigns := HLawSigns.g, kSigns := HLawSigns.F.kp, GSigns := ok_signs HLawSigns.F TD HLawPick.F bLawPick HLawDraw.F bLawDraw, bSigns := bLawSigns
      gWords := HLawWords.g, kWords := HLawWords.F.kp, GWords := ok_words HLawWords.F TD HLawPick.F bLawPick HLawDraw.F bLawDraw HLawText.F bLawText HLawText.g HLawText.F.kp, bWords := bLawWords
      gLeast := HLawLeast.g, kLeast := HLawLeast.F.kp, GLeast := ok_lleast HLawLeast.F TL, bLeast := bLawLeast
      gM := HLawMade.g, kM := HLawMade.F.kp, GM := ok_made HLawMade.F CB M FI bsf bor1 bor2 FOr, bM := bLawMade
      gTa := HLawTable.g, kTa := HLawTable.F.kp, GTa := ok_table HLawTable.F TD HLawDraw.F bLawDraw, bTa := bLawTable
      gText := HLawText.g, kText := HLawText.F.kp, GText := ok_textB (by decide) (by decide) HLawText.F TD HLawPick.F bLawPick HLawDraw.F bLawDraw, bText := bLawText
      gLC := HLawChanged.g, kLC := HLawChanged.F.kp, GLC := ok_lchg HLawChanged.F, bLC := bLawChanged
      gWr := HLawWrongRight.g, kWr := HLawWrongRight.F.kp, GWr := ok_wr HLawWrongRight.F S gD GP bLawPick HLawPick.g HLawPick.F.kp TB1 k1 List.mem_cons_self (alln (p := fun q : Addr × Str => q.1 = p1 → q.2 = ("_law_wrong_right.<locals>.<lambda>" : Str)) (fun _ => rfl)), bWr := bLawWrongRight }
  exact FnG.imp (ok_lawT HLaw.F U) fun vs H Q E ⟨a, ns, e1, e2, e3, e4, e5⟩ => ⟨a, ns, e1, e2, e3, tabs_start e4, e5⟩
end K02

set_option Elab.async false
set_option linter.all false
set_option maxRecDepth 100000
open PySem PySem.W PyProof.Rows
set_option maxRecDepth 100000 in
set_option maxHeartbeats 0 in
theorem PySem.Challenge.cw_flagfree_k07_signs_exchanged_holds : PySem.Challenge.rw_flagfree_k07_signs_exchanged.Holds := by
  w_on; o_law; k_head; (case hw => w_witness2)
  k_fill
  refine KU.end_ofT (l := PySem.Challenge.rw_flagfree_k07_signs_exchanged) (n := 63) (k := 11) (x := "_law_script") (sp := K02.spLawC) ["_law_wrong_right"] rfl (by decide) rfl ⟨rfl, by decide, by decide⟩ (fun w h Y => PySem.W.km_in_of Y) ?xs ?F (fun K cs H a ns hl hT hS => ⟨a, ns, rfl, hS, hl, hT, fun _ => rfl⟩)
  (case xs => kernel_rfl)
  case F =>
    intro w mg fa h KX G hmg
    refine' K02.law_of KX G hmg ?fr ?aS ?aMS ?aMW ?aME ?aC ?aF ?cInit ?cHas ?cEq ?cEndOf ?cEnd ?cChanged ?cChk ?cOr ?cB ?gb ?eB (KU.clf_mk KX G ?eaBadBars ?exBadBars ?eiBadBars ?elBadBars ?ehBadBars ?ebBadBars) (K02.fnf_mk KX G ?aIsText ?lIsText ?bIsText) (K02.fnf_mk KX G ?aIsWord ?lIsWord ?bIsWord) (K02.fnf_mk KX G ?aIsAlphabet ?lIsAlphabet ?bIsAlphabet) (K02.fnf_mk KX G ?aHoldsSome ?lHoldsSome ?bHoldsSome) (K02.fnf_mk KX G ?aLeastWords ?lLeastWords ?bLeastWords) (K02.fnf_mk KX G ?aEndsOf ?lEndsOf ?bEndsOf) (K02.fnf_mk KX G ?aOnwardEnds ?lOnwardEnds ?bOnwardEnds) (K02.fnf_mk KX G ?aCheckedWords ?lCheckedWords ?bCheckedWords) (K02.fnf_mk KX G ?aIsSign ?lIsSign ?bIsSign) (K02.fnf_mk KX G ?aAreUnlike ?lAreUnlike ?bAreUnlike) (K02.fnf_mk KX G ?aIsSwap ?lIsSwap ?bIsSwap) (K02.fnf_mk KX G ?aIsExchange ?lIsExchange ?bIsExchange) (K02.fnf_mk KX G ?aExchanged ?lExchanged ?bExchanged) (K02.fnf_mk KX G ?aLawPen ?lLawPen ?bLawPen) (K02.fnf_mk KX G ?aLawDraw ?lLawDraw ?bLawDraw) (K02.fnf_mk KX G ?aLawPick ?lLawPick ?bLawPick) (K02.fnf_mk KX G ?aLawText ?lLawText ?bLawText) (K02.fnf_mk KX G ?aLawSigns ?lLawSigns ?bLawSigns) (K02.fnf_mk KX G ?aLawWords ?lLawWords ?bLawWords) (K02.fnf_mk KX G ?aLawLeast ?lLawLeast ?bLawLeast) (K02.fnf_mk KX G ?aLawMade ?lLawMade ?bLawMade) (K02.fnf_mk KX G ?aLawHeard ?lLawHeard ?bLawHeard) (K02.fnf_mk KX G ?aLawTable ?lLawTable ?bLawTable) (K02.fnf_mk KX G ?aLawChanged ?lLawChanged ?bLawChanged) (K02.fnf_mk KX G ?aLawWrongRight ?lLawWrongRight ?bLawWrongRight) (K02.met_mk ?mInit ?nInit) (K02.met_mk ?mHas ?nHas) (K02.met_mk ?mEq ?nEq) (K02.met_mk ?mEndOf ?nEndOf) (K02.met_mk ?mEnd ?nEnd) (K02.met_mk ?mChanged ?nChanged) (K02.met_mk ?mChk ?nChk) (K02.met_mk ?mOr ?nOr) ?x1 ?k1 ?q1 ?r1 ?n1 ?aL ?lL ?bL
    (case aS => k_is)
    (case aMS => k_is)
    (case aMW => k_is)
    (case aME => k_is)
    (case aC => k_is)
    (case aF => k_is)
    (case cInit => k_is)
    (case cHas => k_is)
    (case cEq => k_is)
    (case cEndOf => k_is)
    (case cEnd => k_is)
    (case cChanged => k_is)
    (case cChk => k_is)
    (case cOr => k_is)
    (case eaBadBars => k_is)
    (case exBadBars => k_is)
    (case eiBadBars => k_is)
    (case elBadBars => k_is)
    (case ehBadBars => rfl)
    (case aIsText => k_is)
    (case aIsWord => k_is)
    (case aIsAlphabet => k_is)
    (case aHoldsSome => k_is)
    (case aLeastWords => k_is)
    (case aEndsOf => k_is)
    (case aOnwardEnds => k_is)
    (case aCheckedWords => k_is)
    (case aIsSign => k_is)
    (case aAreUnlike => k_is)
    (case aIsSwap => k_is)
    (case aIsExchange => k_is)
    (case aExchanged => k_is)
    (case aLawPen => k_is)
    (case aLawDraw => k_is)
    (case aLawPick => k_is)
    (case aLawText => k_is)
    (case aLawSigns => k_is)
    (case aLawWords => k_is)
    (case aLawLeast => k_is)
    (case aLawMade => k_is)
    (case aLawHeard => k_is)
    (case aLawTable => k_is)
    (case aLawChanged => k_is)
    (case aLawWrongRight => k_is)
    (case lIsText => k_is)
    (case lIsWord => k_is)
    (case lIsAlphabet => k_is)
    (case lHoldsSome => k_is)
    (case lLeastWords => k_is)
    (case lEndsOf => k_is)
    (case lOnwardEnds => k_is)
    (case lCheckedWords => k_is)
    (case lIsSign => k_is)
    (case lAreUnlike => k_is)
    (case lIsSwap => k_is)
    (case lIsExchange => k_is)
    (case lExchanged => k_is)
    (case lLawPen => k_is)
    (case lLawDraw => k_is)
    (case lLawPick => k_is)
    (case lLawText => k_is)
    (case lLawSigns => k_is)
    (case lLawWords => k_is)
    (case lLawLeast => k_is)
    (case lLawMade => k_is)
    (case lLawHeard => k_is)
    (case lLawTable => k_is)
    (case lLawChanged => k_is)
    (case lLawWrongRight => k_is)
    (case mInit => k_is)
    (case mHas => k_is)
    (case mEq => k_is)
    (case mEndOf => k_is)
    (case mEnd => k_is)
    (case mChanged => k_is)
    (case mChk => k_is)
    (case mOr => k_is)
    (case aL => k_is)
    (case lL => k_is)
    (case x1 => k_is)
    (case k1 => rfl)
    (case q1 => k_is)
    (case r1 => rfl)
    (case n1 => kernel_rfl)
    (case ebBadBars => kernel_rfl)
    (case bIsText => kernel_rfl)
    (case bIsWord => kernel_rfl)
    (case bIsAlphabet => kernel_rfl)
    (case bHoldsSome => kernel_rfl)
    (case bLeastWords => kernel_rfl)
    (case bEndsOf => kernel_rfl)
    (case bOnwardEnds => kernel_rfl)
    (case bCheckedWords => kernel_rfl)
    (case bIsSign => kernel_rfl)
    (case bAreUnlike => kernel_rfl)
    (case bIsSwap => kernel_rfl)
    (case bIsExchange => kernel_rfl)
    (case bExchanged => kernel_rfl)
    (case bLawPen => kernel_rfl)
    (case bLawDraw => kernel_rfl)
    (case bLawPick => kernel_rfl)
    (case bLawText => kernel_rfl)
    (case bLawSigns => kernel_rfl)
    (case bLawWords => kernel_rfl)
    (case bLawLeast => kernel_rfl)
    (case bLawMade => kernel_rfl)
    (case bLawHeard => kernel_rfl)
    (case bLawTable => kernel_rfl)
    (case bLawChanged => kernel_rfl)
    (case bLawWrongRight => kernel_rfl)
    (case nInit => kernel_rfl)
    (case nHas => kernel_rfl)
    (case nEq => kernel_rfl)
    (case nEndOf => kernel_rfl)
    (case nEnd => kernel_rfl)
    (case nChanged => kernel_rfl)
    (case nChk => kernel_rfl)
    (case nOr => kernel_rfl)
    (case bL => kernel_rfl)
    (case fr => kernel_rfl)
    (case cB => kernel_rfl)
    (case gb => kernel_rfl)
    (case eB => kernel_rfl)
